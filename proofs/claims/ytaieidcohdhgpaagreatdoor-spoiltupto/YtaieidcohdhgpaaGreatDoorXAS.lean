/- Spoilt. -/
import Derived.Test.YtaieidcohdhgpaaGreatDoorXAN
namespace Go.Proofs.YtaieidcohdhgpaaGreatDoor
set_option maxHeartbeats 40000000
set_option maxRecDepth 100000
open Go.RowKit Go.Shelf
def TT(t:TypeId):Bool:=t==37 || t==9 || t==247 || t==144 || t==4 || t==307 || t==260 || t==141 || t==245
def KU(o:Obj):Prop:=o.isCells=false\/∃cs t fr,o = .cells cs t fr/\TT t=true
def GP(B:Nat)(A A':World):Prop:=∃row,A.grownBy A' row/\∀r,row=some r->B<=r/\∃o,A.heap[r]?=some o/\KU o
theorem GP.mono{B b:Nat}{A a:World}(h:GP B A a)(d:b<=B):GP b A a:=by
 obtain⟨row,f,c⟩:=h;exact⟨row,f,fun r e=>⟨Ag d (c r e).1,(c r e).2⟩⟩
theorem GP.put{B:Nat}{A:World}{r:Nat}{o:Obj}(a:Obj)(b:B<=r)(h:A.heap[r]?=some o)(c:KU o):GP B A (A.putObj r a):=
 ⟨some r,FF A r a,fun k e=>by cases e;exact⟨b,o,h,c⟩⟩
theorem GP.below{B:Nat}{A a:World}(h:Bw A a):GP B A a:=
 ⟨none,⟨h.os,h.tape,h.output,h.size,fun k b _=>h.block k b⟩,fun r e=>by cases e⟩
theorem GP.alloc{B:Nat}(A:World)(o:Obj):GP B A (A.alloc o):=⟨none,Oj A o,fun r e=>by cases e⟩
theorem GP.same{B:Nat}{A b:World}(h:GP B A b){k:Nat}{o:Obj}(a:A.heap[k]?=some o)(i:k<B\/¬KU o):b.heap[k]?=some o:=by
 obtain⟨row,f,j⟩:=h;refine(f.block k (Ak.1 a).1 ?_).trans a;intro e;obtain⟨hB,o',d,g⟩:=j k e.symm;rw[a]at d;cases d;rcases i with c|c
 ·omega
 ·exact c g
theorem TU{a:Array Value}{t:TypeId}{b:Nat×Nat}(h:KU (.cells a t b)):TT t=true:=by
 rcases h with h|⟨aa,t',ab,e,h⟩
 ·simp[Obj.isCells]at h
 ·cases e;exact h
theorem GP.row{B:Nat}{A b:World}(h:GP B A b){k:Nat}{t:TypeId}{L:F6}(c:F0 A k t L)(e:k<B\/TT t=false):F0 b k t L:=by
 refine h.same c ?_;rcases e with a|a
 ·exact .inl a
 ·exact .inr (fun d=>by have:=TU d;rw[a]at this;cases this)
theorem Rg(r:Loop):KU (.loop r) := .inl rfl
def Mu(gf:Nat)(lb:Array Value)(encs:Nat->Array Value)(N:Nat)(Kp:Nat->World->World->Prop)(w0:World):Prop:=
 ∀(l:Nat) (J:Nat->World->Prop) (W:World),Bw w0 W->(∀k A A',J k A->GP W.heap.size A A'->J k A')->
  (∀k W1,k<N->J k W1->YieldAt Fence.wide 1 Tryz.prog l (encs k) W1 fun e W'=>e = .returned (.bool true)/\J (k+1) W'/\Kp W.heap.size W1 W')->
  J 0 W->Calls Tryz.prog gf (#[.func (.yield l) #[] #[]]++lb) W fun e W'=>(∃v,e = .returned v)/\J N W'
def T5(B:Nat)(Kp:World->World->Prop)(I:World->Prop)(W:World):Exit->Act->World->Prop
 | .normal,_,W'=>KeepsFrom B W W'/\Kp W W'/\I W'
 | _,_,_=>False
theorem WG{n:Nat}{g:Operand}{ps:Array Tmp}{assign body:Code}{Q:Exit->Act->World->Prop}{a:Act}{w:World}
  {gf:Nat} {lb:Array Value} (hg:a.eval g = .func (.func gf) #[] lb) (X:∀args w,(callFunc gf args).run Tryz.prog w = .ok (.enter gf args) w)
  {D:Nat->Array Value} {i:Nat->World->World->Prop} {N:Nat} {y:World} (av:Mu gf lb D N i y) (R:Bw y w)
  (G:∀{A B C:World},i (w.heap.size+2) A B->i (w.heap.size+2) B C->i (w.heap.size+2) A C)
  (O:∀(W:World) (o o':Obj),W.heap[w.heap.size+1]?=some o->o.isCells=false->i (w.heap.size+2) W (W.putObj (w.heap.size+1) o'))
  (au:∀k,k<N->(D k).size=ps.size)
  (I:Nat->World->Prop) (q:∀k A A',I k A->GP w.heap.size A A'->I k A') (Y:I 0 w)
  (z:Nat->Act->World->Prop) (Z:∀k d A A',z k d A->A.heap.size<=A'.heap.size->GP w.heap.size A A'->(∀j,w.heap.size+2<=j->A'.heap[j]?=A.heap[j]?)->z k d A')
  (ad:∀(k:Nat) (W:World) (K:Act->World->Prop),k<N->I k W->w.heap.size+2<=W.heap.size->(∀d W',KeepsFrom w.heap.size W W'->i (w.heap.size+2) W W'->I k W'->z k d W'->K d W')->
   assign.wpIn (Fence.wide.inRound (w.heap.size+1)) 1 Tryz.prog (Exit.then K (fun _ _ _=>False)) { tmps:=(ps.zip (D k)).foldl (fun t (p,v)=>t.setIfInBounds p v) a.tmps,defers:=[] } W)
  (ag:∀(k:Nat) (d:Act) (W:World),k<N->w.heap.size+2<=W.heap.size->I k W->z k d W->body.wpIn (Fence.wide.inRound (w.heap.size+1)) 1 Tryz.prog (T5 w.heap.size (i (w.heap.size+2)) (I (k+1)) W) d W)
  (ah:∀(W:World),w.heap.size+2<=W.heap.size->I N W->W.heap[w.heap.size]?=some (.deferred (some []))->Q .normal { a with defers:={ target := .collected w.heap.size,args := #[] }::a.defers } W):
  (Code.rangeFunc g ps assign body).wpIn Fence.wide n Tryz.prog Q a w:=by
 refine wpIn_rangeFunc ?_;intro fn ai;rw[show Fence.wide.round=none from rfl];obtain⟨f,m⟩:∃f:LoopState->Option Code->Loop,f=fun st pe=>{ state:=st,pending:=pe,fn,tmps:=a.tmps,params:=ps,assign,body,defers:=w.heap.size }:=⟨_,rfl⟩
 obtain⟨c,r⟩:∃c,(w.alloc (.deferred (some []))).alloc (.loop (f .ready none))=c:=⟨_,rfl⟩;have V:c.heap.size=w.heap.size+2:=by rw[<-r];simp
 have ac:c.heap[w.heap.size+1]?=some (.loop (f .ready none)):=by
  rw[<-r];have:=Cp (w.alloc (.deferred (some []))) (.loop (f .ready none));rwa [World.size_alloc]at this
 have ab:c.heap[w.heap.size]?=some (.deferred (some [])):=by
  rw[<-r];exact(BO _ _ _ (by simp)).trans (Cp w _)
 have aa:I 0 c:=by rw[<-r];exact q _ _ _ (q _ _ _ Y (GP.alloc _ _)) (GP.alloc _ _)
 have af:Bw y c:=by
  rw[<-r];exact R.trans ((((Al _ w).alloc (Aa _) _).alloc (by simp) _).mono R.size)
 refine⟨w.heap.size+1,[{ target := .collected w.heap.size,args := #[] }],c,{ target := .fn (.func gf) lb,args := #[.func (.yield (w.heap.size+1)) #[] #[]] },c,gf,
  #[.func (.yield (w.heap.size+1)) #[] #[]]++lb,c,?_,?_,?_,?_,fun h=>(by cases h),?_⟩
 ·rw[<-r,m];exact run_enterLoop_outer _ _ _ _ _
 ·simp only[resolve,hg];simp[go_sem]
 ·intro f' ax;trivial
 ·simp[invoke,go_sem,X]
 ·refine Bj.2 ((av (w.heap.size+1)
   (fun k W=>I k W/\W.heap[w.heap.size+1]?=some (.loop (f .ready none))/\W.heap[w.heap.size]?=some (.deferred (some [])))
   c af
   (fun s A B L E=>by
    rw[V]at E;exact⟨q s A B L.1 (E.mono (by omega)),E.same L.2.1 (.inl (by omega)),E.same L.2.2 (.inl (by omega))⟩)
   ?_ ⟨aa,ac,ab⟩).mono ?_)
  ·rintro k W J ⟨H,b,x⟩;rw[V];have ap:w.heap.size+1<W.heap.size:=(Ak.1 b).1;have M:=run_yield (P:=Tryz.prog) (args:=D k) b (by rw[m];exact au k J);rw[m]at M;refine⟨fn,_,assign,body,M,roundIn_of_wpIn ai (ad k W _ J H (by omega) ?_)⟩;clear M;intro d l U an ak ae;replace b:=U.same _ _ (by omega) b rfl;replace x:=U.same _ _ (Aa _) x rfl;have ar:w.heap.size+1<l.heap.size:=(Ak.1 b).1;refine⟨_,run_beginRound b (by rw[m]),?_⟩;have ao:(l.putObj (w.heap.size+1) (.loop { f .ready none with state := .busy })).heap[w.heap.size+1]?=some (.loop { f .ready none with state := .busy }):=World.putObj_heap_same ar;have al:(l.putObj (w.heap.size+1) (.loop { f .ready none with state := .busy })).heap[w.heap.size]?=some (.deferred (some [])):=(Cf (by omega)).trans x;have aw:i (w.heap.size+2) l (l.putObj (w.heap.size+1) (.loop { f .ready none with state := .busy })):=O _ _ _ b rfl;have S:GP w.heap.size l (l.putObj (w.heap.size+1) (.loop { f .ready none with state := .busy })):=GP.put _ (by omega) b (Rg _);refine wpIn_mono (ag k d _ J (by simp;omega) (q _ _ _ ak S) (Z k d _ _ ae (by simp) S (fun j hj=>Cf (by omega)))) ?_;rintro e a3 W3 u
   cases e with
   | normal=>
    obtain⟨T,am,aj⟩:=u;have F:=T.same _ _ (by omega) ao rfl;have aq:=(Ak.1 F).1;have hr:=run_endRound (P:=Tryz.prog) none F;refine⟨_,_,hr,rfl,⟨q _ _ _ aj (GP.put _ (by omega) F (Rg _)),?_,(Cf (by omega)).trans (T.same _ _ (Aa _) al rfl)⟩,G an (G (G aw am) (O _ _ _ F rfl))⟩;rw[World.putObj_heap_same aq,m]
    rfl
   | ret=>exact u.elim
   | exit id=>exact u.elim
   | goto t=>exact u.elim
   | panic ch=>exact u.elim
   | outgrown=>exact u.elim
  ·rintro e W2 ⟨⟨v,rfl⟩,H,b,x⟩;have ap:=(Ak.1 b).1;exact⟨none,_,by have:=run_endLoop (P:=Tryz.prog) b (by rw[m];simp);rw[m]at this;exact this,ah _ (by simp;omega) (q _ _ _ H (GP.put _ (by omega) b (Rg _))) ((Cf (by omega)).trans x)⟩
section
attribute [local go_sem] Oper.semAt_some
def Lb(es:LS)(k:Nat):Array Value:=
 match es[k]? with
 | some x => #[.string x.1,.agg #[.pointer x.2.p,.int .i64 x.2.f]]
 | none => #[]
theorem Pz{es:LS}{k:Nat}{x:By×VS}(h:es[k]?=some x):Lb es k = #[.string x.1,.agg #[.pointer x.2.p,.int .i64 x.2.f]]:=by
 unfold Lb;rw[h]
theorem Zmu(es:LS)(k:Nat)(h:k<es.length):(Lb es k).size=2:=by
 rw[Pz (Ac h)];rfl
theorem Nl(l h t ho g C:Nat)(es:LS)(ab:es.length<=10000)(m:World->World->Prop)(J:Nat->World->Prop)
  (W:World) (G:∀A B,m A B->B.heap[g]?=A.heap[g]?) (E:∀k A A',J k A->GP W.heap.size A A'->J k A')
  (s:∀k W1,k<es.length->J k W1->YieldAt Fence.wide 1 Tryz.prog l (Lb es k) W1 fun e c=>e = .returned (.bool true)/\J (k+1) c/\m W1 c)
  (aa:W.cell? ⟨h,0,none⟩=some (.pointer (some ⟨t,ho,none⟩))) (hc:W.cell? ⟨t,ho,none⟩=some (.slice (some ⟨g,0,none⟩) es.length C)) (I:g<W.heap.size)
  (d:∀j u,(Dq es)[j]?=some u->W.cell? ⟨g,j,none⟩=some u) (D:J 0 W):
  Cl 222 #[.func (.yield l) #[] #[],.pointer (some ⟨h,0,none⟩)] W fun e c=>(∃v,e = .returned v)/\J es.length c:=by
 refine(Bj (n:=2)).1 ?_;refine CD Tryz.func222 rfl AQ ?_ rfl;simp only[Tryz.ntmps222,AR,Aq,AS,Nat.reduceAdd,Nat.reduceSub,AV,AU,A3,AY,AA,AI]
 gi_wp2
 gi_loopw [10] (fun i wr=>∃k:Nat,k<=es.length/\i = .int .i64 k/\J k wr/\Hid (wr.heap[g]?=W.heap[g]?))
  (fun i _=>es.length-(intOf i).toNat)
 case atStart=>exact⟨0,Aw _,rfl,D,rfl⟩
 case round=>
  obtain⟨k,hk,rfl,r,b⟩:=hrel;by_cases w:k<es.length
  ·obtain⟨x,f⟩:∃x,es[k]?=some x:=⟨_,Ac w⟩;have q:=QL es k x f;have q0:=(AC (a:=⟨g,k*3,none⟩) (Da b)).trans (d _ _ q.1);have q1:=(AC (a:=⟨g,k*3+1,none⟩) (Da b)).trans (d _ _ q.2.1);have q2:=(AC (a:=⟨g,k*3+2,none⟩) (Da b)).trans (d _ _ q.2.2);have K:g<wr.heap.size:=by
    have p:=Da b;rw[Es I]at p;exact(Ak.1 p).1
   have z:Hid (∀o,(wr.alloc o).heap[g]?=W.heap[g]?):=fun o=>(BO wr o g K).trans (Da b)
   have y:=s k (wr.alloc (.cells #[.string x.1,.pointer x.2.p,.int .i64 x.2.f] 310)) w (E _ _ _ r (GP.alloc _ _));rw[Pz f]at y;obtain⟨fn,tmps,assign,body,hy,H⟩:=y;have HX:=Db f;clear q f d s
   gi_wp2
   refine H.mono ?_;rintro e W3 ⟨rfl,F,L⟩
   gi_wp2
   go_roundw
   case rel=>exact⟨k+1,by omega,by go_num,F,(G _ _ L).trans (Da z _)⟩
   case measure=>simp[intOf];omega
  ·obtain rfl:k=es.length:=by omega
   gi_wp2
   go_end0
   exact⟨⟨_,rfl⟩,r⟩
theorem Z4(a b ho:Nat)(v:Value)(es:LS)(G:es.length<=10000)(w:World)(s:a<w.heap.size)(D:b<w.heap.size)(f:Nat->World->World->Prop)
  (x:∀g,v.ownBlock=some g->∀n A B,f n A B->B.heap[g]?=A.heap[g]?)
  (r:w.cell? ⟨a,0,none⟩=some (.pointer (some ⟨b,ho,none⟩))) (E:w.cell? ⟨b,ho,none⟩=some v) (y:Sl w 310 3 v es.length (Dq es)):
  Mu 222 #[.pointer (some ⟨a,0,none⟩)] (Lb es) es.length f w:=fun l J W c t C k=>by
 have m:=(c.cell (p:=⟨a,0,none⟩) s).trans r;have o:=(c.cell (p:=⟨b,ho,none⟩) D).trans E;rcases y.2 with⟨rfl,F⟩|⟨g,q,R,rfl,i,_,_,_,z⟩
 ·obtain rfl:es=[]:=Ay F;exact((Bj (n:=2)).1 (T9 (α := Nat) Fence.wide 2 AQ rfl l a b ho (fun _=>J 0) W m o k)).mono fun e W' h=>h
 ·exact Nl l a b ho g q es G (f W.heap.size) J W (x g rfl _) t C m o (Be i.lt c.size) (fun j u d=>by
   rw[c.cell (p:=⟨g,j,none⟩) i.lt,i.cell];rw[<-z,Ao]at d
   split at d
   ·exact d
   ·cases d) k
end
structure It where
 ns:LY
 k:Nat
 f:Nat
abbrev Ga:=Nat->Bool
def Ga.add(S:Ga)(n:Nat):Ga:=fun k=>if k=n then true else S k
abbrev Ek:=By×Option Nat
def Hc(rec:LY->Ga->List It×Ga)(ns:LY)(S:Ga)(x:Ek):List It×Ga:=
 match x.2 with
 | none=>(⟨ns++[x.1],1,0⟩::(rec (ns++[x.1]) S).1,(rec (ns++[x.1]) S).2)
 | some f=>if S f then ([⟨ns++[x.1],3,f⟩],S) else ([⟨ns++[x.1],2,f⟩],S.add f)
def GF(rec:LY->Ga->List It×Ga)(ns:LY):List Ek->Ga->List It×Ga
 | [],S=>([],S)
 | x::l,S=>((Hc rec ns S x).1++(GF rec ns l (Hc rec ns S x).2).1,(GF rec ns l (Hc rec ns S x).2).2)
def DY(ch:LY->List Ek):Nat->LY->Ga->List It×Ga
 | 0,_,S=>([],S)
 | d+1,ns,S=>GF (DY ch d) ns (ch ns) S
theorem Rn(c:LY->Ga->List It×Ga)(ns:LY):∀(a b:List Ek) (S:Ga),GF c ns (a++b) S=((GF c ns a S).1++(GF c ns b (GF c ns a S).2).1,(GF c ns b (GF c ns a S).2).2)
 | [],b,S=>by simp[GF]
 | x::a,b,S=>by simp only[AI,GF,Rn c ns a b,Ar]
theorem ZZ(b:LY->Ga->List It×Ga)(ns:LY)(a:List Ek)(x:Ek)(S:Ga):GF b ns (a++[x]) S=((GF b ns a S).1++(Hc b ns (GF b ns a S).2 x).1,(Hc b ns (GF b ns a S).2 x).2):=by
 rw[Rn];simp[GF]
theorem TQ(a:LY->Ga->List It×Ga)(ns:LY)(l:List Ek)(k:Nat)(x:Ek)(h:l[k]?=some x)(S:Ga):
  GF a ns (l.take (k+1)) S=((GF a ns (l.take k) S).1++(Hc a ns (GF a ns (l.take k) S).2 x).1,(Hc a ns (GF a ns (l.take k) S).2 x).2):=by
 rw[BZ,h,FQ,ZZ]
theorem itL_at(a:LY->Ga->List It×Ga)(ns:LY)(l:List Ek)(k:Nat)(x:Ek)(h:l[k]?=some x)(S:Ga)(j:Nat)(y:It)
  (b:(Hc a ns (GF a ns (l.take k) S).2 x).1[j]?=some y):(GF a ns l S).1[(GF a ns (l.take k) S).1.length+j]?=some y:=by
 obtain⟨ab,hx⟩:=Ae.1 h;have e:l=l.take (k+1)++l.drop (k+1):=(B8 _ _).symm;rw[e,Rn];show((GF a ns ((l.take (k+1)++l.drop (k+1)).take k) S).1.length+j |> fun i=>((GF a ns (l.take (k+1)) S).1++_)[i]?)=some y;rw[<-e];show((GF a ns (l.take (k+1)) S).1++_)[(GF a ns (l.take k) S).1.length+j]?=some y;rw[TQ a ns l k x h S];obtain⟨aa,_⟩:=Ae.1 b;rw[AP (by simp only[Ad];omega),AH (by omega)];rw[show(GF a ns (l.take k) S).1.length+j-(GF a ns (l.take k) S).1.length=j by omega];exact b
def Jl(x:By×VS):Ek:=(x.1,if x.2.p.isSome then none else some x.2.f.toNat)
def Kj(dv:NV)(x:It):Value := .agg #[.string (jn x.ns),.int .u8 x.k,.int .i64 x.f,if x.k=2 then dv x.f else .slice none 0 0]
def IR(dv:NV)(L:List It)(k:Nat):Array Value:=
 match L[k]? with
 | some x => #[Kj dv x]
 | none => #[]
theorem PA{a:NV}{L:List It}{k:Nat}{x:It}(h:L[k]?=some x):IR a L k = #[Kj a x]:=by unfold IR;rw[h]
theorem Zmt(a:NV)(L:List It)(k:Nat)(h:k<L.length):(IR a L k).size=1:=by
 rw[PA (Ac h)];rfl
def ID(n0 n1:Nat)(A B:World):Prop:=Below n0 A B/\∀k o,n1<=k->A.heap[k]?=some o->KU o->B.heap[k]?=some o
theorem ID.trans{a b:Nat}{A B C:World}(h:ID a b A B)(k:ID a b B C):ID a b A C:=⟨h.1.trans k.1,fun i o c ho d=>k.2 i o c (h.2 i o c ho d) d⟩
theorem ID.row{c d:Nat}{A B:World}(h:ID c d A B){k:Nat}{t:TypeId}{L:F6}(b:F0 A k t L)(f:k<c\/d<=k/\TT t=true):F0 B k t L:=by
 rcases f with a|⟨a,e⟩
 ·exact(h.1.block k a).trans b
 ·exact h.2 k _ a b (.inr ⟨_,_,_,rfl,e⟩)
def G7(n0 n1 qb:Nat)(A B:World):Prop:=Below n0 A B/\∀k o,n1<=k->A.heap[k]?=some o->KU o->k≠qb->B.heap[k]?=some o
theorem G7.trans{a b c:Nat}{A B C:World}(h:G7 a b c A B)(k:G7 a b c B C):G7 a b c A C:=⟨h.1.trans k.1,fun i o d ho e f=>k.2 i o d (h.2 i o d ho e f) e f⟩
theorem ID.wk{a b:Nat}{A B:World}(h:ID a b A B)(e:Nat):G7 a b e A B:=⟨h.1,fun k o c ho d _=>h.2 k o c ho d⟩
theorem G7.below{a c d:Nat}{A B:World}(h:Bw A B)(b:a<=A.heap.size):G7 a c d A B:=
 ⟨h.mono b,fun k _o _ ho _ _=>(h.block k (Ak.1 ho).1).trans ho⟩
theorem G7.fr{a d b:Nat}{A B:World}(h:Fr (fun k=>k=b) A B)(hn:a<=b)(hA:a<=A.heap.size):G7 a d b A B:=
 ⟨⟨h.os,h.tape,h.output,h.size,fun k hk=>h.block k (by omega) (by omega)⟩,fun k o _ ho _ c=>(h.block k (Ak.1 ho).1 c).trans ho⟩
theorem G7.row{c d e:Nat}{A B:World}(h:G7 c d e A B){k:Nat}{t:TypeId}{L:F6}(b:F0 A k t L)(i:k<c\/d<=k/\k≠e/\TT t=true):F0 B k t L:=by
 rcases i with a|⟨a,g,f⟩
 ·exact(h.1.block k a).trans b
 ·exact h.2 k _ a b (.inr ⟨_,_,_,rfl,f⟩) g
theorem G7.chg{a g i B:Nat}{A b X:World}(h:G7 a g i X A)(j:GP B A b)(hB:X.heap.size<=B)(n:a<=X.heap.size):G7 a g i X b:=by
 obtain⟨row,d,f⟩:=j;refine⟨h.1.grown d (Ag n h.1.size) (fun k e=>by have:=(f k e).1;omega),fun k o l ho m p=>?_⟩;have aa:=(Ak.1 ho).1;have c:=h.2 k o l ho m p;refine(d.block k (Ak.1 c).1 ?_).trans c;intro e;have:=(f k e.symm).1;omega
open Go.RowKit
def I4(s:By)(k:Nat)(f:Int)(vd:Value):Value := .agg #[.string s,.int .u8 k,.int .i64 f,vd]
def J6(S:Nat->Bool):F6:=(List.range 60).map (fun j => .bool (S j))
theorem RP(S:Nat->Bool):(J6 S).length=60:=by simp[J6]
theorem Uq(S:Nat->Bool)(j:Nat)(h:j<60):(J6 S)[j]?=some (.bool (S j)):=by simp[J6,h]
theorem Zlj(S:Nat->Bool)(j:Nat)(h:j<60):(J6 S).set j (.bool true)=J6 (fun k=>if k=j then true else S k):=by
 apply EN;intro k;by_cases a:k<60
 ·rw[Uq _ k a];by_cases e:j=k
  ·subst e;rw[Bf (by rw[RP];exact h)];simp
  ·rw[As e,Uq _ k a,if_neg (fun b=>e b.symm)]
 ·rw[BS (by rw[Bq,RP];omega),BS (by rw[RP];omega)]
theorem Z0(w:World)(t q:OA)(s:By)(a:Addr)(n:Int):
  Cl 218 #[.pointer t,.string s,.agg #[.pointer (some a),.int .i64 n],.pointer q] w fun e w'=>e = .returned (I4 s 1 0 (.slice none 0 0))/\Bw w w':=by
 obtain⟨d,i,m,x,l,f⟩:=De w [.pointer (some a),.int .i64 n] 260;obtain⟨h,j,b,k,C,g⟩:=De d [.string ⟨#[]⟩,.int .u8 0,.int .i64 0,.slice none 0 0] 141;have r:Bw w h:=f.trans (g.mono (by omega));have c0:=(k _ _ _ m).cell 0;rw[l]at b;have u:w.heap.size<=w.heap.size+1:=by omega
 have o:=Db i;have p:=Db j;clear i j m x l f k C g;go_enter Tryz.func218,Tryz.ntmps218;go_upto_region 1 with fail;rw[show w.alloc (.cells #[.pointer (some a),.int .i64 n] 260)=d from Da o,show d.alloc (.cells #[.string ⟨#[]⟩,.int .u8 0,.int .i64 0,.slice none 0 0] 141)=h from Da p];have b0:=b.cell 0;have f:=b.cell 1;have g:=b.cell 2;have b3:=b.cell 3;have g0:=b.frozen 0;have g1:=b.frozen 1;have g2:=b.frozen 2;have g3:=b.frozen 3;go_wp2;have c:=JX b (.string s) (.int .u8 1) (.int .i64 0) (.slice none 0 0);have y:=c.cell 0;have z:=c.cell 1;have A:=c.cell 2;have B:=c.cell 3;exact Ax (v:=I4 s 1 0 (.slice none 0 0)) (by simp[results,Tryz.results218,go_sem,y,z,A,B,I4]) rfl ⟨rfl,Qj r u _ _ _ _⟩
theorem ZlU(w:World)(t:OA)(s:By)(n:Nat)(B:n<60)(j:Nat)(S:Nat->Bool)(o:F0 w j 245 (J6 S))(y:S n=true):
  Cl 218 #[.pointer t,.string s,.agg #[.pointer none,.int .i64 (n:Nat)],.pointer (some ⟨j,0,none⟩)] w fun e w'=>e = .returned (I4 s 3 (n:Nat) (.slice none 0 0))/\Bw w w':=by
 obtain⟨g,l,k,p,q,h⟩:=De w [.pointer none,.int .i64 (n:Nat)] 260;obtain⟨b,m,r,f,G,i⟩:=De g [.string ⟨#[]⟩,.int .u8 0,.int .i64 0,.slice none 0 0] 141;have c:Bw w b:=h.trans (i.mono (by omega));have c0:=(f _ _ _ k).cell 0;have c1:=(f _ _ _ k).cell 1;have ab:b.cell? ⟨j,n,none⟩=some (.bool true):=((f _ _ _ (p _ _ _ o)).cell n).trans (by rw[Uq _ _ B,y]);rw[q]at r;have A:w.heap.size<=w.heap.size+1:=by omega
 have aa:(n:Int)<60:=by omega
 have u:=Db l;have x:=Db m;clear l m k p q h f G i o;go_enter Tryz.func218,Tryz.ntmps218;go_upto_region 1 with fail;rw[show w.alloc (.cells #[.pointer none,.int .i64 (n:Nat)] 260)=g from Da u,show g.alloc (.cells #[.string ⟨#[]⟩,.int .u8 0,.int .i64 0,.slice none 0 0] 141)=b from Da x];go_upto_region 3 with fail
 go_quiet (fail)
 have a:F0 (b.drewN nq) (w.heap.size+1) 141 _:=r;have b0:=a.cell 0;have h:=a.cell 1;have i:=a.cell 2;have b3:=a.cell 3;have g0:=a.frozen 0;have g1:=a.frozen 1;have g2:=a.frozen 2;have g3:=a.frozen 3;go_wp2;have d:=JX a (.string s) (.int .u8 3) (.int .i64 (n:Nat)) (.slice none 0 0);have C:=d.cell 0;have D:=d.cell 1;have E:=d.cell 2;have F:=d.cell 3;have z:Bw w (b.drewN nq):=⟨c.os,c.tape,c.output,c.size,c.block⟩;exact Ax (v:=I4 s 3 (n:Nat) (.slice none 0 0)) (by simp[results,Tryz.results218,go_sem,C,D,E,F,I4]) rfl ⟨rfl,Qj z A _ _ _ _⟩
def YJ(w:World)(s:By)(n:Nat)(qb:Nat)(S:Nat->Bool)(vd:Value)(e:Ending)(w':World):Prop:=
 e = .returned (I4 s 2 (n:Nat) vd)/\F0 w' qb 245 (J6 (fun k=>if k=n then true else S k))/\Fr (fun k=>k=qb) w w'
theorem ZlV(w:World)(tb Z:Nat)(V:NV)(E:NS)(vi:Value)(G:Gh)(I:LF)(C:IB)(_h:TW w tb Z V E vi G I C)(ax:I.length<=10000)(s:By)(n:Nat)(Q:n<60)(r:VF)(ak:((n:Int),r)∈I)(c:Nat)(S:Nat->Bool)(R:F0 w c 245 (J6 S))(hS:S n=false)(_hqt:c≠tb)(ag:∀w',Fr (fun k=>k=c) w w'->TW w' tb Z V E vi G I C):
  Cl 218 #[.pointer (some ⟨tb,0,none⟩),.string s,.agg #[.pointer none,.int .i64 (n:Nat)],.pointer (some ⟨c,0,none⟩)] w (YJ w s n c S (.slice r.a r.l r.c)):=by
 obtain⟨M,e1,x1,k1,s1,N⟩:=De w [.pointer none,.int .i64 (n:Nat)] 260;obtain⟨f,e2,x2,U,s2,O⟩:=De M [.string ⟨#[]⟩,.int .u8 0,.int .i64 0,.slice none 0 0] 141;have B:Bw w f:=N.trans (O.mono (by omega));have aK:=R.lt;have t:=U _ _ _ x1;have J:=U _ _ _ (k1 _ _ _ R);have c0:=t.cell 0;have c1:=t.cell 1;have aF:f.cell? ⟨c,n,none⟩=some (.bool false):=(J.cell n).trans (by rw[Uq _ _ Q,hS]);have aE:f.frozen? ⟨c,n,none⟩=false:=J.frozen n;rw[s1]at x2;have aI:w.heap.size<=w.heap.size+1:=by omega
 have aJ:(n:Int)<60:=by omega
 have aa:Hid (∀d:World,d.heap=f.heap->d.os=f.os->d.tape=f.tape->d.output=f.output->d.cell? ⟨w.heap.size,1,none⟩=some (.int .i64 (n:Nat))/\d.cell? ⟨c,n,none⟩=some (.bool false)/\d.frozen? ⟨c,n,none⟩=false/\∃a,d.setCell ⟨c,n,none⟩ (.bool true)=a/\F0 a w.heap.size 260 [.pointer none,.int .i64 (n:Nat)]/\F0 a (w.heap.size+1) 141 [.string ⟨#[]⟩,.int .u8 0,.int .i64 0,.slice none 0 0]/\Hid (∀W,Bw a W->Cl 175 #[.pointer (some ⟨tb,1,none⟩),.int .i64 (n:Nat)] W fun e w'=>e = .returned (.tuple #[.agg #[.slice r.a r.l r.c,.int .i64 r.f],.bool true])/\Bw W w')/\Hid (Fr (fun k=>k=c) w a)/\Hid (F0 a c 245 (J6 (fun k=>if k=n then true else S k)))):=fun d x ho ht hu=>by
  have T:F0 d c 245 (J6 S):=by unfold F0;rw[x];exact J
  have am:F0 d w.heap.size 260 [.pointer none,.int .i64 (n:Nat)]:=by unfold F0;rw[x];exact t
  have aH:F0 d (w.heap.size+1) 141 [.string ⟨#[]⟩,.int .u8 0,.int .i64 0,.slice none 0 0]:=by unfold F0;rw[x];exact x2
  have j:Fr (fun k=>k=c) w (d.setCell ⟨c,n,none⟩ (.bool true)):=
   Fr.set (X:=fun k=>k=c) (w':=d) ⟨ho.trans B.os,ht.trans B.tape,hu.trans B.output,by rw[x];exact B.size,fun k D _=>by rw[x];exact B.block k D⟩ ⟨c,n,none⟩ _ rfl
  refine⟨(am.cell 1).trans rfl,(T.cell n).trans (by rw[Uq _ _ Q,hS]),T.frozen n,_,rfl,(AB _ _ _ _ (show w.heap.size≠c by omega)).trans am,(AB _ _ _ _ (show w.heap.size+1≠c by omega)).trans aH,?_,j,?_⟩
  ·exact fun W A=>K3 W tb Z V E vi G I C (ag W ⟨A.os.trans j.os,A.tape.trans j.tape,A.output.trans j.output,Ag j.size A.size,fun k D aA=>(A.block k (Be D j.size)).trans (j.block k D aA)⟩) ax n r ak
  ·show F0 _ _ _ _;rw[<-Zlj S n Q];exact F0.set T n (.bool true)
 have ao:=Db e1;have ap:=Db e2;clear e1 e2 x1 k1 s1 N U s2 O ag ak R J x2 t;go_enter Tryz.func218,Tryz.ntmps218;go_upto_region 1 with fail;rw[show w.alloc (.cells #[.pointer none,.int .i64 (n:Nat)] 260)=M from Da ao,show M.alloc (.cells #[.string ⟨#[]⟩,.int .u8 0,.int .i64 0,.slice none 0 0] 141)=f from Da ap];go_upto_region 3 with fail
 go_quiet (fail)
 obtain⟨Wq,o⟩:∃X,X=f.drewN nq:=⟨_,rfl⟩;rw[<-o];obtain⟨P,dn,df,a,ah,u,z2,ab,aq,ac⟩:=Da aa Wq.drew (by rw[o];rfl) (by rw[o];rfl) (by rw[o];rfl) (by rw[o];rfl);clear o;have ad:=Db ah;have an:=u;clear ah aa aF aE c0 c1;go_upto_region 5 with fail;refine AD (S:=fun X=>X.cell? ⟨w.heap.size,1,none⟩=some (.int .i64 (n:Nat))) (by kernel_rfl) P (fun aw=>?_);refine tk 0 ?_;try simp only[pE];refine tk 1 ?_;try simp only[pE];refine tk 2 ?_;try simp only[pE];refine tk 3 ?_;try simp only[pE];refine tk 4 ?_;try simp only[pE];refine rk 5 (fun K hK=>?_);go_simp;rw[show(Wq.setCell ⟨c,n,none⟩ (.bool true)).drew=a from Da ad];refine hK.out _ _ ((u.cell 1).trans rfl) (fun av=>?_);clear hK K
 (try simp only[pE])
 refine AW (by kernel_rfl) ?_ _;have a0:=u.cell 0;have a1:=u.cell 1;have az:w.heap.size+1<a.heap.size:=z2.lt;have aB:¬a.heap.size=w.heap.size:=by omega
 have aC:¬w.heap.size=a.heap.size:=by omega
 clear u P dn df aw av ad;go_upto_region 6 with fail
 go_region_held3 (fun W=>W.cell? ⟨w.heap.size,1,none⟩=some (.int .i64 (n:Nat))) (go_keep)
  (first|(go_at_call 175;refine(Da ab _ (by first|exact(Al _ a).drew|exact((Al _ a).drew).alloc (Aa _) _|exact((Al _ a).alloc (Aa _) _).drew)).mono ?_;rintro e w' ⟨rfl,H⟩;have q:Bw a w':=(by first|exact((Al _ a).drew).trans (H.mono (by simp))|exact(((Al _ a).alloc (Aa _) _).drew).trans (H.mono (by simp)));have m0:=(q.cell (p:=⟨w.heap.size,1,none⟩) (by show w.heap.size<a.heap.size;omega)).trans a1;(try(have z:F0 w' a.heap.size 217 [.slice none 0 0,.int .i64 0]:=(H.block a.heap.size (by simp)).trans (Jh a [.slice none 0 0,.int .i64 0] 217);have z0:=z.cell 0;have u:=z.cell 1;have aL:=z.frozen 0;have aM:=z.frozen 1))))
 case' refine_2.refine_3.refine_3.refine_3.refine_3.refine_3.refine_1.refine_2.refine_3.refine_3.refine_3.refine_1.refine_2.refine_1.refine_2.refine_3=>
  obtain⟨g,y,l,ay,aG,ai⟩:=De w' [.slice r.a r.l r.c,.int .i64 r.f] 217;rw[y];have i:Bw a g:=q.trans (ai.mono q.size);have ae:a.heap.size<=w'.heap.size:=q.size;obtain⟨L,m⟩:∃b,b=w'.heap.size:=⟨_,rfl⟩;rw[<-m]at l ae ⊢;clear y ay aG ai m
 case' refine_2.refine_3.refine_3.refine_3.refine_3.refine_3.refine_2.refine_1.refine_2.refine_1.refine_2.refine_3.refine_3.refine_3.refine_1.refine_2.refine_3=>
  have l:F0 ((w'.setCell ⟨a.heap.size,0,none⟩ (.slice r.a r.l r.c)).setCell ⟨a.heap.size,1,none⟩ (.int .i64 r.f)) a.heap.size 217 [.slice r.a r.l r.c,.int .i64 r.f]:=by
   have:=(z.set 0 (.slice r.a r.l r.c)).set 1 (.int .i64 r.f)
   simpa using this
  have i:Bw a ((w'.setCell ⟨a.heap.size,0,none⟩ (.slice r.a r.l r.c)).setCell ⟨a.heap.size,1,none⟩ (.int .i64 r.f)):=(q.setCell (p:=⟨a.heap.size,0,none⟩) (Aa _) _).setCell (p:=⟨a.heap.size,1,none⟩) (Aa _) _;obtain⟨g,y⟩:∃g,(w'.setCell ⟨a.heap.size,0,none⟩ (.slice r.a r.l r.c)).setCell ⟨a.heap.size,1,none⟩ (.int .i64 r.f)=g:=⟨_,rfl⟩;rw[y]at l i ⊢;obtain⟨L,m⟩:∃b,b=a.heap.size:=⟨_,rfl⟩;have ae:a.heap.size<=L:=by omega
  rw[<-m]at l;rw[show(Value.pointer (some { block:=a.heap.size,off:=0 }))=Value.pointer (some { block:=L,off:=0 }) by rw[m]];clear y m
 all_goals
  have h:F0 g (w.heap.size+1) 141 [.string ⟨#[]⟩,.int .u8 0,.int .i64 0,.slice none 0 0]:=(i.block _ az).trans z2;have t:F0 g w.heap.size 260 [.pointer none,.int .i64 (n:Nat)]:=(i.block _ an.lt).trans an;have al:F0 g c 245 _:=(i.block _ (Da ac).lt).trans (Da ac);have aj:Fr (fun k=>k=c) w g:=(Da aq).then (Fr.of_below (X:=fun _=>False) i) (fun _ _ e=>e.elim);have au:=Db al;have ar:=Db aj;have b0:=h.cell 0;have N:=h.cell 1;have O:=h.cell 2;have b3:=h.cell 3;have f0:=h.frozen 0;have f1:=h.frozen 1;have f2:=h.frozen 2;have f3:=h.frozen 3;have c0:=l.cell 0;have c1:=l.cell 1;have P:=t.cell 1;clear aB aC H q m0 i ab l al aj;go_wp2;have F:=JX h (.string s) (.int .u8 2) (.int .i64 (n:Nat)) (.slice r.a r.l r.c);have r0:=F.cell 0;have r1:=F.cell 1;have r2:=F.cell 2;have r3:=F.cell 3;have aD:c≠w.heap.size+1:=by omega
  have af:=((((Fr.refl (fun k=>k=w.heap.size+1) g).set ⟨w.heap.size+1,0,none⟩ (.string s) rfl).set ⟨w.heap.size+1,1,none⟩ (.int .u8 2) rfl).set ⟨w.heap.size+1,2,none⟩ (.int .i64 (n:Nat)) rfl).set ⟨w.heap.size+1,3,none⟩ (.slice r.a r.l r.c) rfl;exact Ax (v:=I4 s 2 (n:Nat) (.slice r.a r.l r.c)) (by simp[results,Tryz.results218,go_sem,r0,r1,r2,r3,I4]) rfl ⟨rfl,(F0.fr (Da au) (X:=fun k=>k=w.heap.size+1) af aD),(Da ar).then (Y:=fun k=>k=w.heap.size+1) af (fun k D e=>by omega)⟩
theorem GP.fr{B a:Nat}{A b:World}(h:Fr (fun k=>k=a) A b)(f:B<=a){c:Array Value}{t:TypeId}{d:Nat×Nat}(ho:A.heap[a]?=some (.cells c t d))(j:TT t=true):GP B A b:=
 ⟨some a,⟨h.os,h.tape,h.output,h.size,fun k g i=>h.block k g (fun e=>i (by rw[e]))⟩,fun r e=>by cases e;exact⟨f,_,ho,.inr ⟨_,_,_,rfl,j⟩⟩⟩
theorem OW:∀(ns:LY),IX ns->(jn ns).size<=13*ns.length
 | [],_=>by simp[Td,jl]
 | n::ns,h=>by
  have ih:=OW ns (fun m b=>h m (AF _ b));have h1:n.size<=12:=by
   have:=h n (by simp);unfold DX at this;simp only[Bu,AJ]at this;exact this.1.2
  rw[Td]at ih ⊢;rw[KZ];have a:n.data.toList.length=n.size:=AG;simp only[Ad,Aq,a];omega
theorem XU(ns:LY)(n:By):jn (ns++[n])=jn ns++⟨#[47]⟩++n:=Uk (by
 rw[Qw,ZlS,Pn,Fl,Ez,Fl,Ez,Qw];simp)
theorem Z1(a:NV)(ns:LY):Kj a ⟨ns,1,0⟩ = .agg #[.string (jn ns),.int .u8 1,.int .i64 0,.slice none 0 0]:=rfl
theorem Vq(a:NV)(ns:LY)(f:Nat):Kj a ⟨ns,2,f⟩ = .agg #[.string (jn ns),.int .u8 2,.int .i64 (f:Nat),a f]:=rfl
theorem Vr(a:NV)(ns:LY)(f:Nat):Kj a ⟨ns,3,f⟩ = .agg #[.string (jn ns),.int .u8 3,.int .i64 (f:Nat),.slice none 0 0]:=rfl
theorem XR(s:By)(v:Value):I4 s 1 0 v = .agg #[.string s,.int .u8 1,.int .i64 0,v]:=rfl
theorem XS(s:By)(f:Nat)(v:Value):I4 s 2 (f:Nat) v = .agg #[.string s,.int .u8 2,.int .i64 (f:Nat),v]:=rfl
theorem XT(s:By)(f:Nat)(v:Value):I4 s 3 (f:Nat) v = .agg #[.string s,.int .u8 3,.int .i64 (f:Nat),v]:=rfl
structure Lz(w0:World)(tb rd:Nat)(V:NV)(E:NS)(vi:Value)(G:Gh)(I:LF)(C:IB)(ch:LY->List Ek)(dv:NV):Prop where
 tw:TW w0 tb rd V E vi G I C
 ok:Gt G
 gl:G.length<=10000
 il:I.length<=10000
 ch:∀ns b,F4 G rd ns b->ch ns=(E b).map Jl
 num:∀x∈G,x.2.p=none->∃(n:Nat) (r:VF),x.2.f=n/\n<60/\((n:Int),r)∈I/\dv n = .slice r.a r.l r.c
structure Iv(w0:World)(qb:Nat)(J:Nat->World->Prop)(K:Nat)(S:Ga)(X:World):Prop where
 j:J K X
 t:Bw w0 X
 s:F0 X qb 245 (J6 S)
theorem Iv.chg{c:World}{b:Nat}{J:Nat->World->Prop}{K:Nat}{S:Ga}{X d:World}(h:Iv c b J K S X){f B:Nat}(j:∀k A A',J k A->GP f A A'->J k A')(a:GP B X d)(i:f<=B)(m:b<B)(g:c.heap.size<=B):Iv c b J K S d:=
 ⟨j _ _ _ h.j (a.mono i),by
  obtain⟨row,l,n⟩:=a;exact h.t.grown l h.t.size (fun k e=>Ag g (n k e).1),a.row h.s (.inl m)⟩
def P5(w0:World)(n1 qb:Nat)(J:Nat->World->Prop)(K:Nat)(S:Ga)(w:World)(e:Ending)(w':World):Prop:=
 e = .returned (.bool true)/\Iv w0 qb J K S w'/\G7 w0.heap.size n1 qb w w'
theorem G7.keeps{d a b B:Nat}{A C:World}(h:G7 d a b A C)(hB:a<=B)(hq:b<B):KeepsFrom B A C:=
 ⟨h.1.size,fun k o hk ho c=>h.2 k o (by omega) ho (.inl c) (by omega)⟩
end Go.Proofs.YtaieidcohdhgpaaGreatDoor
