/- Dumps. -/
import Derived.Test.YtaieidcohdhgpaaGreatDoorZAP
namespace Go.Proofs.YtaieidcohdhgpaaGreatDoor
set_option maxHeartbeats 40000000
set_option maxRecDepth 100000
open Go.RowKit Go.Shelf
def TT(t:TypeId):Bool:=t==37 || t==9 || t==247 || t==144 || t==4 || t==307 || t==260 || t==141 || t==245
def K8(o:Obj):Prop:=o.isCells=false\/∃cs t fr,o = .cells cs t fr/\TT t=true
def Gc(B:Nat)(A A':World):Prop:=∃row,A.grownBy A' row/\∀r,row=some r->B<=r/\∃o,A.heap[r]?=some o/\K8 o
theorem Gc.mono{B b:Nat}{A a:World}(h:Gc B A a)(d:b<=B):Gc b A a:=by
 obtain⟨row,f,c⟩:=h;exact⟨row,f,fun r e=>⟨Ae d (c r e).1,(c r e).2⟩⟩
theorem Gc.put{B:Nat}{A:World}{r:Nat}{o:Obj}(a:Obj)(b:B<=r)(h:A.heap[r]?=some o)(c:K8 o):Gc B A (A.putObj r a):=
 ⟨some r,Fl A r a,fun k e=>by cases e;exact⟨b,o,h,c⟩⟩
theorem Gc.below{B:Nat}{A a:World}(h:Bw A a):Gc B A a:=
 ⟨none,⟨h.os,h.tape,h.output,h.size,fun k b _=>h.block k b⟩,fun r e=>by cases e⟩
theorem Gc.alloc{B:Nat}(A:World)(o:Obj):Gc B A (A.alloc o):=⟨none,Nk A o,fun r e=>by cases e⟩
theorem Gc.same{B:Nat}{A b:World}(h:Gc B A b){k:Nat}{o:Obj}(a:A.heap[k]?=some o)(i:k<B\/¬K8 o):b.heap[k]?=some o:=by
 obtain⟨row,f,j⟩:=h;refine(f.block k (Ah.1 a).1 ?_).trans a;intro e;obtain⟨hB,o',d,g⟩:=j k e.symm;rw[a]at d;cases d;rcases i with c|c
 ·omega
 ·exact c g
theorem MW{a:Array Value}{t:TypeId}{b:Nat×Nat}(h:K8 (.cells a t b)):TT t=true:=by
 rcases h with h|⟨aa,t',ab,e,h⟩
 ·simp[Obj.isCells]at h
 ·cases e;exact h
theorem Gc.row{B:Nat}{A b:World}(h:Gc B A b){k:Nat}{t:TypeId}{L:LV}(c:FH A k t L)(e:k<B\/TT t=false):FH b k t L:=by
 refine h.same c ?_;rcases e with a|a
 ·exact .inl a
 ·exact .inr (fun d=>by have:=MW d;rw[a]at this;cases this)
theorem Pi(r:Loop):K8 (.loop r) := .inl rfl
def LG(gf:Nat)(lb:Array Value)(encs:Nat->Array Value)(N:Nat)(Kp:Nat->World->World->Prop)(w0:World):Prop:=
 ∀(l:Nat) (J:Nat->World->Prop) (W:World),Bw w0 W->(∀k A A',J k A->Gc W.heap.size A A'->J k A')->
  (∀k W1,k<N->J k W1->YieldAt Fence.wide 1 Tryz.prog l (encs k) W1 fun e W'=>e = .returned (.bool true)/\J (k+1) W'/\Kp W.heap.size W1 W')->
  J 0 W->Calls Tryz.prog gf (#[.func (.yield l) #[] #[]]++lb) W fun e W'=>(∃v,e = .returned v)/\J N W'
def Tc(B:Nat)(Kp:World->World->Prop)(I:World->Prop)(W:World):Exit->Act->World->Prop
 | .normal,_,W'=>KeepsFrom B W W'/\Kp W W'/\I W'
 | _,_,_=>False
theorem PO{n:Nat}{g:Operand}{ps:Array Tmp}{assign body:Code}{Q:Exit->Act->World->Prop}{a:Act}{w:World}
  {gf:Nat} {lb:Array Value} (hg:a.eval g = .func (.func gf) #[] lb) (X:∀args w,(callFunc gf args).run Tryz.prog w = .ok (.enter gf args) w)
  {D:Nat->Array Value} {i:Nat->World->World->Prop} {N:Nat} {y:World} (av:LG gf lb D N i y) (R:Bw y w)
  (G:∀{A B C:World},i (w.heap.size+2) A B->i (w.heap.size+2) B C->i (w.heap.size+2) A C)
  (O:∀(W:World) (o o':Obj),W.heap[w.heap.size+1]?=some o->o.isCells=false->i (w.heap.size+2) W (W.putObj (w.heap.size+1) o'))
  (au:∀k,k<N->(D k).size=ps.size)
  (I:Nat->World->Prop) (q:∀k A A',I k A->Gc w.heap.size A A'->I k A') (Y:I 0 w)
  (z:Nat->Act->World->Prop) (Z:∀k d A A',z k d A->A.heap.size<=A'.heap.size->Gc w.heap.size A A'->(∀j,w.heap.size+2<=j->A'.heap[j]?=A.heap[j]?)->z k d A')
  (ad:∀(k:Nat) (W:World) (K:Act->World->Prop),k<N->I k W->w.heap.size+2<=W.heap.size->(∀d W',KeepsFrom w.heap.size W W'->i (w.heap.size+2) W W'->I k W'->z k d W'->K d W')->
   assign.wpIn (Fence.wide.inRound (w.heap.size+1)) 1 Tryz.prog (Exit.then K (fun _ _ _=>False)) { tmps:=(ps.zip (D k)).foldl (fun t (p,v)=>t.setIfInBounds p v) a.tmps,defers:=[] } W)
  (ag:∀(k:Nat) (d:Act) (W:World),k<N->w.heap.size+2<=W.heap.size->I k W->z k d W->body.wpIn (Fence.wide.inRound (w.heap.size+1)) 1 Tryz.prog (Tc w.heap.size (i (w.heap.size+2)) (I (k+1)) W) d W)
  (ah:∀(W:World),w.heap.size+2<=W.heap.size->I N W->W.heap[w.heap.size]?=some (.deferred (some []))->Q .normal { a with defers:={ target := .collected w.heap.size,args := #[] }::a.defers } W):
  (Code.rangeFunc g ps assign body).wpIn Fence.wide n Tryz.prog Q a w:=by
 refine wpIn_rangeFunc ?_;intro fn ai;rw[show Fence.wide.round=none from rfl];obtain⟨f,m⟩:∃f:LoopState->Option Code->Loop,f=fun st pe=>{ state:=st,pending:=pe,fn,tmps:=a.tmps,params:=ps,assign,body,defers:=w.heap.size }:=⟨_,rfl⟩
 obtain⟨c,r⟩:∃c,(w.alloc (.deferred (some []))).alloc (.loop (f .ready none))=c:=⟨_,rfl⟩;have V:c.heap.size=w.heap.size+2:=by rw[<-r];simp
 have ac:c.heap[w.heap.size+1]?=some (.loop (f .ready none)):=by
  rw[<-r];have:=B2 (w.alloc (.deferred (some []))) (.loop (f .ready none));rwa [World.size_alloc]at this
 have ab:c.heap[w.heap.size]?=some (.deferred (some [])):=by
  rw[<-r];exact(BE _ _ _ (by simp)).trans (B2 w _)
 have aa:I 0 c:=by rw[<-r];exact q _ _ _ (q _ _ _ Y (Gc.alloc _ _)) (Gc.alloc _ _)
 have af:Bw y c:=by
  rw[<-r];exact R.trans ((((Ag _ w).alloc (Aa _) _).alloc (by simp) _).mono R.size)
 refine⟨w.heap.size+1,[{ target := .collected w.heap.size,args := #[] }],c,{ target := .fn (.func gf) lb,args := #[.func (.yield (w.heap.size+1)) #[] #[]] },c,gf,
  #[.func (.yield (w.heap.size+1)) #[] #[]]++lb,c,?_,?_,?_,?_,fun h=>(by cases h),?_⟩
 ·rw[<-r,m];exact run_enterLoop_outer _ _ _ _ _
 ·simp only[resolve,hg];simp[go_sem]
 ·intro f' ax;trivial
 ·simp[invoke,go_sem,X]
 ·refine A0.2 ((av (w.heap.size+1)
   (fun k W=>I k W/\W.heap[w.heap.size+1]?=some (.loop (f .ready none))/\W.heap[w.heap.size]?=some (.deferred (some [])))
   c af
   (fun s A B L E=>by
    rw[V]at E;exact⟨q s A B L.1 (E.mono (by omega)),E.same L.2.1 (.inl (by omega)),E.same L.2.2 (.inl (by omega))⟩)
   ?_ ⟨aa,ac,ab⟩).mono ?_)
  ·rintro k W J ⟨H,b,x⟩;rw[V];have ap:w.heap.size+1<W.heap.size:=(Ah.1 b).1;have M:=run_yield (P:=Tryz.prog) (args:=D k) b (by rw[m];exact au k J);rw[m]at M;refine⟨fn,_,assign,body,M,roundIn_of_wpIn ai (ad k W _ J H (by omega) ?_)⟩;clear M;intro d l U an ak ae;replace b:=U.same _ _ (by omega) b rfl;replace x:=U.same _ _ (Aa _) x rfl;have ar:w.heap.size+1<l.heap.size:=(Ah.1 b).1;refine⟨_,run_beginRound b (by rw[m]),?_⟩;have ao:(l.putObj (w.heap.size+1) (.loop { f .ready none with state := .busy })).heap[w.heap.size+1]?=some (.loop { f .ready none with state := .busy }):=World.putObj_heap_same ar;have al:(l.putObj (w.heap.size+1) (.loop { f .ready none with state := .busy })).heap[w.heap.size]?=some (.deferred (some [])):=(Bl (by omega)).trans x;have aw:i (w.heap.size+2) l (l.putObj (w.heap.size+1) (.loop { f .ready none with state := .busy })):=O _ _ _ b rfl;have S:Gc w.heap.size l (l.putObj (w.heap.size+1) (.loop { f .ready none with state := .busy })):=Gc.put _ (by omega) b (Pi _);refine wpIn_mono (ag k d _ J (by simp;omega) (q _ _ _ ak S) (Z k d _ _ ae (by simp) S (fun j hj=>Bl (by omega)))) ?_;rintro e a3 W3 u
   cases e with
   | normal=>
    obtain⟨T,am,aj⟩:=u;have F:=T.same _ _ (by omega) ao rfl;have aq:=(Ah.1 F).1;have hr:=run_endRound (P:=Tryz.prog) none F;refine⟨_,_,hr,rfl,⟨q _ _ _ aj (Gc.put _ (by omega) F (Pi _)),?_,(Bl (by omega)).trans (T.same _ _ (Aa _) al rfl)⟩,G an (G (G aw am) (O _ _ _ F rfl))⟩;rw[World.putObj_heap_same aq,m]
    rfl
   | ret=>exact u.elim
   | exit id=>exact u.elim
   | goto t=>exact u.elim
   | panic ch=>exact u.elim
   | outgrown=>exact u.elim
  ·rintro e W2 ⟨⟨v,rfl⟩,H,b,x⟩;have ap:=(Ah.1 b).1;exact⟨none,_,by have:=run_endLoop (P:=Tryz.prog) b (by rw[m];simp);rw[m]at this;exact this,ah _ (by simp;omega) (q _ _ _ H (Gc.put _ (by omega) b (Pi _))) ((Bl (by omega)).trans x)⟩
section
attribute [local go_sem] Oper.semAt_some
def IA(es:LS)(k:Nat):Array Value:=
 match es[k]? with
 | some x => #[.string x.1,.agg #[.pointer x.2.p,.int .i64 x.2.f]]
 | none => #[]
theorem OE{a:LS}{k:Nat}{x:By×VS}(h:a[k]?=some x):IA a k = #[.string x.1,.agg #[.pointer x.2.p,.int .i64 x.2.f]]:=by
 unfold IA;rw[h]
theorem Zy(a:LS)(k:Nat)(h:k<a.length):(IA a k).size=2:=by
 rw[OE (Ac h)];rfl
theorem MG(l m w ho g D:Nat)(b:LS)(ab:b.length<=10000)(p:World->World->Prop)(J:Nat->World->Prop)
  (W:World) (H:∀A B,p A B->B.heap[g]?=A.heap[g]?) (F:∀k A A',J k A->Gc W.heap.size A A'->J k A')
  (t:∀k W1,k<b.length->J k W1->YieldAt Fence.wide 1 Tryz.prog l (IA b k) W1 fun e d=>e = .returned (.bool true)/\J (k+1) d/\p W1 d)
  (aa:W.cell? ⟨m,0,none⟩=some (.pointer (some ⟨w,ho,none⟩))) (hc:W.cell? ⟨w,ho,none⟩=some (.slice (some ⟨g,0,none⟩) b.length D)) (K:g<W.heap.size)
  (f:∀j u,(Di b)[j]?=some u->W.cell? ⟨g,j,none⟩=some u) (E:J 0 W):
  Cl 222 #[.func (.yield l) #[] #[],.pointer (some ⟨m,0,none⟩)] W fun e d=>(∃v,e = .returned v)/\J b.length d:=by
 refine(A0 (n:=2)).1 ?_;refine Cv Tryz.func222 rfl trivial ?_ rfl;simp only[Tryz.ntmps222,AQ,Af,Ay,Nat.reduceAdd,Nat.reduceSub,AP,AO,AV,AR,AJ,AL]
 gi_wp2
 gi_loopw [10] (fun i wr=>∃k:Nat,k<=b.length/\i = .int .i64 k/\J k wr/\Hid (wr.heap[g]?=W.heap[g]?))
  (fun i _=>b.length-(intOf i).toNat)
 case atStart=>exact⟨0,Aw _,rfl,E,rfl⟩
 case round=>
  obtain⟨k,hk,rfl,s,c⟩:=hrel;by_cases y:k<b.length
  ·obtain⟨x,h⟩:∃x,b[k]?=some x:=⟨_,Ac y⟩;have q:=QP b k x h;have q0:=(Ax (a:=⟨g,k*3,none⟩) (Da c)).trans (f _ _ q.1);have q1:=(Ax (a:=⟨g,k*3+1,none⟩) (Da c)).trans (f _ _ q.2.1);have q2:=(Ax (a:=⟨g,k*3+2,none⟩) (Da c)).trans (f _ _ q.2.2);have L:g<wr.heap.size:=by
    have r:=Da c;rw[Array.getElem?_eq_getElem K]at r;exact(Ah.1 r).1
   have C:Hid (∀o,(wr.alloc o).heap[g]?=W.heap[g]?):=fun o=>(BE wr o g L).trans (Da c)
   have z:=t k (wr.alloc (.cells #[.string x.1,.pointer x.2.p,.int .i64 x.2.f] 310)) y (F _ _ _ s (Gc.alloc _ _));rw[OE h]at z;obtain⟨fn,tmps,assign,body,hy,I⟩:=z;have HX:=Db h;clear q h f t
   gi_wp2
   refine I.mono ?_;rintro e W3 ⟨rfl,G,M⟩
   gi_wp2
   go_roundw
   case rel=>exact⟨k+1,by omega,by go_num,G,(H _ _ M).trans (Da C _)⟩
   case measure=>simp[intOf];omega
  ·obtain rfl:k=b.length:=by omega
   gi_wp2
   go_end0
   exact⟨⟨_,rfl⟩,s⟩
theorem Yh(b c ho:Nat)(v:Value)(a:LS)(H:a.length<=10000)(w:World)(t:b<w.heap.size)(E:c<w.heap.size)(i:Nat->World->World->Prop)
  (y:∀g,v.ownBlock=some g->∀n A B,i n A B->B.heap[g]?=A.heap[g]?)
  (s:w.cell? ⟨b,0,none⟩=some (.pointer (some ⟨c,ho,none⟩))) (F:w.cell? ⟨c,ho,none⟩=some v) (z:Sl w 310 3 v a.length (Di a)):
  LG 222 #[.pointer (some ⟨b,0,none⟩)] (IA a) a.length i w:=fun l J W d x D m=>by
 have o:=(d.cell (p:=⟨b,0,none⟩) t).trans s;have q:=(d.cell (p:=⟨c,ho,none⟩) E).trans F;rcases z.2 with⟨rfl,G⟩|⟨g,r,R,rfl,k,_,_,_,C⟩
 ·obtain rfl:a=[]:=Ak G;exact((A0 (n:=2)).1 (Ti (α := Nat) Fence.wide 2 trivial rfl l b c ho (fun _=>J 0) W o q m)).mono fun e W' h=>h
 ·exact MG l b c ho g r a H (i W.heap.size) J W (y g rfl _) x D o q (Ao k.lt d.size) (fun j u f=>by
   rw[d.cell (p:=⟨g,j,none⟩) k.lt,k.cell];rw[<-C,Ap]at f
   split at f
   ·exact f
   ·cases f) m
end
structure It where
 ns:LY
 k:Nat
 f:Nat
abbrev FJ:=Nat->Bool
def FJ.add(S:FJ)(n:Nat):FJ:=fun k=>if k=n then true else S k
abbrev Ek:=By×Option Nat
def Gd(rec:LY->FJ->List It×FJ)(ns:LY)(S:FJ)(x:Ek):List It×FJ:=
 match x.2 with
 | none=>(⟨ns++[x.1],1,0⟩::(rec (ns++[x.1]) S).1,(rec (ns++[x.1]) S).2)
 | some f=>if S f then ([⟨ns++[x.1],3,f⟩],S) else ([⟨ns++[x.1],2,f⟩],S.add f)
def FU(rec:LY->FJ->List It×FJ)(ns:LY):List Ek->FJ->List It×FJ
 | [],S=>([],S)
 | x::l,S=>((Gd rec ns S x).1++(FU rec ns l (Gd rec ns S x).2).1,(FU rec ns l (Gd rec ns S x).2).2)
def Dk(ch:LY->List Ek):Nat->LY->FJ->List It×FJ
 | 0,_,S=>([],S)
 | d+1,ns,S=>FU (Dk ch d) ns (ch ns) S
theorem Py(c:LY->FJ->List It×FJ)(ns:LY):∀(a b:List Ek) (S:FJ),FU c ns (a++b) S=((FU c ns a S).1++(FU c ns b (FU c ns a S).2).1,(FU c ns b (FU c ns a S).2).2)
 | [],b,S=>by simp[FU]
 | x::a,b,S=>by simp only[AL,FU,Py c ns a b,AC]
theorem Yb(b:LY->FJ->List It×FJ)(ns:LY)(a:List Ek)(x:Ek)(S:FJ):FU b ns (a++[x]) S=((FU b ns a S).1++(Gd b ns (FU b ns a S).2 x).1,(Gd b ns (FU b ns a S).2 x).2):=by
 rw[Py];simp[FU]
theorem O6(a:LY->FJ->List It×FJ)(ns:LY)(l:List Ek)(k:Nat)(x:Ek)(h:l[k]?=some x)(S:FJ):
  FU a ns (l.take (k+1)) S=((FU a ns (l.take k) S).1++(Gd a ns (FU a ns (l.take k) S).2 x).1,(Gd a ns (FU a ns (l.take k) S).2 x).2):=by
 rw[Bg,h,Cj,Yb]
theorem itL_at(a:LY->FJ->List It×FJ)(ns:LY)(l:List Ek)(k:Nat)(x:Ek)(h:l[k]?=some x)(S:FJ)(j:Nat)(y:It)
  (b:(Gd a ns (FU a ns (l.take k) S).2 x).1[j]?=some y):(FU a ns l S).1[(FU a ns (l.take k) S).1.length+j]?=some y:=by
 obtain⟨ab,hx⟩:=Ad.1 h;have e:l=l.take (k+1)++l.drop (k+1):=(BT _ _).symm;rw[e,Py];show((FU a ns ((l.take (k+1)++l.drop (k+1)).take k) S).1.length+j |> fun i=>((FU a ns (l.take (k+1)) S).1++_)[i]?)=some y;rw[<-e];show((FU a ns (l.take (k+1)) S).1++_)[(FU a ns (l.take k) S).1.length+j]?=some y;rw[O6 a ns l k x h S];obtain⟨aa,_⟩:=Ad.1 b;rw[AU (by simp only[Ab];omega),AD (by omega)];rw[show(FU a ns (l.take k) S).1.length+j-(FU a ns (l.take k) S).1.length=j by omega];exact b
def JC(x:By×VS):Ek:=(x.1,if x.2.p.isSome then none else some x.2.f.toNat)
def J9(dv:NV)(x:It):Value := .agg #[.string (jn x.ns),.int .u8 x.k,.int .i64 x.f,if x.k=2 then dv x.f else .slice none 0 0]
def Im(dv:NV)(L:List It)(k:Nat):Array Value:=
 match L[k]? with
 | some x => #[J9 dv x]
 | none => #[]
theorem U8{a:NV}{L:List It}{k:Nat}{x:It}(h:L[k]?=some x):Im a L k = #[J9 a x]:=by unfold Im;rw[h]
theorem T3(a:NV)(L:List It)(k:Nat)(h:k<L.length):(Im a L k).size=1:=by
 rw[U8 (Ac h)];rfl
def G9(n0 n1:Nat)(A B:World):Prop:=Below n0 A B/\∀k o,n1<=k->A.heap[k]?=some o->K8 o->B.heap[k]?=some o
theorem G9.trans{a n1:Nat}{A B C:World}(h:G9 a n1 A B)(k:G9 a n1 B C):G9 a n1 A C:=⟨h.1.trans k.1,fun i o b ho c=>k.2 i o b (h.2 i o b ho c) c⟩
theorem G9.row{c n1:Nat}{A B:World}(h:G9 c n1 A B){k:Nat}{t:TypeId}{L:LV}(b:FH A k t L)(e:k<c\/n1<=k/\TT t=true):FH B k t L:=by
 rcases e with a|⟨a,d⟩
 ·exact(h.1.block k a).trans b
 ·exact h.2 k _ a b (.inr ⟨_,_,_,rfl,d⟩)
def Gt(n0 n1 qb:Nat)(A B:World):Prop:=Below n0 A B/\∀k o,n1<=k->A.heap[k]?=some o->K8 o->k≠qb->B.heap[k]?=some o
theorem Gt.trans{a n1 b:Nat}{A B C:World}(h:Gt a n1 b A B)(k:Gt a n1 b B C):Gt a n1 b A C:=⟨h.1.trans k.1,fun i o c ho d e=>k.2 i o c (h.2 i o c ho d e) d e⟩
theorem G9.wk{a n1:Nat}{A B:World}(h:G9 a n1 A B)(d:Nat):Gt a n1 d A B:=⟨h.1,fun k o b ho c _=>h.2 k o b ho c⟩
theorem Gt.below{a n1 c:Nat}{A B:World}(h:Bw A B)(b:a<=A.heap.size):Gt a n1 c A B:=
 ⟨h.mono b,fun k _o _ ho _ _=>(h.block k (Ah.1 ho).1).trans ho⟩
theorem Gt.fr{a n1 b:Nat}{A B:World}(h:Fr (fun k=>k=b) A B)(hn:a<=b)(hA:a<=A.heap.size):Gt a n1 b A B:=
 ⟨⟨h.os,h.tape,h.output,h.size,fun k hk=>h.block k (by omega) (by omega)⟩,fun k o _ ho _ c=>(h.block k (Ah.1 ho).1 c).trans ho⟩
theorem Gt.row{c n1 d:Nat}{A B:World}(h:Gt c n1 d A B){k:Nat}{t:TypeId}{L:LV}(b:FH A k t L)(g:k<c\/n1<=k/\k≠d/\TT t=true):FH B k t L:=by
 rcases g with a|⟨a,f,e⟩
 ·exact(h.1.block k a).trans b
 ·exact h.2 k _ a b (.inr ⟨_,_,_,rfl,e⟩) f
theorem Gt.chg{a n1 g B:Nat}{A b X:World}(h:Gt a n1 g X A)(i:Gc B A b)(hB:X.heap.size<=B)(m:a<=X.heap.size):Gt a n1 g X b:=by
 obtain⟨row,d,f⟩:=i;refine⟨h.1.grown d (Ae m h.1.size) (fun k e=>by have:=(f k e).1;omega),fun k o j ho l n=>?_⟩;have aa:=(Ah.1 ho).1;have c:=h.2 k o j ho l n;refine(d.block k (Ah.1 c).1 ?_).trans c;intro e;have:=(f k e.symm).1;omega
open Go.RowKit
def Ir(s:By)(k:Nat)(f:Int)(vd:Value):Value := .agg #[.string s,.int .u8 k,.int .i64 f,vd]
def Kd(S:Nat->Bool):LV:=(List.range 60).map (fun j => .bool (S j))
theorem PW(S:Nat->Bool):(Kd S).length=60:=by simp[Kd]
theorem Uo(S:Nat->Bool)(j:Nat)(h:j<60):(Kd S)[j]?=some (.bool (S j)):=by simp[Kd,h]
theorem ZK(S:Nat->Bool)(j:Nat)(h:j<60):(Kd S).set j (.bool true)=Kd (fun k=>if k=j then true else S k):=by
 apply CR;intro k;by_cases a:k<60
 ·rw[Uo _ k a];by_cases e:j=k
  ·subst e;rw[List.getElem?_set_self (by rw[PW];exact h)];simp
  ·rw[List.getElem?_set_ne e,Uo _ k a,if_neg (fun b=>e b.symm)]
 ·rw[Bv (by rw[CV,PW];omega),Bv (by rw[PW];omega)]
theorem Yc(w:World)(t q:OA)(s:By)(a:Addr)(n:Int):
  Cl 218 #[.pointer t,.string s,.agg #[.pointer (some a),.int .i64 n],.pointer q] w fun e w'=>e = .returned (Ir s 1 0 (.slice none 0 0))/\Bw w w':=by
 obtain⟨d,i,m,x,l,f⟩:=De w [.pointer (some a),.int .i64 n] 260;obtain⟨h,j,b,k,C,g⟩:=De d [.string ⟨#[]⟩,.int .u8 0,.int .i64 0,.slice none 0 0] 141;have r:Bw w h:=f.trans (g.mono (by omega));have c0:=(k _ _ _ m).cell 0;rw[l]at b;have u:w.heap.size<=w.heap.size+1:=by omega
 have o:=Db i;have p:=Db j;clear i j m x l f k C g;go_enter Tryz.func218,Tryz.ntmps218;go_upto_region 1 with fail;rw[show w.alloc (.cells #[.pointer (some a),.int .i64 n] 260)=d from Da o,show d.alloc (.cells #[.string ⟨#[]⟩,.int .u8 0,.int .i64 0,.slice none 0 0] 141)=h from Da p];have b0:=b.cell 0;have f:=b.cell 1;have g:=b.cell 2;have b3:=b.cell 3;have g0:=b.frozen 0;have g1:=b.frozen 1;have g2:=b.frozen 2;have g3:=b.frozen 3;go_wp2;have c:=JQ b (.string s) (.int .u8 1) (.int .i64 0) (.slice none 0 0);have y:=c.cell 0;have z:=c.cell 1;have A:=c.cell 2;have B:=c.cell 3;exact Aq (v:=Ir s 1 0 (.slice none 0 0)) (by simp[results,Tryz.results218,go_sem,y,z,A,B,Ir]) rfl ⟨rfl,K6 r u _ _ _ _⟩
theorem Z5(w:World)(t:OA)(s:By)(n:Nat)(B:n<60)(j:Nat)(S:Nat->Bool)(o:FH w j 245 (Kd S))(y:S n=true):
  Cl 218 #[.pointer t,.string s,.agg #[.pointer none,.int .i64 (n:Nat)],.pointer (some ⟨j,0,none⟩)] w fun e w'=>e = .returned (Ir s 3 (n:Nat) (.slice none 0 0))/\Bw w w':=by
 obtain⟨g,l,k,p,q,h⟩:=De w [.pointer none,.int .i64 (n:Nat)] 260;obtain⟨b,m,r,f,G,i⟩:=De g [.string ⟨#[]⟩,.int .u8 0,.int .i64 0,.slice none 0 0] 141;have c:Bw w b:=h.trans (i.mono (by omega));have c0:=(f _ _ _ k).cell 0;have c1:=(f _ _ _ k).cell 1;have ab:b.cell? ⟨j,n,none⟩=some (.bool true):=((f _ _ _ (p _ _ _ o)).cell n).trans (by rw[Uo _ _ B,y]);rw[q]at r;have A:w.heap.size<=w.heap.size+1:=by omega
 have aa:(n:Int)<60:=by omega
 have u:=Db l;have x:=Db m;clear l m k p q h f G i o;go_enter Tryz.func218,Tryz.ntmps218;go_upto_region 1 with fail;rw[show w.alloc (.cells #[.pointer none,.int .i64 (n:Nat)] 260)=g from Da u,show g.alloc (.cells #[.string ⟨#[]⟩,.int .u8 0,.int .i64 0,.slice none 0 0] 141)=b from Da x];go_upto_region 3 with fail
 go_quiet (fail)
 have a:FH (b.drewN nq) (w.heap.size+1) 141 _:=r;have b0:=a.cell 0;have h:=a.cell 1;have i:=a.cell 2;have b3:=a.cell 3;have g0:=a.frozen 0;have g1:=a.frozen 1;have g2:=a.frozen 2;have g3:=a.frozen 3;go_wp2;have d:=JQ a (.string s) (.int .u8 3) (.int .i64 (n:Nat)) (.slice none 0 0);have C:=d.cell 0;have D:=d.cell 1;have E:=d.cell 2;have F:=d.cell 3;have z:Bw w (b.drewN nq):=⟨c.os,c.tape,c.output,c.size,c.block⟩;exact Aq (v:=Ir s 3 (n:Nat) (.slice none 0 0)) (by simp[results,Tryz.results218,go_sem,C,D,E,F,Ir]) rfl ⟨rfl,K6 z A _ _ _ _⟩
def Yg(w:World)(s:By)(n:Nat)(qb:Nat)(S:Nat->Bool)(vd:Value)(e:Ending)(w':World):Prop:=
 e = .returned (Ir s 2 (n:Nat) vd)/\FH w' qb 245 (Kd (fun k=>if k=n then true else S k))/\Fr (fun k=>k=qb) w w'
theorem Z4(w:World)(tb Z:Nat)(V:NV)(E:NS)(vi:Value)(G:Gh)(I:LF)(C:IB)(_h:TW w tb Z V E vi G I C)(ax:I.length<=10000)(s:By)(n:Nat)(Q:n<60)(r:VF)(ak:((n:Int),r)∈I)(c:Nat)(S:Nat->Bool)(R:FH w c 245 (Kd S))(hS:S n=false)(_hqt:c≠tb)(ag:∀w',Fr (fun k=>k=c) w w'->TW w' tb Z V E vi G I C):
  Cl 218 #[.pointer (some ⟨tb,0,none⟩),.string s,.agg #[.pointer none,.int .i64 (n:Nat)],.pointer (some ⟨c,0,none⟩)] w (Yg w s n c S (.slice r.a r.l r.c)):=by
 obtain⟨M,e1,x1,k1,s1,N⟩:=De w [.pointer none,.int .i64 (n:Nat)] 260;obtain⟨f,e2,x2,U,s2,O⟩:=De M [.string ⟨#[]⟩,.int .u8 0,.int .i64 0,.slice none 0 0] 141;have B:Bw w f:=N.trans (O.mono (by omega));have aJ:=R.lt;have t:=U _ _ _ x1;have J:=U _ _ _ (k1 _ _ _ R);have c0:=t.cell 0;have c1:=t.cell 1;have aF:f.cell? ⟨c,n,none⟩=some (.bool false):=(J.cell n).trans (by rw[Uo _ _ Q,hS]);have aE:f.frozen? ⟨c,n,none⟩=false:=J.frozen n;rw[s1]at x2;have aH:w.heap.size<=w.heap.size+1:=by omega
 have aI:(n:Int)<60:=by omega
 have aa:Hid (∀d:World,d.heap=f.heap->d.os=f.os->d.tape=f.tape->d.output=f.output->d.cell? ⟨w.heap.size,1,none⟩=some (.int .i64 (n:Nat))/\d.cell? ⟨c,n,none⟩=some (.bool false)/\d.frozen? ⟨c,n,none⟩=false/\∃a,d.setCell ⟨c,n,none⟩ (.bool true)=a/\FH a w.heap.size 260 [.pointer none,.int .i64 (n:Nat)]/\FH a (w.heap.size+1) 141 [.string ⟨#[]⟩,.int .u8 0,.int .i64 0,.slice none 0 0]/\Hid (∀W,Bw a W->Cl 175 #[.pointer (some ⟨tb,1,none⟩),.int .i64 (n:Nat)] W fun e w'=>e = .returned (.tuple #[.agg #[.slice r.a r.l r.c,.int .i64 r.f],.bool true])/\Bw W w')/\Hid (Fr (fun k=>k=c) w a)/\Hid (FH a c 245 (Kd (fun k=>if k=n then true else S k)))):=fun d x ho ht hu=>by
  have T:FH d c 245 (Kd S):=by unfold FH;rw[x];exact J
  have am:FH d w.heap.size 260 [.pointer none,.int .i64 (n:Nat)]:=by unfold FH;rw[x];exact t
  have Gp:FH d (w.heap.size+1) 141 [.string ⟨#[]⟩,.int .u8 0,.int .i64 0,.slice none 0 0]:=by unfold FH;rw[x];exact x2
  have j:Fr (fun k=>k=c) w (d.setCell ⟨c,n,none⟩ (.bool true)):=
   Fr.set (X:=fun k=>k=c) (w':=d) ⟨ho.trans B.os,ht.trans B.tape,hu.trans B.output,by rw[x];exact B.size,fun k D _=>by rw[x];exact B.block k D⟩ ⟨c,n,none⟩ _ rfl
  refine⟨(am.cell 1).trans rfl,(T.cell n).trans (by rw[Uo _ _ Q,hS]),T.frozen n,_,rfl,(AB _ _ _ _ (show w.heap.size≠c by omega)).trans am,(AB _ _ _ _ (show w.heap.size+1≠c by omega)).trans Gp,?_,j,?_⟩
  ·exact fun W A=>QQ W tb Z V E vi G I C (ag W ⟨A.os.trans j.os,A.tape.trans j.tape,A.output.trans j.output,Ae j.size A.size,fun k D aA=>(A.block k (Ao D j.size)).trans (j.block k D aA)⟩) ax n r ak
  ·show FH _ _ _ _;rw[<-ZK S n Q];exact FH.set T n (.bool true)
 have ao:=Db e1;have ap:=Db e2;clear e1 e2 x1 k1 s1 N U s2 O ag ak R J x2 t;go_enter Tryz.func218,Tryz.ntmps218;go_upto_region 1 with fail;rw[show w.alloc (.cells #[.pointer none,.int .i64 (n:Nat)] 260)=M from Da ao,show M.alloc (.cells #[.string ⟨#[]⟩,.int .u8 0,.int .i64 0,.slice none 0 0] 141)=f from Da ap];go_upto_region 3 with fail
 go_quiet (fail)
 obtain⟨Wq,o⟩:∃X,X=f.drewN nq:=⟨_,rfl⟩;rw[<-o];obtain⟨P,dn,df,a,ah,u,z2,ab,aq,ac⟩:=Da aa Wq.drew (by rw[o];rfl) (by rw[o];rfl) (by rw[o];rfl) (by rw[o];rfl);clear o;have ad:=Db ah;have an:=u;clear ah aa aF aE c0 c1;go_upto_region 5 with fail;refine AN (S:=fun X=>X.cell? ⟨w.heap.size,1,none⟩=some (.int .i64 (n:Nat))) (by kernel_rfl) P (fun aw=>?_);refine tk 0 ?_;try simp only[pE];refine tk 1 ?_;try simp only[pE];refine tk 2 ?_;try simp only[pE];refine tk 3 ?_;try simp only[pE];refine tk 4 ?_;try simp only[pE];refine rk 5 (fun K hK=>?_);go_simp;rw[show(Wq.setCell ⟨c,n,none⟩ (.bool true)).drew=a from Da ad];refine hK.out _ _ ((u.cell 1).trans rfl) (fun av=>?_);clear hK K
 (try simp only[pE])
 refine AS (by kernel_rfl) ?_ _;have a0:=u.cell 0;have a1:=u.cell 1;have az:w.heap.size+1<a.heap.size:=z2.lt;have aB:¬a.heap.size=w.heap.size:=by omega
 have aC:¬w.heap.size=a.heap.size:=by omega
 clear u P dn df aw av ad;go_upto_region 6 with fail
 go_region_held3 (fun W=>W.cell? ⟨w.heap.size,1,none⟩=some (.int .i64 (n:Nat))) (go_keep)
  (first|(go_at_call 175;refine(Da ab _ (by first|exact(Ag _ a).drew|exact((Ag _ a).drew).alloc (Aa _) _|exact((Ag _ a).alloc (Aa _) _).drew)).mono ?_;rintro e w' ⟨rfl,H⟩;have q:Bw a w':=(by first|exact((Ag _ a).drew).trans (H.mono (by simp))|exact(((Ag _ a).alloc (Aa _) _).drew).trans (H.mono (by simp)));have m0:=(q.cell (p:=⟨w.heap.size,1,none⟩) (by show w.heap.size<a.heap.size;omega)).trans a1;(try(have z:FH w' a.heap.size 217 [.slice none 0 0,.int .i64 0]:=(H.block a.heap.size (by simp)).trans (Jj a [.slice none 0 0,.int .i64 0] 217);have z0:=z.cell 0;have u:=z.cell 1;have aK:=z.frozen 0;have aL:=z.frozen 1))))
 case' refine_2.refine_3.refine_3.refine_3.refine_3.refine_3.refine_1.refine_2.refine_3.refine_3.refine_3.refine_1.refine_2.refine_1.refine_2.refine_3=>
  obtain⟨g,y,l,ay,aG,ai⟩:=De w' [.slice r.a r.l r.c,.int .i64 r.f] 217;rw[y];have i:Bw a g:=q.trans (ai.mono q.size);have ae:a.heap.size<=w'.heap.size:=q.size;obtain⟨L,m⟩:∃b,b=w'.heap.size:=⟨_,rfl⟩;rw[<-m]at l ae ⊢;clear y ay aG ai m
 case' refine_2.refine_3.refine_3.refine_3.refine_3.refine_3.refine_2.refine_1.refine_2.refine_1.refine_2.refine_3.refine_3.refine_3.refine_1.refine_2.refine_3=>
  have l:FH ((w'.setCell ⟨a.heap.size,0,none⟩ (.slice r.a r.l r.c)).setCell ⟨a.heap.size,1,none⟩ (.int .i64 r.f)) a.heap.size 217 [.slice r.a r.l r.c,.int .i64 r.f]:=by
   have:=(z.set 0 (.slice r.a r.l r.c)).set 1 (.int .i64 r.f)
   simpa using this
  have i:Bw a ((w'.setCell ⟨a.heap.size,0,none⟩ (.slice r.a r.l r.c)).setCell ⟨a.heap.size,1,none⟩ (.int .i64 r.f)):=(q.setCell (p:=⟨a.heap.size,0,none⟩) (Aa _) _).setCell (p:=⟨a.heap.size,1,none⟩) (Aa _) _;obtain⟨g,y⟩:∃g,(w'.setCell ⟨a.heap.size,0,none⟩ (.slice r.a r.l r.c)).setCell ⟨a.heap.size,1,none⟩ (.int .i64 r.f)=g:=⟨_,rfl⟩;rw[y]at l i ⊢;obtain⟨L,m⟩:∃b,b=a.heap.size:=⟨_,rfl⟩;have ae:a.heap.size<=L:=by omega
  rw[<-m]at l;rw[show(Value.pointer (some { block:=a.heap.size,off:=0 }))=Value.pointer (some { block:=L,off:=0 }) by rw[m]];clear y m
 all_goals
  have h:FH g (w.heap.size+1) 141 [.string ⟨#[]⟩,.int .u8 0,.int .i64 0,.slice none 0 0]:=(i.block _ az).trans z2;have t:FH g w.heap.size 260 [.pointer none,.int .i64 (n:Nat)]:=(i.block _ an.lt).trans an;have al:FH g c 245 _:=(i.block _ (Da ac).lt).trans (Da ac);have aj:Fr (fun k=>k=c) w g:=(Da aq).then (Fr.of_below (X:=fun _=>False) i) (fun _ _ e=>e.elim);have au:=Db al;have ar:=Db aj;have b0:=h.cell 0;have N:=h.cell 1;have O:=h.cell 2;have b3:=h.cell 3;have f0:=h.frozen 0;have f1:=h.frozen 1;have f2:=h.frozen 2;have f3:=h.frozen 3;have c0:=l.cell 0;have c1:=l.cell 1;have P:=t.cell 1;clear aB aC H q m0 i ab l al aj;go_wp2;have F:=JQ h (.string s) (.int .u8 2) (.int .i64 (n:Nat)) (.slice r.a r.l r.c);have r0:=F.cell 0;have r1:=F.cell 1;have r2:=F.cell 2;have r3:=F.cell 3;have aD:c≠w.heap.size+1:=by omega
  have af:=((((Fr.refl (fun k=>k=w.heap.size+1) g).set ⟨w.heap.size+1,0,none⟩ (.string s) rfl).set ⟨w.heap.size+1,1,none⟩ (.int .u8 2) rfl).set ⟨w.heap.size+1,2,none⟩ (.int .i64 (n:Nat)) rfl).set ⟨w.heap.size+1,3,none⟩ (.slice r.a r.l r.c) rfl;exact Aq (v:=Ir s 2 (n:Nat) (.slice r.a r.l r.c)) (by simp[results,Tryz.results218,go_sem,r0,r1,r2,r3,Ir]) rfl ⟨rfl,(FH.fr (Da au) (X:=fun k=>k=w.heap.size+1) af aD),(Da ar).then (Y:=fun k=>k=w.heap.size+1) af (fun k D e=>by omega)⟩
theorem Gc.fr{B a:Nat}{A b:World}(h:Fr (fun k=>k=a) A b)(f:B<=a){c:Array Value}{t:TypeId}{d:Nat×Nat}(ho:A.heap[a]?=some (.cells c t d))(j:TT t=true):Gc B A b:=
 ⟨some a,⟨h.os,h.tape,h.output,h.size,fun k g i=>h.block k g (fun e=>i (by rw[e]))⟩,fun r e=>by cases e;exact⟨f,_,ho,.inr ⟨_,_,_,rfl,j⟩⟩⟩
theorem QD:∀(ns:LY),Ga ns->(jn ns).size<=13*ns.length
 | [],_=>by simp[Vc,jl]
 | n::ns,h=>by
  have ih:=QD ns (fun m b=>h m (AA _ b));have h1:n.size<=12:=by
   have:=h n (by simp);unfold DC at this;simp only[A8,AM]at this;exact this.1.2
  rw[Vc]at ih ⊢;rw[JS];have a:n.data.toList.length=n.size:=Az;simp only[Ab,Af,a];omega
theorem OL(ns:LY)(n:By):jn (ns++[n])=jn ns++⟨#[47]⟩++n:=K4 (by
 rw[Ke,KT,KY,C6,Em,C6,Em,Ke];simp)
theorem Yd(a:NV)(ns:LY):J9 a ⟨ns,1,0⟩ = .agg #[.string (jn ns),.int .u8 1,.int .i64 0,.slice none 0 0]:=rfl
theorem TM(a:NV)(ns:LY)(f:Nat):J9 a ⟨ns,2,f⟩ = .agg #[.string (jn ns),.int .u8 2,.int .i64 (f:Nat),a f]:=rfl
theorem TN(a:NV)(ns:LY)(f:Nat):J9 a ⟨ns,3,f⟩ = .agg #[.string (jn ns),.int .u8 3,.int .i64 (f:Nat),.slice none 0 0]:=rfl
theorem Xj(s:By)(v:Value):Ir s 1 0 v = .agg #[.string s,.int .u8 1,.int .i64 0,v]:=rfl
theorem Xk(s:By)(f:Nat)(v:Value):Ir s 2 (f:Nat) v = .agg #[.string s,.int .u8 2,.int .i64 (f:Nat),v]:=rfl
theorem Xl(s:By)(f:Nat)(v:Value):Ir s 3 (f:Nat) v = .agg #[.string s,.int .u8 3,.int .i64 (f:Nat),v]:=rfl
structure I4(w0:World)(tb rd:Nat)(V:NV)(E:NS)(vi:Value)(G:Gh)(I:LF)(C:IB)(ch:LY->List Ek)(dv:NV):Prop where
 tw:TW w0 tb rd V E vi G I C
 ok:F0 G
 gl:G.length<=10000
 il:I.length<=10000
 ch:∀ns b,FI G rd ns b->ch ns=(E b).map JC
 num:∀x∈G,x.2.p=none->∃(n:Nat) (r:VF),x.2.f=n/\n<60/\((n:Int),r)∈I/\dv n = .slice r.a r.l r.c
structure Hp(w0:World)(qb:Nat)(J:Nat->World->Prop)(K:Nat)(S:FJ)(X:World):Prop where
 j:J K X
 t:Bw w0 X
 s:FH X qb 245 (Kd S)
theorem Hp.chg{c:World}{b:Nat}{J:Nat->World->Prop}{K:Nat}{S:FJ}{X d:World}(h:Hp c b J K S X){n1 B:Nat}(i:∀k A A',J k A->Gc n1 A A'->J k A')(a:Gc B X d)(g:n1<=B)(l:b<B)(f:c.heap.size<=B):Hp c b J K S d:=
 ⟨i _ _ _ h.j (a.mono g),by
  obtain⟨row,j,m⟩:=a;exact h.t.grown j h.t.size (fun k e=>Ae f (m k e).1),a.row h.s (.inl l)⟩
def Pd(w0:World)(n1 qb:Nat)(J:Nat->World->Prop)(K:Nat)(S:FJ)(w:World)(e:Ending)(w':World):Prop:=
 e = .returned (.bool true)/\Hp w0 qb J K S w'/\Gt w0.heap.size n1 qb w w'
theorem Gt.keeps{c n1 a B:Nat}{A C:World}(h:Gt c n1 a A C)(hB:n1<=B)(hq:a<B):KeepsFrom B A C:=
 ⟨h.1.size,fun k o hk ho b=>h.2 k o (by omega) ho (.inl b) (by omega)⟩
end Go.Proofs.YtaieidcohdhgpaaGreatDoor
