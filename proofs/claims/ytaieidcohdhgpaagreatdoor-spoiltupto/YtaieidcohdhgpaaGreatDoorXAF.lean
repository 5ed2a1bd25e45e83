/- Spoilt. -/
import Derived.Test.YtaieidcohdhgpaaGreatDoorXAE
namespace Go.Proofs.YtaieidcohdhgpaaGreatDoor
set_option maxHeartbeats 40000000
set_option maxRecDepth 100000
section
open Go.RowKit Go.Shelf
attribute [local go_sem] Oper.semAt_some
theorem UB{β : Type}(B:Nat)(t:TypeId)(f : β -> F6):Own (fun s W=>F0 W B t (f s)):=fun s X Y row a d e=>
 a.kept d (fun b=>by obtain⟨o,ho,c⟩:=e B b.symm;rw[show X.heap[B]? = _ from a]at ho;cases ho;cases c)
theorem Jh(w:World)(L:F6)(e:TypeId):F0 (w.alloc (.cells L.toArray e)) w.heap.size e L:=Cp w _
def DN(l:List Nat):Nat:=(l.map (fun n=>(n+63)/64)).sum
theorem ZkZ(l:List Nat)(n:Nat):DN (l++[n])=DN l+(n+63)/64:=by simp[DN]
theorem Tt(l:List Nat)(h:∀n∈l,n<=2000000):DN l<=l.length*40000:=by
 induction l with
 | nil=>simp[DN]
 | cons a l ih=>
  have h1:=ih (fun n c=>h n (by simp[c]));have h2:=h a (by simp);have b:DN (a::l)=(a+63)/64+DN l:=by simp[DN]
  rw[b,Aq];omega
theorem NZ(w:World)(tb:Nat)(T m:Value)(I:LF)(G:F0 w tb 214 [T,m])(B:Sl w 293 3 m I.length (Du I))(v:I.length<=10000)(E:∀x∈I,x.2.l<=2000000):
  Cl 82 #[.pointer (some ⟨tb,0,none⟩)] w fun e w'=>e = .returned (.int .i64 (DN (I.map (·.2.l)):Nat))/\Bw w w':=by
 refine(Bj (n:=3)).1 ?_;refine BJ Tryz.func82 rfl AQ ?_ rfl;simp only[Tryz.ntmps82,AR,Aq,AS,Nat.reduceAdd,Nat.reduceSub,AV,AU,A3,AY,AA,AI]
 gi_wp2_with (refine⟨AQ,?_⟩;gi_at_call 145;refine(SP _ _ AQ rfl _ _).mono ?_;rintro e w' ⟨rfl,rfl⟩)
 obtain⟨a,j⟩:∃a,(w.alloc (Obj.cells #[Value.int IntKind.i64 0] 3)).alloc (Obj.cells #[Value.pointer (some { block:=tb,off:=1 })] 290)=a:=⟨_,rfl⟩;rw[j];have ad:a.heap.size=w.heap.size+2:=by rw[<-j];simp
 have t:Bw w a:=by rw[<-j];exact((Al _ w).alloc (Aa _) _).alloc (by simp) _
 have M:Boxed a w.heap.size 3 (.int .i64 0):=by rw[<-j];exact(FM w 3 _).alloc _
 have N:Boxed a (w.heap.size+1) 290 (.pointer (some ⟨tb,1,none⟩)):=by rw[<-j];have:=FM (w.alloc (Obj.cells #[Value.int IntKind.i64 0] 3)) 290 (.pointer (some ⟨tb,1,none⟩));simpa using this
 have S:tb<w.heap.size:=G.lt;have L:Sl a 293 3 m I.length (Du I):=B.kept (fun k Q _=>t.block k Q);have P:a.cell? ⟨tb,1,none⟩=some m:=(t.cell (p:=⟨tb,1,none⟩) S).trans (G.cell 1);have C:I.attach.map (fun x=>x.1)=I:=Ea I;clear j;refine FD (α := { x // x∈I }) rfl (by omega) (gf:=204) (lb := #[.pointer (some ⟨w.heap.size+1,0,none⟩)]) rfl AQ (ER Tryz.func204 (by kernel_rfl) rfl)
  (Wi Fence.wide 2 AQ rfl (by omega) (w.heap.size+1) w.heap.size tb 1 m (fun x=>x.1) I.attach (by simpa using v) a (by omega) (by omega) (by omega) N.cell P (by rw[C];simpa using L) (fun g u=>B.lt u))
  belowK_t (E4 (by omega)) (Al _ _) (fun _=>rfl)
  (fun b W=>Boxed W w.heap.size 3 (.int .i64 (DN (b.map (·.1.2.l)):Nat))/\Bw w W)
  (fun _ _ _=>False)
  (EG (Own.from (boxed_own _ _ _) _) (Fy (Aa _) (by omega)))
  (fun _ _ _ _ _ z _ _=>z)
  ⟨M,t⟩
  (fun x q W=>∃f,w.heap.size<f/\F0 W f 217 [.slice x.1.2.a x.1.2.l x.1.2.c,.int .i64 x.1.2.f]/\q={ tmps := #[.pointer (some ⟨tb,0,none⟩),undef,.int .i64 0,.pointer (some ⟨w.heap.size,0,none⟩),undef,.pointer (some ⟨f,0,none⟩),.pointer (some ⟨tb,0,none⟩),.pointer (some ⟨tb,0,none⟩),.pointer (some ⟨tb,1,none⟩),.func (.func 204) #[] #[.pointer (some ⟨w.heap.size+1,0,none⟩)],.int .i64 x.1.1,.agg #[.slice x.1.2.a x.1.2.l x.1.2.c,.int .i64 x.1.2.f],undef,undef,undef,undef,undef,undef,undef,undef,undef],defers:=[] })
  (fun x q _ X Y row z u F=>by
   obtain⟨f,s,A,J⟩:=z;exact⟨f,s,(UB (β := Unit) f 217 (fun _=>_)).from _ () X Y row A u F,J⟩)
  ?assign ?body ?done ?stop
 case assign=>
  rintro l b x W K ⟨d,i⟩ o
  gi_wp2
  refine o _ _ ((EO _ _).from _) ((Al _ W).alloc i.size _) ⟨d.alloc _,i.alloc i.size _⟩ ⟨W.heap.size,d.lt,Jh W _ _,rfl⟩
 case body=>
  rintro l b x q W ab ⟨r,F⟩ ⟨d,i⟩ ⟨f,aa,H,rfl⟩ R;have hx:=E x.1 x.2;have O:=d.cell;have hf:=d.frozen;have x0:=H.cell 0;have ac:DN (b.map (·.1.2.l))<=10000*40000:=by
   have s:=Tt (b.map (·.1.2.l)) (fun n v=>by obtain⟨y,hy,e⟩:=Au.1 v;rw[<-e];exact E _ y.2);rw[AK]at s;have A:b.length<I.length:=by simpa using R
   omega
  gi_wp2
  have e:((DN (b.map (·.1.2.l)):Nat):Int)+((x.1.2.l:Int)+64-1)/64=((DN ((b++[x]).map (·.1.2.l)):Nat):Int):=by
   rw[Bp,Br,CP,ZkZ];omega
  exact⟨(Cy _ _ _).from _,(Al w.heap.size W).setCell (p:=⟨w.heap.size,0,none⟩) (Aa _) _,by rw[e];exact d.set _,i.setCell (p:=⟨w.heap.size,0,none⟩) (Aa _) _⟩
 case done=>
  rintro D ys W hD rfl ⟨d,i⟩ o;have O:=d.cell
  gi_wp2
  refine⟨by simp,.inl ⟨_,_,rfl,Cb o,?_⟩⟩;exact⟨_,EF rfl _ _ _,by
   have:I.attach.map (fun x=>x.1.2.l)=I.map (fun x=>x.2.l):=by
    have:=Ca (List.map (fun x:Int×VF=>x.2.l)) C;rw[Ce]at this;exact this
   rw[<-this];rfl,i.trans (E4 (w:=w) (Aa _) W D _ _ (by omega) o rfl rfl)⟩
 case stop=>
  rintro D c b W _ _ h _;exact h.elim
theorem Zmi(w:World)(tb:Nat)(rp A:Value)(I:LF)(O:F0 w tb 214 [rp,A])(L:Sl w 293 3 A I.length (Du I))(hn:I.length<=10000)(P:Gn I)(Q:∀x∈I,0<=x.1):
  Cl 186 #[.pointer (some ⟨tb,0,none⟩)] w fun e w'=>∃f:Nat,e = .returned (.int .i64 f)/\f<=I.length/\(∀x∈I,x.1≠f)/\Bw w w':=by
 refine(Bj (n:=3)).1 ?_;refine BJ Tryz.func186 rfl AQ ?_ rfl;simp only[Tryz.ntmps186,AR,Aq,AS,Nat.reduceAdd,Nat.reduceSub,AV,AU,A3,AY,AA,AI]
 gi_wp2_with (refine⟨AQ,?_⟩;gi_at_call 145;refine(SP _ _ AQ rfl _ _).mono ?_;rintro e w' ⟨rfl,rfl⟩)
 obtain⟨b,s⟩:∃b,(w.alloc (Obj.cells #[Value.int IntKind.i64 0] 3)).alloc (Obj.cells #[Value.pointer (some { block:=tb,off:=1 })] 290)=b:=⟨_,rfl⟩;rw[s];have af:b.heap.size=w.heap.size+2:=by rw[<-s];simp
 have J:Bw w b:=by rw[<-s];exact((Al _ w).alloc (Aa _) _).alloc (by simp) _
 have U:Boxed b w.heap.size 3 (.int .i64 0):=by rw[<-s];exact(FM w 3 _).alloc _
 have V:Boxed b (w.heap.size+1) 290 (.pointer (some ⟨tb,1,none⟩)):=by rw[<-s];have:=FM (w.alloc (Obj.cells #[Value.int IntKind.i64 0] 3)) 290 (.pointer (some ⟨tb,1,none⟩));simpa using this
 have ac:tb<w.heap.size:=O.lt;have T:Sl b 293 3 A I.length (Du I):=L.kept (fun k o _=>J.block k o);have Y:b.cell? ⟨tb,1,none⟩=some A:=(J.cell (p:=⟨tb,1,none⟩) ac).trans (O.cell 1);have X:I.map (fun x=>x)=I:=List.map_id I;clear s;refine C5 rfl (by omega) (gf:=204) (lb := #[.pointer (some ⟨w.heap.size+1,0,none⟩)]) rfl AQ (ER Tryz.func204 (by kernel_rfl) rfl)
  (Wi Fence.wide 2 AQ rfl (by omega) (w.heap.size+1) w.heap.size tb 1 A (fun x=>x) I (by simpa using hn) b (by omega) (by omega) (by omega) V.cell Y (by rw[X];exact T) (fun g Z=>L.lt Z))
  belowK_t (E4 (by omega)) (Al _ _) (fun _=>rfl)
  (fun a W=>(Boxed W w.heap.size 3 (.int .i64 (a.length:Nat))/\Bw w W)/\∀(j:Nat) (y:Int×VF),a[j]?=some y->y.1=j)
  (fun c a W=>(Boxed W w.heap.size 3 (.int .i64 ((a.length-1:Nat):Int))/\Bw w W)/\c = .exit 0/\(∃y,a[a.length-1]?=some y/\y.1≠(a.length-1:Nat))/\∀(j:Nat) (y:Int×VF),j<a.length-1->a[j]?=some y->y.1=j)
  (EG (EG (Own.from (boxed_own _ _ _) _) (Fy (Aa _) (by omega))) (ownFrom_pure _ _))
  (fun c=>EG (EG (Own.from (boxed_own _ _ _) _) (Fy (Aa _) (by omega))) (ownFrom_pure _ _))
  ⟨⟨U,J⟩,fun j y h=>by simp at h⟩
  (fun x=>{ tmps := #[.pointer (some ⟨tb,0,none⟩),undef,.int .i64 0,.pointer (some ⟨w.heap.size,0,none⟩),.int .i64 x.1,.pointer (some ⟨tb,0,none⟩),.pointer (some ⟨tb,0,none⟩),.pointer (some ⟨tb,1,none⟩),.func (.func 204) #[] #[.pointer (some ⟨w.heap.size+1,0,none⟩)],.int .i64 x.1,.agg #[.slice x.2.a x.2.l x.2.c,.int .i64 x.2.f],undef,undef,undef,undef,undef,undef],defers:=[] })
  ?assign ?body ?done ?stop
 case assign=>
  intro l x W K q
  gi_wp2
  exact q
 case body=>
  rintro l a x W ⟨⟨d,r⟩,o⟩ ab;have M:=d.cell;have hf:=d.frozen;by_cases u:x.1=(a.length:Nat)
  ·gi_wp2
   refine⟨(Cy _ _ _),(Al w.heap.size W).setCell (p:=⟨w.heap.size,0,none⟩) (Aa _) _,⟨by rw[Ad];exact d.set _,r.setCell (p:=⟨w.heap.size,0,none⟩) (Aa _) _⟩,fun j y h=>?_⟩;rw[List.getElem?_append]at h
   split at h
   ·exact o j y h
   ·rename_i m;have:j-a.length=0:=by
     rcases BC (j-a.length) with e|e
     ·exact e
     ·rw[BS (by simp;omega)]at h;cases h
    rw[this]at h;simp at h;rw[<-h,u];omega
  ·gi_wp2
   refine⟨KeepsOthers.refl _,⟨by rw[Ad];exact d,r⟩,rfl,⟨x,by simp,by simpa using u⟩,fun j y m h=>?_⟩;rw[AP (by simpa using m)]at h;exact o j y h
 case done=>
  rintro D ys W S rfl ⟨⟨d,r⟩,o⟩ q;have M:=d.cell
  gi_wp2
  refine⟨by simp,.inl ⟨_,_,rfl,Cb q,?_⟩⟩;refine⟨_,EF rfl _ _ _,_,rfl,Aa _,fun x u e=>?_,r.trans (E4 (w:=w) (Aa _) W D _ _ (by omega) q rfl rfl)⟩;obtain⟨j,m⟩:=BF u;have G:=o j x m;have H:=(Ae.1 m).1;omega
 case stop=>
  rintro D c a W S N ⟨⟨d,r⟩,rfl,⟨y,E,ad⟩,o⟩ q;have M:=d.cell
  gi_wp2
  refine⟨by simp,.inl ⟨_,_,rfl,Cb q,?_⟩⟩;have ae:=N.length_le;have ab:=(Ae.1 E).1;refine⟨_,EF rfl _ _ _,_,rfl,by omega,fun x u e=>?_,r.trans (E4 (w:=w) (Aa _) W D _ _ (by omega) q rfl rfl)⟩;obtain⟨i,B⟩:=BF u;have C:∀j,j<a.length->I[j]?=a[j]? := fun j m=>by
   obtain⟨t,rfl⟩:=N;rw[AP m]
  have aa:∀(j:Nat) (z:Int×VF),I[j]?=some z->(j:Int)<=z.1:=by
   intro j
   induction j with
   | zero=>intro z F;exact Q z (An F)
   | succ j ih=>
    intro z F;have m:=(Ae.1 F).1;have G:=ih I[j] (Ac (by omega));have H:=P j (j+1) I[j] z (by omega) (Ac (by omega)) F;have R:I[j].1<z.1:=Cg H;omega
  rcases Cz i (a.length-1) with v|v|v
  ·have:=o i x v (by rw[<-C i (by omega)];exact B);omega
  ·rw[v,C _ (by omega),E]at B
   cases B;exact ad e
  ·have G:=P (a.length-1) i y x v (by rw[C _ (by omega)];exact E) B;have H:y.1<x.1:=Cg G;have R:=aa _ y (by rw[C (a.length-1) (by omega)];exact E);omega
end
open Go.RowKit
def F4(G:Gh)(rd:Nat)(ns:LY)(b:Nat):Prop:=(ns=[]/\b=rd)\/(ns,(⟨some ⟨b,0,none⟩,0⟩:VS))∈G
structure GC(w:World)(G:Gh)(rd:Nat)(V:NV)(E:NS):Prop where
 shp:∀x∈G,x.2.p=none\/∃b,x.2=⟨some ⟨b,0,none⟩,0⟩
 row:∀ns b,F4 G rd ns b->F0 w b 229 [V b]
 sl:∀ns b,F4 G rd ns b->Sl w 310 3 (V b) (E b).length (Dq (E b))
 srt:∀ns b,F4 G rd ns b->Gm (E b)
 en:∀ns b,F4 G rd ns b->Ie G ns (E b)
 inj:∀ns ns' b,F4 G rd ns b->F4 G rd ns' b->ns=ns'
 own:∀ns ns' b b' g,F4 G rd ns b->F4 G rd ns' b'->(V b).ownBlock=some g->(V b').ownBlock=some g->b=b'
 lo:∀ns b,F4 G rd ns b->rd<=b/\∀g,(V b).ownBlock=some g->rd<=g
theorem GC.fr{X:Nat->Prop}{w w':World}{G:Gh}{f:Nat}{V:NV}{E:NS}(h:GC w G f V E)(d:Fr X w w')(c:∀k t R,X k->F0 w k t R->t≠229/\t≠310):GC w' G f V E:=
 ⟨h.shp,fun ns b a=>(h.row ns b a).fr d (fun e=>(c _ _ _ e (h.row ns b a)).1 rfl),
  fun ns b a=>(h.sl ns b a).fr d (fun g j e=>by obtain⟨R,i⟩:=(h.sl ns b a).type j;exact(c _ _ _ e i).2 rfl),
  h.srt,h.en,h.inj,h.own,h.lo⟩
theorem GC.below{w w':World}{G:Gh}{a:Nat}{V:NV}{E:NS}(h:GC w G a V E){B:Nat}(c:Below B w w')(b:w.heap.size<=B):GC w' G a V E:=
 h.fr (X:=fun _=>False) (Fr.of_below (c.mono b)) (fun _ _ _ e=>e.elim)
theorem GC.len{w:World}{G:Gh}{c:Nat}{V:NV}{E:NS}(h:GC w G c V E)(d:Gt G){ns:LY}{b:Nat}(a:F4 G c ns b):(E b).length=G.countP (Hk ns):=(h.en ns b a).length d (h.srt ns b a)
theorem GC.le{w:World}{G:Gh}{a:Nat}{V:NV}{E:NS}(h:GC w G a V E)(c:Gt G){ns:LY}{b:Nat}(d:F4 G a ns b):(E b).length<=G.length:=by
 rw[h.len c d];exact BT
theorem GC.sub{w:World}{G:Gh}{c:Nat}{V:NV}{E:NS}(h:GC w G c V E){ns:LY}{b:Nat}(g:F4 G c ns b){x:By×VS}(i:x∈E b):
  x.2.p=none\/∃a,x.2=⟨some ⟨a,0,none⟩,0⟩/\F4 G c (ns++[x.1]) a:=by
 have d:=(h.en ns b g x.1 x.2).1 i;rcases h.shp _ d with f|⟨a,e⟩
 ·exact .inl f
 ·exact .inr ⟨a,e,.inr (by rw[<-e];exact d)⟩
def fD(G:Gh)(ns:LY)(x:By×VS):Nat:=if x.2.p.isSome=true then cD G (ns++[x.1]) else 0
def fE(G:Gh)(ns:LY)(x:By×VS):Nat:=if x.2.p.isSome=true then cE G (ns++[x.1]) else 0
def Jm(f:By×VS->Nat)(l:LS):Nat:=(l.map f).sum
theorem Oc(f:By×VS->Nat)(l:LS)(x:By×VS):Jm f (l++[x])=Jm f l+f x:=by simp[Jm]
theorem Ta(f:By×VS->Nat)(m:Nat)(c:∀x,f x<=m)(l:LS):Jm f l<=l.length*m:=by
 induction l with
 | nil=>simp[Jm]
 | cons a l ih=>
  have b:Jm f (a::l)=f a+Jm f l:=by simp[Jm]
  have:=c a;rw[b,Aq,EW];omega
theorem OZ(G:Gh)(ns:LY):cD G ns<=1+G.length:=by
 unfold cD;exact Nat.add_le_add_left BT 1
theorem cE_le(G:Gh)(ns:LY):cE G ns<=G.length:=by unfold cE;exact BT
theorem fD_le(G:Gh)(ns:LY)(x:By×VS):fD G ns x<=1+G.length:=by
 unfold fD;split
 ·exact OZ _ _
 ·omega
theorem fE_le(G:Gh)(ns:LY)(x:By×VS):fE G ns x<=G.length:=by
 unfold fE;split
 ·exact cE_le _ _
 ·omega
theorem ZD{G:Gh}(b:Gt G){ns:LY}{es:LS}(f:Gm es)(d:Ie G ns es):∀k,k<=es.length->
  Ks G (fun x=>x.2.p.isSome) ns (Kl (es.take k))=Jm (fD G ns) (es.take k)/\Ks G (fun _=>true) ns (Kl (es.take k))=k+Jm (fE G ns) (es.take k):=by
 intro k
 induction k with
 | zero=>
  intro _;have:∀r,Ks G r ns []=0:=fun r=>by unfold Ks;rw[C9];intro x _;simp
  simp[Kl,Jm,this]
 | succ k ih=>
  intro hk;obtain⟨h,i⟩:=ih (by omega);have c:k<es.length:=by omega
  have g:es.take (k+1)=es.take k++[es[k]]:=by rw[BZ,Ac c];rfl
  have e:=(d es[k].1 es[k].2).1 (EA c);rw[TH b _ f d k c,TH b _ f d k c,h,i,g,Oc,Oc];unfold fD fE cD cE
  cases hp:es[k].2.p with
  | none=>
   rw[Wl b (fun x=>x.2.p.isSome) e hp,Wl b (fun _=>true) e hp];simp;omega
  | some a=>simp;omega
theorem YV{G:Gh}(c:Gt G){ns:LY}{es:LS}(e:Gm es)(d:Ie G ns es):1+Jm (fD G ns) es=cD G ns/\es.length+Jm (fE G ns) es=cE G ns:=by
 obtain⟨a,b⟩:=ZD c e d es.length (Aa _);rw[CT,ZF c _ d]at a b;exact⟨by rw[<-a];rfl,by rw[<-b];rfl⟩
section
open Go.RowKit Go.Shelf
attribute [local go_sem] Oper.semAt_some
theorem Wu(G:Gh)(hG:Gt G)(ag:G.length<=10000)(N:Nat)(V:NV)(E:NS)(ns:LY)(b:Nat)(u:F4 G N ns b)
  (am:∀x F w,x∈E b->F4 G N (ns++[x.1]) F->GC w G N V E->Cl 143 #[.pointer (some ⟨F,0,none⟩)] w fun e w'=>e = .returned (.tuple #[.int .i64 (cD G (ns++[x.1]):Nat),.int .i64 (cE G (ns++[x.1]):Nat)])/\Bw w w')
  (w:World) (h:GC w G N V E):
  Cl 143 #[.pointer (some ⟨b,0,none⟩)] w fun e w'=>e = .returned (.tuple #[.int .i64 (cD G ns:Nat),.int .i64 (cE G ns:Nat)])/\Bw w w':=by
 have hS:=h.sl ns b u;have aD:=h.le hG u;have an:=h.row ns b u;have hc:=an.cell 0;have aj:b<w.heap.size:=an.lt;have al:=fun (W:World) (hb:Bw w W)=>I9 W b 0 (V b) (E b).length (Dq (E b)) ((hb.cell (p:=⟨b,0,none⟩) aj).trans hc) (hS.kept (fun k hk _=>hb.block k hk))
 have ae:=Db al;clear al;refine(Bj (n:=3)).1 ?_;refine BJ Tryz.func143 rfl AQ ?_ rfl;simp only[Tryz.ntmps143,AR,Aq,AS,Nat.reduceAdd,Nat.reduceSub,AV,AU,A3,AY,AA,AI]
 gi_wp2_with (refine⟨AQ,?_⟩;first|(gi_at_call 178;refine(Bj.2 (Da ae _ (by exact((Al _ w).alloc (Aa _) _).alloc (by simp) _))).mono ?_;rintro e w' ⟨rfl,hw⟩;rw[hw];clear hw)|(gi_at_call 179;refine(Pt _ _ AQ rfl _ _).mono ?_;rintro e w' ⟨rfl,rfl⟩))
 obtain⟨j,q⟩:∃j,((w.alloc (Obj.cells #[Value.int IntKind.i64 1] 3)).alloc (Obj.cells #[Value.int IntKind.i64 ((E b).length:Nat)] 3)).alloc (Obj.cells #[Value.pointer (some { block:=b,off:=0 })] 307)=j:=⟨_,rfl⟩;rw[q];have aL:j.heap.size=w.heap.size+3:=by rw[<-q];simp
 have Z:Bw w j:=by rw[<-q];exact(((Al _ w).alloc (Aa _) _).alloc (by simp) _).alloc (by simp;omega) _
 have az:Boxed j w.heap.size 3 (.int .i64 1):=by rw[<-q];exact((FM w 3 _).alloc _).alloc _
 have aA:Boxed j (w.heap.size+1) 3 (.int .i64 ((E b).length:Nat)):=by rw[<-q];have:=(FM (w.alloc (Obj.cells #[Value.int IntKind.i64 1] 3)) 3 (.int .i64 ((E b).length:Nat))).alloc (Obj.cells #[Value.pointer (some { block:=b,off:=0 })] 307);simpa using this
 have aB:Boxed j (w.heap.size+1+1) 307 (.pointer (some ⟨b,0,none⟩)):=by rw[<-q];have:=FM ((w.alloc (Obj.cells #[Value.int IntKind.i64 1] 3)).alloc (Obj.cells #[Value.int IntKind.i64 ((E b).length:Nat)] 3)) 307 (.pointer (some ⟨b,0,none⟩));simpa using this
 have ax:Sl j 310 3 (V b) (E b).length (Dq (E b)):=hS.kept (fun k hk _=>Z.block k hk);have aC:j.cell? ⟨b,0,none⟩=some (V b):=(Z.cell (p:=⟨b,0,none⟩) aj).trans hc;have aa:(E b).attach.map (fun x=>x.1)=E b:=Ea _;have au:=Db am;have C:=Db h;clear q am h ae;refine FD (α := { x // x∈E b }) rfl (by omega) (gf:=222) (lb := #[.pointer (some ⟨w.heap.size+1+1,0,none⟩)]) rfl AQ (ER Tryz.func222 (by kernel_rfl) rfl)
  (Wj Fence.wide 2 AQ rfl (by omega) (w.heap.size+1+1) w.heap.size b 0 (V b) (fun x=>x.1) (E b).attach (by simpa using Ag aD ag) j (by omega) (by omega) (by omega) aB.cell aC (by rw[aa];simpa using ax) (fun g hg=>hS.lt hg))
  belowK_t (E4 (by omega)) (Al _ _) (fun _=>rfl)
  (fun a W=>(Boxed W w.heap.size 3 (.int .i64 ((1+Jm (fD G ns) (a.map (·.1)):Nat):Int))/\Boxed W (w.heap.size+1) 3 (.int .i64 (((E b).length+Jm (fE G ns) (a.map (·.1)):Nat):Int)))/\Bw w W)
  (fun _ _ _=>False)
  (EG (EG (Own.from (boxed_own _ _ _) _) (Own.from (boxed_own _ _ _) _)) (Fy (Aa _) (by omega)))
  (fun _ _ _ _ _ hs _ _=>hs)
  ⟨⟨az,aA⟩,Z⟩
  (fun x R W=>∃o,w.heap.size+1<o/\F0 W o 260 [.pointer x.1.2.p,.int .i64 x.1.2.f]/\R={ tmps := #[.pointer (some ⟨b,0,none⟩),undef,.pointer (some ⟨w.heap.size,0,none⟩),.pointer (some ⟨w.heap.size+1,0,none⟩),undef,.pointer (some ⟨o,0,none⟩),undef,undef,.pointer (some ⟨b,0,none⟩),.pointer (some ⟨b,0,none⟩),.pointer (some ⟨b,0,none⟩),.int .i64 ((E b).length:Nat),.pointer (some ⟨b,0,none⟩),.pointer (some ⟨b,0,none⟩),.pointer (some ⟨b,0,none⟩),.func (.func 222) #[] #[.pointer (some ⟨w.heap.size+1+1,0,none⟩)],.string x.1.1,.agg #[.pointer x.1.2.p,.int .i64 x.1.2.f],undef,undef,undef,undef,undef,undef,undef,undef,undef,undef,undef,undef,undef,undef,undef,undef,undef],defers:=[] })
  (fun x R _ X Y row hs hg hr=>by
   obtain⟨o,h1,h2,h3⟩:=hs;exact⟨o,h1,(UB (β := Unit) o 260 (fun _=>_)).from _ () X Y row h2 hg hr,h3⟩)
  ?assign ?body ?done ?stop
 case assign=>
  rintro l a x W K ⟨⟨i,f⟩,m⟩ hK
  gi_wp2
  refine hK _ _ ((EO _ _).from _) ((Al _ W).alloc m.size _) ⟨⟨i.alloc _,f.alloc _⟩,m.alloc m.size _⟩ ⟨W.heap.size,f.lt,Jh W _ _,rfl⟩
 case body=>
  rintro l a x R W aH ⟨r,hr⟩ ⟨⟨i,f⟩,m⟩ ⟨o,aG,bX,rfl⟩ aE;have aK:a.length<(E b).length:=by simpa using aE
  have I:=Ta (fD G ns) 10001 (fun y=>Ag (fD_le G ns y) (by omega)) (a.map (·.1));have J:=Ta (fE G ns) 10000 (fun y=>Ag (fE_le G ns y) (by omega)) (a.map (·.1));rw[AK]at I J;have T:Jm (fD G ns) ((a++[x]).map (·.1))=Jm (fD G ns) (a.map (·.1))+fD G ns x.1:=by rw[Bp,Br,CP,Oc]
  have U:Jm (fE G ns) ((a++[x]).map (·.1))=Jm (fE G ns) (a.map (·.1))+fE G ns x.1:=by rw[Bp,Br,CP,Oc]
  obtain⟨O,ao⟩:∃s,s=Jm (fD G ns) (a.map (·.1)):=⟨_,rfl⟩;obtain⟨P,ap⟩:∃s,s=Jm (fE G ns) (a.map (·.1)):=⟨_,rfl⟩;rw[<-ao]at I T i;rw[<-ap]at J U f;have E1:=Db T;have E2:=Db U;clear ao ap T U;have x0:=bX.cell 0;have aI:O<=100010000:=Ag I (by omega);have aJ:P<=100000000:=Ag J (by omega);clear I J;rcases (Da C).sub u x.2 with hp|⟨F,ad,aF⟩
  ·have L:fD G ns x.1=0:=by unfold fD;rw[hp];rfl
   have M:fE G ns x.1=0:=by unfold fE;rw[hp];rfl
   rw[hp]at x0
   gi_wp2
   exact⟨(KeepsOthers.refl _).from _,Al _ _,⟨by rw[Da E1,L];exact i,by rw[Da E2,M];exact f⟩,m⟩
  ·have L:fD G ns x.1=cD G (ns++[x.1.1]):=by unfold fD;rw[ad];rfl
   have M:fE G ns x.1=cE G (ns++[x.1.1]):=by unfold fE;rw[ad];rfl
   have ah:=Ag (OZ G (ns++[x.1.1])) (by omega:_<=10001);have ai:=Ag (cE_le G (ns++[x.1.1])) ag;have t:=Da au x.1 F W x.2 aF ((Da C).below m (Aa _));rw[ad]at x0;rw[<-L]at t ah;rw[<-M]at t ai;obtain⟨d1,ab⟩:∃d,d=fD G ns x.1:=⟨_,rfl⟩;obtain⟨d2,ac⟩:∃d,d=fE G ns x.1:=⟨_,rfl⟩;have aq:=Db ab;have ar:=Db ac;rw[<-ab]at t ah;rw[<-ac]at t ai;clear L M ab ac
   gi_wp2_with fail
   refine⟨AQ,?_⟩;refine(Ec l (Bj.2 t)).mono ?_;rintro e Q ⟨rfl,H⟩;have A:Boxed Q w.heap.size 3 _:=(H.block _ i.lt).trans i;have B:Boxed Q (w.heap.size+1) 3 _:=(H.block _ f.lt).trans f;have c0:=A.cell;have c1:=B.cell;have f0:=A.frozen;have f1:=B.frozen;clear t
   gi_wp2
   have v1:(1+(O:Int)+(d1:Int))=((1+Jm (fD G ns) ((a++[x]).map (·.1)):Nat):Int):=by rw[Da E1,<-Da aq];omega
   have v2:(((E b).length:Int)+(P:Int)+(d2:Int))=(((E b).length+Jm (fE G ns) ((a++[x]).map (·.1)):Nat):Int):=by rw[Da E2,<-Da ar];omega
   have ak:Below w.heap.size W Q:=H.mono m.size;refine⟨((Xg H).trans ((Cy _ _ _).trans (Cy _ _ _))).from _,(ak.setCell (p:=⟨w.heap.size,0,none⟩) (Aa _) _).setCell (p:=⟨w.heap.size+1,0,none⟩) (EI _) _,⟨?_,?_⟩,((m.trans ak).setCell (p:=⟨w.heap.size,0,none⟩) (Aa _) _).setCell (p:=⟨w.heap.size+1,0,none⟩) (EI _) _⟩
   ·rw[v1];exact(A.set _).other (by omega) _
   ·rw[v2];exact(B.other (by omega) _).set _
 case done=>
  rintro D ys W hD rfl ⟨⟨i,f⟩,m⟩ hK;have c0:=i.cell;have c1:=f.cell;have f0:=i.frozen;have f1:=f.frozen;obtain⟨O,P⟩:=YV hG ((Da C).srt ns b u) ((Da C).en ns b u);rw[aa,O]at c0 i;rw[aa,P]at c1 f;have A:=i;have B:=f;clear i f
  gi_wp2
  gi_region
  all_goals gi_wp2
  have b0:Boxed ((W.setCell ⟨w.heap.size,0,none⟩ (.int .i64 (cD G ns:Nat))).setCell ⟨w.heap.size+1,0,none⟩ (.int .i64 (cE G ns:Nat))).drew w.heap.size 3 (.int .i64 (cD G ns:Nat)):=(A.set _).other (by omega) _;have S:Boxed ((W.setCell ⟨w.heap.size,0,none⟩ (.int .i64 (cD G ns:Nat))).setCell ⟨w.heap.size+1,0,none⟩ (.int .i64 (cE G ns:Nat))).drew (w.heap.size+1) 3 (.int .i64 (cE G ns:Nat)):=(B.other (by omega) _).set _;have af:Bw w ((W.setCell ⟨w.heap.size,0,none⟩ (.int .i64 (cD G ns:Nat))).setCell ⟨w.heap.size+1,0,none⟩ (.int .i64 (cE G ns:Nat))).drew:=((m.setCell (p:=⟨w.heap.size,0,none⟩) (Aa _) _).setCell (p:=⟨w.heap.size+1,0,none⟩) (EI _) _).drew;have z:((W.setCell ⟨w.heap.size,0,none⟩ (.int .i64 (cD G ns:Nat))).setCell ⟨w.heap.size+1,0,none⟩ (.int .i64 (cE G ns:Nat))).drew.heap[D]?=some (.deferred (some [])):=(((Cy W ⟨w.heap.size,0,none⟩ (.int .i64 (cD G ns:Nat))).trans (Cy _ ⟨w.heap.size+1,0,none⟩ (.int .i64 (cE G ns:Nat)))).trans (KeepsOthers.drew _)).same D _ hK rfl;obtain⟨v,ay⟩:∃v,((W.setCell ⟨w.heap.size,0,none⟩ (.int .i64 (cD G ns:Nat))).setCell ⟨w.heap.size+1,0,none⟩ (.int .i64 (cE G ns:Nat))).drew=v:=⟨_,rfl⟩;rw[ay]at b0 S af z ⊢;have av:=(b0.kept (FF v D (.deferred none)) (fun e=>by cases e;have:=b0.symm.trans z;cases this)).cell;have aw:=(S.kept (FF v D (.deferred none)) (fun e=>by cases e;have:=S.symm.trans z;cases this)).cell;refine⟨by simp,.inl ⟨_,_,rfl,Cb z,?_⟩⟩;refine⟨.tuple #[.int .i64 (cD G ns:Nat),.int .i64 (cE G ns:Nat)],?_,rfl,af.trans (E4 (w:=w) (Aa _) v D _ _ (by omega) z rfl rfl)⟩;simp[results,Tryz.results143,go_sem,av,aw]
 case stop=>
  rintro D c a W _ _ h _;exact h.elim
theorem F4.le{G:Gh}(a:Gt G){c:Nat}{ns:LY}{b:Nat}(h:F4 G c ns b):ns.length<=6:=by
 rcases h with⟨rfl,_⟩|h
 ·exact Aw _
 ·exact a.le _ h
theorem Wt(G:Gh)(c:Gt G)(j:G.length<=10000)(a:Nat)(V:NV)(E:NS):∀(d:Nat) (ns:LY) (b:Nat) (w:World),6<=ns.length+d->F4 G a ns b->GC w G a V E->
  Cl 143 #[.pointer (some ⟨b,0,none⟩)] w fun e w'=>e = .returned (.tuple #[.int .i64 (cD G ns:Nat),.int .i64 (cE G ns:Nat)])/\Bw w w':=by
 intro d
 induction d with
 | zero=>
  intro ns b w k h g;exact Wu G c j a V E ns b h (fun x i w' _ f _=>by have:=f.le c;simp at this;omega) w g
 | succ d ih=>
  intro ns b w k h g;exact Wu G c j a V E ns b h (fun x i w' _ f l=>ih _ i w' (by simp;omega) f l) w g
end
theorem UF:∀(d xs:LY) (y:By) (ys:LY),xs≠[]->D5 d (xs++y::ys)=D5 d xs++(d++xs)::D5 (d++xs) (y::ys)
 | d,[],y,ys,h=>absurd rfl h
 | d,[x],y,ys,_=>by simp[D5]
 | d,x::x'::xs,y,ys,_=>by
  have:=UF (d++[x]) (x'::xs) y ys (by simp);rw[AI,AI,D5,D5,<-AI,this];simp
theorem Vd(G:Gh):∀(A B:List (LY)),GV G A=0->GV G (A++B)=GV G B
 | [],B,_=>rfl
 | q::A,B,h=>by
  rw[AI,GV];rw[GV]at h
  cases hq:Gr G q with
  | none=>rw[hq]at h;simp at h
  | some u=>
   rw[hq]at h;by_cases a:u.p.isSome=true
   ·simp only[a,if_true]at h ⊢;exact Vd G A B h
   ·simp[a]at h
theorem Ys{G:Gh}{xs:LY}{y:By}{a:LY}(c:xs≠[])(b:GV G (D5 [] xs)=0)(h:Gr G xs=none):GV G (D5 [] (xs++y::a))=3:=by
 rw[UF [] xs y a c,Vd G _ _ b,GV,AA,h]
theorem Yq{G:Gh}{xs:LY}{y:By}{a:LY}{u:VS}(c:xs≠[])(b:GV G (D5 [] xs)=0)(h:Gr G xs=some u)(d:u.p=none):GV G (D5 [] (xs++y::a))=4:=by
 rw[UF [] xs y a c,Vd G _ _ b,GV,AA,h];simp[d]
theorem ah_dir{G:Gh}{xs:LY}{y:By}{u:VS}(b:xs≠[])(a:GV G (D5 [] xs)=0)(h:Gr G xs=some u)(c:u.p.isSome=true):GV G (D5 [] (xs++[y]))=0:=by
 rw[UF [] xs y [] b,Vd G _ _ a,GV,AA,h];simp[c,D5,GV]
def Dn(d:OA)(name:By)(there:Bool)(u:VS):Value := .agg #[.pointer d,.string name,.bool there,.pointer u.p,.int .i64 u.f]
def DF:Value:=Dn none ⟨#[]⟩ false ⟨none,0⟩
def GG(G:Gh)(rd:Nat)(ns:LY)(d:OA)(name:By)(there:Bool)(u:VS):Prop:=
 (ns=[]/\d=none/\name=⟨#[]⟩/\there=true/\u=⟨some ⟨rd,0,none⟩,0⟩)\/
 ∃ds db,ns=ds++[name]/\F4 G rd ds db/\d=some ⟨db,0,none⟩/\there=(Gr G ns).isSome/\u=(Gr G ns).getD ⟨none,0⟩
def YG(G:Gh)(rd:Nat)(ns:LY)(w:World)(e:Ending)(w':World):Prop:=
 ((GV G (D5 [] ns)≠0/\e = .returned (.tuple #[DF,.int .i64 (GV G (D5 [] ns))]))\/
  (GV G (D5 [] ns)=0/\∃d n t u,GG G rd ns d n t u/\e = .returned (.tuple #[Dn d n t u,.int .i64 0])))/\Bw w w'
theorem Ie.at{G:Gh}(d:Gt G){a:LY}{es:LS}(c:Ie G a es){n:By}{r:VS}{b:Bool}(e:Sy es n r b):b=(Gr G (a++[n])).isSome/\r=(Gr G (a++[n])).getD ⟨none,0⟩:=by
 rcases e with⟨rfl,f⟩|⟨rfl,rfl,g⟩
 ·rw[K2 d.nd ((c n r).1 f)];exact⟨rfl,rfl⟩
 ·cases ha:Gr G (a++[n]) with
  | none=>exact⟨rfl,rfl⟩
  | some u=>exact absurd rfl (g (n,u) ((c n u).2 (KE ha)))
theorem NY{w:World}{G:Gh}{a:Nat}{V:NV}{E:NS}(g:GC w G a V E){xs:LY}{d:OA}{n:By}{t:Bool}{u:VS}(h:GG G a xs d n t u):
  (t=false/\xs≠[]/\Gr G xs=none)\/(t=true/\xs≠[]/\Gr G xs=some u/\u.p=none)\/(t=true/\∃b,u=⟨some ⟨b,0,none⟩,0⟩/\F4 G a xs b/\(xs=[]\/Gr G xs=some u)):=by
 rcases h with⟨rfl,_,_,rfl,rfl⟩|⟨c,db,rfl,hd,rfl,rfl,rfl⟩
 ·exact .inr (.inr ⟨rfl,a,rfl,.inl ⟨rfl,rfl⟩,.inl rfl⟩)
 ·cases ha:Gr G (c++[n]) with
  | none=>exact .inl ⟨rfl,by simp,rfl⟩
  | some u=>
   rcases g.shp _ (KE ha) with f|⟨b,e⟩
   ·exact .inr (.inl ⟨rfl,by simp,rfl,f⟩)
   ·simp only at e;exact .inr (.inr ⟨rfl,b,by simpa using e,.inr (by rw[<-e];exact KE ha),.inr rfl⟩)
theorem F0.alloc{w:World}{b:Nat}{t:TypeId}{L:F6}(h:F0 w b t L)(o:Obj):F0 (w.alloc o) b t L:=(BO _ _ _ h.lt).trans h
theorem Jw{w:World}{b:Nat}{t:TypeId}{g i j k l:Value}(h:F0 w b t [g,i,j,k,l])(a c d e f:Value):
  F0 (((((w.setCell ⟨b,0,none⟩ a).setCell ⟨b,1,none⟩ c).setCell ⟨b,2,none⟩ d).setCell ⟨b,3,none⟩ e).setCell ⟨b,4,none⟩ f) b t [a,c,d,e,f]:=by
 have:=((((h.set 0 a).set 1 c).set 2 d).set 3 e).set 4 f
 simpa using this
theorem JH{w w1:World}{B b:Nat}(h:Below B w w1)(a:B<=b)(c d e f g:Value):Below B w (((((w1.setCell ⟨b,0,none⟩ c).setCell ⟨b,1,none⟩ d).setCell ⟨b,2,none⟩ e).setCell ⟨b,3,none⟩ f).setCell ⟨b,4,none⟩ g):=
 ((((h.setCell (p:=⟨b,0,none⟩) a _).setCell (p:=⟨b,1,none⟩) a _).setCell (p:=⟨b,2,none⟩) a _).setCell (p:=⟨b,3,none⟩) a _).setCell (p:=⟨b,4,none⟩) a _
theorem F0.setOther{w:World}{b:Nat}{t:TypeId}{L:F6}(h:F0 w b t L)(a:Addr)(u:Value)(c:a.block≠b):F0 (w.setCell a u) b t L:=by
 unfold F0 at h ⊢;rw[AB _ _ _ _ c.symm];exact h
theorem Mc{w:World}{b a:Nat}{t:TypeId}{L:F6}(h:F0 w b t L)(c:a≠b)(d e f g i:Value):F0 (((((w.setCell ⟨a,0,none⟩ d).setCell ⟨a,1,none⟩ e).setCell ⟨a,2,none⟩ f).setCell ⟨a,3,none⟩ g).setCell ⟨a,4,none⟩ i) b t L:=
 ((((h.setOther ⟨a,0,none⟩ d c).setOther ⟨a,1,none⟩ e c).setOther ⟨a,2,none⟩ f c).setOther ⟨a,3,none⟩ g c).setOther ⟨a,4,none⟩ i c
def MB(G:Gh)(rd:Nat)(ns:LY)(w:World)(i:Value)(wr:World):Prop:=
 ∃k:Nat,k<=ns.length/\i = .int .i64 k/\∃d n t u,GG G rd (ns.take k) d n t u/\GV G (D5 [] (ns.take k))=0/\F0 wr (w.heap.size+1) 262 [.pointer d,.string n,.bool t,.pointer u.p,.int .i64 u.f]/\
  F0 wr w.heap.size 262 [.pointer none,.string ⟨#[]⟩,.bool false,.pointer none,.int .i64 0]/\Bw w wr
theorem WN(w:World)(tb s:Nat)(V:NV)(E:NS)(vi:Value)(G:Gh)(hG:Gt G)(ah:G.length<=10000)(hT:F0 w tb 214 [.pointer (some ⟨s,0,none⟩),vi])(hD:GC w G s V E)
  (ns:LY) (aq:ns.length<=6) (U:OA) (W:Nat) (hN:Sl w 9 1 (.slice U ns.length W) ns.length (ns.map .string)):
  Cl 227 #[.pointer (some ⟨tb,0,none⟩),.slice U ns.length W] w (YG G s ns w):=by
 have ao:=hT.cell 0;have ar:=hT.lt;obtain⟨am,an,e,ae⟩:=hN.rdF
 cases e
 have af:=Db ae;have o:=Db hD;clear ae hD;go_enter Tryz.func227,Tryz.ntmps227;go_wp2
 go_loopw [8,9,10,11,20] (fun _ _ _ _ i wr=>MB G s ns w i wr) (fun _ _ _ _ i _=>ns.length-(intOf i).toNat)
 case atStart=>
  refine⟨0,Aw _,rfl,none,⟨#[]⟩,true,⟨some ⟨s,0,none⟩,0⟩,.inl ⟨rfl,rfl,rfl,rfl,rfl⟩,rfl,?_,?_,((Al _ w).alloc (Aa _) _).alloc (by simp) _⟩
  ·have:=Jh (w.alloc (Obj.cells #[Value.pointer none,Value.string { data := #[] },Value.bool false,Value.pointer none,Value.int IntKind.i64 0] 262)) [Value.pointer none,Value.string { data := #[] },Value.bool true,Value.pointer (some { block:=s,off:=0 }),Value.int IntKind.i64 0] 262
   simpa using this
  ·have:=Jh w [Value.pointer none,Value.string { data := #[] },Value.bool false,Value.pointer none,Value.int IntKind.i64 0] 262;exact(BO _ _ _ (by simp)).trans this
 case round=>
  obtain⟨k,hk,rfl,d,n,t,u,B,z,f,c,j⟩:=hrel;have b0:=c.cell 0;have b1:=c.cell 1;have b2:=c.cell 2;have b3:=c.cell 3;have b4:=c.cell 4;have g0:=c.frozen 0;have g1:=c.frozen 1;have g2:=c.frozen 2;have g3:=c.frozen 3;have g4:=c.frozen 4;have Q:=f.cell 0;have R:=f.cell 1;have S:=f.cell 2;have K:=f.cell 3;have T:=f.cell 4;have Z:=f.frozen 0;have f1:=f.frozen 1;have f2:=f.frozen 2;have f3:=f.frozen 3;have f4:=f.frozen 4;have O:=Db B;have J:=Db z;clear B z;by_cases ac:k<ns.length
  ·obtain⟨y,M⟩:∃y,ns[k]?=some y:=⟨_,Ac ac⟩;obtain⟨g,rfl,q0⟩:=Da af k y M;have aj:g<w.heap.size:=hN.lt rfl;have q1:=(j.cell (p:=⟨g,k,none⟩) aj).trans q0;have P:Hid (ns.take (k+1)=ns.take k++[y]):=by show _=_;rw[BZ,M];rfl
   have N:Hid (ns=ns.take k++y::ns.drop (k+1)):=by
    show _=_;have ak:=Ae.1 M;have:=(B8 k ns).symm;rw[CO ac,ak.2]at this;exact this
   clear q0;rcases NY (Da o) (Da O) with⟨rfl,l,A⟩|⟨rfl,l,A,hu⟩|⟨rfl,b,rfl,q,ad⟩
   ·have m:Hid (GV G (D5 [] ns)=3):=by show _=_;rw[Da N];exact Ys l (Da J) A
    clear A l;go_wp2;have a:=Jw c (.pointer none) (.string ⟨#[]⟩) (.bool false) (.pointer none) (.int .i64 0);have C:=a.cell 0;have D:=a.cell 1;have F:=a.cell 2;have H:=a.cell 3;have I:=a.cell 4;exact Ax (v := .tuple #[DF,.int .i64 3]) (by simp[results,Tryz.results227,go_sem,C,D,F,H,I,DF,Dn]) rfl
     ⟨.inl ⟨by rw[Da m];decide,by rw[Da m]⟩,JH j (Aa _) _ _ _ _ _⟩
   ·have m:Hid (GV G (D5 [] ns)=4):=by show _=_;rw[Da N];exact Yq l (Da J) A hu
    rw[hu]at K;clear A l;go_wp2;have a:=Jw c (.pointer none) (.string ⟨#[]⟩) (.bool false) (.pointer none) (.int .i64 0);have C:=a.cell 0;have D:=a.cell 1;have F:=a.cell 2;have H:=a.cell 3;have I:=a.cell 4;exact Ax (v := .tuple #[DF,.int .i64 4]) (by simp[results,Tryz.results227,go_sem,C,D,F,H,I,DF,Dn]) rfl
     ⟨.inl ⟨by rw[Da m];decide,by rw[Da m]⟩,JH j (Aa _) _ _ _ _ _⟩
   ·have ab:=OJ wr b 0 (V b) (E b) y (((j.cell (p:=⟨b,0,none⟩) ((Da o).row _ b q).lt)).trans (((Da o).row _ b q).cell 0)) ((((Da o).below j (Aa _))).sl _ b q) (Ag ((Da o).le hG q) ah) ((Da o).srt _ b q);go_wp2_with fail;refine ab.mono ?_;rintro e w2 ⟨r,x,rfl,aa,L⟩;obtain⟨X,Y⟩:=Ie.at hG ((Da o).en _ b q) aa;have ag:Hid (GG G s (ns.take (k+1)) (some ⟨b,0,none⟩) y x r):=by
     show GG _ _ _ _ _ _ _;rw[Da P];exact .inr ⟨_,b,rfl,q,rfl,X,Y⟩
    have m:Hid (GV G (D5 [] (ns.take (k+1)))=0):=by
     show _=_;rw[Da P];rcases ad with e|ha
     ·rw[e];rfl
     ·by_cases l:ns.take k=[]
      ·rw[l];rfl
      ·exact ah_dir l (Da J) ha rfl
    have h:F0 w2 _ _ _:=(L.block _ f.lt).trans f;have al:F0 w2 _ _ _:=(L.block _ c.lt).trans c;have ap:w.heap.size+1<w2.heap.size:=h.lt;have ai:Bw w w2:=j.trans (L.mono j.size);clear ab aa X Y ad b0 b1 b2 b3 b4 g0 g1 g2 g3 g4 Q R S K T Z f1 f2 f3 f4;have Q:=h.cell 0;have R:=h.cell 1;have S:=h.cell 2;have K:=h.cell 3;have T:=h.cell 4;have Z:=h.frozen 0;have f1:=h.frozen 1;have f2:=h.frozen 2;have f3:=h.frozen 3;have f4:=h.frozen 4;go_wp2
    go_roundw
    case rel=>
     refine⟨k+1,by omega,by go_num,some ⟨b,0,none⟩,y,x,r,Da ag,Da m,?_,?_,?_⟩
     ·exact F0.alloc (Jw h (.pointer (some ⟨b,0,none⟩)) (.string y) (.bool x) (.pointer r.p) (.int .i64 r.f)) _
     ·exact F0.alloc (Mc al (by omega) (.pointer (some ⟨b,0,none⟩)) (.string y) (.bool x) (.pointer r.p) (.int .i64 r.f)) _
     ·have h5:=JH ai (EI _) (.pointer (some ⟨b,0,none⟩)) (.string y) (.bool x) (.pointer r.p) (.int .i64 r.f);exact h5.alloc h5.size _
    case measure=>simp[intOf];omega
  ·obtain rfl:k=ns.length:=by omega
   go_wp2;have a:=Jw c (.pointer d) (.string n) (.bool t) (.pointer u.p) (.int .i64 u.f);have C:=a.cell 0;have D:=a.cell 1;have F:=a.cell 2;have H:=a.cell 3;have I:=a.cell 4;have z:=Da J;have B:=Da O;rw[CT]at z B;exact Ax (v := .tuple #[Dn d n t u,.int .i64 0]) (by simp[results,Tryz.results227,go_sem,C,D,F,H,I,Dn]) rfl
    ⟨.inr ⟨z,d,n,t,u,B,rfl⟩,JH j (Aa _) _ _ _ _ _⟩
def Gs(w:World):Prop:=(∃m,w.cell? ⟨0,0,none⟩=some (.int .i64 m))/\∀t R,F0 w 0 t R->t=3
def Dc(s:By):F6:=s.data.toList.map (fun b => .int .u8 (b.toNat:Int))
structure TW(w:World)(tb rd:Nat)(V:NV)(E:NS)(vi:Value)(G:Gh)(I:LF)(C:IB):Prop where
 pk:Gs w
 t:F0 w tb 214 [.pointer (some ⟨rd,0,none⟩),vi]
 d:GC w G rd V E
 i:Sl w 293 3 vi I.length (Du I)
 si:Gn I
 dat:∀x∈I,Sl w 5 1 (.slice x.2.a x.2.l x.2.c) x.2.l (Dc (C x.1))
 lo:tb<=rd+1/\∀g,vi.ownBlock=some g->rd<=g
theorem Gs.fr{X:Nat->Prop}{w w':World}(h:Gs w)(f:Fr X w w')(e:¬X 0):Gs w':=by
 obtain⟨⟨m,c⟩,g⟩:=h;have d:0<w.heap.size:=Aj _ _ c;have b:=f.block 0 d e;refine⟨⟨m,?_⟩,fun t R a=>g t R ?_⟩
 ·rw[<-c];unfold World.cell?;rw[b]
 ·unfold F0 at a ⊢;rw[<-b];exact a
theorem TW.fr{X:Nat->Prop}{w w':World}{tb i:Nat}{V:NV}{E:NS}{j:Value}{G:Gh}{I:LF}{C:IB}(h:TW w tb i V E j G I C)(c:Fr X w w')(l:¬X 0)
  (b:∀k t R,X k->F0 w k t R->t≠214/\t≠229/\t≠310/\t≠293/\t≠5):TW w' tb i V E j G I C:=
 ⟨h.pk.fr c l,h.t.fr c (fun e=>(b _ _ _ e h.t).1 rfl),h.d.fr c (fun k t R e a=>⟨(b k t R e a).2.1,(b k t R e a).2.2.1⟩),
  h.i.fr c (fun g d e=>by obtain⟨R,a⟩:=h.i.type d;exact(b _ _ _ e a).2.2.2.1 rfl),h.si,
  fun x f=>(h.dat x f).fr c (fun g d e=>by obtain⟨R,a⟩:=(h.dat x f).type d;exact(b _ _ _ e a).2.2.2.2 rfl),h.lo⟩
theorem TW.dlo{w:World}{tb a:Nat}{V:NV}{E:NS}{f:Value}{G:Gh}{I:LF}{C:IB}(h:TW w tb a V E f G I C){ns:LY}{b:Nat}(d:F4 G a ns b):tb<=b+1/\∀g,(V b).ownBlock=some g->tb<=g+1:=by
 have h1:=h.lo.1;have c:=h.d.lo ns b d;exact⟨by omega,fun g e=>by have:=c.2 g e;omega⟩
theorem TW.below{w w':World}{tb a:Nat}{V:NV}{E:NS}{b:Value}{G:Gh}{I:LF}{C:IB}(h:TW w tb a V E b G I C){B:Nat}(d:Below B w w')(c:w.heap.size<=B):TW w' tb a V E b G I C:=
 h.fr (X:=fun _=>False) (Fr.of_below (d.mono c)) id (fun _ _ _ e=>e.elim)
def DM(G:Gh)(p:By)(fits:Bool):Int:=if DU p=false then 1 else if fits=false then 2 else GV G (D5 [] (Df p))
def YI(G:Gh)(rd:Nat)(p:By)(fits:Bool)(w:World)(e:Ending)(w':World):Prop:=
 ((DM G p fits≠0/\e = .returned (.tuple #[DF,.int .i64 (DM G p fits)]))\/
  (DM G p fits=0/\DU p=true/\∃d n t u,GG G rd (Df p) d n t u/\e = .returned (.tuple #[Dn d n t u,.int .i64 0])))/\Bw w w'
theorem UG{p:By}(h:DU p=true):(Df p).length<=6:=by
 cases hr:(p.toList==[47]) with
 | true=>rw[Uw hr];exact Aw _
 | false=>exact(QX h hr).2.2.2
theorem Ol(w:World)(tb P:Nat)(V:NV)(E:NS)(vi:Value)(G:Gh)(I:LF)(C:IB)(h:TW w tb P V E vi G I C)(hG:Gt G)(ae:G.length<=10000)(p:By)(hp:p.size<=2000000)(y:Bool):
  Cl 184 #[.pointer (some ⟨tb,0,none⟩),.string p,.bool y] w (YI G P p y w):=by
 obtain⟨m,X⟩:=h.pk.1;have h0:0<w.heap.size:=Aj _ _ X;have N:∀o,Bw w (w.alloc o):=fun o=>(Al _ _).alloc (Aa _) o
 have Y:=fun o=>Rp p m (w.alloc o) hp (((N o).cell (p:=⟨0,0,none⟩) h0).trans X)
 have Z:=Jh w [.pointer none,.string ⟨#[]⟩,.bool false,.pointer none,.int .i64 0] 262;have ac:=Db Z;clear Z;go_enter Tryz.func184,Tryz.ntmps184;go_wp2_with fail;refine(Y _).mono ?_;rintro e w1 ⟨O,R⟩;have x:Bw w w1:=(N _).trans (R.mono (by simp));have b:F0 w1 w.heap.size 262 _:=(R.block _ (by simp)).trans (Da ac);have HH:=Db h;clear Y N h;rcases O with⟨j,rfl⟩|⟨j,a,c,rfl,af⟩
 ·have i:Hid (DM G p y=1):=by show _=_;unfold DM;rw[if_pos j]
  have H:=b.frozen 0;have J:=b.frozen 1;have K:=b.frozen 2;have L:=b.frozen 3;have M:=b.frozen 4;have z:=b.cell 0;have A:=b.cell 1;have B:=b.cell 2;have D:=b.cell 3;have F:=b.cell 4;clear j;go_wp2;have f:=Jw b (.pointer none) (.string ⟨#[]⟩) (.bool false) (.pointer none) (.int .i64 0);have k:=f.cell 0;have l:=f.cell 1;have q:=f.cell 2;have r:=f.cell 3;have s:=f.cell 4;exact Ax (v := .tuple #[DF,.int .i64 1]) (by simp[results,Tryz.results184,go_sem,k,l,q,r,s,DF,Dn]) rfl
   ⟨.inl ⟨by rw[Da i];decide,by rw[Da i]⟩,JH x (Aa _) _ _ _ _ _⟩
 ·have H:=b.frozen 0;have J:=b.frozen 1;have K:=b.frozen 2;have L:=b.frozen 3;have M:=b.frozen 4;have z:=b.cell 0;have A:=b.cell 1;have B:=b.cell 2;have D:=b.cell 3;have F:=b.cell 4
  cases y with
  | false=>
   have i:Hid (DM G p false=2):=by show _=_;unfold DM;rw[if_neg (by rw[j];simp),if_pos rfl]
   clear j;go_wp2;have f:=Jw b (.pointer none) (.string ⟨#[]⟩) (.bool false) (.pointer none) (.int .i64 0);have k:=f.cell 0;have l:=f.cell 1;have q:=f.cell 2;have r:=f.cell 3;have s:=f.cell 4;exact Ax (v := .tuple #[DF,.int .i64 2]) (by simp[results,Tryz.results184,go_sem,k,l,q,r,s,DF,Dn]) rfl
    ⟨.inl ⟨by rw[Da i];decide,by rw[Da i]⟩,JH x (Aa _) _ _ _ _ _⟩
  | true=>
   have i:Hid (DM G p true=GV G (D5 [] (Df p))):=by show _=_;unfold DM;rw[if_neg (by rw[j];simp),if_neg (by simp)]
   have Q:=(Da HH).below x (Aa _);have W:=WN w1 tb P V E vi G hG ae Q.t Q.d (Df p) (UG j) a c af;have HN:=Db j;clear j;go_wp2_with fail;refine W.mono ?_;rintro e w2 ⟨O,S⟩;have g:F0 w2 w.heap.size 262 _:=(S.block _ b.lt).trans b;have T:Bw w w2:=x.trans (S.mono x.size);clear W H J K L M z A B D F;have H:=g.frozen 0;have J:=g.frozen 1;have K:=g.frozen 2;have L:=g.frozen 3;have M:=g.frozen 4;have z:=g.cell 0;have A:=g.cell 1;have B:=g.cell 2;have D:=g.cell 3;have F:=g.cell 4;rcases O with⟨ag,rfl⟩|⟨U,d,n,t,u,aa,rfl⟩
   ·unfold DF Dn;go_wp2;have f:=Jw g (.pointer none) (.string ⟨#[]⟩) (.bool false) (.pointer none) (.int .i64 0);have k:=f.cell 0;have l:=f.cell 1;have q:=f.cell 2;have r:=f.cell 3;have s:=f.cell 4;exact Ax (v := .tuple #[DF,.int .i64 (GV G (D5 [] (Df p)))]) (by simp[results,Tryz.results184,go_sem,k,l,q,r,s,DF,Dn]) rfl
     ⟨.inl ⟨by rw[Da i];exact ag,by rw[Da i]⟩,JH T (Aa _) _ _ _ _ _⟩
   ·have ad:=Db aa;have ab:=Db U;clear aa U;unfold Dn;go_wp2;have f:=Jw g (.pointer d) (.string n) (.bool t) (.pointer u.p) (.int .i64 u.f);have k:=f.cell 0;have l:=f.cell 1;have q:=f.cell 2;have r:=f.cell 3;have s:=f.cell 4;exact Ax (v := .tuple #[Dn d n t u,.int .i64 0]) (by simp[results,Tryz.results184,go_sem,k,l,q,r,s,Dn]) rfl
     ⟨.inr ⟨(Da i).trans (Da ab),Da HN,d,n,t,u,Da ad,rfl⟩,JH T (Aa _) _ _ _ _ _⟩
def H3(G:Gh)(p:By):Int:=if DM G p true≠0 then DM G p true else if Df p≠[]/\Gr G (Df p)=none then 3 else 0
def ZmT(G:Gh)(rd:Nat)(p:By)(w:World)(e:Ending)(w':World):Prop:=
 ((H3 G p≠0/\e = .returned (.tuple #[DF,.int .i64 (H3 G p)]))\/
  (H3 G p=0/\DU p=true/\∃d n u,GG G rd (Df p) d n true u/\e = .returned (.tuple #[Dn d n true u,.int .i64 0])))/\Bw w w'
theorem Wf{G:Gh}{b:Nat}{ns:LY}{d:OA}{n:By}{t:Bool}{u:VS}(h:GG G b ns d n t u):(t=false↔ns≠[]/\Gr G ns=none):=by
 rcases h with⟨rfl,_,_,rfl,_⟩|⟨a,db,rfl,_,_,rfl,_⟩
 ·simp
 ·cases Gr G (a++[n])<;>simp
end Go.Proofs.YtaieidcohdhgpaaGreatDoor
