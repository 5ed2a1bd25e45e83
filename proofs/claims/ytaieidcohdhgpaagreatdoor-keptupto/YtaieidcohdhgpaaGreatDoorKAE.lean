/- Kept. -/
import Derived.Test.YtaieidcohdhgpaaGreatDoorKAD
namespace Go.Proofs.YtaieidcohdhgpaaGreatDoor
variable{n y:By}{x:By×VS}{L:Gf}{G G':Gh}{C:IB}{I:LF}{g:LS}{ns:LY}{E:NS}{V:NV}{B a b c j k m nb tb:Nat}{X:Nat->Prop}{α:Type}{u:VS}{f o q v:Value}{w' w2:World}
set_option maxHeartbeats 40000000
set_option maxRecDepth 100000
set_option linter.all false
open Go.RowKit
def Gd(G:Gh)(rd:Nat)(ns:LY)(b:Nat):Prop:=(ns=[]/\b=rd)\/(ns,(⟨some (dQ b 0),0⟩:VS))∈G
structure GB(w:World)(G:Gh)(rd:Nat)(V:NV)(E:NS):Prop where
 c9:∀x∈G,x.2.p=none\/∃b,x.2=⟨some (dQ b 0),0⟩
 row:∀ns b,Gd G rd ns b->Gb w b 229 [V b]
 sl:∀ns b,Gd G rd ns b->Sl w 310 3 (V b) (E b).length (Ds (E b))
 ak:∀ns b,Gd G rd ns b->GA (E b)
 en:∀ns b,Gd G rd ns b->Ib G ns (E b)
 inj:∀ns ns' b,Gd G rd ns b->Gd G rd ns' b->ns=ns'
 aq:∀ns ns' b b' g,Gd G rd ns b->Gd G rd ns' b'->(V b).ownBlock=some g->(V b').ownBlock=some g->b=b'
 lo:∀ns b,Gd G rd ns b->rd<=b/\∀g,(V b).ownBlock=some g->rd<=g
theorem GB.e{w:World}{d:Nat}(h:GB w G d V E)(c:Fr X w w')(f:∀k t R,X k->Gb w k t R->t≠229/\t≠310):GB w' G d V E:=
 ⟨h.c9,λns b a=>(h.row ns b a).e c (λe=>(f _ _ _ e (h.row ns b a)).1 rfl),
  λns b a=>(h.sl ns b a).e c (λg i e=>by obtain⟨R,hR⟩:=(h.sl ns b a).type i;grind),
  h.ak,h.en,h.inj,h.aq,h.lo⟩
theorem GB.below{w:World}(h:GB w G a V E)(c:Below B w w')(b:w.heap.size<=B):GB w' G a V E:=
 h.e (X:=λ_=>False) (Fr.S (c.Q b)) Γ
theorem GB.len{w:World}(h:GB w G c V E)(d:Gp G)(a:Gd G c ns b):(E b).length=G.countP (GH ns):=(h.en ns b a).length d (h.ak ns b a)
theorem GB.le{w:World}(h:GB w G a V E)(c:Gp G)(d:Gd G a ns b):(E b).length<=G.length:=by rw[h.len c d];grind
theorem GB.sub{w:World}(h:GB w G c V E)(d:Gd G c ns b)(g:x∈E b):
  x.2.p=none\/∃a,x.2=⟨some (dQ a 0),0⟩/\Gd G c (ns++[x.1]) a:=by
 have f:=(h.en ns b d _ _).1 g;rcases h.c9 _ f with h0|⟨a,e⟩;simp_all;exact .inr ⟨a,e,.inr Ξ⟩
def fD(G:Gh)(ns:LY)(x:By×VS):Nat:=if x.2.p.isSome=true then cD G (ns++[x.1]) else 0
def fE(G:Gh)(ns:LY)(x:By×VS):Nat:=if x.2.p.isSome=true then cE G (ns++[x.1]) else 0
def JH(f:By×VS->Nat)(l:LS):Nat:=(l.map f).sum
theorem R6(f:By×VS->Nat)(l:LS)(x:By×VS):JH f (l++[x])=JH f l+f x:=by simp[JH]
theorem XI(f:By×VS->Nat)(m:Nat)(hf:∀x,f x<=m)(l:LS):JH f l<=l.length*m:=by
 induction l with
 |nil=>simp[JH]
 |cons a l ih=>
  grind [JH,List.length_cons,Nat.add_mul]
theorem SY(G:Gh)(ns:LY):cD G ns<=1+G.length:=by simp_all[cD,List.countP_le_length]
theorem cE_le(G:Gh)(ns:LY):cE G ns<=G.length:=by grind [cE,List.countP_le_length]
theorem fD_le(G:Gh)(ns:LY)(x:By×VS):fD G ns x<=1+G.length:=by grind [fD,SY]
theorem fE_le(G:Gh)(ns:LY)(x:By×VS):fE G ns x<=G.length:=by grind [fE,cE_le]
theorem ZqB(c:Gp G){b:LS}(g:GA b)(d:Ib G ns b):∀k,k<=b.length->
  QK G (λx=>x.2.p.isSome) ns (Iv (b.take k))=JH (fD G ns) (b.take k)/\QK G (λ_=>true) ns (Iv (b.take k))=k+JH (fE G ns) (b.take k):=by
 intro k
 induction k with
 |zero=>
  grind [QK,List.countP_eq_zero,Iv,JH]
 |succ k ih=>
  intro hk;obtain⟨i,j⟩:=ih Ω;have e:k<b.length:=Ω;have h:b.take (k+1)=b.take k++[b[k]]:=Ξ;have f:=(d b[k].1 b[k].2).1 (BE e);rw[YF c _ g d k e,YF c _ g d k e,i,j,h,R6,R6];unfold fD fE cD cE;cases hp:b[k].2.p with
  |none=>
   rw[Ziu c (λx=>x.2.p.isSome) f hp,Ziu c (λ_=>true) f hp];grind
  |some a=>grind
theorem ZsS(d:Gp G){a:LS}(f:GA a)(e:Ib G ns a):1+JH (fD G ns) a=cD G ns/\a.length+JH (fE G ns) a=cE G ns:=by obtain⟨b,c⟩:=ZqB d f e _ (Aa _);rw[BD,ZrR d _ e]at b c;exact⟨by rw[<-b];rfl,by rw[<-c];rfl⟩
section
open Tryz
open Go.RowKit Go.Shelf
attribute [local go_sem] Oper.semAt_some
theorem Zil(G:Gh)(hG:Gp G)(ah:G.length<=10000)(N:Nat)(V:NV)(E:NS)(ns:LY)(b:Nat)(u:Gd G N ns b)(an:∀x F w,x∈E b->Gd G N (ns++[x.1]) F->GB w G N V E->Cl 143 #[dP F] w λe w'=>e=dR (.tuple #[dI (cD G (ns++[x.1]):Nat),dI (cE G (ns++[x.1]):Nat)])/\Bw w w')(w:World)(h:GB w G N V E):
  Cl 143 #[dP b] w λe w'=>e=dR (.tuple #[dI (cD G ns:Nat),dI (cE G ns:Nat)])/\Bw w w':=by
 have hS:=h.sl ns b u;have aE:=h.le hG u;have ao:=h.row ns b u;have hc:=ao.J 0;have ak:b<w.heap.size:=ao.lt;have am:=λ(W:World) (hb:Bw w W)=>LR W b 0 (V b) (E b).length (Ds (E b)) ((hb.J (p:=dQ b 0) ak).M hc) (hS.kept (λk hk _=>hb.block k hk));have af:=Db am;clear am;refine(Bg (n:=3)).1 ?_;refine BY func143 rfl trivial ?_ rfl;simp only[ntmps143,AS,Ay,AR,Nat.reduceAdd,Nat.reduceSub,AY,AX,Be,A5,AH,AK]
 gi_wp2_with (refine⟨trivial,?_⟩;first|(gi_at_call 178;apply(Bg.2 (Da af _ (by exact((Ad _ w).alloc (Aa _) _).alloc Θ _))).Q;rintro e w'⟨rfl,hw⟩;rw[hw];clear hw)|(gi_at_call 179;apply(P9 _ _ trivial rfl _ _).Q;rintro e w'⟨rfl,rfl⟩))
 obtain⟨j,q⟩:∃j,((w.alloc (Obj.cells #[Value.int IntKind.i64 1] 3)).alloc (Obj.cells #[Value.int IntKind.i64 ((E b).length:Nat)] 3)).alloc (Obj.cells #[Value.pointer (some { block:=b,off:=0 })] 307)=j:=⟨_,rfl⟩;rw[q];have aM:j.heap.size=w.heap.size+3:=by rw[<-q];simp
 have aa:Bw w j:=by rw[<-q];exact(((Ad _ w).alloc (Aa _) _).alloc Θ _).alloc (by simp;omega) _
 have aA:Boxed j w.heap.size 3 (dI 1):=by rw[<-q];exact((Fx w 3 _).alloc _).alloc _
 have aB:Boxed j (w.heap.size+1) 3 (dI ((E b).length:Nat)):=by rw[<-q];have:=(Fx (w.alloc (Obj.cells #[Value.int IntKind.i64 1] 3)) 3 (dI ((E b).length:Nat))).alloc (Obj.cells #[Value.pointer (some { block:=b,off:=0 })] 307);simpa using this
 have aC:Boxed j (w.heap.size+1+1) 307 (dP b):=by rw[<-q];have:=Fx ((w.alloc (Obj.cells #[Value.int IntKind.i64 1] 3)).alloc (Obj.cells #[Value.int IntKind.i64 ((E b).length:Nat)] 3)) 307 (dP b);simpa using this
 have ay:Sl j 310 3 (V b) (E b).length (Ds (E b)):=hS.kept (λk hk _=>aa.block k hk);have aD:j.cell? (dQ b 0)=some (V b):=(aa.J (p:=dQ b 0) ak).M hc;have ab:(E b).attach.map (λx=>x.1)=E b:=CD _;have av:=Db an;have C:=Db h;clear q an h af;refine Fa (α:={ x // x∈E b }) rfl Ω (gf:=222) (lb:=#[.pointer (some ⟨w.heap.size+1+1,0,none⟩)]) rfl trivial (EX func222 Φ rfl)
  (VM Fence.wide 2 trivial rfl Ω (w.heap.size+1+1) w.heap.size b 0 (V b) (λx=>x.1) (E b).attach (by simpa using Ae aE ah) j Ω Ω Ω aC.J aD (by rw[ab];simpa using ay) (λg hg=>hS.lt hg))
  belowK_t (EU Ω) (Ad _ _) (λ_=>rfl)
  (λa W=>(Boxed W w.heap.size 3 (dI ((1+JH (fD G ns) (a.map (·.1)):Nat):Int))/\Boxed W (w.heap.size+1) 3 (dI (((E b).length+JH (fE G ns) (a.map (·.1)):Nat):Int)))/\Bw w W)
  (λ_ _ _=>False)
  (Es (Es (Own.from (boxed_own _ _ _) _) (Own.from (boxed_own _ _ _) _)) (Fl (Aa _) Ω))
  (λ_ _ _ _ _ hs _ _=>hs)
  ⟨⟨aA,aB⟩,aa⟩
  (λx R W=>∃o,w.heap.size+1<o/\Gb W o 260 [.pointer x.1.2.p,dI x.1.2.f]/\R={ tmps:=#[dP b,undef,dP w.heap.size,.pointer (some ⟨w.heap.size+1,0,none⟩),undef,dP o,undef,undef,dP b,dP b,dP b,dI ((E b).length:Nat),dP b,dP b,dP b,.func (.func 222) #[] #[.pointer (some ⟨w.heap.size+1+1,0,none⟩)],dU x.1.1,.agg #[.pointer x.1.2.p,dI x.1.2.f],undef,undef,undef,undef,undef,undef,undef,undef,undef,undef,undef,undef,undef,undef,undef,undef,undef],defers:=[] })
  (λx R _ X Y row hs hg hr=>by obtain⟨o,h1,h2,h3⟩:=hs;exact⟨o,h1,(U5 (β:=Unit) o 260 (λ_=>_)).from _ () X Y row h2 hg hr,h3⟩)
  ?assign ?body ?done ?stop
 case assign=>
  rintro l a x W K⟨⟨i,f⟩,m⟩ hK
  gi_wp2
  refine hK _ _ ((El _ _).from _) ((Ad _ W).alloc m.size _) ⟨⟨i.alloc _,f.alloc _⟩,m.alloc m.size _⟩ ⟨W.heap.size,f.lt,D9 W _ _,rfl⟩
 case body=>
  rintro l a x R W aI⟨r,hr⟩ ⟨⟨i,f⟩,m⟩ ⟨o,aH,bX,rfl⟩ aF;have aL:a.length<(E b).length:=by simpa using aF
  have I:=XI (fD G ns) 10001 (λy=>Ae (fD_le G ns y) Ω) (a.map (·.1));have J:=XI (fE G ns) 10000 (λy=>Ae (fE_le G ns y) Ω) (a.map (·.1));rw[AT]at I J;have U:JH (fD G ns) ((a++[x]).map (·.1))=JH (fD G ns) (a.map (·.1))+fD G ns x.1:=by rw[AE,A6,CF,R6]
  have Z:JH (fE G ns) ((a++[x]).map (·.1))=JH (fE G ns) (a.map (·.1))+fE G ns x.1:=by rw[AE,A6,CF,R6]
  obtain⟨O,ap⟩:=ex (JH (fD G ns) (a.map (·.1)));obtain⟨P,aq⟩:=ex (JH (fE G ns) (a.map (·.1)));rw[<-ap]at I U i;rw[<-aq]at J Z f;have E1:=Db U;have E2:=Db Z;clear ap aq U Z;have x0:=bX.J 0;have aJ:O<=100010000:=Ae I Ω;have aK:P<=100000000:=Ae J Ω;clear I J;rcases(Da C).sub u x.2 with hp|⟨F,ae,aG⟩
  .have L:fD G ns x.1=0:=(by unfold fD;rw[hp];rfl);have M:fE G ns x.1=0:=(by unfold fE;rw[hp];rfl);rw[hp]at x0
   gi_wp2
   exact⟨(KeepsOthers.refl _).from _,Ad _ _,⟨by rw[Da E1,L];exact i,by rw[Da E2,M];exact f⟩,m⟩
  .have L:fD G ns x.1=cD G (ns++[x.1.1]):=(by unfold fD;rw[ae];rfl);have M:fE G ns x.1=cE G (ns++[x.1.1]):=(by unfold fE;rw[ae];rfl);have ai:=Ae (SY G (ns++[x.1.1])) (by omega:_<=10001);have aj:=Ae (cE_le G (ns++[x.1.1])) ah;have t:=Da av x.1 F W x.2 aG ((Da C).below m (Aa _));rw[ae]at x0;rw[<-L]at t ai;rw[<-M]at t aj;obtain⟨d1,ac⟩:=ex (fD G ns x.1);obtain⟨d2,ad⟩:=ex (fE G ns x.1);have ar:=Db ac;have au:=Db ad;rw[<-ac]at t ai;rw[<-ad]at t aj;clear L M ac ad
   gi_wp2_with fail
   refine⟨trivial,?_⟩;apply(CQ l (Bg.2 t)).Q;rintro e Q⟨rfl,H⟩;have A:Boxed Q w.heap.size 3 _:=(H.block _ i.lt).M i;have B:Boxed Q (w.heap.size+1) 3 _:=(H.block _ f.lt).M f;have c0:=A.J;have c1:=B.J;have f0:=A.A;have f1:=B.A;clear t
   gi_wp2
   have v1:(1+(O:Int)+(d1:Int))=((1+JH (fD G ns) ((a++[x]).map (·.1)):Nat):Int):=(by rw[Da E1,<-Da ar];omega);have v2:(((E b).length:Int)+(P:Int)+(d2:Int))=(((E b).length+JH (fE G ns) ((a++[x]).map (·.1)):Nat):Int):=(by rw[Da E2,<-Da au];omega);have al:Below w.heap.size W Q:=H.Q m.size;refine⟨((Ws H).M ((B3 _ _ _).M (B3 _ _ _))).from _,(al.setCell (p:=dQ w.heap.size 0) (Aa _) _).setCell (p:=⟨w.heap.size+1,0,none⟩) (Ef _) _,⟨?_,?_⟩,((m.M al).setCell (p:=dQ w.heap.size 0) (Aa _) _).setCell (p:=⟨w.heap.size+1,0,none⟩) (Ef _) _⟩;rw[v1];exact(A.set _).other Ω _;rw[v2];exact(B.other Ω _).set _
 case done=>
  rintro D ys W hD rfl⟨⟨i,f⟩,m⟩ hK;have c0:=i.J;have c1:=f.J;have f0:=i.A;have f1:=f.A;obtain⟨O,P⟩:=ZsS hG ((Da C).ak ns b u) ((Da C).en ns b u);rw[ab,O]at c0 i;rw[ab,P]at c1 f;have A:=i;have B:=f;clear i f
  gi_wp2
  gi_region
  all_goals gi_wp2
  have S:Boxed ((W.setCell (dQ w.heap.size 0) (dI (cD G ns:Nat))).setCell ⟨w.heap.size+1,0,none⟩ (dI (cE G ns:Nat))).drew w.heap.size 3 (dI (cD G ns:Nat)):=(A.set _).other Ω _;have T:Boxed ((W.setCell (dQ w.heap.size 0) (dI (cD G ns:Nat))).setCell ⟨w.heap.size+1,0,none⟩ (dI (cE G ns:Nat))).drew (w.heap.size+1) 3 (dI (cE G ns:Nat)):=(B.other Ω _).set _;have ag:Bw w ((W.setCell (dQ w.heap.size 0) (dI (cD G ns:Nat))).setCell ⟨w.heap.size+1,0,none⟩ (dI (cE G ns:Nat))).drew:=((m.setCell (p:=dQ w.heap.size 0) (Aa _) _).setCell (p:=⟨w.heap.size+1,0,none⟩) (Ef _) _).drew;have z:((W.setCell (dQ w.heap.size 0) (dI (cD G ns:Nat))).setCell ⟨w.heap.size+1,0,none⟩ (dI (cE G ns:Nat))).drew.heap[D]?=some (.deferred (some [])):=(((B3 W (dQ w.heap.size 0) (dI (cD G ns:Nat))).M (B3 _ ⟨w.heap.size+1,0,none⟩ (dI (cE G ns:Nat)))).M (KeepsOthers.drew _)).same D _ hK rfl;obtain⟨v,az⟩:∃v,((W.setCell (dQ w.heap.size 0) (dI (cD G ns:Nat))).setCell ⟨w.heap.size+1,0,none⟩ (dI (cE G ns:Nat))).drew=v:=⟨_,rfl⟩;rw[az]at S T ag z ⊢;have aw:=(S.kept (FV v D (.deferred none)) (λe=>by cases e;have:=S.r.M z;cases this)).J;have ax:=(T.kept (FV v D (.deferred none)) (λe=>by cases e;have:=T.r.M z;cases this)).J;refine⟨Θ,.inl ⟨_,_,rfl,BT z,?_⟩⟩;refine⟨.tuple #[dI (cD G ns:Nat),dI (cE G ns:Nat)],?_,rfl,ag.M (EU (w:=w) (Aa _) v D _ _ Ω z rfl rfl)⟩;simp[results,results143,go_sem,aw,ax]
 case stop=>
  rintro D c a W _ _ h _;exact h.elim
theorem Gd.le(a:Gp G)(h:Gd G c ns b):ns.length<=6:=by rcases h with⟨rfl,_⟩|h;simp_all;exact a.le _ h
theorem Zim(G:Gh)(c:Gp G)(j:G.length<=10000)(a:Nat)(V:NV)(E:NS):∀(d:Nat) (ns:LY) (b:Nat) (w:World),6<=ns.length+d->Gd G a ns b->GB w G a V E->
  Cl 143 #[dP b] w λe w'=>e=dR (.tuple #[dI (cD G ns:Nat),dI (cE G ns:Nat)])/\Bw w w':=by
 intro d
 induction d with
 |zero=>
  intro ns b w k h g;exact Zil G c j a V E ns b h (λx i w' _ f _=>by have:=f.le c;simp at this;omega) w g
 |succ d ih=>
  intro ns b w k h g;exact Zil G c j a V E ns b h (λx i w' _ f l=>ih _ i w' Γ f l) w g
def LG(G:Gh)(ns:LY)(pre:LS)(h:Nat):Prop:=
 (∀x∈G,(∃y∈pre,qP (ns++[y.1]) x=true)->x.1.length<=ns.length+h)/\(h=0\/∃x∈G,(∃y∈pre,qP (ns++[y.1]) x=true)/\x.1.length=ns.length+h)
theorem LG.ei{h:Nat}(d:LG G ns g h)(h1:∀z∈G,qP (ns++[x.1]) z=true->z.1.length<=ns.length+m)(h2:∃z∈G,qP (ns++[x.1]) z=true/\z.1.length=ns.length+m):LG G ns (g++[x]) (max h m):=by refine⟨λz c j=>?_,?_⟩;obtain⟨y,a,b⟩:=j;rcases Al.1 a with a|a;have:=d.1 z c ⟨y,a,b⟩;omega;grind;rcases Nat.le_total m h with f|f;rw[Nat.max_eq_left f];rcases d.2 with i|⟨z,c,⟨y,a,b⟩,e⟩;exact .inl i;exact .inr ⟨z,c,⟨y,Ba _ a,b⟩,e⟩;grind
theorem LG.all(f:Gp G){b:LS}(g:Ib G ns b){h:Nat}(d:LG G ns b h):Nw G (qB ns) ns.length h:=by
 have ab:∀x∈G,qB ns x=true↔∃y∈b,qP (ns++[y.1]) x=true:=by
  intro x c;constructor;intro a;unfold qB at a;rw[An]at a;obtain⟨hl,t,e⟩:=a;cases t with
  |nil=>simp_all
  |cons n t=>
   have:∃u,(ns++[n],u)∈G:=by
    by_cases aa:t=[];grind;obtain⟨v,hv,_⟩:=f.d4 c (ns:=ns++[n]) Θ (by
     unfold qB;rw[An,<-e];cases t with
     |nil=>simp_all
     |cons m t=>simp)
    grind
   obtain⟨u,i⟩:=this;exact⟨(n,u),(g n u).2 i,by unfold qP;rw[An,<-e];exact⟨t,Θ⟩⟩
  rintro⟨y,hy,a⟩;unfold qP at a;unfold qB;grind [List.prefix_append,trans]
 exact⟨λx c a=>d.1 x c Γ,d.2.elim .inl Γ⟩
theorem WJ(a:Gp G){q:LY×VS->Bool}{h:Nat}(b:Nw G q m h):h<=6:=by rcases b.2 with h0|⟨x,c,_,e⟩;omega;have:=a.le x c;omega
theorem Yr{z:LY×VS}(h:qP ns z=true):z.1=ns\/qB ns z=true:=by unfold qP at h;unfold qB;rw[An]at h ⊢;rcases AD ns.length z.1.length with a|a;simp_all;exact .inl (h.eq_of_length_le a).r
theorem Zg4(G:Gh)(q:Gp G)(aq:G.length<=10000)(P:Nat)(V:NV)(E:NS)(ns:LY)(b:Nat)(A:Gd G P ns b)(ae:∀x J w,x∈E b->Gd G P (ns++[x.1]) J->GB w G P V E->Cl 232 #[dP J] w λe w'=>∃h:Nat,e=dR (dI h)/\Nw G (qB (ns++[x.1])) (ns++[x.1]).length h/\Bw w w')(w:World)(h:GB w G P V E):
  Cl 232 #[dP b] w λe w'=>∃h:Nat,e=dR (dI h)/\Nw G (qB ns) ns.length h/\Bw w w':=by
 have hS:=h.sl ns b A;have aw:=h.le q A;have af:=h.row ns b A;have hc:=af.J 0;have al:b<w.heap.size:=af.lt;refine(Bg (n:=3)).1 ?_;refine BY func232 rfl trivial ?_ rfl;simp only[ntmps232,AS,Ay,AR,Nat.reduceAdd,Nat.reduceSub,AY,AX,Be,A5,AH,AK]
 gi_wp2_with (refine⟨trivial,?_⟩;gi_at_call 179;apply(P9 _ _ trivial rfl _ _).Q;rintro e w'⟨rfl,rfl⟩)
 obtain⟨i,u⟩:∃i,(w.alloc (Obj.cells #[Value.int IntKind.i64 0] 3)).alloc (Obj.cells #[Value.pointer (some { block:=b,off:=0 })] 307)=i:=⟨_,rfl⟩;rw[u];have ay:i.heap.size=w.heap.size+2:=by rw[<-u];simp
 have Z:Bw w i:=by rw[<-u];exact((Ad _ w).alloc (Aa _) _).alloc Θ _
 have ai:Boxed i w.heap.size 3 (dI 0):=by rw[<-u];exact(Fx w 3 _).alloc _
 have aj:Boxed i (w.heap.size+1) 307 (dP b):=by rw[<-u];have:=Fx (w.alloc (Obj.cells #[Value.int IntKind.i64 0] 3)) 307 (dP b);simp_all
 have ar:=hS.kept (λk hk _=>Z.block k hk);have am:i.cell? (dQ b 0)=some (V b):=(Z.J (p:=dQ b 0) al).M hc;have ak:(E b).attach.map (λx=>x.1)=E b:=CD _;have ah:=Db ae;have H:=Db h;clear u ae h;refine Fa (α:={ x // x∈E b }) rfl Ω (gf:=222) (lb:=#[.pointer (some ⟨w.heap.size+1,0,none⟩)]) rfl trivial (EX func222 Φ rfl)
  (VM Fence.wide 2 trivial rfl Ω (w.heap.size+1) w.heap.size b 0 (V b) (λx=>x.1) (E b).attach Γ i Ω Ω Ω aj.J am Ξ (λg B=>hS.lt B))
  belowK_t (EU Ω) (Ad _ _) (λ_=>rfl)
  (λO W=>(∃m:Nat,Boxed W w.heap.size 3 (dI m)/\m<=7/\LG G ns (O.map (·.1)) m)/\Bw w W)
  (λ_ _ _=>False)
  (Es (λs X Y row o B N=>by obtain⟨m,T,U⟩:=o;exact⟨m,(boxed_own (β:=Unit) _ _ (λ_=>_)).from _ () X Y row T B N,U⟩) (Fl (Aa _) Ω))
  (λ_ _ _ _ _ o _ _=>o)
  ⟨⟨0,ai,Ω,λx _ hy=>by obtain⟨y,hy,_⟩:=hy;simp at hy,.inl rfl⟩,Z⟩
  (λx S W=>∃j,w.heap.size<j/\Gb W j 260 [.pointer x.1.2.p,dI x.1.2.f]/\S={ tmps:=#[dP b,undef,dI 0,dP w.heap.size,undef,dP j,undef,dP b,dP b,dP b,.func (.func 222) #[] #[.pointer (some ⟨w.heap.size+1,0,none⟩)],dU x.1.1,.agg #[.pointer x.1.2.p,dI x.1.2.f],undef,undef,undef,undef,undef,undef,undef,undef,undef,undef,undef,undef],defers:=[] })
  (λx S _ X Y row o B N=>by obtain⟨j,T,U,h3⟩:=o;exact⟨j,T,(U5 (β:=Unit) j 260 (λ_=>_)).from _ () X Y row U B N,h3⟩)
  ?assign ?body ?done ?stop
 case assign=>
  rintro l O x W K⟨⟨m,f,hm⟩,d⟩ L
  gi_wp2
  refine L _ _ ((El _ _).from _) ((Ad _ W).alloc d.size _) ⟨⟨m,f.alloc _,hm⟩,d.alloc d.size _⟩ ⟨W.heap.size,f.lt,D9 W _ _,rfl⟩
 case body=>
  rintro l O x S W av⟨r,N⟩ ⟨⟨m,f,hm,t⟩,d⟩ ⟨j,ap,bX,rfl⟩ ax;have I:=Db t;clear t;have x0:=bX.J 0;have c0:=f.J;have f0:=f.A;have ag:(ns++[x.1.1],x.1.2)∈G:=((Da H).en ns b A x.1.1 x.1.2).1 x.2;have R:=Db ag;clear ag;rcases(Da H).sub A x.2 with hp|⟨J,ao,an⟩
  .have C:=(Da I).ei (m:=1) (x:=x.1) (λz F a=>by rcases Yr a with e|a;simp_all;obtain⟨v,hv,o⟩:=q.d4 F (q.ne _ (Da R)) a;rw[Kz q.nd hv (Da R),hp]at o;grind) ⟨_,Da R,by unfold qP;simp,Θ⟩;have Q:=Db C;clear C;rw[hp]at x0
   gi_wp2
   have v1:(max (m:Int) 1)=((max m 1:Nat):Int):=Ω;refine⟨(B3 _ _ _).from _,(Ad w.heap.size W).setCell (p:=dQ w.heap.size 0) (Aa _) _,⟨max m 1,by rw[v1];exact f.set _,Ω,by rw[AE];exact Da Q⟩,d.setCell (p:=dQ w.heap.size 0) (Aa _) _⟩
  .have ad:=Da ah x.1 J W x.2 an ((Da H).below d (Aa _));rw[ao]at x0
   gi_wp2_with fail
   refine⟨trivial,?_⟩;apply(CQ l (Bg.2 ad)).Q;rintro e W2⟨k,rfl,M,aa⟩;have au:=WJ q M;have C:=(Da I).ei (m:=1+k) (x:=x.1) (λz F a=>by
    rcases Yr a with e|a;simp_all;have:=M.1 z F a;grind) (by
    rcases M.2 with e|⟨z,F,a,e⟩;grind [Da,qP];refine⟨z,F,?_,by simp at e;omega⟩;unfold qB at a;unfold qP;rw[An]at a ⊢;exact a.2)
   have Q:=Db C;have ab:Boxed W2 w.heap.size 3 _:=(aa.block _ f.lt).M f;have c2:=ab.J;have f2:=ab.A;clear ad C M
   gi_wp2
   have v1:(max (m:Int) (1+(k:Int)))=((max m (1+k):Nat):Int):=Ω;have ac:Below w.heap.size W W2:=aa.Q d.size;refine⟨((Ws aa).M (B3 _ _ _)).from _,ac.setCell (p:=dQ w.heap.size 0) (Aa _) _,⟨max m (1+k),by rw[v1];exact ab.set _,Ω,by rw[AE];exact Da Q⟩,(d.M ac).setCell (p:=dQ w.heap.size 0) (Aa _) _⟩
 case done=>
  rintro D ys W hD rfl⟨⟨m,f,hm,t⟩,d⟩ L;have c0:=f.J;rw[ak]at t;have I:=Db (t.all q ((Da H).en ns b A));clear t
  gi_wp2
  refine⟨Θ,.inl ⟨_,_,rfl,BT L,?_⟩⟩;exact⟨_,EL rfl _ _ _,m,rfl,Da I,d.M (EU (w:=w) (Aa _) W D _ _ Ω L rfl rfl)⟩
 case stop=>
  rintro D c O W _ _ h _;exact h.elim
theorem Zlj(G:Gh)(c:Gp G)(j:G.length<=10000)(a:Nat)(V:NV)(E:NS):∀(d:Nat) (ns:LY) (b:Nat) (w:World),6<=ns.length+d->Gd G a ns b->GB w G a V E->
  Cl 232 #[dP b] w λe w'=>∃h:Nat,e=dR (dI h)/\Nw G (qB ns) ns.length h/\Bw w w':=by
 intro d
 induction d with
 |zero=>
  intro ns b w k h g;exact Zg4 G c j a V E ns b h (λx i w' _ f _=>by have:=f.le c;simp at this;omega) w g
 |succ d ih=>
  intro ns b w k h g;exact Zg4 G c j a V E ns b h (λx i w' _ f l=>ih _ i w' Γ f l) w g
end
open Tryz
theorem Pc:∀(d xs:LY) (y:By) (ys:LY),xs≠[]->Dw d (xs++y::ys)=Dw d xs++(d++xs)::Dw (d++xs) (y::ys)
 |d,[],y,ys,h=>absurd rfl h
 |d,[x],y,ys,_=>by rfl
 |d,x::x'::xs,y,ys,_=>by have:=Pc (d++[x]) (x'::xs) y ys Θ;rw[AK,AK,Dw,Dw,<-AK,this];simp
theorem P8(G:Gh):∀(A B:List (LY)),GJ G A=0->GJ G (A++B)=GJ G B
 |[],B,_=>rfl
 |q::A,B,h=>by
  rw[AK,GJ];rw[GJ]at h;cases hq:Gr G q with
  |none=>simp_all
  |some u=>
   by_cases hu:u.p.isSome=true;simp_all[if_true,P8];simp_all
theorem Zt8{a:LY}{b:LY}(d:a≠[])(c:GJ G (Dw [] a)=0)(h:Gr G a=none):GJ G (Dw [] (a++y::b))=3:=by rw[Pc [] a y b d,P8 G _ _ c,GJ,AH,h]
theorem Zt9{a:LY}{b:LY}(d:a≠[])(c:GJ G (Dw [] a)=0)(h:Gr G a=some u)(e:u.p=none):GJ G (Dw [] (a++y::b))=4:=by rw[Pc [] a y b d,P8 G _ _ c,GJ,AH,h];simp[e]
theorem ah_dir{a:LY}(c:a≠[])(b:GJ G (Dw [] a)=0)(h:Gr G a=some u)(d:u.p.isSome=true):GJ G (Dw [] (a++[y]))=0:=by rw[Pc [] a y [] c,P8 G _ _ b,GJ,AH,h];simp[d,Dw,GJ]
def Dk(d:OA)(name:By)(there:Bool)(u:VS):Value:=.agg #[.pointer d,.string name,.bool there,.pointer u.p,.int .i64 u.f]
def DE:Value:=Dk none ⟨#[]⟩ false ⟨none,0⟩
def GR(G:Gh)(rd:Nat)(ns:LY)(d:OA)(name:By)(there:Bool)(u:VS):Prop:=
 (ns=[]/\d=none/\name=⟨#[]⟩/\there=true/\u=⟨some ⟨rd,0,none⟩,0⟩)\/
 ∃ds db,ns=ds++[name]/\Gd G rd ds db/\d=some ⟨db,0,none⟩/\there=(Gr G ns).isSome/\u=(Gr G ns).getD ⟨none,0⟩
def Zuk(G:Gh)(rd:Nat)(ns:LY)(w:World)(e:Ending)(w':World):Prop:=
 ((GJ G (Dw [] ns)≠0/\e=.returned (.tuple #[DE,.int .i64 (GJ G (Dw [] ns))]))\/
  (GJ G (Dw [] ns)=0/\∃d n t u,GR G rd ns d n t u/\e=.returned (.tuple #[Dk d n t u,.int .i64 0])))/\Bw w w'
theorem Ib.at(e:Gp G){a:LY}{c:LS}(d:Ib G a c){r:VS}{b:Bool}(f:W7 c n r b):b=(Gr G (a++[n])).isSome/\r=(Gr G (a++[n])).getD ⟨none,0⟩:=by
 rcases f with⟨rfl,g⟩|⟨rfl,rfl,h⟩;rw[RL e.nd ((d n r).1 g)];simp_all;cases ha:Gr G (a++[n]) with
 |none=>simp_all
 |some u=>exact absurd rfl (h _ ((d n u).2 (JZ ha)))
theorem U7{w:World}(g:GB w G c V E){a:LY}{d:OA}{t:Bool}(h:GR G c a d n t u):
  (t=false/\a≠[]/\Gr G a=none)\/(t=true/\a≠[]/\Gr G a=some u/\u.p=none)\/(t=true/\∃b,u=⟨some ⟨b,0,none⟩,0⟩/\Gd G c a b/\(a=[]\/Gr G a=some u)):=by
 rcases h with⟨rfl,_,_,rfl,rfl⟩|⟨f,db,rfl,hd,rfl,rfl,rfl⟩;exact .inr (.inr ⟨rfl,c,rfl,.inl ⟨rfl,rfl⟩,.inl rfl⟩);cases ha:Gr G (f++[n]) with
 |none=>simp_all
 |some u=>
  rcases g.c9 _ (JZ ha) with h0|⟨b,e⟩;simp_all;exact .inr (.inr ⟨rfl,b,by simpa using e,.inr (by rw[<-e];exact JZ ha),.inr rfl⟩)
theorem Gb.alloc{w:World}{t:TypeId}(h:Gb w b t L)(o:Obj):Gb (w.alloc o) b t L:=(BH _ _ _ h.lt).M h
theorem JP{w:World}{t:TypeId}{g i j k:Value}(h:Gb w b t [f,g,i,j,k])(a c u2 d e:Value):
  Gb (((((w.setCell ⟨b,0,none⟩ a).setCell ⟨b,1,none⟩ c).setCell ⟨b,2,none⟩ u2).setCell ⟨b,3,none⟩ d).setCell ⟨b,4,none⟩ e) b t [a,c,u2,d,e]:=by
 have:=((((h.set 0 a).set 1 c).set 2 u2).set 3 d).set 4 e;simp_all
theorem JQ{w c:World}(h:Below B w c)(a:B<=b)(d e u2 f g:Value):Below B w (((((c.setCell ⟨b,0,none⟩ d).setCell ⟨b,1,none⟩ e).setCell ⟨b,2,none⟩ u2).setCell ⟨b,3,none⟩ f).setCell ⟨b,4,none⟩ g):=
 ((((h.setCell a _).setCell a _).setCell a _).setCell a _).setCell a _
theorem Gb.a1{w:World}{t:TypeId}(h:Gb w b t L)(a:Addr)(u:Value)(aa:a.block≠b):Gb (w.setCell a u) b t L:=by grind [Gb,Below.heap_setCell]
theorem MT{w:World}{t:TypeId}(h:Gb w b t L)(c:a≠b)(d e u2 f g:Value):Gb (((((w.setCell ⟨a,0,none⟩ d).setCell ⟨a,1,none⟩ e).setCell ⟨a,2,none⟩ u2).setCell ⟨a,3,none⟩ f).setCell ⟨a,4,none⟩ g) b t L:=
 ((((h.a1 _ d c).a1 _ e c).a1 _ u2 c).a1 _ f c).a1 _ g c
def Nm(G:Gh)(rd:Nat)(ns:LY)(w:World)(i:Value)(wr:World):Prop:=
 ∃k:Nat,k<=ns.length/\i=.int .i64 k/\∃d n t u,GR G rd (ns.take k) d n t u/\GJ G (Dw [] (ns.take k))=0/\Gb wr (w.heap.size+1) 262 [.pointer d,.string n,.bool t,.pointer u.p,.int .i64 u.f]/\
  Gb wr w.heap.size 262 [.pointer none,.string ⟨#[]⟩,.bool false,.pointer none,.int .i64 0]/\Bw w wr
theorem Zg8(w:World)(tb s:Nat)(V:NV)(E:NS)(vi:Value)(G:Gh)(hG:Gp G)(ah:G.length<=10000)(hT:Gb w tb 214 [.pointer (some ⟨s,0,none⟩),vi])(hD:GB w G s V E)(ns:LY)(aq:ns.length<=6)(U:OA)(W:Nat)(hN:Sl w 9 1 (.slice U ns.length W) ns.length (ns.map .string)):
  Cl 227 #[.pointer (some ⟨tb,0,none⟩),.slice U ns.length W] w (Zuk G s ns w):=by
 have ao:=hT.J 0;have ar:=hT.lt;obtain⟨am,an,e,ae⟩:=hN.dx;cases e;have af:=Db ae;have o:=Db hD;clear ae hD;go_enter func227,ntmps227;go_wp2
 go_loopw [8,9,10,11,20] (λ_ _ _ _ i wr=>Nm G s ns w i wr) (λ_ _ _ _ i _=>ns.length-(intOf i).toNat)
 case atStart=>
  refine⟨0,Ao _,rfl,none,⟨#[]⟩,true,⟨some ⟨s,0,none⟩,0⟩,.inl ⟨rfl,rfl,rfl,rfl,rfl⟩,rfl,?_,?_,((Ad _ w).alloc (Aa _) _).alloc Θ _⟩;have:=D9 (w.alloc (Obj.cells #[Value.pointer none,Value.string { data:=#[] },Value.bool false,Value.pointer none,Value.int IntKind.i64 0] 262)) [Value.pointer none,Value.string { data:=#[] },Value.bool true,Value.pointer (some { block:=s,off:=0 }),Value.int IntKind.i64 0] 262;simpa using this;have:=D9 w [Value.pointer none,Value.string { data:=#[] },Value.bool false,Value.pointer none,Value.int IntKind.i64 0] 262;exact(BH _ _ _ Θ).M this
 case round=>
  obtain⟨k,hk,rfl,d,n,t,u,A,x,f,c,j⟩:=hrel;obtain⟨b0,b1,b2,b3,b4⟩:=c.c4;obtain⟨g0,g1,g2,g3,g4⟩:=c.f4;obtain⟨Q,R,S,J,T⟩:=f.c4;obtain⟨Z,f1,f2,f3,f4⟩:=f.f4;have O:=Db A;have I:=Db x;clear A x;by_cases ac:k<ns.length
  .obtain⟨y,M⟩:∃y,ns[k]?=some y:=⟨_,Ab ac⟩;obtain⟨g,rfl,q0⟩:=Da af k y M;have aj:=hN.lt rfl;have q1:=(j.J (p:=⟨g,k,none⟩) aj).M q0;have P:Hid (ns.take (k+1)=ns.take k++[y]):=(by show _=_;rw[Br,M];rfl);have N:Hid (ns=ns.take k++y::ns.drop (k+1)):=(by show _=_;have ak:=Ac.1 M;have:=(Bz k ns).r;rw[A2 ac,ak.2]at this;exact this);clear q0;rcases U7 (Da o) (Da O) with⟨rfl,l,z⟩|⟨rfl,l,z,hu⟩|⟨rfl,b,rfl,q,ad⟩
   .have m:Hid (GJ G (Dw [] ns)=3):=(by show _=_;rw[Da N];exact Zt8 l (Da I) z);clear z l;go_wp2;have a:=JP c (.pointer none) (.string ⟨#[]⟩) (.bool false) (.pointer none) (.int .i64 0);obtain⟨B,C,D,F,H⟩:=a.c4;exact Am (v:=.tuple #[DE,.int .i64 3]) (by simp[results,results227,go_sem,B,C,D,F,H,DE,Dk]) rfl
     ⟨.inl ⟨by rw[Da m];decide,by rw[Da m]⟩,JQ j (Aa _) _ _ _ _ _⟩
   .have m:Hid (GJ G (Dw [] ns)=4):=(by show _=_;rw[Da N];exact Zt9 l (Da I) z hu);rw[hu]at J;clear z l;go_wp2;have a:=JP c (.pointer none) (.string ⟨#[]⟩) (.bool false) (.pointer none) (.int .i64 0);obtain⟨B,C,D,F,H⟩:=a.c4;exact Am (v:=.tuple #[DE,.int .i64 4]) (by simp[results,results227,go_sem,B,C,D,F,H,DE,Dk]) rfl
     ⟨.inl ⟨by rw[Da m];decide,by rw[Da m]⟩,JQ j (Aa _) _ _ _ _ _⟩
   .have ab:=SG wr b 0 _ _ y (((j.J ((Da o).row _ b q).lt)).M (((Da o).row _ b q).J 0)) ((((Da o).below j (Aa _))).sl _ b q) (Ae ((Da o).le hG q) ah) ((Da o).ak _ b q);go_wp2_with fail;apply ab.Q;rintro e w2⟨r,K,rfl,aa,L⟩;obtain⟨X,Y⟩:=Ib.at hG ((Da o).en _ b q) aa;have ag:Hid (GR G s (ns.take (k+1)) (some ⟨b,0,none⟩) y K r):=(by show GR _ _ _ _ _ _ _;rw[Da P];exact .inr ⟨_,b,rfl,q,rfl,X,Y⟩);have m:Hid (GJ G (Dw [] (ns.take (k+1)))=0):=(by show _=_;rw[Da P];rcases ad with e|ha;rw[e];rfl;by_cases l:ns.take k=[];rw[l];rfl;exact ah_dir l (Da I) ha rfl);have h:Gb w2 _ _ _:=(L.block _ f.lt).M f;have al:Gb w2 _ _ _:=(L.block _ c.lt).M c;have ap:w.heap.size+1<w2.heap.size:=h.lt;have ai:=j.M (L.Q j.size);clear ab aa X Y ad b0 b1 b2 b3 b4 g0 g1 g2 g3 g4 Q R S J T Z f1 f2 f3 f4;obtain⟨Q,R,S,J,T⟩:=h.c4;obtain⟨Z,f1,f2,f3,f4⟩:=h.f4;go_wp2
    refine⟨?_,?measure⟩;(repeat apply Exists.intro);refine⟨?rel,rfl⟩
    case rel=>
     refine⟨k+1,Ω,by go_num,some ⟨b,0,none⟩,y,K,r,Da ag,Da m,?_,?_,?_⟩;exact Gb.alloc (JP h _ _ _ _ _) _;exact Gb.alloc (MT al Ω _ _ _ _ _) _;have h5:=JQ ai (Ef _) (.pointer (some ⟨b,0,none⟩)) (.string y) (.bool K) (.pointer r.p) (.int .i64 r.f);exact h5.alloc h5.size _
    case measure=>simp[intOf];omega
  .obtain rfl:k=ns.length:=Ω;go_wp2;have a:=JP c (.pointer d) (.string n) (.bool t) (.pointer u.p) (.int .i64 u.f);obtain⟨B,C,D,F,H⟩:=a.c4;have x:=Da I;have A:=Da O;rw[BD]at x A;exact Am (by simp[results,results227,go_sem,B,C,D,F,H,Dk]) rfl
    ⟨.inr ⟨x,d,n,t,u,A,rfl⟩,JQ j (Aa _) _ _ _ _ _⟩
def GU(w:World):Prop:=(∃m,w.cell? (dQ 0 0)=some (dI m))/\∀t R,Gb w 0 t R->t=3
def Dd(s:By):Gf:=s.data.toList.map (λb => .int .u8 (b.toNat:Int))
structure TW(w:World)(tb rd:Nat)(V:NV)(E:NS)(vi:Value)(G:Gh)(I:LF)(C:IB):Prop where
 pk:GU w
 t:Gb w tb 214 [dP rd,vi]
 d:GB w G rd V E
 i:Sl w 293 3 vi I.length (Du I)
 si:G3 I
 av:∀x∈I,Sl w 5 1 (dT x.2.a x.2.l x.2.c) x.2.l (Dd (C x.1))
 lo:tb<=rd+1/\∀g,vi.ownBlock=some g->rd<=g
theorem GU.e{w:World}(h:GU w)(c:Fr X w w')(b:¬X 0):GU w':=by obtain⟨⟨m,d⟩,e⟩:=h;have a:=Ag _ _ d;have hb:=c.block 0 a b;refine⟨⟨m,?_⟩,λt R hR=>e t R ?_⟩;grind [World.cell?];grind [Gb]
theorem TW.e{w:World}{d:Nat}(h:TW w tb d V E f G I C)(a:Fr X w w')(i:¬X 0)(l:∀k t R,X k->Gb w k t R->t≠214/\t≠229/\t≠310/\t≠293/\t≠5):TW w' tb d V E f G I C:=
 ⟨h.pk.e a i,h.t.e a (λe=>(l _ _ _ e h.t).1 rfl),h.d.e a Γ,
  h.i.e a (λg b e=>by obtain⟨R,j⟩:=h.i.type b;grind),h.si,
  λx c=>(h.av x c).e a (λg b e=>by obtain⟨R,j⟩:=(h.av x c).type b;grind),h.lo⟩
theorem TW.f7{w:World}{d:Value}(h:TW w tb a V E d G I C)(c:Gd G a ns b):tb<=b+1/\∀g,(V b).ownBlock=some g->tb<=g+1:=by have h1:=h.lo.1;have h2:=h.d.lo ns b c;grind
theorem TW.below{w:World}{b:Value}(h:TW w tb a V E b G I C)(d:Below B w w')(c:w.heap.size<=B):TW w' tb a V E b G I C:=
 h.e (X:=λ_=>False) (Fr.S (d.Q c)) id Γ
def DA(G:Gh)(p:By)(fits:Bool):Int:=if Di p=false then 1 else if fits=false then 2 else GJ G (Dw [] (Dc p))
def Zuh(G:Gh)(rd:Nat)(p:By)(fits:Bool)(w:World)(e:Ending)(w':World):Prop:=
 ((DA G p fits≠0/\e=dR (.tuple #[DE,dI (DA G p fits)]))\/
  (DA G p fits=0/\Di p=true/\∃d n t u,GR G rd (Dc p) d n t u/\e=dR (.tuple #[Dk d n t u,dI 0])))/\Bw w w'
theorem QA{p:By}(h:Di p=true):(Dc p).length<=6:=by
 cases hr:(p.toList==[47]) with
 |true=>simp_all[UC,Nat.zero_le]
 |false=>grind [Uj]
theorem Se(w:World)(tb P:Nat)(V:NV)(E:NS)(vi:Value)(G:Gh)(I:LF)(C:IB)(h:TW w tb P V E vi G I C)(hG:Gp G)(ae:G.length<=10000)(p:By)(hp:p.size<=2000000)(x:Bool):
  Cl 184 #[dP tb,dU p,dV x] w (Zuh G P p x w):=by
 obtain⟨m,X⟩:=h.pk.1;have h0:=Ag _ _ X;have N:∀o,Bw w (w.alloc o):=λo=>(Ad _ _).alloc (Aa _) o;have Y:=λo=>Wa p m _ hp (((N o).J h0).M X);have Z:=D9 w [.pointer none,dU ⟨#[]⟩,dV false,.pointer none,dI 0] 262;have ac:=Db Z;clear Z;go_enter func184,ntmps184;go_wp2_with fail;apply(Y _).Q;rintro e w1⟨O,R⟩;have s:=(N _).M (R.Q Θ);have b:Gb w1 w.heap.size 262 _:=(R.block _ Θ).M (Da ac);have HH:=Db h;clear Y N h;rcases O with⟨i,rfl⟩|⟨i,a,c,rfl,af⟩
 .have y:Hid (DA G p x=1):=by show _=_;simp_all[DA]
  obtain⟨H,J,K,L,M⟩:=b.f4;obtain⟨z,A,B,D,F⟩:=b.c4;clear i;go_wp2;have f:=JP b (.pointer none) (dU ⟨#[]⟩) (dV false) (.pointer none) (dI 0);obtain⟨j,k,l,q,r⟩:=f.c4;exact Am (v:=.tuple #[DE,dI 1]) (by simp[results,results184,go_sem,j,k,l,q,r,DE,Dk]) rfl
   ⟨by grind [Da],JQ s (Aa _) _ _ _ _ _⟩
 .have H:=b.A 0;have J:=b.A 1;have K:=b.A 2;have L:=b.A 3;have M:=b.A 4;obtain⟨z,A,B,D,F⟩:=b.c4;cases x with
  |false=>
   have y:Hid (DA G p false=2):=(by show _=_;unfold DA;rw[if_neg (by rw[i];simp),if_pos rfl]);clear i;go_wp2;have f:=JP b (.pointer none) (dU ⟨#[]⟩) (dV false) (.pointer none) (dI 0);obtain⟨j,k,l,q,r⟩:=f.c4;exact Am (v:=.tuple #[DE,dI 2]) (by simp[results,results184,go_sem,j,k,l,q,r,DE,Dk]) rfl
    ⟨by grind [Da],JQ s (Aa _) _ _ _ _ _⟩
  |true=>
   have y:Hid (DA G p true=GJ G (Dw [] (Dc p))):=(by show _=_;simp_all[DA]);have Q:=(Da HH).below s (Aa _);have W:=Zg8 w1 tb P V E vi G hG ae Q.t Q.d _ (QA i) a c af;have HN:=Db i;clear i;go_wp2_with fail;apply W.Q;rintro e w2⟨O,S⟩;have g:Gb w2 w.heap.size 262 _:=(S.block _ b.lt).M b;have T:=s.M (S.Q s.size);clear W H J K L M z A B D F;obtain⟨H,J,K,L,M⟩:=g.f4;obtain⟨z,A,B,D,F⟩:=g.c4;rcases O with⟨ag,rfl⟩|⟨U,d,n,t,u,aa,rfl⟩
   .unfold DE Dk;go_wp2;have f:=JP g (.pointer none) (dU ⟨#[]⟩) (dV false) (.pointer none) (dI 0);obtain⟨j,k,l,q,r⟩:=f.c4;exact Am (v:=.tuple #[DE,dI (GJ G (Dw [] (Dc p)))]) (by simp[results,results184,go_sem,j,k,l,q,r,DE,Dk]) rfl
     ⟨by grind [Da],JQ T (Aa _) _ _ _ _ _⟩
   .have ad:=Db aa;have ab:=Db U;clear aa U;unfold Dk;go_wp2;have f:=JP g (.pointer d) (dU n) (dV t) (.pointer u.p) (dI u.f);obtain⟨j,k,l,q,r⟩:=f.c4;exact Am (by simp[results,results184,go_sem,j,k,l,q,r,Dk]) rfl
     ⟨.inr ⟨(Da y).M (Da ab),Da HN,d,n,t,u,Da ad,rfl⟩,JQ T (Aa _) _ _ _ _ _⟩
def Hk(G:Gh)(p:By):Int:=if DA G p true≠0 then DA G p true else if Dc p≠[]/\Gr G (Dc p)=none then 3 else 0
def Zqe(G:Gh)(rd:Nat)(p:By)(w:World)(e:Ending)(w':World):Prop:=
 ((Hk G p≠0/\e=dR (.tuple #[DE,dI (Hk G p)]))\/
  (Hk G p=0/\Di p=true/\∃d n u,GR G rd (Dc p) d n true u/\e=dR (.tuple #[Dk d n true u,dI 0])))/\Bw w w'
theorem ZhS{d:OA}{t:Bool}(h:GR G a ns d n t u):(t=false↔ns≠[]/\Gr G ns=none):=by rcases h with⟨rfl,_,_,rfl,_⟩|⟨ds,db,rfl,_,_,rfl,_⟩;simp;simp_all
theorem Df(a:World)(L:Gf)(t:TypeId):∃W,a.alloc (.cells L.toArray t)=W/\Gb W a.heap.size t L/\(∀b t' R,Gb a b t' R->Gb W b t' R)/\W.heap.size=a.heap.size+1/\Bw a W:=
 ⟨_,rfl,D9 a L t,λ_ _ _ h=>h.alloc _,Θ,(Ad _ _).alloc (Aa _) _⟩
abbrev Qi:Gf:=[.pointer none,dU ⟨#[]⟩,dV false,.pointer none,dI 0]
abbrev DS(d:OA)(n:By)(t:Bool)(u:VS):Gf:=[.pointer d,dU n,dV t,.pointer u.p,dI u.f]
theorem R3(w:World)(tb K:Nat)(V:NV)(E:NS)(O:Value)(G:Gh)(I:LF)(C:IB)(h:TW w tb K V E O G I C)(hG:Gp G)(aa:G.length<=10000)(p:By)(hp:p.size<=2000000):
  Cl 177 #[dP tb,dU p] w (Zqe G K p w):=by
 have F:∀o,Bw w (w.alloc o):=λo=>(Ad _ _).alloc (Aa _) o;have M:=λo=>Se _ tb K V E O G I C (h.below (F o) (Aa _)) hG aa p hp true;have L:=Db (D9 w Qi 262);go_enter func177,ntmps177;go_wp2_with fail;apply(M _).Q;rintro e D⟨ac,H⟩;have g:=(F _).M (H.Q Θ);have l:Gb D w.heap.size 262 Qi:=(H.block _ Θ).M (Da L);have ae:w.heap.size<D.heap.size:=l.lt;clear M F h H L;rcases ac with⟨A,rfl⟩|⟨z,N,d,n,t,u,J,rfl⟩
 .have f:Hid (Hk G p=DA G p true):=by show _=_;unfold Hk;rw[if_pos A]
  have P:=Db A;have ab:(DA G p true==0)=false:=by simpa using A
  clear A;unfold DE Dk;go_upto_if 20 with fail;obtain⟨W,i,c,k,ad,j⟩:=Df D Qi 262;have a:=k _ _ _ l;have y:=g.M (j.Q g.size);rw[i];clear i l g ab k j;obtain⟨S,T,U,X,Y⟩:=c.c4;obtain⟨Z,b1,b2,b3,b4⟩:=a.c4;obtain⟨g0,g1,g2,g3,g4⟩:=a.f4;go_wp2;have b:=JP a (.pointer none) (dU ⟨#[]⟩) (dV false) (.pointer none) (dI 0);obtain⟨m,q,r,s,x⟩:=b.c4;exact Am (v:=.tuple #[DE,dI (DA G p true)]) (by simp[results,results177,go_sem,m,q,r,s,x,DE,Dk]) rfl
   ⟨.inl ⟨by rw[Da f];exact Da P,by rw[Da f]⟩,JQ y (Aa _) _ _ _ _ _⟩
 .have R:=Db J;have Q:=Db N;have B:=ZhS J;unfold Dk;go_upto_if 20 with fail;obtain⟨W,i,c,k,ad,j⟩:=Df D (DS d n t u) 262;have a:=k _ _ _ l;have y:=g.M (j.Q g.size);rw[i];clear i l g k j J N;obtain⟨S,T,U,X,Y⟩:=c.c4;obtain⟨Z,b1,b2,b3,b4⟩:=a.c4;obtain⟨g0,g1,g2,g3,g4⟩:=a.f4;cases t with
  |false=>
   have f:Hid (Hk G p=3):=(by show _=_;unfold Hk;rw[if_neg (by simpa using z),if_pos (B.1 rfl)]);clear z B;go_wp2;have b:=JP a (.pointer none) (dU ⟨#[]⟩) (dV false) (.pointer none) (dI 0);obtain⟨m,q,r,s,x⟩:=b.c4;exact Am (v:=.tuple #[DE,dI 3]) (by simp[results,results177,go_sem,m,q,r,s,x,DE,Dk]) rfl
    ⟨.inl ⟨by rw[Da f];decide,by rw[Da f]⟩,JQ y (Aa _) _ _ _ _ _⟩
  |true=>
   have f:Hid (Hk G p=0):=(by show _=_;unfold Hk;rw[if_neg (by simpa using z),if_neg (λh=>by have:=B.2 h;cases this)]);clear z B;go_wp2;have b:=JP a (.pointer d) (dU n) (dV true) (.pointer u.p) (dI u.f);obtain⟨m,q,r,s,x⟩:=b.c4;exact Am (by simp[results,results177,go_sem,m,q,r,s,x,Dk]) rfl
    ⟨.inr ⟨Da f,Da Q,d,n,u,Da R,rfl⟩,JQ y (Aa _) _ _ _ _ _⟩
def DR(G:Gh)(ns:LY):Int:=if GJ G (Dw [] ns)≠0 then GJ G (Dw [] ns) else if ns=[]\/(Gr G ns).isSome=true then 6 else 0
def Zuj(G:Gh)(rd:Nat)(ns:LY)(w:World)(e:Ending)(w':World):Prop:=
 ((DR G ns≠0/\e=dR (.tuple #[DE,dI (DR G ns)]))\/
  (DR G ns=0/\∃ds n db,ns=ds++[n]/\Gd G rd ds db/\Gr G ns=none/\e=dR (.tuple #[Dk (some (dQ db 0)) n false ⟨none,0⟩,dI 0])))/\Bw w w'
theorem U3(w:World)(tb K:Nat)(V:NV)(E:NS)(Z:Value)(G:Gh)(I:LF)(C:IB)(h:TW w tb K V E Z G I C)(hG:Gp G)(ad:G.length<=10000)(ns:LY)(ae:ns.length<=6)(M:OA)(N:Nat)(X:Sl w 9 1 (dT M ns.length N) ns.length (ns.map .string)):
  Cl 191 #[dP tb,dT M ns.length N] w (Zuj G K ns w):=by
 have q:∀o,Bw w (w.alloc o):=λo=>(Ad _ _).alloc (Aa _) o;have Y:=λo=>Zg8 _ tb K V E Z G hG ad (h.below (q o) (Aa _)).t (h.below (q o) (Aa _)).d ns ae M N (X.kept (λk g _=>(q o).block k g));have T:=Db (D9 w Qi 262);go_enter func191,ntmps191;go_wp2_with fail;apply(Y _).Q;rintro e L⟨af,R⟩;have l:=(q _).M (R.Q Θ);have s:Gb L w.heap.size 262 Qi:=(R.block _ Θ).M (Da T);have ah:w.heap.size<L.heap.size:=s.lt;clear Y q h R T X;rcases af with⟨c,rfl⟩|⟨H,d,n,t,u,S,rfl⟩
 .have f:Hid (DR G ns=GJ G (Dw [] ns)):=by show _=_;unfold DR;rw[if_pos c]
  have ab:=Db c;have ai:(GJ G (Dw [] ns) != 0)=true:=by simpa using c
  clear c;unfold DE Dk;go_upto_if 15 with fail;obtain⟨W,p,m,g,ag,r⟩:=Df L Qi 262;have a:=g _ _ _ s;have F:=l.M (r.Q l.size);rw[p];clear p s l g r;obtain⟨b0,b1,b2,b3,b4⟩:=a.c4;obtain⟨g0,g1,g2,g3,g4⟩:=a.f4;go_wp2;have b:=JP a (.pointer none) (dU ⟨#[]⟩) (dV false) (.pointer none) (dI 0);obtain⟨x,y,z,A,B⟩:=b.c4;exact Am (v:=.tuple #[DE,dI (GJ G (Dw [] ns))]) (by simp[results,results191,go_sem,x,y,z,A,B,DE,Dk]) rfl
   ⟨.inl ⟨by rw[Da f];exact Da ab,by rw[Da f]⟩,JQ F (Aa _) _ _ _ _ _⟩
 .have ac:=Db S;have J:=ZhS S;unfold Dk;go_upto_if 15 with fail;obtain⟨W,p,m,g,ag,r⟩:=Df L (DS d n t u) 262;have a:=g _ _ _ s;have F:=l.M (r.Q l.size);rw[p];clear p s l g r S;obtain⟨a0,a1,a2,a3,a4⟩:=m.c4;obtain⟨b0,b1,b2,b3,b4⟩:=a.c4;obtain⟨g0,g1,g2,g3,g4⟩:=a.f4;cases t with
  |true=>
   have f:Hid (DR G ns=6):=by
    show _=_;unfold DR;rw[if_neg (by simpa using H),if_pos];by_cases U:ns=[];exact .inl U;refine .inr ?_;cases ha:Gr G ns with
    |none=>have:=J.2 ⟨U,ha⟩;cases this
    |some u=>rfl
   clear H J;go_wp2;have b:=JP a (.pointer none) (dU ⟨#[]⟩) (dV false) (.pointer none) (dI 0);obtain⟨x,y,z,A,B⟩:=b.c4;exact Am (v:=.tuple #[DE,dI 6]) (by simp[results,results191,go_sem,x,y,z,A,B,DE,Dk]) rfl
    ⟨.inl ⟨by rw[Da f];decide,by rw[Da f]⟩,JQ F (Aa _) _ _ _ _ _⟩
  |false=>
   obtain⟨c,D⟩:=J.1 rfl;have f:Hid (DR G ns=0):=(by show _=_;unfold DR;rw[if_neg (by simpa using H),if_neg (λh=>by rcases h with h|h;exact c h;rw[D]at h;cases h)]);have aa:=Db D;have HX:Hid (∃j i,ns=j++[n]/\Gd G K j i/\d=some (dQ i 0)/\u=⟨none,0⟩):=(by rcases Da ac with⟨rfl,_⟩|⟨j,i,O,P,Q,_,h5⟩;exact absurd rfl c;exact⟨j,i,O,P,Q,by rw[h5,D];rfl⟩);clear H J c D;go_wp2;have b:=JP a (.pointer d) (dU n) (dV false) (.pointer u.p) (dI u.f);obtain⟨x,y,z,A,B⟩:=b.c4;obtain⟨j,i,O,P,Q,h4⟩:=Da HX;exact Am (v:=.tuple #[Dk d n false u,dI 0]) (by simp[results,results191,go_sem,x,y,z,A,B,Dk]) rfl
    ⟨.inr ⟨Da f,j,n,i,O,P,Da aa,by rw[Q,h4]⟩,JQ F (Aa _) _ _ _ _ _⟩
theorem R8(d:OA)(n:By)(t:Bool)(u:VS)(w:World):Cl 188 #[Dk d n t u] w λe w'=>e=dR (if t=false then .tuple #[dI 0,dI 3] else if u.p.isSome=true then .tuple #[dI 0,dI 5] else .tuple #[dI u.f,dI 0])/\Bw w w':=by
 obtain⟨p,f⟩:=u;unfold Dk;have aa:∀o,Bw w (w.alloc o):=λo=>(Ad _ _).alloc (Aa _) o;cases t with
 |false=>
  go_enter func188,ntmps188;go_wp2
  go_ret2
  simp_all
 |true=>
  cases p with
  |none=>
   go_enter func188,ntmps188;go_wp2
   go_ret2
   simp_all
  |some a=>
   go_enter func188,ntmps188;go_wp2
   go_ret2
   simp_all
def Gk(G:Gh)(p:By)(fits:Bool):Int:=if DA G p fits≠0 then DA G p fits else if Dc p=[] then 5 else match Gr G (Dc p) with|none=>3|some u=>if u.p.isSome=true then 5 else 0
def YO(G:Gh)(p:By)(fits:Bool)(w:World)(e:Ending)(w':World):Prop:=
 ((Gk G p fits≠0/\e=dR (.tuple #[dI 0,dI (Gk G p fits)]))\/
  (Gk G p fits=0/\Di p=true/\∃u,Gr G (Dc p)=some u/\u.p=none/\e=dR (.tuple #[dI u.f,dI 0])))/\Bw w w'
theorem ZV{d:OA}{t:Bool}(h:GR G c ns d n t u):
  (t=false/\ns≠[]/\Gr G ns=none)\/(t=true/\u.p.isSome=true/\(ns=[]\/(ns≠[]/\Gr G ns=some u)))\/(t=true/\u.p=none/\ns≠[]/\Gr G ns=some u):=by
 rcases h with⟨rfl,_,_,rfl,rfl⟩|⟨b,db,rfl,_,_,rfl,rfl⟩;simp_all;cases ha:Gr G (b++[n]) with
 |none=>simp_all
 |some u=>
  cases hu:u.p with
  |none=>simp_all
  |some a=>simp_all
theorem Zf8(w:World)(tb q:Nat)(V:NV)(E:NS)(r:Value)(G:Gh)(I:LF)(C:IB)(h:TW w tb q V E r G I C)(B:Gp G)(D:G.length<=10000)(p:By)(L:p.size<=2000000)(a:Bool):
  Cl 174 #[dP tb,dU p,dV a] w (YO G p a w):=by
 have j:=Se w tb q V E r G I C h B D p L a;go_enter func174,ntmps174;go_wp2_with fail;apply j.Q;rintro e w1⟨M,b⟩;clear j h;rcases M with⟨k,rfl⟩|⟨K,l,d,n,t,u,o,rfl⟩
 .have s:Hid (Gk G p a=DA G p a):=by show _=_;simp_all[Gk,if_pos]
  have aa:=Db k;have ac:(DA G p a != 0)=true:=Ξ;clear k;unfold DE Dk;go_wp2
  go_ret2
  exact⟨.inl ⟨by grind [Da],by rw[Da s];rfl⟩,b.alloc b.size _⟩
 .have ab:=Db l;have m:=ZV o;have i:=λW=>R8 d n t u W;have v:=Db i;have A:Hid (∀W,Bw w W->YO G p a w (dR (if t=false then .tuple #[dI 0,dI 3] else if u.p.isSome=true then .tuple #[dI 0,dI 5] else .tuple #[dI u.f,dI 0])) W):=by intro W F;refine⟨?_,F⟩;rcases m with⟨rfl,f,g⟩|⟨rfl,f,g⟩|⟨rfl,f,g,h3⟩;simp_all[Gk,if_neg];have:Gk G p a=5:=(by unfold Gk;grind);simp_all;simp_all[Gk,if_neg,Da]
  clear o K l m i;unfold Dk;go_wp2_with fail;apply(Da v _).Q;rintro e w2⟨rfl,H⟩;have J:=(b.alloc b.size _).M (H.Q (by have:=b.size;simp;omega));have c:=Da A w2 J;obtain⟨x,y,N⟩:∃x y,(if t=false then Value.tuple #[dI 0,dI 3] else if u.p.isSome=true then .tuple #[dI 0,dI 5] else .tuple #[dI u.f,dI 0])=.tuple #[dI x,dI y]:=by grind
  rw[N]at c ⊢;have z:=Db c;go_wp2
  go_ret2
  exact Da z
theorem XF{w:World}{e:TypeId}{n:Nat}{j:Gf}{t:TypeId}(h:Sl w e c v n j)(m:Gb w b t L)(d f u2 g i:Value)(o:e≠t:=by decide):
  Sl (((((w.setCell (dQ b 0) d).setCell (dQ b 1) f).setCell (dQ b 2) u2).setCell (dQ b 3) g).setCell (dQ b 4) i) e c v n j:=by
 have a:v.ownBlock≠some b:=λk=>by obtain⟨R,l⟩:=h.type k;exact o (l.type m)
 exact((((h.setCell _ d a).setCell _ f a).setCell _ u2 a).setCell _ g a).setCell _ i a
def Zqn(G:Gh)(rd:Nat)(p q:By)(w:World)(e:Ending)(w':World):Prop:=
 ((Di q=false/\e=dR (.tuple #[DE,dN,dI 1]))\/
  (Di q=true/\∃a c,Sl w' 9 1 (.slice a (Dc q).length c) (Dc q).length ((Dc q).map .string)/\
   ((DA G p true≠0/\e=dR (.tuple #[DE,.slice a (Dc q).length c,dI (DA G p true)]))\/
   (DA G p true=0/\Di p=true/\∃d n t u,GR G rd (Dc p) d n t u/\e=dR (.tuple #[Dk d n t u,.slice a (Dc q).length c,dI 0])))))/\Bw w w'
theorem Zij(w:World)(tb S:Nat)(V:NV)(E:NS)(vi:Value)(G:Gh)(I:LF)(C:IB)(h:TW w tb S V E vi G I C)(hG:Gp G)(al:G.length<=10000)(p q:By)(hp:p.size<=2000000)(hq:q.size<=2000000):
  Cl 190 #[dP tb,dU p,dU q] w (Zqn G S p q w):=by
 obtain⟨m,hm⟩:=h.pk.1;have h0:=Ag _ _ hm;have L:∀o,Bw w (w.alloc o):=λo=>(Ad _ _).alloc (Aa _) o;have af:=λo=>Wa q m _ hq (((L o).J h0).M hm);have X:=Db (D9 w Qi 262);go_enter func190,ntmps190;go_wp2_with fail;apply(af _).Q;rintro e T⟨Q,M⟩;have l:=(L _).M (M.Q Θ);have g:Gb T w.heap.size 262 Qi:=(M.block _ Θ).M (Da X);have am:w.heap.size<T.heap.size:=g.lt;have HH:=Db h;clear af L h M X;rcases Q with⟨s,rfl⟩|⟨s,a,c,rfl,aa⟩
 .have F:=Db s;obtain⟨Z,b1,b2,b3,b4⟩:=g.c4;obtain⟨g0,g1,g2,g3,g4⟩:=g.f4;clear s;go_wp2;have f:=JP g (.pointer none) (dU ⟨#[]⟩) (dV false) (.pointer none) (dI 0);obtain⟨x,y,z,A,B⟩:=f.c4;exact Am (by simp[results,results190,go_sem,x,y,z,A,B,DE,Dk]) rfl
   ⟨.inl ⟨Da F,rfl⟩,JQ l (Aa _) _ _ _ _ _⟩
 .have F:=Db s;have h1:=(Da HH).below l (Aa _);have ad:=Se T tb S V E vi G I C h1 hG al p hp true;obtain⟨J,P⟩:=ex ((Dc q).length);have U:=Db P;rw[<-P];clear s h1 P;go_wp2_with fail;apply ad.Q;rintro e w2⟨Q,H⟩;have R:Gb w2 w.heap.size 262 Qi:=(H.block _ g.lt).M g;have N:=l.M (H.Q l.size);have ab:=aa.kept (λk r _=>H.block k r);have Y:=Db ab;have an:w.heap.size<w2.heap.size:=R.lt;clear ad aa ab g l H;have ac:∀(d:OA) (n:By) (t:Bool) (u:VS) (W:World),w2.alloc (.cells (DS d n t u).toArray 262)=W->Gb W w2.heap.size 262 (DS d n t u)/\Gb W w.heap.size 262 Qi/\Bw w W/\Hid (Bw w2 W):=by intro d n t u W j;rw[<-j];exact⟨D9 w2 _ _,R.alloc _,N.alloc N.size _,(Ad _ _).alloc (Aa _) _⟩
  have D:=Db ac;clear ac R N;rcases Q with⟨ae,rfl⟩|⟨he,ag,d,n,t,u,ah,rfl⟩
  .have ai:=Db ae;clear ae;unfold DE Dk;go_upto_region 5 with fail;obtain⟨W,j⟩:∃W,w2.alloc (.cells (DS none ⟨#[]⟩ false ⟨none,0⟩).toArray 262)=W:=⟨_,rfl⟩;obtain⟨i,b,O,K⟩:=Da D _ _ _ _ W j;rw[j];clear j D;obtain⟨a0,a1,a2,a3,a4⟩:=i.c4;obtain⟨Z,b1,b2,b3,b4⟩:=b.c4;obtain⟨g0,g1,g2,g3,g4⟩:=b.f4;go_wp2;have f:=JP b (.pointer none) (dU ⟨#[]⟩) (dV false) (.pointer none) (dI 0);obtain⟨x,y,z,A,B⟩:=f.c4;exact Am (v:=.tuple #[DE,dT a J c,dI (DA G p true)]) (by simp[results,results190,go_sem,x,y,z,A,B,DE,Dk]) rfl
    ⟨.inr ⟨Da F,a,c,XF ((Da Y).kept (λk r _=>(Da K).block k r)) b _ _ _ _ _,.inl ⟨Da ai,by rw[Da U]⟩⟩,JQ O (Aa _) _ _ _ _ _⟩
  .have ak:=Db ah;have aj:=Db ag;have HE:=Db he;clear ah ag he;unfold Dk;go_upto_region 5 with fail;obtain⟨W,j⟩:∃W,w2.alloc (.cells (DS d n t u).toArray 262)=W:=⟨_,rfl⟩;obtain⟨i,b,O,K⟩:=Da D _ _ _ _ W j;rw[j];clear j D;obtain⟨a0,a1,a2,a3,a4⟩:=i.c4;obtain⟨Z,b1,b2,b3,b4⟩:=b.c4;obtain⟨g0,g1,g2,g3,g4⟩:=b.f4;go_wp2;have f:=JP b (.pointer d) (dU n) (dV t) (.pointer u.p) (dI u.f);obtain⟨x,y,z,A,B⟩:=f.c4;exact Am (v:=.tuple #[Dk d n t u,dT a J c,dI 0]) (by simp[results,results190,go_sem,x,y,z,A,B,Dk]) rfl
    ⟨.inr ⟨Da F,a,c,XF ((Da Y).kept (λk r _=>(Da K).block k r)) b _ _ _ _ _,.inr ⟨Da HE,Da aj,d,n,t,u,Da ak,by rw[Da U]⟩⟩,JQ O (Aa _) _ _ _ _ _⟩
theorem VT(s:By)(w:World)(hs:s.size<=2000000):Cl 223 #[dU s] w λe w'=>e=dR (dU s)/\Bw w w':=by have a:=Tryz.stringslite_Clone s w Ω;go_enter func223,ntmps223;go_wp2_with fail;apply a.Q;rintro e w'⟨rfl,hb⟩;go_wp2;go_ret;simp_all
theorem Zg0(d:OA)(n:By)(t:Bool)(u:VS)(w:World):Cl 193 #[Dk d n t u] w λe w'=>e=dR (dV d.isNone)/\Bw w w':=by
 unfold Dk;cases d with
 |none=>
  go_enter func193,ntmps193;go_wp2;go_ret;exact⟨rfl,(Ad _ _).alloc (Aa _) _⟩
 |some a=>
  go_enter func193,ntmps193;go_wp2;go_ret;exact⟨rfl,(Ad _ _).alloc (Aa _) _⟩
theorem Zg2(w:World)(b:Nat)(v:Value)(n:Nat)(a:Gf)(h:Gb w b 229 [v])(d:Sl w 310 3 v n a):Cl 231 #[dP b] w λe w'=>e=dR (dV (decide (20<=n)))/\w'=w:=by have g:=LR w b 0 v n a (h.J 0) d;go_enter func231,ntmps231;go_wp2_with fail;apply g.Q;rintro e w'⟨rfl,rfl⟩;have f:decide ((20)<=(n:Int))=decide (20<=n):=Γ;have c:=Db f;go_wp2;go_ret;exact⟨by rw[<-Da c];rfl,rfl⟩
theorem Vm(w:World)(b:Nat)(n:By)(hn:n.size<=2000000)(t:Bool)(T u:VS)(v:Value)(d:LS)(o:Gb w b 229 [v])(p:Sl w 310 3 v d.length (Ds d))(F:d.length<=10000)(H:GA d)(G:∀x∈d,x.1≠n):
  Cl 183 #[Dk (some (dQ b 0)) n t T,.agg #[.pointer u.p,dI u.f]] w λe w'=>e=dR (.tuple #[])/\∃c a,Gb w' b 229 [c]/\Sl w' 310 3 c a.length (Ds a)/\
   GA a/\a.length=d.length+1/\(∀x,x∈a↔x=(n,u)\/x∈d)/\Dm w v c/\Fr (λk=>k=b\/v.ownBlock=some k) w w':=by
 unfold Dk;go_enter func183,ntmps183;go_wp2;obtain⟨V,z,I,ab,ad,C⟩:=Df w (DS (some (dQ b 0)) n t T) 262;obtain⟨W2,A,q,E,ag,D⟩:=Df V [.pointer u.p,dI u.f] 260;have y:=E _ _ _ I;rw[ad]at q;have B:=C.M (D.Q Ω);rw[z,A];obtain⟨X,Y⟩:=y.c1;obtain⟨Z,c1⟩:=q.c1;have U:Hid (∀j,Bw w j->Cl 226 #[dP b,dU n,.agg #[.pointer u.p,dI u.f]] j λe w'=>e=dR (.tuple #[])/\∃c a,Gb w' b 229 [c]/\Sl w' 310 3 c a.length (Ds a)/\
   GA a/\a.length=d.length+1/\(∀x,x∈a↔x=(n,u)\/x∈d)/\Dm w v c/\Fr (λk=>k=b\/v.ownBlock=some k) w w'/\∀k,k<j.heap.size->w.heap.size<=k->w'.heap[k]?=j.heap[k]?):=by
  intro j f;have s:Gb j b 229 [v]:=(f.block _ o.lt).M o;have aa:=p.kept (λk m _=>f.block k m);have ac:v.ownBlock≠some b:=λe=>by obtain⟨R,hR⟩:=p.type e;have:=hR.type o;grind
  apply(Zs6 j b 0 v d n u (s.J 0) (s.A 0) ac aa F H G).Q;rintro e w'⟨rfl,c,a,q1,N,O,P,Q,S,i⟩;refine⟨rfl,c,a,?_,N,O,P,Q,λg hg=>?_,?_,λk m af=>i.block k m (λe=>by have:=o.lt;omega) (λe=>by have:=p.lt e;omega)⟩;have h1:=i.head;have h2:=s.set 0 c;grind [Gb];rcases S g hg with h|h;simp_all;exact .inr (Ae f.size h);exact⟨i.os.M f.os,i.tape.M f.tape,i.output.M f.output,Ae f.size i.size,λk m hX=>(i.block k (As m f.size) Ω Γ).M (f.block k m)⟩
 clear z A I ab E C D o p F H G y q;go_region_held3 (λW=>W.cell? (dQ w.heap.size 0)=some (dP b)/\W.cell? (dQ w.heap.size 1)=some (dU n)/\W.cell? ⟨w.heap.size+1,0,none⟩=some (.pointer u.p)/\W.cell? ⟨w.heap.size+1,1,none⟩=some (dI u.f)) (go_keep)
  (first|(go_at_call 223;apply(VT _ _ hn).Q;rintro e w'⟨rfl,l⟩;have ae:=(B.drew).M (l.Q (by have:=B.size;simp_all));have J:=(l.J (by simp;omega)).M X;have K:=(l.J (by simp;omega)).M Y;have L:=(l.J Ξ).M Z;have M:=(l.J Ξ).M c1;clear l)|(go_at_call 226;apply(Da U _ Ψ).Q;rintro e ah⟨rfl,c,a,q1,N,O,P,Q,S,i,r⟩;have m0:=(AA (r _ (Ag _ _ J) (Aa _))).M J;have m1:=(AA (r _ (Ag _ _ K) (Aa _))).M K;have m2:=(AA (r _ (Ag _ _ L) (Ef _))).M L;have m3:=(AA (r _ (Ag _ _ M) (Ef _))).M M))
 all_goals
  go_wp2
  go_end0
  grind
theorem Vs(w:World)(b:Nat)(n:By)(t:Bool)(K u:VS)(v:Value)(d:LS)(m:Gb w b 229 [v])(o:Sl w 310 3 v d.length (Ds d))(C:d.length<=10000)(D:GA d)(B:(n,u)∈d):
  Cl 196 #[Dk (some (dQ b 0)) n t K] w λe w'=>e=dR (.tuple #[])/\∃c a,Gb w' b 229 [c]/\Sl w' 310 3 c a.length (Ds a)/\
   GA a/\a.length+1=d.length/\(∀x,x∈a↔x∈d/\x.1≠n)/\Dm w v c/\Fr (λk=>k=b\/v.ownBlock=some k) w w':=by
 unfold Dk;go_enter func196,ntmps196;go_wp2;obtain⟨W2,z,q,S,ab,P⟩:=Df w (DS (some (dQ b 0)) n t K) 262;rw[z];obtain⟨r,s⟩:=q.c1;have L:Hid (∀j,Bw w j->Cl 233 #[dP b,dU n] j λe w'=>e=dR (.tuple #[])/\∃c a,Gb w' b 229 [c]/\Sl w' 310 3 c a.length (Ds a)/\
   GA a/\a.length+1=d.length/\(∀x,x∈a↔x∈d/\x.1≠n)/\Dm w v c/\Fr (λk=>k=b\/v.ownBlock=some k) w w'/\∀k,k<j.heap.size->w.heap.size<=k->w'.heap[k]?=j.heap[k]?):=by
  intro j f;have p:Gb j b 229 [v]:=(f.block _ m.lt).M m;have O:=o.kept (λk l _=>f.block k l);have T:v.ownBlock≠some b:=λe=>by obtain⟨R,N⟩:=o.type e;have:=N.type m;revert this;decide
  apply(Ok j b 0 v d n u (p.J 0) (p.A 0) T O C D B).Q;rintro e w'⟨rfl,c,a,U,E,F,G,H,I,i⟩;refine⟨rfl,c,a,?_,E,F,G,H,λg Q=>?_,?_,λk l aa=>i.block k l (λe=>by have:=m.lt;omega) (λe=>by have:=o.lt e;omega)⟩;have M:=i.head;have y:=p.set 0 c;unfold Gb at y ⊢;rw[M];simpa using y;rcases I g Q with h|h;exact .inl h;exact .inr (Ae f.size h);exact⟨i.os.M f.os,i.tape.M f.tape,i.output.M f.output,Ae f.size i.size,λk l A=>(i.block k (As l f.size) (λe=>A (.inl e)) (λe=>A (.inr e))).M (f.block k l)⟩
 clear z S m o C D B q;go_region_held3 (λW=>W.cell? (dQ w.heap.size 0)=some (dP b)/\W.cell? (dQ w.heap.size 1)=some (dU n)) (go_keep)
  (first|(go_at_call 233;apply(Da L _ P.drew).Q;rintro e ac⟨rfl,c,a,U,E,F,G,H,I,i,J⟩;have m0:=(AA (J _ (Ag _ _ r) (Aa _))).M r;have m1:=(AA (J _ (Ag _ _ s) (Aa _))).M s))
 all_goals
  go_wp2
  go_end0
  grind
theorem Zf7(w:World)(tb g:Nat)(V:NV)(E:NS)(t:Value)(G:Gh)(I:LF)(C:IB)(h:TW w tb g V E t G I C)(j:Gp G)(r:G.length<=10000)(d:LY)(b:Nat)(l:Gd G g d b):
  Cl 225 #[dP tb,dP b] w λe w'=>e=dR (dV (decide (G.countP (GH d)<20/\G.length<100)))/\Bw w w':=by
 have k:=Zim G j r g V E 6 [] g w Θ (.inl ⟨rfl,rfl⟩) h.d;rw[ZtZ j]at k;have f:=λ(W) (a)=>Zg2 W b _ _ _ ((h.d.below a (Aa _)).row d b l) ((h.d.below a (Aa _)).sl d b l);rw[h.d.len j l]at f;have s:=h.t.J 0;obtain⟨c,p⟩:=ex (G.countP (GH d));have aa:c<=10000:=Γ;rw[<-p]at f ⊢;have n:=Db f;clear f p;go_enter func225,ntmps225;go_wp2_with fail;apply k.Q;rintro e w1⟨rfl,a⟩;clear k s;by_cases o:20<=c
 .have i:Hid (decide (c<20/\G.length<100)=false):=Cd (λh=>Ω);have q:=CM o;go_wp2_with(first|(go_at_call 231;apply(Da n _ a).Q;rintro e w'⟨rfl,m⟩;rw[m];clear m;rw[q]));go_ret;exact⟨by rw[Da i];rfl,a⟩
 .have q:=Cd o;have i:Hid (decide (c<20/\G.length<100)=decide ((G.length:Int)<100)):=by show _=_;grind
  go_wp2_with(first|(go_at_call 231;apply(Da n _ a).Q;rintro e w'⟨rfl,m⟩));go_ret;exact⟨by rw[Da i];rfl,a⟩
theorem Znh(w:World)(tb b:Nat)(V:NV)(E:NS)(c:Value)(G:Gh)(I:LF)(C:IB)(h:TW w tb b V E c G I C)(f:Gp G)(g:G.length<=10000)(aa:I.length<=10000):
  Cl 81 #[dP tb] w λe w'=>e=dR (dI ((cD G []+I.length:Nat):Int))/\Bw w w':=by
 have i:=Zim G f g b V E 6 [] b w Θ (.inl ⟨rfl,rfl⟩) h.d;have j:=λ(W) (a)=>SF W tb 1 c _ _ ((h.below a (Aa _)).t.J 1) (h.below a (Aa _)).i;have ab:=h.t.J 0;have ac:=SY G [];have d:=Db j;go_enter func81,ntmps81;go_wp2_with fail;apply i.Q;rintro e w1⟨rfl,a⟩;go_wp2_with(first|(apply(Da d _ a).Q;rintro e w'⟨rfl,hw⟩));go_ret;simp_all
theorem Zf6(w:World)(tb d:Nat)(V:NV)(E:NS)(k:Value)(G:Gh)(I:LF)(C:IB)(h:TW w tb d V E k G I C)(l:Gp G)(m:G.length<=10000)(q:I.length<=10000)(a:LY)(g:Nat)(s:Gd G d a g):
  Cl 182 #[dP tb,dP g] w λe w'=>e=dR (dV (decide ((G.countP (GH a)<20/\G.length<100)/\cD G []+I.length<60)))/\Bw w w':=by
 have n:=Zf7 w tb d V E k G I C h l m a g s;have i:=λ(W) (b)=>Znh W tb d V E k G I C (h.below b (Aa _)) l m q;obtain⟨j,o⟩:=ex (cD G []+I.length);rw[<-o]at i ⊢;have p:=Db i;clear i o h;go_enter func182,ntmps182;go_wp2_with fail;apply n.Q;rintro e w2⟨rfl,b⟩;clear n;by_cases u:G.countP (GH a)<20/\G.length<100
 .have t:=CM u;rw[t];have f:Hid (decide ((G.countP (GH a)<20/\G.length<100)/\j<60)=decide ((j:Int)<60)):=by show _=_;grind
  go_wp2_with(first|(apply(Da p _ b).Q;rintro e w3⟨rfl,r⟩));go_ret;exact⟨by rw[Da f];rfl,b.M (r.Q b.size)⟩
 .have f:Hid (decide ((G.countP (GH a)<20/\G.length<100)/\j<60)=false):=Cd Ω;go_wp2;go_ret;exact⟨by rw[Da f];rfl,b⟩
def IP(f:Nat -> α)(b:Nat)(v : α):Nat -> α:=λk=>if k=b then v else f k
theorem JU(f:Nat -> α)(b:Nat)(v : α):IP f b v b=v:=by simp[IP]
theorem JB(f:Nat -> α)(v : α)(h:k≠b):IP f b v k=f k:=by simp[IP,h]
structure IJ(w:World)(rd:Nat)(B:Nat->Prop)(V:NV)(E:NS):Prop where
 row:∀b,B b->Gb w b 229 [V b]
 sl:∀b,B b->Sl w 310 3 (V b) (E b).length (Ds (E b))
 ak:∀b,B b->GA (E b)
 aq:∀b b' g,B b->B b'->(V b).ownBlock=some g->(V b').ownBlock=some g->b=b'
 lo:∀b,B b->rd<=b/\∀g,(V b).ownBlock=some g->rd<=g
theorem GB.h{w:World}(h:GB w G c V E):IJ w c (λb=>∃ns,Gd G c ns b) V E:=
 ⟨λb ⟨ns,a⟩=>h.row ns b a,λb ⟨ns,a⟩=>h.sl ns b a,λb ⟨ns,a⟩=>h.ak ns b a,λb d g ⟨ns,a⟩ ⟨f,e⟩=>h.aq ns f b d g a e,λb ⟨ns,a⟩=>h.lo ns b a⟩
theorem IJ.w{w:World}{d:Nat}{B:Nat->Prop}(h:IJ w d B V E)(c:∀ns b,Gd G d ns b->B b)(l:∀x∈G,x.2.p=none\/∃b,x.2=⟨some (dQ b 0),0⟩)(j:∀ns b,Gd G d ns b->Ib G ns (E b))(k:∀ns e b,Gd G d ns b->Gd G d e b->ns=e):GB w G d V E:=
 ⟨l,λns b a=>h.row b (c ns b a),λns b a=>h.sl b (c ns b a),λns b a=>h.ak b (c ns b a),j,k,λns e b f g a i=>h.aq b f g (c ns b a) (c e f i),λns b a=>h.lo b (c ns b a)⟩
theorem IJ.f8{w:World}{v:Nat}{B:Nat->Prop}(h:IJ w v B V E)(j:B a){p:Value}{o:LS}(hr:Gb w' a 229 [p])(hS:Sl w' 310 3 p o.length (Ds o))(hs:GA o)(s:Dm w (V a) p)(u:Fr (λk=>k=a\/(V a).ownBlock=some k) w w'):IJ w' v B (IP V a p) (IP E a o):=by have ab:=h.lo a j;have aa:=(h.row a j).lt;refine⟨λb c=>?_,λb c=>?_,λb c=>?_,λb n g c r d f=>?_,λb c=>⟨(h.lo b c).1,λg l=>?_⟩⟩;by_cases e:b=a;grind [JU];rw[JB _ _ e];exact(h.row b c).e u (λt=>t.elim e (λd=>by obtain⟨R,q⟩:=(h.sl a j).type d;have:=q.type (h.row b c);grind));by_cases e:b=a;grind [JU];rw[JB _ _ e,JB _ _ e];refine(h.sl b c).e u (λg l t=>?_);rcases t with rfl|d;obtain⟨R,q⟩:=(h.sl b c).type l;have:=q.type (h.row g j);grind;exact e (h.aq b a g c j l d);by_cases e:b=a;grind [JU];rw[JB _ _ e];exact h.ak b c;by_cases e:b=a;by_cases m:n=a;rw[e,m];rw[e,JU]at d;rw[JB _ _ m]at f;rcases s g d with i|i;rw[e];exact h.aq a n g j r i f;have:=(h.sl n r).lt f;omega;by_cases m:n=a;rw[m,JU]at f;rw[JB _ _ e]at d;rcases s g f with i|i;rw[m];exact h.aq b a g c j d i;have:=(h.sl b c).lt d;omega;rw[JB _ _ e]at d;rw[JB _ _ m]at f;exact h.aq b n g c r d f;by_cases e:b=a;subst e;rw[JU]at l;rcases s g l with i|i;simp_all;omega;rw[JB _ _ e]at l;exact(h.lo b c).2 g l
theorem IJ.new{w:World}{e:Nat}{B:Nat->Prop}(h:IJ w e B V E)(aa:e<=nb)(c:∀b,B b->b≠nb)(hr:Gb w nb 229 [dN]):IJ w e (λb=>B b\/b=nb) (Go.Proofs.YtaieidcohdhgpaaGreatDoor.IP V nb dN) (Go.Proofs.YtaieidcohdhgpaaGreatDoor.IP E nb []):=by refine⟨λb a=>?_,λb a=>?_,λb a=>?_,λb f g a d i l=>?_,λb a=>?_⟩;rcases a with a|rfl;rw[JB _ _ (c b a)];exact h.row b a;grind [JU];rcases a with a|rfl;rw[JB _ _ (c b a),JB _ _ (c b a)];exact h.sl b a;rw[JU,JU];exact⟨rfl,Γ⟩;rcases a with a|rfl;rw[JB _ _ (c b a)];exact h.ak b a;rw[JU];intro j k x y _ hx;grind;rcases a with a|rfl;rcases d with d|rfl;rw[JB _ _ (c b a)]at i;rw[JB _ _ (c f d)]at l;exact h.aq b f g a d i l;grind [JU,Value.ownBlock];grind [JU,Value.ownBlock];rcases a with a|rfl;rw[JB _ _ (c b a)];exact h.lo b a;grind [JU,Value.ownBlock]
theorem Gd.func(c:Gp G){e:Nat}{d:Nat}(h:Gd G e ns b)(a:Gd G e ns d):b=d:=by rcases h with⟨rfl,rfl⟩|h;rcases a with⟨_,rfl⟩|a;rfl;exact absurd rfl (c.ne _ a);rcases a with⟨rfl,rfl⟩|a;exact absurd rfl (c.ne _ h);have:=Kz c.nd h a;simp_all
theorem Qu{a b:List α}{x y : α}(h:a++[x]=b++[y]):a=b/\x=y:=by simp_all
theorem GB.g9{w:World}(h:GB w G j V E)(y:Gp G){d:LY}(r:Gd G j d c){f:Int}(D:Gb w' c 229 [o])(z:Sl w' 310 3 o g.length (Ds g))(F:GA g)(B:∀x,x∈g↔x=(n,⟨none,f⟩)\/x∈E c)(C:Dm w (V c) o)(A:Fr (λk=>k=c\/(V c).ownBlock=some k) w w'):GB w' (G++[(d++[n],⟨none,f⟩)]) j (IP V c o) (IP E c g):=by
 have l:∀ns b,Gd (G++[(d++[n],(⟨none,f⟩))]) j ns b↔Gd G j ns b:=by intro ns b;constructor;rintro(e|a);exact .inl e;rcases Al.1 a with a|a;exact .inr a;simp_all;rintro(e|a);exact .inl e;exact .inr (Ba _ a)
 refine(h.h.f8 ⟨d,r⟩ D z F C A).w (λns b q=>⟨ns,(l ns b).1 q⟩) (λx a=>?_) (λns b q=>?_) (λns H b t v=>h.inj ns H b ((l _ _).1 t) ((l _ _).1 v));rcases Al.1 a with a|a;exact h.c9 x a;simp_all;have i:=(l ns b).1 q;intro m u;by_cases e:b=c;subst e;obtain rfl:=h.inj ns d b i r;rw[JU,B,Al,h.en ns b i m u,Ax];constructor;grind;grind [Prod.mk.inj,Qu];rw[JB _ _ e,h.en ns b i m u,Al,Ax];constructor;grind;rintro(p|p);exact p;obtain⟨s,_⟩:=Fy p;rw[(Qu s).1]at i;exact absurd (i.func y r) e
theorem GB.dr{w:World}{f:Nat}(h:GB w G f V E)(B:Gp G){d:LY}(t:Gd G f d c)(H:Gr G (d++[n])=none)(L:f<=nb)(p:∀ns b,Gd G f ns b->b≠nb)(M:Gb w' nb 229 [dN]){i:LS}(N:Gb w' c 229 [q])(F:Sl w' 310 3 q i.length (Ds i))(O:GA i)(J:∀x,x∈i↔x=(n,⟨some (dQ nb 0),0⟩)\/x∈E c)(K:Dm w (V c) q)(I:Fr (λk=>k=c\/(V c).ownBlock=some k) w w'):GB w' (G++[(d++[n],⟨some (dQ nb 0),0⟩)]) f (IP (IP V c q) nb dN) (IP (IP E c i) nb []):=by
 have o:∀ns b,Gd (G++[(d++[n],(⟨some (dQ nb 0),0⟩))]) f ns b->Gd G f ns b\/(ns=d++[n]/\b=nb):=by intro ns b;rintro(e|a);exact .inl (.inl e);rcases Al.1 a with a|a;exact .inl (.inr a);simp_all
 refine((h.h.f8 ⟨d,t⟩ N F O K I).new L (λb ⟨ns,l⟩=>p ns b l) M).w (λns b l=>?_) (λx a=>?_) (λns b l=>?_) (λns z b D A=>?_);grind;rcases Al.1 a with a|a;exact h.c9 x a;simp_all;intro m u;rcases o ns b l with g|⟨rfl,rfl⟩;rw[JB _ _ (p ns b g)];by_cases e:b=c;subst e;obtain rfl:=h.inj ns d b g t;rw[JU,J,Al,h.en ns b g m u,Ax];constructor;grind;grind [Prod.mk.inj,Qu];rw[JB _ _ e,h.en ns b g m u,Al,Ax];constructor;grind;rintro(j|j);omega;obtain⟨r,_⟩:=Fy j;rw[(Qu r).1]at g;exact absurd (g.func B t) e;rw[JU];constructor;intro a;cases a;intro a;exfalso;rcases Al.1 a with a|a;rcases B.up _ _ _ a with e|⟨v,P,_⟩;simp at e;exact Ux H v P;have e:=(Fy (Ax.1 a)).1;have:=Cp List.length e;simp at this;rcases o ns b D with C|⟨j,r⟩;rcases o z b A with y|⟨_,s⟩;exact h.inj ns z b C y;exact absurd s (p _ _ C);rcases o z b A with y|⟨s,_⟩;exact absurd r (p _ _ y);rw[j,s]
theorem GB.gs{w:World}{g:Nat}(h:GB w G g V E)(v:Gp G){i:LY}(q:Gd G g i a)(j:∀x,x∈G'↔x∈G/\x.1≠i++[n]){c:LS}(C:Gb w' a 229 [o])(y:Sl w' 310 3 o c.length (Ds c))(D:GA c)(A:∀x,x∈c↔x∈E a/\x.1≠n)(B:Dm w (V a) o)(z:Fr (λk=>k=a\/(V a).ownBlock=some k) w w'):GB w' G' g (IP V a o) (IP E a c):=by
 have l:∀ns b,Gd G' g ns b->Gd G g ns b:=by intro ns b;rintro(e|r);exact .inl e;exact .inr ((j _).1 r).1
 refine(h.h.f8 ⟨i,q⟩ C y D B z).w (λns b p=>⟨ns,l ns b p⟩) (λx r=>h.c9 x ((j x).1 r).1) (λns b p=>?_) (λns F b d t=>h.inj ns F b (l _ _ d) (l _ _ t));have f:=l ns b p;intro m u;by_cases e:b=a;subst e;obtain rfl:=h.inj ns i b f q;rw[JU,A,j,h.en ns b f m u];simp_all;rw[JB _ _ e,h.en ns b f m u,j];constructor;intro d;refine⟨d,λs=>?_⟩;rw[(Qu s).1]at f;exact e (f.func v q);exact λd=>d.1
def DV(tb:Nat)(w:World)(k:Nat):Prop:=(∃t R,Gb w k t R/\(t=214\/t=229\/t=310\/t=293))/\tb<=k+1
def PS(w:World)(tb:Nat)(G:Gh)(I:LF)(C:IB):Prop:=∃rd V E vi,TW w tb rd V E vi G I C
theorem Gb.e2{w:World}(b:Below B w w')(_hk:k<w.heap.size)(a:k<B){t:TypeId}{R:Gf}(h:Gb w' k t R):Gb w k t R:=(b.block k a).r.M h
theorem Fr.pg{w d:World}(a:Bw w d)(b:Fr (DV tb d) d w2):Fr (DV tb w) w w2:=
 ⟨b.os.M a.os,b.tape.M a.tape,b.output.M a.output,Ae a.size b.size,λk c f=>(b.block k (As c a.size) (λ⟨⟨t,R,e,h⟩,g⟩=>f ⟨⟨t,R,e.e2 a c c,h⟩,g⟩)).M (a.block k c)⟩
theorem Fr.ab{w c:World}(a:Fr (DV tb w) w c)(b:Fr (DV tb c) c w2):Fr (DV tb w) w w2:=
 ⟨b.os.M a.os,b.tape.M a.tape,b.output.M a.output,Ae a.size b.size,λk f d=>by have e:=a.block k f d;refine(b.block k Γ (λ⟨⟨t,R,hR,h⟩,g⟩=>d ⟨⟨t,R,?_,h⟩,g⟩)).M e;grind [Gb]⟩
theorem Fr.ay{w:World}(c:tb<=b+1/\∀g,v.ownBlock=some g->tb<=g+1)(hr:Gb w b 229 [v]){n:Nat}{f:Gf}(d:Sl w 310 3 v n f)(e:Fr (λk=>k=b\/v.ownBlock=some k) w w'):Fr (DV tb w) w w':=
 e.Q (λk _ a=>by rcases a with rfl|a;exact⟨Γ,c.1⟩;obtain⟨R,hR⟩:=d.type a;exact⟨Γ,c.2 k a⟩)
theorem TW.d9{w:World}{i:Nat}(h:TW w tb i V E q G I C){d:Nat}(z:Gb w d 229 [v]){n:Nat}{A:Gf}(o:Sl w 310 3 v n A)(c:Fr (λk=>k=d\/v.ownBlock=some k) w w'){l:NV}{j:NS}(y:GB w' G' i l j):TW w' tb i l j q G' I C:=by
 have u:∀k t R,(k=d\/v.ownBlock=some k)->Gb w k t R->t=229\/t=310:=λk t R a b=>by rcases a with rfl|a;exact .inl (b.type z);obtain⟨r,m⟩:=o.type a;exact .inr (b.type m)
 refine⟨h.pk.e c (λe=>?_),h.t.e c (λe=>?_),y,h.i.e c (λg f e=>?_),h.si,λx p=>(h.av x p).e c (λg f e=>?_),h.lo⟩;obtain⟨_,ht⟩:=h.pk;rcases e with rfl|a;grind;obtain⟨r,m⟩:=o.type a;grind
 .rcases u _ _ _ e h.t with s|s<;>(grind)
 obtain⟨R,b⟩:=h.i.type f;grind;obtain⟨R,b⟩:=(h.av x p).type f;grind
def Je(G:Gh)(I:LF)(ds:LY):Bool:=decide ((G.countP (GH ds)<20/\G.length<100)/\cD G []+I.length<60)
def ID(G:Gh)(I:LF)(p:By):Int:=if Di p=false then 1 else if DR G (Dc p)≠0 then DR G (Dc p) else if Je G I (Dc p).dropLast=false then 8 else 0
def PU(w:World)(tb:Nat)(G:Gh)(I:LF)(C:IB)(p:By)(e:Ending)(w':World):Prop:=
 e=dR (dI (ID G I p))/\Fr (DV tb w) w w'/\((ID G I p≠0/\PS w' tb G I C)\/(ID G I p=0/\∃nb,PS w' tb (G++[(Dc p,⟨some (dQ nb 0),0⟩)]) I C))
def Hy(G:Gh)(p:By):Int:=if Di p=false then 1 else DR G (Dc p)
def W9(G:Gh)(rd:Nat)(p:By)(w:World)(e:Ending)(w':World):Prop:=
 ((Hy G p≠0/\e=dR (.tuple #[DE,dI (Hy G p)]))\/
  (Hy G p=0/\Di p=true/\∃ds n db,Dc p=ds++[n]/\Gd G rd ds db/\Gr G (Dc p)=none/\e=dR (.tuple #[Dk (some (dQ db 0)) n false ⟨none,0⟩,dI 0])))/\Bw w w'
theorem Sd(w:World)(tb u:Nat)(V:NV)(E:NS)(Q:Value)(G:Gh)(I:LF)(C:IB)(h:TW w tb u V E Q G I C)(hG:Gp G)(aa:G.length<=10000)(p:By)(hp:p.size<=2000000):
  Cl 181 #[dP tb,dU p] w (W9 G u p w):=by
 obtain⟨m,M⟩:=h.pk.1;have h0:=Ag _ _ M;have x:∀o,Bw w (w.alloc o):=λo=>(Ad _ _).alloc (Aa _) o;have N:=λo=>Wa p m _ hp (((x o).J h0).M M);have P:=D9 w [.pointer none,dU ⟨#[]⟩,dV false,.pointer none,dI 0] 262;have W:=Db P;clear P;go_enter func181,ntmps181;go_wp2_with fail;apply(N _).Q;rintro e R⟨A,y⟩;have j:=(x _).M (y.Q Θ);have d:Gb R w.heap.size 262 _:=(y.block _ Θ).M (Da W);have S:=Db h;clear N x h;rcases A with⟨g,rfl⟩|⟨g,a,c,rfl,D⟩
 .have i:Hid (Hy G p=1):=by show _=_;unfold Hy;rw[if_pos g]
  obtain⟨g0,g1,g2,g3,g4⟩:=d.f4;obtain⟨X,Y,Z,a3,a4⟩:=d.c4;clear g;go_wp2;have b:=JP d (.pointer none) (dU ⟨#[]⟩) (dV false) (.pointer none) (dI 0);obtain⟨k,l,q,r,s⟩:=b.c4;exact Am (v:=.tuple #[DE,dI 1]) (by simp[results,results181,go_sem,k,l,q,r,s,DE,Dk]) rfl
   ⟨.inl ⟨by rw[Da i];decide,by rw[Da i]⟩,JQ j (Aa _) _ _ _ _ _⟩
 .have i:Hid (Hy G p=DR G (Dc p)):=by show _=_;unfold Hy;rw[if_neg (by rw[g];simp)]
  have B:=(Da S).below j (Aa _);have L:=U3 R tb u V E Q G I C B hG aa _ (QA g) a c D;have T:=Db g;clear g B;go_wp2_with fail;apply L.Q;rintro e w2⟨A,z⟩;have f:Gb w2 w.heap.size 262 _:=(z.block _ d.lt).M d;have H:=j.M (z.Q j.size);clear L d j z y D;obtain⟨g0,g1,g2,g3,g4⟩:=f.f4;obtain⟨X,Y,Z,a3,a4⟩:=f.c4;rcases A with⟨ab,rfl⟩|⟨K,ds,n,t,O,J,F,rfl⟩
  .unfold DE Dk;go_wp2;have b:=JP f (.pointer none) (dU ⟨#[]⟩) (dV false) (.pointer none) (dI 0);obtain⟨k,l,q,r,s⟩:=b.c4;exact Am (v:=.tuple #[DE,dI (DR G (Dc p))]) (by simp[results,results181,go_sem,k,l,q,r,s,DE,Dk]) rfl
    ⟨.inl ⟨by rw[Da i];exact ab,by rw[Da i]⟩,JQ H (Aa _) _ _ _ _ _⟩
  .have U:Hid (W9 G u p w (dR (.tuple #[Dk (some (dQ t 0)) n false ⟨none,0⟩,dI 0])) (((((w2.setCell (dQ w.heap.size 0) (dP t)).setCell (dQ w.heap.size 1) (dU n)).setCell (dQ w.heap.size 2) (dV false)).setCell (dQ w.heap.size 3) (.pointer none)).setCell (dQ w.heap.size 4) (dI 0))):=
    ⟨.inr ⟨(Da i).M K,Da T,ds,n,t,O,J,F,rfl⟩,JQ H (Aa _) _ _ _ _ _⟩
   clear K O J F;unfold Dk;go_wp2;have b:=JP f (dP t) (dU n) (dV false) (.pointer none) (dI 0);obtain⟨k,l,q,r,s⟩:=b.c4;exact Am (by simp[results,results181,go_sem,k,l,q,r,s,Dk]) rfl (Da U)
theorem Zh8(w:World)(tb:Nat)(G:Gh)(I:LF)(C:IB)(h:PS w tb G I C)(t:Gp G)(y:G.length<=10000)(ak:I.length<=10000)(p:By)(hp:p.size<=2000000):
  Cl 122 #[dP tb,dU p] w (PU w tb G I C p):=by
 obtain⟨q,V,E,v,h⟩:=h;have J:Hid (∀W,Bw w W->ID G I p≠0->PU w tb G I C p (dR (dI (ID G I p))) W):=λW g u=>⟨rfl,Fr.S g,.inl ⟨u,q,V,E,v,h.below g (Aa _)⟩⟩;have ab:=Sd w tb q V E v G I C h t y p hp;have r:=Db h;clear h;go_enter func122,ntmps122;go_wp2_with fail;apply ab.Q;rintro e w2⟨an,g⟩;clear ab;rcases an with⟨u,rfl⟩|⟨he,hn,d,n,f,ad,a,X,rfl⟩
 .have j:Hid (ID G I p=Hy G p):=by show _=_;unfold ID Hy at *;grind
  have ap:=Db u;have au:(Hy G p != 0)=true:=Ξ;clear u;unfold DE Dk;go_wp2;go_ret;have:=Da J _ (g.alloc g.size (.cells (DS none ⟨#[]⟩ false ⟨none,0⟩).toArray 262)) (by grind [Da]);rw[Da j]at this;exact this
 .have he:DR G (Dc p)=0:=by simp_all[Hy,if_neg]
  have H:=Db hn;obtain⟨W,T,i,hk,av,am⟩:=Df w2 (DS (some (dQ f 0)) n false ⟨none,0⟩) 262;have z:=g.M (am.Q g.size);have ac:=Zf6 W tb q V E v G I C ((Da r).below z (Aa _)) t y ak d f a;have ai:Hid (ID G I p=if Je G I d=false then 8 else 0):=by show _=_;unfold ID;simp_all
  have s:=Db ad;have D:=Db X;have ag:=Db a;have K:=Db T;clear he ad X a hk T;unfold Dk;go_upto_if 20 with fail;rw[Da K];clear K;obtain⟨L,M,N,O,P⟩:=i.c4;go_wp2_with fail;apply ac.Q;rintro e k⟨rfl,Y⟩;have m:Gb k w2.heap.size 262 _:=(Y.block _ i.lt).M i;have l:=z.M (Y.Q z.size);clear ac L M N O P;change Hid (ID G I p=if Je G I d=false then 8 else 0) at ai;rw[show decide _=Je G I d from rfl];cases hmb:Je G I d with
  |false=>
   have j:Hid (ID G I p=8):=Ξ;go_wp2;go_ret;have:=Da J k l (by rw[Da j];decide);rw[Da j]at this;exact this
  |true=>
   have j:Hid (ID G I p=0):=Ξ;obtain⟨L,M,N,O,P⟩:=m.c4;obtain⟨W4,U,af,ar,aw,al⟩:=Df k [dN] 229;have Z:=l.M (al.Q l.size);have c:=(Da r).below Z (Aa _);have a:=Da ag;have A:=Vm W4 f n (by
    have:=QA (Da H);cases hr:(p.toList==[47]) with
    |true=>grind [UC,Da]
    |false=>
     have Q:=(Uj (Da H) hr).2.1 n (by rw[Da s];simp);simp only[DZ,AQ,An]at Q;have:=Q.1.2;omega) false ⟨none,0⟩ ⟨some (dQ k.heap.size 0),0⟩ _ _ (c.d.row d f a) (c.d.sl d f a) (Ae (c.d.le t a) y) (c.d.ak d f a) (λx i e=>by
     have:=(c.d.en d f a _ _).1 i;rw[e]at this;exact Ux (by rw[<-Da s];exact Da D) _ this)
   unfold Dk at A;have F:=Db A;have H4:=Db c;have aj:=Db U;clear A c U;go_wp2_with fail;rw[Da aj];apply(Da F).Q;rintro e w5⟨rfl,v',aq,q1,q2,q3,q4,q5,q6,o⟩;have ah:Hid (PU w tb G I C p (dR (dI 0)) w5):=by
    have c:=Da H4;have ae:=c.d.row d f a;have B:=c.d.sl d f a;have aa:∀ns b,Gd G q ns b->b≠k.heap.size:=λns b g e=>by have:=((Da r).d.row ns b g).lt;have:=l.size;omega
    have ao:Gb w5 k.heap.size 229 [dN]:=(by refine af.e o (λe=>?_);rcases e with e|e;exact aa d f a e.r;obtain⟨R,hR⟩:=B.type e;have:=hR.type af;revert this;decide);have hD:=c.d.dr t a (by rw[<-Da s];exact Da D) (Ae (Nat.le_of_lt ((Da r).d.row _ _ (.inl ⟨rfl,rfl⟩)).lt) l.size) aa ao q1 q2 q3 q5 q6 o;have S:=TW.d9 c ae B o hD;rw[<-Da s]at S;exact⟨by rw[Da j],Fr.pg Z (Fr.ay (c.f7 a) ae B o),.inr ⟨Da j,k.heap.size,q,_,_,v,S⟩⟩
   clear F q1 q2 q3 q4 q5 q6 o;go_wp2;go_ret;exact Da ah
theorem TW.fc{w:World}{c d:Value}{a:LF}{l:IB}(h:TW w tb j V E c G I C)(v:Gb w' tb 214 [dP j,d])(q:Sl w' 293 3 d a.length (Du a))(y:G3 a)(m:Fr (λk=>k=tb\/c.ownBlock=some k) w w')(r:∀x∈a,Sl w' 5 1 (dT x.2.a x.2.l x.2.c) x.2.l (Dd (l x.1)))(u:Dm w c d):TW w' tb j V E d G a l:=by
 have hX:∀k t R,(k=tb\/c.ownBlock=some k)->Gb w k t R->t=214\/t=293:=λk t R b f=>by rcases b with rfl|b;exact .inl (f.type h.t);obtain⟨o,i⟩:=h.i.type b;exact .inr (f.type i)
 refine⟨h.pk.e m (λe=>?_),v,h.d.e m (λk t R e f=>?_),q,y,r,h.lo.1,λg s=>(u g s).elim (h.lo.2 g) (λp=>Ae (Nat.le_of_lt (h.d.row _ _ (.inl ⟨rfl,rfl⟩)).lt) p)⟩;obtain⟨_,n⟩:=h.pk;rcases e with rfl|b;have:=n _ _ h.t;grind;obtain⟨o,i⟩:=h.i.type b;have:=n _ _ i;revert this;decide;grind
theorem Fr.dg{w:World}{d:Nat}{b:Value}(h:TW w tb d V E b G I C)(c:Fr (λk=>k=tb\/b.ownBlock=some k) w w'):Fr (DV tb w) w w':=
 c.Q (λk _ a=>by rcases a with rfl|a;exact⟨⟨214,_,h.t,.inl rfl⟩,Ef _⟩;obtain⟨R,hR⟩:=h.i.type a;exact⟨Γ,by have:=h.lo.1;have:=h.lo.2 k a;omega⟩)
theorem TW.ne{w:World}{a:Value}(h:TW w tb c V E a G I C):a.ownBlock≠some tb:=λe=>by obtain⟨R,b⟩:=h.i.type e;have:=b.type h.t;grind
theorem XC{w:World}{a b c:Value}(h:Gb w tb 214 [a,b])(d:Ls w w' tb 1 v c):Gb w' tb 214 [a,c]:=by have h1:=d.head;have h2:=h.set 1 c;grind [Gb]
theorem Zf2(w:World)(tb f:Nat)(V:NV)(E:NS)(a:Value)(G:Gh)(I:LF)(C:IB)(h:TW w tb f V E a G I C)(q:I.length<=10000)(n:Int)(p r:VF)(u:(n,p)∈I)(s:By)(aa:Sl w 5 1 (dT r.a r.l r.c) r.l (Dd s)):
  Cl 228 #[.pointer (some (dQ tb 1)),dI n,.agg #[dT r.a r.l r.c,dI r.f]] w λe w'=>e=dR (.tuple #[])/\(∃b,TW w' tb f V E a G b (λk=>if k=n then s else C k)/\b.length=I.length/\∀x,x∈b↔x=(n,r)\/x∈I/\x.1≠n)/\Fr (λk=>k=tb\/a.ownBlock=some k) w w':=by
 apply(Zq0 w tb 1 a I n p r (h.t.J 1) h.ne h.i q h.si u).Q;rintro e w'⟨rfl,b,q1,F,H,J,o,K⟩;have c:Fr (λk=>k=tb\/a.ownBlock=some k) w w':=by grind [Fr.ez]
 have A:Gb w' tb 214 [dP f,a]:=(K.block tb h.t.lt (λe=>h.ne e.r)).M h.t;have y:∀(v:Value) (m:Nat) (i:Gf),Sl w 5 1 v m i->Sl w' 5 1 v m i:=λv m i l=>l.e c (λg d e=>by obtain⟨R,j⟩:=l.type d;rcases e with rfl|e;have:=j.type h.t;grind;obtain⟨R',t⟩:=h.i.type e;have:=j.type t;grind);refine⟨rfl,⟨b,h.fc A F H c (λx B=>?_) (λg d => .inl d),J,o⟩,c⟩;rcases(o x).1 B with rfl|⟨D,z⟩;simp_all;rw[if_neg z];exact y _ _ _ (h.av x D)
theorem ZpJ(w:World)(tb r:Nat)(V:NV)(E:NS)(c:Value)(G:Gh)(I:LF)(C:IB)(h:TW w tb r V E c G I C)(s:I.length<=10000)(n:Int)(q:VF)(y:(n,q)∈I):
  Cl 234 #[.pointer (some (dQ tb 1)),dI n] w λe w'=>e=dR (.tuple #[])/\(∃f b,TW w' tb r V E f G b C/\b.length+1=I.length/\∀x,x∈b↔x∈I/\x.1≠n)/\Fr (λk=>k=tb\/c.ownBlock=some k) w w':=by
 apply(Ol w tb 1 c I n q (h.t.J 1) (h.t.A 1) h.ne h.i s h.si y).Q;rintro e w'⟨rfl,f,b,q1,D,F,H,p,J,a⟩;have d:Fr (λk=>k=tb\/c.ownBlock=some k) w w':=⟨a.os,a.tape,a.output,a.size,λk z o=>a.block k z (λe=>o (.inl e)) (λe=>o (.inr e))⟩;have A:∀(v:Value) (m:Nat) (i:Gf),Sl w 5 1 v m i->Sl w' 5 1 v m i:=λv m i l=>l.e d (λg u e=>by obtain⟨R,j⟩:=l.type u;rcases e with rfl|e;have:=j.type h.t;grind;obtain⟨R',t⟩:=h.i.type e;have:=j.type t;grind);exact⟨rfl,⟨f,b,h.fc (XC h.t a) D F d (λx B=>A _ _ _ (h.av x ((p x).1 B).1)) J,H,p⟩,d⟩
theorem Zk1(w:World)(tb t:Nat)(V:NV)(E:NS)(c:Value)(G:Gh)(I:LF)(C:IB)(h:TW w tb t V E c G I C)(u:I.length<=10000)(n:Int)(r:VF)(o:∀x∈I,x.1≠n)(s:By)(aa:Sl w 5 1 (dT r.a r.l r.c) r.l (Dd s)):
  Cl 228 #[.pointer (some (dQ tb 1)),dI n,.agg #[dT r.a r.l r.c,dI r.f]] w λe w'=>e=dR (.tuple #[])/\(∃f b,TW w' tb t V E f G b (λk=>if k=n then s else C k)/\b.length=I.length+1/\∀x,x∈b↔x=(n,r)\/x∈I)/\Fr (λk=>k=tb\/c.ownBlock=some k) w w':=by
 apply(Zs7 w tb 1 c I n r (h.t.J 1) (h.t.A 1) h.ne h.i u h.si o).Q;rintro e w'⟨rfl,f,b,q1,F,H,J,q,K,a⟩;have d:Fr (λk=>k=tb\/c.ownBlock=some k) w w':=⟨a.os,a.tape,a.output,a.size,λk A hX=>a.block k A Ω Γ⟩;have B:∀(v:Value) (m:Nat) (i:Gf),Sl w 5 1 v m i->Sl w' 5 1 v m i:=λv m i l=>l.e d (λg z e=>by obtain⟨R,j⟩:=l.type z;rcases e with rfl|e;have:=j.type h.t;grind;obtain⟨R',y⟩:=h.i.type e;have:=j.type y;grind);refine⟨rfl,⟨f,b,h.fc (XC h.t a) F H d (λx D=>?_) K,J,q⟩,d⟩;rcases(q x).1 D with rfl|p;simp_all;rw[if_neg (o x p)];exact B _ _ _ (h.av x p)
theorem Q8(w:World)(tb m:Nat)(V:NV)(E:NS)(a:Value)(G:Gh)(I:LF)(C:IB)(h:TW w tb m V E a G I C)(c:I.length<=10000)(n:Int)(r:VF)(g:(n,r)∈I):
  Cl 175 #[.pointer (some (dQ tb 1)),dI n] w λe w'=>e=dR (.tuple #[.agg #[dT r.a r.l r.c,dI r.f],dV true])/\Bw w w':=by
 apply(MY w tb 1 a I n (h.t.J 1) h.i c h.si).Q;rintro e w'⟨r',b,rfl,d,hb⟩;rcases d with⟨rfl,k⟩|⟨rfl,_,ab⟩;have l:(I.map (·.1)).Nodup:=by unfold List.Nodup;rw[A1];intro i j hi hj f e;have aa:j<I.length:=Γ;rw[FK,FK]at e;have:=h.si i j I[i] I[j] f (Ab _) (Ab _);have:=Bd this;omega
 rw[Kz l k g];simp_all;grind
def Gs(I I':LF)(n:Int)(r:VF):Prop:=I'.length=I.length/\∀x,x∈I'↔x=(n,r)\/x∈I/\x.1≠n
def Vf(I I':LF)(n:Int):Prop:=I'.length+1=I.length/\∀x,x∈I'↔x∈I/\x.1≠n
theorem Zpj(C:IB)(n:Int):(λk=>if k=n then C n else C k)=C:=by grind
theorem ZhY(w:World)(tb b:Nat)(V:NV)(E:NS)(c:Value)(G:Gh)(I:LF)(C:IB)(h:TW w tb b V E c G I C)(j:I.length<=10000)(n:Int)(r:VF)(g:(n,r)∈I)(f:Int)(W:World)(l:Bw w W):
  Cl 228 #[.pointer (some (dQ tb 1)),dI n,.agg #[dT r.a r.l r.c,dI f]] W λe w'=>e=dR (.tuple #[])/\((∃a,TW w' tb b V E c G a C/\Gs I a n ⟨r.a,r.l,r.c,f⟩)/\Fr (DV tb w) w w')/\∀k,k<W.heap.size->w.heap.size<=k->w'.heap[k]?=W.heap[k]? := by
 have d:=h.below l (Aa _);apply(Zf2 W tb b V E c G I C d j n r ⟨r.a,r.l,r.c,f⟩ g _ (d.av _ g)).Q;rintro e w'⟨rfl,⟨a,i,o,p⟩,q⟩;rw[Zpj]at i;exact⟨rfl,⟨⟨a,i,o,p⟩,by grind [Fr.pg,Fr.dg]⟩,λk m aa=>q.block k m (λe=>by rcases e with rfl|e;have:=h.t.lt;omega;have:=h.i.lt e;omega)⟩
theorem ZgE(w:World)(tb d:Nat)(V:NV)(E:NS)(f:Value)(G:Gh)(I:LF)(C:IB)(h:TW w tb d V E f G I C)(j:I.length<=10000)(n:Int)(r:VF)(k:(n,r)∈I)(aa:0<r.f)(ab:r.f<=10000):
  Cl 197 #[dP tb,dI n] w λe w'=>e=dR (.tuple #[])/\(∃q a,TW w' tb d V E q G a C/\((r.f=1/\Vf I a n)\/(r.f≠1/\Gs I a n ⟨r.a,r.l,r.c,r.f-1⟩)))/\Fr (DV tb w) w w':=by
 have D:=Q8 w tb d V E f G I C h j n r k;have J:Hid (∀W,Bw w W->_):=λW b=>ZhY w tb d V E f G I C h j n r k (r.f-1) W b;have t:=Db h;go_enter func197,ntmps197;go_wp2_with fail;apply D.Q;rintro e s⟨rfl,b⟩;clear D h;obtain⟨W,y,l,K,ac,z⟩:=Df s [dT r.a r.l r.c,dI (r.f-1)] 217;have g:=b.M (z.Q b.size);have A:=b.size;have u:=Db y;clear y K b z;go_upto_region 2 with fail;rw[Da u];obtain⟨v,x⟩:=l.c1;clear l u;by_cases c:r.f=1
 .have M:(r.f-1==0)=true:=by rw[c];rfl
  have B:=ZpJ W tb d V E f G I C ((Da t).below g (Aa _)) j n r k;have H:=Db B;have i:=Db c;clear B c;go_wp2_with(first|(go_at_call 234;apply(Da H).Q;rintro e O⟨rfl,⟨q,a,m,o,p⟩,N⟩));refine Am (CU rfl _ _ _) rfl ?_;exact⟨rfl,⟨q,a,m,.inl ⟨Da i,o,p⟩⟩,Fr.pg g (Fr.dg ((Da t).below g (Aa _)) N)⟩
 .have M:(r.f-1==0)=false:=by simp;omega
  have i:=Db c;clear c;go_upto_region 4 with fail;go_region_held3 (λW=>W.cell? (dQ s.heap.size 0)=some (dT r.a r.l r.c)/\W.cell? (dQ s.heap.size 1)=some (dI (r.f-1))) (go_keep)
   (first|(go_at_call 228;apply(Da J _ g.drew).Q;rintro e O⟨rfl,L,F⟩;have m0:=(AA (F _ (Ag _ _ v) A)).M v;have m1:=(AA (F _ (Ag _ _ x) A)).M x))
  all_goals
   go_wp2
   go_end0
   obtain⟨⟨a,m,o⟩,p⟩:=L;exact⟨rfl,⟨f,a,m,.inr ⟨Da i,o⟩⟩,p⟩
def Mo(G G':Gh)(ns:LY):Prop:=∀x,x∈G'↔x∈G/\x.1≠ns
def I0(G:Gh)(p:By):Int:=if Hk G p≠0 then Hk G p else if Dc p=[] then 7 else match Gr G (Dc p) with|some u=>if u.p.isSome=true/\0<G.countP (GH (Dc p)) then 7 else 0|none=>0
def Hq(G:Gh)(I:LF):Prop:=∀x∈G,x.2.p=none->∃r,(x.2.f,r)∈I/\0<r.f/\r.f<=10000
def PW(w:World)(tb:Nat)(G:Gh)(I:LF)(C:IB)(p:By)(e:Ending)(w':World):Prop:=
 e=dR (dI (I0 G p))/\Fr (DV tb w) w w'/\((I0 G p≠0/\PS w' tb G I C)\/(I0 G p=0/\∃u,Gr G (Dc p)=some u/\
  ((u.p.isSome=true/\∀G',Mo G G' (Dc p)->PS w' tb G' I C)\/
   (u.p=none/\∃r I',(u.f,r)∈I/\((r.f=1/\Vf I I' u.f)\/(r.f≠1/\Gs I I' u.f ⟨r.a,r.l,r.c,r.f-1⟩))/\∀G',Mo G G' (Dc p)->PS w' tb G' I' C))))
theorem TW.ey{w:World}{e:Nat}{l:Value}(h:TW w tb e V E l G I C)(j:∀x,x∈G'↔x∈G):TW w tb e V E l G' I C:=by have c:∀ns b,Gd G' e ns b->Gd G e ns b:=λns b d=>d.elim .inl (λd => .inr ((j _).1 d));exact⟨h.pk,h.t,⟨λx d=>h.d.c9 x ((j x).1 d),λns b a=>h.d.row ns b (c ns b a),λns b a=>h.d.sl ns b (c ns b a),λns b a=>h.d.ak ns b (c ns b a),λns b a n u=>(h.d.en ns b (c ns b a) n u).M (j _).r,λns k b f i=>h.d.inj ns k b (c _ _ f) (c _ _ i),λns k b m g f i=>h.d.aq ns k b m g (c _ _ f) (c _ _ i),λns b a=>h.d.lo ns b (c ns b a)⟩,h.i,h.si,h.av,h.lo⟩
def Ly(G:Gh)(ns:LY):Gh:=G.filter (λx=>decide (x.1≠ns))
theorem O1(G:Gh)(ns:LY):Mo G (Ly G ns) ns:=λx=>by simp_all[Ly,List.mem_filter]
theorem GR.in{d:OA}(h:GR G c ns d n true u)(aa:ns≠[]):∃b a,ns=b++[n]/\Gd G c b a/\d=some (dQ a 0)/\Gr G ns=some u:=by
 rcases h with⟨rfl,_⟩|⟨b,a,h1,h2,h3,h4,h5⟩;simp_all;cases ha:Gr G ns with
 |none=>simp_all
 |some v=>simp_all
theorem Zk0(w:World)(tb:Nat)(G:Gh)(I:LF)(C:IB)(h:PS w tb G I C)(D:Gp G)(ab:G.length<=10000)(aM:I.length<=10000)(av:Hq G I)(p:By)(hp:p.size<=2000000):
  Cl 127 #[dP tb,dU p] w (PW w tb G I C p):=by
 obtain⟨A,V,E,J,h⟩:=h;have X:Hid (∀W,Bw w W->I0 G p≠0->PW w tb G I C p (dR (dI (I0 G p))) W):=λW o j=>⟨rfl,Fr.S o,.inl ⟨j,A,V,E,J,h.below o (Aa _)⟩⟩;have aD:=R3 w tb A V E J G I C h D ab p hp;have HH:=Db h;have aH:=Db av;clear av h;go_enter func127,ntmps127;go_wp2_with fail;apply aD.Q;rintro e w1⟨aO,o⟩;clear aD;rcases aO with⟨j,rfl⟩|⟨he,aA,d,n,u,aC,rfl⟩
 .have k:Hid (I0 G p=Hk G p):=by show _=_;unfold I0;rw[if_pos j]
  have aJ:=Db j;have aT:(Hk G p != 0)=true:=by simpa using j
  clear j;unfold DE Dk;go_wp2;go_ret;have:=Da X _ (o.alloc o.size (.cells (DS none ⟨#[]⟩ false ⟨none,0⟩).toArray 262)) (by rw[Da k];exact Da aJ);rw[Da k]at this;exact this
 .have ap:=Db aC;have ak:=Db he;have aS:=Db aA;clear aC he aA;unfold Dk;go_upto_if 15 with fail;obtain⟨W,hW,q,hk,aU,ax⟩:=Df w1 (DS d n true u) 262;have ad:=o.M (ax.Q o.size);rw[hW];clear hW hk;obtain⟨Y,Z,a2,a3,a4⟩:=q.c4;have ai:=λW=>Zg0 d n true u W;unfold Dk at ai;have ao:=Db ai;clear ai;go_wp2_with fail;apply(Da ao _).Q;rintro e w2⟨rfl,ac⟩;clear ao Y Z a2 a3 a4;have s:Gb w2 w1.heap.size 262 _:=(ac.block _ q.lt).M q;have F:=ad.M (ac.Q ad.size);obtain⟨Y,Z,a2,a3,a4⟩:=s.c4;have g:=(Da HH).below F (Aa _);have b:=Db g;clear o ax ad ac q g;by_cases j:Dc p=[]
  .have k:Hid (I0 G p=7):=(by show _=_;unfold I0;rw[if_neg (by rw[Da ak];simp),if_pos j]);obtain rfl:d=none:=(by rcases Da ap with⟨_,L,_⟩|⟨f,a,L,_⟩;exact L;rw[j]at L;simp at L);clear j;go_wp2;go_ret;have:=Da X w2 F (by rw[Da k];decide);rw[Da k]at this;exact this
  .obtain⟨f,a,ah,t,rfl,M⟩:=(Da ap).in j;have O:=JZ M;have az:=((Da b).d.en f a t n u).2 (by rw[<-ah];exact O);have k:Hid (I0 G p=if u.p.isSome=true/\0<G.countP (GH (Dc p)) then 7 else 0):=(by show _=_;unfold I0;rw[if_neg (by rw[Da ak];simp),if_neg j,M]);have aB:=(Da b).d.c9 _ O;have ag:=Vs w2 a n true u u _ _ ((Da b).d.row f a t) ((Da b).d.sl f a t) (Ae ((Da b).d.le D t) ab) ((Da b).d.ak f a t) az;unfold Dk at ag;have U:=Db ag;have an:=Db ah;have i:=Db t;have aj:=Db M;have am:=Db O;have aK:=Db aB;clear ag ah t M O aB az j;obtain⟨up,uf⟩:=u;cases up with
   |none=>
    have m:Hid (I0 G p=0):=(by show _=_;rw[Da k];simp);obtain⟨r,ae,aP,aQ⟩:=Da aH _ (Da am) rfl;simp only at ae;have al:=Db ae;clear ae;go_wp2_with fail;apply(Da U).Q;rintro e S⟨rfl,v',ar,v,y,z,q4,P,Q,l⟩;have h3:TW S tb A (IP V a v') (IP E a ar) J (Ly G (Dc p)) I C:=(by have g:=Da b;exact TW.d9 g (g.d.row f a (Da i)) (g.d.sl f a (Da i)) l (g.d.gs D (Da i) (λx=>by rw[<-Da an];exact O1 G _ x) v y z P Q l));have aI:Hid (Fr (DV tb w) w S):=Fr.pg F (Fr.ay ((Da b).f7 (Da i)) ((Da b).d.row f a (Da i)) ((Da b).d.sl f a (Da i)) l);have aF:=s.e l (λhX=>by rcases hX with e|e;have:=(Da b).d.row f a (Da i);rw[<-e]at this;have:=this.type s;revert this;decide;obtain⟨R,hR⟩:=((Da b).d.sl f a (Da i)).type e;have:=hR.type s;revert this;decide);clear Y Z a2 a3 a4 U v y z q4 P Q l;have b3:=aF.J 3;have b4:=aF.J 4;have aE:=ZgE S tb A _ _ J _ I C h3 aM uf r (Da al) aP aQ;have aq:=Db aE;clear aE h3;go_wp2_with fail;apply(Da aq).Q;rintro e w4⟨rfl,⟨aR,I',v,y⟩,z⟩;have aG:Hid (PW w tb G I C p (dR (dI 0)) w4):=
     ⟨by rw[Da m],(Da aI).ab z,.inr ⟨Da m,⟨none,uf⟩,Da aj,.inr ⟨rfl,r,I',Da al,y,λG' aa=>⟨A,_,_,aR,v.ey (λx=>(aa x).M (O1 G _ x).r)⟩⟩⟩⟩
    clear aq v y z;go_wp2;go_ret;exact Da aG
   |some au=>
    rcases Da aK with K|⟨B,aw⟩;simp at K
    .simp only[VS.mk.injEq,CX]at aw;obtain⟨rfl,rfl⟩:=aw;have N:Gd G A (Dc p) B:=.inr (Da am);have af:=LR w2 B 0 _ _ (Ds (E B)) (((Da b).d.row _ B N).J 0) ((Da b).d.sl _ B N);have hc:=(Da b).d.len D N;rw[hc]at af;have T:=Db af;have aN:G.countP (GH (Dc p))<=10000:=Ae AV ab;obtain⟨c,ay⟩:=ex (G.countP (GH (Dc p)));rw[<-ay]at T k aN;clear af hc ay N;by_cases K:0<c
     .have m:Hid (I0 G p=7):=(by show _=_;rw[Da k,if_pos ⟨rfl,K⟩]);have aL:(0)<(c):=Ω;go_wp2_with(first|(go_at_call 178;apply(Da T).Q;rintro e w'⟨rfl,H⟩;rw[H];clear H));go_ret;have:=Da X w2 F (by rw[Da m];decide);rw[Da m]at this;exact this
     .have m:Hid (I0 G p=0):=(by show _=_;rw[Da k,if_neg (λh=>K h.2)]);have aL:¬(0)<(c):=Ω;go_wp2_with(first|(go_at_call 178;apply(Da T).Q;rintro e w'⟨rfl,H⟩;rw[H];clear H)|(go_at_call 196;apply(Da U).Q;rintro e S⟨rfl,v',ar,v,y,z,q4,P,Q,l⟩));go_ret;have g:=Da b;refine⟨by rw[Da m];rfl,Fr.pg F (Fr.ay (g.f7 (Da i)) (g.d.row f a (Da i)) (g.d.sl f a (Da i)) l),.inr ⟨Da m,_,Da aj,.inl ⟨rfl,λG' aa=>⟨A,_,_,J,TW.d9 g (g.d.row f a (Da i)) (g.d.sl f a (Da i)) l (g.d.gs D (Da i) (n:=n) (λx=>by rw[<-Da an];exact aa x) v y z P Q l)⟩⟩⟩⟩
