/- Spoilt. -/
import Derived.Test.YtaieidcohdhgpaaGreatDoorXAV
namespace Go.Proofs.YtaieidcohdhgpaaGreatDoor
set_option maxHeartbeats 40000000
set_option maxRecDepth 100000
section
open Go.RowKit Go.Shelf
attribute [local go_sem] Oper.semAt_some
def Pa(w:World)(G:Gh)(I:LF)(ns:LY)(xs:LS)(e:Ending)(w':World):Prop:=
 (∃a n c es,e = .returned (.tuple #[.slice a n c,.int .i64 0])/\Sl w' 112 4 (.slice a n c) es.length (JY es)/\Iy G I ns xs es)/\Bw w w'
theorem Zkl(w:World)(tb rd:Nat)(V:NV)(E:NS)(vi:Value)(G:Gh)(I:LF)(C:IB)(h:TW w tb rd V E vi G I C)(hG:Gt G)(am:G.length<=10000)(aZ:I.length<=10000)(aB:GX G I)(p:By)(hp:p.size<=2000000)
  (aR:H3 G p=0) (b:Nat) (hd:F4 G rd (Df p) b) (an:Df p=[]\/Gr G (Df p)=some ⟨some ⟨b,0,none⟩,0⟩):
  Cl 120 #[.pointer (some ⟨tb,0,none⟩),.string p] w (Pa w G I (Df p) (E b)):=by
 have aG:∀o,Bw w (w.alloc o):=fun o=>(Al _ _).alloc (Aa _) o
 have az:Hid (∀o,Cl 177 #[.pointer (some ⟨tb,0,none⟩),.string p] (w.alloc o) fun e w'=>∃d n,e = .returned (.tuple #[Dn d n true ⟨some ⟨b,0,none⟩,0⟩,.int .i64 0])/\Below (w.alloc o).heap.size (w.alloc o) w'):=fun o=>
  (Ru (w.alloc o) tb rd V E vi G I C (h.below (aG o) (Aa _)) hG am p hp).mono (fun e w' ⟨bf,H⟩=>by
   rcases bf with⟨bb,_⟩|⟨_,br,d,n,u,bh,rfl⟩
   ·exact absurd aR bb
   ·refine⟨d,n,?_,H⟩;rcases NY h.d bh with⟨e,_⟩|⟨_,S,M,U⟩|⟨_,b',M,U,_⟩
    ·cases e
    ·rcases an with h4|h4
     ·exact absurd h4 S
     ·rw[h4]at M;cases M;cases U
    ·have:=U.func hG hd;subst this;rw[M])
 have hS:=h.d.sl (Df p) b hd;have a9:=h.d.le hG hd;have aO:=h.d.row (Df p) b hd;have hc:=aO.cell 0;have aK:b<w.heap.size:=aO.lt;have ay:Hid (∀W,Bw w W->Cl 178 #[.pointer (some ⟨b,0,none⟩)] W fun e w'=>e = .returned (.int .i64 (E b).length)/\w'=W):=fun W H=>I9 W b 0 (V b) (E b).length (Dq (E b)) ((H.cell (p:=⟨b,0,none⟩) aK).trans hc) (hS.kept (fun k s _=>H.block k s))
 obtain⟨i0,a8,bk,bl,bm⟩:=BU Sh;have HH:=Db h;have aW:=Db aB;have bn:=Db an;clear h aB aR aG an;refine(Bj (n:=3)).1 ?_;refine BJ Tryz.func120 rfl AQ ?_ rfl;simp only[Tryz.ntmps120,AR,Aq,AS,Nat.reduceAdd,Nat.reduceSub,AV,AU,A3,AY,AA,AI]
 gi_wp2_with fail
 refine⟨AQ,?_⟩;refine(Bj.2 (Da az _)).mono ?_;rintro e w1 ⟨d,n,rfl,ao⟩;have H:Bw w w1:=((Al _ w).alloc (Aa _) _).trans (ao.mono (by simp));have aN:F0 w1 w.heap.size 37 [.pointer (some ⟨tb,0,none⟩)]:=(ao.block _ (by simp)).trans (Jh w [.pointer (some ⟨tb,0,none⟩)] 37);unfold Dn;clear az ao;obtain⟨T,aD,aT,aL,aQ,aI⟩:=De w1 (DQ d n true ⟨some ⟨b,0,none⟩,0⟩) 262;have aj:=aL _ _ _ aN;have ac:Bw w T:=H.trans (aI.mono H.size);have aA:=Db aD;have aY:=Db aQ;clear aD aL aN aQ aI
 gi_upto_region 4 with fail
 rw[Da aA];have a3:=aT.cell 3;clear aA
 gi_wp2_with fail
 refine⟨AQ,?_⟩;refine(Bj.2 (Da ay T ac)).mono ?_;rintro e w' ⟨rfl,hw⟩;rw[hw];clear hw
 gi_wp2_with (first|(gi_at_make;refine wpListIn_make_own _ rfl _ _ 99 rfl w.heap.size 112 i0 _ 4 LJ a8 bk bl _ _ _ (E b).length rfl rfl rfl (by rw[bm];omega) (by unfold maxLen;omega) ac.size ?_;intro f aM ah)|(refine⟨AQ,?_⟩;gi_at_call 179;refine(Pt _ _ AQ rfl _ _).mono ?_;rintro e w' ⟨rfl,rfl⟩))
 obtain⟨q,ab⟩:∃q,(f.alloc (Obj.cells #[Value.slice (some { block:=T.heap.size,off:=0 }) 0 (E b).length] 99)).alloc (Obj.cells #[Value.pointer (some { block:=b,off:=0 })] 307)=q:=⟨_,rfl⟩;rw[ab];have bs:q.heap.size=f.heap.size+2:=by rw[<-ab];simp
 have ap:Bw w f:=ac.grown ah ac.size (fun k e=>by cases e);have af:Bw f q:=by rw[<-ab];exact((Al _ f).alloc (Aa _) _).alloc (by simp) _
 have al:Bw w q:=ap.trans (af.mono ap.size);have aF:F0 q f.heap.size 99 [.slice (some ⟨T.heap.size,0,none⟩) 0 (E b).length]:=by rw[<-ab];exact(Jh f _ 99).alloc _
 have a4:Boxed q (f.heap.size+1) 307 (.pointer (some ⟨b,0,none⟩)):=by rw[<-ab];have:=FM (f.alloc (Obj.cells #[Value.slice (some { block:=T.heap.size,off:=0 }) 0 (E b).length] 99)) 307 (.pointer (some ⟨b,0,none⟩));simpa using this
 have aE:F0 q w.heap.size 37 [.pointer (some ⟨tb,0,none⟩)]:=(af.block _ (Be aj.lt ah.size)).trans ((ah.block _ aj.lt (by simp)).trans aj);have a2:Sl q 310 3 (V b) (E b).length (Dq (E b)):=hS.kept (fun k s _=>al.block k s);have a7:q.cell? ⟨b,0,none⟩=some (V b):=(al.cell (p:=⟨b,0,none⟩) aK).trans hc;have aC:Sl q 112 4 (.slice (some ⟨T.heap.size,0,none⟩) 0 (E b).length) ([]:List En).length (JY []):=(Sl.of_owns aM).kept (fun k s _=>af.block k s);have a1:My w tb f.heap.size G I (Df p) [] q:=⟨_,[],aF,aE,aC,⟨rfl,fun j x y hx=>by simp at hx⟩,al,fun g J=>by simp[Value.ownBlock]at J;subst J;exact ac.size⟩;have aH:(E b).attach.map (fun x=>x.1)=E b:=Ea _;have aP:=ap.size;clear ab ay aF aE aC af aM ah aj aT a3 aY;refine FD (α := { x // x∈E b }) rfl (by omega) (gf:=222) (lb := #[.pointer (some ⟨f.heap.size+1,0,none⟩)]) rfl AQ (ER Tryz.func222 (by kernel_rfl) rfl)
  (Wj Fence.wide 2 AQ rfl (by omega) (f.heap.size+1) w.heap.size b 0 (V b) (fun x=>x.1) (E b).attach (by simpa using Ag a9 am) q (by omega) (by omega) (by omega) a4.cell a7 (by rw[aH];simpa using a2) (fun g J=>hS.lt J))
  belowK_t (E4 (by omega)) (Al _ _) (fun _=>rfl)
  (fun ad W=>My w tb f.heap.size G I (Df p) (ad.map (fun x=>x.1)) W)
  (fun _ _ _=>False)
  (My.own (fun x:{ x // x∈E b }=>x.1) w tb f.heap.size G I (Df p) _ (by omega))
  (fun _ _ _ _ _ hs _ _=>hs)
  a1
  (fun x a' W=>∃L,f.heap.size<L/\F0 W L 260 [.pointer x.1.2.p,.int .i64 x.1.2.f]/\a'={ tmps := #[.pointer (some ⟨tb,0,none⟩),.string p,.pointer (some ⟨w.heap.size,0,none⟩),undef,.slice none 0 0,.int .i64 0,.pointer (some ⟨w1.heap.size,0,none⟩),.int .i64 0,.pointer (some ⟨b,0,none⟩),.pointer (some ⟨f.heap.size,0,none⟩),.string x.1.1,.pointer (some ⟨L,0,none⟩),.tuple #[.agg #[.pointer d,.string n,.bool true,.pointer (some ⟨b,0,none⟩),.int .i64 0],.int .i64 0],.pointer (some ⟨tb,0,none⟩),.string p,.tuple #[.agg #[.pointer d,.string n,.bool true,.pointer (some ⟨b,0,none⟩),.int .i64 0],.int .i64 0],.agg #[.pointer d,.string n,.bool true,.pointer (some ⟨b,0,none⟩),.int .i64 0],.int .i64 0,.int .i64 0,.bool false,undef,.pointer (some ⟨w1.heap.size,3,none⟩),.pointer (some ⟨w1.heap.size,3,none⟩),.pointer (some ⟨b,0,none⟩),.pointer (some ⟨b,0,none⟩),.bool false,.pointer (some ⟨b,0,none⟩),.pointer (some ⟨b,0,none⟩),.pointer (some ⟨b,0,none⟩),.int .i64 ((E b).length:Nat),.slice (some ⟨T.heap.size,0,none⟩) 0 (E b).length,.pointer (some ⟨b,0,none⟩),.pointer (some ⟨b,0,none⟩),.pointer (some ⟨b,0,none⟩),.func (.func 222) #[] #[.pointer (some ⟨f.heap.size+1,0,none⟩)],.string x.1.1,.agg #[.pointer x.1.2.p,.int .i64 x.1.2.f],undef,undef,undef,undef,undef,undef,undef,undef],defers:=[] })
  (fun x a' _ X Y row hs J hr=>by
   obtain⟨L,S,M,U⟩:=hs;exact⟨L,S,(UB (β := Unit) L 260 (fun _=>_)).from _ () X Y row M J hr,U⟩)
  ?assign ?body ?done ?stop
 case assign=>
  rintro l ad x W K hJ z;have a0:=hJ;obtain⟨v,es,A,O,P,Q,B,j6⟩:=hJ;have ai:=A.lt;clear A O P Q j6
  gi_wp2
  exact z _ _ ((EO _ _).from _) ((Al _ W).alloc B.size _) ((My.own (fun x:{ x // x∈E b }=>x.1) w tb f.heap.size G I (Df p) w.heap.size (Aa _)).alloc _ a0) ⟨W.heap.size,ai,Jh W _ _,rfl⟩
 case body=>
  rintro l ad x a' W bq ⟨r,hr⟩ ⟨v,es,A,O,P,Q,B,j6⟩ ⟨L,bp,bX,rfl⟩ ai;have ba:Tryz.prog.follows .mixedOrders=true:=by kernel_rfl
  have be:es.length<(E b).length:=by rw[Q.1,AK];simpa using ai
  have ar:=(Da HH).d;have au:=(ar.en (Df p) b hd x.1.1 x.1.2).1 x.2;have aU:x.1.1.size<=2000000:=by
   have S:=hG.nms _ au x.1.1 (by simp);simp only[DX,Bu,AJ]at S;have:=S.1.2;omega
  have HT:Hid (Cl 180 #[.pointer (some ⟨tb,0,none⟩),.string x.1.1,.agg #[.pointer x.1.2.p,.int .i64 x.1.2.f]] W.drew fun e w'=>∃y:En,e = .returned (.agg #[.string y.n,.bool y.d,.int .i64 y.s,.int .i64 y.l])/\Qb G I (Df p++[x.1.1]) x.1.1 x.1.2 (.agg #[.string y.n,.bool y.d,.int .i64 y.s,.int .i64 y.l])/\Bw W w'):=
   (VH W.drew tb rd V E vi G I C ((Da HH).below (B.trans ((Al _ W).drew.mono B.size)) (Aa _)) hG am aZ (Da aW) x.1.1 aU (Df p++[x.1.1]) x.1.2 (by
    rcases ar.sub hd x.2 with bd|⟨b',bj,bi⟩
    ·exact .inr ⟨bd,_,au,rfl⟩
    ·exact .inl ⟨b',bj,bi⟩)).mono (fun e w' ⟨v,S,M,U⟩=>by
     obtain⟨yb,yc,yd,rfl⟩:=WE M;exact⟨⟨x.1.1,yb,yc,yd⟩,S,M,(Al _ W).drew.trans U⟩)
  have ag:=A.lt;have aq:∀g,v.ownBlock=some g->∃R,F0 W g 112 R:=fun g J=>P.type J
  have aS:v.ownBlock≠some f.heap.size:=fun e=>by
   obtain⟨R,N⟩:=aq _ e;have:=N.type A;revert this;decide
  have aV:Hid (∀(i:World) (y:En),Bw W i->Qb G I (Df p++[x.1.1]) x.1.1 x.1.2 (.agg #[.string y.n,.bool y.d,.int .i64 y.s,.int .i64 y.l])->
    ∃v' t,(Builtin.append_ #[99,99] 99 #[v,.slice (some ⟨i.heap.size,0,none⟩) 1 1]).run Tryz.prog (i.alloc (.cells #[.string y.n,.bool y.d,.int .i64 y.s,.int .i64 y.l] 112)) = .ok v' t/\∃a m c,v' = .slice a m c/\t.cell? ⟨f.heap.size,0,none⟩=some v/\t.frozen? ⟨f.heap.size,0,none⟩=false/\
     Hid (KeepsFrom q.heap.size W (t.setCell ⟨f.heap.size,0,none⟩ (.slice a m c))/\Below w.heap.size W (t.setCell ⟨f.heap.size,0,none⟩ (.slice a m c))/\My w tb f.heap.size G I (Df p) ((ad++[x]).map (fun x=>x.1)) (t.setCell ⟨f.heap.size,0,none⟩ (.slice a m c)))):=fun i y Z ak=>by
   obtain⟨F,ae⟩:=ex (i.alloc (.cells #[.string y.n,.bool y.d,.int .i64 y.s,.int .i64 y.l] 112));have bg:F0 F i.heap.size 112 (Nd y):=by rw[ae];exact Jh i _ 112
   have aa:Bw W F:=by rw[ae];exact Z.alloc Z.size _
   rw[<-ae];clear ae;have k1:F0 F f.heap.size 99 [v]:=(aa.block _ ag).trans A;have k2:F0 F w.heap.size 37 [.pointer (some ⟨tb,0,none⟩)]:=(aa.block _ O.lt).trans O;have k3:Sl F 112 4 v es.length (JY es):=P.kept (fun k s _=>aa.block k s);obtain⟨v',t,r1,a,m,c,rfl,r2,r3,r4⟩:=OU F v es k3 (by omega) y i.heap.size bg;have q1:F0 t f.heap.size 99 [v]:=(r3.block _ k1.lt (fun e=>aS e.symm)).trans k1;have q2:F0 t w.heap.size 37 [.pointer (some ⟨tb,0,none⟩)]:=(r3.block _ k2.lt (fun e=>by
    obtain⟨R,N⟩:=aq _ e.symm;have:=N.type O;revert this;decide)).trans k2
   have a6:Below w.heap.size W F:=aa.mono B.size;have aJ:Below w.heap.size W t:=a6.grown r3 (Ag B.size aa.size) (fun k e=>j6 k e);have bc:(Value.slice a m c).ownBlock≠some f.heap.size:=fun e=>by
    obtain⟨R,N⟩:=r2.type e;have:=N.type q1;revert this;decide
   refine⟨_,t,r1,a,m,c,rfl,(q1.cell 0).trans rfl,q1.frozen 0,?_,aJ.setCell (p:=⟨f.heap.size,0,none⟩) aP _,.slice a m c,es++[y],q1.set 0 _,q2.setOther _ _ (fun e=>by
     have e':f.heap.size=w.heap.size:=e;rw[e']at q1;have:=q1.type q2;revert this;decide),r2.setCell _ _ bc,?_,(B.trans aJ).setCell (p:=⟨f.heap.size,0,none⟩) aP _,fun g J=>(r4 g J).elim (j6 g) (fun h=>Ag (Ag B.size aa.size) h)⟩
   ·have kk:KeepsOthers F t:=⟨r3.size,fun k o s ho=>(r3.block k (Ak.1 s).1 (fun e=>by
     obtain⟨R,N⟩:=k3.type e.symm;rw[Ov N s]at ho;cases ho)).trans s⟩
    exact(((Xg aa).trans kk).trans (Cy _ _ _)).from _
   ·rw[Bp];exact Q.snoc ak
  have c9:W.cell? ⟨f.heap.size,0,none⟩=some v:=(A.cell 0).trans rfl;have c2:W.cell? ⟨w.heap.size,0,none⟩=some (.pointer (some ⟨tb,0,none⟩)):=(O.cell 0).trans rfl;have x0:W.cell? ⟨L,0,none⟩=some (.pointer x.1.2.p):=(bX.cell 0).trans rfl;have x1:W.cell? ⟨L,1,none⟩=some (.int .i64 x.1.2.f):=(bX.cell 1).trans rfl;have aw:Hid (∀i,Bw W i->i.cell? ⟨f.heap.size,0,none⟩=some v/\f.heap.size<i.heap.size):=fun i H=>⟨(H.cell (p:=⟨f.heap.size,0,none⟩) ag).trans c9,Be ag H.size⟩
  have bo:=Db A;clear A O P Q B j6 bX aq aS ag ar au aU be hr ai
  gi_wp2
  refine wpIn_region_any ba ?_
  (try(change wpAnyIn _ _ _ _ _ _ _ _ _ (World.drew _)))
  repeat(first|exact AllReadyIn.nil|refine AllReadyIn.cons rfl (fun K z=>?_) ?_|(refine ZhU rfl 180 _ _ _ _ rfl _ _ _ ?_ ?_ ?_ ?_ (Da HT) ?_;(first|rfl|simp[Act.eval]);(first|rfl|simp[Act.eval]);(first|rfl|simp[Act.eval]);go_simp;rintro e i ⟨y,rfl,ak,Z⟩;refine⟨_,rfl,z _ _ ?_⟩;clear z K;have m9:=(Da aw i Z).1;have ml:=(Da aw i Z).2;have bt:¬f.heap.size=i.heap.size:=(by omega);have bu:¬i.heap.size=f.heap.size:=(by omega);have av:=Db (Da aV i y Z ak);clear Z ak)|(refine ZdF rfl _ _ 99 99 rfl _ _ ?_ ?_ (Da av) ?_;(first|rfl|simp[Act.eval]);(first|rfl|simp[Act.eval]);rintro v5 t ⟨a5,m5,c5,rfl,z9,zf,HF⟩;refine z _ _ ?_;clear z K av)|refine BH (rs:=[4]) (by decide +kernel) (by simp) ?_|refine BH (rs:=[5]) (by decide +kernel) (by simp) ?_|refine BH (rs:=[6]) (by decide +kernel) (by simp) ?_|refine BH (rs:=[7]) (by decide +kernel) (by simp) ?_|refine BH (rs:=[0,4]) (by decide +kernel) (by simp) ?_|refine BH (rs:=[0,5]) (by decide +kernel) (by simp) ?_|refine BH (rs:=[0]) (by decide +kernel) (by simp) ?_|refine BH (rs:=[1]) (by decide +kernel) (by simp) ?_|refine BH (rs:=[2]) (by decide +kernel) (by simp) ?_|refine BH (rs:=[3]) (by decide +kernel) (by simp) ?_|refine BH (rs:=[0,1]) (by decide +kernel) (by simp) ?_|refine BH (rs:=[0,2]) (by decide +kernel) (by simp) ?_|refine BH (rs:=[0,3]) (by decide +kernel) (by simp) ?_|refine BH (rs:=[1,2]) (by decide +kernel) (by simp) ?_|refine BH (rs:=[1,3]) (by decide +kernel) (by simp) ?_|refine BH (rs:=[2,3]) (by decide +kernel) (by simp) ?_|refine BH (rs:=[0,1,2]) (by decide +kernel) (by simp) ?_|refine BH (rs:=[0,1,3]) (by decide +kernel) (by simp) ?_|refine BH (rs:=[0,2,3]) (by decide +kernel) (by simp) ?_|refine BH (rs:=[1,2,3]) (by decide +kernel) (by simp) ?_|refine BH (rs:=[0,1,2,3]) (by decide +kernel) (by simp) ?_|(refine wpAnyIn_done (by decide +kernel) ?_ _;exact Da HF)|(go_simp;refine z _ _ ?_;clear z K))
 case done=>
  rintro D ys W hD rfl ⟨v,es,A,O,P,Q,B,j6⟩ z;have c9:W.cell? ⟨f.heap.size,0,none⟩=some v:=(A.cell 0).trans rfl;rw[aH]at Q;obtain⟨a,m,c,rfl⟩:=P.shape;have ax:=Db P;have aX:=Db Q;clear A O P Q j6
  gi_wp2
  refine⟨by simp,.inl ⟨_,_,rfl,Cb z,?_⟩⟩;refine⟨.tuple #[.slice a m c,.int .i64 0],?_,⟨a,m,c,es,rfl,(Da ax).kept (fun k s e=>?_),Da aX⟩,B.trans (E4 (w:=w) (Aa _) W D _ _ (by omega) z rfl rfl)⟩
  ·simp[results,Tryz.results120,go_sem]
  ·refine(FF W D (.deferred none)).block k s (fun e'=>?_);obtain⟨R,N⟩:=(Da ax).type e
   cases e'
   have:=Ov N z
   cases this
 case stop=>
  rintro D c ad W _ _ h _;exact h.elim
end
open Go.RowKit
theorem PE(b:Nat->Int):∀(i f m:Nat),i<=f->(∀a,a<i->0<b ((m+a)%96))->¬0<b ((m+i)%96)->DH b f (16*m)=16*(m+i)
 | 0,f,m,_,_,h=>by
  rw[Uy (fun e=>h (by have:=e.2;rwa [show 16*m/16%96=(m+0)%96 by omega]at this))];rfl
 | i+1,f,m,hf,hl,h=>by
  cases f with
  | zero=>omega
  | succ f=>
   have c:=hl 0 (by omega);rw[Ty ⟨by omega,by rw[show 16*m/16%96=(m+0)%96 by omega];exact c⟩,show 16*m+16=16*(m+1) by omega];rw[PE b i f (m+1) (by omega) (fun a aa=>by have:=hl (a+1) (by omega);rwa [show m+(a+1)=m+1+a by omega]at this) (by rwa [show m+(i+1)=m+1+i by omega]at h)];omega
def Jj(nd:Nat->Int)(c:Nat):Nat->Nat
 | 0=>0
 | j+1=>Jj nd c j+if 0<j/\nd ((c+j)%96)<=0 then 1 else 0
theorem Vj(a:Nat->Int)(c:Nat):∀(m j:Nat),Jj a c (j+1)<Jj a c (j+1+m)->∃b,j<b/\b<=j+m/\a ((c+b)%96)<=0/\(∀i,j<i->i<b->0<a ((c+i)%96))/\Jj a c b=Jj a c (j+1)
 | 0,j,h=>by simp at h
 | m+1,j,h=>by
  by_cases f:a ((c+(j+1))%96)<=0
  ·exact⟨j+1,by omega,by omega,f,fun i g d=>by omega,rfl⟩
  ·have e:Jj a c (j+1+1)=Jj a c (j+1):=by
    conv=>lhs;unfold Jj
    rw[if_neg (fun e=>f e.2)];rfl
   obtain⟨b,q1,q2,l,n,o⟩:=Vj a c m (j+1) (by rw[e,show j+1+1+m=j+1+(m+1) by omega];exact h);refine⟨b,by omega,by omega,l,fun i g d=>?_,by rw[o,e]⟩;by_cases k:i=j+1
   ·subst k;omega
   ·exact n i (by omega) d
def J9(c p:Nat):Nat:=(p/16+96-c)%96
structure RI(nd:Nat->Int)(tp j o:Nat)(N:List Nat):Prop where
 jl:j<=95
 o1:1<=o
 o2:o<=16
 fr:j=0/\tp%16<o\/0<j/\nd ((tp/16+j)%96)<=0
 mem:∀p∈N,p<1536/\(J9 (tp/16) p=0/\tp<p/\(j=0->p%16<o)\/0<J9 (tp/16) p/\nd (p/16)<=0/\(J9 (tp/16) p<j\/J9 (tp/16) p=j/\p%16<o))
 nd':N.Nodup
 cnt:16*Jj nd (tp/16) j+(if 0<j then o else 0)<=N.length
theorem RI.next{f:Nat->Int}{c j o:Nat}{N:List Nat}(h:RI f c j o N)(af:c<1536)(ab:N.length<16*(Jj f (c/16) 96)):
  ∃d o',RI f c d o' (N++[DH f 96 (16*((c/16+j)%96)+o)%1536])/\DH f 96 (16*((c/16+j)%96)+o)%1536+1=16*((c/16+d)%96)+o':=by
 have A:=h.jl;have h2:=h.o1;have h3:=h.o2;have x:=h.cnt;by_cases ho:o<16
 ·have e:DH f 96 (16*((c/16+j)%96)+o)=16*((c/16+j)%96)+o:=Uy (fun e=>by omega) 96;rw[e,Eg (show 16*((c/16+j)%96)+o<1536 by omega)];generalize hp:16*((c/16+j)%96)+o=p
  have B:p%16=o:=by omega
  have t:p/16=(c/16+j)%96:=by omega
  have g:J9 (c/16) p=j:=by unfold J9;omega
  refine⟨j,o+1,⟨A,by omega,by omega,h.fr.imp (fun e=>⟨e.1,by omega⟩) id,fun q u=>?_,?_,?_⟩,by omega⟩
  ·rcases Ap.1 u with i|i
   ·obtain⟨w,k⟩:=h.mem q i;refine⟨w,k.imp (fun e=>⟨e.1,e.2.1,fun n=>by have:=e.2.2 n;omega⟩) (fun e=>⟨e.1,e.2.1,e.2.2.imp id (fun e=>⟨e.1,by omega⟩)⟩)⟩
   ·rw[Ab.1 i];refine⟨by omega,?_⟩;rcases h.fr with⟨e,n⟩|⟨e,n⟩
    ·subst e;exact .inl ⟨g,by omega,fun _=>by omega⟩
    ·exact .inr ⟨by omega,by rw[t];exact n,.inr ⟨g,by omega⟩⟩
  ·rw[Ci];refine⟨h.nd',by simp,fun a r b s e=>?_⟩;rw[Ab.1 s]at e;obtain⟨_,k⟩:=h.mem a r;rcases k with⟨i,y,l⟩|⟨i,y,l⟩
   ·rw[e,g]at i;have:=l i;omega
   ·rw[e,g]at l;omega
  ·rw[Ad,Ba]
   split at x<;>split<;>omega
 ·obtain rfl:o=16:=by omega
  have aa:16*Jj f (c/16) (j+1)<=N.length:=by
   unfold Jj
   split at x
   ·split<;>omega
   ·rw[if_neg (fun e=>by omega)];omega
  have ad:j+1<=96:=by omega
  obtain⟨d,i,y,l,C,D⟩:=Vj f (c/16) (95-j) j (by rw[show j+1+(95-j)=96 by omega];omega);have e:DH f 96 (16*((c/16+j)%96)+16)=16*((c/16+j)%96+1+(d-j-1)):=by
   rw[show 16*((c/16+j)%96)+16=16*((c/16+j)%96+1) by omega];refine PE f (d-j-1) 96 _ (by omega) (fun v ac=>?_) ?_
   ·have:=C (j+1+v) (by omega) (by omega)
    rwa [show((c/16+j)%96+1+v)%96=(c/16+(j+1+v))%96 by omega]
   ·rw[show((c/16+j)%96+1+(d-j-1))%96=(c/16+d)%96 by omega];omega
  rw[e];generalize hp:16*((c/16+j)%96+1+(d-j-1))%1536=p
  have ae:p=16*((c/16+d)%96):=by omega
  have B:p%16=0:=by omega
  have t:p/16=(c/16+d)%96:=by omega
  have g:J9 (c/16) p=d:=by unfold J9;omega
  refine⟨d,1,⟨by omega,by omega,by omega,.inr ⟨by omega,l⟩,fun q u=>?_,?_,?_⟩,by omega⟩
  ·rcases Ap.1 u with m|m
   ·obtain⟨w,k⟩:=h.mem q m;refine⟨w,k.imp (fun e=>⟨e.1,e.2.1,fun n=>by omega⟩) (fun e=>⟨e.1,e.2.1,.inl (by omega)⟩)⟩
   ·rw[Ab.1 m];exact⟨by omega,.inr ⟨by omega,by rw[t];exact l,.inr ⟨g,by omega⟩⟩⟩
  ·rw[Ci];refine⟨h.nd',by simp,fun a r b s e=>?_⟩;rw[Ab.1 s]at e;obtain⟨_,k⟩:=h.mem a r;rcases k with⟨m,E,z⟩|⟨m,E,z⟩
   ·rw[e,g]at m;omega
   ·rw[e,g]at z;omega
  ·rw[Ad,Ba,D,if_pos (by omega)];omega
theorem RI.start(c:Nat->Int)(a:Nat)(_h:a<1536):RI c a 0 (a%16+1) []:=
 ⟨by omega,by omega,by omega,.inl ⟨rfl,by omega⟩,fun p b=>(by cases b),CC,by simp[Jj]⟩
theorem Zmj(d:Nat->Int)(o:∀j,0<=d j)(c:Nat)(m:c<96)(ab:0<d c):16*Jj d c 96=DS d 96:=by
 have f:∀k,DS d k=16*(List.range k).countP (fun j=>decide (d j=0)):=fun k=>by
  induction k with
  | zero=>rfl
  | succ k ih=>
   unfold DS;rw[ih,Cu,CS,CA];by_cases e:d k=0<;>simp[e]<;>omega
 have g:∀k,Jj d c k=(List.range k).countP (fun j=>decide (0<j/\d ((c+j)%96)<=0)):=fun k=>by
  induction k with
  | zero=>rfl
  | succ k ih=>
   unfold Jj;rw[ih,Cu,CS,CA];by_cases e:0<k/\d ((c+k)%96)<=0<;>simp[e]
 rw[f,g]
 congr 1
 have h:(List.range 96).countP (fun j=>decide (0<j/\d ((c+j)%96)<=0))=((List.range 96).map (fun j=>(c+j)%96)).countP (fun j=>decide (d j=0)):=by
  rw[List.countP_map];refine List.countP_congr (fun j n=>?_);rw[BI]at n;simp only[Function.comp,AJ];constructor
  ·rintro⟨q1,q2⟩;have:=o ((c+j)%96);omega
  ·intro q;refine⟨?_,by omega⟩;rcases BC j with e|e
   ·subst e;rw[El,Eg m]at q;omega
   ·exact e
 rw[h];refine(UJ _ _ ?_ (fun x p=>?_) (by simp)).countP_eq _
 ·rw[AM,Bg];refine List.Pairwise.imp_of_mem (R:=fun a b=>a≠b) (fun {a b} i l aa e=>?_) (AM.1 List.nodup_range);rw[BI]at i l;omega
 ·obtain⟨y,hy,rfl⟩:=Au.1 p;exact BI.2 (by omega)
theorem F3.puts_ind2{E:F3}{Q:Pl->Prop}(f:∀st r s,s.size=64->(∀y∈st.puts,y.1≠r)->Q st->Q (E.put st r s).2)(R:Nat->Nat)(g:∀a b,R a=R b->a=b)(B:NB)(d:∀x,(B x).size=64):
  ∀(st:Pl) (i:Nat) (xs:List Nat),(∀y∈st.puts,∀j,i<=j->j<i+xs.length->y.1≠R j)->Q st->Q (E.puts R B st i xs)
 | _,_,[],_,h=>h
 | st,i,x::xs,hf,h=>by
  refine F3.puts_ind2 f R g B d _ (i+1) xs (fun y c j h1 h2=>?_) (f st (R i) (B x) (d x) (fun y c=>hf y c i (Aa _) (by rw[Aq];omega)) h);rw[F3.put_puts]at c;rcases Ap.1 c with q|q
  ·exact hf y q j (by omega) (by rw[Aq];omega)
  ·rw[Ab.1 q];exact fun e=>by have:=g _ _ e;omega
theorem VC{E:F3}{Q:Pl->Prop}(m:∀st r s,s.size=64->(∀y∈st.puts,y.1≠r)->Q st->Q (E.put st r s).2)(C:NB):∀(last:By) (st:Pl) (xs:List It),
  (∀x∈xs,x.k=1\/x.k=2\/x.k=3)->(∀x∈xs,x.k=2->(C x.f).size<=1280)->(∀x∈xs,x.f<60)->xs.Pairwise (fun x y=>x.k=2->y.k=2->x.f≠y.f)->(∀y∈st.puts,∀x∈xs,x.k=2->∀j,j<20->y.1≠Dd 4 x.f j)->Q st->Q (Dr E C last st xs).2
 | _,_,[],_,_,_,_,_,h=>h
 | last,st,x::xs,hk,d,hf,hp,c,h=>by
  rw[cO]at hp;have o:Q (Dt E C last st x).2/\∀y∈(Dt E C last st x).2.puts,y∈st.puts\/(x.k=2/\∃j,j<20/\y.1=Dd 4 x.f j):=by
   unfold Dt;rcases hk x (by simp) with e|e|e
   ·rw[if_pos e];exact⟨h,fun y c => .inl c⟩
   ·rw[if_neg (by omega),if_neg (by omega)];have hn:=Qd (d x (by simp) e);refine⟨F3.puts_ind2 m _ (fun a b=>QQ) _ (fun z=>Us _ z) st 0 _ (fun y f j _ l=>?_) h,fun y f=>?_⟩
    ·rw[A2]at l;exact c y f x (by simp) e j (by omega)
    ·rcases F3.puts_mem E _ _ st 0 _ y f with q|⟨j,_,k,u⟩
     ·exact .inl q
     ·rw[A2]at k;exact .inr ⟨e,j,by omega,u⟩
   ·rw[if_neg (by omega),if_pos e];exact⟨h,fun y c => .inl c⟩
  refine VC m C (jn x.ns) _ xs (fun z d=>hk z (AF _ d)) (fun z g=>d z (AF _ g)) (fun z d=>hf z (AF _ d)) hp.2 (fun y f z g n j p e=>?_) o.1;rcases o.2 y f with q|⟨t,i,hi,k⟩
  ·exact c y q z (AF _ g) n j p e
  ·have h1:=hf x (by simp);have l:=hf z (AF _ g);exact hp.1 z g t n (N9 (by omega) (by omega) (by omega) (by omega) (k.symm.trans e))
theorem Vn{E:F3}{Q:Pl->Prop}(c:∀st r s,s.size=64->(∀y∈st.puts,y.1≠r)->Q st->Q (E.put st r s).2):∀(d below:Nat) (st:Pl) (s:By),Ic d below st s->Q st->Q (DE E d below st s).2
 | 0,_,_,_,_,h=>h
 | d+1,below,st,s,hi,h=>by
  unfold DE
  split
  ·rename_i i;obtain⟨d',e,f,_⟩:=hi.next i E
   cases e
   have hb:=hi.bd;have aa:=hi.n1;refine Vn c d _ _ _ f (F3.puts_ind2 c _ (fun a b=>QQ) _ (fun x=>QJ _ _ _ x) _ _ _ (fun y k j _ g=>?_) h);rw[A2]at g;exact hi.pk.fresh (by omega) y k j (by omega)
  ·exact h
theorem GQ.pair{C:NB}{L:List It}(h:GQ C L):L.Pairwise (fun x y=>x.k=2->y.k=2->x.f≠y.f):=by
 rw[Bm];intro i j c e d a b;exact h.fresh i j _ _ d (Ac c) (Ac e) a b
theorem Zkq{E:F3}{Q:Pl->Prop}(f:∀st r s,s.size=64->(∀y∈st.puts,y.1≠r)->Q st->Q (E.put st r s).2){C:NB}{L:List It}(c:GQ C L)(d:Nat)(l:d<=1536)(h:Q ⟨d,[],[]⟩):Q (Js E C ⟨d,[],[]⟩ L).2:=by
 have n:=VC f C ⟨#[]⟩ ⟨d,[],[]⟩ L c.kind c.size c.num c.pair (fun y g=>(by cases g)) h;obtain⟨t1,t2,t3,t4,p⟩:=KP E C ⟨#[]⟩ ⟨d,[],[]⟩ L (fun z k=>⟨c.path z k,c.size z k,c.kind z k⟩);have ab:=c.len;refine Vn f _ _ _ _ (TC c E ⟨d,[],[]⟩ rfl rfl l) (F3.puts_ind2 f _ (fun a b=>QQ) _ (fun x=>QJ _ _ _ x) _ _ _ (fun y g j _ m e=>?_) n);rw[A2,Ai]at m;have aa:j<600:=by
  have:(⟨#[0]⟩:By).size=1:=rfl;omega
 rcases p y g with q|⟨x,o,_,i,hi,q⟩
 ·cases q
 ·have hf:=c.num x o;have:=QY (kk:=4) (kk':=3) (by omega) (by omega) (by omega) (by omega) (q.symm.trans e);omega
structure Gf(s:KS):Prop where
 ok:Hh s
 cur:∀x∈s.es,x.2.toNat/16=s.tp/16->x.2.toNat<=s.tp
 inj:∀x∈s.es,∀y∈s.es,x.2=y.2->x=y
 tpc:0<Dj s.es (s.tp/16)
 fr:512<=DS (Dj s.es) 96
 lo:∀x∈s.es,16<=x.2.toNat
 tp:15<=s.tp
theorem Gf.free{s:KS}(h:Gf s):512<=16*Jj (Dj s.es) (s.tp/16) 96:=by
 rw[Zmj _ (Om _) _ (by have:=h.ok.tp;omega) h.tpc];exact h.fr
theorem Q4{es:LI}{x:Int×Int}(h:x∈es):0<Dj es (x.2.toNat/16):=by
 unfold Dj;have:0<es.countP (fun y=>y.2.toNat/16==x.2.toNat/16):=List.countP_pos_iff.2 ⟨x,h,by simp⟩
 split<;>omega
theorem RI.not_es{s:KS}(a:Gf s){j o:Nat}{N:List Nat}(h:RI (Dj s.es) s.tp j o N){p:Nat}(c:p∈N)(r:Int):(r,(p:Int))∉s.es:=fun b=>by
 have aa:=a.ok.tp;obtain⟨m1,d⟩:=h.mem p c;rcases d with⟨e,f,_⟩|⟨_,f,_⟩
 ·have:=a.cur _ b (by simp only[Bz];unfold J9 at e;omega);simp only[Bz]at this;omega
 ·have:=Q4 b;simp only[Bz]at this;omega
structure PI(s:KS)(st:Pl):Prop where
 ri:∃j o,RI (Dj s.es) s.tp j o (st.ps.map (·.1))/\st.hd=16*((s.tp/16+j)%96)+o
 mem:∀y∈st.puts,y.2∈st.ps.map (·.1)\/((y.1:Int),(y.2:Int))∈s.es
 nd:(st.puts.map (·.2)).Nodup
 le:st.ps.length<=st.puts.length
 rol:(st.puts.map (·.1)).Nodup
theorem PI.put{s:KS}(f:Gf s){cl:Bool}{st:Pl}(h:PI s st)(hl:st.puts.length<512)(r:Nat)(b:By)(v:∀y∈st.puts,y.1≠r):PI s ((Dk s.es cl s.tp s.D).put st r b).2:=by
 have C:=f.ok.tp;obtain⟨j,o,l,p⟩:=h.ri;have w:∀q:Nat,((st.puts++[(r,q)]).map (fun y:Nat×Nat=>y.1)).Nodup:=fun q=>by
  rw[Bp,Ci];refine⟨h.rol,by simp,fun a i b d e=>?_⟩;obtain⟨y,c,rfl⟩:=Au.1 i;simp only[Br,CP,Ab]at d;exact v y c (e.trans d)
 unfold F3.put
 split
 ·rename_i q g;have n:((r:Int),(q:Int))∈s.es:=by
   unfold F3.stay at g
   split at g
   ·rename_i q' B
    split at g
    ·cases g;exact((f.ok.env cl).at_some B).1
    ·cases g
   ·cases g
  refine⟨⟨j,o,l,p⟩,fun y c=>?_,?_,by rw[Ad];have:=h.le;simp only[Ba];omega,w q⟩
  ·rcases Ap.1 c with e|e
   ·exact h.mem y e
   ·rw[Ab.1 e];exact .inr n
  ·rw[Bp,Ci];refine⟨h.nd,by simp,fun a i b d e=>?_⟩;obtain⟨y,c,rfl⟩:=Au.1 i;simp only[Br,CP,Ab]at d;rw[d]at e;rcases h.mem y c with m|m
   ·rw[e]at m;exact l.not_es f m _ n
   ·rw[e]at m;have:=f.inj _ m _ n rfl;rw[AT]at this;exact v y c (by have:=this.1;omega)
 ·have A:(st.ps.map (·.1)).length<16*Jj (Dj s.es) (s.tp/16) 96:=by rw[AK];have:=h.le;have:=f.free;omega
  obtain⟨x,z,k,t⟩:=l.next C A;rw[<-p]at k t;have u:(st.ps++[(DH (Dj s.es) 96 st.hd%1536,b)]).map (·.1)=st.ps.map (·.1)++[DH (Dj s.es) 96 st.hd%1536]:=by rw[Bp];rfl
  refine⟨⟨x,z,?_,t⟩,fun y c=>?_,?_,?_,w _⟩
  ·show RI (Dj s.es) s.tp x z ((st.ps++[(DH (Dj s.es) 96 st.hd%1536,b)]).map (·.1));rw[u];exact k
  ·show y.2∈(st.ps++[(DH (Dj s.es) 96 st.hd%1536,b)]).map (·.1)\/_;rw[u];rcases Ap.1 c with e|e
   ·exact(h.mem y e).imp (fun e=>A0 _ e) id
   ·rw[Ab.1 e];exact .inl (Bo _ (Ab.2 rfl))
  ·show((st.puts++[(r,DH (Dj s.es) 96 st.hd%1536)]).map (·.2)).Nodup;rw[Bp,Ci];refine⟨h.nd,by simp,fun a i b d e=>?_⟩;obtain⟨y,c,rfl⟩:=Au.1 i;simp only[Br,CP,Ab]at d;rw[d]at e;rcases h.mem y c with m|m
   ·rw[e]at m;have:=k.nd';rw[Ci]at this;exact this.2.2 _ m _ (Ab.2 rfl) rfl
   ·rw[e]at m;exact k.not_es f (Bo _ (Ab.2 rfl)) _ m
  ·show(st.ps++[_]).length<=(st.puts++[_]).length;rw[Ad,Ad];have:=h.le;simp only[Ba];omega
theorem PI.all{s:KS}(a:Gf s)(cl:Bool){C:NB}{L:List It}(e:GQ C L)(c:(Do s cl C L).2.puts.length<=512):PI s (Do s cl C L).2:=by
 have g:=a.ok.tp;refine Zkq (E:=Dk s.es cl s.tp s.D) (Q:=fun st=>st.puts.length<=512->PI s st) (fun st r b hb f h d=>?_) e (s.tp+1) (by omega) (fun _=>?_) c
 ·rw[F3.put_puts,Ad,Ba]at d;exact(h (by omega)).put a (by omega) r b f
 ·exact⟨⟨0,s.tp%16+1,RI.start _ _ g,by show s.tp+1=_;omega⟩,fun y i=>(by cases i),CC,Aa _,CC⟩
theorem Un(E:F3)(fn:Nat)(d:By):∀(st:Pl) (i:Nat) (xs:List Nat),JM E fn d st i xs=JC E (Dd 4 fn) (Gl d) st i xs
 | _,_,[]=>rfl
 | st,i,x::xs=>by
  show DI _ _++JM E fn d _ (i+1) xs=DI _ _++JC E _ _ _ (i+1) xs;rw[Un E fn d _ (i+1) xs]
def Gj(F st:Pl):Prop:=(∀y∈st.puts,y∈F.puts)/\∀x∈st.ps,x∈F.ps
theorem F3.put_ps_sub(E:F3)(st:Pl)(r:Nat)(b:By):∀x∈st.ps,x∈(E.put st r b).2.ps:=fun x a=>by
 unfold F3.put
 split
 ·exact a
 ·exact A0 _ a
theorem Gj.put{E:F3}{F st:Pl}{r:Nat}{b:By}(h:Gj F (E.put st r b).2):Gj F st:=
 ⟨fun y c=>h.1 y (by rw[F3.put_puts];exact A0 _ c),fun x a=>h.2 x (E.put_ps_sub st r b x a)⟩
theorem Gj.puts{E:F3}{F:Pl}{R:Nat->Nat}{B:NB}:∀{st:Pl} {i:Nat} {xs:List Nat},Gj F (E.puts R B st i xs)->Gj F st
 | _,_,[],h=>h
 | _,_,_::_,h=>Gj.put (Gj.puts h)
theorem Gj.ent{E:F3}{F:Pl}{C:NB}{a:By}{st:Pl}{x:It}(h:Gj F (Dt E C a st x).2):Gj F st:=by
 unfold Dt at h
 split at h
 ·exact h
 ·split at h
  ·exact h
  ·exact Gj.puts h
theorem Gj.tab{E:F3}{F:Pl}{C:NB}:∀{last:By} {st:Pl} {xs:List It},Gj F (Dr E C last st xs).2->Gj F st
 | _,_,[],h=>h
 | _,_,_::_,h=>Gj.ent (Gj.tab h)
theorem Gj.idx{E:F3}{F:Pl}:∀{d below:Nat} {st:Pl} {s:By},Gj F (DE E d below st s).2->Gj F st
 | 0,_,_,_,h=>h
 | d+1,below,st,s,h=>by
  unfold DE at h
  split at h
  ·exact Gj.puts (Gj.idx h)
  ·exact h
theorem Gj.row{E:F3}{F:Pl}{kk:UInt8}{a b:Nat}{st:Pl}{s:By}(h:Gj F (Dz E kk a b st s).2):Gj F st:=
 Gj.puts (R:=Dd kk.toNat b) (B:=Dw kk s a) (i:=0) (xs:=List.range ((s.size+a-1)/a)) h
def lk(h0:Nat)(st:Pl):Pl:=⟨h0,st.puts,[]⟩
structure Hg(E E':F3)(F:Pl):Prop where
 at':∀y∈F.puts,E'.at y.1=some y.2
 new:∀x∈F.ps,E'.D[x.1]?=some x.2
 old:∀r q,E.at r=some q->E'.D[q]?=E.D[q]?
 cl:E'.cl=false
section
variable{E E':F3}{F:Pl}
theorem Hg.put(K:Hg E E' F){st:Pl}{r:Nat}{b:By}(h:Gj F (E.put st r b).2)(c:Nat):E'.put (lk c st) r b=((E.put st r b).1,lk c (E.put st r b).2):=by
 have i:(r,(E.put st r b).1)∈F.puts:=h.1 _ (by rw[F3.put_puts];exact Bo _ (Ab.2 rfl));have f:=K.at' _ i;have d:E'.D[(E.put st r b).1]?=some b:=by
  cases hs:E.stay r b with
  | some q=>
   have a:(E.put st r b).1=q:=by unfold F3.put;rw[hs]
   rw[a];unfold F3.stay at hs
   split at hs
   ·rename_i q' j
    split at hs
    ·rename_i g
     cases hs
     rw[K.old r q j];exact g.1
    ·cases hs
   ·cases hs
  | none=>
   have a:E.put st r b=(DH E.nd 96 st.hd%1536,⟨DH E.nd 96 st.hd%1536+1,st.puts++[(r,DH E.nd 96 st.hd%1536)],st.ps++[(DH E.nd 96 st.hd%1536,b)]⟩):=by unfold F3.put;rw[hs]
   rw[a]at h ⊢;exact K.new _ (h.2 _ (Bo _ (Ab.2 rfl)))
 have k:E'.stay r b=some (E.put st r b).1:=by
  unfold F3.stay;rw[f];simp only;rw[if_pos ⟨d,fun e=>by rw[K.cl]at e;cases e.1⟩]
 show(match E'.stay r b with|some q=>_|none=>_)=_;rw[k];show(_,(⟨c,st.puts++[(r,(E.put st r b).1)],[]⟩:Pl))=_;unfold lk;rw[F3.put_puts]
theorem Hg.puts(K:Hg E E' F)(R:Nat->Nat)(B:NB)(a:Nat):∀(st:Pl) (i:Nat) (xs:List Nat),Gj F (E.puts R B st i xs)->E'.puts R B (lk a st) i xs=lk a (E.puts R B st i xs)/\JC E' R B (lk a st) i xs=JC E R B st i xs
 | _,_,[],_=>⟨rfl,rfl⟩
 | st,i,x::xs,h=>by
  have b:=K.put (Gj.puts h) a;obtain⟨c,d⟩:=K.puts R B a (E.put st (R i) (B x)).2 (i+1) xs h;constructor
  ·show E'.puts R B (E'.put (lk a st) (R i) (B x)).2 (i+1) xs=_;rw[b];exact c
  ·show DI (E'.put (lk a st) (R i) (B x)).1 _++JC E' R B (E'.put (lk a st) (R i) (B x)).2 (i+1) xs=_;rw[b];show DI (E.put st (R i) (B x)).1 _++JC E' R B (lk a (E.put st (R i) (B x)).2) (i+1) xs=_;rw[d];rfl
theorem Hg.ent(K:Hg E E' F)(C:NB)(a:By)(b:Nat)(st:Pl)(x:It)(h:Gj F (Dt E C a st x).2):Dt E' C a (lk b st) x=((Dt E C a st x).1,lk b (Dt E C a st x).2):=by
 unfold Dt at h ⊢
 split
 ·rfl
 ·rename_i e;rw[if_neg e]at h
  split
  ·rfl
  ·rename_i f;rw[if_neg f]at h;obtain⟨c,d⟩:=K.puts (Dd 4 x.f) (Gl (C x.f)) b st 0 (List.range (Gg (C x.f))) h;rw[c,Un,Un,d]
theorem Hg.tab(K:Hg E E' F)(C:NB)(a:Nat):∀(last:By) (st:Pl) (xs:List It),Gj F (Dr E C last st xs).2->Dr E' C last (lk a st) xs=((Dr E C last st xs).1,lk a (Dr E C last st xs).2)
 | _,_,[],_=>rfl
 | last,st,x::xs,h=>by
  have b:=K.ent C last a st x (Gj.tab h);have ih:=K.tab C a (jn x.ns) (Dt E C last st x).2 xs h;show((Dt E' C last (lk a st) x).1++(Dr E' C (jn x.ns) (Dt E' C last (lk a st) x).2 xs).1,(Dr E' C (jn x.ns) (Dt E' C last (lk a st) x).2 xs).2)=_;rw[b];show((Dt E C last st x).1++(Dr E' C (jn x.ns) (lk a (Dt E C last st x).2) xs).1,(Dr E' C (jn x.ns) (lk a (Dt E C last st x).2) xs).2)=_;rw[ih];rfl
theorem Hg.row(K:Hg E E' F)(kk:UInt8)(a b:Nat)(c:Nat)(st:Pl)(s:By)(h:Gj F (Dz E kk a b st s).2):Dz E' kk a b (lk c st) s=((Dz E kk a b st s).1,lk c (Dz E kk a b st s).2):=by
 obtain⟨d,e⟩:=K.puts (Dd kk.toNat b) (Dw kk s a) c st 0 (List.range ((s.size+a-1)/a)) h;unfold Dz;rw[d,e]
theorem Hg.idx(K:Hg E E' F)(a:Nat):∀(d below:Nat) (st:Pl) (s:By),Gj F (DE E d below st s).2->DE E' d below (lk a st) s=((DE E d below st s).1,lk a (DE E d below st s).2)
 | 0,_,_,_,_=>rfl
 | d+1,below,st,s,h=>by
  unfold DE at h ⊢
  split
  ·rename_i c;rw[if_pos c]at h;have b:=K.row 2 60 below a st s (Gj.idx h);rw[b];exact K.idx a d (below+1) _ _ h
  ·rfl
end
theorem Hg.keep{E b:F3}{F:Pl}(K:Hg E b F)(C:NB)(a:Nat)(st:Pl)(L:List It)(h:Gj F (Js E C st L).2):Js b C (lk a st) L=((Js E C st L).1,lk a (Js E C st L).2):=by
 obtain⟨T,f⟩:=ex (Dr E C ⟨#[]⟩ st L);obtain⟨R,c⟩:=ex (Dz E 3 63 0 T.2 (T.1++⟨#[0]⟩));have e:Js E C st L=DE E 8 1 R.2 R.1:=by rw[c,f];rfl
 rw[e]at h ⊢;have d:Gj F R.2:=Gj.idx h;have k:Gj F T.2:=by rw[c]at d;exact Gj.row d
 have i:=K.tab C a ⟨#[]⟩ st L (by rw[<-f];exact k);rw[<-f]at i;have g:=K.row 3 63 0 a T.2 (T.1++⟨#[0]⟩) (by rw[<-c];exact d);rw[<-c]at g;have j:Js b C (lk a st) L=DE b 8 1 (lk a R.2) R.1:=by
  unfold Js;rw[i];show DE b 8 1 (Dz b 3 63 0 (lk a T.2) (T.1++⟨#[0]⟩)).2 (Dz b 3 63 0 (lk a T.2) (T.1++⟨#[0]⟩)).1=_;rw[g]
 rw[j];exact K.idx a 8 1 R.2 R.1 h
theorem UI:∀(qs:LB) (D:LY) (p:Nat),p∉qs.map (·.1)->(JD D qs)[p]?=D[p]?
 | [],_,_,_=>rfl
 | x::qs,D,p,h=>by
  rw[Br,AE,not_or]at h;show(JD (D.set x.1 x.2) qs)[p]? = _;rw[UI qs _ p h.2,As (fun e=>h.1 e.symm)]
theorem QR:∀(qs:LB) (D:LY),(JD D qs).length=D.length
 | [],_=>rfl
 | x::qs,D=>by
  show(JD (D.set x.1 x.2) qs).length=_;rw[QR qs,Bq]
theorem P6:∀(qs:LB) (D:LY),(qs.map (·.1)).Nodup->(∀x∈qs,x.1<D.length)->∀x∈qs,(JD D qs)[x.1]?=some x.2
 | [],_,_,_,x,a=>by cases a
 | y::qs,D,hn,hl,x,a=>by
  rw[Br,Cv]at hn;show(JD (D.set y.1 y.2) qs)[x.1]? = _;rcases AE.1 a with rfl|a
  ·rw[UI qs _ _ hn.1,Bf (hl _ (by simp))]
  ·exact P6 qs _ hn.2 (fun z b=>by rw[Bq];exact hl z (AF _ b)) x a
structure Ge(s:KS)(C:NB)(L:List It):Prop where
 ps:(Do s false C L).2.ps=[]
 es:Hb (Do s false C L).2.puts s.es
 tp:Gu (Do s false C L).1=s.tp
 tx:GD (Do s false C L).1=s.tx
theorem Hb.at{b:List (Nat×Nat)}{es:LI}(h:Hb b es)(g:(b.map (·.1)).Nodup)(cl:Bool)(j:Nat)(D:LY){y:Nat×Nat}(c:y∈b):(Dk es cl j D).at y.1=some y.2:=by
 unfold F3.at;have f:((y.1:Int),(y.2:Int))∈es:=(h.2.2 _).2 ⟨y,c,rfl⟩
 cases hf:es.find? (fun x=>x.1==(y.1:Int)) with
 | none=>exact absurd f (fun e=>by have:=CR.1 hf _ e;simp at this)
 | some z=>
  show(es.find? (fun x=>x.1==(y.1:Int))).map _=_;rw[hf];have d:=FJ hf;obtain⟨u,i,rfl⟩:=(h.2.2 z).1 (Er hf);simp only[Fc]at d;have:u.2=y.2:=QN g (a:=u.1) (by exact i) (by rw[show u.1=y.1 by omega];exact c);simp[this]
theorem Ge.keep{b:Nat}{s a:KS}(c:Gf s){C:NB}{L:List It}(u:GQ C L){cl:Bool}(i:DK b s C L=Do s cl C L)(H:(Do s cl C L).2.puts.length<=512)
  (m:Hb (DK b s C L).2.puts a.es) (A:a.tp=Gu (DK b s C L).1) (B:a.tx=GD (DK b s C L).1) (D:a.D=(JD s.D (DK b s C L).2.ps).set ((s.tn+1)%2) (GO (s.tn+1) a.tp a.tx)):
  Ge a C L/\(Do a false C L).1=(DK b s C L).1/\(Do a false C L).2.puts=(DK b s C L).2.puts:=by
 have f:=PI.all c cl u H;have l:=Ul u (Dk s.es cl s.tp s.D) (c.ok.env cl) (s.tp+1) (by have:=c.ok.tp;omega);change IY (Do s cl C L) at l;rw[<-i]at f l;obtain⟨j,o,k,_⟩:=f.ri;have F:∀x∈(DK b s C L).2.ps,16<=x.1:=fun x g=>by
  obtain⟨m1,M⟩:=k.mem x.1 (Au.2 ⟨x,g,rfl⟩);have aa:=c.tp;rcases M with⟨_,q,_⟩|⟨_,q,_⟩
  ·omega
  ·rcases AO x.1 16 with e|e
   ·have w:x.1/16=0:=by omega
    rw[w]at q;have hn:=Om s.es 0;unfold Dj at q;simp at q;omega
   ·exact e
 have v:∀p,16<=p->a.D[p]?=(JD s.D (DK b s C L).2.ps)[p]? := fun p f=>by rw[D,As (by omega)]
 have E:Hg (Dk s.es cl s.tp s.D) (Dk a.es false a.tp a.D) (DK b s C L).2:=by
  refine⟨fun y J=>m.at f.rol false _ _ J,fun x g=>?_,fun r q I=>?_,rfl⟩
  ·show a.D[x.1]? = _;rw[v _ (F x g)];exact P6 _ _ k.nd' (fun z K=>by rw[c.ok.dl];exact(l.pl.2 z K).1) x g
  ·show a.D[q]?=s.D[q]?;have t:=((c.ok.env cl).at_some I).1;have n:=c.lo _ t;simp only[Bz]at n;rw[v q n,UI _ _ _ (fun e=>k.not_es c e _ t)]
 have G:=E.keep C (a.tp+1) ⟨s.tp+1,[],[]⟩ L (by
  show Gj _ (Do s cl C L).2;rw[<-i];exact⟨fun _ h=>h,fun _ h=>h⟩)
 have d:Do a false C L=((DK b s C L).1,lk (a.tp+1) (DK b s C L).2):=by rw[i];exact G
 refine⟨⟨by rw[d];rfl,by rw[d];exact m,by rw[d];exact A.symm,by rw[d];exact B.symm⟩,by rw[d],by rw[d];rfl⟩
theorem IQ : (Tryz.prog.fieldsOf 207).toList.map (fun f => (f.name, f.type, f.offset)) = [("Place", 3, 0), ("Block", 188, 1)] := by kernel_rfl
theorem YX:Tryz.prog.underlying 207=some (.struct (Tryz.prog.fieldsOf 207)):=by kernel_rfl
theorem YD:Tryz.prog.stoodInHeld 207=false:=by kernel_rfl
theorem ZV:Tryz.prog.eqGuardType Tryz.prog.depth 207=false:=by kernel_rfl
theorem MU(w:World)(xs:Array Value)(k:Nat)(v:Value)(h:xs[k]?=some v):(part 3 xs k).run Tryz.prog w = .ok v w:=by
 simp[part,isAgg,run_underlying Tryz.underlying3,h]
theorem SW(w:World)(p:Nat)(s:By)(b:s.size=64):(part 188 (Gi p s).toArray 1).run Tryz.prog w = .ok (DB s) w:=by
 obtain⟨i0,a,aa,c,ab⟩:=BU U9;have e:(Gi p s).toArray.extract 1 (1+64)=(Dc s).toArray:=by
  apply Array.ext';simp only[Array.toList_extract,List.extract_eq_take_drop];show List.take (1+64-1) (List.drop 1 (.int .i64 (p:Nat)::Dc s))=Dc s;rw[CK,BY,Ah (by rw[Dh,b];decide)]
 simp[part,isAgg,run_underlying Ua,sizeOf,typeInfo,a,c,DB]
 first|exact e|(rw[e])|(simpa using e)
theorem MZ{α : Type}{l:List α}(h:l.length=2):∃a b,l=[a,b]:=by
 match l,h with
 | [a,b],_=>exact⟨a,b,rfl⟩
theorem OM {P : Program} (w : World) (d : Nat) (xs ys : Array Value) (f0 f1 : Field) (n0 : f0.name ≠ "_") (n1 : f1.name ≠ "_") (u0 u1 v0 v1 : Value) (r0 r1 : Bool)
  (hx0:(part f0.type xs f0.offset).run P w = .ok u0 w) (hy0:(part f0.type ys f0.offset).run P w = .ok v0 w) (e0:(Op.equalIn d f0.type u0 v0).run P w = .ok r0 w)
  (hx1:(part f1.type xs f1.offset).run P w = .ok u1 w) (hy1:(part f1.type ys f1.offset).run P w = .ok v1 w) (e1:(Op.equalIn d f1.type u1 v1).run P w = .ok r1 w):
  (Op.eqFields d xs ys [f0,f1]).run P w = .ok (r0 && r1) w:=by
 unfold Op.eqFields;rw[if_pos n0];simp only[Cj,hx0,hy0,e0,Ch]
 cases r0
 ·simp
 ·simp only[Bool.not_true,FU,if_false];unfold Op.eqFields;rw[if_pos n1];simp only[Cj,hx1,hy1,e1,Ch]
  cases r1
  ·simp
  ·simp[Op.eqFields]
theorem Mj(w:World)(a b:Nat)(s t:By)(k:s.size=64)(l:t.size=64):(binOp .eql 207 (Ii a s) (Ii b t)).run Tryz.prog w = .ok (.bool (decide (a=b/\s=t))) w:=by
 obtain⟨f,i⟩:=ex ((Tryz.prog.fieldsOf 207).toList);have e:=IQ;rw[<-i]at e;obtain⟨q,r,j⟩:=MZ (show f.length=2 by have:=Ca List.length e;simpa using this);rw[j]at e;simp only[Br,CP,FK,AT,and_true]at e;obtain⟨⟨y,t0,m⟩,⟨z,t1,n⟩⟩:=e;have o:∀(c:Nat) (u:By),(part 3 (Gi c u).toArray 0).run Tryz.prog w = .ok (.int .i64 (c:Nat)) w:=fun c u=>MU w _ 0 _ (by simp[Gi])
 have v:(Op.equalIn 9999 3 (.int .i64 (a:Nat)) (.int .i64 (b:Nat))).run Tryz.prog w = .ok (((a:Nat):Int)==((b:Nat):Int)) w:=run_equalIn_int w 9998 3 .i64 .i64 _ _ Tryz.underlying3;have p:(Op.equalIn 9999 188 (DB s) (DB t)).run Tryz.prog w = .ok (decide (s=t)) w:=by
  rw[NO,NO,run_equalIn_bytes w 9997 188 5 64 Ua Tryz.underlying5 (fun w=>by kernel_rfl) s.data.toList t.data.toList (by rw[AG];exact k) (by rw[AG];exact l)]
  congr 1
  rw[EK,Fc,AJ];exact⟨fun h=>A7 h,fun h=>by rw[h]⟩
 have q0:=SW w a s k;have A:=SW w b t l;have x:(Op.eqFields 9999 (Gi a s).toArray (Gi b t).toArray f).run Tryz.prog w = .ok (decide (a=b/\s=t)) w:=by
  rw[j,OM w 9999 _ _ q r (by rw[y];decide) (by rw[z];decide) _ _ _ _ _ _ (by rw[t0,m];exact o a s) (by rw[t0,m];exact o b t) (by rw[t0];exact v) (by rw[t1,n];exact q0) (by rw[t1,n];exact A) (by rw[t1];exact p)]
  congr 1
  rw[EK,Bu,Fc,AJ,AJ];constructor
  ·rintro⟨g,d⟩;exact⟨by omega,d⟩
  ·rintro⟨g,d⟩;exact⟨by omega,d⟩
 have g:=run_eql_struct (P:=Tryz.prog) w 207 (Gi a s).toArray (Gi b t).toArray;have d:=run_equalIn_struct (P:=Tryz.prog) w 9999 207 (Gi a s).toArray (Gi b t).toArray YX YD;rw[<-i,x]at d;unfold Ii;rw[g,d]
 rfl
end Go.Proofs.YtaieidcohdhgpaaGreatDoor
