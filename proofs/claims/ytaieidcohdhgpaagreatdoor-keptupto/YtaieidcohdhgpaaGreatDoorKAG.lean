/- Kept. -/
import Derived.Test.YtaieidcohdhgpaaGreatDoorKAF
import Derived.Deep.WholeRow
namespace Go.Proofs.YtaieidcohdhgpaaGreatDoor
variable{p q s:By}{Q:Exit->Act->World->Prop}{G:Gh}{C:IB}{f n:Int}{ρ:Int->Nat}{I:LF}{F a ns t:LY}{L:List (By×Int)}{b c m:Nat}{o:Oper}{P:Program}{α:Type}{r:VF}{u:VS}{v:Value}{w w' w2:World}
set_option maxHeartbeats 40000000
set_option maxRecDepth 100000
set_option linter.all false
open Tryz
open Go.RowKit
def JJ(G:Gh)(a:LY)(m:Nat):Bool:=G.any (λx=>qB a x && decide (6<x.1.length-a.length+m))
def MF(G:Gh)(a:LY)(u:VS)(ba bt:Nat)(dt:LY)(m:Nat):Bool:=!(decide (bt≠ba) && decide (20<=G.countP (GH dt))) && (u.p.isNone || !(JJ G a m))
theorem ZrK{h:Nat}(c:Nw G (qB a) a.length h)(hm:m<=6):decide (m+h<=6) = !(JJ G a m):=by rw[Em,An,Bool.not_eq_true',<-FM];unfold JJ;rw[EB];constructor;rintro aa⟨x,d,b⟩;rw[AQ,An]at b;have:=c.1 x d b.1;omega;rcases c.2 with h0|⟨x,d,b,e⟩;omega;grind
theorem Xk:(prog.info? 229).map (λi=>(i.zero,i.size,i.bytes))=some (some (.agg #[dN]),1,24):=Φ
theorem Zrb(W:World)(b:Nat):(binOp .neq 209 (dP b) (dP b)).run prog W=.ok (dV false) W:=by
 obtain⟨j,a,_,_,_⟩:=Bk Xk;have h:∀d:Nat,(Op.equalIn (d+1) 209 (dP b) (dP b)).run prog W=.ok true W:=λd=>by simp[Op.equalIn,run_underlying underlying209,sizeOf,typeInfo,a,run_sameAddr_same]
 simp_all[binOp,Op.equal,Op.maxDepth]
theorem ZoN(W:World){a:Nat}{R c:Gf}(aa:a≠b)(e:Gb W a 229 R)(f:Gb W b 229 c):(binOp .neq 209 (dP a) (dP b)).run prog W=.ok (dV true) W:=by
 obtain⟨j,g,_,k,_⟩:=Bk Xk;have i:((dQ a 0):Addr)≠(dQ b 0):=Γ;have h:∀d:Nat,(Op.equalIn (d+1) 209 (dP a) (dP b)).run prog W=.ok false W:=λd=>by simp[Op.equalIn,run_underlying underlying209,sizeOf,typeInfo,g,k,run_sameAddr_other W i e f]
 simp_all[binOp,Op.equal,Op.maxDepth]
theorem Zj7(w:World)(tb n:Nat)(V:NV)(E:NS)(vi:Value)(G:Gh)(I:LF)(C:IB)(h:TW w tb n V E vi G I C)(y:Gp G)(aa:G.length<=10000)(a H f:LY)(g c:Nat)(Y Z:By)(ta tt:Bool)(u ut:VS)(hu:u.p=none\/∃b,u=⟨some (dQ b 0),0⟩/\Gd G n a b)(ab:Gd G n H g)(q:Gd G n f c)(m:Nat)(hm:m<=6):
  Cl 195 #[Dk (some (dQ g 0)) Y ta u,Dk (some (dQ c 0)) Z tt ut,dI m] w λe w'=>e=dR (dV (MF G a u g c f m))/\Bw w w':=by
 have p:Hid (∀W,Bw w W->Cl 231 #[dP c] W λe w'=>e=dR (dV (decide (20<=G.countP (GH f))))/\w'=W):=λW z=>by have v:=h.d.below z (Aa _);rw[<-v.len y q];exact Zg2 W c _ _ _ (v.row f c q) (v.sl f c q)
 have D:Hid (∀W b,Bw w W->Gd G n a b->Cl 232 #[dP b] W λe w'=>∃h:Nat,e=dR (dI h)/\Hid (decide (m+h<=6) = !(JJ G a m))/\h<=6/\Bw W w'):=λW b z l=>by apply(Zlj G y aa n V E 6 a b W Ω l (h.d.below z (Aa _))).Q;rintro e w'⟨k,rfl,Q,o⟩;exact⟨k,rfl,ZrK Q hm,WJ y Q,o⟩
 have HH:=Db h;clear h;unfold Dk;go_enter func195,ntmps195;go_upto_region 1 with fail;obtain⟨W1,K,U,ac,T,M⟩:=Df w (DS (some (dQ g 0)) Y ta u) 262;obtain⟨F,L,X,R,ag,N⟩:=Df W1 (DS (some (dQ c 0)) Z tt ut) 262;have d:=M.M (N.Q Ω);have y1:=R _ _ _ U;rw[T]at X;rw[K,L];have a0:=y1.J 0;have a3:=y1.J 3;have c0:=X.J 0;obtain⟨J,P⟩:=ex (decide (20<=G.countP (GH f)));rw[<-P]at p;have r:Hid (MF G a u g c f m=(!(decide (c≠g) && J) && (u.p.isNone || !(JJ G a m)))):=by show _=_;grind [MF]
 clear K L ac R M N U T ag P;have x:=(Da HH).below d (Aa _);have ae:=x.d.row H g ab;have af:=x.d.row f c q;obtain⟨up,B⟩:=u;have S:(up=none)\/(∃b,up=some (dQ b 0)/\Gd G n a b):=by grind
 clear hu x;by_cases O:c=g
 .subst O;have hq:=Zrb F c;have j:Hid (MF G a ⟨up,B⟩ c c f m=(up.isNone || !(JJ G a m))):=Ξ;clear r;rcases S with rfl|⟨b,rfl,l⟩
  .go_wp2;go_ret;exact⟨by rw[Da j];rfl,d⟩
  .have s:=Db l;clear l;go_wp2_with(first|(go_at_call 232;apply(Da D _ b d (Da s)).Q;rintro e w'⟨k,rfl,t,ad,o⟩));go_ret;have A:decide ((m)+(k:Int)<=6)=decide (m+k<=6):=Γ;exact⟨by rw[Da j,<-Da (Da t),<-A];rfl,d.M (o.Q d.size)⟩
 .have hq:=ZoN F O af ae;cases J with
  |true=>
   have j:Hid (MF G a ⟨up,B⟩ g c f m=false):=Ξ;clear r;go_wp2_with(first|(go_at_call 231;apply(Da p _ d).Q;rintro e w'⟨rfl,i⟩;rw[i];clear i));go_ret;exact⟨by rw[Da j];rfl,d⟩
  |false=>
   have j:Hid (MF G a ⟨up,B⟩ g c f m=(up.isNone || !(JJ G a m))):=Ξ;clear r;rcases S with rfl|⟨b,rfl,l⟩
   .go_wp2_with(first|(go_at_call 231;apply(Da p _ d).Q;rintro e w'⟨rfl,i⟩;rw[i];clear i));go_ret;exact⟨by rw[Da j];rfl,d⟩
   .have s:=Db l;clear l;go_wp2_with(first|(go_at_call 231;apply(Da p _ d).Q;rintro e w'⟨rfl,i⟩;rw[i];clear i)|(go_at_call 232;apply(Da D _ b d (Da s)).Q;rintro e w'⟨k,rfl,t,ad,o⟩));go_ret;have A:decide ((m)+(k:Int)<=6)=decide (m+k<=6):=Γ;exact⟨by rw[Da j,<-Da (Da t),<-A];rfl,d.M (o.Q d.size)⟩
def LT(q p:By):Bool:=Lib.hasPrefix q.data.toList (p++⟨#[47]⟩:By).data.toList
def Ie(G:Gh)(p q:By):Int:=
 if Di q=false then 1 else if DA G p true≠0 then DA G p true else if Dc p=[] then 7 else
 match Gr G (Dc p) with
 |none=>3
 |some u=>if u.p.isSome=true/\LT q p=true then 7 else if DR G (Dc q)≠0 then DR G (Dc q) else
  if ((decide ((Dc q).dropLast≠(Dc p).dropLast) && decide (20<=G.countP (GH (Dc q).dropLast))) || (u.p.isSome && JJ G (Dc p) (Dc q).length))=true then 8 else 0
def PV(w:World)(tb:Nat)(G:Gh)(I:LF)(C:IB)(p q:By)(e:Ending)(w':World):Prop:=
 e=dR (dI (Ie G p q))/\Fr (DV tb w) w w'/\((Ie G p q≠0/\PS w' tb G I C)\/(Ie G p q=0/\(∀u,Ii G (Dc p) (Dc q) u->PS w' tb (Le G (Dc p) (Dc q)) I C)))
theorem Znj(w:World)(tb:Nat)(G:Gh)(I:LF)(C:IB)(h:PS w tb G I C)(F:Gp G)(af:G.length<=10000)(p q:By)(hp:p.size<=2000000)(hq:q.size<=2000000):
  Cl 126 #[dP tb,dU p,dU q] w (PV w tb G I C p q):=by
 obtain⟨M,V,E,vi,h⟩:=h;have O:Hid (∀W,Bw w W->Ie G p q≠0->PV w tb G I C p q (dR (dI (Ie G p q))) W):=λW s r=>⟨rfl,Fr.S s,.inl ⟨r,M,V,E,vi,h.below s (Aa _)⟩⟩;have a8:=Zij w tb M V E vi G I C h F af p q hp hq;have HH:=Db h;clear h;go_enter func126,ntmps126;go_wp2_with fail;apply a8.Q;rintro e w1⟨aJ,s⟩;clear a8;rcases aJ with⟨hn,rfl⟩|⟨aI,a,c,az,⟨r,rfl⟩|⟨he,bC,d,n,t,u,aL,rfl⟩⟩
 .have B:Hid (Ie G p q=1):=by show _=_;simp_all[Ie,if_pos]
  clear hn;unfold DE Dk;go_wp2;go_ret;have:=Da O _ (s.alloc s.size (.cells (DS none ⟨#[]⟩ false ⟨none,0⟩).toArray 262)) (by grind [Da]);rw[Da B]at this;exact this
 .have B:Hid (Ie G p q=DA G p true):=by show _=_;simp_all[Ie,if_neg,if_pos]
  have bp:=Db r;have bA:(DA G p true != 0)=true:=Ξ;obtain⟨L,aa⟩:=ex ((Dc q).length);rw[<-aa];clear r aI az aa;unfold DE Dk;go_wp2;go_ret;have:=Da O _ (s.alloc s.size (.cells (DS none ⟨#[]⟩ false ⟨none,0⟩).toArray 262)) (by grind [Da]);rw[Da B]at this;exact this
 .have bm:Hid (Ie G p q=if Dc p=[] then 7 else match Gr G (Dc p) with
   |none=>3
   |some u=>if u.p.isSome=true/\LT q p=true then 7 else if DR G (Dc q)≠0 then DR G (Dc q) else
    if ((decide ((Dc q).dropLast≠(Dc p).dropLast) && decide (20<=G.countP (GH (Dc q).dropLast))) || (u.p.isSome && JJ G (Dc p) (Dc q).length))=true then 8 else 0):=by
   show _=_;unfold Ie;simp_all
  have aX:=Db aL;have aW:=Db aI;have bq:=Db az;obtain⟨L,aa⟩:=ex ((Dc q).length);have aV:=Db aa;have bB:L<=6:=by grind [QA]
  rw[<-aa];have ai:=U7 (Da HH).d aL;have bK:p.size<=78:=UD p bC;clear aL he aI aa az;unfold Dk;obtain⟨W,hW,A,hk,bD,aB⟩:=Df w1 (DS d n t u) 262;have ah:Bw w W:=s.M (aB.Q s.size);have bk:=Db aB;have HW:=Db hW;clear hW hk aB bD;go_upto_if 20 with fail;rw[Da HW];clear HW;obtain⟨P,Q,S,T,U⟩:=A.c4;rcases ai with⟨rfl,r,am⟩|ai
  .have B:Hid (Ie G p q=3):=Ξ;clear r am;go_wp2;go_ret;have:=Da O _ ah (by rw[Da B];decide);rw[Da B]at this;exact this
  .obtain rfl:t=true:=(by rcases ai with⟨o,_⟩|⟨o,_⟩<;>exact o);have aK:=λW=>Zg0 d n true u W;unfold Dk at aK;have al:=Db aK;clear aK;by_cases r:Dc p=[]
   .have B:Hid (Ie G p q=7):=Ξ;obtain rfl:d=none:=(by rcases Da aX with⟨_,o,_⟩|⟨ds,db,o,_⟩;exact o;simp_all);clear r ai;go_wp2_with fail;apply(Da al _).Q;rintro e w2⟨rfl,ag⟩;have Z:Bw w w2:=ah.M (ag.Q ah.size);clear al;go_wp2;go_ret;have:=Da O _ Z (by rw[Da B];decide);rw[Da B]at this;exact this
   .obtain⟨D,i,be,l,rfl,am⟩:=(Da aX).in r;have aM:Hid (Ie G p q=if u.p.isSome=true/\LT q p=true then 7 else if DR G (Dc q)≠0 then DR G (Dc q) else
     if ((decide ((Dc q).dropLast≠(Dc p).dropLast) && decide (20<=G.countP (GH (Dc q).dropLast))) || (u.p.isSome && JJ G (Dc p) (Dc q).length))=true then 8 else 0):=Ξ
    have hu:u.p=none\/∃b,u=⟨some (dQ b 0),0⟩/\Gd G M (Dc p) b:=(by grind);have ad:=Db be;have ak:=Db l;have bj:=Db am;have HU:=Db hu;clear r be l am ai bm hu;go_wp2_with fail;apply(Da al _).Q;rintro e w2⟨rfl,ag⟩;have Z:Bw w w2:=ah.M (ag.Q ah.size);have H:Gb w2 w1.heap.size 262 _:=(ag.block _ A.lt).M A;have br:Hid (Sl w2 9 1 (.slice a (Dc q).length c) (Dc q).length ((Dc q).map .string)):=((Da bq).kept (λk hk _=>(Da bk).block k hk)).kept (λk hk _=>ag.block k hk);clear al P Q S T U A;obtain⟨P,Q,S,T,U⟩:=H.c4;have aE:=U3 w2 tb M V E vi G I C ((Da HH).below Z (Aa _)) F af (Dc q) (QA (Da aW)) a c (Da br);rw[<-Da aV]at aE;have aQ:=Db aE;clear aE;have a9:=λW=>Tryz.strings_HasPrefix q (p++⟨#[47]⟩) W;have aR:=Db a9;clear a9;obtain⟨up,uf⟩:=u;rcases up with _|au
    focus
     have ab:Hid (Ie G p q=if DR G (Dc q)≠0 then DR G (Dc q) else
      if ((decide ((Dc q).dropLast≠(Dc p).dropLast) && decide (20<=G.countP (GH (Dc q).dropLast))) || ((none:OA).isSome && JJ G (Dc p) (Dc q).length))=true then 8 else 0):=Ξ
     clear aM;go_wp2_with fail;obtain⟨u,X⟩:∃u:VS,u=⟨none,uf⟩:=⟨_,rfl⟩
    rotate_left
    focus
     obtain⟨bf,aF⟩:=ex (LT q p);have bJ:(p++⟨#[47]⟩:By).size<=2000000:=(by rw[Aj];show p.size+1<=2000000;omega);have aS:Hid (∀W,Cl 194 #[dU q,dU (p++⟨#[47]⟩)] W λe w'=>e=dR (dV bf)/\w'=W):=λW=>by rw[aF];exact Da aR W
     clear aR;cases bf
     rotate_left
     .have ab:Hid (Ie G p q=7):=Ξ;clear aF;go_wp2_with(first|(go_at_call 194;apply(Da aS _).Q;rintro e w'⟨rfl,hw⟩;rw[hw];clear hw));go_ret;have:=Da O _ Z (by rw[Da ab];decide);rw[Da ab]at this;exact this
     have ab:Hid (Ie G p q=if DR G (Dc q)≠0 then DR G (Dc q) else
      if ((decide ((Dc q).dropLast≠(Dc p).dropLast) && decide (20<=G.countP (GH (Dc q).dropLast))) || ((some au:OA).isSome && JJ G (Dc p) (Dc q).length))=true then 8 else 0):=Γ
     clear aM aF;go_wp2_with(first|(go_at_call 194;apply(Da aS _).Q;rintro e w'⟨rfl,hw⟩;rw[hw];clear hw));obtain⟨u,X⟩:∃u:VS,u=⟨some au,uf⟩:=⟨_,rfl⟩
    all_goals
     apply(Da aQ).Q;rintro e w3⟨aJ,a7⟩;have an:Bw w w3:=Z.M (a7.Q Z.size);have bg:Gb w3 w1.heap.size 262 _:=(a7.block _ H.lt).M H;clear aQ P Q S T U H;rcases aJ with⟨r,rfl⟩|⟨bz,dt,nt,f,ar,z,a6,rfl⟩
     .have aO:Hid (Ie G p q=DR G (Dc q)):=Ξ;have bp:=Db r;have bA:(DR G (Dc q) != 0)=true:=Ξ;clear r;unfold DE Dk;go_wp2;go_ret;have:=Da O _ (an.alloc an.size (.cells (DS none ⟨#[]⟩ false ⟨none,0⟩).toArray 262)) (by grind [Da]);rw[Da aO]at this;exact this
     .unfold Dk;obtain⟨W3,a5,J,bb,bE,bx⟩:=Df w3 (DS (some (dQ f 0)) nt false ⟨none,0⟩) 262;have aC:Bw w W3:=an.M (bx.Q an.size);have K:=bb _ _ _ bg;have aq:=Zj7 W3 tb M V E vi G I C ((Da HH).below aC (Aa _)) F af (Dc p) D dt i f n nt true false u ⟨none,0⟩ (by rw[X];first|exact .inl rfl|(have:=Da HU;simp_all)) (Da ak) z L bB;obtain⟨mb,aH⟩:=ex (MF G (Dc p) u i f dt L);rw[<-aH,X]at aq;unfold Dk at aq;have aU:=Db aq;have aO:Hid (Ie G p q=if mb=true then 0 else 8):=(by show _=_;rw[aH,X,Da ab,if_neg Ω,ar,Ei,Da ad,Ei,<-ar,<-Da ad,<-Da aV];have e1:decide (dt≠D)=decide (f≠i):=(by rw[FE];constructor;intro o e;subst e;exact o ((Da HH).d.inj _ _ _ z (Da ak));intro o e;subst e;exact o (z.func F (Da ak)));grind [MF,decide,GH,JJ,Dc]);clear aH;have ax:=Db ar;have bl:=Db z;have bH:=Db a6;have aY:=Db a5;clear a5 bb bE aq bz ar z a6 bg;go_upto_if 46 with fail;rw[Da aY];clear aY;obtain⟨P,Q,S,T,U⟩:=K.c4;obtain⟨c0,c1,c2,c3,c4⟩:=J.c4;go_wp2_with fail;apply(Da aU).Q;rintro e w4⟨rfl,aA⟩;have Y:Gb w4 w1.heap.size 262 _:=(aA.block _ K.lt).M K;have bi:Gb w4 w3.heap.size 262 _:=(aA.block _ J.lt).M J;have aD:Bw w w4:=aC.M (aA.Q aC.size);clear aU P Q S T U c0 c1 c2 c3 c4 K J;cases mb with
      |false=>
       have ac:Hid (Ie G p q=8):=Ξ;go_wp2;go_ret;have:=Da O w4 aD (by rw[Da ac];decide);rw[Da ac]at this;exact this
      |true=>
       have ac:Hid (Ie G p q=0):=Ξ;obtain⟨P,Q,S,T,U⟩:=Y.c4;have j:=(Da HH).below aD (Aa _);have l:=Da ak;have z:=Da bl;have bd:(n,u)∈E i:=(j.d.en D i l n _).2 (by rw[X];grind [Da,JZ]);have ap:=Vs w4 i n true u u (V i) (E i) (j.d.row D i l) (j.d.sl D i l) (Ae (j.d.le F l) af) (j.d.ak D i l) bd;rw[X]at ap;unfold Dk at ap;have aT:=Db ap;have H4:=Db j;have bs:=Db Y;have bu:=Db bi;clear ap j bd Y bi;go_wp2_with fail;apply(Da aT).Q;rintro e w5⟨rfl,v1,aZ,q1,q2,q3,q4,q5,q6,y⟩;have j:=Da H4;have av:=j.d.row D i l;have aw:=j.d.sl D i l;have aG:∀k t R,Gb w4 k t R->t≠229->t≠310->Gb w5 k t R:=λk t R hR o h2=>hR.e y (λe=>by rcases e with rfl|e;exact o (hR.type av);obtain⟨R',bw⟩:=aw.type e;exact h2 (hR.type bw));have h5:=TW.d9 j av aw y (j.d.gs F l (G':=Ly G (Dc p)) (n:=n) (λx=>by rw[<-Da ad];exact O1 G _ x) q1 q2 q3 q5 q6 y);have ae:=j.d.h.f8 ⟨D,l⟩ q1 q2 q3 q6 y;have ay:∀b,(∃ns,Gd G M ns b)->∀x,x∈IP E i aZ b↔x∈E b/\¬(b=i/\x.1=n):=(by grind [JU,JB]);have v:∃ns,Gd G M ns f:=⟨dt,z⟩;have ao:=Vm w5 f nt (Pe (Da aW) (Da ax)) false ⟨none,0⟩ u (IP V i v1 f) (IP E i aZ f) (ae.row f v) (ae.sl f v) (by
         by_cases e:f=i;subst e;rw[JU];have:=j.d.le F l;omega;rw[JB _ _ e];exact Ae (j.d.le F z) af) (ae.ak f v) (λx A e=>by
         have bG:=((ay f v x).1 A).1;have:=(j.d.en dt f z x.1 x.2).1 bG;grind [Ux,Da])
       rw[X]at ao;unfold Dk at ao;have aP:=Db ao;have H5:=Db h5;have N:=Db ae;have aN:=Db ay;have bn:Hid (Fr (DV tb w) w w5):=Fr.pg aD (Fr.ay (j.f7 l) av aw y);have bh:=aG _ _ _ (Da bs) Δ Δ;have aj:=aG _ _ _ (Da bu) Δ Δ;have b3:=bh.J 3;have b4:=bh.J 4;obtain⟨c0,c1,c2,c3,c4⟩:=aj.c4;clear ao h5 ae ay aG av aw j q1 q2 q3 q4 q5 q6 y aT P Q S T U;go_wp2_with fail;apply(Da aP).Q;rintro e w6⟨rfl,v2,bI,q1,q2,q3,q4,q5,q6,y⟩;have bo:Hid (PV w tb G I C p q (dR (dI 0)) w6):=(by refine⟨by rw[Da ac],(Da bn).ab (Fr.ay (⟨by have o:=(Da H5).lo.1;have h2:=((Da N).lo f v).1;omega,λg hg=>by have o:=(Da H5).lo.1;have h2:=((Da N).lo f v).2 g hg;omega⟩) ((Da N).row f v) ((Da N).sl f v) y),.inr ⟨Da ac,λu' hm=>?_⟩⟩;have bF:u'=_:=Kz F.nd hm.an (JZ (Da bj));subst bF;have bv:=(Da N).f8 v q1 q2 q3 q6 y;have bc:=hm;rw[Da ad,Da ax]at bc;have hD:=(Da H4).d.move bc l z bv (λb s m x=>by by_cases e:b=f;subst e;rw[JU,q5,Da aN b s];simp;rw[JB _ _ e,Da aN b s];simp[e]);rw[<-Da ad,<-Da ax]at hD;exact⟨M,_,_,vi,TW.d9 (Da H5) ((Da N).row f v) ((Da N).sl f v) y hD⟩);clear aP q1 q2 q3 q4 q5 q6 y;go_wp2;go_ret;exact Da bo
structure Rl(G:Gh)(I:LF)(C:IB)(ρ : Int->Nat)(L:List (By×Int))(F:LY):Prop where
 b9:L=G.map (vw ρ)
 ok:Gp G
 num:Hh I ρ L F
 fl:∀x∈G,x.2.p=none->∃r,(x.2.f,r)∈I
 ck:∀x∈I,F[ρ x.1]?=some (C x.1)
 cf:∀x∈I,0<=x.1
 lG:G.length<=100
 lI:I.length<=60
 sz:∀s∈F,s.size<=1280
theorem Rl.e3(h:Rl G I C ρ L F):∀x∈I,(C x.1).size<=1280:=λx a=>h.sz _ (Ai (h.ck x a))
theorem Rl.eu(h:Rl G I C ρ L F):∀x∈I,x.2.l=(C x.1).size:=λx a=>by rw[h.num.size x a,h.ck x a];rfl
theorem Rl.lL(h:Rl G I C ρ L F):L.length=G.length:=by rw[h.b9,AT]
theorem Rl.d7(h:Rl G I C ρ L F):Hq G I:=λx d c=>by obtain⟨r,a⟩:=h.fl x d c;refine⟨r,a,?_,?_⟩;have b:=h.num.ae _ a;have h2:=h.num.bq _ a;simp_all;have b:=h.num.ae _ a;have h3:=h.lL;have h4:=h.lG;grind
theorem JN(h:Di p=true):(p.toList==[47])=true↔Dc p=[]:=by grind [UC,absurd,Uj]
theorem T1(_h:Di p=true)(hn:Dc p≠[]):(p.toList==[47])=false:=by grind [absurd,UC]
theorem J8(h:Di p=true)(hn:Dc p≠[]):p=jn (Dc p)/\GO (Dc p):=by grind [Uj,T1]
section
variable{G:Gh}{I:LF}{C:IB}{ρ : Int->Nat}{L:List (By×Int)}{F:LY}
theorem Rl.ah(h:Rl G I C ρ L F)(b:Di p=true):DJ L p=GJ G (Dw [] (Dc p)):=by by_cases a:Dc p=[];rw[a,ZlF L p ((JN b).2 a)];rfl;obtain⟨e,c⟩:=J8 b a;have:=Zqb h.ok ρ c a;rw[h.b9];grind
theorem Rl.hs(h:Rl G I C ρ L F)(p:By):JV L p=if Di p=false then 1 else GJ G (Dw [] (Dc p)):=by
 unfold JV;cases hp:Di p with
 |false=>rfl
 |true=>
  have:=h.ah hp;simp_all[DJ,Bool.true_eq_false]
theorem Rl.lk(h:Rl G I C ρ L F)(c:Di p=true)(b:Dc p≠[]):GC L p=(Gr G (Dc p)).map (DP ρ):=by obtain⟨e,a⟩:=J8 c b;have:=XN h.ok ρ a;rw[h.b9];grind
theorem Rl.cj(h:Rl G I C ρ L F)(a:GO ns):L.countP (DN (jn ns))=G.countP (GH ns):=by rw[h.b9,dir_vw h.ok ρ a]
theorem VW(f:Di p=true)(c:Dc p≠[]):DX p=jn (Dc p).dropLast/\GO (Dc p).dropLast:=by
 obtain⟨e,a⟩:=J8 f c;obtain⟨d,n,b⟩:=Uk c;rw[b]at e a;rw[b,Ei];refine⟨?_,a.left⟩
 conv=>lhs;rw[e]
 exact OR d n (QT (a n Θ))
theorem Rl.h8(h:Rl G I C ρ L F):Q3 L F=cD G []+I.length:=by unfold Q3;rw[Qx h.ok,<-h.num.length];rw[h.b9,ZtV]
theorem Rl.room(h:Rl G I C ρ L F)(d:Di p=true)(c:Dc p≠[])(n:Nat):Ks L F p n=decide (G.countP (GH (Dc p).dropLast)<20/\G.length<100/\cD G []+I.length+n<=60):=by obtain⟨a,b⟩:=VW d c;unfold Ks;rw[a,h.cj b,h.lL,h.h8]
theorem Rl.fj(h:Rl G I C ρ L F)(b:Di p=true)(a:Dc p≠[]):Ks L F p 1=Je G I (Dc p).dropLast:=by rw[h.room b a,Je,FE];omega
theorem Rl.fi(h:Rl G I C ρ L F)(b:Di p=true)(a:Dc p≠[])(aa:cD G []+I.length<=60):Ks L F p 0=JW G (Dc p).dropLast:=by rw[h.room b a,JW,FE];omega
theorem Rl.fo(h:Rl G I C ρ L F)(a:Di p=true):DR G (Dc p)=if DJ L p≠0 then DJ L p else if (p.toList==[47])=true\/(GC L p).isSome=true then 6 else 0:=by
 unfold DR;rw[h.ah a];by_cases h0:GJ G (Dw [] (Dc p))=0;have c:¬(GJ G (Dw [] (Dc p))≠0):=Ω;rw[if_neg c,if_neg c];by_cases b:Dc p=[];rw[if_pos (.inl b),if_pos (by grind [JN])];have e:((Dc p=[]\/(Gr G (Dc p)).isSome=true)↔((p.toList==[47])=true\/(GC L p).isSome=true)):=by rw[h.lk a b,JN a,Option.isSome_map]
 simp_all;omega
theorem Rl.eo(h:Rl G I C ρ L F)(p:By):ID G I p=(Ka L F p).1/\(ID G I p≠0->(Ka L F p).2=L)/\(ID G I p=0->(Ka L F p).2=L++[(p,-1)]/\Di p=true/\Dc p≠[]/\Gr G (Dc p)=none/\DR G (Dc p)=0/\Je G I (Dc p).dropLast=true):=by
 unfold ID Ka JV;cases hp:Di p with
 |false=>simp
 |true=>
  have b:=h.fo hp;have a:Kh L (Jy p (p.size-1) 1)=DJ L p:=rfl;simp only[FD,a,BW,ES];by_cases e:DJ L p=0;rw[if_neg (show ¬DJ L p≠0 by simpa using e)]at b ⊢;by_cases c:(p.toList==[47])=true\/(GC L p).isSome=true;rw[if_pos c]at b ⊢;rw[b];simp;have d:Dc p≠[]:=by grind [JN]
  have aa:Gr G (Dc p)=none:=by
   cases a:Gr G (Dc p) with
   |none=>rfl
   |some u=>exact absurd (.inr (by rw[h.lk hp d,a];rfl)) c
  rw[h.fj hp d];grind;simp_all
end
theorem TA{b:LY}{n:By}(h:GJ G (Dw [] (b++[n]))=0):b=[]\/∃v,(b,v)∈G/\v.p.isSome=true:=by
 by_cases c:b=[];simp_all;right;have f:∀(A:List _) (q:LY),GJ G (A++[q])=0->∃v,Gr G q=some v/\v.p.isSome=true:=by
  intro A q
  induction A with
  |nil=>
   intro h;rw[AH,GJ]at h;grind
  |cons a A ih=>
   intro h;rw[AK,GJ]at h;grind
 rw[Pc [] b n [] c]at h;obtain⟨v,e,d⟩:=f _ _ h;exact⟨v,JZ e,d⟩
theorem Hh.dm{b:List (By×Int)}(h:Hh I ρ L F)(c:∀f:Nat,b.countP (DF (f:Int))=L.countP (DF (f:Int))):Hh I ρ b F:=
 ⟨h.nd,h.inj,h.lt,λx a=>by rw[c];exact h.bq x a,λf d hl=>h.all f d Ξ,h.size,λx a=>by rw[c];exact h.ae x a⟩
section
variable{G:Gh}{I:LF}{C:IB}{ρ : Int->Nat}{L:List (By×Int)}{F:LY}
theorem Rl.dj(h:Rl G I C ρ L F)(b:Di p=true)(a:Dc p≠[])(c:Gr G (Dc p)=none)(hg:DR G (Dc p)=0)(u:VS):Gp (G++[(Dc p,u)]):=by
 have ha:GJ G (Dw [] (Dc p))=0:=by simp_all[DR,Dc]
 refine h.ok.add (J8 b a).2 a (QA b) c (λds n e=>?_) u;grind [TA]
theorem Rl.dr(h:Rl G I C ρ L F)(j:ID G I p=0)(nb:Nat):Rl (G++[(Dc p,⟨some (dQ nb 0),0⟩)]) I C ρ (L++[(p,-1)]) F:=by
 obtain⟨_,c,b,d,e,g⟩:=(h.eo p).2.2 j;refine⟨?_,h.dj c b d e _,h.num.dm (λf=>?_),λx a i=>?_,h.ck,h.cf,?_,h.lI,h.sz⟩;rw[AE,h.b9];congr 1;show [(p,(-1))]=[(jn (Dc p),DP ρ ⟨some (dQ nb 0),0⟩)];rw[<-(J8 c b).1];rfl;rw[AU];have:List.countP (DF (f)) [(p,(-1))]=0:=by simp[DF]
 omega;rcases Al.1 a with a|a;exact h.fl x a i;simp_all;unfold Je at g;grind
theorem Rl.fE(h:Rl G I C ρ L F):Gk G p true=(if Di p=false then 1 else if DJ L p≠0 then DJ L p else if (p.toList==[47])=true then 5 else match GC L p with|none=>3|some f=>if f<0 then 5 else 0):=by
 unfold Go.Proofs.YtaieidcohdhgpaaGreatDoor.Gk DA;cases hp:Di p with
 |false=>simp
 |true=>
  have c:=h.ah hp;simp only[BW,ES,c];by_cases h0:GJ G (Dw [] (Dc p))=0;have b:¬(GJ G (Dw [] (Dc p))≠0):=Ω;rw[if_neg b,if_neg b];by_cases a:Dc p=[];rw[if_pos a,if_pos ((JN hp).2 a)];rw[if_neg a,if_neg (by grind [JN]),h.lk hp a];cases hat:Gr G (Dc p) with
  |none=>rfl
  |some u=>
   simp_all[Option.map_some,QC]
  omega
theorem Rl.hg(h:Rl G I C ρ L F)(k:cD G []+I.length<=60)(p q:By):Iu G p q=(J3 L F p q).1/\(Iu G p q≠0->(J3 L F p q).2=L)/\
  (Iu G p q=0->∀u,Gr G (Dc p)=some u->u.p=none->(J3 L F p q).2=L++[(q,(ρ u.f:Int))]/\Di q=true/\Dc q≠[]/\Gr G (Dc q)=none/\DR G (Dc q)=0/\JW G (Dc q).dropLast=true):=by
 unfold Iu J3;cases hq:Di q with
 |false=>simp
 |true=>
  cases hp:Di p with
  |false=>
   have:Go.Proofs.YtaieidcohdhgpaaGreatDoor.Gk G p true=1:=(by rw[h.fE,if_pos hp]);simp_all
  |true=>
   have a:=h.fE (p:=p);rw[if_neg Ξ]at a;simp only[Bool.and_self,BW,ES];by_cases h0:DJ L p=0;have i:¬(DJ L p≠0):=Ω;rw[if_neg i]at a ⊢;by_cases l:(p.toList==[47])=true;simp_all;rw[if_neg l]at a ⊢;have f:Dc p≠[]:=(by grind [JN]);have d:=h.lk hp f;cases hat:Gr G (Dc p) with
   |none=>
    simp_all
   |some u=>
    rw[hat]at d;rw[d]at a ⊢;simp only[CO]at a ⊢;by_cases g:DP ρ u<0;simp_all;rw[if_neg g]at a ⊢;rw[a];have b:=h.fo hq;have m:¬((0:Int)≠0):=Θ;by_cases h1:DJ L q=0;have j:¬(DJ L q≠0):=Ω;rw[if_neg j]at b ⊢;by_cases c:(q.toList==[47])=true\/(GC L q).isSome=true;simp_all;rw[if_neg c]at b ⊢;rw[b,if_neg m];have e:Dc q≠[]:=(by grind [JN]);have aa:Gr G (Dc q)=none:=by
     cases ha:Gr G (Dc q) with
     |none=>rfl
     |some v=>exact absurd (.inr (by rw[h.lk hq e,ha];rfl)) c
    rw[h.fi hq e k];cases hm:JW G (Dc q).dropLast with
    |false=>simp
    |true=>
     simp_all[Bool.true_eq_false,DP]
    simp_all
   simp_all
theorem Gs.ev{a:LF}{c:VF}(h:Gs I a n r)(aa:(n,c)∈I):(∀x∈a,∃y∈I,y.1=x.1)/\(∀y∈I,∃x∈a,x.1=y.1):=by refine⟨λx b=>?_,λy hy=>?_⟩;rcases(h.2 x).1 b with rfl|⟨ab,_⟩;grind;grind;by_cases e:y.1=n;exact⟨_,(h.2 _).2 (.inl rfl),e.r⟩;exact⟨y,(h.2 y).2 Γ,rfl⟩
theorem Rl.g8(h:Rl G I C ρ L F)(t:Di q=true)(s:Dc q≠[])(v:Gr G (Dc q)=none)(w:DR G (Dc q)=0)(A:JW G (Dc q).dropLast=true)(k:(f,r)∈I){m:LF}(j:Gs I m f ⟨r.a,r.l,r.c,r.f+1⟩)(B:(m.map (·.1)).Nodup):
  Rl (G++[(Dc q,⟨none,f⟩)]) m C ρ (L++[(q,(ρ f:Int))]) F:=by
 obtain⟨i,u⟩:=j.ev k;have n:∀g:Nat,(L++[(q,(ρ f:Int))]).countP (DF (g))=L.countP (DF (g:Int))+if g = ρ f then 1 else 0:=λg=>by rw[AU,Bm];congr 1;unfold DF;by_cases e:g = ρ f;simp[e];have:¬((ρ f:Int)=(g)):=λe'=>e Ω;simp[e,this]
 refine⟨?_,h.dj t s v w _,?_,λx a J=>?_,λx a=>?_,λx a=>?_,?_,?_,h.sz⟩;rw[AE,h.b9];congr 1;show [(q,(ρ f:Int))]=[(jn (Dc q),DP ρ ⟨none,f⟩)];rw[<-(J8 t s).1];rfl;refine⟨B,λx a y l e=>?_,λx a=>?_,λx a=>?_,λg z p=>?_,λx a=>?_,λx a=>?_⟩;obtain⟨d,b,c⟩:=i x a;obtain⟨M,K,o⟩:=i y l;rw[<-c,<-o]at e ⊢;exact h.num.inj d b M K e;obtain⟨d,b,c⟩:=i x a;rw[<-c];exact h.num.lt d b;obtain⟨d,b,c⟩:=i x a;rw[<-c,n];have:=h.num.bq d b;omega;rw[n]at p;have:∃y∈I,ρ y.1=g:=by by_cases e:g = ρ f;grind;rw[if_neg e]at p;exact h.num.all g z Ω
 obtain⟨y,l,e⟩:=this;obtain⟨x,a,o⟩:=u y l;grind;rcases(j.2 x).1 a with rfl|⟨b,_⟩;have:=h.num.size _ k;omega;exact h.num.size x b;rw[n];rcases(j.2 x).1 a with rfl|⟨b,D⟩;have:=h.num.ae _ k;simp_all;have E:¬ ρ x.1 = ρ f:=λe=>D (h.num.inj x b _ k e);rw[if_neg E];exact h.num.ae x b;rcases Al.1 a with a|a;obtain⟨r',H⟩:=h.fl x a J;obtain⟨y,l,e⟩:=u _ H;grind;rw[Ax.1 a];exact⟨_,(j.2 _).2 (.inl rfl)⟩;obtain⟨d,b,c⟩:=i x a;rw[<-c];exact h.ck d b;obtain⟨d,b,c⟩:=i x a;rw[<-c];exact h.cf d b;unfold JW at A;grind;rw[j.1];exact h.lI
end
def KB(G:Gh)(ns:LY):Gh:=G.eraseP (λx=>decide (x.1=ns))
theorem RR(a:(G.map (·.1)).Nodup)(ns:LY):Mo G (KB G ns) ns:=by
 induction G with
 |nil=>intro x;simp[KB]
 |cons y G ih=>
  rw[A6,Cf]at a;intro x;unfold KB;by_cases hy:y.1=ns;grind;have:=ih a.2 x;unfold KB at this;grind
theorem Zfb(aa:(G.map (·.1)).Nodup)(h:(ns,u)∈G)(q:LY×VS->Bool):G.countP q=(KB G ns).countP q+if q (ns,u)=true then 1 else 0:=by
 induction G with
 |nil=>grind
 |cons y G ih=>
  unfold KB;by_cases hy:y.1=ns;grind;rcases AM.1 h with rfl|h;simp_all;grind [KB]
theorem Zih(d:Gp G)(ρ : Int->Nat)(f:GO ns):KE (G.map (vw ρ)) (jn ns)=(KB G ns).map (vw ρ):=by
 have h:∀(l:Gh),(∀x∈l,GO x.1)->(l.map (vw ρ)).eraseP (λy=>decide (y.1=jn ns))=(l.eraseP (λx=>decide (x.1=ns))).map (vw ρ):=by
  intro l
  induction l with
  |nil=>simp_all
  |cons y l ih=>
   intro c;have b:(vw ρ y).1=jn ns↔y.1=ns:=⟨λe=>OG (c y Θ) f e,λe=>by show jn y.1=_;rw[e]⟩;rw[A6];by_cases a:y.1=ns;rw[List.eraseP_cons_of_pos (by simpa using b.2 a),List.eraseP_cons_of_pos (by simpa using a)];rw[Ft (by simpa using λe=>a (b.1 e)),Ft (by simpa using a),A6,ih (λx g=>c x (by simp[g]))]
 exact h G d.az
theorem O5(G:Gh)(ns:LY):List.Sublist (KB G ns) G:=List.eraseP_sublist
theorem Gp.fw(h:Gp G)(g:(ns,u)∈G)(aa:u.p.isSome=true->G.countP (GH ns)=0):Gp (KB G ns):=by have b:=RR h.nd ns;refine⟨λx a=>h.az x ((b x).1 a).1,λx a=>h.ne x ((b x).1 a).1,λx a=>h.le x ((b x).1 a).1,List.Nodup.sublist ((O5 G ns).map _) h.nd,λf n v a=>?_⟩;have i:=((b _).1 a).1;rcases h.up f n v i with e|⟨j,d,c⟩;simp_all;refine .inr ⟨j,(b _).2 ⟨d,λe=>?_⟩,c⟩;subst e;rw[Kz h.nd d g]at c;grind [List.countP_eq_zero,GH]
section
variable{G:Gh}{I:LF}{C:IB}{ρ : Int->Nat}{L:List (By×Int)}{F:LY}
theorem Rl.ff(h:Rl G I C ρ L F)(p:By):I0 G p=(J9 L p).1/\(I0 G p≠0->(J9 L p).2=L)/\(I0 G p=0->∀u,Gr G (Dc p)=some u->(J9 L p).2=KE L p/\Di p=true/\Dc p≠[]/\(u.p.isSome=true->G.countP (GH (Dc p))=0)):=by
 unfold I0 Hk DA J9;rw[h.hs p];cases hp:Di p with
 |false=>simp
 |true=>
  simp only[BW,ES];by_cases h0:GJ G (Dw [] (Dc p))=0;have i:¬(GJ G (Dw [] (Dc p))≠0):=Ω;have m:¬((0)≠0):=Θ;simp only[if_neg i];by_cases a:Dc p=[];have d:=(JN hp).2 a;simp_all;have d:¬(p.toList==[47])=true:=λe=>a ((JN hp).1 e);obtain⟨ep,g⟩:=J8 hp a;have f:L.countP (DN p)=G.countP (GH (Dc p)):=by have:=h.cj g;grind
  rw[if_neg d,h.lk hp a];cases hat:Gr G (Dc p) with
  |none=>simp[a]
  |some u=>
   simp only[CO];have j:¬(Dc p≠[]/\(some u)=none):=λe=>by cases e.2
   simp only[if_neg j,if_neg m,if_neg a,f];have c:(DP ρ u<0/\0<G.countP (GH (Dc p)))↔(u.p.isSome=true/\0<G.countP (GH (Dc p))):=(by rw[QC]);by_cases b:u.p.isSome=true/\0<G.countP (GH (Dc p));rw[if_pos b,if_pos (c.2 b)];simp;rw[if_neg b,if_neg (λe=>b (c.1 e))];refine⟨rfl,Θ,λ_ v l=>⟨rfl,trivial,a,λk=>?_⟩⟩;cases l;rcases Bn (G.countP (GH (Dc p))) with e|e;exact e;exact absurd ⟨k,e⟩ b
  simp_all
theorem Rl.gr(h:Rl G I C ρ L F)(j:Di p=true)(i:Dc p≠[])(d:Gr G (Dc p)=some u)(k:u.p.isSome=true)(c:G.countP (GH (Dc p))=0):Rl (KB G (Dc p)) I C ρ (KE L p) F:=by
 obtain⟨ep,g⟩:=J8 j i;have b:=JZ d;have e:=RR h.ok.nd (Dc p);have a:KE L p=(KB G (Dc p)).map (vw ρ):=by
  rw[h.b9]
  conv=>lhs;rw[ep]
  exact Zih h.ok ρ g
 refine⟨a,h.ok.fw b (λ_=>c),h.num.dm (λf=>?_),λx l m=>h.fl x ((e x).1 l).1 m,h.ck,h.cf,Ae (O5 G _).length_le h.lG,h.lI,h.sz⟩;rw[a,h.b9,BJ,BJ,Zfb h.ok.nd b];have:¬((DF (f)) ∘ vw ρ) (Dc p,u)=true:=by show ¬(DP ρ u==(f))=true;have:=(QC ρ u).2 k;grind
 grind
theorem Rl.fx(h:Rl G I C ρ L F)(X:Di p=true)(W:Dc p≠[])(P:Gr G (Dc p)=some u)(Y:u.p=none)(k:(u.f,r)∈I){n:LF}(Q:(r.f=1/\Vf I n u.f)\/(r.f≠1/\Gs I n u.f ⟨r.a,r.l,r.c,r.f-1⟩))(D:(n.map (·.1)).Nodup):
  Rl (KB G (Dc p)) n C ρ (KE L p) F:=by
 obtain⟨ep,V⟩:=J8 X W;have A:=JZ P;have B:=RR h.ok.nd (Dc p);have s:KE L p=(KB G (Dc p)).map (vw ρ):=by
  rw[h.b9]
  conv=>lhs;rw[ep]
  exact Zih h.ok ρ V
 have o:∀g:Nat,L.countP (DF (g))=(KE L p).countP (DF (g))+if g = ρ u.f then 1 else 0:=λg=>by
  rw[s,h.b9,BJ,BJ,Zfb h.ok.nd A];congr 1;have e:DP ρ u=(ρ u.f):=by grind [DP]
  have:(((DF (g)) ∘ vw ρ) (Dc p,u)=true)↔g = ρ u.f:=by show(DP ρ u==(g))=true↔_;grind
  grind
 have S:=h.num.ae _ k;have U:=h.num.bq _ k;simp only at S U;have R:=o (ρ u.f);rw[if_pos rfl]at R;have H:=h.ok.fw A (λJ=>by rw[Y]at J;cases J);have E:∀x∈I,x.1≠u.f -> ρ x.1≠ρ u.f:=λx a d e=>d (h.num.inj x a _ k e);rcases Q with⟨O,c⟩|⟨O,l⟩;refine⟨s,H,⟨D,λx a y i e=>?_,λx a=>?_,λx a=>?_,λg t T=>?_,λx a=>?_,λx a=>?_⟩,λx a z=>?_,λx a=>?_,λx a=>?_,Ae (O5 G _).length_le h.lG,?_,h.sz⟩;exact h.num.inj x ((c.2 x).1 a).1 y ((c.2 y).1 i).1 e;exact h.num.lt x ((c.2 x).1 a).1;obtain⟨b,d⟩:=(c.2 x).1 a;have:=h.num.bq x b;grind;have v:0<L.countP (DF (g)):=Γ;obtain⟨x,a,e⟩:=h.num.all g t v;refine⟨x,(c.2 x).2 ⟨a,λf=>?_⟩,e⟩;grind;exact h.num.size x ((c.2 x).1 a).1;obtain⟨b,d⟩:=(c.2 x).1 a;have:=h.num.ae x b;grind;obtain⟨d,aa⟩:=(B x).1 a;obtain⟨M,w⟩:=h.fl x d z;refine⟨M,(c.2 _).2 ⟨w,λe=>?_⟩⟩;grind [KE,DF,List.countP_pos_iff,vw,List.mem_map_of_mem,DP];exact h.ck x ((c.2 x).1 a).1;exact h.cf x ((c.2 x).1 a).1;have:=c.1;have:=h.lI;omega;obtain⟨m,K⟩:=l.ev k;refine⟨s,H,⟨D,λx a y i e=>?_,λx a=>?_,λx a=>?_,λg t T=>?_,λx a=>?_,λx a=>?_⟩,λx a z=>?_,λx a=>?_,λx a=>?_,Ae (O5 G _).length_le h.lG,by rw[l.1];exact h.lI,h.sz⟩;obtain⟨j,b,f⟩:=m x a;obtain⟨y',Z,q⟩:=m y i;rw[<-f,<-q]at e ⊢;exact h.num.inj j b y' Z e;obtain⟨j,b,f⟩:=m x a;rw[<-f];exact h.num.lt j b;rcases(l.2 x).1 a with rfl|⟨b,d⟩;grind;have:=h.num.bq x b;rw[o,if_neg (E x b d)]at this;exact this;have v:0<L.countP (DF (g)):=by rw[o];omega
 obtain⟨y,i,e⟩:=h.num.all g t v;obtain⟨x,a,q⟩:=K y i;exact⟨x,a,by rw[q];exact e⟩;rcases(l.2 x).1 a with rfl|⟨b,_⟩;have:=h.num.size _ k;exact this;exact h.num.size x b;rcases(l.2 x).1 a with rfl|⟨b,d⟩;simp only;omega;have:=h.num.ae x b;rw[o,if_neg (E x b d)]at this;exact this;obtain⟨M,w⟩:=h.fl x ((B x).1 a).1 z;obtain⟨y,i,e⟩:=K _ w;exact⟨y.2,by have N:y.1=x.2.f:=e;rw[<-N];exact i⟩;obtain⟨j,b,f⟩:=m x a;rw[<-f];exact h.ck j b;obtain⟨j,b,f⟩:=m x a;rw[<-f];exact h.cf j b
end
theorem Zpm{x:LY}(_hx:GO x)(_ha:GO a):LT (jn x) (jn a)=Jh (jn x) (jn a):=by rw[Em];unfold LT Lib.hasPrefix Jh;rw[Ci,Ew,Ki,Ki];simp only[AQ,An,ET];rw[BR,Zea,QU,Ki,Qy,Qy,F0];constructor;rintro⟨t,e⟩;grind;rintro⟨⟨h1,h2⟩,b⟩;obtain⟨hl,e⟩:=Ac.1 b;refine⟨(jl x).drop ((jl a).length+1),?_⟩;grind [List.take_append_drop,jl,List.drop_eq_getElem_cons]
theorem mv_vw(d:GO a)(ρ : Int->Nat){x:LY×VS}(g:GO x.1):mv (jn a) (jn t) (vw ρ x)=vw ρ (Ld a t x.1,x.2):=by
 unfold mv;by_cases c:a <+: x.1;obtain⟨r,i⟩:=c;have f:(Jh (vw ρ x).1 (jn a) || decide ((vw ρ x).1=jn a))=true:=by rw[CE];by_cases h:r=[];right;rw[An];show jn x.1=jn a;simp_all;left;exact(RH g d).2 ⟨r,h,i.r⟩
 rw[if_pos f];show(jn t++(jn x.1).extract (jn a).size (jn x.1).size,DP ρ x.2)=(jn (Ld a t x.1),DP ρ x.2);grind [J0,Zo3,Qa,QD,Ki,K6,Qy];have f:¬(Jh (vw ρ x).1 (jn a) || decide ((vw ρ x).1=jn a))=true:=by rw[CE];rintro(b|b);obtain⟨r,_,e⟩:=(RH g d).1 b;exact c ⟨r,e.r⟩;rw[An]at b;have:=OG g d b;exact c (by rw[this];exact List.prefix_refl _)
 rw[if_neg f,JF c]
theorem ZtW(d:Gp G)(ρ : Int->Nat)(f:GO a)(k:a≠[])(l:GO t)(m:t≠[]):(G.map (vw ρ)).any (Kt (jn a) (jn t))=JJ G a t.length:=by
 unfold JJ;have aa:∀x∈G,(Kt (jn a) (jn t) ∘ vw ρ) x=true↔(qB a x && decide (6<x.1.length-a.length+t.length))=true:=by
  intro x g;show Kt (jn a) (jn t) (vw ρ x)=true↔_;unfold Kt;have h:=d.az x g;have n:=d.ne x g;rw[AQ,AQ,An,An];have i:Dc (vw ρ x).1=x.1:=UV h n;have j:Jh (vw ρ x).1 (jn a)=true↔qB a x=true:=by
   show Jh (jn x.1) (jn a)=true↔_;rw[RH h f];unfold qB;rw[An];constructor;rintro⟨r,hr,e⟩;rw[e];cases r with
   |nil=>simp_all
   |cons c r=>simp
   rintro⟨hl,r,e⟩;grind
  rw[j,i,UV f k,UV l m];constructor;grind;rintro⟨b,h2⟩;refine⟨b,?_⟩;unfold qB at b;grind
 grind
section
variable{G:Gh}{I:LF}{C:IB}{ρ : Int->Nat}{L:List (By×Int)}{F:LY}
theorem ZpK(b:Gp G)(d:(a,u)∈G)(m:Nat):(u.p.isSome && JJ G a m)=JJ G a m:=by
 cases hp:u.p with
 |some x=>simp
 |none=>
  simp only[Option.isSome_none,Bool.false_and];symm;rw[<-FM];unfold JJ;rw[EB];rintro⟨x,g,c⟩;rw[AQ]at c;obtain⟨v,f,e⟩:=b.d4 g (b.ne _ d) c.1;rw[Kz b.nd f d,hp]at e;grind
theorem Rl.hb(h:Rl G I C ρ L F)(p q:By):Ie G p q=(J4 L p q).1/\(Ie G p q≠0->(J4 L p q).2=L)/\
  (Ie G p q=0->∃u,Ii G (Dc p) (Dc q) u/\(J4 L p q).2=L.map (mv p q)/\Di p=true/\Di q=true/\Dc p≠[]/\Dc q≠[]):=by
 unfold Ie J4 DA;cases hq:Di q with
 |false=>simp
 |true=>
  cases hp:Di p with
  |false=>simp
  |true=>
   have R:=h.ah hp;simp only[Bool.and_self,BW,ES];rw[R];by_cases h0:GJ G (Dw [] (Dc p))=0;have A:¬(GJ G (Dw [] (Dc p))≠0):=Ω;rw[if_neg A,if_neg A];by_cases a:Dc p=[];rw[if_pos a,if_pos ((JN hp).2 a)];simp;have B:¬(p.toList==[47])=true:=(by grind [JN]);rw[if_neg a,if_neg B,h.lk hp a];obtain⟨ep,y⟩:=J8 hp a;cases hat:Gr G (Dc p) with
   |none=>simp
   |some u=>
    simp only[CO];have g:=JZ hat;have D:∀{x:By},Di x=true->Dc x=[]->LT x p=false/\Jh x p=false:=by
     intro x H ao;have an:x.toList=[47]:=(by grind [JN]);have ah:x.data.toList=[47]:=(by grind [ByteArray.toList_eq]);have ap:x.size=1:=(by have:x.data.toList.length=x.size:=AF;grind);have al:2<=p.size:=by
      rw[ep,Qy];cases hnp:Dc p with
      |nil=>grind
      |cons c l=>
       rw[Jo];have f:=Vv (y c Γ);grind [List.length_pos_iff,List.length_append,List.length_cons]
     refine⟨?_,?_⟩;rw[<-FM];unfold LT Lib.hasPrefix;rw[F0,ah,Ci,Ew];intro k;have:=k.length_le;have ak:p.data.toList.length=p.size:=AF;grind;grind [Jh]
    have X:LT q p=Jh q p:=(by by_cases b:Dc q=[];rw[(D hq b).1,(D hq b).2];grind [J8,Zpm]);have Y:(DP ρ u<0/\Jh q p=true)↔(u.p.isSome=true/\LT q p=true):=(by rw[QC,X]);by_cases w:u.p.isSome=true/\LT q p=true;grind;rw[if_neg w,if_neg (λe=>w (Y.1 e))];have d:=h.fo hq;by_cases f:DJ L q=0;have ab:¬(DJ L q≠0):=Ω;rw[if_neg ab]at d ⊢;by_cases i:(q.toList==[47])=true\/(GC L q).isSome=true;rw[if_pos i]at d ⊢;rw[d];simp;rw[if_neg i]at d ⊢;rw[d,if_neg Ω];have b:Dc q≠[]:=(by grind [JN]);have S:Gr G (Dc q)=none:=by
     cases ha:Gr G (Dc q) with
     |none=>rfl
     |some v=>exact absurd (.inr (by rw[h.lk hq b,ha];rfl)) i
    obtain⟨Q,z⟩:=J8 hq b;obtain⟨M,N⟩:=VW hp a;obtain⟨O,t⟩:=VW hq b;have aa:(((DX p).toList != (DX q).toList)=true/\20<=L.countP (DN (DX q)))↔(decide ((Dc q).dropLast≠(Dc p).dropLast) && decide (20<=G.countP (GH (Dc q).dropLast)))=true:=(by rw[M,O,h.cj t,QU,QU,AQ,An,An,EC];constructor;grind;rintro⟨J,K⟩;exact⟨λe=>J (RU _ _ N.cv t.cv e).r,K⟩);have T:L.any (Kt p q)=JJ G (Dc p) (Dc q).length:=by
     rw[h.b9]
     conv=>lhs;rw[ep,Q]
     exact ZtW h.ok ρ y a z b
    rw[ZpK h.ok g,T];by_cases U:(decide ((Dc q).dropLast≠(Dc p).dropLast) && decide (20<=G.countP (GH (Dc q).dropLast)))=true;grind;rw[if_neg (λe=>U (aa.1 e))];have V:(decide ((Dc q).dropLast≠(Dc p).dropLast) && decide (20<=G.countP (GH (Dc q).dropLast)))=false:=Γ;rw[V,No];by_cases j:JJ G (Dc p) (Dc q).length=true;grind;rw[if_neg j,if_neg j];refine⟨rfl,Θ,λ_=>⟨u,?_,rfl,trivial,trivial,a,b⟩⟩;have ai:GJ G (Dw [] (Dc q))=0:=(by rw[<-h.ah hq];omega);have E:∀ds n,Dc q=ds++[n]->ds=[]\/∃v,(ds,v)∈G/\v.p.isSome=true:=(by grind [TA]);have W:=Ux S;refine⟨h.ok,g,W,λk=>?_,z,b,QA hq,E,λx H am=>?_⟩;have aj:Dc p≠Dc q:=Γ;obtain⟨r,B⟩:=k;have ae:r≠[]:=Γ;cases hpu:u.p with
    |some a0=>
     grind [RH]
    |none=>
     obtain⟨s,m,e⟩:=Uk ae;have ac:Dc q=(Dc p++s)++[m]:=Γ;rcases E _ _ ac with P|⟨v,o,hs⟩;simp at P;grind;by_cases ad:s=[];rw[ad,Ca]at o;rw[Kz h.ok.nd o g,hpu]at hs;grind;obtain⟨v2,ag,af⟩:=h.ok.d4 o a (by
      unfold qB;rw[An];refine⟨?_,Γ⟩;cases s with
      |nil=>grind
      |cons c l=>simp)
     rw[Kz h.ok.nd ag g,hpu]at af;grind
    by_cases hl:(Dc p).length<x.1.length;apply Nat.le_of_not_lt;intro Z;apply j;unfold JJ;rw[EB];refine⟨x,H,?_⟩;rw[AQ,An];refine⟨?_,Z⟩;unfold qB;grind;grind [QA];rw[if_pos f]at d;rw[d,if_pos f,if_pos f];exact⟨rfl,λ_=>rfl,λe=>absurd e f⟩
   simp_all
theorem Rl.ee(h:Rl G I C ρ L F)(d:Ii G (Dc p) (Dc q) u)(i:Di p=true)(j:Di q=true)(g:Dc p≠[])(k:Dc q≠[]):Rl (Le G (Dc p) (Dc q)) I C ρ (L.map (mv p q)) F:=by
 obtain⟨ep,e⟩:=J8 i g;obtain⟨c,aa⟩:=J8 j k;have b:L.map (mv p q)=(Le G (Dc p) (Dc q)).map (vw ρ):=by
  rw[h.b9];unfold Le;rw[BP,BP];refine Ch (λx a=>?_)
  conv=>lhs;rw[ep,c]
  exact mv_vw e ρ (h.ok.az x a)
 refine⟨b,d.ij,h.num.dm (λf=>?_),λx a l=>?_,h.ck,h.cf,by unfold Le;rw[AT];exact h.lG,h.lI,h.sz⟩;rw[b,h.b9];unfold Le;rw[BP,BJ,BJ];rfl;obtain⟨y,m,rfl⟩:=AB.1 a;exact h.fl y m l
end
theorem We{α : Type}:∀(J K:List α),J.Nodup->(∀x∈J,x∈K)->K.length<=J.length->List.Perm J K
 |[],K,_,_,hl=>by simp_all
 |a::J,K,hnd,hs,hl=>by rw[Cf]at hnd;obtain⟨s,t,rfl⟩:=Eb (hs a Θ);have ih:=We J (s++t) hnd.2 (λx b=>by have:=hs x (by simp[b]);rcases Al.1 this with h|h;exact Ba _ h;rcases AM.1 h with rfl|h;exact absurd b hnd.1;exact Cg _ h) (by simp at hl ⊢;omega);exact(ih.cons a).M List.perm_middle.symm
theorem Gs.nd{a:LF}{d:VF}(h:Gs I a n r)(aa:(I.map (·.1)).Nodup)(_hin:(n,d)∈I):(a.map (·.1)).Nodup:=by have b:((I.map (λx=>if x.1=n then(n,r) else x)).map (·.1)).Nodup:=Γ;have hp:=We _ a (Vd b) (λx c=>by obtain⟨y,hy,rfl⟩:=AB.1 c;by_cases e:y.1=n;rw[if_pos e];exact(h.2 _).2 (.inl rfl);exact(h.2 _).2 Γ) (by rw[AT,h.1];omega);grind
theorem P4(I:LF):DL (I.map (·.2.l))=Mg I:=by unfold DL Mg;rw[BP];rfl
section
variable{G:Gh}{I:LF}{C:IB}{ρ : Int->Nat}{L:List (By×Int)}{F:LY}
theorem Rl.i7(h:Rl G I C ρ L F)(b:Bool):Gk G p b=(if Di p=false then 1 else if b=false then 2 else if DJ L p≠0 then DJ L p else if (p.toList==[47])=true then 5 else match GC L p with|none=>3|some f=>if f<0 then 5 else 0):=by
 cases b with
 |true=>
  rw[h.fE];rfl
 |false=>
  grind [Go.Proofs.YtaieidcohdhgpaaGreatDoor.Gk,DA,Di]
theorem Rl.ft(h:Rl G I C ρ L F){b:Bool}(l:Gk G p b=0)(d:Gr G (Dc p)=some u)(k:u.p=none):b=true/\Di p=true/\Dc p≠[]/\DJ L p=0/\GC L p=some (ρ u.f:Int)/\F[ρ u.f]?=some (C u.f):=by
 have f:=O4 l;subst f;have g:=h.fE (p:=p);cases hp:Di p with
 |false=>simp_all
 |true=>
  by_cases c:DJ L p=0;have i:¬(DJ L p≠0):=Ω;rw[if_neg i]at g;by_cases hr:(p.toList==[47])=true;simp_all;have a:Dc p≠[]:=by grind [JN]
  have aa:=h.lk hp a;have e:DP ρ u=(ρ u.f:Int):=by grind [DP]
  obtain⟨r,j⟩:=h.fl _ (JZ d) k;exact⟨rfl,rfl,a,c,Γ,h.ck _ j⟩;omega
theorem Rl.h6(h:Rl G I C ρ L F)(p:By)(i n:Int):Lj G p i n=(JL L F p i n).2/\(Lj G p i n≠0->(JL L F p i n).1=⟨#[]⟩)/\(Lj G p i n=0->∀u,Gr G (Dc p)=some u->u.p=none->(JL L F p i n).1=Uo (C u.f) i n):=by
 have hf:=h.i7 (p:=p) (decide (0<=i/\0<=n));have a:Lj G p i n=(JL L F p i n).2/\(Lj G p i n≠0->(JL L F p i n).1=⟨#[]⟩):=by unfold Lj JL;grind
 refine⟨a.1,a.2,λd u b c=>?_⟩;obtain⟨hb,hp,hn,h0,aa,hF⟩:=h.ft d b c;simp_all[of_decide_eq_true,JL,if_neg,T1]
theorem Rl.fq(h:Rl G I C ρ L F)(j:(f,r)∈I){n:LF}{a:OA}(l:Gs I n f ⟨a,s.size,c,r.f⟩):Hh n ρ L (F.set (ρ f) s):=by obtain⟨m,k2⟩:=l.ev j;have aa:=h.num.lt _ j;refine⟨l.nd h.num.nd j,λx d y p e=>?_,λx d=>?_,λx d=>?_,λg o t=>?_,λx d=>?_,λx d=>?_⟩;obtain⟨k,b,i⟩:=m x d;obtain⟨z,w,q⟩:=m y p;rw[<-i,<-q]at e ⊢;exact h.num.inj k b z w e;obtain⟨k,b,i⟩:=m x d;rw[<-i,B9];exact h.num.lt k b;obtain⟨k,b,i⟩:=m x d;rw[<-i];exact h.num.bq k b;rw[B9]at o;obtain⟨y,p,e⟩:=h.num.all g o t;grind;rcases(l.2 x).1 d with rfl|⟨b,u⟩;simp_all;have v : ρ f≠ρ x.1:=λe=>u (h.num.inj x b _ j e.r);rw[A3 v];exact h.num.size x b;rcases(l.2 x).1 d with rfl|⟨b,_⟩;have:=h.num.ae _ j;omega;exact h.num.ae x b
theorem Rl.ew(h:Rl G I C ρ L F)(d:(f,r)∈I){l:LF}{a:OA}(hs:s.size<=1280)(g:Gs I l f ⟨a,s.size,c,r.f⟩):Rl G l (λk=>if k=f then s else C k) ρ L (F.set (ρ f) s):=by obtain⟨q,k2⟩:=g.ev d;have aa:=h.num.lt _ d;refine⟨h.b9,h.ok,h.fq d g,λx b p=>?_,λx b=>?_,λx b=>?_,h.lG,by rw[g.1];exact h.lI,λt j=>?_⟩;obtain⟨r',ab⟩:=h.fl x b p;grind;rcases(g.2 x).1 b with rfl|⟨i,m⟩;simp_all;have o : ρ f≠ρ x.1:=λe=>m (h.num.inj x i _ d e.r);rw[A3 o];rw[if_neg m];exact h.ck x i;obtain⟨u,i,n⟩:=q x b;rw[<-n];exact h.cf u i;rcases EY j with j|rfl;exact h.sz t j;omega
theorem Rl.dn(h:Rl G I C ρ L F){c:LF}(j:c.length=I.length)(b:∀x,x∈c↔x∈I)(l:(c.map (·.1)).Nodup){d:IB}(f:∀x∈I,d x.1=C x.1):Rl G c d ρ L F:=
 ⟨h.b9,h.ok,⟨l,λx a y n=>h.num.inj x ((b x).1 a) y ((b y).1 n),λx a=>h.num.lt x ((b x).1 a),λx a=>h.num.bq x ((b x).1 a),λg i k=>let ⟨x,a,e⟩:=h.num.all g i k;by grind,λx a=>h.num.size x ((b x).1 a),λx a=>h.num.ae x ((b x).1 a)⟩,
  λx a m=>let ⟨r,hr⟩:=h.fl x a m;by grind,λx a=>by rw[f x ((b x).1 a)];exact h.ck x ((b x).1 a),λx a=>h.cf x ((b x).1 a),h.lG,by rw[j];exact h.lI,h.sz⟩
theorem Rl.ia(h:Rl G I C ρ L F)(p:By)(n:Int):(MK G p n≠0->MK G p n=(JI L F p n).1/\(JI L F p n).2=F)/\
  (MK G p n=0->∀u,Gr G (Dc p)=some u->u.p=none->JI L F p n=if 160<JM L (F.set (ρ u.f) (Dg (C u.f) n.toNat)) then(9,F) else(0,F.set (ρ u.f) (Dg (C u.f) n.toNat))):=by
 refine⟨λb=>?_,λd u a c=>?_⟩;have hf:=h.i7 (p:=p) (decide (0<=n/\n<=1280));unfold MK at b ⊢;unfold JI;grind;obtain⟨hb,hp,hn,h0,aa,hF⟩:=h.ft d a c;simp_all[of_decide_eq_true,JI,if_neg,T1]
end
section
variable{G:Gh}{I:LF}{C:IB}{ρ : Int->Nat}{L:List (By×Int)}{F:LY}
theorem Rl.gb(h:Rl G I C ρ L F):∀x∈L,x.2<F.length:=λx a=>by rw[h.b9]at a;obtain⟨y,c,rfl⟩:=AB.1 a;show DP ρ y.2<_;unfold DP;by_cases hp:y.2.p.isSome=true;grind;obtain⟨r,b⟩:=h.fl y c Ξ;have:=h.num.lt _ b;simp_all
theorem Xy{f:Nat}(hF:F[f]?=some s)(i:Int)(d:By):Ko F f i.toNat d=F.set f (Il s i d):=by unfold Ko Il;by_cases h0:d.size=0;simp_all[YQ];simp_all
theorem Zs4(F:LY)(i:Int)(d:By):Ko (F++[⟨#[]⟩]) F.length i.toNat d=F++[Il ⟨#[]⟩ i d]:=by simp_all[Xy,List.set_append_right]
theorem Rl.ga(h:Rl G I C ρ L F)(p:By)(i:Int)(d:By):
  (IC G I p i d≠0->IC G I p i d=(DT L F p i d).1/\(DT L F p i d).2=(L,F))/\
  (IC G I p i d=0->(∀u,Gr G (Dc p)=some u->u.p=none->DT L F p i d=Qb L F L (F.set (ρ u.f) (Il (C u.f) i d)))/\
   (Gr G (Dc p)=none->DT L F p i d=Qb L F (L++[(p,(F.length:Int))]) (F++[Il ⟨#[]⟩ i d])/\Di p=true/\Dc p≠[]/\DR G (Dc p)=0/\Je G I (Dc p).dropLast=true)):=by
 unfold IC DA DT;cases hp:Di p with
 |false=>simp
 |true=>
  have k:=h.ah hp;by_cases m:i<0\/1280<i\/1280<i+(d.size);have g:QR i d=false:=Cd Ω;simp_all;have g:QR i d=true:=CM Ω;rw[g,if_neg m,k];simp only[BW,ES];by_cases h0:GJ G (Dw [] (Dc p))=0;have c:¬(GJ G (Dw [] (Dc p))≠0):=Ω;rw[if_neg c,if_neg c];by_cases a:Dc p=[];rw[if_pos a,if_pos ((JN hp).2 a)];simp;have o:¬(p.toList==[47])=true:=λe=>a ((JN hp).1 e);rw[if_neg a,if_neg o,h.lk hp a];cases hat:Gr G (Dc p) with
  |none=>
   simp only[Option.map_none];rw[h.fj hp a];have l:DR G (Dc p)=0:=(by simp_all[DR]);cases hm:Je G I (Dc p).dropLast with
   |false=>simp
   |true=>
    simp only[BW,ES];refine⟨λe=>absurd rfl e,λ_=>⟨λu b=>(by cases b),λ_=>⟨?_,trivial,a,l,trivial⟩⟩⟩;rw[Zs4]
  |some u=>
   simp only[CO];by_cases b:u.p.isSome=true;simp_all[QC];rw[if_neg b,if_neg (λe=>b ((QC ρ u).1 e))];refine⟨λe=>absurd rfl e,λ_=>⟨λv q f=>?_,λe=>(by cases e)⟩⟩;cases q;have e:DP ρ u=(ρ u.f):=(by unfold DP;rw[f];rfl);obtain⟨r,n⟩:=h.fl _ (JZ hat) f;have j:=h.ck _ n;rw[e,Bf,Xy j]
  simp_all
theorem Ztl{a:LF}(aa:(I.map (·.1)).Nodup)(hf:∀x∈I,x.1≠f)(hl:a.length=I.length+1)(c:∀x,x∈a↔x=(f,r)\/x∈I):(a.map (·.1)).Nodup:=by
 have b:(((f,r)::I).map (·.1)).Nodup:=by grind
 have d:=We _ a (Vd b) (λx e=>(c x).2 (by simpa using e)) (by simp;omega);exact(d.map _).nodup b
theorem Rl.er(h:Rl G I C ρ L F)(R:Di p=true)(O:Dc p≠[])(E:Gr G (Dc p)=none)(J:DR G (Dc p)=0)(N:Je G I (Dc p).dropLast=true){f:Nat}(H:∀x∈I,x.1≠(f:Int)){m q:LF}(z:m.length=I.length+1)(B:∀x,x∈m↔x=((f:Int),⟨none,0,0,1⟩)\/x∈I){a:OA}(hs:s.size<=1280)(v:Gs m q f ⟨a,s.size,c,1⟩){o:IB}(aa:o f=s)(D:∀x∈I,o x.1=C x.1):
  Rl (G++[(Dc p,⟨none,(f:Int)⟩)]) q o (λk=>if k=(f:Int) then F.length else ρ k) (L++[(p,(F.length:Int))]) (F++[s]):=by
 have P:=Ztl h.num.nd H z B;have M:((f:Int),(⟨none,0,0,1⟩))∈m:=Γ;have Q:=v.nd P M;have i:∀x,x∈q↔x=((f:Int),⟨a,s.size,c,1⟩)\/x∈I:=λx=>by rw[v.2 x,B x];grind
 have hρ : ∀x∈I,(if x.1=(f) then F.length else ρ x.1) = ρ x.1:=Γ;have u:∀g:Nat,(L++[(p,(F.length:Int))]).countP (DF (g))=L.countP (DF (g:Int))+if g=F.length then 1 else 0:=λg=>by rw[AU,Bm];congr 1;unfold DF;by_cases e:g=F.length;simp[e];have:¬((F.length:Int)=(g)):=λe'=>e Ω;simp[e,this]
 have ac:L.countP (DF (F.length))=0:=by rw[C5];intro x d;have:=h.gb x d;grind [DF]
 have ab:=Bd N;refine⟨?_,h.dj R O E J _,⟨Q,λx d y w e=>?_,λx d=>?_,λx d=>?_,λg K A=>?_,λx d=>?_,λx d=>?_⟩,λx d j=>?_,λx d=>?_,λx d=>?_,Γ,by rw[v.1,z];omega,λt n=>?_⟩;rw[AE,h.b9];congr 1;refine Ch (λx d=>?_);show(jn x.1,DP ρ x.2)=(jn x.1,DP _ x.2);congr 1;unfold DP;by_cases j:x.2.p.isSome=true;rw[if_pos j,if_pos j];rw[if_neg j,if_neg j];obtain⟨r,S⟩:=h.fl x d Ξ;grind;show [(p,(F.length:Int))]=[(jn (Dc p),DP _ ⟨none,(f)⟩)];grind [J8,DP]
 .rcases(i x).1 d with rfl|b;rcases(i y).1 w with rfl|l;rfl;simp only[FD]at e;rw[hρ y l]at e;have:=h.num.lt y l;omega
  .rcases(i y).1 w with rfl|l;simp only[FD]at e;rw[hρ x b]at e;have:=h.num.lt x b;omega
   ·(try simp only at e)
    rw[hρ x b,hρ y l]at e;exact h.num.inj x b y l e
 .rw[Ah];rcases(i x).1 d with rfl|b;simp
  ·(try simp only)
   rw[hρ x b];have:=h.num.lt x b;omega
 .rw[u];rcases(i x).1 d with rfl|b;simp
  ·(try simp only)
   rw[hρ x b];have:=h.num.bq x b;omega
 rw[Ah,BA]at K;rw[u]at A;by_cases e:g=F.length;exact⟨_,(i _).2 (.inl rfl),Γ⟩;rw[if_neg e]at A;obtain⟨y,w,e2⟩:=h.num.all g Ω Ω;grind
 .rcases(i x).1 d with rfl|b;simp
  ·(try simp only)
   rw[hρ x b,Ap (h.num.lt x b)];exact h.num.size x b
 .rw[u];rcases(i x).1 d with rfl|b;grind
  ·(try simp only)
   rw[hρ x b];have h1:=h.num.ae x b;have h2:=h.num.lt x b;rw[if_neg Ω];omega
 rcases Al.1 d with d|d;obtain⟨r,S⟩:=h.fl x d j;grind;simp_all
 .rcases(i x).1 d with rfl|b;grind
  ·(try simp only)
   rw[hρ x b,Ap (h.num.lt x b),D x b];exact h.ck x b
 rcases(i x).1 d with rfl|b;simp;exact h.cf x b;rcases Al.1 n with n|n;exact h.sz t n;simp_all
theorem Rl.h3(h:Rl G I C ρ L F)(p:By):Hk G p=(J6 L F p).2/\(Hk G p≠0->(J6 L F p).1=Qz)/\
  (Hk G p=0->∀v,((Dc p=[]/\v=LW ⟨#[]⟩ (G.countP (GH [])))\/∃a n u,Dc p=a++[n]/\Gr G (Dc p)=some u/\QP G I (Dc p) n u v)->(J6 L F p).1=v):=by
 unfold Hk DA J6;rw[h.hs p];cases hp:Di p with
 |false=>simp
 |true=>
  simp only[BW,ES];by_cases h0:GJ G (Dw [] (Dc p))=0;have j:¬(GJ G (Dw [] (Dc p))≠0):=Ω;rw[if_neg j,if_neg j];by_cases b:Dc p=[];have c:=(JN hp).2 b;rw[if_pos c,if_neg Γ];refine⟨rfl,Ω,λ_ v d=>?_⟩;rcases d with⟨_,rfl⟩|⟨a,n,u,e,_⟩;have:=h.cj (ns:=[]) (λn b=>Γ);show Value.agg #[dU ⟨#[]⟩,dV true,dI (L.countP (DN ⟨#[]⟩)),dI 1]=_;have f:jn []=⟨#[]⟩:=rfl;rw[f]at this;rw[this];rfl;simp_all;have c:¬(p.toList==[47])=true:=by grind [JN]
  rw[if_neg c,h.lk hp b];obtain⟨ep,g⟩:=J8 hp b;cases hat:Gr G (Dc p) with
  |none=>
   grind
  |some u=>
   rw[if_neg Γ];simp only[CO];refine⟨Θ,Ω,λ_ v d=>?_⟩;rcases d with⟨e,_⟩|⟨a,n,u',e,s,q⟩;grind;cases s;have o:Q2 p=n:=(by have i:=g;rw[e]at i;have:=Z9 a n (QT (i n Θ));grind);have m:L.countP (DN p)=G.countP (GH (Dc p)):=(by have:=h.cj g;grind);unfold Ql;simp only;rw[o];rcases q with⟨l,rfl⟩|⟨l,r,k,rfl⟩;rw[if_pos ((QC ρ u).2 l),m];rfl;have f:DP ρ u=(ρ u.f):=(by grind [DP]);have h1:=h.num.size _ k;have h2:=h.num.ae _ k;grind [Mm,Int.toNat_natCast]
  simp_all
end
theorem MI:(prog.info? 350).map (λi=>(i.zero,i.size,i.bytes))=some (some (.agg #[.int .u64 0,dI 0]),2,16):=Φ
theorem PM:(prog.info? 350).map (λi=>i.size)=some 2:=Φ
theorem ZtG(w:World)(v:Value)(n:Nat)(d:Gf)(vb:Nat)(a:Gf)(f:Sl w 350 2 v n d)(hn:n<=10000)(p:Gb w vb 350 a)(ab:a.length=2)(l:∀u∈a,u.oneCell'=true):
  Cl 274 #[v,dI n,dS vb 1 1] w λe w'=>∃c,e=dR c/\Sl w' 350 2 c (n+1) (d++a)/\w.grownBy w' v.ownBlock/\Dm w v c:=by
 obtain⟨x,o,r,s,t⟩:=Bk MI;have k:=λty=>J1 w 170 ty 350 x _ 2 16 underlying170 o r s t rfl Δ v n d f _ 1 1 a Ω
  (λj u hu=>by rw[AG,Av,p.J];omega) l (by grind [maxLen]) Ω
 obtain⟨c,w',i,hS,hg,aa⟩:=k 170;have q:(v=dN/\n=0)\/∃g b,v=dS g n b/\n<=b:=by rcases f.2 with h|⟨g,b,L,h,_,m,_⟩;simp_all;grind
 clear k;rcases q with⟨rfl,rfl⟩|⟨g,b,rfl,m⟩
 .go_enter func274,ntmps274;go_wp2_with(at_builtin;refine Aq _ rfl _ _ 170 170 rfl _ _ rfl rfl _ _ i ?_);go_ret;simp_all
 .go_enter func274,ntmps274;go_wp2_with(at_builtin;refine Aq _ rfl _ _ 170 170 rfl _ _ rfl rfl _ _ i ?_);all_goals (go_ret;simp_all)
theorem ZtF(w:World)(g n a:Nat)(c L:Gf)(i vb:Nat)(b:Gf)(f:Gb w g 350 L)(x:L.length=a*2)(H:L.take (n*2)=c)(hi:i<n)(ae:n+1<=a)(y:a<=maxLen)(hn:n<=10000)(d:Gb w vb 350 b)(B:b.length=2)(v:∀u∈c,u.oneCell'=true)(m:∀u∈b,u.oneCell'=true)(A:vb≠g):
  Cl 274 #[dS g n a,dI i,dS vb 1 1] w λe w'=>e=dR (dS g (n+1) a)/\Gb w' g 350 (Gq (Gq L ((i+1)*2) (c.drop (i*2))) (i*2) b)/\w.grownBy w' (some g):=by
 have G:c.length=n*2:=Γ;have z:(c.drop (i*2)).length=(n-i)*2:=Γ;obtain⟨t,D,o,h⟩:=Qc w.drew 170 170 3 350 2 g ((i+1)*2) (n-i) (a-(i+1)) _ (n+1-i) (a-i) L 350 (c.drop (i*2)) underlying170 PM f
  Γ
  (λj u F=>by rw[AG,show(w.drew.cell? _)=L[i*2+j]? from f.J _];grind) Ω Γ
 have r:=(show Gb w.drew vb 350 b from d).kept h Ξ;obtain⟨k,E,p,q⟩:=Qc t 170 170 3 350 2 g (i*2) (n+1-i) (a-i) _ 1 1 _ 350 b underlying170 PM o
  Γ
  (λj u F=>by rw[AG,Av,r.J];omega) (by grind [KM]) m
 have C:∀lb cb,(callFunc 306 #[dS vb 1 1,.slice (some ⟨g,(i+1)*2,none⟩) lb cb]).run prog w=.ok (.value (dV false)) w:=λlb cb=>by
  rw[run_callFunc_extern func306 Φ Φ Φ (e:=Extern.SlicesOverlaps.overlaps #[170,170] #[4]) Φ,
   Lib.run_overlaps_apart w 170 4 350 underlying170 2 (λ_=>Φ) _ ⟨g,(i+1)*2,none⟩ 1 1 lb cb A 350 350 2 (a*2) (by unfold World.shape?;rw[d];grind) (by unfold World.shape?;rw[f];grind) Ω (d.A 0) (d.A 2)]
  rfl
 have af:a<=9223372036854775807:=by grind [maxLen]
 have l:Gb k g 350 (Gq (Gq L ((i+1)*2) (c.drop (i*2))) (i*2) b)/\w.grownBy k (some g):=⟨p,Qo (by grind [Su,Sv]) (Qo h q)⟩;have s:=Db l;clear l o p h q r v m y H z G x B d f;have ai:IntKind.i64.wrap ((i)+1)=(i)+1:=by grind [IntKind.wrap_i64]
 have aa:(0)<=(i:Int)+1:=Ω;have ag:i<=n:=Ω;have ah:((i:Int)+1).toNat=i+1:=Ω;have ab:¬(a=i+1):=Ω;have ac:(i:Int)<=(n:Int)+1:=Ω;have ad:¬(a=i):=Ω;go_enter func274,ntmps274;go_wp2_with(simp only[C]);go_region_law (refine Uh rfl _ _ 170 170 rfl _ _ (by simp_all[Act.eval,Act.put]) (by simp_all[Act.eval,Act.put]) D ?_)
 go_wp2_with(at_builtin;refine Vb _ rfl _ _ 170 170 rfl _ _ rfl rfl E ?_);go_ret;exact⟨rfl,Da s⟩
theorem Zrw(w:World)(g n b:Nat)(a L:Gf)(i vb:Nat)(c:Gf)(d:Gb w g 350 L)(Y:L.length=b*2)(ag:L.take (n*2)=a)(hi:i<n)(ap:n<=b)(am:b<n+1)(hn:n<=10000)(s:Gb w vb 350 c)(ab:c.length=2)(V:∀u∈a,u.oneCell'=true)(z:∀u∈c,u.oneCell'=true):
  Cl 274 #[dS g n b,dI i,dS vb 1 1] w λe w'=>∃G Z,e=dR (dS w.heap.size (n+1) G)/\n+1<=G/\G<=maxLen/\(a.take (i*2)++Z).length=G*2/\
   Gb w' w.heap.size 350 (Gq (Gq (a.take (i*2)++Z) (i*2) c) ((i+1)*2) (a.drop (i*2)))/\w.grownBy w' (some w.heap.size):=by
 have af:a.length=n*2:=Γ;have aa:(a.drop (i*2)).length=(n-i)*2:=Γ;obtain⟨T,J,R,S,t⟩:=Bk MI;have ae:∀j u,a[j]?=some u->w.cell? (dQ g j)=some u:=λj u Q=>by rw[d.J];grind
 have N:(Builtin.firstCells T.size i (dS g i b)).run prog w.drew=.ok (a.take (i*2)).toArray w.drew:=by rw[S];exact FU w.drew 2 i (dQ g 0) i b (a.take (i*2)) Γ (λj v hj=>by simp_all[Addr.add_lit,Nat.zero_add,List.getElem?_take])
 have r:i+(n+1-i)=n+1:=Ω;have K:(n:Int)+1-(i:Int)=((n+1-i:Nat):Int):=Ω;obtain⟨G,A⟩:=ex (grownCap w (n+1) b 350);obtain⟨Z,p⟩:∃Z:Array Value,Z=Builtin.zeroCells (Value.agg #[.int .u64 0,dI 0]).cells (n+1-i)++Builtin.zeroCells (Value.agg #[.int .u64 0,dI 0]).cells (G-(n+1)):=Γ;have O:∀ty,(Builtin.append_ #[170,3] ty #[dS g i b,dI ((n:Int)+1-(i:Int))]).run prog w =
   .ok (dS w.heap.size (n+1) G) (w.drew.alloc (.cells (a.take (i*2)++Z.toList).toArray 350)):=λty=>by
  have h:=Lib.run_append_grow_zeros w 170 3 ty 350 T _ .i64 .i64 underlying170 underlying3 J R _ i b _ N (n+1-i) Ω Ω Ω Ω (by rw[t];omega) (by rw[t,r];exact F4 Ω Ω);rw[r,<-A]at h;rw[K,h,p];congr 2;simp_all
 have X:n+1<=G:=by grind [grownCap_ge]
 have B:G<=maxLen:=by grind [grownCap_le_maxLen,maxLen]
 have H:(a.take (i*2)++Z.toList).length=G*2:=by
  have e1:Z.size=(n+1-i)*2+(G-(n+1))*2:=by rw[p,EV,EW,EW];rfl
  grind
 have o:Gb (w.drew.alloc (.cells (a.take (i*2)++Z.toList).toArray 350)) w.heap.size 350 (a.take (i*2)++Z.toList):=Bv w.drew _;have f:w.grownBy (w.drew.alloc (.cells (a.take (i*2)++Z.toList).toArray 350)) (some w.heap.size):=⟨rfl,rfl,rfl,Θ,λk hk _=>BH w.drew _ k hk⟩;obtain⟨l,F⟩:=ex (w.drew.alloc (.cells (a.take (i*2)++Z.toList).toArray 350));rw[<-F]at O o f;have M:Gb l vb 350 c:=s.kept f (by have:=s.lt;grind);obtain⟨m,ac,D,q⟩:=Qc (P:=prog) l 170 170 3 350 2 w.heap.size (i*2) (n+1-i) (G-i) (dQ vb 0) 1 1 _ 350 c underlying170 PM o
  Γ
  (λj u Q=>by rw[AG,Av,M.J];omega) Ω z
 have C:Gb m g 350 L:=(d.kept f (by have:=d.lt;grind)).kept q (by have:=d.lt;grind);obtain⟨x,ad,E,I⟩:=Qc (P:=prog) m.drew 170 170 3 350 2 w.heap.size ((i+1)*2) (n-i) (G-(i+1)) (dQ g (i*2)) (n-i) (b-i) _ 350 (a.drop (i*2)) underlying170 PM D
  Ξ
  (λj u Q=>by rw[AG,show(m.drew.cell? (dQ g (i*2+j)))=L[i*2+j]? from C.J _];grind) (by grind [KM]) Γ
 have y:(a.take (i*2)++Z.toList).length=G*2/\Gb x w.heap.size 350 (Gq (Gq (a.take (i*2)++Z.toList) (i*2) c) ((i+1)*2) (a.drop (i*2)))/\w.grownBy x (some w.heap.size):=
  ⟨H,E,Qo f (Qo q (Qo (Su (Sv m _)) I))⟩
 have U:=Db y;have aj:G<=9223372036854775807:=by grind [maxLen]
 have ah:¬(G=i):=Ω;have ai:¬(G=i+1):=Ω;have an:¬(b=i):=Ω;have ar:IntKind.i64.wrap ((i:Int)+1)=(i:Int)+1:=by grind [IntKind.wrap_i64]
 have ak:(0:Int)<=(i:Int)+1:=Ω;have ao:i<=n:=Ω;have aq:((i:Int)+1).toNat=i+1:=Ω;have al:(i:Int)<=(n:Int):=Ω;clear y H o D E f q I M C V z ag aa af Y ab s d ae N F A p r K J R S t;have W:=Db B;clear B;go_enter func274,ntmps274;go_wp2_with(first
  |(at_builtin;refine Aq _ rfl _ _ _ _ rfl _ _ rfl rfl _ _ (O _) ?_)
  |(at_builtin;refine Vb _ rfl _ _ 170 170 rfl _ _ rfl rfl ac ?_))
 go_region_law (refine Uh rfl _ _ 170 170 rfl _ _ (by simp_all[Act.eval,Act.put]) (by simp_all[Act.eval,Act.put]) ad ?_)
 go_wp2;go_ret;exact⟨G,Z.toList,rfl,X,Da W,Da U⟩
theorem S9(s:Int)(w:World):Cl 320 #[.int .u64 s] w λe w'=>e=dR (dV false)/\w'=w:=by go_enter func320,ntmps320;go_wp2;go_ret;simp_all
theorem ZrP(a b:Int)(w:World):Cl 305 #[.int .u64 a,.int .u64 b] w λe w'=>e=dR (dI (KW a b))/\w'=w:=by
 have c:KW a b=if a<b then -1 else if a=b then 0 else 1:=rfl;have H:=Db c;clear c;by_cases d:a<b
 .go_enter func305,ntmps305;go_wp2_with(go_at_call 320;apply(S9 _ _).Q;rintro e w'⟨rfl,rfl⟩);go_ret;exact⟨by rw[Da H,if_pos d];rfl,rfl⟩
 .by_cases h2:b<a
  .go_enter func305,ntmps305;go_wp2_with(go_at_call 320;apply(S9 _ _).Q;rintro e w'⟨rfl,rfl⟩);go_ret;exact⟨by rw[Da H,if_neg Ω,if_neg Ω];rfl,rfl⟩
  .go_enter func305,ntmps305;go_wp2_with(apply(S9 _ _).Q;rintro e w'⟨rfl,rfl⟩);go_ret;exact⟨by rw[Da H,if_neg Ω,if_pos Ω];rfl,rfl⟩
def I4(x:Int×Int):Gf:=[.int .u64 x.1,dI x.2]
def DH(es:LI):Gf:=es.flatMap I4
theorem Zff(a:LI):(DH a).length=a.length*2:=Vp I4 2 (λ_=>rfl) a
theorem Zjd(a b:LI):DH (a++b)=DH a++DH b:=by simp[DH]
theorem Zly(a:LI)(i:Nat):(DH a).take (i*2)=DH (a.take i):=Ts I4 2 (λ_=>rfl) a i
theorem Zlz(a:LI)(i:Nat):(DH a).drop (i*2)=DH (a.drop i):=Rk I4 2 (λ_=>rfl) a i
theorem VR(b:LI):∀u∈DH b,u.oneCell'=true:=by intro u a;simp only[DH,Ez,I4,AM,Ey,or_false]at a;obtain⟨x,_,rfl|rfl⟩:=a<;>simp[Value.oneCell']
theorem OU(a:LI)(k:Nat)(x:Int×Int)(h:a[k]?=some x):(DH a)[k*2]?=some (.int .u64 x.1)/\(DH a)[k*2+1]?=some (dI x.2):=⟨QZ I4 2 (λ_=>rfl) h 0 Ω,QZ I4 2 (λ_=>rfl) h 1 Ω⟩
abbrev GM(es:LI):Prop:=Mc Hf es
abbrev AtR(es:LI)(t:Int)(i:Nat)(b:Bool):Prop:=I6 Hf es t i b
theorem WH(x:Int×Int)(a:Int)(w:World):Cl 304 #[.agg #[.int .u64 x.1,dI x.2],.int .u64 a] w λe w'=>e=dR (dI (KW x.1 a))/\Bw w w':=by go_enter func304,ntmps304;go_wp2_with(apply(ZrP _ _ _).Q;rintro e w'⟨rfl,rfl⟩);go_ret;exact⟨rfl,(Ad _ _).alloc (Aa _) _⟩
theorem Ou(g n I:Nat)(c:Nat->Int×Int)(f:Int)(w:World)(hn:n<=10000)(l:∀k,k<n->w.cell? (dQ g (k*2))=some (.int .u64 (c k).1))(m:∀k,k<n->w.cell? (dQ g (k*2+1))=some (dI (c k).2))(F:∀j k,j<k->k<n->Hf (c j).1 (c k).1=true):
  Cl 303 #[dS g n I,.int .u64 f,.func (.func 304) #[] #[]] w λe w'=>∃(i:Nat) (b:Bool),e=dR (.tuple #[dI i,dV b])/\
   (i<=n/\(∀k,k<i->Hf (c k).1 f=true)/\(∀k,i<=k->k<n->Hf (c k).1 f=false)/\(b=true↔i<n/\(c i).1=f))/\Bw w w':=by
 have A:=Db F;clear F;go_enter func303,ntmps303;go_wp2_with fail
 go_loopw [9,10] (λi j wr=>∃a b:Nat,i=dI a/\j=dI b/\a<=b/\b<=n/\Hid (∀k,k<a->Hf (c k).1 f=true)/\Hid (∀k,b<=k->k<n->Hf (c k).1 f=false)/\Bw w wr) (λi j _=>(intOf j-intOf i).toNat)
 case atStart=>exact⟨0,n,rfl,rfl,Ao _,Aa _,λ_ h=>absurd h (Nat.not_lt_zero _),λk J v=>absurd v Ω,Ad _ _⟩
 case round=>
  obtain⟨a,b,rfl,rfl,aa,x,z,y,d⟩:=hrel;by_cases ab:a<b
  .have u:(a+b)/2<n:=Ω;have r:=Ag _ _ (l _ u);have K:=(d.J r).M (l _ u);have L:=(d.J (p:=⟨g,(a+b)/2*2+1,none⟩) r).M (m _ u);have B:=Db l;have C:=Db m;clear l m;go_wp2_with fail;apply(WH _ _ _).Q;rintro e w'⟨rfl,t⟩;by_cases D:KW (c ((a+b)/2)).1 f<0
   .have s:=(Rd _ _).1 D;have o:=Db s;clear s;go_wp2
    go_roundw
    case rel=>
     refine⟨(a+b)/2+1,b,by go_num,rfl,Ω,x,λk hk=>?_,y,d.M (t.Q d.size)⟩;rcases AD k ((a+b)/2) with h|h;exact Sb (Da A _ _ h u) (Da o);obtain rfl:k=(a+b)/2:=Ω;exact Da o
    case measure=>simp[intOf];omega
   .have s:Hf (c ((a+b)/2)).1 f=false:=by
     cases h:Hf (c ((a+b)/2)).1 f with
     |false=>rfl
     |true=>exact absurd ((Rd _ _).2 h) D
    have o:=Db s;clear s;go_wp2
    go_roundw
    case rel=>
     refine⟨a,(a+b)/2,rfl,by go_num,Ω,Ω,z,λk J v=>?_,d.M (t.Q d.size)⟩;rcases AD ((a+b)/2) k with h|h;cases E:Hf (c k).1 f with
     |false=>rfl
     |true=>exact absurd (Sb (Da A _ _ h v) E) (by rw[Da o];simp)
     obtain rfl:k=(a+b)/2:=Ω;exact Da o
    case measure=>simp[intOf];omega
  .obtain rfl:a=b:=Ω;by_cases q:a<n
   .have r:=Ag _ _ (l _ q);have K:=(d.J r).M (l _ q);have L:=(d.J (p:=(dQ g (a*2+1))) r).M (m _ q);have B:=Db l;have C:=Db m;clear l m;go_wp2_with fail;apply(WH _ _ _).Q;rintro e w'⟨rfl,t⟩;have G:=Zm (c a).1 f;have H:=Db G;clear G;go_wp2
    go_ret2
    refine⟨a,_,rfl,⟨x,z,y,?_⟩,d.M (t.Q d.size)⟩;simp[Da H,q]
   .have E:decide (((a:Nat))<(n))=false:=(by simp;omega);have B:=Db l;have C:=Db m;clear l m;go_wp2
    go_ret2
    exact⟨a,_,rfl,⟨x,z,y,by simp[q]⟩,d⟩
theorem NQ(v:Value)(a:LI)(f:Int)(w:World)(z:Sl w 350 2 v a.length (DH a))(D:a.length<=10000)(E:GM a):
  Cl 303 #[v,.int .u64 f,.func (.func 304) #[] #[]] w λe w'=>∃(i:Nat) (b:Bool),e=dR (.tuple #[dI i,dV b])/\AtR a f i b/\Bw w w':=by
 rcases z.2 with⟨rfl,t⟩|⟨g,n,L,rfl,y,hc,aa,hL,hT⟩
 .have:=AC t;subst this;go_enter func303,ntmps303;go_wp2_with fail
  go_loopw [9,10] (λi j wr=>i=dI 0/\j=dI 0/\wr=w) (λ_ _ _=>0)
  case atStart=>simp_all
  case round=>
   obtain⟨rfl,rfl,rfl⟩:=hrel;go_wp2
   go_ret2
   exact⟨0,false,rfl,⟨Ao _,Ω,Γ,Θ⟩,Ad _ _⟩
 have A:∀j u,(DH a)[j]?=some u->w.cell? (dQ g j)=some u:=λj u hu=>by rw[y.J];grind
 cases hes:a with
 |nil=>
  subst hes;apply(Ou g 0 n (λ_=>(0,0)) f w Ω Ω Ω Ω).Q;rintro e w'⟨i,b,rfl,⟨o,p,q,r⟩,h⟩;obtain rfl:i=0:=Ω;exact⟨0,b,rfl,⟨Aa _,Ω,Γ,Ξ⟩,h⟩
 |cons x0 l0=>
  rw[<-hes];have l:∀k,k<a.length->a[k]?=some (a.getD k x0):=Γ;refine(Ou g _ n _ f w D (by grind [OU]) (λk d=>A _ _ (OU a k _ (l k d)).2)
   (λj k C d=>E j k _ _ C Γ (l k d))).Q ?_
  rintro e w'⟨i,b,rfl,⟨o,p,q,r⟩,h⟩;have s:∀k x,a[k]?=some x->k<a.length:=Γ;have m:∀k x,a[k]?=some x->x=a.getD k x0:=Γ;refine⟨i,b,rfl,⟨o,λk x d c=>?_,λk x d c=>?_,?_⟩,h⟩;rw[m k x c];exact p k d;rw[m k x c];exact q k d (s k x c);rw[r];constructor;rintro⟨B,e⟩;exact⟨_,l i B,e⟩;rintro⟨x,c,e⟩;exact⟨s i x c,by rw[<-e,m i x c]⟩
theorem ZsV(L a b:Gf)(i n:Nat)(hL:(n+1)*2<=L.length)(e:L.take (n*2)=a)(hi:i<n)(aa:b.length=2):
  (Gq (Gq L ((i+1)*2) (a.drop (i*2))) (i*2) b).take ((n+1)*2)=a.take (i*2)++b++a.drop (i*2):=by
 have c:(Gq L ((i+1)*2) (a.drop (i*2))).take (i*2)=a.take (i*2):=by unfold Gq;rw[Ar,A0 (by rw[AP];omega),Cj,BI Ω,<-e,Cj,BI Ω]
 have d:(Gq L ((i+1)*2) (a.drop (i*2))).drop (i*2+b.length)=a.drop (i*2)++L.drop ((i+1)*2+(a.drop (i*2)).length):=by unfold Gq;grind
 rw[Gq,c,d,<-Ar];exact Ce Γ
theorem ZqG(Z a b:Gf)(i n:Nat)(ac:a.length=n*2)(hi:i<n)(_hZ:(n+1)*2<=(a.take (i*2)++Z).length)(aa:b.length=2):
  (Gq (Gq (a.take (i*2)++Z) (i*2) b) ((i+1)*2) (a.drop (i*2))).take ((n+1)*2)=a.take (i*2)++b++a.drop (i*2):=by
 have ab:(a.take (i*2)).length=i*2:=Γ;grind [Gq,List.take_left',List.length_append]
theorem Ztk{a ho:Nat}{b:Value}{e:TypeId}{n:Nat}{c:Gf}(f:w.cell? (dQ a ho)=some v)(ac:v.ownBlock≠some a)(d:Sl w2 e 2 b n c)(i:Dm w v b)(j:w2.os=w.os)(m:w2.tape=w.tape)(l:w2.output=w.output)(ad:w.heap.size<=w2.heap.size)(aa:∀k,k<w.heap.size->v.ownBlock≠some k->w2.heap[k]?=w.heap[k]?):
  (w2.setCell (dQ a ho) b).cell? (dQ a ho)=some b/\Sl (w2.setCell (dQ a ho) b) e 2 b n c/\Ls w (w2.setCell (dQ a ho) b) a ho v b:=by
 have ab:a<w.heap.size:=Ag _ _ f;have g:w2.cell? (dQ a ho)=some v:=by grind [World.cell?_of_block,trans]
 refine⟨Cv _ _ _ g,d.setCell _ _ (λe=>?_),j,m,l,Ξ,λk hk h1 h2=>?_,?_⟩;rcases i a e with h|h;grind;omega;grind [Below.heap_setCell];simp only[World.setCell,EQ,FD];grind
theorem Oe(w:World)(v:Value)(a:LI)(i:Nat)(x:Int×Int)(vb:Nat)(q:Sl w 350 2 v a.length (DH a))(hi:i<=a.length)(m:a.length<=10000)(n:Gb w vb 350 (I4 x))(ac:v.ownBlock≠some vb):
  Cl 274 #[v,dI i,dS vb 1 1] w λe w'=>∃v',e=dR v'/\Sl w' 350 2 v' (a.length+1) (DH (a.take i++x::a.drop i))/\w.grownBy w' v.ownBlock/\Dm w v v':=by
 have h:∀u∈I4 x,u.oneCell'=true:=λu hu=>VR [x] u (by grind [DH]);have r:DH (a.take i++x::a.drop i)=(DH a).take (i*2)++I4 x++(DH a).drop (i*2):=by rw[Zly,Zlz,Zjd,Ar];rfl
 have D:=Zff a;rcases AD i a.length with f|aa;rcases q.2 with⟨rfl,h0⟩|⟨g,c,L,rfl,p,A,s,o,l⟩;omega;have C:vb≠g:=by grind [Value.ownBlock]
 have ab:((DH a).take (i*2)++I4 x++(DH a).drop (i*2)).length=(a.length+1)*2:=by grind [List.length_append,List.length_take,List.length_drop,I4]
 rcases AD c (a.length+1) with B|t;apply(Zrw w g _ c _ L i vb _ p o l f A B m n rfl (VR a) h).Q;rintro e w'⟨G,Z,rfl,y,z,h4,j,b⟩;refine⟨_,rfl,⟨Ξ,.inr ⟨_,G,_,rfl,j,y,z,?_,?_⟩⟩,⟨b.os,b.tape,b.output,b.size,λk d _=>b.block k d Γ⟩,λk d=>by grind [Value.ownBlock]⟩;grind [KM,I4,List.length_drop];rw[r];exact ZqG Z _ _ i _ D f Ω rfl;apply(ZtF w g _ c _ L i vb _ p o l f t s m n rfl (VR a) h C).Q;rintro e w'⟨rfl,j,b⟩;refine⟨_,rfl,⟨Ξ,.inr ⟨_,c,_,rfl,j,t,s,?_,?_⟩⟩,b,λk d => .inl d⟩;grind [KM,List.length_drop,I4];rw[r];exact ZsV L _ _ i _ Ω l f rfl;obtain rfl:i=a.length:=Ω;apply(ZtG w v _ _ vb _ q m n rfl h).Q;grind
theorem SU(w:World)(c ho:Nat)(v:Value)(a:LI)(d:Int)(hc:w.cell? (dQ c ho)=some v)(h:Sl w 350 2 v a.length (DH a))(j:a.length<=10000)(l:GM a):
  Cl 273 #[.pointer (some (dQ c ho)),.int .u64 d] w λe w'=>∃(i:Nat) (b:Bool),e=dR (.tuple #[dI i,dV b])/\AtR a d i b/\Bw w w':=by
 have k:=NQ v a d w h j l;go_enter func273,ntmps273;go_wp2_with fail;apply k.Q;rintro e w'⟨i,b,rfl,g,c⟩;have f:=Db g;go_wp2
 go_ret2
 exact⟨i,b,rfl,Da f,c⟩
def Nk(es:LI)(key:Int)(r:Int)(b:Bool):Prop:=(b=true/\(key,r)∈es)\/(b=false/\r=0/\∀x∈es,x.1≠key)
theorem SH(w:World)(n ho:Nat)(v:Value)(a:LI)(o:Int)(k:w.cell? (dQ n ho)=some v)(h:Sl w 350 2 v a.length (DH a))(D:a.length<=10000)(y:GM a):
  Cl 300 #[.pointer (some (dQ n ho)),.int .u64 o] w λe w'=>∃(r:Int) (b:Bool),e=dR (.tuple #[dI r,dV b])/\Nk a o r b/\Bw w w':=by
 have C:=Ag _ _ k;have x:=SU w n ho v a o k h D y;go_enter func300,ntmps300;go_wp2_with fail;apply x.Q;rintro e E⟨i,b,rfl,d,f⟩;clear x;cases b with
 |false=>
  have A:=Db (I6.not KK y d);clear d h;go_wp2
  go_ret2
  exact⟨0,false,rfl,.inr ⟨rfl,rfl,Da A⟩,f⟩
 |true=>
  obtain⟨r,c⟩:=d.an;rcases h.2 with⟨rfl,h0⟩|⟨g,aa,L,rfl,m,ab,ac,B,s⟩;have:=(Ac.1 c).1;omega
  .have t:∀j u,(DH a)[j]?=some u->E.cell? (dQ g j)=some u:=λj u l=>by rw[f.J (p:=dQ g j) m.lt,m.J];rw[<-s,AZ]at l;split at l;exact l;cases l
   have q:=OU a i _ c;have q0:=(f.J C).M k;have q1:=t _ _ q.2;have hi:=(Ac.1 c).1;have z:=Db (Ai c);clear q t m B s h d c k;go_wp2
   go_ret2
   exact⟨r,true,rfl,.inl ⟨rfl,Da z⟩,f⟩
theorem TM(w:World)(d ho:Nat)(v:Value)(c:LI)(h:Int)(r:Int)(s:w.cell? (dQ d ho)=some v)(hf:w.frozen? (dQ d ho)=false)(Z:v.ownBlock≠some d)(t:Sl w 350 2 v c.length (DH c))(H:c.length<=10000)(z:GM c)(ab:∀x∈c,x.1≠h):
  Cl 243 #[.pointer (some (dQ d ho)),.int .u64 h,dI r] w λe w'=>e=dR (.tuple #[])/\∃a es',w'.cell? (dQ d ho)=some a/\Sl w' 350 2 a es'.length (DH es')/\
   GM es'/\es'.length=c.length+1/\(∀x,x∈es'↔x=(h,r)\/x∈c)/\Dm w v a/\Ls w w' d ho v a:=by
 have X:=Ag _ _ s;have E:=SU w d ho v c h s t H z;go_enter func243,ntmps243;go_wp2_with fail;apply E.Q;rintro e j⟨i,b,rfl,p,f⟩;have U:b=false:=by
  cases b with
  |false=>rfl
  |true=>obtain⟨r',af⟩:=p.an;grind
 subst U;have q0:=(f.J X).M s;have ag:w.heap.size<=j.heap.size:=f.size;have u:=t.kept (λk y _=>f.block k y);have F:∀W:World,W.heap=(j.alloc (.cells #[.int .u64 h,dI r] 350)).heap->W.os=j.os->W.tape=j.tape->W.output=j.output->Cl 274 #[v,dI i,dS j.heap.size 1 1] W λe w'=>∃l o m a,e=dR (dT l o m)/\a=dT l o m/\
   (w'.cell? (dQ d ho)=some v/\w'.frozen? (dQ d ho)=false)/\Hid ((w'.setCell (dQ d ho) a).cell? (dQ d ho)=some a/\Sl (w'.setCell (dQ d ho) a) 350 2 a (c.length+1) (DH (c.take i++(h,r)::c.drop i))/\Ls w (w'.setCell (dQ d ho) a) d ho v a/\Dm w v a):=λW q O P Q=>by
  have S:=(Sl.a3 (u.bp.alloc _)).heap q;have R:Gb W j.heap.size 350 (I4 (h,r)):=by unfold Gb;rw[q];exact Bv j _
  apply(Oe W v c i _ _ S p.1 H R (λe=>by have:=u.lt e;omega)).Q;rintro e w'⟨a,rfl,D,n,aa⟩;have T:w.heap.size<=W.heap.size:=by rw[q];simp;omega
  have V:∀k,k<w.heap.size->v.ownBlock≠some k->w'.heap[k]?=w.heap[k]? := λk y ae=>by rw[n.block k Ω Γ,q,BH _ _ _ Ω,f.block k y]
  have I:Dm w v a:=λg Y=>(aa g Y).imp id Ω;obtain⟨A,K,B⟩:=Ztk s Z D I (n.os.M (O.M f.os)) (n.tape.M (P.M f.tape)) (n.output.M (Q.M f.output)) (Ae T n.size) V;obtain⟨l,o,m,C⟩:=D.a0;exact⟨l,o,m,a,by rw[C],C,by grind [World.cell?_of_block,trans,World.frozen?_of_block],A,K,B,I⟩
 have J:=Db (TY KK Zy r z p);have G:(c.take i++(h,r)::c.drop i).length=c.length+1:=Γ;have N:=Db G;have M:=Db F;clear G p t u z ab E f F;go_wp2_with(go_at_call 274;apply(Da M _ (by rfl) (by rfl) (by rfl) (by rfl)).Q;rintro e w2⟨l,o,m,a,rfl,rfl,⟨ac,ad⟩,L⟩);all_goals (
  go_end0
  obtain⟨A,K,B,m4⟩:=Da L;exact⟨rfl,_,_,A,Γ,(Da J).1,Da N,(Da J).2.2,m4,B⟩)
section
open Go.RowKit Go.Shelf
attribute [local go_sem] Oper.semAt_some
theorem Oz(F:Fence)(n:Nat)(K:F.fn 270)(O:F.round=none)(hn:1<=n)(l p n0 y ho g B:Nat)(c : α -> Int×Int)(a:List α)(ab:a.length<=10000)(z:g<n0)(J t:List α -> World->Prop)(W:World)(D:AbidesFrom W.heap.size J)(I:∀pre x W,J pre W->pre.length<a.length->YieldAt F (n-1) prog l #[.int .u64 (c x).1,dI (c x).2] W λe b=>
   (e=dR (dV true)/\J (pre++[x]) b/\Below n0 W b)\/(e=dR (dV false)/\t (pre++[x]) b))(aa:W.cell? (dQ p 0)=some (.pointer (some (dQ y ho))))(hc:W.cell? (dQ y ho)=some (dS g a.length B))(m:∀j u,(DH (a.map c))[j]?=some u->W.cell? (dQ g j)=some u)(N:n0<=W.heap.size)(C:J [] W):
  CallsIn F n prog 270 #[.func (.yield l) #[] #[],dP p] W λe b=>(∃v,e=dR v)/\
   ((∃ys,ys=a/\J ys b)\/(∃pre,pre <+: a/\t pre b)):=by
 refine CA func270 rfl K ?_ O;simp only[ntmps270,AS,Ay,AR,Nat.reduceAdd,Nat.reduceSub,AY,AX,Be,A5,AH,AK]
 gi_wp2
 gi_loopw [10] (λi wr=>∃k:Nat,k<=a.length/\i=dI k/\J (a.take k) wr/\Below n0 W wr)
  (λi _=>a.length-(intOf i).toNat)
 case atStart=>exact⟨0,Ao _,rfl,C,Ad _ _⟩
 case round=>
  obtain⟨k,hk,rfl,h,d⟩:=hrel;by_cases M:k<a.length
  .obtain⟨x,f⟩:∃x,a[k]?=some x:=⟨_,Ab M⟩;have s:Hid (a.take (k+1)=a.take k++[x]):=(by show _=_;rw[Br,f];rfl);have q:=OU _ k (c x) (by rw[A8,f];rfl);have q0:=(d.J z).M (m _ _ q.1);have q1:=(d.J z).M (m _ _ q.2);have A:(a.take k).length<a.length:=(by rw[AP];omega);have w:∀o,J (a.take k) (wr.alloc o):=λo=>D _ _ _ none h (Sk wr o) (λr e=>by cases e);obtain⟨fn,tmps,assign,body,hy,H⟩:=I _ x (wr.alloc (.cells #[.int .u64 (c x).1,dI (c x).2] 350)) (w _) A;have HX:=Db f;clear q f A w m
   gi_wp2
   apply H.Q;rintro e W3 (⟨rfl,E,L⟩|⟨rfl,G⟩)
   .gi_wp2
    go_roundw
    case rel=>exact⟨k+1,Ω,by go_num,by rw[Da s];exact E,(d.alloc (Ae N d.size) _).M L⟩
    case measure=>simp[intOf];omega
   .gi_wp2
    refine Am (CU rfl _ _ _) rfl ?_;exact⟨⟨_,rfl⟩,.inr ⟨_,by rw[<-Da s];exact FI _ _,G⟩⟩
  .obtain rfl:k=a.length:=Ω
   gi_wp2
   go_end0
   exact⟨⟨_,rfl⟩,.inl ⟨_,rfl,by rw[BD]at h;exact h⟩⟩
theorem Zp9(F:Fence)(n:Nat)(d:F.fn 270)(f:F.round=none)(l a b ho:Nat)(J:List α -> World->Prop)(W:World)(aa:W.cell? (dQ a 0)=some (.pointer (some (dQ b ho))))(hc:W.cell? (dQ b ho)=some dN)(h0:J [] W):
  CallsIn F n prog 270 #[.func (.yield l) #[] #[],dP a] W λe c=>(∃v,e=dR v)/\J [] c:=by
 refine CA func270 rfl d ?_ f;simp only[ntmps270,AS,Ay,AR,Nat.reduceAdd,Nat.reduceSub,AY,AX,Be,A5,AH,AK]
 gi_wp2
 gi_loopw [10] (λi wr=>i=dI 0/\J [] wr) (λ_ _=>0)
 case atStart=>simp_all
 case round=>
  gi_wp2
  go_end0
  simp_all
theorem Zt6(F:Fence)(n:Nat)(b:F.fn 235)(c:F.round=none)(a:OA)(w:World):
  CallsIn F n prog 235 #[.pointer a] w λe w'=>e=dR (.func (.func 270) #[] #[dP w.heap.size])/\w'=w.alloc (.cells #[.pointer a] 294):=by
 refine CA func235 rfl b ?_ c
 gi_wp2
 go_ret;simp_all
theorem ZnQ(F:Fence)(n:Nat)(q:F.fn 270)(r:F.round=none)(I:1<=n)(b n0 c ho:Nat)(v:Value)(f : α -> Int×Int)(a:List α)(G:a.length<=10000)(w:World)(z:b<w.heap.size)(D:c<w.heap.size)(K:n0<=w.heap.size)(y:w.cell? (dQ b 0)=some (.pointer (some (dQ c ho))))(E:w.cell? (dQ c ho)=some v)(B:Sl w 350 2 v a.length (DH (a.map f)))(L:∀g,v.ownBlock=some g->g<n0):
  SeqStopsK F n prog 270 #[dP b] (λx : α => #[.int .u64 (f x).1,dI (f x).2]) (Below n0) (λN=>N=a) (λM=>M <+: a) a.length w:=λl J s W d A _ C i=>by
 have k:=(d.J z).M y;have o:=(d.J D).M E;rcases B.2 with⟨rfl,h⟩|⟨g,t,R,rfl,m,_,_,_,hT⟩;obtain rfl:a=[]:=AC h;exact(Zp9 F n q r l b c ho J W k o i).Q λe W' ⟨h,H⟩=>⟨h,.inl ⟨_,rfl,H⟩⟩;exact Oz F n q r I l b n0 c ho g t f a G (L g rfl) J s W A C k o (λj u hu=>by rw[d.J (p:=dQ g j) m.lt,m.J];grind) (Ae K d.size) i
end
theorem Zj(s:By)(k:Nat)(h:k<s.size):(Dd s)[k]?=some (.int .u8 (s.data[k].toNat:Int)):=by simp_all[Dd]
def Oi(y:Int)(b:UInt8):Int:=IntKind.u64.wrap (bits BinOp.xor IntKind.u64 y (IntKind.u64.wrap b.toNat)*1099511628211)
def Qp(l:List UInt8):Int:=l.foldl Oi 14695981039346656037
theorem Zr(l:List UInt8)(b:UInt8):Qp (l++[b])=Oi (Qp l) b:=by unfold Qp;rw[List.foldl_append];rfl
theorem ZY(s:By)(k:Nat)(h:k<s.size):s.data.toList.take (k+1)=s.data.toList.take k++[s.data[k]]:=by simp_all[List.take_succ_eq_append_getElem]
theorem RD(w:World)(a:OA)(l c:Nat)(s:By)(h:GL w a l c s)(hs:s.size<=2000000):
  Cl 215 #[dT a l c] w λe w'=>e=dR (.int .u64 (Qp s.data.toList))/\w'=w:=by
 obtain⟨m,_,f⟩:=h;subst m;have j:=Db f;clear f;obtain⟨r,b⟩:=ex (Qp s.data.toList);rw[<-b];have aa:=Db b;clear b;go_enter func215,ntmps215;go_wp2
 go_loop [3,8] (λx i=>∃(k:Nat) (y:Int),k<=s.size/\i=dI k/\x=.int .u64 y/\Hid (y=Qp (s.data.toList.take k))) (λ_ i=>s.size-(intOf i).toNat)
 case atStart=>exact⟨0,_,Ao _,rfl,rfl,rfl⟩
 case round=>
  obtain⟨k,y,hk,rfl,rfl,n⟩:=hrel;by_cases d:k<s.size
  .obtain⟨g,rfl,q0⟩:=Da j k _ (Zj s k d);go_wp2
   go_round
   case rel=>exact⟨k+1,_,Ω,by go_num,rfl,by rw[ZY s k d,Zr,<-Da n];rfl⟩
   case measure=>grind [intOf]
  .go_wp2;go_ret;have h1:s.data.toList.take s.size=s.data.toList:=Ak (CV AF);have h2:y=r:=(by grind [Da]);simp_all
def GD(b:Nat)(w:World)(v:Value)(s:By):Prop:=Sl w 5 1 v s.size (Dd s)/\∀g,v.ownBlock=some g->b<=g
theorem GD.nil(b:Nat)(w:World):GD b w dN ⟨#[]⟩:=⟨⟨rfl,.inl ⟨rfl,rfl⟩⟩,by grind [Value.ownBlock]⟩
theorem GD.below(h:GD b w v s)(a:Bw w w'):GD b w' v s:=⟨h.1.kept (λk c _=>a.block k c),h.2⟩
theorem GD.cc{a:OA}{l:Nat}(h:GD b w (dT a l c) s):GL w a l c s:=by
 have f:l=s.size:=by rcases h.1.2 with⟨e,d⟩|⟨g,aa,L,e,_⟩;cases e;exact d.r;cases e;rfl
 subst f;exact h.1.cc
def Own(v:Value)(k:Nat):Prop:=v.ownBlock=some k
theorem Fr.then{X Y:Nat->Prop}{c:World}(h:Fr X w c)(a:Fr Y c w2)(aa:∀k,k<w.heap.size->Y k->X k):Fr X w w2:=
 ⟨a.os.M h.os,a.tape.M h.tape,a.output.M h.output,Ae h.size a.size,λk b d=>(a.block k (As b h.size) Γ).M (h.block k b d)⟩
theorem GD.d6(h:GD b w v s)(hb:b<=w.heap.size)(a:Fr (Own v) w w'):Below b w w':=
 ⟨a.os,a.tape,a.output,a.size,λk hk=>a.block k Ω (λe=>by have:=h.2 k e;omega)⟩
theorem QX(w:World)(b:Nat)(hb:b<=w.heap.size)(v:Value)(s:By)(h:GD b w v s)(a:Addr)(m c:Nat)(t:By)(hm:t.size=m)(y:∀j u,(Dd t)[j]?=some u->w.cell? (a.add j)=some u)(hl:s.size+m<=4000000):
  ∃d i f w',(Builtin.append_ #[59,59] 59 #[v,dT (some a) m c]).run prog w=.ok (dT d i f) w'/\GD b w' (dT d i f) (s++t)/\Fr (Own v) w w'/\Dm w v (dT d i f):=by
 obtain⟨C,r,z,A,B⟩:=Bk Q0;obtain⟨v',w2,D,E,l,o⟩:=J1 w 59 59 5 C _ 1 1 underlying59 r z A B rfl Δ v _ (Dd s) h.1 a m c (Dd t) (by grind [Dh])
  y (K7 t) (by grind [maxLen]) Ω
 obtain⟨d,i,f,rfl⟩:=E.a0;refine⟨d,i,f,w2,D,⟨?_,λg q=>?_⟩,⟨l.os,l.tape,l.output,l.size,λk x p=>l.block k x (λe=>p e.r)⟩,o⟩;grind [Qd,ByteArray.size_append];rcases o g q with n|n;exact h.2 g n;omega
def DM:Nat->Nat->List UInt8
 |_,0=>[]
 |x,m+1=>UInt8.ofNat x::DM (x/256) m
theorem Js:∀(m x:Nat),(DM x m).length=m
 |0,_=>rfl
 |m+1,x=>by simp[DM,Js m]
theorem UJ(s:By):s++⟨#[]⟩=s:=by apply AW;simp
theorem Xx(s:By)(l:List UInt8)(b:UInt8):s++⟨l.toArray⟩++⟨#[b]⟩=s++⟨(l++[b]).toArray⟩:=by apply AW;simp
theorem ZL{x y k:Nat}(hk:k<m)(h:DM y (m-k)=(DM x m).drop k):(DM x m).take (k+1)=(DM x m).take k++[UInt8.ofNat y]/\DM (y/256) (m-(k+1))=(DM x m).drop (k+1):=by grind [DM,Js,List.drop_eq_getElem_cons,List.cons.injEq,List.take_succ_eq_append_getElem]
theorem Up(y:Nat):IntKind.u8.wrap (y:Int)=((UInt8.ofNat y).toNat:Int):=by rfl
theorem Pk(w:World)(b:Nat)(hb:b<=w.heap.size)(a:OA)(l c:Nat)(s:By)(h:GD b w (dT a l c) s)(x:Nat)(T:x<18446744073709551616)(m:Nat)(hm:m<=8)(hs:s.size<=2000000):
  Cl 212 #[dT a l c,.int .u64 x,dI m] w λe w'=>∃d n f,e=dR (dT d n f)/\GD b w' (dT d n f) (s++⟨(DM x m).toArray⟩)/\Fr (Own (dT a l c)) w w'/\Dm w (dT a l c) (dT d n f):=by
 have H:=Db h;clear h;go_enter func212,ntmps212;go_wp2
 go_loopw [0,1,8] (λv y i wr=>∃(k y':Nat) (d:OA) (n f:Nat),k<=m/\i=dI k/\y=.int .u64 y'/\v=dT d n f/\y'<18446744073709551616/\Hid (GD b wr v (s++⟨((DM x m).take k).toArray⟩))/\Hid (DM y' (m-k)=(DM x m).drop k)/\Hid (Fr (Own (dT a l c)) w wr/\Dm w (dT a l c) v)) (λ_ _ i _=>m-(intOf i).toNat)
 case atStart=>exact⟨0,x,a,l,c,Ao _,rfl,rfl,rfl,T,by show GD _ _ _ _;rw[Cy,UJ];exact Da H,rfl,Fr.refl _ _,λg q => .inl q⟩
 case round=>
  obtain⟨k,y,d,n,f,O,rfl,rfl,rfl,hy,r,L,p⟩:=hrel;by_cases Q:k<m
  .have G:=Up y;have ab:=(Da p).1.size;obtain⟨W,D,I,P,R,E⟩:=Df wr [.int .u8 (IntKind.u8.wrap (y))] 5;obtain⟨t,J,z,w2,F,C,A,B⟩:=QX W b Ω _ _ ((Da r).below E) _ 1 1 ⟨#[UInt8.ofNat y]⟩ rfl (λj u S=>by rw[AG,Av,I.J,G];exact S) (by rw[Aj];show s.size+(List.toArray _).size+1<=_;grind);have aa:=Db C;have K:Hid (Fr (Own (dT a l c)) w w2/\Dm w (dT a l c) (dT t J z)):=(by refine⟨((Da p).1.then (by grind [Fr.S,Own]) (λk _ h=>h)).then A (λk O e=>((Da p).2 k e).elim id Ω),λg q=>?_⟩;rcases B g q with o|o;exact(Da p).2 g o;omega);have M:=Db D;clear C A B I P R E D G;rw[<-Da M]at F;go_wp2_with(at_builtin;refine Aq _ rfl _ _ 59 59 rfl _ _ rfl rfl _ _ F ?_)
   go_roundw
   case rel=>
    obtain⟨o,N⟩:=ZL Q (Da L);exact⟨k+1,y/256,t,J,z,Ω,by go_num,by go_num,rfl,Ω,by grind [GD,Xx,Da],N,K⟩
   case measure=>grind [intOf]
  .go_wp2;go_ret;have o:=Da r;rw[Ak (by simp_all[Js])]at o;exact⟨d,n,f,rfl,o,Da p⟩
abbrev Fj:=@zero_of_info
def Dj(n:Nat):By:=⟨(List.replicate n 0).toArray⟩
def DC(s:By):Value:=.agg (Dd s).toArray
theorem JG{b:Array Oper}{c:List Oper}{a:Act}(f:o.guard=none)(t:TypeId)(ho:o.op=.alloc t){d:Array Value}(g:∀w,(zeroValue t).run P w=.ok (.agg d) w)(h:wpList P b Q c (a.put o.dst (dP w.heap.size)) (w.alloc (.cells d t))):wpList P b Q (o::c) a w:=by refine EK f λK e=>?_;unfold Oper.wp execOp;simp only[ho,Instr.alloc,Cq,g,Cb];exact e _ _ h
theorem Xl:(prog.info? 188).map (λi=>(i.zero,i.size))=some (some (DC (Dj 64)),64):=Φ
theorem Ky:∀w,(zeroValue 188).run prog w=.ok (DC (Dj 64)) w:=(Fj Xl).1
theorem D4:(prog.info? 188).map (·.size)=some 64:=(Fj Xl).2
theorem Kv:prog.underlying 188=some (.array 64 5):=Φ
theorem ZgB{b:Array Oper}{c:List Oper}{a:Act}(e:o.guard=none)(x:Operand)(ho:o.op=.move x)(h:wpList P b Q c (a.put o.dst (a.eval x)) w):wpList P b Q (o::c) a w:=by refine EK e λK d=>?_;unfold Oper.wp execOp;simp only[ho];exact d _ _ h
theorem Wj{c:Array Oper}{d:List Oper}{a:Act}(g:o.guard=none)(t:TypeId)(i:Nat)(x:Operand)(ho:o.op=.build t #[(i,x)])(u:Value)(hx:a.eval x=u){b:Array Value}(f:P.built t [(i,u)]=some b)(h:wpList P c Q d (a.put o.dst (.agg b)) w):wpList P c Q (o::d) a w:=by have e:((#[(i,x)]).map λ(i,x)=>(i,a.eval x)).toList=[(i,u)]:=Γ;refine wpList_build g t _ ho ?_ ?_;simp_all;rw[e,f];exact h
theorem Zr0(x:Int):prog.built 188 [(0,.int .u8 x)]=some (Value.int .u8 x::List.replicate 63 (.int .u8 0)).toArray:=Φ
theorem Sj(k:UInt8)(s:By):Dd (⟨#[k]⟩++s)=.int .u8 (k.toNat:Int)::Dd s:=by rfl
theorem KI(s:By):(Dd s).toArray.all (·.oneCell')=true:=CH (K7 s)
theorem JA(n:Nat):(Dj n).size=n:=by show(List.toArray _).size=n;simp
theorem Pi(n:Nat):Dd (Dj n)=List.replicate n (.int .u8 0):=Vc n
theorem Zku(w:World)(x:Addr)(n c:Nat):(Builtin.copy_ #[59,59] 3 #[dT (some x) n c,dN]).run prog w=.ok (goInt 0) w:=by rfl
theorem T7(w:World)(g:Nat)(t:TypeId)(L:Gf)(d:Gb w g t L)(o n b:Nat)(a:OA)(l c:Nat)(s:By)(h:GL w a l c s)(hs:s.size<=n)(hn:o+n<=L.length):
  ∃w',(Builtin.copy_ #[59,59] 3 #[dT (some (dQ g o)) n b,dT a l c]).run prog w=.ok (goInt s.size) w'/\Gb w' g t (Gq L o (Dd s))/\w.grownBy w' (some g):=by
 cases a with
 |none=>
  have i:s.size=0:=by rcases Bn s.size with e|e;omega;obtain⟨x,hx,_⟩:=h.2.2 0 ((Dd s)[0]'(by grind [Dh])) (Ab _);grind
  have ab:l=0:=by rw[h.1,i]
  have aa:=h.2.1 rfl;have hb:Dd s=[]:=by grind [List.eq_nil_of_length_eq_zero,Dh]
  refine⟨w,by grind [Zku],by simp_all[Gq],⟨rfl,rfl,rfl,Aa _,Γ⟩⟩
 |some x=>
  have f:Nat.min l n=s.size:=by rw[h.1];simp_all
  obtain⟨W',q1,q2,q3⟩:=Qc w 59 59 3 5 1 g o n b x l c L t (Dd s) underlying59 Vi d (by rw[f,Dh,B2])
   (λj v k=>by obtain⟨y,e,hy⟩:=h.2.2 j v k;simp_all) (by grind [Dh]) (K7 s)
  simp_all
theorem ZsT(k:UInt8)(s:By)(hs:s.size<=63):Gq (Dd (⟨#[k]⟩++Dj 63)) 1 (Dd s)=Dd (⟨#[k]⟩++Dg s 63):=by
 rw[Sj,Sj,Pi];unfold Gq Dg;rw[Dh];have a:(Value.int .u8 (k.toNat)::List.replicate 63 (Value.int .u8 0)).drop (1+s.size)=List.replicate (63-s.size) (.int .u8 0):=by grind
 rw[a];by_cases b:63<=s.size;simp_all[Dd,List.take_of_length_le,List.drop_zero];rw[if_neg b,Qd,Vc];simp
theorem Rt(k:UInt8)(s:By):(Dd (⟨#[k]⟩++Dg s 63)).toArray.size=64:=by grind [Sj,Dh,Jr]
theorem Zgc(w:World)(a:OA)(l c:Nat)(s:By)(h:GL w a l c s)(C:s.size<=63)(k:UInt8):
  Cl 213 #[.int .u8 (k.toNat:Int),dT a l c] w λe w'=>e=dR (DC (⟨#[k]⟩++Dg s 63))/\Bw w w':=by
 have F:=Db h;clear h;go_enter func213,ntmps213;go_upto_region 0 with fail;refine A7 ?_;refine JG rfl 188 rfl Ky ?_;refine ER ?_;obtain⟨W,v,n,J,D,z⟩:=Df w (Dd (Dj 64)) 188;rw[v];clear v;go_upto_region 1 with fail;refine A7 ?_;refine ZgB rfl _ rfl ?_;refine Wj rfl 188 0 _ rfl _ rfl ((Zr0 _).M (Cp some (show _=(Dd _).toArray by rw[Sj,Pi]))) ?_;refine JG rfl 188 rfl Ky ?_;obtain⟨b,x,o,B,L,A⟩:=Df W (Dd (Dj 64)) 188;rw[x];clear x;refine Bh rfl 188 _ _ rfl _ (Dd _).toArray rfl rfl 188 _ o ?_ ?_ (KI _) ?_;rw[D4];rfl;rfl;refine ER ?_;have p:Gb (b.setRow W.heap.size (Dd (⟨#[k]⟩++Dj 63)).toArray) W.heap.size 188 (Dd (⟨#[k]⟩++Dj 63)):=Bo b _ _ _ 188 _ o;have f:Bw W (b.setRow W.heap.size (Dd (⟨#[k]⟩++Dj 63)).toArray):=A.M ⟨rfl,rfl,rfl,Θ,λj I=>Bc b _ j _ Ω⟩;have M:=B _ _ _ n;obtain⟨u,y⟩:=ex (b.setRow W.heap.size (Dd (⟨#[k]⟩++Dj 63)).toArray);rw[<-y]at p f ⊢;have g:=z.M (f.Q Ω);have q:Gb u w.heap.size 188 (Dd (Dj 64)):=(f.block _ Ω).M n;obtain⟨d,K,r,m⟩:=T7 u _ 188 _ p 1 63 63 a l c s ((Da F).below g) C (by rw[Dh];exact Aa 64);have E:Gb d w.heap.size 188 (Dd (Dj 64)):=(m.block _ q.lt (λe=>by simp at e;omega)).M q;have i:=ZsT k s C;rw[i]at r;have G:=Db r;have t:=Db E;have H:=g.grown m g.size (λk e=>by cases e;omega);have aa:=Db D;clear r E q p o M n J B y z A f g m i D L;go_upto_region 3 with(at_builtin;refine Vb _ rfl _ _ 59 59 rfl _ _ rfl rfl K ?_);refine A7 ?_;refine wpList_load_row rfl 188 _ rfl _ rfl 188 _ _ _ (Da G) Kv rfl ?_ ?_;rw[D4,Rt];refine Bh rfl 188 _ _ rfl _ (Dd _).toArray rfl rfl 188 _ (Da t) ?_ ?_ (KI _) ?_;rw[D4,Rt];rw[Rt];rfl;refine ER ?_;go_wp2;have i:Gb (d.setRow w.heap.size (Dd (⟨#[k]⟩++Dg s 63)).toArray) w.heap.size 188 (Dd (⟨#[k]⟩++Dg s 63)):=Bo d _ _ _ 188 _ (Da t);refine Am (FC rfl _ _ w.heap.size 188 _ (0,0) _ rfl i Kv rfl ?_) rfl ⟨rfl,?_⟩;rw[D4,Rt];exact H.M ⟨rfl,rfl,rfl,Θ,λj I=>Bc d _ j _ Ω⟩
