/- Kept. -/
import Derived.Test.YtaieidcohdhgpaaGreatDoorKAC
import Derived.Deep.RegionHeld3
import Derived.RangeFuncNested
import Derived.RangeFuncBound
import Derived.Shelf.RegionOpen
import Derived.OwnWalkIn
import Derived.LoopNIn
import Derived.LoopIn
abbrev Go.KeepsOthers.M:=@Go.KeepsOthers.trans
abbrev Go.YieldAt.Q:=@Go.YieldAt.mono
abbrev Go.Boxed.J:=@Go.Boxed.cell
abbrev Go.Boxed.A:=@Go.Boxed.frozen
namespace Go.Proofs.YtaieidcohdhgpaaGreatDoor
variable{a:Act}{d k:Array Bool}{b:Array Oper}{n p:By}{ρ:Int->Nat}{I:LF}{F ns x:LY}{L:List (By×Int)}{g j:Nat}{f:Oper}{P:Program}{e:Region.Mode}{α β:Type}{u:VS}{c v:Value}{w w':World}{S:World->Prop}
set_option maxHeartbeats 40000000
set_option maxRecDepth 100000
set_option linter.all false
open Tryz
open Go.RowKit
abbrev Az:=@wp_region_held_drew
abbrev AL:=@wpAnyH_done
abbrev A4:=@wpAnyH_take
abbrev BK:=@AllReadyH.cons
abbrev CH:=@all_oneCell_toArray
abbrev CW:=@yieldsIf_load_mid
abbrev C4:=@wpList_load_mid
abbrev Ee:=@AllReadyH.nil
abbrev Eo:=@wpAnyH_ready
theorem pE:(∀(a:Act) (d:Tmp) (v:Value),a.put (some d) v={ a with tmps:=a.tmps.setIfInBounds d v })/\(∀(a:Act) (v:Value),a.put none v=a)/\(∀{α : Type} (xs:List α) (i:Nat) (h:i<xs.toArray.size),xs.toArray[i]=xs[i]'(by simpa using h))/\(∀{α : Type} (x : α) (xs:List α) (h:0<(x::xs).length),(x::xs)[0]=x)/\(∀{α : Type} (x : α) (xs:List α) (i:Nat) (h:i+1<(x::xs).length),(x::xs)[i+1]=xs[i]'(by simpa using h))/\(∀{α : Type} (xs:List α) (i:Nat) (x : α),xs.toArray.setIfInBounds i x=(xs.set i x).toArray)/\(∀{α : Type} (x : α) (xs:List α) (y : α),(x::xs).set 0 y=y::xs)/\(∀{α : Type} (x : α) (xs:List α) (i:Nat) (y : α),(x::xs).set (i+1) y=x::xs.set i y):=
 ⟨λ_ _ _=>rfl,λ_ _=>rfl,λ_ _ _=>List.getElem_toArray _,λ_ _ _=>rfl,λ_ _ _ _=>rfl,λ_ _ _=>List.setIfInBounds_toArray ..,λ_ _ _=>rfl,λ_ _ _ _=>rfl⟩
theorem tv(i:Nat){Q:Exit->Act->World->Prop}(v:Value)(n:b[i]?=some f)(q:YieldsIf P b S f v a)(h:wpAnyH P e b Q S g (d.setIfInBounds i true) (a.put f.dst v) w)(p:Region.noSelect b=true:=by kernel_rfl)(m:Region.free e b d i=true:=by kernel_rfl)(o:(Region.ready e b d).contains i=true:=by kernel_rfl)(j:∀c a w,Q (.panic c) (a.put f.dst v) w->Q (.panic c) a w:=by exact λ_ _ _ h=>h)(k:S w:=by assumption):wpAnyH P e b Q S (g+1) d a w:=
 A4 n p m o j q k h
theorem tk(i:Nat){Q:Exit->Act->World->Prop}{g:Act}(h:wpAnyH P e b Q S j k g w)(r:b[i]?=some f:=by rfl)(t:Region.noSelect b=true:=by kernel_rfl)(q:Region.free e b d i=true:=by kernel_rfl)(s:(Region.ready e b d).contains i=true:=by kernel_rfl)(n:∀c a w,Q (.panic c) (a.put f.dst v) w->Q (.panic c) a w:=by exact λ_ _ _ h=>h)(u:YieldsIf P b S f v a:=by refine Or.inl ⟨by rfl,?_⟩;intro w p;(try dsimp only at p);go_simp<;>with_reducible rfl)(l:a.put f.dst v=g:=by(try simp only[pE]);rfl)(m:d.setIfInBounds i true=k:=by(try simp only[pE]);rfl)(o:S w:=by assumption):wpAnyH P e b Q S (j+1) d a w:=by subst l m;exact A4 r t q s n u o h
theorem tu(i:Nat){Q:Exit->Act->World->Prop}(h:wpAnyH P e b Q S g (d.setIfInBounds i true) (a.put f.dst undef) w)(m:b[i]?=some f:=by rfl)(o:Region.noSelect b=true:=by kernel_rfl)(l:Region.free e b d i=true:=by kernel_rfl)(n:(Region.ready e b d).contains i=true:=by kernel_rfl)(j:∀c a w,Q (.panic c) (a.put f.dst undef) w->Q (.panic c) a w:=by exact λ_ _ _ h=>h)(p:YieldsIf P b S f undef a:=by exact Or.inr ⟨by rfl,rfl⟩)(k:S w:=by assumption):wpAnyH P e b Q S (g+1) d a w:=
 A4 m o l n j p k h
theorem rk(i:Nat){d:Region.Mode}{Q:Exit->Act->World->Prop}{o:Oper}{e:Nat}{c:Array Bool}(h:∀K':Act->World->Prop,Shut (∀a w,S w->(S w->wpAnyH P d b Q S e (c.setIfInBounds i true) a w)->K' a w)->if Region.wanted o (yielded b a.tmps)=true then Oper.wp P o a w K' Q else K' (a.put o.dst undef) w)(f:Region.ready d b c=[i]:=by kernel_rfl)(ho:b[i]?=some o:=by rfl):wpAnyH P d b Q S (e+1) c a w:=
 Eo f Θ (BK ho h Ee)
theorem tr(i:Nat){Q:Exit->Act->World->Prop}{g:Act}(h:wpAnyH P e b Q S j k g w)(q:b[i]?=some f:=by rfl)(s:Region.noSelect b=true:=by kernel_rfl)(p:Region.free e b d i=true:=by kernel_rfl)(r:(Region.ready e b d).contains i=true:=by kernel_rfl)(n:∀c a w,Q (.panic c) (a.put f.dst v) w->Q (.panic c) a w:=by exact λ_ _ _ h=>h)(t:YieldsIf P b S f v a:=by exact Or.inl ⟨by rfl,λ_ _=>rfl⟩)(l:a.put f.dst v=g:=by(try simp only[pE]);rfl)(m:d.setIfInBounds i true=k:=by(try simp only[pE]);rfl)(o:S w:=by assumption):wpAnyH P e b Q S (j+1) d a w:=by subst l m;exact A4 q s p r n t o h
theorem Sl.h4{e:TypeId}{n a:Nat}{c:Gf}(h:Sl w e 1 (dS g n a) n c)(f:Nat)(_hf:f<n)(u:Value):
  Sl (w.setCell (dQ g f) u) e 1 (dS g n a) n (c.set f u):=by
 rcases h.2 with⟨b,_⟩|⟨g',aa,R,b,j,d,i,h5,h6⟩;omega;cases b;refine⟨Γ,.inr ⟨g,a,R.set f u,rfl,j.set f u,d,i,Ξ,?_⟩⟩;grind [List.take_set]
theorem Gj.gw{b:Nat}{d:Nat}(h:Gj w b c (dS g F.length d) L F)(f:Nat)(i:f<F.length)(s:By)(hs:s.size<=2000000):
  Gj (w.setCell (dQ g f) (dU s)) b c (dS g F.length d) L (F.set f s):=by
 have aa:b≠g:=λe=>h.f0 (by rw[e];rfl);have j:c.ownBlock≠some g:=λe=>h.bj g e rfl;refine⟨?_,h.sl.setCell _ _ j,?_,h.nl,by simpa using h.nf,h.ok,?_,h.bj⟩;unfold Gb;rw[Aw _ _ _ _ Ω];exact h.hd;rw[B9,List.map_set];exact h.sf.h4 f i _;intro x a;rcases EY a with a|rfl;exact h.cd x a;omega
theorem YY{i:World}{a p:Nat}{o n d:Value}{r:List (By×Int)}{q:LY}(h:Gj w a o n r q)(j:Bw w i)(b:Gj i p d c L F)(f:∀k,Jp p d c k->w.heap.size<=k):
  Gc w a o n ((i.setCell (dQ a 0) d).setCell (dQ a 1) c) L F:=by
 have aa:=h.hd.lt;have m:d.ownBlock≠some a:=λe=>by have:=f a (.inr (.inl e));omega
 have l:c.ownBlock≠some a:=λe=>by have:=f a (.inr (.inr e));omega
 refine⟨d,c,⟨((h.at j).hd.set 0 _).set 1 _,(b.sl.setCell _ _ m).setCell _ _ m,(b.sf.setCell _ _ l).setCell _ _ l,b.nl,b.nf,b.ok,b.cd,b.bj⟩,?_,?_⟩;exact Fr.set (Fr.set (Fr.S j) _ _ (.inl rfl)) _ _ (.inl rfl);rintro k (rfl|g|g);exact .inl (.inl rfl);exact .inr (f k (.inr (.inl g)));exact .inr (f k (.inr (.inr g)))
def JI(L:List (By×Int))(F:LY)(p:By)(n:Int):Int×LY:=
 if Di p=false then(1,F) else
 if n<0\/1280<n then(2,F) else
 if DJ L p≠0 then(DJ L p,F) else
 if (p.toList==[47])=true then(5,F) else
 match GC L p with
 |none=>(3,F)
 |some f=>if f<0 then(5,F) else
  if 160<JM L (F.set f.toNat (Dg (F[f.toNat]?.getD ⟨#[]⟩) n.toNat)) then(9,F) else(0,F.set f.toNat (Dg (F[f.toNat]?.getD ⟨#[]⟩) n.toNat))
theorem Jr(s:By)(n:Nat):(Dg s n).size=n:=by unfold Dg;split;simp_all;rw[Aj];have:(ByteArray.mk (List.replicate (n-s.size) (0)).toArray).size=n-s.size:=BB;omega
theorem Zqz(w:World)(y:Nat)(vl T:Value)(L:List (By×Int))(F:LY)(h:Gj w y vl T L F)(aq:∀x∈L,x.2<F.length)(p:By)(hp:p.size<=2000000)(n:Int):
  Cl 87 #[dP y,dU p,dI n] w λe w'=>e=dR (dI (JI L F p n).1)/\Gc w y vl T w' L (JI L F p n).2:=by
 obtain⟨R,c⟩:=ex (JI L F p n);rw[<-c];unfold JI at c;have q:=Db h;have aC:=Db aq;obtain⟨av,cv,rfl,ax⟩:=h.sl.ao;have aF:=Db ax;have B:Hid (∀X w',R=(X,F)->Bw w w'->R.1=X/\Gc w y (dT av L.length cv) T w' L R.2):=λX w' e d=>by rw[e];exact⟨rfl,Gc.same h d⟩
 clear h ax aq;go_enter func87,ntmps87;go_wp2_with fail;apply(QB p _ hp).Q;rintro e w2⟨a2,n2,c2,rfl,_,d⟩;cases hob:Di p with
 |false=>
  have j:R=(1,F):=by rw[c,hob];rfl
  have i:=Db j;clear c j;go_wp2;go_ret;exact(Da B _ _ (Da i) d).elim λa b=>⟨by rw[a]<;>rfl,b⟩
 |true=>
 rw[hob,if_neg Θ]at c;by_cases au:n<0
 .have j:R=(2,F):=by rw[c,if_pos (.inl au)]
  have i:=Db j;clear c j;go_wp2;go_ret;exact(Da B _ _ (Da i) d).elim λa b=>⟨by rw[a]<;>rfl,b⟩
 by_cases aT:1280<n
 .have j:R=(2,F):=by rw[c,if_pos (.inr aT)]
  have i:=Db j;clear c j;go_wp2;go_ret;exact(Da B _ _ (Da i) d).elim λa b=>⟨by rw[a]<;>rfl,b⟩
 rw[if_neg Ω]at c;obtain⟨O,Z⟩:=ex (DJ L p);have V:Cl 104 #[dP y,dU p] w2 λe aZ=>e=dR (dI (DJ L p))/\aZ=w2:=((Da q).at d).da p hp;rw[<-Z]at c V;by_cases P:O≠0
 .have a1:(O != 0)=true:=by rw[EC];exact P
  rw[if_pos P]at c;clear P Z;have i:=Db c;clear c;go_wp2_with(go_at_call 104;apply V.Q;rintro e w'⟨rfl,l⟩;rw[l];clear l);go_ret;exact(Da B _ _ (Da i) d).elim λa b=>⟨by rw[a]<;>rfl,b⟩
 rw[if_neg P]at c;obtain rfl:O=0:=Ω;go_wp2_with(go_at_call 104;apply V.Q;rintro e w'⟨rfl,l⟩;rw[l];clear l);have am:=((Da q).at d).find p;apply am.Q;rintro e w'⟨r,⟨rfl,an⟩,l⟩;rw[l];clear l am;have a3:=((Da q).at d).c.c0;have a4:=((Da q).at d).c.c1;clear V Z P;cases h1:(p.toList==[47]) with
 |true=>
  have aH:(p.toList != [47])=false:=by simp only[bne,h1];rfl
  rw[if_pos h1]at c;clear an;have i:=Db c;clear c;go_wp2;go_ret;exact(Da B _ _ (Da i) d).elim λa b=>⟨by rw[a]<;>rfl,b⟩
 |false=>
 rw[if_neg (by rw[h1];simp)]at c;have aH:(p.toList != [47])=true:=by simp only[bne,h1];rfl
 rcases an with⟨rfl,aw⟩|⟨k,x,rfl,I,hx,ap⟩
 .have hl:GC L p=none:=(KJ (.inl ⟨rfl,aw⟩)).elim (λh=>h.2) (λ⟨_,_,h,_⟩=>Ω);rw[hl]at c;clear hl aw;have i:=Db c;clear c;go_wp2;go_ret;exact(Da B _ _ (Da i) d).elim λa b=>⟨by rw[a]<;>rfl,b⟩
 rw[GG.d5 I hx ap]at c;have a5:=(Ac.1 I).1;have aP:=Da aC x (Ai I);obtain⟨g,rfl,q0,J⟩:=(Da aF) k x I;have hg:g<w.heap.size:=(Da q).sl.lt rfl;have aY:=(d.J (p:=(dQ g (k*2+1))) hg).M J;have aD:=Db I;clear ap hx I q0 J;by_cases ab:x.2<0
 .have j:R=(5,F):=by rw[c];simp[ab]
  have i:=Db j;clear c j;go_wp2;go_ret;exact(Da B _ _ (Da i) d).elim λa b=>⟨by rw[a]<;>rfl,b⟩
 simp only[if_neg ab]at c;obtain⟨f,hf⟩:∃f:Nat,x.2=(f:Int):=⟨x.2.toNat,Ω⟩;rw[hf]at c aY aP;have ao:f<F.length:=Ω;have Y:F[f]?=some F[f]:=Ab ao;have aW:F[f].size<=2000000:=(Da q).cd _ (BE _);rw[Bf,Y]at c;obtain⟨m,rfl⟩:∃m:Nat,n=m:=⟨n.toNat,Ω⟩;rw[Bf]at c;obtain⟨s,Q⟩:=ex (Dg F[f] m);have ai:R=if 160<JM L (F.set f s) then(9,F) else(0,F.set f s):=by rw[Q];exact c
 have aV:s.size<=2000000:=by rw[Q,Jr];omega
 have ag:=Db ai;clear c ai;have bd:(0:Int)<=(f:Int):=Ω;have aB:=Db hf;clear ab au hf;have ak:Hid (Cl 106 #[dP y] w2 λe w'=>e=dR (dP w2.heap.size)/\∃ad ac,Gj w' w2.heap.size ad ac L F/\Bw w2 w'/\∀k,Jp w2.heap.size ad ac k->w2.heap.size<=k):=Rv w2 y _ T L F ((Da q).at d);go_wp2_with fail;apply(Da ak).Q;rintro e M⟨rfl,ad,ac,v,aj,ar⟩;obtain⟨al,cl,rfl,ay⟩:=v.sl.ao;obtain⟨af,N,rfl,az⟩:=v.sf.dx;obtain⟨z,rfl,aX,J⟩:=ay k x (Da aD);obtain⟨gf,rfl,s0⟩:=az f _ Y;rw[Da aB]at J;have v0:=v.c.c0;have v1:=v.c.c1;have a8:=v.nf;have a9:=v.nl;have aR:gf≠w2.heap.size:=λe=>v.f0 (by rw[e];rfl);have aS:z≠gf:=λe=>v.bj gf (by rw[e];rfl) rfl;have a6:w2.heap.size≠gf:=λe=>aR e.r;have a7:gf≠z:=λe=>aS e.r;have a0:=Db v;have ae:=Db ar;have aE:Hid (∀W,Cl 107 #[dU F[f],dI m] W λe w'=>e=dR (dU s)/\Bw W w'):=λW=>by rw[Q];exact Yi F[f] m W aW Ω
 have HC:Hid (∀o,Below M.drew.heap.size M.drew o->Gj o w2.heap.size (dS z L.length cl) (dS gf F.length N) L F/\o.cell? (dQ gf f)=some (dU F[f])/\o.frozen? (dQ gf f)=false/\o.cell? (dQ w2.heap.size 0)=some (dS z L.length cl)/\o.cell? (dQ w2.heap.size 1)=some (dS gf F.length N)/\o.cell? (dQ z (k*2+1))=some (dI f)):=λo t=>by have G:Bw M o:=⟨t.os,t.tape,t.output,t.size,t.block⟩;have D:=v.at G;obtain⟨Rr,aM⟩:=D.sf.type (g:=gf) rfl;exact⟨D,(G.J (p:=dQ gf f) (v.sf.lt rfl)).M s0,aM.A f,D.c.c0,D.c.c1,(G.J (p:=(dQ z (k*2+1))) (v.sl.lt rfl)).M J⟩
 have HS:=Db Q;clear aX ay az v ar Y Q ak;go_wp2_with fail;refine Az (S:=λW=>W.cell? (dQ w2.heap.size 0)=some (dS z L.length cl)/\W.cell? (dQ w2.heap.size 1)=some (dS gf F.length N)/\W.cell? (dQ z (k*2+1))=some (dI f)) Φ (by go_keep) (λaI=>?_);refine tk 0 ?_;refine tk 1 ?_;refine tk 2 ?_;refine tk 3 ?_;refine tk 4 ?_;refine tk 5 ?_;refine tk 6 ?_;refine tk 7 ?_;refine tk 8 ?_;refine tk 9 ?_;refine tk 10 ?_;refine tk 11 ?_;refine tk 12 ?_;refine tk 13 ?_;refine tk 14 ?_;refine tk 15 ?_;refine tk 16 ?_;refine tk 17 ?_;refine tk 18 ?_;refine tk 19 ?_;refine tk 20 ?_;refine tk 21 ?_;refine tk 22 ?_;refine tk 23 ?_;refine tk 24 ?_;refine tk 26 ?_;refine rk 25 (λK A=>?_);go_simp;refine A.out _ _ (by go_keep) (λaJ=>?_);clear A K aI;try simp only[pE]
 refine rk 27 (λK A=>?_);go_simp;go_at_call 107;apply(Da aE _).Q;rintro e o⟨rfl,t⟩;obtain⟨D,z1,z2,z3,z4,z5⟩:=Da HC o t;have H4:=Db D;clear D;go_wp2_with fail;refine A.out _ _ (by go_keep) (λaK=>?_);clear A K aJ;try simp only[pE]
 refine tk 28 ?_;refine rk 29 (λK A=>?_);go_simp;refine A.out _ _ (by go_keep) (λaL=>?_);clear A K aK;try simp only[pE]
 refine AL Φ ?_ _;have G:Bw w2 o:=aj.M (Below.mono (⟨t.os,t.tape,t.output,t.size,t.block⟩:Bw M o) aj.size);obtain⟨C,U⟩:=ex (o.setCell (dQ gf f) (dU s));rw[<-U];have E:Gj C w2.heap.size (dS z L.length cl) (dS gf F.length N) L (F.set f s):=by rw[U];exact(Da H4).gw f ao s aV
 have aQ:w2.heap.size<=gf:=Da ae gf (.inr (.inr rfl));have aN:Bw w2 C:=by rw[U];exact G.setCell (p:=dQ gf f) aQ _
 have H:Bw w C:=d.M (aN.Q d.size);have aa:=R7 C w2.heap.size _ _ L (F.set f s) E.c;have aA:JM L (F.set f s)<=(F.set f s).length*40000:=TH L (F.set f s) E.cd _;rw[B9]at aA;obtain⟨u,hu⟩:=ex (JM L (F.set f s));rw[<-hu]at aa aA;have ah:Hid (R=if 160<u then(9,F) else(0,F.set f s)):=by rw[hu];exact Da ag
 have y0:=E.c.c0;have y1:=E.c.c1;have H5:=Db E;have x0:=((Da q).at H).c.c0;have x1:=((Da q).at H).c.c1;have f0:=((Da q).at H).hd.A 0;have f1:=((Da q).at H).hd.A 1;have aU:=(Da q).hd.lt;have bc:y<w2.heap.size:=As aU d.size;have ba:y≠w2.heap.size:=Ω;have bb:w2.heap.size≠y:=Ω;have aG:Hid (Gc w y (dS g L.length cv) T ((C.setCell (dQ y 0) (dS z L.length cl)).setCell (dQ y 1) (dS gf F.length N)) L (F.set f s)):=
  YY (Da q) H E (λk hk=>Ae d.size (Da ae k hk))
 clear ag hu E aL U z1 z2 z3 z4 z5 v0 v1 J s0 t G;by_cases hc:160<u
 .have j:R=(9,F):=by rw[Da ah,if_pos hc]
  have i:=Db j;clear j;have aO:(160:Int)<(u:Int):=Ω;go_wp2_with(go_at_call 52;apply aa.Q;rintro e w'⟨rfl,l⟩;rw[l];clear l);go_ret;exact(Da B _ _ (Da i) H).elim λa b=>⟨by rw[a]<;>rfl,b⟩
 .have j:R=(0,F.set f s):=by rw[Da ah,if_neg hc]
  have i:=Db j;clear j;have aO:¬(160:Int)<(u:Int):=Ω;go_wp2_with(go_at_call 52;apply aa.Q;rintro e w'⟨rfl,l⟩;rw[l];clear l);go_ret;exact⟨by rw[Da i]<;>rfl,by rw[Da i];exact Da aG⟩
def I8(s:By)(i:Nat)(d:By):By:=Dg s i++d++(if i+d.size<s.size then s.extract (i+d.size) s.size else⟨#[]⟩)
def Ko(F:LY)(f i:Nat)(d:By):LY:=if 0<d.size then F.set f (I8 (F[f]?.getD ⟨#[]⟩) i d) else F
def Qb(L:List (By×Int))(F:LY)(L':List (By×Int))(F':LY):Int×List (By×Int)×LY:=
 if 160<JM L' F' then(9,L,F) else(0,L',F')
def DT(L:List (By×Int))(F:LY)(p:By)(i:Int)(d:By):Int×List (By×Int)×LY:=
 if Di p=false then(1,L,F) else
 if i<0\/1280<i\/1280<i+d.size then(2,L,F) else
 if DJ L p≠0 then(DJ L p,L,F) else
 if (p.toList==[47])=true then(5,L,F) else
 match GC L p with
 |none=>if Ks L F p 1=false then(8,L,F) else Qb L F (L++[(p,(F.length:Int))]) (Ko (F++[⟨#[]⟩]) F.length i.toNat d)
 |some f=>if f<0 then(5,L,F) else Qb L F L (Ko F f.toNat i.toNat d)
theorem SO(w W:World)(a:Nat)(r n:Value)(L:List (By×Int))(F:LY)(h:Gj w a r n L F)(b:Bw w W)(hF:F.length+1<=2000000)(s:By)(hs:s.size<=2000000)(nb:Nat)(E:Gb W nb 9 [dU s]):
  ∃d i f w2,(Builtin.append_ #[84,84] 84 #[n,dS nb 1 1]).run prog W=.ok (dT d i f) w2/\w2.cell? (dQ a 1)=some n/\w2.frozen? (dQ a 1)=false/\
   Hid (Gc w a r n (w2.setCell (dQ a 1) (dT d i f)) L (F++[s])):=by
 obtain⟨K,C,H,I,J⟩:=Bk SW;have o:=h.e (X:=λ_=>False) (Fr.S b) Γ;obtain⟨v',w2,M,v,l,z⟩:=J1 W 84 84 9 K _ 1 16 underlying84 C H I J rfl Δ n _ _ o.sf _ 1 1 _ rfl
  (λj u t=>by rw[AG,Av,E.J];omega) (by intro u t;simp at t;subst t;rfl) (by grind [maxLen]) Ω
 obtain⟨d,i,f,rfl⟩:=v.a0;have p:Gb w2 a 89 [r,n]:=by unfold Gb;rw[(l.block a o.hd.lt (λe=>h.f0 e.r))];exact o.hd
 refine⟨d,i,f,w2,M,(p.J 1).M rfl,p.A 1,r,dT d i f,⟨?_,?_,?_,h.nl,?_,h.ok,?_,?_⟩,?_,?_⟩;exact p.set 1 _;refine(o.sl.kept (λk c e=>l.block k c (λA=>?_))).setCell _ _ (λe=>h.h9 e);exact h.bj k e A.r;have G:(Value.slice d i f).ownBlock≠some a:=λe=>by obtain⟨R,B⟩:=v.type e;exact absurd (B.type p) Δ
 have:=v.setCell (dQ a 1) (dT d i f) G;simp_all;simp_all;intro x q;rcases Al.1 q with q|q;exact h.cd x q;simp_all;intro g y e;rcases z g e with m|m;exact h.bj g y m;have:=o.sl.lt y;omega;refine Fr.set ⟨l.os.M b.os,l.tape.M b.tape,l.output.M b.output,Ae b.size l.size,λk c D=>?_⟩ _ _ (.inl rfl);rw[l.block k (As c b.size) (λe=>D (.inr (.inr e.r))),b.block k c];rintro k (rfl|c|c);exact .inl (.inl rfl);exact .inl (.inr (.inl c));rcases z k c with m|m;exact .inl (.inr (.inr m));exact .inr (Ae b.size m)
def ST(w2 w5:World)(L:List (By×Int))(F:LY)(m:Nat)(d:By)(R:Int×List (By×Int)×LY)(t:Value):Prop:=
 ∃(k f:Nat) (x:By×Int) (vl' vf':Value) (L':List (By×Int)) (F':LY),t=dI k/\L'[k]?=some x/\x.2=f/\f<F'.length/\Gj w5 w2.heap.size vl' vf' L' F'/\Bw w2 w5/\(∀j,Jp w2.heap.size vl' vf' j->w2.heap.size<=j)/\R=Qb L F L' (Ko F' f m d)
def S3(w2 w6:World)(L':List (By×Int))(F':LY):Prop:=∃vl' vf',Gj w6 w2.heap.size vl' vf' L' F'/\Bw w2 w6/\(∀j,Jp w2.heap.size vl' vf' j->w2.heap.size<=j)
theorem OY(s:By)(m:Nat)(d:By):(I8 s m d).size=max (m+d.size) s.size:=by unfold I8;rw[Aj,Aj,Jr];split;grind [ByteArray.size_extract];have:(ByteArray.mk #[]).size=0:=rfl;omega
theorem Yy{X:Nat->Prop}{d e:World}(a:Bw w d)(b:Fr X d e)(hX:∀k,X k->w.heap.size<=k):Bw w e:=
 ⟨b.os.M a.os,b.tape.M a.tape,b.output.M a.output,Ae a.size b.size,λk c=>(b.block k (As c a.size) Γ).M (a.block k c)⟩
theorem Zth(wc g:World)(a:Nat)(q v:Value)(L:List (By×Int))(F:LY)(N:Gj g a q v L F)(x:Bw wc g)(y:∀j,Jp a q v j->wc.heap.size<=j)(J:L.length+1<=2000000)(I:F.length+1<=2000000)(p:By)(K:p.size<=2000000)(M:KT p):
  ∃i n l b,(Builtin.append_ #[87,87] 87 #[q,dS g.heap.size 1 1]).run prog (g.alloc (.cells #[dU p,dI F.length] 103)).drew=.ok (dT i n l) b/\b.cell? (dQ a 0)=some q/\b.frozen? (dQ a 0)=false/\a<b.heap.size/\
   ∃d f e,b.cell? (dQ a 1)=some (dT d f e)/\
   ∃k o m c,(Builtin.append_ #[84,84] 84 #[dT d f e,dS b.heap.size 1 1]).run prog ((b.setCell (dQ a 0) (dT i n l)).alloc (.cells #[dU ⟨#[]⟩] 9))=.ok (dT k o m) c/\c.cell? (dQ a 1)=some (dT d f e)/\c.frozen? (dQ a 1)=false/\
    Hid (∃t s,Gj (c.setCell (dQ a 1) (dT k o m)) a t s (L++[(p,(F.length:Int))]) (F++[⟨#[]⟩])/\Bw wc (c.setCell (dQ a 1) (dT k o m))/\(∀j,Jp a t s j->wc.heap.size<=j)):=by
 obtain⟨i,n,l,b,R,S,T,U⟩:=M5 g _ a q v L F N (((Ad _ _).alloc (Aa _) _).drew) J p F.length K M _ (Bv g _);obtain⟨C,aa,r,E,P⟩:=Da U;obtain⟨d,f,e,rfl⟩:=r.sf.a0;have D:=(CN _ _ _ _ Θ).r.M r.c.c1;have z:(b.setCell (dQ a 0) (dT i n l)).heap.size=b.heap.size:=Ξ;have O:a<b.heap.size:=by rw[<-z];exact r.hd.lt
 have A:∀j,Jp a C (dT d f e) j->wc.heap.size<=j:=λj u=>(P j u).elim (y j) (λh=>Ae x.size h);have w:=Yy x E y;obtain⟨k,o,m,c,B,V,W,X⟩:=SO _ _ a C _ _ F r ((Ad _ _).alloc (Aa _) _) I ⟨#[]⟩ Δ _ (Bv _ _);rw[z]at B;obtain⟨t,s,H,G,Q⟩:=Da X;exact⟨i,n,l,b,R,S,T,O,d,f,e,D,k,o,m,c,B,V,W,t,s,H,Yy w G A,λj u=>(Q j u).elim (A j) (λh=>Ae w.size h)⟩
theorem Zn0(w:World)(C:Nat)(vl vf:Value)(L:List (By×Int))(F:LY)(h:Gj w C vl vf L F)(aG:∀x∈L,x.2<F.length)(hL:L.length+1<=2000000)(hF:F.length+1<=2000000)(p:By)(hp:p.size<=2000000)(i:Int)(d:By)(hd:d.size<=2000000):
  Cl 47 #[dP C,dU p,dI i,dU d] w λe w'=>e=dR (dI (DT L F p i d).1)/\Gc w C vl vf w' (DT L F p i d).2.1 (DT L F p i d).2.2:=by
 obtain⟨R,c⟩:=ex (DT L F p i d);rw[<-c];unfold DT at c;have z:=Db h;have aU:=Db aG;obtain⟨av,cv,rfl,aM⟩:=h.sl.ao;have az:=Db aM;have E:Hid (∀e0 w',R=(e0,L,F)->Bw w w'->R.1=e0/\Gc w C (dT av L.length cv) vf w' R.2.1 R.2.2):=λe0 w' e j=>by rw[e];exact⟨rfl,Gc.same h j⟩
 clear h aM aG;go_enter func47,ntmps47;go_wp2_with fail;apply(QB p _ hp).Q;rintro e w2⟨a2,n2,c2,rfl,_,j⟩;cases hob:Di p with
 |false=>
  have l:R=(1,L,F):=Ξ;have n:=Db l;clear c l;go_wp2;go_ret;exact(Da E _ _ (Da n) j).elim λa b=>⟨by rw[a]<;>rfl,b⟩
 |true=>
 rw[hob,if_neg Θ]at c;by_cases bn:i<0
 .have l:R=(2,L,F):=Ξ;have n:=Db l;clear c l;go_wp2;go_ret;exact(Da E _ _ (Da n) j).elim λa b=>⟨by rw[a]<;>rfl,b⟩
 by_cases bo:1280<i
 .have l:R=(2,L,F):=Ξ;have n:=Db l;clear c l;go_wp2;go_ret;exact(Da E _ _ (Da n) j).elim λa b=>⟨by rw[a]<;>rfl,b⟩
 obtain⟨m,rfl⟩:∃m:Nat,i=m:=⟨i.toNat,Ω⟩;by_cases bp:(1280:Int)<m+d.size
 .have l:R=(2,L,F):=Ξ;have n:=Db l;clear c l;go_wp2;go_ret;exact(Da E _ _ (Da n) j).elim λa b=>⟨by rw[a]<;>rfl,b⟩
 rw[if_neg Ω,Bf]at c;obtain⟨Q,ap⟩:=ex (DJ L p);have ad:Cl 104 #[dP C,dU p] w2 λe bg=>e=dR (dI (DJ L p))/\bg=w2:=((Da z).at j).da p hp;rw[<-ap]at c ad;by_cases h0:Q≠0
 .have bj:(Q != 0)=true:=Ξ;rw[if_pos h0]at c;clear h0 ap;have n:=Db c;clear c;go_wp2_with(go_at_call 104;apply ad.Q;rintro e w'⟨rfl,o⟩;rw[o];clear o);go_ret;exact(Da E _ _ (Da n) j).elim λa b=>⟨by rw[a]<;>rfl,b⟩
 rw[if_neg h0]at c;obtain rfl:Q=0:=Ω;clear h0 ap;go_wp2_with(go_at_call 104;apply ad.Q;rintro e w'⟨rfl,o⟩;rw[o];clear o);have aF:=((Da z).at j).find p;apply aF.Q;rintro e w'⟨r,⟨rfl,aq⟩,o⟩;rw[o];clear o aF;have a0:=((Da z).at j).c.c0;have a4:=((Da z).at j).c.c1;clear ad;cases h1:(p.toList==[47]) with
 |true=>
  have aW:(p.toList != [47])=false:=Ξ;rw[if_pos h1]at c;clear aq;have n:=Db c;clear c;go_wp2;go_ret;exact(Da E _ _ (Da n) j).elim λa b=>⟨by rw[a]<;>rfl,b⟩
 |false=>
 rw[if_neg Ξ]at c;have aW:(p.toList != [47])=true:=Ξ;have Y:(∃k x,r=((k:Nat):Int)/\L[k]?=some x/\x.2<0/\R=(5,L,F))\/((r = -1/\R=if Ks L F p 1=false then(8,L,F) else Qb L F (L++[(p,(F.length:Int))]) (Ko (F++[⟨#[]⟩]) F.length m d))\/(∃(k:Nat) (x:By×Int) (f:Nat),r=k/\L[k]?=some x/\x.2=f/\f<F.length/\R=Qb L F L (Ko F f m d))):=by rcases aq with⟨rfl,a9⟩|⟨k,x,rfl,q,hx,a7⟩;have hl:GC L p=none:=(KJ (.inl ⟨rfl,a9⟩)).elim (λh=>h.2) (λ⟨_,_,h,_⟩=>Ω);simp_all;rw[GG.d5 q hx a7]at c;by_cases aQ:x.2<0;exact .inl ⟨k,x,rfl,q,aQ,Ξ⟩;have U:=Da aU x (Ai q);refine .inr (.inr ⟨k,x,x.2.toNat,rfl,q,Ω,Ω,?_⟩);simp_all
 clear aq c;rcases Y with⟨k,x,rfl,q,aQ,c⟩|Y
 .obtain⟨g,rfl,q0,J⟩:=(Da az) k x q;have hg:g<w.heap.size:=(Da z).sl.lt rfl;have aR:=(j.J (p:=(dQ g (k*2+1))) hg).M J;have aH:=(Ac.1 q).1;clear q q0 J;have n:=Db c;clear c;go_wp2;go_ret;exact(Da E _ _ (Da n) j).elim λa b=>⟨by rw[a]<;>rfl,b⟩
 go_upto_region 10 with fail
 go_cut [64] (λt wc=>t=dV false/\wc=w2)
 case first=>
  rcases Y with⟨rfl,c⟩|⟨k,x,f,rfl,q,P,U,c⟩
  .clear c;go_wp2
   go_meet
   simp_all
  .clear c;obtain⟨g,rfl,q0,J⟩:=(Da az) k x q;have hg:g<w.heap.size:=(Da z).sl.lt rfl;have aR:=(j.J (p:=(dQ g (k*2+1))) hg).M J;have aH:=(Ac.1 q).1;rw[P]at aR;clear q q0 J;go_wp2
   go_meet
   simp_all
 case rest=>
 obtain⟨rfl,be⟩:=hcut;obtain rfl:=be.r;have aa:=Db Y;clear Y a0 a4;have aD:Hid (Cl 106 #[dP C] w2 λe w'=>e=dR (dP w2.heap.size)/\∃ax aw,Gj w' w2.heap.size ax aw L F/\Bw w2 w'/\∀k,Jp w2.heap.size ax aw k->w2.heap.size<=k):=Rv w2 C _ vf L F ((Da z).at j);have bq:m+d.size<=1280:=Ω;go_wp2_with fail;apply(Da aD).Q;rintro e w3⟨rfl,ax,aw,I,ae,aJ⟩;clear aD;have ac:=Db I;have ai:=Db aJ;obtain⟨al,cl,rfl,bb⟩:=I.sl.ao;obtain⟨af,cf,rfl,bc⟩:=I.sf.dx;have v0:=I.c.c0;have v1:=I.c.c1;have br:=I.nf;have bu:=I.nl;clear I aJ bb bc;go_upto_if 68 with fail
 go_cut [12,14] (λt _ w5=>ST w2 w5 L F m d R t)
 case first=>
  rcases Da aa with⟨rfl,c⟩|⟨k,x,f,rfl,q,P,U,c⟩
  .have ah:=T5 w3 C _ vf L F ((Da z).at (j.M (ae.Q j.size))).c p hp (UF p hob) 1 Ω;cases hroom:Ks L F p 1 with
   |false=>
    rw[if_pos hroom]at c;rw[hroom]at ah;have n:=Db c;clear c aa;go_wp2_with(go_at_call 102;apply ah.Q;rintro e w'⟨rfl,o⟩;rw[o];clear o);go_ret;exact(Da E _ _ (Da n) (j.M (ae.Q j.size))).elim λa b=>⟨by rw[a]<;>rfl,b⟩
   |true=>
    rw[if_neg (by rw[hroom];simp)]at c;rw[hroom]at ah;obtain⟨a1,n1,c1,A,r1,r2,r3,bA,bh,bC,bi,Q,a3,n3,c3,w5,s1,s2,s3,s4⟩:=Zth w2 w3 _ _ _ L F (Da ac) ae (Da ai) hL hF p hp (UF p hob);have V:Hid (ST w2 (w5.setCell (dQ w2.heap.size 1) (dT a3 n3 c3)) L F m d R (dI (L.length:Nat))):=(by obtain⟨aT,aS,h2,b2,o2⟩:=Da s4;exact⟨L.length,F.length,(p,(F.length:Int)),aT,aS,_,_,rfl,Θ,rfl,Θ,h2,b2,o2,c⟩);have bB:w2.heap.size<w3.heap.size:=(Da ac).hd.lt;clear c aa s4;go_wp2_with(go_at_call 102;apply ah.Q;rintro e w'⟨rfl,o⟩;rw[o];clear o);go_region_law (refine Kl rfl _ _ 87 87 rfl _ _ (by rfl) (by rfl) r1 ?_)
    all_goals
     go_wp2_with(at_builtin;refine Aq _ rfl _ _ 84 84 rfl _ _ rfl rfl _ _ s1 ?_;clear s1)
     go_meet
     exact Da V
  .have V:Hid (ST w2 w3 L F m d R (dI k)):=⟨k,f,x,_,_,L,F,rfl,q,P,U,Da ac,ae,Da ai,c⟩;clear c q P;go_wp2
   go_meet
   exact Da V
 case rest=>
 obtain⟨k,f,x,aT,aS,N,y,rfl,q,P,U,H,ag,aK,c⟩:=hcut;clear aa v0 v1 ac ai;obtain⟨a5,c5,rfl,aN⟩:=H.sl.ao;obtain⟨b5,d5,rfl,aO⟩:=H.sf.dx;obtain⟨g',rfl,bf,J⟩:=aN k x q;rw[P]at J;have aC:y[f]?=some y[f]:=Ab U;obtain⟨gf,rfl,s0⟩:=aO f _ aC;have aH:=(Ac.1 q).1;have v0:=H.c.c0;have v1:=H.c.c1;have bs:=H.nf;have bv:=H.nl;have ar:y[f].size<=2000000:=H.cd _ (BE _);obtain⟨s,hs⟩:=ex (y[f]);rw[<-hs]at s0 ar;have X:=Db H;have ab:=Db aK;have aj:Hid (Ko y f m d=if 0<d.size then y.set f (I8 s m d) else y):=by grind [Hid,Ko]
 have HR:=Db c;clear bf aN aO q P aC hs c H aK;go_upto_if 121 with fail
 go_cut [17,18] (λ_ _ w6=>S3 w2 w6 N (Ko y f m d))
 case first=>
  by_cases aE:0<d.size
  .have bk:(0:Int)<(d.size:Int):=Ω;have aP:=OY s m d;have a8:gf≠w2.heap.size:=λe=>(Da X).f0 (by rw[e];rfl);have bm:w2.heap.size≠gf:=λe=>a8 e.r;have ay:Hid (∀W,Cl 107 #[dU s,dI m] W λe w'=>e=dR (dU (Dg s m))/\Bw W w'):=λW=>Yi s m W ar Ω;have HC:Hid (∀A,Below wc.drew.heap.size wc.drew A->A.cell? (dQ gf f)=some (dU s)/\A.frozen? (dQ gf f)=false/\A.cell? (dQ w2.heap.size 1)=some (dS gf y.length d5)/\Hid (S3 w2 (A.setCell (dQ gf f) (dU (I8 s m d))) N (Ko y f m d))):=λA G=>by have ao:Bw wc A:=⟨G.os,G.tape,G.output,G.size,G.block⟩;have h4:=(Da X).at ao;obtain⟨Rr,aX⟩:=h4.sf.type (g:=gf) rfl;refine⟨(ao.J (p:=dQ gf f) ((Da X).sf.lt rfl)).M s0,aX.A f,h4.c.c1,_,_,?_,?_,Da ab⟩;rw[Da aj,if_pos aE];exact h4.gw f U _ Ω;exact(ag.M (ao.Q ag.size)).setCell (p:=dQ gf f) (Da ab gf (.inr (.inr rfl))) _
   have bl:=Jr s m;by_cases aI:m+d.size<s.size
   .have Z:I8 s m d=Dg s m++d++s.extract (m+d.size) s.size:=(by unfold I8;rw[if_pos aI]);have aA:=Db Z;clear Z aP;go_wp2_with fail;refine Az (S:=λW=>W.cell? (dQ w2.heap.size 1)=some (dS gf y.length d5)) Φ (by go_keep) (λak=>?_);refine tr 0 ?_;refine tr 1 ?_;refine tk 2 ?_;refine tk 3 ?_;refine tr 4 ?_;refine tr 5 ?_;refine tr 6 ?_;refine tr 8 ?_;refine tk 10 ?_;refine rk 7 (λK B=>?_);go_simp;go_at_call 107;apply(Da ay _).Q;rintro e A⟨rfl,G⟩;obtain⟨z1,z2,z3,z4⟩:=Da HC A G;go_wp2_with fail;refine B.out _ _ (by go_keep) (λam=>?_);clear B K ak;try simp only[pE]
    refine tv 9 (?_) rfl (Or.inl ⟨by rfl,?_⟩) ?_
    rotate_left
    .intro w O;(try dsimp only at O);go_simp;rw[if_neg (by first|omega|(simp only[Aj,Af];omega))]
    try simp only[pE]
    refine tv 11 (?_) rfl (Or.inl ⟨by rfl,?_⟩) ?_
    rotate_left
    .intro w O;(try dsimp only at O);go_simp;rw[if_neg (by first|omega|(simp only[Aj,Af];omega))]
    try simp only[pE]
    refine tk 12 ?_;refine rk 13 (λK B=>?_);go_simp;refine B.out _ _ (by go_keep) (λan=>?_);clear B K am;try simp only[pE]
    refine AL Φ ?_ _;clear an;go_wp2
    go_meet
    grind [Da]
   .have Z:I8 s m d=Dg s m++d++⟨#[]⟩:=(by unfold I8;rw[if_neg aI]);have aA:=Db Z;clear Z aP;go_wp2_with fail;refine Az (S:=λW=>W.cell? (dQ w2.heap.size 1)=some (dS gf y.length d5)) Φ (by go_keep) (λak=>?_);refine tk 0 ?_;refine tk 1 ?_;refine tk 2 ?_;refine tk 3 ?_;refine tk 4 ?_;refine tk 5 ?_;refine tk 6 ?_;refine tk 8 ?_;refine tk 10 ?_;refine rk 7 (λK B=>?_);go_simp;go_at_call 107;apply(Da ay _).Q;rintro e A⟨rfl,G⟩;obtain⟨z1,z2,z3,z4⟩:=Da HC A G;go_wp2_with fail;refine B.out _ _ (by go_keep) (λam=>?_);clear B K ak;try simp only[pE]
    refine tv 9 (?_) rfl (Or.inl ⟨by rfl,?_⟩) ?_
    rotate_left
    .intro w O;(try dsimp only at O);go_simp;rw[if_neg (by first|omega|(simp only[Aj,Af];omega))]
    try simp only[pE]
    refine tv 11 (?_) rfl (Or.inl ⟨by rfl,?_⟩) ?_
    rotate_left
    .intro w O;(try dsimp only at O);go_simp;rw[if_neg (by first|omega|(simp only[Aj,Af];omega))]
    try simp only[pE]
    refine tk 12 ?_;refine rk 13 (λK B=>?_);go_simp;refine B.out _ _ (by go_keep) (λan=>?_);clear B K am;try simp only[pE]
    refine AL Φ ?_ _;clear an;go_wp2
    go_meet
    rw[<-Da aA];exact Da z4
  .have V:Hid (S3 w2 wc N (Ko y f m d)):=(by refine⟨_,_,?_,ag,Da ab⟩;rw[Da aj,if_neg aE];exact Da X);go_wp2
   go_meet
   exact Da V
 case rest=>
 obtain⟨bE,bD,D,aY,aL⟩:=hcut;obtain⟨M,aB⟩:=ex (Ko y f m d);have l:=Da HR;rw[<-aB]at D l;obtain⟨a6,n6,c6,rfl⟩:=D.sl.a0;obtain⟨b6,m6,d6,rfl⟩:=D.sf.a0;clear HR aj aB v0 v1 J s0 X ab ag ar;have T:=j.M (aY.Q j.size);have au:=R7 _ w2.heap.size _ _ N M D.c;have bd:JM N M<=M.length*40000:=TH N M D.cd _;have bt:=D.nf;unfold Qb at l;obtain⟨u,hu⟩:=ex (JM N M);rw[<-hu]at au bd l;have y0:=D.c.c0;have y1:=D.c.c1;have x0:=((Da z).at T).c.c0;have x1:=((Da z).at T).c.c1;have f0:=((Da z).at T).hd.A 0;have f1:=((Da z).at T).hd.A 1;have ba:=(Da z).hd.lt;have bz:C<w2.heap.size:=As ba j.size;have bw:C≠w2.heap.size:=Ω;have bx:w2.heap.size≠C:=Ω;have aV:=Db (YY (Da z) T D (λk hk=>Ae j.size (aL k hk)));clear hu D aL;by_cases hc:160<u
 .rw[if_pos hc]at l;have n:=Db l;clear l;have aZ:(160:Int)<(u:Int):=Ω;go_wp2_with(go_at_call 52;apply au.Q;rintro e w'⟨rfl,o⟩;rw[o];clear o);go_ret;exact(Da E _ _ (Da n) T).elim λa b=>⟨by rw[a]<;>rfl,b⟩
 .rw[if_neg hc]at l;have n:=Db l;clear l;have aZ:¬(160:Int)<(u:Int):=Ω;go_wp2_with(go_at_call 52;apply au.Q;rintro e w'⟨rfl,o⟩;rw[o];clear o);go_ret;exact⟨by rw[Da n]<;>rfl,by rw[Da n];exact Da aV⟩
def Q2(p:By):By:=p.extract ((DX p).size+1) p.size
def Ql(L:List (By×Int))(F:LY)(x:By×Int):Value:=
 if x.2<0 then .agg #[dU (Q2 x.1),dV true,dI (L.countP (DN x.1):Nat),dI 1]
 else .agg #[dU (Q2 x.1),dV false,dI ((F[x.2.toNat]?.getD ⟨#[]⟩).size:Nat),dI (L.countP (DF x.2):Nat)]
theorem ZrJ(h:KT p):(DX p).size+1<=p.size:=by obtain⟨k,a⟩:=h;have b:=(Sc a).1;have aa:=(Ac.1 b).1;have hs:p.data.toList.length=p.size:=AF;unfold DX;rw[a,Af];simp only[CS];omega
theorem YZ(w:World)(g:Nat)(H Y:Value)(L:List (By×Int))(F:LY)(h:Gj w g H Y L F)(p:By)(f:Int)(U:p.size<=2000000)(G:KT p)(hf:f<F.length):
  Cl 166 #[dP g,.agg #[dU p,dI f]] w λe w'=>e=dR (Ql L F (p,f))/\Bw w w':=by
 obtain⟨V,l⟩:=ex (Ql L F (p,f));rw[<-l];have R:=ZrJ G;have ai:=h.hd.lt;have j:=Db h;have I:Hid (∀W,Cl 148 #[dU p] W λe w'=>e=dR (dU (DX p))/\w'=W):=λW=>Uu p W U G;have M:Hid (∀W,Bw w W->Cl 149 #[dP g,dU p] W λe w'=>e=dR (dI (L.countP (DN p)))/\w'=W):=λW m=>(h.at m).cy p;have J:Hid (∀W,Bw w W->Cl 113 #[dP g,dI f] W λe w'=>e=dR (dI (L.countP (DF f)))/\w'=W):=λW m=>Vt W g H L f (h.at m).c.c0 (h.at m).sl h.nl;obtain⟨q,x⟩:=ex ((DX p).size+1);have ad:(q)<=(p.size):=Ω;have ah:q<=p.size:=Ω;have N:Hid (IntKind.i64.wrap (((DX p).size:Int)+1)=(q:Int)):=by unfold Hid;rw[x];exact(IntWalk.i64_in _ ⟨Ω,Ω⟩).M Ω
 have D:Q2 p=p.extract q p.size:=by rw[x];rfl
 have z:=Db D;clear h D x R;go_enter func166,ntmps166;go_wp2_with fail;refine Az (S:=λW=>W.cell? (dQ w.heap.size 0)=some (dU p)) Φ (by go_keep) (λP=>?_);refine tk 0 ?_;refine tk 1 ?_;refine tk 2 ?_;refine tk 3 ?_;refine rk 4 (λK B=>?_);go_simp;go_at_call 148;apply(Da I _).Q;rintro e w'⟨rfl,a⟩;rw[a];clear a;go_wp2_with fail;refine B.out _ _ (by go_keep) (λaa=>?_);clear B K P;try simp only[pE]
 refine tk 5 ?_;refine A4 (i:=6) (v:=dI (q:Int)) rfl Φ Φ Φ (λ_ _ _ h=>h) (Or.inl ⟨by rfl,?_⟩) Ψ ?_
 .intro w Q;(try dsimp only at Q);go_simp;rw[Da N]
 try simp only[pE]
 refine tk 7 ?_;refine tk 8 ?_;refine AL Φ ?_ _;have A:∀b d,Bw w ((w.alloc b).alloc d).drew:=λb d=>by have C:Bw w (w.alloc b):=(Ad _ _).alloc (Aa _) _;exact(C.M (((Ad _ _).alloc (Aa _) _).Q C.size)).drew
 have o:=Db A;clear A;by_cases u:f<0
 .have c:V=.agg #[dU (p.extract q p.size),dV true,dI (L.countP (DN p):Nat),dI 1]:=by rw[l];unfold Ql;rw[if_pos u,Da z]
  have r:=Db c;clear l c;go_wp2_with(go_at_call 149;apply(Da M _ (Da o _ _)).Q;rintro e w'⟨rfl,a⟩;rw[a];clear a);exact Am (v:=.agg #[dU (p.extract q p.size),dV true,dI (L.countP (DN p):Nat),dI 1]) (by simp[results,results166,go_sem]) rfl ⟨by rw[Da r],Da o _ _⟩
 .obtain⟨k,rfl⟩:∃k:Nat,f=k:=⟨f.toNat,Ω⟩;have T:k<F.length:=Ω;have t:F[k]?=some F[k]:=Ab T;have c:V=.agg #[dU (p.extract q p.size),dV false,dI (F[k].size:Nat),dI (L.countP (DF k):Nat)]:=by rw[l];unfold Ql;rw[if_neg u,Da z];simp only[Bf,t,CS]
  obtain⟨s,n⟩:=ex (F[k]);rw[<-n]at c;obtain⟨af,O,rfl,E⟩:=(Da j).sf.dx;obtain⟨gf,rfl,X⟩:=E k _ t;rw[<-n]at X;have ac:gf<w.heap.size:=(Da j).sf.lt rfl;have ab:=(Da j).c.c1;have aj:s.size<=2000000:=by rw[n];exact(Da j).cd _ (BE _)
  have ag:=(Da j).nf;have ae:(0:Int)<=(k:Int):=Ω;have r:=Db c;clear l c E t n u;have y:Hid (∀b d,Bw w ((w.alloc b).alloc d).drew.drew):=λb d=>(Da o b d).drew;go_wp2_with fail;go_region_held3 (λW=>W.cell? (dQ g 1)=some (dS gf F.length O)/\W.cell? (dQ w.heap.size 1)=some (dI (k:Int))/\W.cell? (dQ gf k)=some (dU s)) (go_keep)
   (first|(go_at_call 113;apply(Da J _ (Da y _ _)).Q;rintro e w'⟨rfl,a⟩;rw[a];clear a))
  all_goals
   go_wp2;exact Am (v:=.agg #[dU (p.extract q p.size),dV false,dI (s.size:Nat),dI (L.countP (DF k):Nat)]) (by simp[results,results166,go_sem]) rfl ⟨by rw[Da r],Da y _ _⟩
def Qz:Value:=.agg #[dU ⟨#[]⟩,dV false,dI 0,dI 0]
def J6(L:List (By×Int))(F:LY)(p:By):Value×Int:=
 if JV L p≠0 then(Qz,JV L p) else
 if (p.toList==[47])=true then(.agg #[dU ⟨#[]⟩,dV true,dI (L.countP (DN ⟨#[]⟩):Nat),dI 1],0) else
 match GC L p with
 |none=>(Qz,3)
 |some f=>(Ql L F (p,f),0)
theorem ZkT(L:List (By×Int))(F:LY)(x:By×Int):∃a b c d,Ql L F x=.agg #[dU a,dV b,dI c,dI d]:=by unfold Ql;split;simp_all;simp_all
theorem Mh{b:Nat}{f g i j:Value}(h:Gb w b 112 [f,g,i,j])(a c u2 d:Value):
  ((((w.setCell (dQ b 0) a).setCell (dQ b 1) c).setCell (dQ b 2) u2).setCell (dQ b 3) d).cell? (dQ b 0)=some a/\
  ((((w.setCell (dQ b 0) a).setCell (dQ b 1) c).setCell (dQ b 2) u2).setCell (dQ b 3) d).cell? (dQ b 1)=some c/\
  ((((w.setCell (dQ b 0) a).setCell (dQ b 1) c).setCell (dQ b 2) u2).setCell (dQ b 3) d).cell? (dQ b 2)=some u2/\
  ((((w.setCell (dQ b 0) a).setCell (dQ b 1) c).setCell (dQ b 2) u2).setCell (dQ b 3) d).cell? (dQ b 3)=some d:=by
 have e:=(((h.set 0 a).set 1 c).set 2 u2).set 3 d;exact⟨e.J 0,e.J 1,e.J 2,e.J 3⟩
theorem RM{a:World}(h:Bw w a)(b c u2 d:Value):Bw w ((((a.setCell (dQ w.heap.size 0) b).setCell (dQ w.heap.size 1) c).setCell (dQ w.heap.size 2) u2).setCell (dQ w.heap.size 3) d):=
 (((h.setCell (Aa _) _).setCell (Aa _) _).setCell (Aa _) _).setCell (Aa _) _
theorem ZqE(w:World)(D:Nat)(vl K:Value)(L:List (By×Int))(F:LY)(h:Gj w D vl K L F)(T:∀x∈L,x.2<F.length)(p:By)(hp:p.size<=2000000):
  Cl 111 #[dP D,dU p] w λe w'=>e=dR (.tuple #[(J6 L F p).1,dI (J6 L F p).2])/\Bw w w':=by
 obtain⟨R,a⟩:=ex (J6 L F p);rw[<-a];unfold J6 at a;have i:=Db h;have aj:=Db T;obtain⟨av,cv,rfl,Z⟩:=h.sl.ao;have ak:=Db Z;have au:=h.hd.lt;obtain⟨j,E⟩:=ex (w.alloc (.cells #[dU ⟨#[]⟩,dV false,dI 0,dI 0] 112));have G:Bw w j:=by rw[E];exact(Ad _ _).alloc (Aa _) _
 have H:=Ra j D _ K L F (h.at G) p hp;have Y:Gb j w.heap.size 112 [dU ⟨#[]⟩,dV false,dI 0,dI 0]:=by rw[E];exact Bv w _
 have M:Hid (∀q,Bw j q->Gb q w.heap.size 112 [dU ⟨#[]⟩,dV false,dI 0,dI 0]/\Bw w q):=λq C=>⟨Y.e (X:=λ_=>False) (Fr.S C) id,G.M (C.Q G.size)⟩;obtain⟨s,O⟩:=ex (JV L p);rw[<-O]at H a;subst E;clear h Z T Y O;go_enter func111,ntmps111;go_wp2_with fail;apply H.Q;rintro e q⟨rfl,C⟩;obtain⟨z,b⟩:=Da M q C;have B:=Db z;have z0:=(z.J 0).M rfl;have z1:=(z.J 1).M rfl;have z2:=(z.J 2).M rfl;have z3:=(z.J 3).M rfl;obtain⟨af,ag,ah,ai⟩:=z.f3;clear z H M;by_cases t:s≠0
 .rw[if_pos t]at a;have ap:(s != 0)=true:=by rw[EC];exact t
  have d:=Db a;clear a t;obtain⟨l,m,n,o⟩:=Mh (Da B) (dU ⟨#[]⟩) (dV false) (dI 0) (dI 0);go_wp2;exact Am (v:=.tuple #[Qz,dI s]) (by simp[results,results111,go_sem,l,m,n,o,Qz]) rfl ⟨by rw[Da d],RM b _ _ _ _⟩
 rw[if_neg t]at a;obtain rfl:s=0:=Ω;cases h1:(p.toList==[47]) with
 |true=>
  rw[if_pos h1]at a;have d:=Db a;have ao:=((Da i).at b).cy ⟨#[]⟩;clear a t;obtain⟨l,m,n,o⟩:=Mh (Da B) (dU ⟨#[]⟩) (dV true) (dI (L.countP (DN ⟨#[]⟩))) (dI 1);go_wp2_with(go_at_call 149;apply ao.Q;rintro e w'⟨rfl,A⟩;rw[A];clear A);exact Am (v:=.tuple #[.agg #[dU ⟨#[]⟩,dV true,dI (L.countP (DN ⟨#[]⟩)),dI 1],dI 0]) (by simp[results,results111,go_sem,l,m,n,o]) rfl ⟨by rw[Da d],RM b _ _ _ _⟩
 |false=>
 rw[if_neg (by rw[h1];simp)]at a;have P:=((Da i).at b).find p;clear t;go_wp2_with fail;apply P.Q;rintro e w'⟨r,⟨rfl,an⟩,A⟩;rw[A];clear A P;rcases an with⟨rfl,W⟩|⟨k,x,rfl,u,J,S⟩
 .have V:=(KJ (.inl ⟨rfl,W⟩)).elim (λh=>h.2) (λ⟨_,_,h,_⟩=>Ω);rw[V]at a;have d:=Db a;clear a V W;obtain⟨l,m,n,o⟩:=Mh (Da B) (dU ⟨#[]⟩) (dV false) (dI 0) (dI 0);go_wp2;exact Am (v:=.tuple #[Qz,dI 3]) (by simp[results,results111,go_sem,l,m,n,o,Qz]) rfl ⟨by rw[Da d],RM b _ _ _ _⟩
 .rw[GG.d5 u J S]at a;have aq:=(Ac.1 u).1;have Q:=Da aj x (Ai u);obtain⟨ab,ac⟩:=(Da i).ok x (Ai u);obtain⟨g,rfl,q0,q1⟩:=(Da ak) k x u;have U:=(Da i).sl.lt rfl;have ad:=(b.J (p:=(dQ g (k*2))) U).M q0;have ae:=(b.J (p:=(dQ g (k*2+1))) U).M q1;have ar:=(Da i).nl;have am:=((Da i).at b).c.c0;obtain⟨y,f⟩:=x;simp only at J Q ab ac ad ae a;subst J;obtain⟨ta,tb,tc,td,aa⟩:=ZkT L F (y,f);have I:=YZ q D _ K L F ((Da i).at b) y f ab ac Q;rw[aa]at I a;have d:=Db a;have HT:=Db I;clear a S u q0 q1 aa I;go_wp2_with fail;apply(Da HT).Q;rintro e w5⟨rfl,N⟩;have c:=(Da B).e (X:=λ_=>False) (Fr.S N) id;have al:=b.M (N.Q b.size);clear z0 z1 z2 z3 af ag ah ai ad ae am;have z0:=(c.J 0).M rfl;have z1:=(c.J 1).M rfl;have z2:=(c.J 2).M rfl;have z3:=(c.J 3).M rfl;obtain⟨af,ag,ah,ai⟩:=c.f3;obtain⟨l,m,n,o⟩:=Mh c (dU ta) (dV tb) (dI tc) (dI td);clear c;go_wp2;exact Am (v:=.tuple #[.agg #[dU ta,dV tb,dI tc,dI td],dI 0]) (by simp[results,results111,go_sem,l,m,n,o]) rfl ⟨by rw[Da d],RM al _ _ _ _⟩
theorem Pm(h:w.grownBy w' v.ownBlock){n:Nat}(hn:∀g,v.ownBlock=some g->n<=g)(b:n<=w.heap.size):Below n w w':=
 ⟨h.os,h.tape,h.output,h.size,λk a=>h.block k (As a b) Γ⟩
theorem Sl.dp{n a:Nat}{l:List (By×Int)}(h:Sl w 103 2 (dS g n a) l.length (DQ l))(hk:w'.heap[g]?=w.heap[g]?){u:Value}(hu:(DQ l)[j]?=some u):w'.cell? (dQ g j)=some u:=by
 rcases h.2 with⟨e,_⟩|⟨g',aa,R,e,hR,_,_,_,hT⟩;grind;have b:Gb w' g 103 R:=by grind [Gb]
 rw[b.J];grind
theorem Oc(w:World)(g B:Nat)(l:List (By×Int))(C:Sl w 103 2 (dS g l.length B) l.length (DQ l))(hl:l.length+1<=2000000)(k:Nat)(hk:k<=l.length)(x:By×Int):
  ∃e q n b,(Builtin.append_ #[87,87] 87 #[dN,dS g k B]).run prog w=.ok (dT e q n) b/\Bw w b/\
   ∃f r o w2,(Builtin.append_ #[87,87] 87 #[dT e q n,dS b.heap.size 1 1]).run prog (b.alloc (.cells #[dU x.1,dI x.2] 103))=.ok (dT f r o) w2/\Bw w w2/\
    ∀a c,(l.length-k≠0->a=(dQ g (k*2)))->∃i s p t,(Builtin.append_ #[87,87] 87 #[dT f r o,dT (some a) (l.length-k) c]).run prog w2=.ok (dT i s p) t/\
     Hid (Sl t 103 2 (dT i s p) (l.length+1) (DQ (l.take k++x::l.drop k))/\Bw w t/\∀j,(Value.slice i s p).ownBlock=some j->w.heap.size<=j):=by
 obtain⟨J,E,G,H,I⟩:=Bk OE;have R:=C.lt rfl;have U:(DQ (l.take k)).length=k*2:=by grind [Pn,List.length_take]
 obtain⟨v1,b,W,N,Z,r4⟩:=J1 w 87 87 103 J _ 2 24 underlying87 E G H I rfl Δ dN 0 [] ⟨rfl,Γ⟩ _ k B _ U
  (λj u v=>by rw[AG,Av];refine C.dp rfl ?_;rw[<-Zhn,AZ]at v;simp_all) (Ui _) (by grind [maxLen]) Ω
 obtain⟨e,q,n,rfl⟩:=N.a0;have L:∀y,(Value.slice e q n).ownBlock=some y->w.heap.size<=y:=λy F=>(r4 y F).resolve_left (by grind [Value.ownBlock]);have z:=Pm Z (by grind [Value.ownBlock]) (Aa _);refine⟨e,q,n,b,W,z,?_⟩;obtain⟨d,D⟩:=ex (b.alloc (.cells #[dU x.1,dI x.2] 103));have K:Bw b d:=by rw[D];exact(Ad _ _).alloc (Aa _) _
 have V:Gb d b.heap.size 103 (Iw x):=by rw[D];exact Bv b _
 rw[<-D];have Y:=N.e (X:=λ_=>False) (Fr.S K) Γ;obtain⟨v2,w2,s1,O,s3,s4⟩:=J1 d 87 87 103 J _ 2 24 underlying87 E G H I rfl Δ _ _ _ Y _ 1 1 (Iw x) rfl
  (λj u v=>by rw[AG,Av,V.J];omega) (Ui [x]) (by grind [maxLen]) Ω
 obtain⟨f,r,o,rfl⟩:=O.a0;have A:=z.M (K.Q z.size);have M:∀y,(Value.slice f r o).ownBlock=some y->w.heap.size<=y:=λy F=>(s4 y F).elim (L y) (λh=>Ae A.size h);have m:=A.M (Pm s3 L A.size);refine⟨f,r,o,w2,s1,m,λa c Q=>?_⟩;have T:(DQ (l.drop k)).length=(l.length-k)*2:=by rw[Pn,AN]
 obtain⟨v3,t,t1,t2,t3,t4⟩:=J1 w2 87 87 103 J _ 2 24 underlying87 E G H I rfl Δ _ _ _ O a _ c _ T
  (λj u v=>by by_cases P:l.length-k=0;simp_all;rw[Q P,AG];refine C.dp (m.block g R) ?_;rw[<-Zho,BF]at v;omega) (Ui _) (by grind [maxLen]) Ω
 obtain⟨i,s,p,rfl⟩:=t2.a0;refine⟨i,s,p,t,t1,?_,m.M (Pm t3 M m.size),λj S=>(t4 j S).elim (M j) (λh=>Ae m.size h)⟩;grind [DQ,Iw,Wm]
def Kj(x:By×Int):List (By×Int)->Nat
 |[]=>0
 |y::l=>if Ho y.1 x.1=true then Kj x l+1 else 0
def Kn(l:List (By×Int))(x:By×Int):List (By×Int):=l.take (Kj x l)++x::l.drop (Kj x l)
def D6(L:List (By×Int))(d:By):Nat->List (By×Int)
 |0=>[]
 |k+1=>match L[k]? with
  |some x=>if DN d x=true then Kn (D6 L d k) x else D6 L d k
  |none=>D6 L d k
theorem Sm(l:List (By×Int))(x:By×Int):(Kn l x).length=l.length+1:=by grind [Kn]
theorem O6(L:List (By×Int))(d:By):∀k,(D6 L d k).length<=k
 |0=>Aa _
 |k+1=>by have:=O6 L d k;unfold D6;split;split;rw[Sm];omega;omega;omega
theorem Zh1(x:By×Int):∀l,Kj x l<=l.length
 |[]=>Aa _
 |y::l=>by have:=Zh1 x l;unfold Kj;split;simp;omega;omega
theorem Zh0(x:By×Int):∀(l:List (By×Int)) (j:Nat) (y:By×Int),j<Kj x l->l[j]?=some y->Ho y.1 x.1=true
 |[],_,_,h,_=>by simp[Kj]at h
 |z::l,j,y,h,hy=>by
  unfold Kj at h;split at h;rename_i a;cases j with
  |zero=>simp at hy;subst hy;exact a
  |succ j=>exact Zh0 x l j y Ω (by simpa using hy)
  omega
theorem Zh2(x:By×Int):∀(l:List (By×Int)) (y:By×Int),l[Kj x l]?=some y->Ho y.1 x.1=false
 |[],_,h=>by simp at h
 |z::l,y,h=>by unfold Kj at h;split at h;exact Zh2 x l y (by simpa using h);rename_i a;simp at h;subst h;simpa using a
theorem Ob(w:World)(x:By×Int):
  ∃b c a w2,(Builtin.append_ #[87,87] 87 #[dN,dS w.heap.size 1 1]).run prog (w.alloc (.cells #[dU x.1,dI x.2] 103))=.ok (dT b c a) w2/\
   (Builtin.append_ #[87,87] 87 #[dT b c a,dN]).run prog w2=.ok (dT b c a) w2/\
   Hid (Sl w2 103 2 (dT b c a) 1 (DQ [x])/\Bw w w2/\∀j,(Value.slice b c a).ownBlock=some j->w.heap.size<=j):=by
 obtain⟨r,i,o,p,q⟩:=Bk OE;obtain⟨d,g⟩:=ex (w.alloc (.cells #[dU x.1,dI x.2] 103));have f:Bw w d:=by rw[g];exact(Ad _ _).alloc (Aa _) _
 have n:Gb d w.heap.size 103 (Iw x):=by rw[g];exact Bv w _
 rw[<-g];obtain⟨v2,w2,s,k,t,v⟩:=J1 d 87 87 103 r _ 2 24 underlying87 i o p q rfl Δ dN 0 [] ⟨rfl,Γ⟩ _ 1 1 (Iw x) rfl
  (λj u hu=>by rw[AG,Av,n.J];omega) (Ui [x]) (by grind [maxLen]) Ω
 obtain⟨b,c,a,rfl⟩:=k.a0;refine⟨b,c,a,w2,s,?_,by grind [DQ],f.M (Pm t (by grind [Value.ownBlock]) f.size),λj m=>(v j m).elim (by grind [Value.ownBlock]) (λh=>Ae f.size h)⟩;rcases k.2 with⟨e,h0⟩|⟨g2,aa,R2,e,_,ab,_⟩;omega;cases e;have l:1<=a:=Ω;simp[Builtin.append_,run_underlying underlying87,sizeOf,typeInfo,i,Builtin.lenOf,Builtin.firstCells,loadCells,l,storeCells]
def Nj(w wr:World)(L:List (By×Int))(d:By)(l i:Value):Prop:=
 ∃k:Nat,k<=L.length/\i=dI k/\Sl wr 103 2 l (D6 L d k).length (DQ (D6 L d k))/\Bw w wr/\∀j,l.ownBlock=some j->w.heap.size<=j
theorem Zp4(w:World):(Builtin.append_ #[87,87] 87 #[dN,dN]).run prog w=.ok dN w:=by rfl
theorem Znx(w:World)(rb:Nat)(vl vf:Value)(L:List (By×Int))(F:LY)(h:Gj w rb vl vf L F)(hL:L.length+1<=2000000)(d:By):
  Cl 163 #[dP rb,dU d] w λe w'=>∃v,e=dR v/\Sl w' 103 2 v (D6 L d L.length).length (DQ (D6 L d L.length))/\Bw w w'/\∀j,v.ownBlock=some j->w.heap.size<=j:=by
 obtain⟨av,cv,rfl,ao⟩:=h.sl.ao;have aq:=Db ao;have S:=Db h;have HO:=Db h.ok;clear h ao;go_enter func163,ntmps163;go_wp2
 go_loopw [5,6,7,8] (λl i _ _ wr=>Nj w wr L d l i) (λ_ i _ _ _=>L.length-(intOf i).toNat)
 case atStart=>exact⟨0,Ao _,rfl,⟨rfl,.inl ⟨rfl,rfl⟩⟩,Ad _ _,λj V=>by simp[Value.ownBlock]at V⟩
 case round=>
  obtain⟨k,hk,rfl,U,b,X⟩:=hrel;have ad:=(Da S).at b;have ag:=ad.c.c0;have aH:=ad.nl;clear ad;by_cases ab:k<L.length
  .obtain⟨x,Y⟩:∃x,L[k]?=some x:=⟨_,Ab ab⟩;obtain⟨g,rfl,q0,q1⟩:=Da aq k _ Y;have O:=(Da S).sl.lt rfl;have ap:=(b.J (p:=(dQ g (k*2))) O).M q0;have ae:=(b.J (p:=(dQ g (k*2+1))) O).M q1;obtain⟨aD,aC⟩:=Da HO x (Ai Y);clear q0 q1;have aa:Hid (D6 L d (k+1)=if DN d x=true then Kn (D6 L d k) x else D6 L d k):=(by unfold Hid;rw[D6,Y]);have o:=Db U;have HN:=Db X;have aj:=λW=>Uu x.1 W aD aC;have af:=Db aj;clear Y U X aj;cases hq:((DX x.1).toList==d.toList) with
   |false=>
    have r:Hid (D6 L d (k+1)=D6 L d k):=(by show _=_;rw[Da aa,if_neg (show ¬DN d x=true by unfold DN;rw[hq];simp)]);have aB:((DX x.1).toList != d.toList)=true:=(by simp only[bne,hq];rfl);go_wp2_with(go_at_call 148;apply(Da af _).Q;rintro e w'⟨rfl,P⟩;rw[P];clear P)
    go_roundw
    case rel=>exact⟨k+1,Ω,by go_num,by rw[Da r];exact Da o,b,Da HN⟩
    case measure=>simp[intOf];omega
   |true=>
    have aB:((DX x.1).toList != d.toList)=false:=(by simp only[bne,hq];rfl);have r:Hid (D6 L d (k+1)=Kn (D6 L d k) x):=(by show _=_;rw[Da aa,if_pos (show DN d x=true from hq)]);go_wp2_with(go_at_call 148;apply(Da af _).Q;rintro e w'⟨rfl,P⟩;rw[P];clear P);obtain⟨K,aE⟩:=ex wr;subst aE;obtain⟨l,hl⟩:=ex (D6 L d k);have an:l.length<=k:=(by rw[hl];exact O6 L d k);rw[<-hl]at o r;have ac:=Zh1 x l;clear hl aa;rcases(Da o).2 with⟨rfl,h0⟩|⟨T,u,R5,rfl,au,ah,ai,ar,aw⟩
    .have az:=AC Ω;subst az;clear h0 an ac;have G:Hid (Kn [] x=[x]):=rfl
     go_loopw [7] (λM w6=>M=dI 0/\Bw K w6) (λ_ _=>0)
     case atStart=>exact⟨rfl,Ad _ _⟩
     case round=>
      obtain⟨rfl,a⟩:=hrel;have I:=As (Da S).hd.lt b.size;have c:=As O b.size;have x0:=(a.J I).M ag;have x1:=(a.J c).M ap;have Z:=(a.J c).M ae;obtain⟨a2,n2,c2,w2,n,t1,f⟩:=Ob wr.drew x;have m:=Zp4 wr.drew;have t:=Db f;clear f;go_wp2_with fail
      go_region
      all_goals
       go_wp2_with(first|(at_builtin;refine Aq _ rfl _ _ 87 87 rfl _ _ rfl rfl _ _ m ?_;clear m)|(at_builtin;refine Aq _ rfl _ _ 87 87 rfl _ _ rfl rfl _ _ n ?_;clear n)|(at_builtin;refine Aq _ rfl _ _ 87 87 rfl _ _ rfl rfl _ _ t1 ?_;clear t1))
       go_roundw
       case rel=>
        obtain⟨A,B,C⟩:=Da (Da t);refine⟨k+1,Ω,by go_num,?_,b.M ((a.drew.M (B.Q a.size)).Q b.size),λi z=>?_⟩;rw[Da r,Da G];exact A;have:=C i z;have:=b.size;have:=a.drew.size;omega
       case measure=>simp[intOf];omega
    .clear au ar aw;have ak:=(Da o).lt rfl;have I:=As (Da S).hd.lt b.size;have c:=As O b.size
     go_loopw [7] (λM w6=>∃j:Nat,M=dI j/\j<=Kj x l/\Bw K w6) (λM _=>l.length-(intOf M).toNat)
     case atStart=>exact⟨0,rfl,Ao _,Ad _ _⟩
     case round=>
      obtain⟨j,rfl,V,a⟩:=hrel;have x0:=(a.J I).M ag;have x1:=(a.J c).M ap;by_cases al:j<l.length
      .have J:=Ab al;obtain⟨y,hy⟩:=ex (l[j]);rw[<-hy]at J;have y0:=(Da o).dp (a.block T ak) (Vj l j y J).1;by_cases am:j<Kj x l
       .have aA:Op.bytesLess y.1.toList x.1.toList=true:=Zh0 x l j y am J;clear J hy;go_wp2_with fail
        go_region
        all_goals
         go_wp2
         go_roundw
         case rel=>exact⟨j+1,by go_num,Ω,a.drew⟩
         case measure=>simp[intOf];omega
       .have H:Kj x l=j:=Ω;have aA:Op.bytesLess y.1.toList x.1.toList=false:=Zh2 x l y (by rw[H];exact J);have G:=Db H;clear J hy H am V ac;have Z:=(a.J c).M ae;have N:=(Da o).e (Fr.S a.drew) (λ_ _=>id);obtain⟨a1,n1,c1,w1,m,q,a2,n2,c2,w2,n,b2,Q⟩:=Oc _ T u l N Ω j Ω x;have u0:=(q.J (As I a.size)).M x0;have u1:=(q.J (As c a.size)).M x1;have u2:=(q.J (As c a.size)).M Z;have s:=Db Q;clear Q N q b2;go_wp2_with fail
        go_region
        all_goals
         obtain⟨a3,n3,c3,w3,t1,f⟩:=Da s _ (u-j) (λ_=>rfl);have t:=Db f;clear f s;go_wp2_with(first|(at_builtin;refine Aq _ rfl _ _ 87 87 rfl _ _ rfl rfl _ _ m ?_;clear m)|(at_builtin;refine Aq _ rfl _ _ 87 87 rfl _ _ rfl rfl _ _ n ?_;clear n)|(at_builtin;refine Aq _ rfl _ _ 87 87 rfl _ _ rfl rfl _ _ t1 ?_;clear t1))
         go_roundw
         case rel=>
          obtain⟨A,B,C⟩:=Da (Da t);refine⟨k+1,Ω,by go_num,?_,b.M ((a.drew.M (B.Q a.size)).Q b.size),λi z=>?_⟩;rw[Da r,Sm];unfold Kn;rw[Da G];exact A;have:=C i z;have:=b.size;have:=a.drew.size;omega
         case measure=>simp[intOf];omega
      .obtain rfl:j=l.length:=Ω;have H:Kj x l=l.length:=Ω;have G:=Db H;clear H V ac al;have Z:=(a.J c).M ae;have N:=(Da o).e (Fr.S a.drew) (λ_ _=>id);obtain⟨a1,n1,c1,w1,m,q,a2,n2,c2,w2,n,b2,Q⟩:=Oc _ T u l N Ω _ (Aa _) x;have u0:=(q.J (As I a.size)).M x0;have u1:=(q.J (As c a.size)).M x1;have u2:=(q.J (As c a.size)).M Z;have s:=Db Q;have D:=Db b;have E:=Db a;have R:=Db ab;have aG:(k)<L.length:=Ω;have ax:(l.length)<=u:=Ω;clear Q N q b2 b a ab an hk O I c ak;by_cases ay:u=l.length
       .subst ay;obtain⟨a3,n3,c3,w3,t1,f⟩:=Da s (dQ T 0) 0 (λh=>absurd (Cw _) h);rw[Cw]at t1;have t:=Db f;clear f s ax ah ai;go_wp2_with fail
        go_region
        all_goals
         go_wp2_with(first|(at_builtin;refine Aq _ rfl _ _ 87 87 rfl _ _ rfl rfl _ _ m ?_;clear m)|(at_builtin;refine Aq _ rfl _ _ 87 87 rfl _ _ rfl rfl _ _ n ?_;clear n)|(at_builtin;refine Aq _ rfl _ _ 87 87 rfl _ _ rfl rfl _ _ t1 ?_;clear t1))
         go_roundw
         case rel=>
          obtain⟨A,B,C⟩:=Da (Da t);refine⟨k+1,by have:=Da R;omega,by go_num,?_,(Da D).M (((Da E).drew.M (B.Q (Da E).size)).Q (Da D).size),λi z=>?_⟩;rw[Da r,Sm];unfold Kn;rw[Da G];exact A;have:=C i z;have:=(Da D).size;have:=(Da E).drew.size;omega
         case measure=>simp[intOf];have:=Da R;omega
       .have aF:¬(u)=l.length:=Ω;obtain⟨a3,n3,c3,w3,t1,f⟩:=Da s _ (u-l.length) (λ_=>rfl);rw[Cw]at t1;have t:=Db f;clear f s ah ai;go_wp2_with fail
        go_region
        all_goals
         go_wp2_with(first|(at_builtin;refine Aq _ rfl _ _ 87 87 rfl _ _ rfl rfl _ _ m ?_;clear m)|(at_builtin;refine Aq _ rfl _ _ 87 87 rfl _ _ rfl rfl _ _ n ?_;clear n)|(at_builtin;refine Aq _ rfl _ _ 87 87 rfl _ _ rfl rfl _ _ t1 ?_;clear t1))
         go_roundw
         case rel=>
          obtain⟨A,B,C⟩:=Da (Da t);refine⟨k+1,by have:=Da R;omega,by go_num,?_,(Da D).M (((Da E).drew.M (B.Q (Da E).size)).Q (Da D).size),λi z=>?_⟩;rw[Da r,Sm];unfold Kn;rw[Da G];exact A;have:=C i z;have:=(Da D).size;have:=(Da E).drew.size;omega
         case measure=>simp[intOf];have:=Da R;omega
  .obtain rfl:k=L.length:=Ω;have o:=Db U;have HN:=Db X;clear U X;go_wp2;go_ret;exact⟨_,rfl,Da o,b,Da HN⟩
def jl(ns:LY):List UInt8:=ns.flatMap (λn=>47::n.data.toList)
def jn(ns:LY):By:=⟨(jl ns).toArray⟩
def Io(n:By):Prop:=(47:UInt8)∉n.data.toList
theorem Io.at(h:Io n)(j:Nat):n.data.toList[j]? ≠ some 47:=λe=>h (Ai e)
theorem QT(h:DZ n=true):Io n:=λa=>by
 simp only[DZ,AQ]at h;have:=List.all_eq_true.1 h.2 _ a
 revert this;decide
theorem Vv(h:DZ n=true):n.data.toList≠[]:=by grind [DZ,ByteArray.toList_eq]
theorem Ki(ns:LY):(jn ns).data.toList=jl ns:=by rfl
theorem QU(ns:LY):(jn ns).toList=jl ns:=by rw[BR,Ki]
theorem Us:jl []=[]:=rfl
theorem Jo(n:By)(ns:LY):jl (n::ns)=47::n.data.toList++jl ns:=by rfl
theorem K6(a b:LY):jl (a++b)=jl a++jl b:=by simp[jl]
theorem Q1(n:By):jl [n]=47::n.data.toList:=by simp[jl]
theorem Qa{a b:By}(h:a.data.toList=b.data.toList):a=b:=AW h
theorem Zo3(a b:LY):jn (a++b)=jn a++jn b:=by grind [Qa,Ki,K6,ByteArray.data_append,Array.toList_append]
theorem Qy(ns:LY):(jn ns).size=(jl ns).length:=by rfl
theorem RU:∀(a b:LY),(∀n∈a,Io n)->(∀n∈b,Io n)->jl a=jl b->a=b
 |[],[],_,_,_=>rfl
 |[],n::b,_,_,h=>by grind [Jo,Us]
 |n::a,[],_,_,h=>by grind [Jo,Us]
 |n::a,m::b,ha,hb,h=>by
  rw[Jo,Jo]at h;have k:n.data.toList++jl a=m.data.toList++jl b:=Ξ;have r:∀(x y:List UInt8) (u v:List UInt8),(47)∉x->(47)∉y->(u=[]\/∃t,u=47::t)->(v=[]\/∃t,v=47::t)->x++u=y++v->x=y/\u=v:=by
   intro x
   induction x with
   |nil=>
    intro y u v _ q o p e;cases y with
    |nil=>simp_all
    |cons c y=>
     simp_all
   |cons c x ih=>
    intro y u v f q o p e;cases y with
    |nil=>
     grind
    |cons d y=>
     grind
  have g:∀l:LY,jl l=[]\/∃t,jl l=47::t:=λl=>by
   cases l with
   |nil=>exact .inl rfl
   |cons x l=>grind [Jo]
  obtain⟨i,j⟩:=r _ _ _ _ (ha n Θ) (hb m Θ) (g a) (g b) k;rw[Qa i,RU a b (λx f=>ha x (by simp[f])) (λx f=>hb x (by simp[f])) j]
def GO(ns:LY):Prop:=∀n∈ns,DZ n=true
theorem GO.cv(h:GO ns):∀n∈ns,Io n:=λn a=>QT (h n a)
theorem GO.append{a b:LY}(c:GO a)(d:GO b):GO (a++b):=λn e=>(Al.1 e).elim (c n) (d n)
theorem GO.left{a b:LY}(h:GO (a++b)):GO a:=λn c=>h n (Ba _ c)
theorem GO.right{a b:LY}(h:GO (a++b)):GO b:=λn c=>h n (Cg _ c)
theorem OG{a b:LY}(c:GO a)(d:GO b)(h:jn a=jn b):a=b:=RU a b c.cv d.cv (by rw[<-Ki,<-Ki,h])
theorem pc_jl(n:By)(ns:LY)(a:∀m∈n::ns,Io m)(s:By)(b:s.data.toList=n.data.toList++jl ns):pc s=n::ns:=by
 induction ns generalizing n s with
 |nil=>
  have:s=n:=by grind [Qa,Us]
  subst this;exact US s (a s Θ).at
 |cons m ms ih=>
  have c:=a n Θ;rw[PR s n.size (λj hj=>by rw[b,Ap Ξ];exact c.at j) (by simp_all[Jo])];have e1:s.extract 0 n.size=n:=Qa Ξ;have e2:(s.extract (n.size+1) s.size).data.toList=m.data.toList++jl ms:=by rw[QD,b,Jo,FL];simp
  grind
theorem UV(h:GO ns)(aa:ns≠[]):Dc (jn ns)=ns:=by
 cases ns with
 |nil=>simp_all
 |cons n ns=>
  unfold Dc;rw[if_neg (by rw[QU,Jo];have:=Vv (h n Θ);simp[this])];exact pc_jl n ns (λm a=>QT (h m a)) _ (by grind [QD,Ki,Jo])
theorem jl_pc:∀(k:Nat) (s:By),s.size<=k->jl (pc s)=47::s.data.toList:=by
 intro k
 induction k with
 |zero=>
  simp_all[List.eq_nil_of_length_eq_zero,US,Q1]
 |succ k ih=>
  intro s hs;rcases YS s.data.toList with h|⟨i,b,a⟩;rw[US s h,Q1];rw[PR s i b a,Jo,ih _ (by simp[ByteArray.size_extract];omega),QD,BG];have h3:s.data.toList.drop i=47::s.data.toList.drop (i+1):=by obtain⟨c,e⟩:=Ac.1 a;rw[A2 c,e]
  have h4:s.data.toList=s.data.toList.take i++s.data.toList.drop i:=(Bz _ _).r;grind
theorem Uj(h:Di p=true)(d:(p.toList==[47])=false):p=jn (Dc p)/\GO (Dc p)/\Dc p≠[]/\(Dc p).length<=6:=by
 unfold Di at h;rw[d,No]at h;simp only[AQ,An]at h;have b:Dc p=pc (p.extract 1 p.size):=by grind [Dc]
 have a:=jl_pc _ (p.extract 1 p.size) (Aa _);rw[<-b]at h a;refine⟨?_,λn hm=>Γ,by grind [Us],h.1.2⟩;refine Qa ?_;rw[Ki,a,QD];cases hp:p.data.toList with
 |nil=>simp_all
 |cons c l=>simp_all
theorem Zid(h:GO ns)(aa:ns≠[]):((jn ns).toList==[47])=false:=by
 cases ns with
 |nil=>simp_all
 |cons n ns=>
  rw[QU,Jo];have:=Vv (h n Θ);simp[this]
theorem TK(h:GO ns)(b:ns≠[])(hl:ns.length<=6):Di (jn ns)=true:=by
 have a:=UV h b;unfold Dc at a;rw[Zid h b]at a;simp only[Bool.false_eq_true,ES]at a;unfold Di;rw[Zid h b,a,Ki];cases ns with
 |nil=>simp_all
 |cons n ns=>
  simp only[No,Jo,AQ,An];exact⟨Γ,List.all_eq_true.2 h⟩
theorem UC(hr:(p.toList==[47])=true):Dc p=[]:=by grind [Dc]
theorem Znp(x y:List UInt8)(hy:(47:UInt8)∉y):Ku (x++47::y)=some x.length:=by
 induction x with
 |nil=>
  have:∀l:List UInt8,(47)∉l->Ku l=none:=by
   intro l
   induction l with
   |nil=>intro _;rfl
   |cons c l ih=>
    unfold Ku;grind
  grind [Ku]
 |cons c x ih=>
  grind [Ku]
theorem OR(ns:LY)(n:By)(h:Io n):DX (jn (ns++[n]))=jn ns:=by unfold DX;rw[Ki,K6,Q1,Znp _ _ h];grind [Qa,Lib.extract_data,Ki,K6]
theorem Z9(ns:LY)(n:By)(h:Io n):Q2 (jn (ns++[n]))=n:=by unfold Q2;rw[OR ns n h];refine Qa ?_;rw[QD,Ki,K6,Q1,Qy,FL];simp
theorem Vx(p:By):∀(n i m:Nat),(∀j,i<=j->j<i+m->p.data.toList[j]? ≠ some 47)->m<=n->Jy p n i=Jy p (n-m) (i+m)
 |n,i,0,_,_=>rfl
 |0,i,m+1,_,h=>Ω
 |n+1,i,m+1,h,hm=>by rw[Jy,if_neg Γ,Vx p n (i+1) m Γ Ω];grind
def Dw:LY->LY->List (LY)
 |_,[]=>[]
 |_,[_]=>[]
 |d,n::m::ns=>(d++[n])::Dw (d++[n]) (m::ns)
theorem Zq4(d:LY)(n:By)(ns:LY)(h:∀m∈n::ns,Io m)(p:By)(a:p.data.toList=jl (d++n::ns)):
  Jy p (n.size+(jl ns).length) ((jl d).length+1)=(Dw d (n::ns)).map jn:=by
 induction ns generalizing d n with
 |nil=>
  rw[Vx p _ _ n.size (λj f g=>by rw[a,K6,Q1,AJ Ω];obtain⟨k,rfl⟩:∃k,j=(jl d).length+(k+1):=⟨j-(jl d).length-1,Ω⟩;rw[BM,Fs];exact(h n Θ).at k) Ω];simp[Us,Jy,Dw]
 |cons m ms ih=>
  rw[Vx p _ _ n.size (λj f g=>by rw[a,K6,Jo,AJ Ω];obtain⟨k,rfl⟩:∃k,j=(jl d).length+(k+1):=⟨j-(jl d).length-1,Ω⟩;rw[BM,AK,Fs,Ap (by have:n.data.toList.length=n.size:=AF;omega)];exact(h n Θ).at k) Ω];have b:n.size+(jl (m::ms)).length-n.size=(m.size+(jl ms).length)+1:=by simp_all[Jo,Array.length_toList,List.length_append,List.length_cons]
  have c:(jl d).length+1+n.size=(jl (d++[n])).length:=by rw[K6,Q1];have:n.data.toList.length=n.size:=AF;grind
  have e:p.data.toList=jl (d++[n])++jl (m::ms):=by rw[a,<-K6];simp
  rw[b,c,Jy,if_pos (by rw[e,AJ (Aa _),Jo];simp)];have e4:p.extract 0 (jl (d++[n])).length=jn (d++[n]):=by grind [Qa,Lib.extract_data,Ki]
  grind [List.mem_cons_of_mem,Dw]
theorem Zq3(h:GO ns)(aa:ns≠[]):Jy (jn ns) ((jn ns).size-1) 1=(Dw [] ns).map jn:=by
 cases ns with
 |nil=>rfl
 |cons n ns=>
  rw[<-Zq4 [] n ns (λm a=>QT (h m a)) (jn (n::ns)) (by rfl)];simp_all[Array.length_toList,Qy,Jo,Us,List.length_append,List.length_cons,List.length_nil]
theorem Zea(p:By)(k:Nat):(p.extract 0 k).data.toList=p.data.toList.take k:=Ξ
theorem RH{a:LY}(g:GO x)(b:GO a):Jh (jn x) (jn a)=true↔∃r,r≠[]/\x=a++r:=by
 unfold Jh;simp only[AQ,An,ET];rw[BR,Zea,QU,Ki,Qy,Qy];constructor;rintro⟨⟨w,y⟩,z⟩;have H:∀(x a:LY),(∀n∈x,Io n)->(∀n∈a,Io n)->(jl a).length<(jl x).length->(jl x).take (jl a).length=jl a->(jl x)[(jl a).length]?=some 47->∃r,r≠[]/\x=a++r:=by
  intro x a
  induction a generalizing x with
  |nil=>intro _ _ h _ _;exact⟨x,Γ,rfl⟩
  |cons n a ih=>
   intro g b h f A;cases x with
   |nil=>grind [Us]
   |cons m x=>
    rw[Jo,Jo]at f h A;have B:m.data.toList=n.data.toList:=by
     have o:jl (m::x)=jl (n::a)++(jl (m::x)).drop (jl (n::a)).length:=(by grind [List.take_append_drop,jl,Jo]);obtain⟨t,F⟩:∃t,(jl (m::x)).drop (jl (n::a)).length=47::t:=(by grind [jl,Jo,List.getElem?_eq_some_iff,List.drop_eq_getElem_cons]);rw[F,Jo,Jo]at o;have s:m.data.toList++jl x=n.data.toList++(jl a++47::t):=Ξ;have i:∀l:LY,jl l=[]\/∃t,jl l=47::t:=λl=>by
      cases l with
      |nil=>exact .inl rfl
      |cons x l=>grind [Jo]
     have E:∃k,jl a++47::t=47::k:=(by rcases i a with e|⟨k,e⟩;simp_all;simp_all);have I:∀(p q:List UInt8) (u v:List UInt8),(47)∉p->(47)∉q->(u=[]\/∃t,u=47::t)->(∃t,v=47::t)->p++u=q++v->p=q:=by
      intro p
      induction p with
      |nil=>
       intro q u v _ C G j e;cases q with
       |nil=>rfl
       |cons c q=>
        simp_all
      |cons c p ihp=>
       intro q u v hp C G j e;cases q with
       |nil=>
        obtain⟨t,rfl⟩:=j;simp_all
       |cons d q=>
        grind
     exact I _ _ _ _ (g m Θ) (b n Θ) (i x) E s
    have aa:m.data.toList.length=n.data.toList.length:=Γ;obtain⟨r,D,e⟩:=ih x Γ Γ Ξ
     (by simp only[AK,Ay,Ah,Fe,Fu,true_and]at f;rw[B,BU,Ak Ω,BM]at f;simp_all)
     (by simp_all)
    grind [Qa]
 exact H x a g.cv b.cv w y z;rintro⟨r,D,rfl⟩;rw[K6];cases r with
 |nil=>simp_all
 |cons n r=>
  grind [Jo,List.length_append,List.length_cons]
abbrev Gh:=List (LY×VS)
def DP(ρ : Int->Nat)(u:VS):Int:=if u.p.isSome=true then -1 else(ρ u.f:Int)
def vw(ρ : Int->Nat)(x:LY×VS):By×Int:=(jn x.1,DP ρ x.2)
def Gr(G:Gh)(ns:LY):Option VS:=(G.find? (λx=>decide (x.1=ns))).map (·.2)
structure Gp(G:Gh):Prop where
 az:∀x∈G,GO x.1
 ne:∀x∈G,x.1≠[]
 le:∀x∈G,x.1.length<=6
 nd:(G.map (·.1)).Nodup
 up:∀ns n u,(ns++[n],u)∈G->ns=[]\/∃v,(ns,v)∈G/\v.p.isSome=true
theorem QC(ρ : Int->Nat)(u:VS):DP ρ u<0↔u.p.isSome=true:=by unfold DP;grind
theorem YJ{α β : Type}(f : α -> β)(p : β -> Bool)(q : α -> Bool):∀(l:List α),(∀x∈l,p (f x)=q x)->(l.map f).find? p=(l.find? q).map f
 |[],_=>rfl
 |a::l,h=>by rw[A6,List.find?_cons,List.find?_cons,h a Θ,YJ f p q l (λx b=>h x (by simp[b]))];cases q a<;>rfl
theorem XN{G:Gh}(h:Gp G)(ρ : Int->Nat)(a:GO ns):GC (G.map (vw ρ)) (jn ns)=(Gr G ns).map (DP ρ):=by unfold GC Gr;rw[YJ (vw ρ) _ (λx=>decide (x.1=ns)) G (λx b=>by rw[FE];exact⟨λe=>OG (h.az x b) a e,λe=>by show jn x.1=_;rw[e]⟩)];cases G.find? (λx=>decide (x.1=ns))<;>rfl
def GJ(G:Gh):List (LY)->Int
 |[]=>0
 |q::r=>match Gr G q with
  |none=>3
  |some u=>if u.p.isSome=true then GJ G r else 4
theorem Yx{G:Gh}(h:Gp G)(ρ : Int->Nat):∀(qs:List (LY)),(∀q∈qs,GO q)->Kh (G.map (vw ρ)) (qs.map jn)=GJ G qs
 |[],_=>rfl
 |q::r,hq=>by
  rw[A6,Kh,GJ,XN h ρ Γ,Yx h ρ r Γ];cases Gr G q with
  |none=>rfl
  |some u=>
   simp only[CO];by_cases a:u.p.isSome=true;rw[if_pos a,if_neg (by simp_all[QC])];simp_all[DP]
theorem Zt:∀(d ns:LY),GO (d++ns)->∀q∈Dw d ns,GO q
 |d,[],_,q,a=>by grind [Dw]
 |d,[n],_,q,a=>by grind [Dw]
 |d,n::m::ns,h,q,a=>by rcases AM.1 a with rfl|a;exact GO.left (b:=m::ns) Ξ;exact Zt _ _ Ξ q a
theorem Zqb{G:Gh}(h:Gp G)(ρ : Int->Nat)(a:GO ns)(b:ns≠[]):DJ (G.map (vw ρ)) (jn ns)=GJ G (Dw [] ns):=by unfold DJ;rw[Zq3 a b,Yx h ρ _ (Zt [] ns a)]
theorem ZlF(L:List (By×Int))(p:By)(hr:(p.toList==[47])=true):DJ L p=0:=by
 have:p.size=1:=by
  have h2:p.toList.length=p.size:=by rw[BR];rfl
  simp_all
 unfold DJ;rw[this];rfl
theorem JZ{G:Gh}(h:Gr G ns=some u):(ns,u)∈G:=by
 unfold Gr at h;cases hf:G.find? (λx=>decide (x.1=ns)) with
 |none=>simp_all
 |some x=>
  grind
theorem Kz{G:List (α × β)}(h:(G.map (·.1)).Nodup){a : α}{u v : β}(hu:(a,u)∈G)(hv:(a,v)∈G):u=v:=by
 induction G with
 |nil=>grind
 |cons x G ih=>
  grind
theorem RL{G:Gh}(h:(G.map (·.1)).Nodup)(a:(ns,u)∈G):Gr G ns=some u:=by
 cases ha:Gr G ns with
 |none=>
  grind [Gr,Option.map_eq_none_iff,List.find?_eq_none,absurd,decide]
 |some v=>rw[Kz h a (JZ ha)]
theorem Ux{G:Gh}(h:Gr G ns=none)(u:VS):(ns,u)∉G:=by grind [Gr,Option.map_eq_none_iff,List.find?_eq_none,absurd,decide]
def GH(ns:LY)(x:LY×VS):Bool:=decide (x.1.dropLast=ns)
theorem Uk(h:ns≠[]):∃d n,ns=d++[n]:=⟨ns.dropLast,ns.getLast h,(Cx h).r⟩
theorem Wc{α β : Type}(f : α -> β)(p : β -> Bool)(q : α -> Bool):∀(l:List α),(∀x∈l,p (f x)=q x)->(l.map f).countP p=l.countP q
 |[],_=>rfl
 |a::l,h=>by rw[A6,CG,CG,h a Θ,Wc f p q l Γ]
theorem dir_vw{G:Gh}(h:Gp G)(ρ : Int->Nat)(c:GO ns):(G.map (vw ρ)).countP (DN (jn ns))=G.countP (GH ns):=
 Wc _ _ _ G (λx b=>by obtain⟨d,n,e⟩:=Uk (h.ne x b);have a:=h.az x b;unfold DN GH vw;rw[e]at a ⊢;rw[OR d n (QT (a n Θ)),Ei];rw[Em,ET,An,QU,QU];exact⟨λe=>RU _ _ a.left.cv c.cv e,Γ⟩)
theorem ZtV(G:Gh)(ρ : Int->Nat):(G.map (vw ρ)).countP qD=G.countP (λx=>x.2.p.isSome):=
 Wc _ _ _ G (λx _=>by unfold qD vw;grind [QC])
def Ib(G:Gh)(ns:LY)(es:LS):Prop:=∀n u,(n,u)∈es↔(ns++[n],u)∈G
theorem XO(a:By):Ho a a=false:=by
 unfold Ho;cases h:Op.bytesLess a.toList a.toList with
 |false=>rfl
 |true=>
  have:∀l:List UInt8,Op.bytesLess l l=false:=by
   intro l
   induction l with
   |nil=>rfl
   |cons c l ih=>grind [Op.bytesLess]
  simp_all
theorem GA.nodup{a:LS}(h:GA a):(a.map (·.1)).Nodup:=by unfold List.Nodup;rw[A1];intro i j hi hj b e;have aa:j<a.length:=Γ;have:=h i j a[i] a[j] b (Ab _) (Ab _);grind [XO]
theorem ZgU{a b:List α}(c:a.Nodup)(d:b.Nodup)(h:∀x,x∈a↔x∈b):a.length=b.length:=((Cm c d).2 h).length_eq
theorem Vd{G:List (α × β)}(h:(G.map (·.1)).Nodup):G.Nodup:=by
 induction G with
 |nil=>simp_all
 |cons x G ih=>
  simp_all
theorem Wh(f : α -> β){l:List α}(h:l.Nodup)(hf:∀x∈l,∀y∈l,f x=f y->x=y):(l.map f).Nodup:=by
 induction l with
 |nil=>simp_all
 |cons a l ih=>
  grind
theorem Ib.length{G:Gh}{a:LS}(c:Gp G)(i:GA a)(h:Ib G ns a):a.length=G.countP (GH ns):=by have f:(a.map (λx=>(ns++[x.1],x.2))).Nodup:=Wh _ (Vd i.nodup) Ξ;have g:(G.filter (GH ns)).Nodup:=(Vd c.nd).filter _;rw[EJ,<-ZgU f g,AT];intro x;rw[AB,List.mem_filter];constructor;rintro⟨y,k,rfl⟩;exact⟨(h _ _).1 k,by simp[GH]⟩;rintro⟨j,b⟩;obtain⟨d,n,e⟩:=Uk (c.ne x j);unfold GH at b;rw[e,Ei,An]at b;obtain rfl:=b;refine⟨(n,x.2),(h n x.2).2 Γ,by rw[<-e]⟩
def qB(ns:LY)(x:LY×VS):Bool:=decide (ns.length<x.1.length/\ns <+: x.1)
def qP(ns:LY)(x:LY×VS):Bool:=decide (ns <+: x.1)
theorem Wr{α : Type}(p q : α -> Bool):∀(l:List α),(∀x∈l,¬(p x=true/\q x=true))->l.countP (λx=>p x || q x)=l.countP p+l.countP q
 |[],_=>rfl
 |a::l,h=>by rw[CG,CG,CG,Wr p q l (λx b=>h x (by simp[b]))];have:=h a Θ;cases hp:p a<;>cases hq:q a<;>simp[hp,hq]at this ⊢ <;> omega
theorem Wn{p q : α -> Bool}{l:List α}(h:∀x∈l,p x=q x):l.countP p=l.countP q:=by grind [List.countP_congr]
def QK(G:Gh)(r:LY×VS->Bool)(ns:LY)(ks:LY):Nat:=G.countP (λx=>r x && ks.any (λn=>qP (ns++[n]) x))
theorem Zq5{m:By}(a:ns++[n] <+: x)(h2:ns++[m] <+: x):n=m:=by obtain⟨r,rfl⟩:=a;simp_all
theorem ZpP(G:Gh)(r:LY×VS->Bool)(ns:LY)(a:LY)(n:By)(hn:n∉a):
  QK G r ns (a++[n])=QK G r ns a+G.countP (λx=>r x && qP (ns++[n]) x):=by
 unfold QK;rw[<-Wr];grind;rintro x _⟨b,c⟩;simp only[AQ,EB]at b c;obtain⟨_,m,hm,e⟩:=b;have d:=c.2;unfold qP at e d;grind [Zq5]
theorem ZnH{G:Gh}(aa:(G.map (·.1)).Nodup)(r:LY×VS->Bool)(h:(ns,u)∈G):G.countP (λx=>r x && decide (x.1=ns))=if r (ns,u)=true then 1 else 0:=by
 induction G with
 |nil=>grind
 |cons y G ih=>
  rw[CG];rcases AM.1 h with rfl|h;grind;grind
theorem ZpM{G:Gh}(b:(G.map (·.1)).Nodup)(r:LY×VS->Bool)(h:(ns,u)∈G):
  G.countP (λx=>r x && qP ns x)=(if r (ns,u)=true then 1 else 0)+G.countP (λx=>r x && qB ns x):=by
 rw[<-ZnH b r h,<-Wr];refine Wn (λx _=>?_);have:qP ns x=(decide (x.1=ns) || qB ns x):=by unfold qP qB;rw[Em,CE,An,An,An];constructor;intro c;rcases AD ns.length x.1.length with a|a;simp_all;exact .inl (c.eq_of_length_le a).r;grind
 grind;simp_all[Bool.and_eq_true,decide_eq_true_eq,qB]
theorem Gp.pre{G:Gh}(h:Gp G):∀(k:Nat) (x:LY×VS),x∈G->∀ns,ns≠[]->ns <+: x.1->x.1.length=ns.length+k->0<k->∃v,(ns,v)∈G/\v.p.isSome=true:=by
 intro k
 induction k with
 |zero=>omega
 |succ k ih=>
  intro x i ns f hp hl _;obtain⟨d,n,e⟩:=Uk (h.ne x i);have j:(d++[n],x.2)∈G:=Γ;have a:ns <+: d:=by grind [List.prefix_of_prefix_length_le,List.prefix_append]
  rcases h.up d n _ j with e2|⟨v,g,b⟩;grind;have c:d.length=ns.length+k:=Γ;cases k with
  |zero=>exact⟨v,by rw[a.eq_of_length_le Ω];omega,b⟩
  |succ k=>exact ih _ g ns f a c Ω
theorem Gp.d4{G:Gh}(h:Gp G){x:LY×VS}(c:x∈G)(b:ns≠[])(a:qB ns x=true):∃v,(ns,v)∈G/\v.p.isSome=true:=by unfold qB at a;rw[An]at a;exact h.pre (x.1.length-ns.length) x c ns b a.2 Ω Ω
theorem Ziu{G:Gh}(h:Gp G)(r:LY×VS->Bool)(b:(ns,u)∈G)(c:u.p=none):G.countP (λx=>r x && qB ns x)=0:=by rw[C5];intro x f a;rw[AQ]at a;obtain⟨v,e,d⟩:=h.d4 f (h.ne _ b) a.2;rw[Kz h.nd e b,c]at d;grind
def Iv(es:LS):LY:=es.map (·.1)
theorem ZrR{G:Gh}(h:Gp G)(r:LY×VS->Bool){a:LS}(d:Ib G ns a):QK G r ns (Iv a)=G.countP (λx=>r x && qB ns x):=by
 refine Wn (λx f=>?_);have:(Iv a).any (λn=>qP (ns++[n]) x)=qB ns x:=by
  rw[Em,EB];unfold qB qP;constructor;grind [List.prefix_append,trans];intro b;rw[An]at b;obtain⟨hl,t,c⟩:=b;cases t with
  |nil=>simp_all
  |cons n t=>
   refine⟨n,?_,by rw[An,<-c];exact⟨t,Θ⟩⟩;have:∃u,(ns++[n],u)∈G:=by
    by_cases aa:t=[];grind;obtain⟨v,hv,_⟩:=h.d4 f (ns:=ns++[n]) Θ (by
     unfold qB;rw[An,<-c];cases t with
     |nil=>simp_all
     |cons m t=>simp)
    grind
   obtain⟨u,e⟩:=this;exact AB.2 ⟨(n,u),(d n u).2 e,rfl⟩
 grind
def cD(G:Gh)(ns:LY):Nat:=1+G.countP (λx=>x.2.p.isSome && qB ns x)
def cE(G:Gh)(ns:LY):Nat:=G.countP (λx=>true && qB ns x)
theorem ZoZ(a:LS)(k:Nat)(h:k<a.length):Iv (a.take (k+1))=Iv (a.take k)++[a[k].1]:=by
 unfold Iv;have:a.take (k+1)=a.take k++[a[k]]:=by rw[Br,Ab h];rfl
 rw[this,AE];rfl
theorem Ztt{a:LS}(d:GA a)(k:Nat)(h:k<a.length):a[k].1∉Iv (a.take k):=λc=>by obtain⟨y,f,e⟩:=AB.1 c;obtain⟨j,hj,e2⟩:=List.getElem_of_mem f;have b:j<k:=Γ;have:=d j k y _ b Γ (Ab h);grind [XO]
theorem YF{G:Gh}(b:Gp G)(r:LY×VS->Bool){a:LS}(d:GA a)(c:Ib G ns a)(k:Nat)(h:k<a.length):
  QK G r ns (Iv (a.take (k+1)))=QK G r ns (Iv (a.take k))+((if r (ns++[a[k].1],a[k].2)=true then 1 else 0)+G.countP (λx=>r x && qB (ns++[a[k].1]) x)):=by
 rw[ZoZ a k h,ZpP _ _ _ _ _ (Ztt d k h),ZpM b.nd r ((c a[k].1 a[k].2).1 (BE h))]
theorem ZtZ{G:Gh}(h:Gp G):cE G []=G.length:=by refine List.countP_eq_length.2 (λx a=>?_);have:=h.ne x a;simp only[qB,Bool.true_and,An];grind
theorem Qx{G:Gh}(h:Gp G):cD G []=1+G.countP (λx=>x.2.p.isSome):=by
 unfold cD;congr 1;refine Wn (λx a=>?_);have:=h.ne x a;have:qB [] x=true:=by simp only[qB,An];grind
 simp_all
def Nw(G:Gh)(q:LY×VS->Bool)(m h:Nat):Prop:=(∀x∈G,q x=true->x.1.length<=m+h)/\(h=0\/∃x∈G,q x=true/\x.1.length=m+h)
structure Hh(I:LF)(ρ : Int->Nat)(L:List (By×Int))(F:LY):Prop where
 nd:(I.map (·.1)).Nodup
 inj:∀x∈I,∀y∈I,ρ x.1 = ρ y.1->x.1=y.1
 lt:∀x∈I,ρ x.1<F.length
 bq:∀x∈I,0<L.countP (DF (ρ x.1))
 all:∀f:Nat,f<F.length->0<L.countP (DF f)->∃x∈I,ρ x.1=f
 size:∀x∈I,x.2.l=(F[ρ x.1]?.getD ⟨#[]⟩).size
 ae:∀x∈I,x.2.f=(L.countP (DF (ρ x.1)):Nat)
theorem Hh.cu(h:Hh I ρ L F):
  List.Perm (I.map (λx => ρ x.1)) ((List.range F.length).filter (λf:Nat=>decide (0<L.countP (DF (f:Int))))):=by
 refine(Cm (Wh _ (Vd h.nd) (λx a y d e=>?_)) (List.nodup_range.filter _)).2 (λf=>?_);have e1:=h.inj x a y d e;have:x.2=y.2:=Kz h.nd a Ξ;grind;rw[AB,List.mem_filter,Cz,An];constructor;rintro⟨x,a,rfl⟩;exact⟨h.lt x a,h.bq x a⟩;rintro⟨b,c⟩;obtain⟨x,a,e⟩:=h.all f b c;grind
theorem Hh.length(h:Hh I ρ L F):I.length=KH L F.length:=by unfold KH;rw[EJ,<-h.cu.length_eq,AT]
theorem Zqy(L:List (By×Int))(F:LY)(k:Nat):J2 L F k=(((List.range k).filter (λf:Nat=>decide (0<L.countP (DF (f:Int))))).map (λf=>((F[f]?.getD ⟨#[]⟩).size+63)/64)).sum:=by
 induction k with
 |zero=>rfl
 |succ k ih=>
  rw[J2,ih,B8,List.filter_append,AE,Fo];by_cases h:0<L.countP (DF (k));simp[h];simp[h]
def Mg(I:LF):Nat:=(I.map (λx=>(x.2.l+63)/64)).sum
theorem Hh.df(h:Hh I ρ L F):Mg I=JM L F:=by unfold Mg JM;rw[Zqy,<-(h.cu.map _).sum_nat,BP];congr 1;refine Ch (λx a=>?_);rw[h.size x a];rfl
section
open Go.RowKit Go.Shelf
attribute [local go_sem] Oper.semAt_some
abbrev Bq:=@wpAnyIn_ready
abbrev BT:=@run_takeDeferred
abbrev BY:=@callsIn_of_wp_marks
abbrev BZ:=@World.putObj_heap_other
abbrev B3:=@KeepsOthers.setCell
abbrev Cn:=@World.alloc_heap_new
abbrev CQ:=@CallsIn.inRound
abbrev El:=@KeepsOthers.alloc
abbrev Er:=@wpIn_rangeFunc_ownF
abbrev Es:=@OwnFrom.and
abbrev EU:=@belowK_b
abbrev EX:=@enters_of
abbrev Fa:=@wpIn_rangeFunc_ownH
abbrev Fl:=@ownFrom_below
abbrev Fx:=@Boxed.new
abbrev FF:=@Oper.semAt_plain
abbrev FV:=@grownBy_putObj'
theorem Sk(w:World)(o:Obj):w.grownBy (w.alloc o) none:=⟨rfl,rfl,rfl,Θ,by grind [Below.heap_alloc]⟩
theorem Ws{W a:World}(h:Bw W a):KeepsOthers W a:=⟨h.size,λk _o b _=>(h.block k (Au.1 b).1).M b⟩
theorem Oy(F:Fence)(n:Nat)(K:F.fn 222)(O:F.round=none)(hn:1<=n)(l s n0 z ho g B:Nat)(b : α -> By×VS)(a:List α)(ab:a.length<=10000)(p:g<n0)(J w:List α -> World->Prop)(W:World)(D:AbidesFrom W.heap.size J)(I:∀pre x W,J pre W->pre.length<a.length->YieldAt F (n-1) prog l #[dU (b x).1,.agg #[.pointer (b x).2.p,dI (b x).2.f]] W λe c=>
   (e=dR (dV true)/\J (pre++[x]) c/\Below n0 W c)\/(e=dR (dV false)/\w (pre++[x]) c))(aa:W.cell? (dQ s 0)=some (.pointer (some (dQ z ho))))(hc:W.cell? (dQ z ho)=some (dS g a.length B))(f:∀j u,(Ds (a.map b))[j]?=some u->W.cell? (dQ g j)=some u)(N:n0<=W.heap.size)(C:J [] W):
  CallsIn F n prog 222 #[.func (.yield l) #[] #[],dP s] W λe c=>(∃v,e=dR v)/\
   ((∃ys,ys=a/\J ys c)\/(∃pre,pre <+: a/\w pre c)):=by
 refine CA func222 rfl K ?_ O;simp only[ntmps222,AS,Ay,AR,Nat.reduceAdd,Nat.reduceSub,AY,AX,Be,A5,AH,AK]
 gi_wp2
 gi_loopw [10] (λi wr=>∃k:Nat,k<=a.length/\i=dI k/\J (a.take k) wr/\Below n0 W wr)
  (λi _=>a.length-(intOf i).toNat)
 case atStart=>exact⟨0,Ao _,rfl,C,Ad _ _⟩
 case round=>
  obtain⟨k,hk,rfl,m,d⟩:=hrel;by_cases M:k<a.length
  .obtain⟨x,h⟩:∃x,a[k]?=some x:=⟨_,Ab M⟩;have t:Hid (a.take (k+1)=a.take k++[x]):=(by show _=_;rw[Br,h];rfl);have q:=UZ _ k (b x) (by rw[A8,h];rfl);have q0:=(d.J p).M (f _ _ q.1);have q1:=(d.J p).M (f _ _ q.2.1);have q2:=(d.J p).M (f _ _ q.2.2);have A:(a.take k).length<a.length:=(by rw[AP];omega);have y:∀o,J (a.take k) (wr.alloc o):=λo=>D _ _ _ none m (Sk wr o) (λr e=>by cases e);obtain⟨fn,tmps,assign,body,hy,H⟩:=I _ x (wr.alloc (.cells #[dU (b x).1,.pointer (b x).2.p,dI (b x).2.f] 310)) (y _) A;have HX:=Db h;clear q h A y f
   gi_wp2
   apply H.Q;rintro e W3 (⟨rfl,E,L⟩|⟨rfl,G⟩)
   .gi_wp2
    go_roundw
    case rel=>exact⟨k+1,Ω,by go_num,by rw[Da t];exact E,(d.alloc (Ae N d.size) _).M L⟩
    case measure=>simp[intOf];omega
   .gi_wp2
    refine Am (CU rfl _ _ _) rfl ?_;exact⟨⟨_,rfl⟩,.inr ⟨_,by rw[<-Da t];exact FI _ _,G⟩⟩
  .obtain rfl:k=a.length:=Ω
   gi_wp2
   go_end0
   exact⟨⟨_,rfl⟩,.inl ⟨_,rfl,by rw[BD]at m;exact m⟩⟩
theorem ZD(F:Fence)(n:Nat)(d:F.fn 222)(f:F.round=none)(l a b ho:Nat)(J:List α -> World->Prop)(W:World)(aa:W.cell? (dQ a 0)=some (.pointer (some (dQ b ho))))(hc:W.cell? (dQ b ho)=some dN)(h0:J [] W):
  CallsIn F n prog 222 #[.func (.yield l) #[] #[],dP a] W λe c=>(∃v,e=dR v)/\J [] c:=by
 refine CA func222 rfl d ?_ f;simp only[ntmps222,AS,Ay,AR,Nat.reduceAdd,Nat.reduceSub,AY,AX,Be,A5,AH,AK]
 gi_wp2
 gi_loopw [10] (λi wr=>i=dI 0/\J [] wr) (λ_ _=>0)
 case atStart=>simp_all
 case round=>
  gi_wp2
  go_end0
  simp_all
theorem P9(F:Fence)(n:Nat)(b:F.fn 179)(c:F.round=none)(a:OA)(w:World):
  CallsIn F n prog 179 #[.pointer a] w λe w'=>e=dR (.func (.func 222) #[] #[dP w.heap.size])/\w'=w.alloc (.cells #[.pointer a] 307):=by
 refine CA func179 rfl b ?_ c
 gi_wp2
 go_ret;simp_all
theorem VM(F:Fence)(n:Nat)(q:F.fn 222)(r:F.round=none)(I:1<=n)(b n0 c ho:Nat)(v:Value)(d : α -> By×VS)(a:List α)(G:a.length<=10000)(w:World)(z:b<w.heap.size)(D:c<w.heap.size)(K:n0<=w.heap.size)(y:w.cell? (dQ b 0)=some (.pointer (some (dQ c ho))))(E:w.cell? (dQ c ho)=some v)(B:Sl w 310 3 v a.length (Ds (a.map d)))(L:∀g,v.ownBlock=some g->g<n0):
  SeqStopsK F n prog 222 #[dP b] (λx : α => #[dU (d x).1,.agg #[.pointer (d x).2.p,dI (d x).2.f]]) (Below n0) (λN=>N=a) (λM=>M <+: a) a.length w:=λl J s W f A _ C i=>by
 have k:=(f.J z).M y;have o:=(f.J D).M E;rcases B.2 with⟨rfl,h⟩|⟨g,t,R,rfl,m,_,_,_,hT⟩;obtain rfl:a=[]:=AC h;exact(ZD F n q r l b c ho J W k o i).Q λe W' ⟨h,H⟩=>⟨h,.inl ⟨_,rfl,H⟩⟩;exact Oy F n q r I l b n0 c ho g t d a G (L g rfl) J s W A C k o (λj u hu=>by rw[f.J (p:=dQ g j) m.lt,m.J];grind) (Ae K f.size) i
theorem OC(F:Fence)(n:Nat)(K:F.fn 204)(O:F.round=none)(hn:1<=n)(l s n0 z ho g B:Nat)(b : α -> Int×VF)(a:List α)(ab:a.length<=10000)(p:g<n0)(J w:List α -> World->Prop)(W:World)(D:AbidesFrom W.heap.size J)(I:∀pre x W,J pre W->pre.length<a.length->YieldAt F (n-1) prog l #[dI (b x).1,.agg #[.slice (b x).2.a (b x).2.l (b x).2.c,dI (b x).2.f]] W λe c=>
   (e=dR (dV true)/\J (pre++[x]) c/\Below n0 W c)\/(e=dR (dV false)/\w (pre++[x]) c))(aa:W.cell? (dQ s 0)=some (.pointer (some (dQ z ho))))(hc:W.cell? (dQ z ho)=some (dS g a.length B))(f:∀j u,(Du (a.map b))[j]?=some u->W.cell? (dQ g j)=some u)(N:n0<=W.heap.size)(C:J [] W):
  CallsIn F n prog 204 #[.func (.yield l) #[] #[],dP s] W λe c=>(∃v,e=dR v)/\
   ((∃ys,ys=a/\J ys c)\/(∃pre,pre <+: a/\w pre c)):=by
 refine CA func204 rfl K ?_ O;simp only[ntmps204,AS,Ay,AR,Nat.reduceAdd,Nat.reduceSub,AY,AX,Be,A5,AH,AK]
 gi_wp2
 gi_loopw [10] (λi wr=>∃k:Nat,k<=a.length/\i=dI k/\J (a.take k) wr/\Below n0 W wr)
  (λi _=>a.length-(intOf i).toNat)
 case atStart=>exact⟨0,Ao _,rfl,C,Ad _ _⟩
 case round=>
  obtain⟨k,hk,rfl,m,d⟩:=hrel;by_cases M:k<a.length
  .obtain⟨x,h⟩:∃x,a[k]?=some x:=⟨_,Ab M⟩;have t:Hid (a.take (k+1)=a.take k++[x]):=(by show _=_;rw[Br,h];rfl);have q:=UY _ k (b x) (by rw[A8,h];rfl);have q0:=(d.J p).M (f _ _ q.1);have q1:=(d.J p).M (f _ _ q.2.1);have q2:=(d.J p).M (f _ _ q.2.2);have A:(a.take k).length<a.length:=(by rw[AP];omega);have y:∀o,J (a.take k) (wr.alloc o):=λo=>D _ _ _ none m (Sk wr o) (λr e=>by cases e);obtain⟨fn,tmps,assign,body,hy,H⟩:=I _ x (wr.alloc (.cells #[dI (b x).1,.slice (b x).2.a (b x).2.l (b x).2.c,dI (b x).2.f] 293)) (y _) A;have HX:=Db h;clear q h A y f
   gi_wp2
   apply H.Q;rintro e W3 (⟨rfl,E,L⟩|⟨rfl,G⟩)
   .gi_wp2
    go_roundw
    case rel=>exact⟨k+1,Ω,by go_num,by rw[Da t];exact E,(d.alloc (Ae N d.size) _).M L⟩
    case measure=>simp[intOf];omega
   .gi_wp2
    refine Am (CU rfl _ _ _) rfl ?_;exact⟨⟨_,rfl⟩,.inr ⟨_,by rw[<-Da t];exact FI _ _,G⟩⟩
  .obtain rfl:k=a.length:=Ω
   gi_wp2
   go_end0
   exact⟨⟨_,rfl⟩,.inl ⟨_,rfl,by rw[BD]at m;exact m⟩⟩
theorem Zqa(F:Fence)(n:Nat)(d:F.fn 204)(f:F.round=none)(l a b ho:Nat)(J:List α -> World->Prop)(W:World)(aa:W.cell? (dQ a 0)=some (.pointer (some (dQ b ho))))(hc:W.cell? (dQ b ho)=some dN)(h0:J [] W):
  CallsIn F n prog 204 #[.func (.yield l) #[] #[],dP a] W λe c=>(∃v,e=dR v)/\J [] c:=by
 refine CA func204 rfl d ?_ f;simp only[ntmps204,AS,Ay,AR,Nat.reduceAdd,Nat.reduceSub,AY,AX,Be,A5,AH,AK]
 gi_wp2
 gi_loopw [10] (λi wr=>i=dI 0/\J [] wr) (λ_ _=>0)
 case atStart=>simp_all
 case round=>
  gi_wp2
  go_end0
  simp_all
theorem Xu(F:Fence)(n:Nat)(b:F.fn 145)(c:F.round=none)(a:OA)(w:World):
  CallsIn F n prog 145 #[.pointer a] w λe w'=>e=dR (.func (.func 204) #[] #[dP w.heap.size])/\w'=w.alloc (.cells #[.pointer a] 290):=by
 refine CA func145 rfl b ?_ c
 gi_wp2
 go_ret;simp_all
theorem Zix(F:Fence)(n:Nat)(q:F.fn 204)(r:F.round=none)(I:1<=n)(c n0 d ho:Nat)(v:Value)(b : α -> Int×VF)(a:List α)(G:a.length<=10000)(w:World)(z:c<w.heap.size)(D:d<w.heap.size)(K:n0<=w.heap.size)(y:w.cell? (dQ c 0)=some (.pointer (some (dQ d ho))))(E:w.cell? (dQ d ho)=some v)(B:Sl w 293 3 v a.length (Du (a.map b)))(L:∀g,v.ownBlock=some g->g<n0):
  SeqStopsK F n prog 204 #[dP c] (λx : α => #[dI (b x).1,.agg #[.slice (b x).2.a (b x).2.l (b x).2.c,dI (b x).2.f]]) (Below n0) (λN=>N=a) (λM=>M <+: a) a.length w:=λl J s W f A _ C i=>by
 have k:=(f.J z).M y;have o:=(f.J D).M E;rcases B.2 with⟨rfl,h⟩|⟨g,t,R,rfl,m,_,_,_,hT⟩;obtain rfl:a=[]:=AC h;exact(Zqa F n q r l c d ho J W k o i).Q λe W' ⟨h,H⟩=>⟨h,.inl ⟨_,rfl,H⟩⟩;exact OC F n q r I l c n0 d ho g t b a G (L g rfl) J s W A C k o (λj u hu=>by rw[f.J (p:=dQ g j) m.lt,m.J];grind) (Ae K f.size) i
end
section
open Go.RowKit Go.Shelf
attribute [local go_sem] Oper.semAt_some
theorem U5(B:Nat)(t:TypeId)(f : β -> Gf):Own (λs W=>Gb W B t (f s)):=λs X Y row a d e=>
 a.kept d (λb=>by obtain⟨o,ho,c⟩:=e B b.r;rw[a]at ho;cases ho;cases c)
theorem D9(w:World)(L:Gf)(e:TypeId):Gb (w.alloc (.cells L.toArray e)) w.heap.size e L:=Cn w _
def DL(l:List Nat):Nat:=(l.map (λn=>(n+63)/64)).sum
theorem Zn6(l:List Nat)(n:Nat):DL (l++[n])=DL l+(n+63)/64:=by simp[DL]
theorem XZ(l:List Nat)(h:∀n∈l,n<=2000000):DL l<=l.length*40000:=by
 induction l with
 |nil=>simp[DL]
 |cons a l ih=>
  have h2:=h a Θ;grind [DL,List.length_cons]
theorem ZhL(w:World)(tb:Nat)(T o:Value)(I:LF)(G:Gb w tb 214 [T,o])(B:Sl w 293 3 o I.length (Du I))(v:I.length<=10000)(E:∀x∈I,x.2.l<=2000000):
  Cl 82 #[dP tb] w λe w'=>e=dR (dI (DL (I.map (·.2.l)):Nat))/\Bw w w':=by
 refine(Bg (n:=3)).1 ?_;refine BY func82 rfl trivial ?_ rfl;simp only[ntmps82,AS,Ay,AR,Nat.reduceAdd,Nat.reduceSub,AY,AX,Be,A5,AH,AK]
 gi_wp2_with (refine⟨trivial,?_⟩;gi_at_call 145;apply(Xu _ _ trivial rfl _ _).Q;rintro e w'⟨rfl,rfl⟩)
 obtain⟨b,j⟩:∃b,(w.alloc (Obj.cells #[Value.int IntKind.i64 0] 3)).alloc (Obj.cells #[Value.pointer (some { block:=tb,off:=1 })] 290)=b:=⟨_,rfl⟩;rw[j];have ad:b.heap.size=w.heap.size+2:=by rw[<-j];simp
 have t:Bw w b:=by rw[<-j];exact((Ad _ w).alloc (Aa _) _).alloc Θ _
 have M:Boxed b w.heap.size 3 (dI 0):=by rw[<-j];exact(Fx w 3 _).alloc _
 have N:Boxed b (w.heap.size+1) 290 (.pointer (some (dQ tb 1))):=by rw[<-j];have:=Fx (w.alloc (Obj.cells #[Value.int IntKind.i64 0] 3)) 290 (.pointer (some (dQ tb 1)));simpa using this
 have S:tb<w.heap.size:=G.lt;have L:=B.kept (λk Q _=>t.block k Q);have P:b.cell? (dQ tb 1)=some o:=(t.J S).M (G.J 1);have C:I.attach.map (λx=>x.1)=I:=CD I;clear j;refine Fa (α:={ x // x∈I }) rfl Ω (gf:=204) (lb:=#[.pointer (some ⟨w.heap.size+1,0,none⟩)]) rfl trivial (EX func204 Φ rfl)
  (Zix Fence.wide 2 trivial rfl Ω (w.heap.size+1) w.heap.size tb 1 o (λx=>x.1) I.attach (by simpa using v) b Ω Ω Ω N.J P (by rw[C];simpa using L) (λg u=>B.lt u))
  belowK_t (EU Ω) (Ad _ _) (λ_=>rfl)
  (λa W=>Boxed W w.heap.size 3 (dI (DL (a.map (·.1.2.l)):Nat))/\Bw w W)
  (λ_ _ _=>False)
  (Es (Own.from (boxed_own _ _ _) _) (Fl (Aa _) Ω))
  (λ_ _ _ _ _ z _ _=>z)
  ⟨M,t⟩
  (λx q W=>∃f,w.heap.size<f/\Gb W f 217 [dT x.1.2.a x.1.2.l x.1.2.c,dI x.1.2.f]/\q={ tmps:=#[dP tb,undef,dI 0,dP w.heap.size,undef,dP f,dP tb,dP tb,.pointer (some (dQ tb 1)),.func (.func 204) #[] #[.pointer (some ⟨w.heap.size+1,0,none⟩)],dI x.1.1,.agg #[dT x.1.2.a x.1.2.l x.1.2.c,dI x.1.2.f],undef,undef,undef,undef,undef,undef,undef,undef,undef],defers:=[] })
  (λx q _ X Y row z u F=>by obtain⟨f,s,A,J⟩:=z;exact⟨f,s,(U5 (β:=Unit) f 217 (λ_=>_)).from _ () X Y row A u F,J⟩)
  ?assign ?body ?done ?stop
 case assign=>
  rintro l a x W K⟨d,i⟩ m
  gi_wp2
  refine m _ _ ((El _ _).from _) ((Ad _ W).alloc i.size _) ⟨d.alloc _,i.alloc i.size _⟩ ⟨W.heap.size,d.lt,D9 W _ _,rfl⟩
 case body=>
  rintro l a x q W ab⟨r,F⟩ ⟨d,i⟩ ⟨f,aa,H,rfl⟩ R;have hx:=E x.1 x.2;have O:=d.J;have hf:=d.A;have x0:=H.J 0;have ac:DL (a.map (·.1.2.l))<=10000*40000:=by have s:=XZ (a.map (·.1.2.l)) (λn v=>by obtain⟨y,hy,e⟩:=AB.1 v;rw[<-e];exact E _ y.2);rw[AT]at s;have A:a.length<I.length:=(by simpa using R);omega
  gi_wp2
  have e:((DL (a.map (·.1.2.l)):Nat):Int)+((x.1.2.l:Int)+64-1)/64=((DL ((a++[x]).map (·.1.2.l)):Nat):Int):=by rw[AE,A6,CF,Zn6];omega
  exact⟨(B3 _ _ _).from _,(Ad w.heap.size W).setCell (p:=dQ w.heap.size 0) (Aa _) _,by rw[e];exact d.set _,i.setCell (p:=dQ w.heap.size 0) (Aa _) _⟩
 case done=>
  rintro D ys W hD rfl⟨d,i⟩ m;have O:=d.J
  gi_wp2
  refine⟨Θ,.inl ⟨_,_,rfl,BT m,?_⟩⟩;exact⟨_,EL rfl _ _ _,by have:I.attach.map (λx=>x.1.2.l)=I.map (λx=>x.2.l):=(by have:=Cp (List.map (λx:Int×VF=>x.2.l)) C;rw[BP]at this;exact this);rw[<-this];rfl,i.M (EU (w:=w) (Aa _) W D _ _ Ω m rfl rfl)⟩
 case stop=>
  rintro D c a W _ _ h _;exact h.elim
theorem Zpq(w:World)(tb:Nat)(Z A:Value)(I:LF)(J:Gb w tb 214 [Z,A])(E:Sl w 293 3 A I.length (Du I))(hn:I.length<=10000)(V:G3 I)(h0:∀x∈I,0<=x.1):
  Cl 186 #[dP tb] w λe w'=>∃f:Nat,e=dR (dI f)/\f<=I.length/\(∀x∈I,x.1≠f)/\Bw w w':=by
 refine(Bg (n:=3)).1 ?_;refine BY func186 rfl trivial ?_ rfl;simp only[ntmps186,AS,Ay,AR,Nat.reduceAdd,Nat.reduceSub,AY,AX,Be,A5,AH,AK]
 gi_wp2_with (refine⟨trivial,?_⟩;gi_at_call 145;apply(Xu _ _ trivial rfl _ _).Q;rintro e w'⟨rfl,rfl⟩)
 obtain⟨b,q⟩:∃b,(w.alloc (Obj.cells #[Value.int IntKind.i64 0] 3)).alloc (Obj.cells #[Value.pointer (some { block:=tb,off:=1 })] 290)=b:=⟨_,rfl⟩;rw[q];have ad:b.heap.size=w.heap.size+2:=by rw[<-q];simp
 have B:Bw w b:=by rw[<-q];exact((Ad _ w).alloc (Aa _) _).alloc Θ _
 have P:Boxed b w.heap.size 3 (dI 0):=by rw[<-q];exact(Fx w 3 _).alloc _
 have Q:Boxed b (w.heap.size+1) 290 (.pointer (some (dQ tb 1))):=by rw[<-q];have:=Fx (w.alloc (Obj.cells #[Value.int IntKind.i64 0] 3)) 290 (.pointer (some (dQ tb 1)));simp_all
 have X:tb<w.heap.size:=J.lt;have aa:=E.kept (λk r _=>B.block k r);have S:b.cell? (dQ tb 1)=some A:=(B.J X).M (J.J 1);have R:I.map (λx=>x)=I:=List.map_id I;clear q;refine Er rfl Ω rfl trivial (EX func204 Φ rfl)
  (Zix _ 2 trivial rfl Ω _ _ tb 1 A _ I Ω b Ω Ω Ω Q.J S (by rw[R];omega) (λg T=>E.lt T))
  belowK_t (EU Ω) (Ad _ _) (λ_=>rfl)
  (λa W=>(Boxed W w.heap.size 3 (dI (a.length:Nat))/\Bw w W)/\∀(j:Nat) (y:Int×VF),a[j]?=some y->y.1=j)
  (λc a W=>(Boxed W w.heap.size 3 (dI ((a.length-1:Nat):Int))/\Bw w W)/\c=.exit 0/\(∃y,a[a.length-1]?=some y/\y.1≠(a.length-1:Nat))/\∀(j:Nat) (y:Int×VF),j<a.length-1->a[j]?=some y->y.1=j)
  (Es (Es (Own.from (boxed_own _ _ _) _) (Fl (Aa _) Ω)) (ownFrom_pure _ _))
  (λc=>Es (Es (Own.from (boxed_own _ _ _) _) (Fl (Aa _) Ω)) (ownFrom_pure _ _))
  ⟨⟨P,B⟩,λj y h=>by simp at h⟩
  (λx=>{ tmps:=#[dP tb,undef,dI 0,dP w.heap.size,dI x.1,dP tb,dP tb,.pointer (some (dQ tb 1)),.func (.func 204) #[] #[.pointer (some ⟨w.heap.size+1,0,none⟩)],dI x.1,.agg #[dT x.2.a x.2.l x.2.c,dI x.2.f],undef,undef,undef,undef,undef,undef],defers:=[] })
  ?assign ?body ?done ?stop
 case assign=>
  intro l x W K o
  gi_wp2
  omega
 case body=>
  rintro l a x W⟨⟨d,m⟩,r⟩ U;have F:=d.J;have hf:=d.A;by_cases s:x.1=(a.length)
  .gi_wp2
   refine⟨(B3 _ _ _),(Ad w.heap.size W).setCell (p:=dQ w.heap.size 0) (Aa _) _,⟨by rw[Ah];exact d.set _,m.setCell (p:=dQ w.heap.size 0) (Aa _) _⟩,λj y h=>?_⟩;rw[List.getElem?_append]at h;split at h;grind;rename_i u;have:j-a.length=0:=(by grind);grind
  .gi_wp2
   refine⟨KeepsOthers.refl _,⟨by rw[Ah];exact d,m⟩,rfl,⟨x,Θ,by simpa using s⟩,λj y u h=>?_⟩;rw[Ap Ξ]at h;grind
 case done=>
  rintro D ys W O rfl⟨⟨d,m⟩,r⟩ o;have F:=d.J
  gi_wp2
  refine⟨Θ,.inl ⟨_,_,rfl,BT o,?_⟩⟩;refine⟨_,EL rfl _ _ _,_,rfl,Aa _,λx s e=>?_,m.M (EU (w:=w) (Aa _) W D _ _ Ω o rfl rfl)⟩;obtain⟨j,u⟩:=Co s;grind
 case stop=>
  rintro D c a W O G⟨⟨d,m⟩,rfl,⟨y,L,Y⟩,r⟩ o;have F:=d.J
  gi_wp2
  refine⟨Θ,.inl ⟨_,_,rfl,BT o,?_⟩⟩;have ac:=G.length_le;have U:=(Ac.1 L).1;refine⟨_,EL rfl _ _ _,_,rfl,Ω,λx s e=>?_,m.M (EU (w:=w) (Aa _) W D _ _ Ω o rfl rfl)⟩;obtain⟨i,C⟩:=Co s;have H:∀j,j<a.length->I[j]?=a[j]? := λj u=>by obtain⟨t,rfl⟩:=G;grind
  have ab:∀(j:Nat) (z:Int×VF),I[j]?=some z->(j)<=z.1:=by
   intro j
   induction j with
   |zero=>grind
   |succ j ih=>
    intro z M;have u:=(Ac.1 M).1;have h1:=ih _ (Ab Ω);have N:=V j _ _ z Ω (Ab Ω) M;have h3:=Bd N;omega
  rcases CY i (a.length-1) with v|v|v;have:=r i x v (by rw[<-H i Ω];exact C);omega;rw[v,H _ Ω,L]at C;cases C;exact Y e;grind
end
