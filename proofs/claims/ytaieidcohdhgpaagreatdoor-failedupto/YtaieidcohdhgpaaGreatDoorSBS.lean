/- Failed. -/
import Derived.Test.YtaieidcohdhgpaaGreatDoorSBR
namespace Go.Proofs.YtaieidcohdhgpaaGreatDoor
set_option maxHeartbeats 40000000
set_option maxRecDepth 100000
open Go.RowKit
def zer8:LVa:=[.slice none 0 0,.slice none 0 0,.slice none 0 0,.slice none 0 0,.slice none 0 0,.slice none 0 0,.slice none 0 0,.slice none 0 0]
theorem ZnA:(Tryz.prog.info? 62).map (·.size)=some 8:=by kernel_rfl
theorem und62:∃d,Tryz.prog.underlying 62=some d/\d.isRow=true:=by
 have h:(Tryz.prog.underlying 62).map (·.isRow)=some true:=by kernel_rfl
 cases hd:Tryz.prog.underlying 62 with
 | none=>rw[hd]at h;cases h
 | some d=>rw[hd]at h;exact⟨d,rfl,by simpa using h⟩
theorem zero62:∀w,(zeroValue 62).run Tryz.prog w = .ok (.agg zer8.toArray) w:=(zero_of_info (n:=8) (by kernel_rfl)).1
def FlU(M n0:Nat)(w:World)(gK xb:Nat)(U:World)(A:Nat):Prop:=
 ∃f:NV,U.rangeAt gK (A*8) (Jg f)/\(∀u∈Jg f,u.oneCell'=true)/\∃W W2,U.alloc (.cells zer8.toArray 62)=W/\RowIs W U.heap.size 62 zer8/\W.setRow U.heap.size (Jg f).toArray=W2/\Hid (∃tx dx sx b,LgI M n0 w W2 xb tx dx sx b (KeptB b)/\SetW n0 W2 U.heap.size b f)
def FlY(M n0:Nat)(w:World)(aK:OA)(lK:Nat)(aE:OA)(lE ee xb:Nat)(Y:World):Prop:=
 ∃(gK gE j0:Nat) (en:List Nat),aK=some ⟨gK,0,none⟩/\aE=some ⟨gE,0,none⟩/\en.length=lK/\lE=lK/\lK<=1000/\At en ee j0/\(∀(i:Nat) x,en[i]?=some x->Y.cell? ⟨gE,i,none⟩=some (.int .i64 (x:Nat)))/\
  Hid (Calls Tryz.prog 29 #[.pointer (some ⟨gK,j0*8,none⟩),.pointer (some ⟨xb,0,none⟩)] Y fun e U=>∃r:Bool,e = .returned (.bool r)/\Hid (r=true->FlU M n0 w gK xb U j0)/\Hid (r=false->0<j0/\Calls Tryz.prog 29 #[.pointer (some ⟨gK,(j0-1)*8,none⟩),.pointer (some ⟨xb,0,none⟩)] U fun e U2=>e = .returned (.bool true)/\Hid (FlU M n0 w gK xb U2 (j0-1))))
theorem FlU.of{M m:Nat}{w U:World}{y q l c:Nat}{s:List (Nat->Option By)}{I:List (NV)}(E:KptW U (.slice (some ⟨q,0,none⟩) l c) s I){A:Nat}{o:Nat->Option By}(C:s[A]?=some o){v p t:Nat}{a:Nat->Option By}(h:LgI M m w U y v p t a (KeptB a))(D:∀i,i<8->a i=o i):FlU M m w q y U A:=by
 obtain⟨g,f,e,_,G,r⟩:=E.set C
 cases e
 obtain⟨W,B,x,kW,sW,z⟩:=De U zer8 62;obtain⟨d,k⟩:∃X,W.setRow U.heap.size (Jg f).toArray=X:=⟨_,rfl⟩;have J:RowIs d U.heap.size 62 (Jg f):=by rw[<-k];exact setRow_heap W _ _ _ 62 _ x
 have n:Below U.heap.size U d:=by rw[<-k];exact z.trans ⟨rfl,rfl,rfl,by simp,fun j hj=>setRow_other W _ j _ (by omega)⟩
 have F:m<=U.heap.size:=Nat.le_trans h.lo.2.2.1 h.bel.size;refine⟨f,G,fun u H=>?_,W,d,B,x,k,v,p,t,a,h.below n,J,fun i b=>?_,F⟩
 ·obtain⟨i,b,rfl⟩:=List.mem_map.1 H;exact(r.at' i (List.mem_range.1 b)).one
 ·rw[D i b];exact(r.at' i b).kp (Kp62.below n)
theorem FlI.opened{M p:Nat}{w wr Y:World}{vb tb F aa sb:Nat}{b:Nat->Option By}{vs:NV}{s q:OA}{C E B cE:Nat}{o:List (Nat->Option By)}{X:List (NV)}{en:List Nat}
  (h:FlI M p w wr vb tb F aa sb b vs (.slice s C E) (.slice q B cE) o X en) (v:Below wr.heap.size wr Y) {t a g D tx G sx:Nat} {m:Nat->Option By} (y:At en t a) (hi:g=a\/g+1=a) (n:o[g]?=some m) {N:Nat} (hM:M<=400) (j:LgI N p w Y D tx G sx m (KeptB m)):FlY N p w s C q B t D Y:=by
 have d:=h.kp.kp (Kp62.below v);have P:=h.en.kept (fun k d _=>v.block k d);have ad:=h.ll;have ac:=y.lt;obtain⟨bj,l⟩:∃x,o[a]?=some x:=⟨_,List.getElem?_eq_getElem (by omega)⟩;obtain⟨J,f,rfl,hl,_,L⟩:=d.set l;rcases P.2 with⟨_,hz⟩|⟨I,ab,R,e,K,q1,q2,q3,Z⟩
 ·omega
 simp only[Value.slice.injEq]at e;obtain⟨rfl,_,rfl⟩:=e;refine⟨J,I,a,en,rfl,rfl,by omega,by have:=h.en.len;omega,by have:=h.le;omega,y,fun i x W=>?_,?_⟩
 ·have:(R.take (en.length*1))[i]?=some (.int .i64 (x:Nat)):=by rw[Z,List.getElem?_map,W];rfl
  rw[List.getElem?_take]at this
  split at this
  ·rw[K.cell];exact this
  ·cases this
 ·refine(Zfx j.vl L).mono ?_;rintro e U ⟨r,rfl,A,c⟩;refine⟨r,rfl,fun T=>FlU.of (d.kp (Kp62.below c)) l (j.below c) (A.1 T),fun S=>?_⟩;have ae:g≠a:=fun e=>by
   subst e;rw[n]at l
   cases l
   have:=A.2 (fun i _=>rfl);rw[S]at this
   cases this
  have Q:a-1=g:=by omega
  rw[Q];refine⟨by omega,?_⟩;have z:=d.kp (Kp62.below c);obtain⟨g',f',H,_,_,O⟩:=z.set n
  cases H
  refine(Zfx (j.below c).vl O).mono ?_;rintro e U2 ⟨r2,rfl,V,u⟩;rw[V.2 (fun i _=>rfl)];exact⟨rfl,FlU.of (z.kp (Kp62.below u)) n ((j.below c).below u) (fun i _=>rfl)⟩
def FlE(n0:Nat)(w wr:World)(vb:Nat)(epo:Int)(al:OA)(ll cl:Nat)(aK:OA)(lK:Nat)(aE:OA)(lE:Nat):Prop:=
 ∃x ee M:Nat,x<=1000/\M<=1000/\ee<=x/\Hid (Calls Tryz.prog 30 #[.pointer (some ⟨vb,0,none⟩)] wr fun e V=>e = .returned (.int .i64 (x:Nat))/\V=wr)/\Hid (Calls Tryz.prog 24 #[.int .i64 epo,.int .i64 ((x:Int)+1)] wr fun e V=>e = .returned (.int .i64 (ee:Nat))/\V=wr)/\
  Hid (Calls Tryz.prog 31 #[.pointer (some ⟨vb,0,none⟩),.int .i64 (ee:Nat),.slice al ll cl] wr fun e Z=>∃a l c,e = .returned (.slice a l c)/\Hid (Calls Tryz.prog 27 #[.slice a l c] Z fun e Y=>∃xb:Nat,e = .returned (.tuple #[.pointer (some ⟨xb,0,none⟩),.int .i64 0])/\Hid (FlY M n0 w aK lK aE lE ee xb Y)))
theorem FlI.end{M:Nat}{w wr:World}{u tb z R Q:Nat}{b:Nat->Option By}{vs:NV}{k i:OA}{t y s cE:Nat}{O:List (Nat->Option By)}{P:List (NV)}{en:List Nat}
  (h:FlI M w.heap.size w wr u tb z R Q b vs (.slice k t y) (.slice i s cE) O P en) (C:M<=400) (d:Int) (G:In64 d) (e:OA) (lost:List Bool) (cl:Nat) (K:RdT w e lost) (aa:lost.length<=1048576):FlE w.heap.size w wr u d e lost.length cl k t i s:=by
 obtain⟨x,q,ab⟩:=h.last;have L:RdT wr e lost:=fun j v N=>by
  obtain⟨g,f,A,m⟩:=K j v N;exact⟨g,f,A,(h.fg.bel.cell (p:=⟨g,f+j,none⟩) (World.block_lt_of_cell? _ _ m)).trans m⟩
 obtain⟨b0,i0,j0,J,I,E,F⟩:=h.fg.broken (by omega) q (JW d (x+1)) (by have:=QA d (n:=x+1) (by omega);omega) e cl lost L (by omega);refine⟨x,JW d (x+1),M+1,by omega,by omega,by have:=QA d (n:=x+1) (by omega);omega,h.fg.epochs q,QL wr d (x+1) G (by omega) (by omega),F.mono ?_⟩;rintro r Z ⟨a,l,c,rfl,o,H⟩;refine⟨a,l,c,rfl,Calls.mono H ?_⟩;rintro r Y ⟨S,rfl,D,tx,dx,sx,B⟩;exact⟨S,rfl,h.opened (o.trans (D.mono o.size)) J I E C B⟩
theorem Zkl{N g:Nat}{w wr:World}{j y m v x:Nat}{b:Nat->Option By}{vs:NV}(E:g=w.heap.size)(h:LgI N g w wr j y m v b (KeptB b))(G:SetW g wr x b vs)(hN:N<=2000000):
  Calls Tryz.prog 28 #[.pointer (some ⟨j,0,none⟩)] wr fun e Z=>∃a l c,e = .returned (.slice a l c)/\Hid (Calls Tryz.prog 27 #[.slice a l c] Z fun e U=>∃d:Nat,e = .returned (.tuple #[.pointer (some ⟨d,0,none⟩),.int .i64 0])/\Hid (Calls Tryz.prog 29 #[.pointer (some ⟨x,0,none⟩),.pointer (some ⟨d,0,none⟩)] U fun e k=>e = .returned (.bool true)/\Hid (Below w.heap.size w k))):=by
 obtain⟨s,vk,I,J,vw,H,ps,ep,t,B,A,z,h1,_⟩:=h.st;refine(imageV wr j y m v h.vol I J vw H s.D t.st.disk).mono ?_;rintro e Z ⟨a,l,c,rfl,C,o⟩;refine⟨a,l,c,rfl,?_⟩;have p:=h.below o;refine(openL A z (by omega) B Z a l c C.1 t.st.disk.2.1.2 p.pk).mono ?_;rintro e U ⟨d,rfl,u,n⟩;refine⟨d,rfl,?_⟩;have q:=(G.kp (Kp62.below o)).kp (Kp62.below n);refine(Zfx (so:=0) u ⟨fun i f=>by rw[Nat.zero_add];exact q.cell f,q.at',fun i f=>u.sizes f⟩).mono ?_;rintro e k ⟨r,rfl,F,D⟩;rw[F.2 (fun i _=>rfl)];have:=((p.below n).below D).bel;rw[E]at this;exact⟨rfl,this⟩
theorem ZiU(w:World)(hp:PkgOk w)(a:OA)(xs:List Int)(bl:Nat)(hx:RdI w a xs)(bd:∀x∈xs,In64 x)(hl:xs.length<=1048576)(an:Int)(a7:In64 an)(al:OA)(lost:List Bool)(cl:Nat)(ba:RdT w al lost)(bt:lost.length<=1048576)
  (am:OA) (ms:List Int) (cm:Nat) (hm:RdI w am ms) (bb:∀x∈ms,In64 x) (bu:ms.length<=1048576):
  Calls Tryz.prog 10 #[.slice a xs.length bl,.int .i64 an,.slice al lost.length cl,.slice am ms.length cm] w (Znr w):=by
 obtain⟨ab,aC⟩:∃n,n=xs.length:=⟨_,rfl⟩;obtain⟨ll,aD⟩:∃n,n=lost.length:=⟨_,rfl⟩;obtain⟨ml,aF⟩:∃n,n=ms.length:=⟨_,rfl⟩;have HO:=Db (ZiH w hp);rw[<-aC,<-aD,<-aF];have HX:=Db hx;have aV:=Db bd;have HL:=Db aC;have HM:=Db hm;have bg:=Db bb;have bh:=Db aF;have aS:=Db ba;have aR:=Db aD;have aL:=Db a7;have bS:ab<=1048576:=by omega
 have bU:ml<=1048576:=by omega
 have bT:ll<=1048576:=by omega
 clear hx bd aC hp hl hm bb aF bu ba aD bt a7;go_enter Tryz.func10,Tryz.ntmps10;go_upto_region 2 with(go_at_call 23;refine(Da HO).mono ?_;rintro e X ⟨J,tb,db,ar,rfl,a5,a4⟩;have ak:=Db (FgI.first a5 a4);clear a5 a4);clear HO;go_upto_region 4 with fail;go_upto_region 5 with fail;obtain⟨Y,eY,t,kY,sY,bY⟩:=De X [.slice none 0 0,.slice none 0 0,.slice none 0 0,.slice none 0 0,.slice none 0 0,.slice none 0 0,.slice none 0 0,.slice none 0 0] 62;rw[show X.alloc (.cells #[.slice none 0 0,.slice none 0 0,.slice none 0 0,.slice none 0 0,.slice none 0 0,.slice none 0 0,.slice none 0 0,.slice none 0 0] 62)=Y from eY];obtain⟨h,ap⟩:∃s,s=X.heap.size:=⟨_,rfl⟩;rw[<-ap]at t ⊢;have q0:Y.cell? ⟨h,0,none⟩=some (.slice none 0 0):=(t.cell 0).trans rfl;have q1:Y.cell? ⟨h,1,none⟩=some (.slice none 0 0):=(t.cell 1).trans rfl;have q2:Y.cell? ⟨h,2,none⟩=some (.slice none 0 0):=(t.cell 2).trans rfl;have q3:Y.cell? ⟨h,3,none⟩=some (.slice none 0 0):=(t.cell 3).trans rfl;have q4:Y.cell? ⟨h,4,none⟩=some (.slice none 0 0):=(t.cell 4).trans rfl;have q5:Y.cell? ⟨h,5,none⟩=some (.slice none 0 0):=(t.cell 5).trans rfl;have q6:Y.cell? ⟨h,6,none⟩=some (.slice none 0 0):=(t.cell 6).trans rfl;have q7:Y.cell? ⟨h,7,none⟩=some (.slice none 0 0):=(t.cell 7).trans rfl;have HY:=Db (And.intro ap (And.intro t (And.intro sY bY)));clear eY t kY sY bY ap;go_upto_region 6 with fail;clear q0 q1 q2 q3 q4 q5 q6 q7;obtain⟨A,a0,aJ,aI,be,az⟩:=De Y [.slice none 0 0,.slice none 0 0,.slice none 0 0,.slice none 0 0,.slice none 0 0,.slice none 0 0,.slice none 0 0,.slice none 0 0] 62;rw[show Y.alloc (.cells #[.slice none 0 0,.slice none 0 0,.slice none 0 0,.slice none 0 0,.slice none 0 0,.slice none 0 0,.slice none 0 0,.slice none 0 0] 62)=A from a0];have aM:Hid (Calls Tryz.prog 30 #[.pointer (some ⟨J,0,none⟩)] A fun e w'=>e = .returned (.int .i64 ((0:Nat):Int))/\w'=A):=(((Da ak).below (Da HY).2.2.2).below az).epochs rfl;have HI:Hid (∀Z,Below A.heap.size A Z->RowIs Z A.heap.size 3 [.int .i64 0]->∃M b vs C D en,FlI M w.heap.size w Z J tb db ar h b vs (.slice (some ⟨Y.heap.size,0,none⟩) 1 1) (.slice (some ⟨A.heap.size,0,none⟩) 1 1) C D en/\M<=0):=fun Z hZ hr=>by
  obtain⟨ap,t,sY,bY⟩:=Da HY;have hF:=((Da ak).below bY).below az;have bW:=(Da ak).bel.size;refine⟨0,fun _=>none,fun _ => .slice none 0 0,[fun _=>none],[fun _ => .slice none 0 0],[0],⟨(hF.mean (Y:=Own (.slice (some ⟨A.heap.size,0,none⟩) 1 1)) (fun k hk=>by simp[Own,Value.ownBlock]at hk;exact .inr (by omega))).below hZ,⟨(hZ.block _ (aI _ _ _ t).lt).trans (aI _ _ _ t),fun i _ => .inl ⟨rfl,rfl⟩,by omega⟩,⟨rfl,⟨rfl,.inr ⟨Y.heap.size,1,_,rfl,(hZ.block _ aJ.lt).trans aJ,Nat.le_refl _,by unfold maxLen;omega,rfl,rfl⟩⟩,fun j b f hb hf i hi=>?_⟩,⟨rfl,.inr ⟨A.heap.size,1,_,rfl,hr,Nat.le_refl _,by unfold maxLen;omega,rfl,rfl⟩⟩,fun e=>?_,fun k e=>?_,Nat.le_refl _⟩,Nat.le_refl _⟩
  ·cases j with
   | zero=>cases hb;cases hf;exact⟨.inl ⟨rfl,rfl⟩,Nat.zero_le _⟩
   | succ j=>simp at hb
  ·simp[Own,Value.ownBlock]at e;omega
  ·rcases e with e|e<;>(simp[Own,Value.ownBlock]at e;omega)
 have bk:=Db be;clear a0 aJ aI be az ak HY;go_upto_region 7 with(go_at_call 30;refine(Da aM).mono ?_;rintro e w' ⟨rfl,m⟩;rw[m];clear m);clear aM;obtain⟨Y3,a2,bf,bH,bK,aX⟩:=De A [.int .i64 0] 3;rw[show A.alloc (.cells #[.int .i64 0] 3)=Y3 from a2];have aN:=Db (Da HI Y3 aX bf);clear a2 bf bH bK aX HI bk;go_wp2
 go_loopw [11,12,13] (fun k e i wr=>∃(q:Nat) (aK:OA) (lK cK:Nat) (aE:OA) (o cE:Nat),q<=ab/\q<=40/\k = .slice aK lK cK/\e = .slice aE o cE/\i = .int .i64 q/\Hid (∃M b vs C D en,FlI M w.heap.size w wr J tb db ar h b vs (.slice aK lK cK) (.slice aE o cE) C D en/\M<=q)) (fun _ _ i _=>40-(intOf i).toNat)
 case atStart=>exact⟨0,_,_,_,_,_,_,Nat.zero_le _,Nat.zero_le _,rfl,rfl,rfl,aN⟩
 case round=>
  obtain⟨q,aK,lK,cK,aE,o,cE,hq,bC,rfl,rfl,rfl,z⟩:=hrel;clear aN;by_cases S:q<ab/\q<40
  ·obtain⟨bD,bB⟩:=S;obtain⟨v,T⟩:∃v,xs[q]?=some v:=⟨_,List.getElem?_eq_getElem (by have:=Da HL;omega)⟩;have aa:In64 v:=Da aV v (List.mem_of_getElem? T);obtain⟨g,f,ha,R⟩:=Da HX q v T;subst ha;obtain⟨v7,aH⟩:∃x,x=v.tdiv 7:=⟨_,rfl⟩;have aq:In64 v7:=by rw[aH];exact aa.tdiv 7
   have w7:IntKind.i64.wrap (v.tdiv 7)=v7:=by rw[<-aH,IntKind.wrap_i64];have:=aq.1;have:=aq.2;omega
   obtain⟨P,hP⟩:∃x,x=JW v7 3:=⟨_,rfl⟩;have ax:Hid (∀W,Calls Tryz.prog 24 #[.int .i64 v7,.int .i64 3] W fun e w'=>e = .returned (.int .i64 (P:Nat))/\w'=W):=fun W=>by rw[hP];exact QL W v7 3 aq (by omega) (by omega)
   have HC:Hid (∀W,Below w.heap.size w W->W.cell? ⟨g,f+q,none⟩=some (.int .i64 v)):=fun W hW=>(hW.cell (p:=⟨g,f+q,none⟩) (World.block_lt_of_cell? _ _ R)).trans R
   have H:Hid (Calls Tryz.prog 25 #[.pointer (some ⟨h,0,none⟩),.pointer (some ⟨J,0,none⟩),.int .i64 v] wr fun e Y=>e = .returned (.bool true)/\Y.cell? ⟨g,f+q,none⟩=some (.int .i64 v)/\Hid (∃M b vs C D en,FlI M w.heap.size w Y J tb db ar h b vs (.slice aK lK cK) (.slice aE o cE) C D en/\M<=q+1)/\
     Hid (Calls Tryz.prog 26 #[.pointer (some ⟨J,0,none⟩)] Y fun e Z=>e = .returned (.int .i64 0)/\Z.cell? ⟨g,f+q,none⟩=some (.int .i64 v)/\∃(vs:NV) (x:Nat),(Z.cell? ⟨h,0,none⟩=some (vs 0)/\Z.cell? ⟨h,1,none⟩=some (vs 1)/\Z.cell? ⟨h,2,none⟩=some (vs 2)/\Z.cell? ⟨h,3,none⟩=some (vs 3)/\Z.cell? ⟨h,4,none⟩=some (vs 4)/\Z.cell? ⟨h,5,none⟩=some (vs 5)/\Z.cell? ⟨h,6,none⟩=some (vs 6)/\Z.cell? ⟨h,7,none⟩=some (vs 7))/\
      ∃K ad ai af G,Z.alloc (.cells #[vs 0,vs 1,vs 2,vs 3,vs 4,vs 5,vs 6,vs 7] 62)=K/\(Builtin.append_ #[70,70] 70 #[.slice aK lK cK,.slice (some ⟨Z.heap.size,0,none⟩) 1 1]).run Tryz.prog K = .ok (.slice ad ai af) G/\Hid (Calls Tryz.prog 30 #[.pointer (some ⟨J,0,none⟩)] G fun e V=>e = .returned (.int .i64 (x:Nat))/\V=G)/\
      ∃O ac ah ae Z4,G.alloc (.cells #[.int .i64 (x:Nat)] 3)=O/\(Builtin.append_ #[53,53] 53 #[.slice aE o cE,.slice (some ⟨G.heap.size,0,none⟩) 1 1]).run Tryz.prog O = .ok (.slice ac ah ae) Z4/\Hid (∃M b vs C D en,FlI M w.heap.size w Z4 J tb db ar h b vs (.slice ad ai af) (.slice ac ah ae) C D en/\M<=q+1))):=by
    obtain⟨M,b,vs,C,D,en,Q,h2⟩:=Da z;refine(Q.turn v aa).mono ?_;rintro e Y ⟨rfl,b',u,h3⟩;refine⟨rfl,Da HC Y h3.fg.bel,⟨M,b',u,C,D,en,h3,by omega⟩,?_⟩;refine(h3.sync (by omega)).mono ?_;rintro e Z ⟨rfl,L,bn,x,hZ⟩;have bo:=Da HC Z bn;obtain⟨K,e1,x1,k1,s1,b1⟩:=De Z [u 0,u 1,u 2,u 3,u 4,u 5,u 6,u 7] 62;obtain⟨ad,ai,af,G,r1,r2,r3⟩:=hZ K b1 x1;obtain⟨O,e3,x3,k3,s3,b3⟩:=De G [.int .i64 (x:Nat)] 3;obtain⟨ac,ah,ae,Z4,p1,bI,bJ,bm,p2⟩:=r3 O b3 x3;exact⟨rfl,bo,u,x,⟨L.cell (by omega),L.cell (by omega),L.cell (by omega),L.cell (by omega),L.cell (by omega),L.cell (by omega),L.cell (by omega),L.cell (by omega)⟩,K,ad,ai,af,G,e1,r1,r2,O,ac,ah,ae,Z4,e3,p1,M+1,b',u,bI,bJ,bm,p2,by omega⟩
   have a6:wr.cell? ⟨g,f+q,none⟩=some (.int .i64 v):=by
    obtain⟨M,b,vs,C,D,en,Q,h2⟩:=Da z;exact Da HC wr Q.fg.bel
   have ag:(q:Int)<(ab:Int):=by omega
   have aG:(q:Int)<40:=by omega
   clear z HC R T aa aH aq hP HX;by_cases bz:P=0
   ·subst bz;go_wp2_with (first|(go_at_call 25;refine(Da H).mono ?_;rintro e Y1 ⟨rfl,aY,HN,-⟩)|(go_at_call 24;refine(Da ax _).mono ?_;rintro e w' ⟨rfl,m⟩;rw[m];clear m))
    go_roundw
    case rel=>exact⟨q+1,_,_,_,_,_,_,by omega,by omega,rfl,rfl,by go_num,HN⟩
    case measure=>simp[intOf];omega
   ·have bV:(0:Int)<(P:Int):=by omega
    go_upto_region 14 with(first|(go_at_call 25;refine(Da H).mono ?_;rintro e Y1 ⟨rfl,aY,-,HS⟩)|(go_at_call 24;refine(Da ax _).mono ?_;rintro e w' ⟨rfl,m⟩;rw[m];clear m)|(go_at_call 26;refine(Da HS).mono ?_;rintro e Z ⟨rfl,cZ,vs,x,⟨q0,q1,q2,q3,q4,q5,q6,q7⟩,K,ad,ai,af,G,e1,r1,HE,O,ac,ah,ae,Z4,e3,p1,HN⟩;have H1:=Db e1;have H3:=Db e3;have bj:=Db r1;have bi:=Db p1;clear e1 e3 r1 p1));clear H HS ax aY a6;go_upto_region 15 with(at_builtin;rw[show Z.alloc _=K from Da H1];refine Lib.wpList_append_run _ rfl _ _ 70 70 rfl _ _ rfl rfl _ _ (Da bj) ?_);clear q0 q1 q2 q3 q4 q5 q6 q7 cZ;go_wp2_with (first|(go_at_call 30;refine(Da HE).mono ?_;rintro e w' ⟨rfl,m⟩;rw[m];clear m)|(at_builtin;rw[show G.alloc _=O from Da H3];refine Lib.wpList_append_run _ rfl _ _ 53 53 rfl _ _ rfl rfl _ _ (Da bi) ?_))
    go_roundw
    case rel=>exact⟨q+1,_,_,_,_,_,_,by omega,by omega,rfl,rfl,by go_num,HN⟩
    case measure=>simp[intOf];omega
  ·have HE:Hid (FlE w.heap.size w wr J an al ll cl aK lK aE o):=by
    obtain⟨M,b,vs,C,D,en,Q,h2⟩:=Da z;have e:=Da aR;rw[e];exact Q.end (by omega) an (Da aL) al lost cl (Da aS) (by omega)
   clear z HX aS aR aL aV HL;obtain⟨x,ee,M,bX,hM,bM,H1,H2,H3⟩:=Da HE;have bv:¬(q:Int)<(ab:Int)\/(q:Int)<(ab:Int)/\¬(q:Int)<40:=by omega
   clear S hq bC HE;rcases bv with ag|⟨ag,aG⟩
   all_goals
    go_upto_region 18 with(first|(go_at_call 30;refine(Da H1).mono ?_;rintro e w' ⟨rfl,m⟩;rw[m];clear m)|(go_at_call 24;refine(Da H2).mono ?_;rintro e w' ⟨rfl,m⟩;rw[m];clear m)|(go_at_call 31;refine(Da H3).mono ?_;rintro e Z ⟨a1,l1,c1,rfl,H4⟩)|(go_at_call 27;refine(Da H4).mono ?_;rintro e Y ⟨xb,rfl,H5⟩));obtain⟨gK,gE,j0,en,rfl,rfl,aB,rfl,bR,aA,a3,H6⟩:=Da H5;have au:=Db aA;have aw:=Db a3;have av:=Db aB;have bN:j0<o:=by rw[<-aB];exact aA.lt
    obtain⟨n,hn⟩:∃n:Nat,(o:Int)-1=(n:Int):=⟨o-1,by omega⟩;clear H1 H2 H3 H4 H5 aA a3 aB;go_wp2
    go_loopw [17] (fun i W=>∃k:Nat,j0<=k/\k<o/\i = .int .i64 k/\Hid (W=Y)) (fun i _=>(intOf i).toNat)
    case atStart=>exact⟨n,by omega,by omega,rfl,rfl⟩
    case round=>
     obtain⟨k,bq,bP,rfl,HW⟩:=hrel;have hW:=Da HW;subst hW;clear HW hn;by_cases ao:∃d y:Nat,k=d+1/\en[d]?=some y/\ee<y
     ·obtain⟨d,y,a9,I,S⟩:=ao;have bp:j0<=d:=by
       rcases Nat.lt_or_ge d j0 with e|e
       ·have:=(Da au).lo d y (by omega) I;omega
       ·exact e
      have hc:=Da aw d y I;have bG:(ee:Int)<(y:Int):=by omega
      have hz:(k:Int)-1=(d:Int):=by omega
      have h0:(0:Int)<(k:Int):=by omega
      have bs:(d:Int)<(o:Int):=by omega
      have aQ:=Db a9;clear S I H6 a9;go_wp2
      go_roundw
      case rel=>exact⟨d,bp,by have:=Da aQ;omega,rfl,trivial⟩
      case measure=>have:=Da aQ;simp[intOf];omega
     ·have br:k=j0:=by
       rcases Nat.lt_or_ge j0 k with e|e
       ·obtain⟨d,rfl⟩:∃d,k=d+1:=⟨k-1,by omega⟩;have hl:=Da av;obtain⟨y,I⟩:∃y,en[d]?=some y:=⟨_,List.getElem?_eq_getElem (by omega)⟩;exact absurd ⟨d,y,rfl,I,(Da au).hi d y (by omega) (by omega) I⟩ ao
       ·omega
      subst br;have bs:(k:Int)<(o:Int):=by omega
      have bw:k=0\/∃d y:Nat,(k:Int)-1=(d:Int)/\d<o/\(0:Int)<(k:Int)/\wr.cell? ⟨gE,d,none⟩=some (.int .i64 (y:Nat))/\¬(ee:Int)<(y:Int):=by
       rcases Nat.eq_zero_or_pos k with e|e
       ·exact .inl e
       ·obtain⟨d,rfl⟩:∃d,k=d+1:=⟨k-1,by omega⟩;have hl:=Da av;obtain⟨y,I⟩:∃y,en[d]?=some y:=⟨_,List.getElem?_eq_getElem (by omega)⟩;refine .inr ⟨d,y,by omega,by omega,by omega,Da aw d y I,fun e=>ao ⟨d,y,rfl,I,by omega⟩⟩
      clear ao bq au aw av;rcases bw with rfl|⟨d,y,hz,bO,h0,hc,bG⟩
      all_goals (try have bQ:(d:Int)<(o:Int):=by omega)
      all_goals go_upto_region 24 with(go_at_call 29;refine(Da H6).mono ?_;rintro e U ⟨r,rfl,H,HF⟩)
      all_goals (clear H6;rcases r with _|_)
      ·exact absurd (Da HF rfl).1 (Nat.lt_irrefl _)
      all_goals first|(have ay:=Db (Da H rfl);clear H HF;go_upto_region 29 with fail)|(obtain⟨-,H7⟩:=Da HF rfl;rw[show k-1=d by omega]at H7;have H8:=Db H7;clear H HF H7 hc;go_upto_region 29 with(go_at_call 29;refine(Da H8).mono ?_;rintro e U ⟨rfl,ay⟩);clear H8)
      all_goals
       obtain⟨f,hr,bc,W,W2,eW,xW,aZ,aO⟩:=Da ay;have HR:=Db hr;have aT:=Db bc;have HW:=Db eW;have aW:=Db xW;have aU:=Db aZ;have a8:(Jg f).length=8:=by simp[Jg]
       have aj:=Db a8;obtain⟨bL,bF,bE⟩:=und62;clear hr bc eW xW aZ a8 ay;go_upto_region 30 with(first|(refine wpList_load_mid rfl 62 _ rfl gK _ rfl (Jg f) _ (Da HR) bF bE (by rw[ZnA,Da aj]) ?_)|(refine JF rfl 62 rfl zero62 ?_;rw[Da HW])|(refine wpList_store_row rfl 62 _ _ rfl _ (Jg f).toArray rfl rfl 62 _ (Da aW) (by rw[ZnA];simp[Da aj]) (by simp[Da aj,zer8]) (all_oneCell_toArray (Da aT)) ?_;rw[Da aU]));have aP:Hid (∃N F B E b vs,LgI N w.heap.size w W2 xb F B E b (KeptB b)/\SetW w.heap.size W2 U.heap.size b vs/\N<=M):=by
        obtain⟨F,B,E,b,Q,h2⟩:=Da aO;exact⟨M,F,B,E,b,f,Q,h2,Nat.le_refl _⟩
       clear aO HR aT HW aW aU aj;go_wp2
       go_loopw [20] (fun i wr=>∃q:Nat,q<=ml/\q<=20/\i = .int .i64 q/\Hid (∃N F B E b vs,LgI N w.heap.size w wr xb F B E b (KeptB b)/\SetW w.heap.size wr U.heap.size b vs/\N<=M+q)) (fun i _=>20-(intOf i).toNat)
       case atStart=>exact⟨0,Nat.zero_le _,Nat.zero_le _,rfl,aP⟩
       case round=>
        obtain⟨q,hq,bA,rfl,z⟩:=hrel;clear aP;by_cases S:q<ml/\q<20
        ·obtain⟨bD,bB⟩:=S;obtain⟨v,T⟩:∃v,ms[q]?=some v:=⟨_,List.getElem?_eq_getElem (by have:=Da bh;omega)⟩;have aa:In64 v:=Da bg v (List.mem_of_getElem? T);obtain⟨g,f,ha,R⟩:=Da HM q v T;subst ha;have H:Hid (Calls Tryz.prog 25 #[.pointer (some ⟨U.heap.size,0,none⟩),.pointer (some ⟨xb,0,none⟩),.int .i64 v] wr fun e Y=>e = .returned (.bool true)/\Hid (Calls Tryz.prog 26 #[.pointer (some ⟨xb,0,none⟩)] Y fun e Z=>e = .returned (.int .i64 0)/\Hid (∃N F B E b vs,LgI N w.heap.size w Z xb F B E b (KeptB b)/\SetW w.heap.size Z U.heap.size b vs/\N<=M+(q+1)))):=by
          obtain⟨N,F,B,E,b,vs,g1,g2,g3⟩:=Da z;refine(Zhw g1 g2 v aa).mono ?_;rintro e Y ⟨rfl,b',u,q1,q2,_⟩;refine⟨rfl,?_⟩;refine(syncL q1 (fun _ e=>e.any) (by omega)).mono ?_;rintro e Z ⟨rfl,q3,q4⟩;exact⟨rfl,N+1,F,B,E,b',u,q3,q2.kp q4,by omega⟩
         have a6:wr.cell? ⟨g,f+q,none⟩=some (.int .i64 v):=by
          obtain⟨N,F,B,E,b,vs,g1,_⟩:=Da z;exact(g1.bel.cell (p:=⟨g,f+q,none⟩) (World.block_lt_of_cell? _ _ R)).trans R
         have ag:(q:Int)<(ml:Int):=by omega
         have aG:(q:Int)<20:=by omega
         clear R T aa z HM;go_wp2_with (first|(go_at_call 25;refine(Da H).mono ?_;rintro e Y1 ⟨rfl,HB⟩)|(go_at_call 26;refine(Da HB).mono ?_;rintro e K ⟨rfl,HZ⟩))
         go_roundw
         case rel=>exact⟨q+1,by omega,by omega,by go_num,HZ⟩
         case measure=>simp[intOf];omega
        ·have HE:Hid (Calls Tryz.prog 28 #[.pointer (some ⟨xb,0,none⟩)] wr fun e Z=>∃a l c,e = .returned (.slice a l c)/\Hid (Calls Tryz.prog 27 #[.slice a l c] Z fun e V=>∃yb:Nat,e = .returned (.tuple #[.pointer (some ⟨yb,0,none⟩),.int .i64 0])/\Hid (Calls Tryz.prog 29 #[.pointer (some ⟨U.heap.size,0,none⟩),.pointer (some ⟨yb,0,none⟩)] V fun e U1=>e = .returned (.bool true)/\Hid (Below w.heap.size w U1)))):=by
          obtain⟨N,F,B,E,b,vs,g1,g2,g3⟩:=Da z;exact Zkl rfl g1 g2 (by omega)
         clear z HM;have bx:¬(q:Int)<(ml:Int)\/(q:Int)<(ml:Int)/\¬(q:Int)<20:=by omega
         clear S hq bA;rcases bx with ag|⟨ag,aG⟩
         all_goals
          go_wp2_with (first|(go_at_call 28;refine(Da HE).mono ?_;rintro e Z ⟨a1,l1,c1,rfl,H2⟩)|(go_at_call 27;refine(Da H2).mono ?_;rintro e Y ⟨yb,rfl,H3⟩)|(go_at_call 29;refine(Da H3).mono ?_;rintro e V ⟨rfl,HB⟩));go_ret;exact⟨rfl,Da HB⟩
end Go.Proofs.YtaieidcohdhgpaaGreatDoor
