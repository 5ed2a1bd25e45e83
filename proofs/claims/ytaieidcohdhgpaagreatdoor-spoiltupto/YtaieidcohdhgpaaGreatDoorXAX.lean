/- Spoilt. -/
import Derived.Test.YtaieidcohdhgpaaGreatDoorXAW
namespace Go.Proofs.YtaieidcohdhgpaaGreatDoor
set_option maxHeartbeats 40000000
set_option maxRecDepth 100000
open Go.RowKit
def IW(s:By):By:=s.extract 5 64
def IE(s:By):Nat:=DA (Dg (IW s) 8).data.toList
def Ij(s:By):By:=(IW s).extract 8 (IW s).size
theorem ckT_lt(s:By):IE s<18446744073709551616:=by
 have:=Qg (Dg (IW s) 8).data.toList;rw[AG,show(Dg (IW s) 8).data.size=8 from Jc _ 8]at this;exact this
theorem S0(s:By):GD s<18446744073709551616:=by
 have:=Qg (Dg (s.extract 2 s.size) 8).data.toList;rw[AG,show(Dg (s.extract 2 s.size) 8).data.size=8 from Jc _ 8]at this;exact this
def Kh(i:Nat)(s:By):Bool:=decide (IE s%2=i/\GO (IE s) (Gu (Ij s)) (GD (Ij s))=s)
def Ry(w:World)(i:Nat)(s:By)(e:Ending)(w':World):Prop:=
 e = .returned (.tuple #[.agg #[.int .u64 (IE s:Nat),.int .i64 (Gu (Ij s):Nat),.int .u64 (GD (Ij s):Nat)],.bool (Kh i s)])/\Bw w w'
theorem WB(w:World)(E:Nat)(vf vw ve:Value)(a:OA)(l c:Nat)(D:LY)(h:DV w E vf (.slice a l c) vw ve D)(i:Nat)(s:By)(hi:D[i]?=some s):
  Cl 201 #[.pointer (some ⟨E,0,none⟩),.int .i64 i] w (Ry w i s):=by
 have R:s.size=64:=h.2.1.2 s (An hi);obtain⟨W1,e1,x1,k1,s1,C⟩:=De w [.int .u64 0,.int .i64 0,.int .u64 0] 191;have an:DV W1 E vf (.slice a l c) vw ve D:=⟨k1 _ _ _ h.1,⟨h.2.1.1.kept (fun k Q _=>C.block k Q),h.2.1.2⟩,h.2.2⟩;obtain⟨T,H⟩:=ex (IE s);obtain⟨f,G⟩:∃T,T=Gu (Ij s):=⟨_,rfl⟩;obtain⟨g,L⟩:∃T,T=GD (Ij s):=⟨_,rfl⟩;obtain⟨VB,aa⟩:∃V,V=DB s:=⟨_,rfl⟩;obtain⟨VK,ac⟩:∃V,V=Ii (T%2) (GO T f g):=⟨_,rfl⟩;obtain⟨VI,ab⟩:∃V,V=Ii i s:=⟨_,rfl⟩;obtain⟨OK,ag⟩:∃b,b=Kh i s:=⟨_,rfl⟩;have aC:Hid (∀V x y,(eqGuard .eql 207 x y VK VI).run Tryz.prog V = .ok () V):=fun V x y=>by
  rw[ac,ab];exact run_eqGuard_agg (P:=Tryz.prog) V .eql 207 x y _ _ ZV
 have aD:Hid (∀V,(binOp .eql 207 VK VI).run Tryz.prog V = .ok (.bool OK) V):=fun V=>by
  rw[ac,ab,Mj V _ _ _ _ (NI _ _ _) R,ag,H,G,L];rfl
 have aA:Hid (Tryz.prog.built 207 [(0,.int .i64 (i:Nat)),(1,VB)]=some (Gi i s).toArray):=by rw[aa];exact PO i s R
 have aH:=Db ab;have am:=Db aa;have HA:Hid (Cl 239 #[.pointer (some ⟨E,0,none⟩),.int .i64 i] W1 fun e X=>e = .returned VB/\∃Y Z,X.alloc (.cells (Dc (Di 64)).toArray 188)=Y/\F0 Y X.heap.size 188 (Dc (Di 64))/\Y.setRow X.heap.size (Dc s).toArray=Z/\∃U,Z.alloc (.cells #[.slice (some ⟨X.heap.size,5,none⟩) 59 59] 287)=U/\
   Hid (Cl 240 #[.pointer (some ⟨Z.heap.size,0,none⟩),.int .i64 8] U fun e r=>e = .returned (.int .u64 (T:Nat))/\Hid (Cl 238 #[.pointer (some ⟨Z.heap.size,0,none⟩)] r fun e d=>e = .returned (.agg #[.int .i64 (f:Nat),.int .u64 (g:Nat)])/\∃q,d.alloc (.cells #[.int .u64 (T:Nat),.int .i64 (f:Nat),.int .u64 (g:Nat)] 191)=q/\
    q.cell? ⟨d.heap.size,0,none⟩=some (.int .u64 (T:Nat))/\q.cell? ⟨d.heap.size,1,none⟩=some (.int .i64 (f:Nat))/\q.cell? ⟨d.heap.size,2,none⟩=some (.int .u64 (g:Nat))/\q.rangeAt X.heap.size 0 (Dc s)/\
    Hid (Cl 160 #[.agg #[.int .u64 (T:Nat),.int .i64 (f:Nat),.int .u64 (g:Nat)]] q.drew fun e m=>e = .returned VK/\(m.cell? ⟨d.heap.size,0,none⟩=some (.int .u64 (T:Nat))/\m.cell? ⟨d.heap.size,1,none⟩=some (.int .i64 (f:Nat))/\m.cell? ⟨d.heap.size,2,none⟩=some (.int .u64 (g:Nat))/\m.rangeAt X.heap.size 0 (Dc s))/\F0 m w.heap.size 191 [.int .u64 0,.int .i64 0,.int .u64 0]/\Hid (Bw w m)/\Hid (w.heap.size≠d.heap.size/\w.heap.size≠X.heap.size))))):=by
  refine(Pu W1 E vf vw ve a l c D an i s hi).mono ?_;rintro e X ⟨rfl,J⟩;obtain⟨Y,eY,xY,kY,sY,bY⟩:=De X (Dc (Di 64)) 188;have aY:=J.size;have xZ:F0 (Y.setRow X.heap.size (Dc s).toArray) X.heap.size 188 (Dc s):=BQ Y _ _ _ 188 _ xY;have bZ:Bw X (Y.setRow X.heap.size (Dc s).toArray):=bY.trans ⟨rfl,rfl,rfl,by simp,fun j hj=>Bn Y _ j _ (by omega)⟩;obtain⟨Z,B⟩:∃Z,Y.setRow X.heap.size (Dc s).toArray=Z:=⟨_,rfl⟩;rw[B]at xZ bZ;have sZ:Z.heap.size=X.heap.size+1:=by rw[<-B];simp[World.setRow,sY]
  obtain⟨U,eU,xU,kU,sU,bU⟩:=De Z [.slice (some ⟨X.heap.size,5,none⟩) 59 59] 287;have aP:Bw w U:=C.trans ((J.mono (by omega)).trans ((bZ.mono (by omega)).trans (bU.mono (by omega))));have y1:F0 U w.heap.size 191 [.int .u64 0,.int .i64 0,.int .u64 0]:=(bU.block _ (by omega)).trans ((bZ.block _ (by omega)).trans ((J.block _ x1.lt).trans x1));have yB:F0 U X.heap.size 188 (Dc s):=kU _ _ _ xZ;have aO:Gy U (some ⟨X.heap.size,5,none⟩) 59 59 (IW s):=by
   refine⟨by unfold IW;rw[Af,R];rfl,fun e=>(by cases e),fun j v n=>⟨_,rfl,?_⟩⟩;rw[AL,yB.cell];unfold IW at n;rw[Jt,Ao]at n
   split at n
   ·rw[Bc]at n;exact n
   ·cases n
  have av:∀x,some (⟨X.heap.size,5,none⟩:Addr)=some x->x.block≠Z.heap.size:=fun x e=>by cases e;show X.heap.size≠Z.heap.size;omega
  refine⟨by rw[aa],Y,Z,eY,xY,B,U,eU,?_⟩;refine(On U Z.heap.size _ 59 59 (IW s) xU aO (Aa _) av 8 (by omega) (by omega)).mono ?_;rintro e r ⟨rfl,a2,c2,q1,q2,q3,q4,u⟩;refine⟨by rw[H];rfl,?_⟩;have aN:∀x,a2=some x->x.block≠Z.heap.size:=fun x e=>by obtain⟨y,e2,e3⟩:=q4 x e;rw[<-e3];exact av y e2
  have aZ:=u.size;refine(NP r Z.heap.size a2 (59-8) c2 _ q1 q2 q3 aN (by omega)).mono ?_;rintro e d ⟨rfl,a3,c3,r1,r2,r3,r4,z⟩;obtain⟨q,aL,W,ax,a1,aK⟩:=De d [.int .u64 (T:Nat),.int .i64 (f:Nat),.int .u64 (g:Nat)] 191;have a0:=z.size;have aS:F0 r X.heap.size 188 (Dc s):=yB.fr u (show ¬X.heap.size=Z.heap.size by omega);have aT:F0 d X.heap.size 188 (Dc s):=aS.fr z (show ¬X.heap.size=Z.heap.size by omega);have ai:=ax _ _ _ aT;have aQ:F0 r w.heap.size 191 _:=y1.fr u (show ¬w.heap.size=Z.heap.size by omega);have aR:F0 d w.heap.size 191 _:=aQ.fr z (show ¬w.heap.size=Z.heap.size by omega);have ay:=ax _ _ _ aR;have aw:Bw w q:=by
   have h1:Below w.heap.size U r:=⟨u.os,u.tape,u.output,u.size,fun k Q=>u.block k (by omega) (by omega)⟩;have h2:Below w.heap.size r d:=⟨z.os,z.tape,z.output,z.size,fun k Q=>z.block k (by omega) (by omega)⟩;exact aP.trans (h1.trans (h2.trans (aK.mono (by omega))))
  refine⟨by rw[G,L];rfl,q,aL,(W.cell 0).trans rfl,(W.cell 1).trans rfl,(W.cell 2).trans rfl,fun j v n=>by rw[ai.cell,Av];exact n,?_⟩;refine(Rq q.drew T f g (by rw[H];exact ckT_lt s) (by rw[G];exact Pi _) (by rw[L];exact S0 _)).mono ?_;rintro e m ⟨rfl,M⟩;have ad:Bw q m:=⟨M.os,M.tape,M.output,M.size,M.block⟩;have z3:F0 m d.heap.size 191 _:=(ad.block _ W.lt).trans W;have zB:F0 m X.heap.size 188 (Dc s):=(ad.block _ ai.lt).trans ai;exact⟨by rw[ac],⟨(z3.cell 0).trans rfl,(z3.cell 1).trans rfl,(z3.cell 2).trans rfl,fun j v n=>by rw[zB.cell,Av];exact n⟩,(ad.block _ ay.lt).trans ay,aw.trans (ad.mono aw.size),by omega,by omega⟩
 have aq:(Dc s).length=64:=by rw[Dh,R]
 have af:=Db aq;have aB:=Db e1;have ak:Hid (Ry w i s=fun e w'=>e = .returned (.tuple #[.agg #[.int .u64 (T:Nat),.int .i64 (f:Nat),.int .u64 (g:Nat)],.bool OK])/\Bw w w'):=by show _=_;unfold Ry;rw[H,G,L,ag]
 rw[Da ak];have aU:=Db (PN (T:Nat) (f:Nat) (g:Nat));clear ak e1 x1 k1 s1 C an h hi H G L aa ac ab ag R aq;go_enter Tryz.func201,Tryz.ntmps201;go_upto_region 1 with fail;rw[show w.alloc (.cells #[.int .u64 0,.int .i64 0,.int .u64 0] 191)=W1 from Da aB];go_upto_region 2 with(first|(go_at_call 239;refine(Da HA).mono ?_;rintro e X ⟨rfl,Y,Z,hY,xY,B,U,hU,HB⟩;have HY:=Db hY;have aJ:=Db xY;have HZ:=Db B;have HU:=Db hU;clear hY xY B hU)|(refine Ju rfl 188 rfl JU ?_;rw[show X.alloc (.cells (Dc (Di 64)).toArray 188)=Y from Da HY])|(refine Bs rfl 188 _ _ rfl X.heap.size (Dc s).toArray rfl (Da am) 188 _ (Da aJ) (by rw[D7];simp[Da af]) (by simp[Da af,Dh,Jd]) (J8 _) ?_;rw[Da HZ]));go_upto_region 3 with fail;rw[show Z.alloc (.cells #[.slice (some ⟨X.heap.size,5,none⟩) 59 59] 287)=U from Da HU];go_upto_region 4 with(first|(go_at_call 240;refine(Da HB).mono ?_;rintro e r ⟨rfl,HC⟩)|(go_at_call 238;refine(Da HC).mono ?_;rintro e d ⟨rfl,q,ao,u0,u1,u2,ur,HP⟩;have aE:=Db ao;have aF:=Db ur;clear ao ur));rw[show d.alloc (.cells #[.int .u64 (T:Nat),.int .i64 (f:Nat),.int .u64 (g:Nat)] 191)=q from Da aE];refine AD (S:=fun V=>V.cell? ⟨d.heap.size,0,none⟩=some (.int .u64 (T:Nat))/\V.cell? ⟨d.heap.size,1,none⟩=some (.int .i64 (f:Nat))/\V.cell? ⟨d.heap.size,2,none⟩=some (.int .u64 (g:Nat))/\V.rangeAt X.heap.size 0 (Dc s)) (by kernel_rfl) ⟨u0,u1,u2,Da aF⟩ (fun aX=>?_);refine tk 0 ?_;try simp only[pE];refine tk 1 ?_;try simp only[pE];refine tk 3 ?_;try simp only[pE];refine A6 (i:=4) (v:=VB) rfl (by kernel_rfl) (by kernel_rfl) (by kernel_rfl) (fun _ _ _ h=>h) (by rw[Da am];exact C4 (by rfl) 188 _ rfl X.heap.size 0 rfl (Dc s) _ (fun X J=>J.2.2.2) Kg rfl (by rw[D7,Da af])) (by assumption) ?_
 (try simp only[pE])
 refine A6 (i:=5) (v:=VI) rfl (by kernel_rfl) (by kernel_rfl) (by kernel_rfl) (fun _ _ _ h=>h) (Or.inl ⟨by rfl,fun V _=>by rw[Da aH];exact WL V 207 0 1 _ _ rfl (.int .i64 (i:Nat)) VB rfl rfl (Da aA)⟩) (by assumption) ?_
 (try simp only[pE])
 refine rk 2 (fun K F=>?_);go_simp;go_at_call 160;refine(Da HP).mono ?_;rintro e m ⟨rfl,O,A,aj,al⟩;go_wp2_with fail;refine F.out _ _ O (fun aV=>?_);clear F K
 (try simp only[pE])
 refine A6 (i:=6) (v := .bool OK) rfl (by kernel_rfl) (by kernel_rfl) (by kernel_rfl) (fun _ _ _ h=>h) (Or.inl ⟨by rfl,fun V _=>RD V .eql 207 _ _ _ rfl VK VI rfl rfl (Da aC V _ _) (Da aD V)⟩) (by assumption) ?_
 (try simp only[pE])
 obtain⟨ae,au⟩:=Da al;have b0:=A.cell 0;have C:=A.cell 1;have b2:=A.cell 2;have g0:=A.frozen 0;have g1:=A.frozen 1;have g2:=A.frozen 2;obtain⟨t,I⟩:∃V,((m.setCell ⟨w.heap.size,0,none⟩ (.int .u64 (T:Nat))).setCell ⟨w.heap.size,1,none⟩ (.int .i64 (f:Nat))).setCell ⟨w.heap.size,2,none⟩ (.int .u64 (g:Nat))=V:=⟨_,rfl⟩;have x5:F0 t w.heap.size 191 [.int .u64 (T:Nat),.int .i64 (f:Nat),.int .u64 (g:Nat)]:=by
  rw[<-I];exact((A.set 0 (.int .u64 (T:Nat))).set 1 (.int .i64 (f:Nat))).set 2 (.int .u64 (g:Nat))
 have ap:Bw w t:=by
  rw[<-I];exact(((Da aj).setCell (p:=⟨w.heap.size,0,none⟩) (Aa _) _).setCell (p:=⟨w.heap.size,1,none⟩) (Aa _) _).setCell (p:=⟨w.heap.size,2,none⟩) (Aa _) _
 have ar:Fr (fun k=>k=w.heap.size) m t:=by
  rw[<-I];exact(((Fr.refl (fun k=>k=w.heap.size) m).set ⟨w.heap.size,0,none⟩ (.int .u64 (T:Nat)) rfl).set ⟨w.heap.size,1,none⟩ (.int .i64 (f:Nat)) rfl).set ⟨w.heap.size,2,none⟩ (.int .u64 (g:Nat)) rfl
 have N:∀(k o:Nat) (v:Value),k≠w.heap.size->m.cell? ⟨k,o,none⟩=some v->t.cell? ⟨k,o,none⟩=some v:=fun k o v Q n=>(AC (a:=⟨k,o,none⟩) (ar.block k (Aj _ _ n) Q)).trans n
 have aM:t.cell? ⟨d.heap.size,0,none⟩=some (.int .u64 (T:Nat))/\t.cell? ⟨d.heap.size,1,none⟩=some (.int .i64 (f:Nat))/\t.cell? ⟨d.heap.size,2,none⟩=some (.int .u64 (g:Nat))/\t.rangeAt X.heap.size 0 (Dc s):=
  ⟨N _ _ _ ae.symm O.1,N _ _ _ ae.symm O.2.1,N _ _ _ ae.symm O.2.2.1,fun j v n=>N _ _ _ au.symm (O.2.2.2 j v n)⟩
 have aG:=Db I;have aI:=Db x5;have az:=Db ap;clear I x5 ap ar N ae au A aj al;refine rk 7 (fun K F=>?_);go_simp;rw[Da aG];refine F.out _ _ aM (fun aW=>?_);clear F K
 (try simp only[pE])
 refine tk 8 ?_;try simp only[pE];refine AW (by kernel_rfl) ?_ _;clear b0 C b2 g0 g1 g2;go_wp2;have ah:=Da aI;have r0:=ah.cell 0;have r1:=ah.cell 1;have r2:=ah.cell 2;exact Ax (v := .tuple #[.agg #[.int .u64 (T:Nat),.int .i64 (f:Nat),.int .u64 (g:Nat)],.bool OK]) (by simp[results,Tryz.results201,go_sem,r0,r1,r2]) rfl ⟨rfl,Da az⟩
def J4(s0 s1:By):Option (Nat×Nat×Nat):=
 if Kh 0 s0=true/\Kh 1 s1=true then
  if IE s0=(IE s1+1)%18446744073709551616 then some (IE s0,Gu (Ij s0),GD (Ij s0))
  else if IE s1=(IE s0+1)%18446744073709551616 then some (IE s1,Gu (Ij s1),GD (Ij s1))
  else none
 else none
def Km(o:Option (Nat×Nat×Nat)):Value:=
 match o with
 | some (t,p,x) => .tuple #[.agg #[.int .u64 (t:Nat),.int .i64 (p:Nat),.int .u64 (x:Nat)],.bool true]
 | none => .tuple #[.agg #[.int .u64 0,.int .i64 0,.int .u64 0],.bool false]
theorem Q1{w:World}{g:Nat}{t:TypeId}{a b c:Value}(h:F0 w g t [a,b,c])(x y z:Value):F0 (((w.setCell ⟨g,0,none⟩ x).setCell ⟨g,1,none⟩ y).setCell ⟨g,2,none⟩ z) g t [x,y,z]:=((h.set 0 x).set 1 y).set 2 z
theorem UK{n:Nat}{w w':World}{g:Nat}(h:Below n w w')(a:n<=g)(x y z:Value):Below n w (((w'.setCell ⟨g,0,none⟩ x).setCell ⟨g,1,none⟩ y).setCell ⟨g,2,none⟩ z):=
 ((h.setCell (p:=⟨g,0,none⟩) a _).setCell (p:=⟨g,1,none⟩) a _).setCell (p:=⟨g,2,none⟩) a _
theorem Zg9(w:World)(u:Nat)(K vw J:Value)(a:OA)(l c:Nat)(D:LY)(h:DV w u K (.slice a l c) vw J D)(j m:By)(h0:D[0]?=some j)(h1:D[1]?=some m):
  Cl 135 #[.pointer (some ⟨u,0,none⟩)] w fun e w'=>e = .returned (Km (J4 j m))/\Bw w w':=by
 obtain⟨F,e1,x1,k1,z1,Q⟩:=De w [.int .u64 0,.int .i64 0,.int .u64 0] 191;have R:∀X,Bw w X->DV X u K (.slice a l c) vw J D:=fun X hb=>⟨(hb.block _ h.1.lt).trans h.1,⟨h.2.1.1.kept (fun k hk _=>hb.block k hk),h.2.1.2⟩,h.2.2⟩
 obtain⟨f,Z⟩:∃T,T=IE j:=⟨_,rfl⟩;obtain⟨q,V⟩:∃T,T=Gu (Ij j):=⟨_,rfl⟩;obtain⟨s,ab⟩:∃T,T=GD (Ij j):=⟨_,rfl⟩;obtain⟨g,aa⟩:∃T,T=IE m:=⟨_,rfl⟩;obtain⟨r,W⟩:∃T,T=Gu (Ij m):=⟨_,rfl⟩;obtain⟨t,ac⟩:∃T,T=GD (Ij m):=⟨_,rfl⟩;obtain⟨N,S⟩:∃b,b=Kh 0 j:=⟨_,rfl⟩;obtain⟨K1,U⟩:∃b,b=Kh 1 m:=⟨_,rfl⟩;have HC:Hid (Cl 201 #[.pointer (some ⟨u,0,none⟩),.int .i64 0] F fun e X=>e = .returned (.tuple #[.agg #[.int .u64 (f:Nat),.int .i64 (q:Nat),.int .u64 (s:Nat)],.bool N])/\∃Y,X.alloc (.cells #[.int .u64 (f:Nat),.int .i64 (q:Nat),.int .u64 (s:Nat)] 191)=Y/\
   Hid (Cl 201 #[.pointer (some ⟨u,0,none⟩),.int .i64 1] Y fun e x=>e = .returned (.tuple #[.agg #[.int .u64 (g:Nat),.int .i64 (r:Nat),.int .u64 (t:Nat)],.bool K1])/\∃n,x.alloc (.cells #[.int .u64 (g:Nat),.int .i64 (r:Nat),.int .u64 (t:Nat)] 191)=n/\F0 n w.heap.size 191 [.int .u64 0,.int .i64 0,.int .u64 0]/\F0 n X.heap.size 191 [.int .u64 (f:Nat),.int .i64 (q:Nat),.int .u64 (s:Nat)]/\F0 n x.heap.size 191 [.int .u64 (g:Nat),.int .i64 (r:Nat),.int .u64 (t:Nat)]/\Hid (Bw w n))):=by
  refine(WB F u K vw J a l c D (R F Q) 0 j h0).mono ?_;rintro e X ⟨rfl,hX⟩;obtain⟨Y,eY,xY,kY,sY,bY⟩:=De X [.int .u64 (f:Nat),.int .i64 (q:Nat),.int .u64 (s:Nat)] 191;have av:=hX.size;have ai:Bw w X:=Q.trans (hX.mono (by omega));have I:Bw w Y:=ai.trans (bY.mono ai.size);refine⟨by rw[Z,V,ab,S],Y,eY,?_⟩;refine(WB Y u K vw J a l c D (R Y I) 1 m h1).mono ?_;rintro e x ⟨rfl,H⟩;obtain⟨n,am,ar,aj,aw,al⟩:=De x [.int .u64 (g:Nat),.int .i64 (r:Nat),.int .u64 (t:Nat)] 191;have au:=H.size;have y1:F0 Y w.heap.size 191 _:=kY _ _ _ ((hX.block _ x1.lt).trans x1);refine⟨by rw[aa,W,ac,U],n,am,aj _ _ _ ((H.block _ y1.lt).trans y1),aj _ _ _ ((H.block _ xY.lt).trans xY),ar,I.trans ((H.mono I.size).trans (al.mono (by have:=I.size;omega)))⟩
 have E:Hid (J4 j m=if N=true/\K1=true then if f=(g+1)%18446744073709551616 then some (f,q,s) else if g=(f+1)%18446744073709551616 then some (g,r,t) else none else none):=by
  show J4 j m=_;unfold J4;rw[Z,V,ab,aa,W,ac,S,U]
 have ap:IntKind.u64.wrap ((f:Int)+1)=(((f+1)%18446744073709551616:Nat):Int):=by simp[IntKind.wrap,IntKind.bits,IntKind.signed]
 have aq:IntKind.u64.wrap ((g:Int)+1)=(((g+1)%18446744073709551616:Nat):Int):=by simp[IntKind.wrap,IntKind.bits,IntKind.signed]
 obtain⟨O,af⟩:∃M,M=(f+1)%18446744073709551616:=⟨_,rfl⟩;obtain⟨P,ag⟩:∃M,M=(g+1)%18446744073709551616:=⟨_,rfl⟩;rw[<-af]at ap E;rw[<-ag]at aq E;obtain⟨LV,G⟩:∃v,v=Km (J4 j m):=⟨_,rfl⟩;rw[<-G];rw[Da E]at G;have z:=Db G;have ak:=Db e1;clear G E af ag e1 x1 k1 z1 Q R h h0 h1 Z V ab aa W ac S U;go_enter Tryz.func135,Tryz.ntmps135;go_upto_region 1 with fail;rw[show w.alloc (.cells #[.int .u64 0,.int .i64 0,.int .u64 0] 191)=F from Da ak];go_upto_region 2 with(go_at_call 201;refine(Da HC).mono ?_;rintro e X ⟨rfl,Y,hY,ad⟩;have HY:=Db hY;clear hY);rw[show X.alloc (.cells #[.int .u64 (f:Nat),.int .i64 (q:Nat),.int .u64 (s:Nat)] 191)=Y from Da HY];go_upto_region 3 with(go_at_call 201;refine(Da ad).mono ?_;rintro e x ⟨rfl,n,ah,i,r1,r2,y⟩;have ae:=Db ah;clear ah);rw[show x.alloc (.cells #[.int .u64 (g:Nat),.int .i64 (r:Nat),.int .u64 (t:Nat)] 191)=n from Da ae];have a0:=i.cell 0;have a1:=i.cell 1;have a2:=i.cell 2;have f0:=i.frozen 0;have f1:=i.frozen 1;have f2:=i.frozen 2;have c0:=r1.cell 0;have c1:=r1.cell 1;have c2:=r1.cell 2;have d0:=r2.cell 0;have d1:=r2.cell 1;have d2:=r2.cell 2;clear HC ad HY ae
 cases N
 ·go_wp2;have d:=Q1 i (.int .u64 0) (.int .i64 0) (.int .u64 0);have q0:=d.cell 0;have o:=d.cell 1;have p:=d.cell 2;exact Ax (v:=Km none) (by simp[results,Tryz.results135,go_sem,q0,o,p,Km]) rfl ⟨by rw[Da z];simp,UK (Da y) (Aa _) _ _ _⟩
 ·cases K1
  ·go_wp2;have d:=Q1 i (.int .u64 0) (.int .i64 0) (.int .u64 0);have q0:=d.cell 0;have o:=d.cell 1;have p:=d.cell 2;exact Ax (v:=Km none) (by simp[results,Tryz.results135,go_sem,q0,o,p,Km]) rfl ⟨by rw[Da z];simp,UK (Da y) (Aa _) _ _ _⟩
  ·by_cases A:f=P
   ·have an:((f:Int)==(P:Int))=true:=by rw[A];simp
    have C:=Db A;clear A;go_wp2;have d:=Q1 i (.int .u64 (f:Nat)) (.int .i64 (q:Nat)) (.int .u64 (s:Nat));have q0:=d.cell 0;have o:=d.cell 1;have p:=d.cell 2;exact Ax (v:=Km (some (f,q,s))) (by simp[results,Tryz.results135,go_sem,q0,o,p,Km]) rfl ⟨by rw[Da z];simp[Da C],UK (Da y) (Aa _) _ _ _⟩
   ·have an:((f:Int)==(P:Int))=false:=by rw[BK];omega
    have C:=Db A;clear A;by_cases B:g=O
    ·have ao:((g:Int)==(O:Int))=true:=by rw[B];simp
     have L:=Db B;clear B;go_wp2;have d:=Q1 i (.int .u64 (g:Nat)) (.int .i64 (r:Nat)) (.int .u64 (t:Nat));have q0:=d.cell 0;have o:=d.cell 1;have p:=d.cell 2;exact Ax (v:=Km (some (g,r,t))) (by simp[results,Tryz.results135,go_sem,q0,o,p,Km]) rfl ⟨by rw[Da z];simp[Da C,Da L],UK (Da y) (Aa _) _ _ _⟩
    ·have ao:((g:Int)==(O:Int))=false:=by rw[BK];omega
     have L:=Db B;clear B;go_wp2;have d:=Q1 i (.int .u64 0) (.int .i64 0) (.int .u64 0);have q0:=d.cell 0;have o:=d.cell 1;have p:=d.cell 2;exact Ax (v:=Km none) (by simp[results,Tryz.results135,go_sem,q0,o,p,Km]) rfl ⟨by rw[Da z];simp[Da C,Da L],UK (Da y) (Aa _) _ _ _⟩
theorem Xr{P:Program}{fn:Func}{p q:Tmp}{ty:TypeId}(h:fn.results = #[.cell p ty,.tmp q])(tmps:Array Value)(w:World)(g:Nat)(t:TypeId)(a:Array Value)(b:Nat×Nat)(d:TypeDesc)
  (i:tmps.getD p undef = .pointer (some ⟨g,0,none⟩)) (e:w.heap[g]?=some (.cells a t b))
  (k:P.underlying ty=some d) (c:(match d with | .struct _ | .array _ _=>true|_=>false)=true) (f:(P.info? ty).map (·.size)=some a.size):
  (results fn tmps).run P w = .ok (.tuple #[.agg a,tmps.getD q undef]) w:=by
 have j:tmps[p]?.getD undef = .pointer (some ⟨g,0,none⟩):=by simpa using i
 simp[results,h,j,asAddr,run_loadVar_row w g t ty a b d e k c f]
theorem YT(L a:F6)(h:a.length=L.length):F8 L 0 a=a:=by
 unfold F8;simp[h]
def Z3(w:World)(rb p:Nat)(L:F6)(s:By)(e:Ending)(w':World):Prop:=
 e = .returned (.tuple #[DB s,.bool true])/\F0 w' rb 197 (L.set (4+p) (.bool true))/\Fr (fun k=>k=rb) w w'
theorem YW(w:World)(b i:Nat)(L:F6)(J:F0 w b 197 L)(ac:L[0]?=some (.pointer (some ⟨i,0,none⟩)))(T vw R:Value)(a:OA)(l c:Nat)(D:LY)(h:DV w i T (.slice a l c) vw R D)(ah:b≠i)(ai:¬F2 (.slice a l c) b)(p x:Nat)(aK:16<=p)(aL:p<1536)(H:L[4+p]?=some (.bool false))(s:By)(O:D[p]?=some s):
  Cl 241 #[.pointer (some ⟨b,0,none⟩),.agg #[.int .i64 (p:Nat),.int .u64 (x:Nat)]] w (Z3 w b p L s):=by
 have aj:s.size=64:=h.2.1.2 s (An O);obtain⟨E,e1,x1,k1,z1,b1⟩:=De w [.int .i64 (p:Nat),.int .u64 (x:Nat)] 175;obtain⟨j,e2,U,Q,z2,b2⟩:=De E (Dc (Di 64)) 188;rw[z1]at U;have r:Bw w j:=b1.trans (b2.mono (by omega));have aM:=J.lt;have W:=Q _ _ _ x1;have Y:=Q _ _ _ (k1 _ _ _ J);obtain⟨VB,I⟩:∃V,V=DB s:=⟨_,rfl⟩;have aa:Hid (∀f:World,f.heap=j.heap->f.os=j.os->f.tape=j.tape->f.output=j.output->f.cell? ⟨w.heap.size,0,none⟩=some (.int .i64 (p:Nat))/\f.cell? ⟨b,4+p,none⟩=some (.bool false)/\f.frozen? ⟨b,4+p,none⟩=false/\∃d,f.setCell ⟨b,4+p,none⟩ (.bool true)=d/\d.cell? ⟨w.heap.size,0,none⟩=some (.int .i64 (p:Nat))/\d.cell? ⟨b,0,none⟩=some (.pointer (some ⟨i,0,none⟩))/\
   Hid (Cl 239 #[.pointer (some ⟨i,0,none⟩),.int .i64 (p:Nat)] d.drew fun e X=>e = .returned VB/\X.cell? ⟨w.heap.size,0,none⟩=some (.int .i64 (p:Nat))/\X.cell? ⟨b,0,none⟩=some (.pointer (some ⟨i,0,none⟩))/\F0 X (w.heap.size+1) 188 (Dc (Di 64))/\∃Z,X.setRow (w.heap.size+1) (Dc s).toArray=Z/\Z.cell? ⟨w.heap.size,0,none⟩=some (.int .i64 (p:Nat))/\Z.cell? ⟨b,0,none⟩=some (.pointer (some ⟨i,0,none⟩))/\F0 Z (w.heap.size+1) 188 (Dc s)/\Hid (F0 Z b 197 (L.set (4+p) (.bool true))/\Fr (fun k=>k=b) w Z))):=fun f u ho ht hu=>by
  have N:F0 f b 197 L:=by unfold F0;rw[u];exact Y
  have ap:F0 f w.heap.size 175 [.int .i64 (p:Nat),.int .u64 (x:Nat)]:=by unfold F0;rw[u];exact W
  have aB:F0 f (w.heap.size+1) 188 (Dc (Di 64)):=by unfold F0;rw[u];exact U
  obtain⟨d,n⟩:∃X,f.setCell ⟨b,4+p,none⟩ (.bool true)=X:=⟨_,rfl⟩;have t:Fr (fun k=>k=b) w d:=by
   rw[<-n];exact Fr.set (X:=fun k=>k=b) (w':=f) ⟨ho.trans r.os,ht.trans r.tape,hu.trans r.output,by rw[u];exact r.size,fun k A _=>by rw[u];exact r.block k A⟩ ⟨b,4+p,none⟩ _ rfl
  have M:F0 d b 197 (L.set (4+p) (.bool true)):=by rw[<-n];exact N.set (4+p) _
  have P:F0 d w.heap.size 175 [.int .i64 (p:Nat),.int .u64 (x:Nat)]:=by rw[<-n];exact(AB _ _ _ _ (show w.heap.size≠b by omega)).trans ap
  have ak:F0 d (w.heap.size+1) 188 (Dc (Di 64)):=by rw[<-n];exact(AB _ _ _ _ (show w.heap.size+1≠b by omega)).trans aB
  have G:(L.set (4+p) (.bool true))[0]?=some (.pointer (some ⟨i,0,none⟩)):=by rw[As (by omega)];exact ac
  have ae:Fr (fun k=>k=b) w d.drew:=⟨t.os,t.tape,t.output,t.size,t.block⟩;have ay:DV d.drew i T (.slice a l c) vw R D:=⟨h.1.fr ae (fun (e:i=b)=>ah e.symm),⟨h.2.1.1.fr ae (fun g hg (e:g=b)=>ai (by rw[<-e];exact hg)),h.2.1.2⟩,h.2.2⟩;refine⟨(ap.cell 0).trans rfl,(N.cell _).trans H,N.frozen _,d,n,(P.cell 0).trans rfl,(M.cell 0).trans G,?_⟩;refine(Pu d.drew i T vw R a l c D ay p s O).mono ?_;rintro e X ⟨rfl,y⟩;have C:Bw d X:=⟨y.os,y.tape,y.output,y.size,y.block⟩;have af:F0 X b 197 _:=(C.block _ M.lt).trans M;have ao:F0 X w.heap.size 175 _:=(C.block _ P.lt).trans P;have al:F0 X (w.heap.size+1) 188 _:=(C.block _ ak.lt).trans ak;have so:∀k,k≠w.heap.size+1->(X.setRow (w.heap.size+1) (Dc s).toArray).heap[k]?=X.heap[k]? := fun k A=>Bn X _ k _ A
  have ag:F0 (X.setRow (w.heap.size+1) (Dc s).toArray) b 197 _:=(so _ (by omega)).trans af;have aC:F0 (X.setRow (w.heap.size+1) (Dc s).toArray) w.heap.size 175 _:=(so _ (by omega)).trans ao;refine⟨by rw[I],(ao.cell 0).trans rfl,(af.cell 0).trans G,al,_,rfl,(aC.cell 0).trans rfl,(ag.cell 0).trans G,BQ X _ _ _ 188 _ al,ag,?_⟩;have z:Fr (fun k=>k=b) w X:=t.then (Fr.of_below (X:=fun _=>False) C) (fun _ _ e=>e.elim);exact⟨z.os,z.tape,z.output,by simp[World.setRow];exact z.size,fun k A aA=>(so k (by omega)).trans (z.block k A aA)⟩
 have F:j.cell? ⟨w.heap.size,0,none⟩=some (.int .i64 (p:Nat)):=(W.cell 0).trans rfl;have ct:j.cell? ⟨b,4+p,none⟩=some (.bool false):=(Y.cell _).trans H;have aH:¬((p:Int)<16):=by omega
 have aI:¬((1536:Int)<=(p:Int)):=by omega
 have aJ:(p:Int)<1536:=by omega
 have ad:(Dc s).length=64:=by rw[Dh,aj]
 have B:=Db ad;have au:=Db I;have aq:=Db e1;have ar:=Db e2;clear e1 e2 x1 U k1 Q z1 z2 b1 b2 W Y J ac h ah ai H O aj I ad r;go_enter Tryz.func241,Tryz.ntmps241;go_upto_region 1 with(refine Ju rfl 188 rfl JU ?_);rw[show w.alloc (.cells #[.int .i64 (p:Nat),.int .u64 (x:Nat)] 175)=E from Da aq,show E.alloc (.cells (Dc (Di 64)).toArray 188)=j from Da ar]
 go_quiet (fail)
 obtain⟨Wq,o⟩:∃X,j.drewN nq=X:=⟨_,rfl⟩;rw[o];have hq:=Da aa Wq.drew (by rw[<-o];rfl) (by rw[<-o];rfl) (by rw[<-o];rfl) (by rw[<-o];rfl);clear aa o F ct;obtain⟨F,ct,aG,d,n,c3,d3,HC⟩:=hq;have av:=Db n;clear n;go_upto_region 3 with fail;refine AD (S:=fun X=>X.cell? ⟨w.heap.size,0,none⟩=some (.int .i64 (p:Nat))) (by kernel_rfl) F (fun az=>?_);refine tk 0 ?_;try simp only[pE];refine tk 1 ?_;try simp only[pE];refine tk 2 ?_;try simp only[pE];refine tk 3 ?_;try simp only[pE];refine tk 4 ?_;try simp only[pE];refine tk 5 ?_;try simp only[pE];refine rk 6 (fun K m=>?_);go_simp;rw[show(Wq.setCell ⟨b,4+p,none⟩ (.bool true)).drew=d from Da av];refine m.out _ _ c3 (fun aD=>?_);clear m K
 (try simp only[pE])
 refine AW (by kernel_rfl) ?_ _;go_upto_region 4 with fail;refine AD (S:=fun X=>X.cell? ⟨w.heap.size,0,none⟩=some (.int .i64 (p:Nat))/\X.cell? ⟨b,0,none⟩=some (.pointer (some ⟨i,0,none⟩))) (by kernel_rfl) ⟨c3,d3⟩ (fun az=>?_);refine tk 0 ?_;try simp only[pE];refine tk 1 ?_;try simp only[pE];refine tk 2 ?_;try simp only[pE];refine tk 3 ?_;try simp only[pE];refine tk 4 ?_;try simp only[pE];refine tk 5 ?_;try simp only[pE];refine rk 6 (fun K m=>?_);go_simp;go_at_call 239;refine(Da HC).mono ?_;rintro e X ⟨rfl,cX,dX,am,Z,hZ,cZ,dZ,an,ab⟩;have aw:=Db am;have ax:=Db an;have HZ:=Db hZ;clear HC am an hZ;go_wp2_with fail;refine m.out _ _ ⟨cX,dX⟩ (fun aE=>?_);clear m K
 (try simp only[pE])
 refine rk 7 (fun K m=>?_);refine Xi rfl 188 _ _ rfl (w.heap.size+1) 0 188 (Dc (Di 64)) (Dc s) rfl (Da au) (Da aw) (by rw[Da B,Dh,Jd];omega) (by rw[D7,Da B]) (Ko s) Z (by rw[YT _ _ (by rw[Da B,Dh,Jd])];exact Da HZ) ?_;refine m.out _ _ ⟨cZ,dZ⟩ (fun aF=>?_);clear m K
 (try simp only[pE])
 refine tk 8 ?_;try simp only[pE];refine AW (by kernel_rfl) ?_ _;go_wp2_with fail;refine Ax (v := .tuple #[DB s,.bool true]) ?_ rfl ⟨rfl,(Da ab).1,(Da ab).2⟩;exact Xr (fn:=Tryz.f241) (p:=4) (q:=5) (ty:=188) rfl _ _ (w.heap.size+1) 188 (Dc s).toArray (0,0) _ rfl (Da ax) Ua rfl (by rw[D7];simp[Da B])
structure F5 where
 ins:List (Nat×Nat)
 tk:Nat->Bool
 tn:Nat->Nat
 t:By
structure Gd(w0:World)(n0 rb db tp tx:Nat)(q:F5)(va vt:Value)(W:World):Prop where
 row:∃L,F0 W rb 197 L/\L[0]?=some (.pointer (some ⟨db,0,none⟩))/\L[1]?=some va/\L[2]?=some (.int .i64 (tp:Nat))/\L[3]?=some (.int .u64 (tx:Nat))/\(∀p,p<1536->L[4+p]?=some (.bool (q.tk p)))/\(∀b,b<8->L[1540+b]?=some (.int .i64 (q.tn b:Nat)))/\L[1548]?=some vt
 es:∃es,Hb q.ins es/\Sl W 350 2 va es.length (Ds es)
 tab:Gp n0 W vt q.t
 oa:∀k,F2 va k->n0<=k/\k≠rb/\¬F2 vt k
 ot:¬F2 vt rb
 bel:Below n0 w0 W
 lo:n0<=rb
 sz:n0<=w0.heap.size
section
variable{w0:World}{n0 rb db tp tx:Nat}{q:F5}{va vt:Value}{W W':World}
theorem Gd.fr(h:Gd w0 n0 rb db tp tx q va vt W){Z:Nat->Prop}(a:Fr Z W W')(b:∀k,Z k->n0<=k/\k≠rb/\¬F2 va k/\¬F2 vt k):Gd w0 n0 rb db tp tx q va vt W':=by
 obtain⟨L,j,i⟩:=h.row;obtain⟨es,d,f⟩:=h.es;have hs:=h.bel.size;have l:=h.sz;exact⟨⟨L,j.fr a (fun e=>(b _ e).2.1 rfl),i⟩,⟨es,d,f.fr a (fun g c e=>(b g e).2.2.1 c)⟩,⟨h.tab.1.fr a (fun g c e=>(b g e).2.2.2 c),h.tab.2⟩,h.oa,h.ot,h.bel.trans ⟨a.os,a.tape,a.output,a.size,fun k hk=>a.block k (by omega) (fun e=>by have:=(b k e).1;omega)⟩,h.lo,l⟩
theorem Gd.below(h:Gd w0 n0 rb db tp tx q va vt W)(a:Bw W W'):Gd w0 n0 rb db tp tx q va vt W':=h.fr (Z:=fun _=>False) (Fr.of_below a) (fun _ e=>e.elim)
theorem Gd.lt(h:Gd w0 n0 rb db tp tx q va vt W):rb<W.heap.size/\(∀k,F2 va k->k<W.heap.size)/\(∀k,F2 vt k->k<W.heap.size):=by
 obtain⟨L,c,_⟩:=h.row;obtain⟨es,_,b⟩:=h.es;exact⟨c.lt,fun k a=>b.lt a,fun k a=>h.tab.1.lt a⟩
theorem Gd.set(h:Gd w0 n0 rb db tp tx q va vt W)(a:Fr (fun k=>k=rb) W W'){L:F6}{c:F5}(n:F0 W' rb 197 L)(m:L[0]?=some (.pointer (some ⟨db,0,none⟩))/\L[1]?=some va/\L[2]?=some (.int .i64 (tp:Nat))/\L[3]?=some (.int .u64 (tx:Nat))/\(∀p,p<1536->L[4+p]?=some (.bool (c.tk p)))/\(∀b,b<8->L[1540+b]?=some (.int .i64 (c.tn b:Nat)))/\L[1548]?=some vt)(j:c.ins=q.ins)(l:c.t=q.t):Gd w0 n0 rb db tp tx c va vt W':=by
 obtain⟨es,f,i⟩:=h.es;have hs:=h.bel.size;have o:=h.sz;have aa:=h.lo;exact⟨⟨L,n,m⟩,⟨es,by rw[j];exact f,i.fr a (fun g d e=>(h.oa g d).2.1 e)⟩,⟨by rw[l];exact h.tab.1.fr a (fun g d e=>h.ot (by rw[<-e];exact d)),h.tab.2⟩,h.oa,h.ot,h.bel.trans ⟨a.os,a.tape,a.output,a.size,fun k hk=>a.block k (by omega) (fun e=>by omega)⟩,h.lo,o⟩
def F5.take(q:F5)(p:Nat):F5:={ q with tk:=fun k=>if k=p then true else q.tk k }
def F5.turn(q:F5)(b:Nat):F5:={ q with tn:=fun k=>if k=b then q.tn b+1 else q.tn k }
def F5.put(q:F5)(r p:Nat):F5:={ q with ins:=q.ins++[(r,p)] }
def F5.say(q:F5)(s:By):F5:={ q with t:=q.t++s }
theorem Gd.take_call(h:Gd w0 n0 rb db tp tx q va vt W){m vw j:Value}{a:OA}{l c:Nat}{D:LY}(d:DV w0 db m (.slice a l c) vw j D)(g:db<n0/\∀k,F2 (.slice a l c) k->k<n0){p x:Nat}(w:16<=p)(r:p<1536)(f:q.tk p=false){s:By}(A:D[p]?=some s):
  Cl 241 #[.pointer (some ⟨rb,0,none⟩),.agg #[.int .i64 (p:Nat),.int .u64 (x:Nat)]] W fun e w'=>e = .returned (.tuple #[DB s,.bool true])/\Gd w0 n0 rb db tp tx (q.take p) va vt w'/\Fr (fun k=>k=rb) W w':=by
 obtain⟨L,y,t,B,C,E,i,F,G⟩:=h.row;have aa:=h.lo;have u:DV W db m (.slice a l c) vw j D:=⟨(h.bel.block _ g.1).trans d.1,⟨d.2.1.1.kept (fun k _ f=>h.bel.block k (g.2 k f)),d.2.1.2⟩,d.2.2⟩;refine(YW W rb db L y t m vw j a l c D u (by omega) (fun e=>by have:=g.2 _ e;omega) p x w r (by rw[i p r,f]) s A).mono ?_;rintro e w' ⟨rfl,z,n⟩;refine⟨rfl,h.set n z ⟨by rw[As (by omega)];exact t,by rw[As (by omega)];exact B,by rw[As (by omega)];exact C,by rw[As (by omega)];exact E,fun k o=>?_,fun b v=>by rw[As (by omega)];exact F b v,by rw[As (by omega)];exact G⟩ rfl rfl,n⟩;show _=some (Value.bool (if k=p then true else q.tk k));by_cases e:k=p
 ·subst e;rw[if_pos rfl,Bf (Ae.1 (i k o)).1]
 ·rw[if_neg e,As (by omega)];exact i k o
theorem Gd.turn(h:Gd w0 n0 rb db tp tx q va vt W){b:Nat}(hb:b<8):Gd w0 n0 rb db tp tx (q.turn b) va vt (W.setCell ⟨rb,1540+b,none⟩ (.int .i64 ((q.tn b+1:Nat):Int))):=by
 obtain⟨L,d,f,g,i,j,l,c,m⟩:=h.row;refine h.set ((Fr.refl _ _).set _ _ rfl) (d.set (1540+b) (.int .i64 ((q.tn b+1:Nat):Int))) ⟨by rw[As (by omega)];exact f,by rw[As (by omega)];exact g,by rw[As (by omega)];exact i,by rw[As (by omega)];exact j,fun k a=>by rw[As (by omega)];exact l k a,fun k a=>?_,by rw[As (by omega)];exact m⟩ rfl rfl;show _=some (Value.int .i64 ((if k=b then q.tn b+1 else q.tn k:Nat):Int));by_cases e:k=b
 ·subst e;rw[if_pos rfl,Bf (Ae.1 (c k a)).1]
 ·rw[if_neg e,As (by omega)];exact c k a
theorem Gd.say(h:Gd w0 n0 rb db tp tx q va vt W){s:By}{c:Value}(i:Gp n0 W' c (q.t++s))(b:Fr (F2 vt) W W')(j:Dm W vt c):Gd w0 n0 rb db tp tx (q.say s) va c (W'.setCell ⟨rb,1548,none⟩ c):=by
 obtain⟨L,t,w,x,y,z,A,B,C⟩:=h.row;obtain⟨aa,p,ab⟩:=h.lt;obtain⟨es,m,n⟩:=h.es;have v:=h.sz;have hs:=h.bel.size;have u:F0 W' rb 197 L:=t.fr b h.ot;have ac:=h.lo;have l:¬F2 c rb:=fun e=>(j rb e).elim h.ot (fun e=>by omega)
 have r:∀k,F2 va k->¬F2 c k:=fun k a e=>(j k e).elim (h.oa k a).2.2 (fun e=>by have:=p k a;omega)
 have d:Fr (fun k=>k=rb) W' (W'.setCell ⟨rb,1548,none⟩ c):=(Fr.refl _ _).set _ _ rfl;have o:Sl W' 350 2 va es.length (Ds es):=n.fr b (fun g f e=>(h.oa g f).2.2 e);refine⟨⟨_,u.set 1548 c,by rw[As (by omega)];exact w,by rw[As (by omega)];exact x,by rw[As (by omega)];exact y,by rw[As (by omega)];exact z,fun k a=>by rw[As (by omega)];exact A k a,fun k a=>by rw[As (by omega)];exact B k a,by rw[Bf (Ae.1 C).1]⟩,⟨es,m,o.fr d (fun g f e=>(h.oa g f).2.1 e)⟩,⟨i.1.setCell _ _ l,i.2⟩,fun k a=>⟨(h.oa k a).1,(h.oa k a).2.1,r k a⟩,l,?_,h.lo,v⟩;exact h.bel.trans ⟨d.os.trans b.os,d.tape.trans b.tape,d.output.trans b.output,Ag b.size d.size,fun k a=>(d.block k (by have:=b.size;omega) (fun e=>by omega)).trans (b.block k (by omega) (fun e=>by have:=h.tab.2 k e;omega))⟩
theorem Gd.put_call(h:Gd w0 n0 rb db tp tx q va vt W){r p:Nat}(z:∀y∈q.ins,y.1≠r)(ac:q.ins.length<=9999):
  Cl 243 #[.pointer (some ⟨rb,1,none⟩),.int .u64 (r:Nat),.int .i64 (p:Nat)] W fun e w'=>e = .returned (.tuple #[])/\∃c,Gd w0 n0 rb db tp tx (q.put r p) c vt w'/\Fr (fun k=>k=rb\/F2 va k) W w'/\Dm W va c:=by
 obtain⟨L,j,D,n,E,F,G,H,I⟩:=h.row;obtain⟨es,f,u⟩:=h.es;obtain⟨aa,ab,v⟩:=h.lt;have C:=h.sz;have hs:=h.bel.size;have ad:=h.lo;refine(PD W rb 1 va es (r:Nat) (p:Nat) ((j.cell 1).trans n) (j.frozen 1) (fun e=>(h.oa rb e).2.1 rfl) u (by rw[f.2.1];omega) f.1 (fun x B e=>?_)).mono ?_
 ·obtain⟨y,i,rfl⟩:=(f.2.2 x).1 B;exact z y i (by simp only at e;omega)
 ·rintro e w' ⟨rfl,c,t,m1,J,K,M,N,o,d⟩;have b:Fr (fun k=>k=rb\/F2 va k) W w':=⟨d.os,d.tape,d.output,d.size,fun k a l=>d.block k a (fun e=>l (.inl e)) (fun e=>l (.inr e))⟩;have A:F0 w' rb 197 (L.set 1 c):=by unfold F0;rw[d.head];exact j.set 1 c
  have w:∀k,F2 c k->n0<=k/\k≠rb/\¬F2 vt k:=fun k a=>(o k a).elim (h.oa k) (fun e=>⟨by omega,by omega,fun s=>by have:=v k s;omega⟩)
  refine⟨rfl,c,⟨⟨_,A,by rw[As (by omega)];exact D,by rw[Bf (Ae.1 n).1],by rw[As (by omega)];exact E,by rw[As (by omega)];exact F,fun k a=>by rw[As (by omega)];exact G k a,fun k a=>by rw[As (by omega)];exact H k a,by rw[As (by omega)];exact I⟩,⟨t,⟨K,by rw[M,f.2.1];show _=(q.ins++[(r,p)]).length;rw[Ad];rfl,fun x=>?_⟩,J⟩,⟨h.tab.1.fr b (fun g m e=>e.elim (fun e=>h.ot (by rw[<-e];exact m)) (fun e=>(h.oa g e).2.2 m)),h.tab.2⟩,w,h.ot,h.bel.trans ⟨b.os,b.tape,b.output,b.size,fun k a=>b.block k (by omega) (fun e=>e.elim (fun e=>by omega) (fun e=>by have:=(h.oa k e).1;omega))⟩,h.lo,C⟩,b,o⟩;rw[N x,f.2.2 x];show _↔∃y∈q.ins++[(r,p)],_;constructor
  ·rintro(rfl|⟨y,i,rfl⟩)
   ·exact⟨(r,p),by simp,rfl⟩
   ·exact⟨y,A0 _ i,rfl⟩
  ·rintro⟨y,i,rfl⟩;rcases Ap.1 i with e|e
   ·exact .inr ⟨y,e,rfl⟩
   ·rw[Ab.1 e];exact .inl rfl
theorem Gd.cells(h:Gd w0 n0 rb db tp tx q va vt W):W.cell? ⟨rb,0,none⟩=some (.pointer (some ⟨db,0,none⟩))/\W.cell? ⟨rb,1,none⟩=some va/\W.cell? ⟨rb,1548,none⟩=some vt/\W.frozen? ⟨rb,1548,none⟩=false/\(∀b,b<8->W.cell? ⟨rb,1540+b,none⟩=some (.int .i64 (q.tn b:Nat))/\W.frozen? ⟨rb,1540+b,none⟩=false):=by
 obtain⟨L,a,d,e,l2,l3,l4,f,g⟩:=h.row;exact⟨(a.cell 0).trans d,(a.cell 1).trans e,(a.cell 1548).trans g,a.frozen 1548,fun b c=>⟨(a.cell _).trans (f b c),a.frozen _⟩⟩
end
theorem ZhA:Tryz.prog.built 188 []=some (Dc (Di 64)).toArray:=by kernel_rfl
theorem Zg1{b:Array Oper}{c:List Oper}{o:Oper}{a:Act}{w:World}{Q:Exit->Act->World->Prop}(e:o.guard=none)(ho:o.op = .build 188 #[])(h:wpList Tryz.prog b Q c (a.put o.dst (DB (Di 64))) w):wpList Tryz.prog b Q (o::c) a w:=by
 refine EE e fun K d=>?_
 unfold Oper.wp execOp;simp only[ho,Fu,CP,Instr.build,Cj];exact d _ _ h
theorem take_no(w:World)(d:Nat)(L:F6)(r:F0 w d 197 L)(p x:Nat)(o:p<16\/1536<=p\/p<1536/\L[4+p]?=some (.bool true)):
  Cl 241 #[.pointer (some ⟨d,0,none⟩),.agg #[.int .i64 (p:Nat),.int .u64 (x:Nat)]] w fun e w'=>e = .returned (.tuple #[DB (Di 64),.bool false])/\Bw w w':=by
 obtain⟨b,k,u,t,A,h⟩:=De w [.int .i64 (p:Nat),.int .u64 (x:Nat)] 175;obtain⟨a,l,f,c,J,i⟩:=De b (Dc (Di 64)) 188;rw[A]at f;have n:Bw w a:=h.trans (i.mono (by omega));have y:=c _ _ _ u;have z:=c _ _ _ (t _ _ _ r);have c0:a.cell? ⟨w.heap.size,0,none⟩=some (.int .i64 (p:Nat)):=(y.cell 0).trans rfl;have C:=Db k;have D:=Db l;have E:=Db f;have B:=Db n;have H:(p:Int)<16\/¬(p:Int)<16/\(1536:Int)<=(p:Int)\/¬(p:Int)<16/\(p:Int)<1536/\¬(1536:Int)<=(p:Int)/\a.cell? ⟨d,4+p,none⟩=some (.bool true):=by
  rcases AO p 16 with e|e
  ·exact .inl (by omega)
  ·rcases o with q|q|⟨q1,I⟩
   ·omega
   ·exact .inr (.inl ⟨by omega,by omega⟩)
   ·exact .inr (.inr ⟨by omega,by omega,by omega,(z.cell _).trans I⟩)
 clear k l u f t c A J h i y z r n o;rcases H with m|⟨m,F⟩|⟨m,F,h3,h4⟩
 all_goals
  go_enter Tryz.func241,Tryz.ntmps241;go_upto_region 1 with(refine Ju rfl 188 rfl JU ?_);rw[show w.alloc (.cells #[.int .i64 (p:Nat),.int .u64 (x:Nat)] 175)=b from Da C,show b.alloc (.cells (Dc (Di 64)).toArray 188)=a from Da D]
  go_quiet (fail)
  have s:F0 (a.drewN nq) (w.heap.size+1) 188 (Dc (Di 64)):=Da E;have g:=Db s;clear s;go_wp2_with (first|(refine Zg1 rfl rfl ?_)|(refine Bs rfl 188 _ _ rfl (w.heap.size+1) (Dc (Di 64)).toArray rfl rfl 188 _ (Da g) (by rw[D7];simp[Dh,Jd]) (by simp) (J8 _) ?_));have G:F0 ((a.drewN nq).setRow (w.heap.size+1) (Dc (Di 64)).toArray) (w.heap.size+1) 188 (Dc (Di 64)):=BQ _ _ _ _ 188 _ (Da g);refine Ax (v := .tuple #[DB (Di 64),.bool false]) ?_ rfl ⟨rfl,?_⟩
  ·exact Xr (fn:=Tryz.f241) (p:=4) (q:=5) (ty:=188) rfl _ _ (w.heap.size+1) 188 (Dc (Di 64)).toArray (0,0) _ rfl G Ua rfl (by rw[D7];simp[Dh,Jd])
  ·exact(below_drewN (Da B) nq).trans ⟨rfl,rfl,rfl,by simp,fun j hj=>Bn _ _ j _ (by omega)⟩
def KX(w0:World)(n0 rb db tp tx:Nat)(W:World)(va vt:Value)(b:Nat)(q':F5)(e:Ending)(w':World):Prop:=
 e = .returned (.tuple #[.int .i64 (b:Nat),.bool true])/\∃va' vt',Gd w0 n0 rb db tp tx q' va' vt' w'/\Fr (fun k=>k=rb\/F2 va k\/F2 vt k) W w'/\Dm W va va'/\Dm W vt vt'
def DJ(s:By):By:=s.extract 1 64
theorem YC(w O:World)(B d H tp tx:Nat)(q:F5)(J vt:Value)(h:Gd O B d H tp tx q J vt w){vf vw ve:Value}{a:OA}{l c:Nat}{D:LY}(hD:DV O H vf (.slice a l c) vw ve D)(aw:H<B/\∀k,F2 (.slice a l c) k->k<B)
  (p x:Nat) (a0:16<=p) (a1:p<1536) (hk:q.tk p=false) (s:By) (hs:D[p]?=some s) (aA:s.data[0]?=some 3) (ht:q.t.size<=1000000) (ax:∀y∈q.ins,y.1≠Dd 3 0 (q.tn 0)) (au:q.ins.length<=9999) (aC:q.tn 0<60000):
  Cl 202 #[.pointer (some ⟨d,0,none⟩),.agg #[.int .i64 (p:Nat),.int .u64 (x:Nat)]] w (KX O B d H tp tx w J vt 0 ((((q.take p).say (DJ s)).put (Dd 3 0 (q.tn 0)) p).turn 0)):=by
 have ah:s.size=64:=hD.2.1.2 s (An hs);obtain⟨C,F,E,rfl⟩:=h.tab.1.shape;obtain⟨aY,aq,ar⟩:=h.lt;obtain⟨W1,e1,x1,k1,s1,b1⟩:=De w [.int .i64 (p:Nat),.int .u64 (x:Nat)] 175;have h1:=h.below b1;have bd:B<=w.heap.size:=Ag h.sz h.bel.size;obtain⟨m,I⟩:∃T,T=q.tn 0:=⟨_,rfl⟩;have ba:m<60000:=by rw[I];exact aC
 obtain⟨VB,af⟩:∃V,V=DB s:=⟨_,rfl⟩;have ac:Hid (Cl 241 #[.pointer (some ⟨d,0,none⟩),.agg #[.int .i64 (p:Nat),.int .u64 (x:Nat)]] W1 fun e X=>e = .returned (.tuple #[VB,.bool true])/\∃Y Z,X.alloc (.cells (Dc (Di 64)).toArray 188)=Y/\F0 Y X.heap.size 188 (Dc (Di 64))/\Y.setRow X.heap.size (Dc s).toArray=Z/\Z.cell? ⟨X.heap.size,0,none⟩=some (.int .u8 3)/\Z.cell? ⟨d,1548,none⟩=some (.slice C F E)/\
   ∃o z t n,(Builtin.append_ #[59,59] 59 #[.slice C F E,.slice (some ⟨X.heap.size,1,none⟩) 63 63]).run Tryz.prog Z.drew = .ok (.slice o z t) n/\n.cell? ⟨d,1548,none⟩=some (.slice C F E)/\n.frozen? ⟨d,1548,none⟩=false/\∃M,n.setCell ⟨d,1548,none⟩ (.slice o z t)=M/\M.cell? ⟨d,1540,none⟩=some (.int .i64 (m:Nat))/\M.cell? ⟨w.heap.size,0,none⟩=some (.int .i64 (p:Nat))/\
    Hid (Cl 243 #[.pointer (some ⟨d,1,none⟩),.int .u64 ((3*4294967296+0*65536+m:Nat):Int),.int .i64 (p:Nat)] M.drew fun e A=>e = .returned (.tuple #[])/\A.cell? ⟨d,1540,none⟩=some (.int .i64 (m:Nat))/\A.cell? ⟨w.heap.size,0,none⟩=some (.int .i64 (p:Nat))/\A.frozen? ⟨d,1540,none⟩=false/\
     Hid (KX O B d H tp tx w J (.slice C F E) 0 ((((q.take p).say (DJ s)).put (Dd 3 0 (q.tn 0)) p).turn 0) (.returned (.tuple #[.int .i64 0,.bool true])) (A.setCell ⟨d,1540,none⟩ (.int .i64 ((m:Int)+1))).drew))):=by
  refine(h1.take_call hD aw (x:=x) a0 a1 hk hs).mono ?_;rintro e X ⟨rfl,hX,ag⟩;have aW:Fr (fun k=>k=d) w X:=(Fr.of_below b1).then ag (fun _ _ e=>e);have bb:=ag.size;obtain⟨Y,eY,xY,kY,sY,bY⟩:=De X (Dc (Di 64)) 188;have xZ:F0 (Y.setRow X.heap.size (Dc s).toArray) X.heap.size 188 (Dc s):=BQ Y _ _ _ 188 _ xY;have G:Bw X (Y.setRow X.heap.size (Dc s).toArray):=bY.trans ⟨rfl,rfl,rfl,by simp,fun j hj=>Bn Y _ j _ (by omega)⟩;obtain⟨Z,U⟩:∃Z,Y.setRow X.heap.size (Dc s).toArray=Z:=⟨_,rfl⟩;rw[U]at xZ G;have aS:=hX.below G;have P:Bw X Z.drew:=⟨G.os,G.tape,G.output,G.size,G.block⟩;have ab:=hX.below P;have a7:F0 Z.drew X.heap.size 188 (Dc s):=xZ;have aU:(DJ s).size=63:=by unfold DJ;rw[Af,ah];rfl
  obtain⟨o,z,t,n,r1,r2,W,r4⟩:=J2 Z.drew B (by have:=P.size;omega) (.slice C F E) _ ab.tab ⟨X.heap.size,1,none⟩ 63 63 (DJ s) aU (fun j u N=>by
   rw[AL,a7.cell];unfold DJ at N;rw[Jt,Ao]at N
   split at N
   ·rw[Bc]at N;exact N
   ·cases N) (by show q.t.size+63<=_;omega)
  have aB:=ab.say r2 W r4;have be:=W.size;have bc:=P.size;have b0:F0 X w.heap.size 175 _:=(ag.block _ x1.lt (show ¬w.heap.size=d by omega)).trans x1;have b5:F0 n w.heap.size 175 _:=(W.block _ (by omega) (fun e=>by have:=ar _ e;omega)).trans ((P.block _ b0.lt).trans b0);have b6:F0 (n.setCell ⟨d,1548,none⟩ (.slice o z t)) w.heap.size 175 _:=(AB _ _ _ _ (show w.heap.size≠d by omega)).trans b5;obtain⟨L,a3,_,_,_,_,_,_,l6⟩:=ab.row;have az:F0 n d 197 L:=a3.fr W ab.ot;have aV:=aB.cells;refine⟨by rw[af],Y,Z,eY,xY,U,?_,aS.cells.2.2.1,o,z,t,n,r1,(az.cell 1548).trans l6,az.frozen 1548,_,rfl,?_,(b6.cell 0).trans rfl,?_⟩
  ·rw[xZ.cell];have h0:s.data.toList[0]?=some 3:=by rw[Cm];exact aA
   show(Dc s)[0]? = _;unfold Dc;rw[Bv,h0];rfl
  ·rw[I];exact(aV.2.2.2.2 0 (by omega)).1
  ·have a4:Gd O B d H tp tx ((q.take p).say (DJ s)) J (.slice o z t) (n.setCell ⟨d,1548,none⟩ (.slice o z t)).drew:=aB.below ⟨rfl,rfl,rfl,Aa _,fun _ _=>rfl⟩;have a2:=a4.put_call (r:=Dd 3 0 m) (p:=p) (by rw[I];exact ax) au;refine a2.mono ?_;rintro e A ⟨rfl,aE,al,ao,aZ⟩;have b7:F0 A w.heap.size 175 _:=(ao.block _ b6.lt (fun e=>e.elim (fun e=>by omega) (fun e=>by have:=aq _ e;omega))).trans b6;have c3:=al.cells.2.2.2.2 0 (by omega);have ap:=al.turn (b:=0) (by omega);have a6:(((q.take p).say (DJ s)).put (Dd 3 0 m) p).tn 0=m:=I.symm;rw[a6]at ap;have aM:Fr (fun k=>k=d) A (A.setCell ⟨d,1540,none⟩ (.int .i64 ((m+1:Nat):Int))):=(Fr.refl _ _).set _ _ rfl;have aX:Gd O B d H tp tx (((((q.take p).say (DJ s)).put (Dd 3 0 m) p)).turn 0) aE (.slice o z t) (A.setCell ⟨d,1540,none⟩ (.int .i64 ((m+1:Nat):Int))).drew:=ap.below ⟨rfl,rfl,rfl,Aa _,fun _ _=>rfl⟩;rw[show((m:Int)+1)=((m+1:Nat):Int) by omega];refine⟨rfl,by rw[I];exact c3.1,(b7.cell 0).trans rfl,c3.2,rfl,aE,.slice o z t,by rw[<-I];exact aX,?_,fun g hg=>(aZ g hg).imp id (fun e=>?_),fun g hg=>(r4 g hg).imp id (fun e=>by omega)⟩
   ·have f1:Fr (fun k=>k=d\/F2 J k\/F2 (.slice C F E) k) w Z.drew:=(aW.mono (Y:=fun k=>k=d\/F2 J k\/F2 (.slice C F E) k) (fun k _ e => .inl e)).then (Fr.of_below (X:=fun _=>False) P) (fun _ _ e=>e.elim);have f2:=f1.then W (fun k _ e => .inr (.inr e));have f3:Fr (fun k=>k=d\/F2 J k\/F2 (.slice C F E) k) w (n.setCell ⟨d,1548,none⟩ (.slice o z t)).drew:=by
     have:=Fr.set f2 ⟨d,1548,none⟩ (.slice o z t) (.inl rfl);exact⟨this.os,this.tape,this.output,this.size,this.block⟩
    have f4:=f3.then ao (fun k _ e=>e.elim .inl (fun e => .inr (.inl e)));have R:=f4.then aM (fun k _ e => .inl e);exact⟨R.os,R.tape,R.output,R.size,R.block⟩
   ·have:(n.setCell ⟨d,1548,none⟩ (.slice o z t)).drew.heap.size=n.heap.size:=by simp[World.setCell,World.drew]
    omega
 have aI:Hid (∀V,Cl 244 #[.int .u8 3,.int .i64 0,.int .i64 (m:Nat)] V fun e w'=>e = .returned (.int .u64 ((3*4294967296+0*65536+m:Nat):Int))/\w'=V):=fun V=>UH V 3 0 m (by omega) (by omega) (by omega)
 have an:(Dc s).length=64:=by rw[Dh,ah]
 have ai:=Db an;have aJ:=Db af;have aF:=Db e1;have d1:=(x1.cell 0).trans (show _=some (Value.int .i64 (p:Nat)) from rfl);have d2:=(x1.cell 1).trans (show _=some (Value.int .u64 (x:Nat)) from rfl);obtain⟨QF,ak⟩:∃Q,Q=((((q.take p).say (DJ s)).put (Dd 3 0 (q.tn 0)) p).turn 0):=⟨_,rfl⟩;rw[<-ak]at ac ⊢;clear I e1 x1 k1 s1 b1 h1 h hD aw hk hs aA ht ax au aC ah af an ak aY aq ar;go_enter Tryz.func202,Tryz.ntmps202;go_upto_region 1 with fail;rw[show w.alloc (.cells #[.int .i64 (p:Nat),.int .u64 (x:Nat)] 175)=W1 from Da aF];go_upto_region 2 with(first|(go_at_call 241;refine(Da ac).mono ?_;rintro e X ⟨rfl,Y,Z,hY,xY,U,z0,z1,o,z,t,n,ay,z5,z6,M,am,ad,ae,aj⟩;have HY:=Db hY;have aK:=Db xY;have HZ:=Db U;have aL:=Db am;have aH:=Db ay;clear hY xY U am ay d1 d2 ac)|(refine Ju rfl 188 rfl JU ?_;rw[show X.alloc (.cells (Dc (Di 64)).toArray 188)=Y from Da HY])|(refine Bs rfl 188 _ _ rfl X.heap.size (Dc s).toArray rfl (Da aJ) 188 _ (Da aK) (by rw[D7];simp[Da ai]) (by simp[Da ai,Dh,Jd]) (J8 _) ?_;rw[Da HZ]));go_upto_region 8 with fail;refine AD (S:=fun V=>True) (by kernel_rfl) AQ (fun aa=>?_);refine tk 0 ?_;try simp only[pE];refine tk 1 ?_;try simp only[pE];refine tk 2 ?_;try simp only[pE];refine tk 3 ?_;try simp only[pE];refine tk 5 ?_;try simp only[pE];refine rk 4 (fun K f=>?_);go_simp;refine f.out _ _ AQ (fun aP=>?_);clear f K
 (try simp only[pE])
 refine rk 6 (fun K f=>?_);refine JO rfl _ _ 59 59 rfl _ _ rfl rfl (Da aH) ?_;refine f.out _ _ AQ (fun aQ=>?_);clear f K
 (try simp only[pE])
 refine tk 7 ?_;try simp only[pE];refine tk 8 ?_;try simp only[pE];refine rk 9 (fun K f=>?_);go_simp;rw[show n.setCell ⟨d,1548,none⟩ (.slice o z t)=M from Da aL];refine f.out _ _ AQ (fun aR=>?_);clear f K
 (try simp only[pE])
 refine AW (by kernel_rfl) ?_ _;clear aa aP aQ aR z0 z1 z5 z6;go_upto_region 13 with fail;refine AD (S:=fun V=>V.cell? ⟨d,1540,none⟩=some (.int .i64 (m:Nat))/\V.cell? ⟨w.heap.size,0,none⟩=some (.int .i64 (p:Nat))) (by kernel_rfl) ⟨ad,ae⟩ (fun aa=>?_);refine tk 0 ?_;try simp only[pE];refine tk 1 ?_;try simp only[pE];refine tk 2 ?_;try simp only[pE];refine tk 3 ?_;try simp only[pE];refine tk 4 ?_;try simp only[pE];refine tk 5 ?_;try simp only[pE];refine tk 6 ?_;try simp only[pE];refine tk 7 ?_;try simp only[pE];refine tk 8 ?_;try simp only[pE];refine tk 9 ?_;try simp only[pE];refine tk 10 ?_;try simp only[pE];refine tk 11 ?_;try simp only[pE];refine tk 13 ?_;try simp only[pE];refine tk 14 ?_;try simp only[pE];refine rk 12 (fun K f=>?_);go_simp;go_at_call 244;refine(Da aI _).mono ?_;rintro e w' ⟨rfl,aD⟩;rw[aD];clear aD;go_wp2_with fail;refine f.out _ _ ⟨ad,ae⟩ (fun aN=>?_);clear f K
 (try simp only[pE])
 refine rk 15 (fun K f=>?_);go_simp;go_at_call 243;refine(Da aj).mono ?_;rintro e A ⟨rfl,y1,y2,y3,aG⟩;go_wp2_with fail;refine f.out _ _ ⟨y1,y2⟩ (fun aO=>?_);clear f K
 (try simp only[pE])
 refine AW (by kernel_rfl) ?_ _;clear aa aN aO ad ae aj;go_upto_region 14 with fail;refine AD (S:=fun V=>True) (by kernel_rfl) AQ (fun aa=>?_);refine tk 0 ?_;try simp only[pE];refine tk 1 ?_;try simp only[pE];refine tk 2 ?_;try simp only[pE];refine tk 3 ?_;try simp only[pE];refine tk 4 ?_;try simp only[pE];refine tk 7 ?_;try simp only[pE];refine tk 8 ?_;try simp only[pE];refine rk 5 (fun K f=>?_);go_simp;refine f.out _ _ AQ (fun a9=>?_);clear f K
 (try simp only[pE])
 refine A6 (i:=6) (v := .int .i64 ((m+1:Nat):Int)) rfl (by kernel_rfl) (by kernel_rfl) (by kernel_rfl) (fun _ _ _ h=>h) (Or.inl ⟨by rfl,by intro w aT;(try dsimp only at aT);go_simp;rw[AX];omega⟩) (by assumption) ?_
 (try simp only[pE])
 refine tk 9 ?_;try simp only[pE];refine rk 10 (fun K f=>?_);go_simp;refine f.out _ _ AQ (fun a8=>?_);clear f K
 (try simp only[pE])
 refine AW (by kernel_rfl) ?_ _;go_wp2;exact Ax (v := .tuple #[.int .i64 0,.bool true]) (by simp[results,Tryz.results202,go_sem]) rfl (Da aG)
end Go.Proofs.YtaieidcohdhgpaaGreatDoor
