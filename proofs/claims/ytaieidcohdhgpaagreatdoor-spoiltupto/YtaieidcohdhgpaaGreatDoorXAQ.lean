/- Spoilt. -/
import Derived.Test.YtaieidcohdhgpaaGreatDoorXAP
namespace Go.Proofs.YtaieidcohdhgpaaGreatDoor
set_option maxHeartbeats 40000000
set_option maxRecDepth 100000
section
open Go.RowKit Go.Shelf
attribute [local go_sem] Oper.semAt_some
def Dx(last p:By)(k:Nat):By:=⟨#[UInt8.ofNat k,UInt8.ofNat (Jr last p),UInt8.ofNat (p.size-Jr last p)]⟩
def Dp(last p:By):By:=p.extract (Jr last p) p.size
theorem Up(a b:By):Jr a b<=a.size/\Jr a b<=b.size:=P7 _ _
def QA(w:World)(b n0 pb db sb so:Nat)(E:F3)(O0:Nat->Prop)(v0:Value)(st:Pl)(t:By)(e:Ending)(w':World):Prop:=
 ∃a' l' c' O',e = .returned (.slice a' l' c')/\Gp b w' (.slice a' l' c') t/\G9 n0 pb db sb so E st O' w'/\(∀j,O' j->O0 j\/w.heap.size<=j)/\(∀j,F2 (.slice a' l' c') j->F2 v0 j\/w.heap.size<=j)/\(∀j,O' j->¬F2 (.slice a' l' c') j)/\Fr (fun j=>O0 j\/F2 v0 j) w w'
theorem Gk.post{w:World}{b m q r s pb i n so:Nat}{E:F3}{p:By}{k:Nat}{f:Int}{v:Value}{g:Nat->Prop}{o:Value}{st:Pl}{O:Nat->Prop}{a:OA}{l c:Nat}{t:By}{W:World}(h:Gk w b m q r s pb i n so E p k f v g o st O (.slice a l c) t W){e:Ending}(u:e = .returned (.slice a l c)):QA w b m pb i n so E g o st t e W:=
 ⟨a,l,c,O,u,h.rs,h.st,fun j d=>(h.hO j d).imp id (fun e=>by omega),fun j d=>(h.hv j d).imp id (fun e=>by omega),h.dis,h.fr⟩
theorem Zmp(w:World)(b F pb I P so:Nat)(E:F3)(st:Pl)(l:Nat->Prop)(ad:G9 F pb I P so E st l w)(c:OA)(h f:Nat)(s:By)(hs:Gp b w (.slice c h f) s)(aR:s.size<=1000000)(an:∀j,l j->¬F2 (.slice c h f) j)(ao:∀j,F2 (.slice c h f) j->F<=j)(T:b<=w.heap.size)(a p:By)(aO:a.size<=100000)(hp:p.size<=100000)(fn:Nat)(_hfn:fn<=100000)(vd:Value)(aI:∃x y z,vd = .slice x y z):
  Cl 236 #[.pointer (some ⟨pb,0,none⟩),.slice c h f,.string a,.agg #[.string p,.int .u8 1,.int .i64 (fn:Nat),vd]] w (QA w b F pb I P so E l (.slice c h f) st (s++Dx a p 1++Dp a p)):=by
 obtain⟨x,y,z,rfl⟩:=aI;obtain⟨W1,e1,x1,k1,s1,b1⟩:=De w [.pointer (some ⟨pb,0,none⟩)] 168;obtain⟨W2,e2,x2,k2,s2,b2⟩:=De W1 [.slice c h f] 59;obtain⟨B,e3,x3,k3,s3,b3⟩:=De W2 [.string p,.int .u8 1,.int .i64 (fn:Nat),.slice x y z] 141;have L:Bw w B:=b1.trans ((b2.mono (by omega)).trans (b3.mono (by omega)));have y1:=k3 _ _ _ (k2 _ _ _ x1);have y2:=k3 _ _ _ x2;have t2:W2.heap.size=w.heap.size+1+1:=by omega
 rw[s1]at y2;rw[t2]at x3;have am:∀j,l j->j<w.heap.size:=fun j R=>by obtain⟨cs,t,T⟩:=ad.cells R;exact(Ak.1 T).1
 have hB:Lk w b F w.heap.size (w.heap.size+1) (w.heap.size+1+1) l (.slice c h f):=⟨rfl,rfl,rfl,am,fun j R=>hs.1.lt R,ao,T,ad.2.2.1⟩;have al:Gk w b F w.heap.size (w.heap.size+1) (w.heap.size+1+1) pb I P so E p 1 (fn:Nat) (.slice x y z) l (.slice c h f) st l (.slice c h f) s B:=⟨ad.abides (row:=none) ⟨L.os,L.tape,L.output,L.size,fun k hk _=>L.block k hk⟩ (fun r e=>by cases e),fun j R => .inl R,y1,y2,x3,hs.below L,fun j R => .inl R,an,Fr.of_below L,by omega⟩;obtain⟨N,hN⟩:=ex (Jr a p);have aM:N<=p.size:=by rw[hN];exact(Up _ _).2
 obtain⟨W,aa⟩:∃M:Nat,M=(UInt8.ofNat N).toNat:=⟨_,rfl⟩;obtain⟨N2,ab⟩:∃M:Nat,M=(UInt8.ofNat (p.size-N)).toNat:=⟨_,rfl⟩;have af:((p.size:Int)-(N:Int))=((p.size-N:Nat):Int):=by omega
 have aS:IntKind.u8.wrap (N:Int)=(W:Int):=by rw[aa];exact J7 N
 have aU:IntKind.u8.wrap ((p.size:Int)-(N:Int))=(N2:Int):=by rw[ab,af];exact J7 _
 have aT:(N:Int)%256=(W:Int):=by rw[aa,B3];omega
 have aV:((p.size:Int)-(N:Int))%256=(N2:Int):=by rw[ab,af,B3];omega
 clear af;have av:=Db al;have Q:=Db hB;have HA:Hid (∀X,Bw B X->X.cell? ⟨(w.heap.size+1),0,none⟩=some (.slice c h f)/\X.cell? ⟨(w.heap.size+1+1),0,none⟩=some (.string p)/\X.cell? ⟨(w.heap.size+1+1),1,none⟩=some (.int .u8 1)/\∃Y d i g w1,X.alloc (.cells #[.int .u8 1,.int .u8 (W:Nat),.int .u8 (N2:Nat)] 5)=Y/\Y.cell? ⟨(w.heap.size+1),0,none⟩=some (.slice c h f)/\(Builtin.append_ #[59,59] 59 #[.slice c h f,.slice (some ⟨X.heap.size,0,none⟩) 3 3]).run Tryz.prog Y = .ok (.slice d i g) w1/\w1.cell? ⟨(w.heap.size+1),0,none⟩=some (.slice c h f)/\w1.frozen? ⟨(w.heap.size+1),0,none⟩=false/\∃Z,w1.setCell ⟨(w.heap.size+1),0,none⟩ (.slice d i g)=Z/\Hid (Gk w b F w.heap.size (w.heap.size+1) (w.heap.size+1+1) pb I P so E p 1 (fn:Nat) (.slice x y z) l (.slice c h f) st l (.slice d i g) (s++Dx a p 1) Z)):=fun X hX=>by
  have D:=(Da av).below hX;obtain⟨Y,eY,xY,kY,sY,bY⟩:=De X [.int .u8 1,.int .u8 (W:Nat),.int .u8 (N2:Nat)] 5;have v:=D.below bY;have ae:Dc (Dx a p 1)=[.int .u8 1,.int .u8 (W:Nat),.int .u8 (N2:Nat)]:=by
   rw[aa,ab,hN];rfl
  obtain⟨d,i,g,w1,U,r2,H,r4⟩:=J2 Y b (Ag T (Ag v.fr.size (Aa _))) _ _ v.rs ⟨X.heap.size,0,none⟩ 3 3 (Dx a p 1) rfl (fun j u hu=>by rw[AL,Av,xY.cell,<-ae];exact hu) (by omega);have O:Boxed w1 (w.heap.size+1) 59 (.slice c h f):=(H.block _ v.b5.lt (fun e=>by rcases v.hv _ e with q|q;(have:=(Da Q).ov _ q;omega);omega)).trans v.b5;exact⟨D.b5.cell,(D.b7.cell 0).trans rfl,(D.b7.cell 1).trans rfl,Y,d,i,g,w1,eY,v.b5.cell,U,O.cell,O.frozen,_,rfl,v.say (Da Q) r2 H r4⟩
 have HT:Hid (∀Z d i g,Gk w b F w.heap.size (w.heap.size+1) (w.heap.size+1+1) pb I P so E p 1 (fn:Nat) (.slice x y z) l (.slice c h f) st l (.slice d i g) (s++Dx a p 1) Z->Z.cell? ⟨(w.heap.size+1),0,none⟩=some (.slice d i g)/\Z.cell? ⟨(w.heap.size+1+1),0,none⟩=some (.string p)/\∃m A o w2,(Builtin.append_ #[59,9] 59 #[.slice d i g,.string (p.extract N p.size)]).run Tryz.prog Z.drew = .ok (.slice m A o) w2/\w2.cell? ⟨(w.heap.size+1),0,none⟩=some (.slice d i g)/\w2.cell? ⟨(w.heap.size+1+1),0,none⟩=some (.string p)/\w2.frozen? ⟨(w.heap.size+1),0,none⟩=false/\∃V,w2.setCell ⟨(w.heap.size+1),0,none⟩ (.slice m A o)=V/\V.cell? ⟨(w.heap.size+1),0,none⟩=some (.slice m A o)/\V.cell? ⟨(w.heap.size+1+1),0,none⟩=some (.string p)/\V.cell? ⟨(w.heap.size+1+1),1,none⟩=some (.int .u8 1)/\V.cell? ⟨(w.heap.size+1+1),2,none⟩=some (.int .i64 (fn:Nat))/\Hid (Gk w b F w.heap.size (w.heap.size+1) (w.heap.size+1+1) pb I P so E p 1 (fn:Nat) (.slice x y z) l (.slice c h f) st l (.slice m A o) (s++Dx a p 1++Dp a p) V)):=fun Z d i g D=>by
  have G:=D.below (Al _ _).drew;have aH:(s++Dx a p 1).size=s.size+3:=by rw[Ai];rfl
  have aP:(Dp a p).size<=p.size:=by unfold Dp;rw[Af];omega
  have aA:Dp a p=p.extract N p.size:=by unfold Dp;rw[hN]
  obtain⟨m,A,o,w2,U,r2,H,r4⟩:=UZ Z.drew b (Ag T G.fr.size) _ _ G.rs (Dp a p) (by omega);rw[aA]at U;have O:Boxed w2 (w.heap.size+1) 59 (.slice d i g):=(H.block _ G.b5.lt (fun e=>by rcases G.hv _ e with q|q;(have:=(Da Q).ov _ q;omega);omega)).trans G.b5;have q7:F0 w2 (w.heap.size+1+1) 141 _:=(H.block _ G.b7.lt (fun e=>by rcases G.hv _ e with q|q;(have:=(Da Q).ov _ q;omega);omega)).trans G.b7;have C:=G.say (Da Q) r2 H r4;exact⟨D.b5.cell,(D.b7.cell 0).trans rfl,m,A,o,w2,U,O.cell,(q7.cell 0).trans rfl,O.frozen,_,rfl,C.b5.cell,(C.b7.cell 0).trans rfl,(C.b7.cell 1).trans rfl,(C.b7.cell 2).trans rfl,C⟩
 obtain⟨N3,ac⟩:∃M:Nat,M=(UInt8.ofNat fn).toNat:=⟨_,rfl⟩;have aW:IntKind.u8.wrap (fn:Int)=(N3:Int):=by rw[ac];exact J7 fn
 have aX:(fn:Int)%256=(N3:Int):=by rw[ac,B3];omega
 have HC:Hid (∀Z d i g,Gk w b F w.heap.size (w.heap.size+1) (w.heap.size+1+1) pb I P so E p 1 (fn:Nat) (.slice x y z) l (.slice c h f) st l (.slice d i g) (s++Dx a p 1++Dp a p) Z->∃Y m A o w2,Z.alloc (.cells #[.int .u8 (N3:Nat)] 5)=Y/\(Builtin.append_ #[59,59] 59 #[.slice d i g,.slice (some ⟨Z.heap.size,0,none⟩) 1 1]).run Tryz.prog Y = .ok (.slice m A o) w2/\w2.cell? ⟨(w.heap.size+1),0,none⟩=some (.slice d i g)/\w2.frozen? ⟨(w.heap.size+1),0,none⟩=false/\∃V,w2.setCell ⟨(w.heap.size+1),0,none⟩ (.slice m A o)=V/\V.cell? ⟨(w.heap.size+1),0,none⟩=some (.slice m A o)/\V.cell? ⟨(w.heap.size+1+1),1,none⟩=some (.int .u8 1)/\V.cell? ⟨(w.heap.size+1+1),3,none⟩=some (.slice x y z)/\Hid (Gk w b F w.heap.size (w.heap.size+1) (w.heap.size+1+1) pb I P so E p 1 (fn:Nat) (.slice x y z) l (.slice c h f) st l (.slice m A o) (s++Dx a p 1++Dp a p++⟨#[UInt8.ofNat fn]⟩) V)):=fun Z d i g D=>by
  obtain⟨Y,eY,xY,kY,sY,bY⟩:=De Z [.int .u8 (N3:Nat)] 5;have v:=D.below bY;have ae:Dc ⟨#[UInt8.ofNat fn]⟩=[.int .u8 (N3:Nat)]:=by rw[ac];rfl
  have aH:(s++Dx a p 1++Dp a p).size<=s.size+3+p.size:=by
   rw[Ai,Ai];have q:(Dx a p 1).size=3:=rfl;have h2:(Dp a p).size<=p.size:=by unfold Dp;rw[Af];omega
   omega
  obtain⟨m,A,o,w2,U,r2,H,r4⟩:=J2 Y b (Ag T v.fr.size) _ _ v.rs ⟨Z.heap.size,0,none⟩ 1 1 ⟨#[UInt8.ofNat fn]⟩ rfl (fun j u hu=>by rw[AL,Av,xY.cell,<-ae];exact hu) (by omega);have O:Boxed w2 (w.heap.size+1) 59 (.slice d i g):=(H.block _ v.b5.lt (fun e=>by rcases v.hv _ e with q|q;(have:=(Da Q).ov _ q;omega);omega)).trans v.b5;have C:=v.say (Da Q) r2 H r4;exact⟨Y,m,A,o,w2,eY,U,O.cell,O.frozen,_,rfl,C.b5.cell,(C.b7.cell 1).trans rfl,(C.b7.cell 3).trans rfl,C⟩
 have ai:Hid (Cl 271 #[.string a,.string p] B fun e X=>e = .returned (.int .i64 (N:Nat))/\Hid (Bw B X)):=(Ox a p B (by omega) (by omega)).mono (fun e X ⟨q,_,h2⟩=>⟨by rw[q,hN],h2⟩);have aQ:IntKind.i64.wrap ((p.size:Int)-(N:Int))=(p.size:Int)-(N:Int):=by rw[AX];omega
 have aN:(N:Int)<=(p.size:Int):=by omega
 have aq:=Db e1;have ar:=Db e2;have au:=Db e3;have aj:=(x3.cell 0);have aG:B.cell? ⟨(w.heap.size+1+1),0,none⟩=some (.string p):=aj.trans rfl;clear hN aa ab ac aj e1 e2 e3 x1 x2 x3 k1 k2 k3 s1 s2 s3 b1 b2 b3 y1 y2 t2 am hB al ad hs an ao L;refine(Bj (n:=3)).1 ?_;refine BJ Tryz.func236 rfl AQ ?_ rfl;simp only[Tryz.ntmps236,AR,Aq,AS,Nat.reduceAdd,Nat.reduceSub,AV,AU,A3,AY,AA,AI]
 gi_step
 refine BG.2 (A1 ?_);go_wp2;rw[show w.alloc (.cells #[.pointer (some ⟨pb,0,none⟩)] 168)=W1 from Da aq,show W1.alloc (.cells #[.slice c h f] 59)=W2 from Da ar,show W2.alloc (.cells #[.string p,.int .u8 1,.int .i64 (fn:Nat),.slice x y z] 141)=B from Da au]
 gi_step
 refine BG.2 (A1 ?_);go_wp2_with (go_at_call 271;refine(Da ai).mono ?_;rintro e X ⟨rfl,HX⟩);obtain⟨aC,aD,aE,Y,d,i,g,w1,hY,aB,ag,aJ,aF,Z,hZ,ah⟩:=Da HA X (Da HX);rw[<-hY]at ag;have HZ:=Db hZ;clear hY hZ aB HA ai aG
 gi_step
 refine BG.2 (A1 ?_);go_wp2_with (at_builtin;refine AZ _ rfl _ _ 59 59 rfl _ _ rfl rfl _ _ ag ?_);rw[Da HZ];obtain⟨m5,m7,m,A,o,w2,ap,n5,n7,aK,V,hV,v5,aL,aY,aZ,aw⟩:=Da HT Z d i g (Da ah);have HV:=Db hV;clear hV ag aJ aF aC aD aE HZ HT ah
 gi_step
 refine EC Qf ?_;refine BG.2 ?_;refine AD (S:=fun X=>X.cell? ⟨(w.heap.size+1+1),0,none⟩=some (.string p)) (by kernel_rfl) m7 (fun ak=>?_);refine tk 1 ?_;try simp only[pE];refine tk 2 ?_;try simp only[pE];refine tk 3 ?_;try simp only[pE];refine tk 4 ?_;try simp only[pE];refine rk 0 (fun K J=>?_);go_simp;refine J.out _ _ ak (fun ax=>?_);clear J K
 (try simp only[pE])
 refine rk 5 (fun K J=>?_);refine JO rfl _ _ 59 9 rfl _ _ rfl rfl ap ?_;refine J.out _ _ n7 (fun ay=>?_);clear J K
 (try simp only[pE])
 refine rk 6 (fun K J=>?_);go_simp;rw[Da HV];refine J.out _ _ aL (fun az=>?_);clear J K
 (try simp only[pE])
 refine AW (by kernel_rfl) ?_ _;refine KY ?_;clear ax ay az ak ap n5 n7 aK m5 m7 HV
 gi_wp2
 exact⟨_,EF rfl _ _ _,(Da aw).post rfl⟩
theorem ZkB(w:World)(b F pb I P so:Nat)(E:F3)(st:Pl)(l:Nat->Prop)(ad:G9 F pb I P so E st l w)(c:OA)(h f:Nat)(s:By)(hs:Gp b w (.slice c h f) s)(aX:s.size<=1000000)(ar:∀j,l j->¬F2 (.slice c h f) j)(au:∀j,F2 (.slice c h f) j->F<=j)(T:b<=w.heap.size)(a p:By)(aU:a.size<=100000)(hp:p.size<=100000)(fn:Nat)(_hfn:fn<=100000)(vd:Value)(aN:∃x y z,vd = .slice x y z):
  Cl 236 #[.pointer (some ⟨pb,0,none⟩),.slice c h f,.string a,.agg #[.string p,.int .u8 3,.int .i64 (fn:Nat),vd]] w (QA w b F pb I P so E l (.slice c h f) st (s++Dx a p 3++Dp a p++⟨#[UInt8.ofNat fn]⟩)):=by
 obtain⟨x,y,z,rfl⟩:=aN;obtain⟨W1,e1,x1,k1,s1,b1⟩:=De w [.pointer (some ⟨pb,0,none⟩)] 168;obtain⟨W2,e2,x2,k2,s2,b2⟩:=De W1 [.slice c h f] 59;obtain⟨B,e3,x3,k3,s3,b3⟩:=De W2 [.string p,.int .u8 3,.int .i64 (fn:Nat),.slice x y z] 141;have L:Bw w B:=b1.trans ((b2.mono (by omega)).trans (b3.mono (by omega)));have y1:=k3 _ _ _ (k2 _ _ _ x1);have y2:=k3 _ _ _ x2;have t2:W2.heap.size=w.heap.size+1+1:=by omega
 rw[s1]at y2;rw[t2]at x3;have ap:∀j,l j->j<w.heap.size:=fun j R=>by obtain⟨cs,t,T⟩:=ad.cells R;exact(Ak.1 T).1
 have hB:Lk w b F w.heap.size (w.heap.size+1) (w.heap.size+1+1) l (.slice c h f):=⟨rfl,rfl,rfl,ap,fun j R=>hs.1.lt R,au,T,ad.2.2.1⟩;have ao:Gk w b F w.heap.size (w.heap.size+1) (w.heap.size+1+1) pb I P so E p 3 (fn:Nat) (.slice x y z) l (.slice c h f) st l (.slice c h f) s B:=⟨ad.abides (row:=none) ⟨L.os,L.tape,L.output,L.size,fun k hk _=>L.block k hk⟩ (fun r e=>by cases e),fun j R => .inl R,y1,y2,x3,hs.below L,fun j R => .inl R,ar,Fr.of_below L,by omega⟩;obtain⟨N,hN⟩:=ex (Jr a p);have aS:N<=p.size:=by rw[hN];exact(Up _ _).2
 obtain⟨N1,aa⟩:∃M:Nat,M=(UInt8.ofNat N).toNat:=⟨_,rfl⟩;obtain⟨N2,ab⟩:∃M:Nat,M=(UInt8.ofNat (p.size-N)).toNat:=⟨_,rfl⟩;have af:((p.size:Int)-(N:Int))=((p.size-N:Nat):Int):=by omega
 have aY:IntKind.u8.wrap (N:Int)=(N1:Int):=by rw[aa];exact J7 N
 have a4:IntKind.u8.wrap ((p.size:Int)-(N:Int))=(N2:Int):=by rw[ab,af];exact J7 _
 have aZ:(N:Int)%256=(N1:Int):=by rw[aa,B3];omega
 have a5:((p.size:Int)-(N:Int))%256=(N2:Int):=by rw[ab,af,B3];omega
 clear af;have aA:=Db ao;have Q:=Db hB;have HA:Hid (∀X,Bw B X->X.cell? ⟨(w.heap.size+1),0,none⟩=some (.slice c h f)/\X.cell? ⟨(w.heap.size+1+1),0,none⟩=some (.string p)/\X.cell? ⟨(w.heap.size+1+1),1,none⟩=some (.int .u8 3)/\∃Y d i g w1,X.alloc (.cells #[.int .u8 3,.int .u8 (N1:Nat),.int .u8 (N2:Nat)] 5)=Y/\Y.cell? ⟨(w.heap.size+1),0,none⟩=some (.slice c h f)/\(Builtin.append_ #[59,59] 59 #[.slice c h f,.slice (some ⟨X.heap.size,0,none⟩) 3 3]).run Tryz.prog Y = .ok (.slice d i g) w1/\w1.cell? ⟨(w.heap.size+1),0,none⟩=some (.slice c h f)/\w1.frozen? ⟨(w.heap.size+1),0,none⟩=false/\∃Z,w1.setCell ⟨(w.heap.size+1),0,none⟩ (.slice d i g)=Z/\Hid (Gk w b F w.heap.size (w.heap.size+1) (w.heap.size+1+1) pb I P so E p 3 (fn:Nat) (.slice x y z) l (.slice c h f) st l (.slice d i g) (s++Dx a p 3) Z)):=fun X hX=>by
  have D:=(Da aA).below hX;obtain⟨Y,eY,xY,kY,sY,bY⟩:=De X [.int .u8 3,.int .u8 (N1:Nat),.int .u8 (N2:Nat)] 5;have A:=D.below bY;have ae:Dc (Dx a p 3)=[.int .u8 3,.int .u8 (N1:Nat),.int .u8 (N2:Nat)]:=by
   rw[aa,ab,hN];rfl
  obtain⟨d,i,g,w1,W,r2,H,r4⟩:=J2 Y b (Ag T (Ag A.fr.size (Aa _))) _ _ A.rs ⟨X.heap.size,0,none⟩ 3 3 (Dx a p 3) rfl (fun j u hu=>by rw[AL,Av,xY.cell,<-ae];exact hu) (by omega);have O:Boxed w1 (w.heap.size+1) 59 (.slice c h f):=(H.block _ A.b5.lt (fun e=>by rcases A.hv _ e with v|v;(have:=(Da Q).ov _ v;omega);omega)).trans A.b5;exact⟨D.b5.cell,(D.b7.cell 0).trans rfl,(D.b7.cell 1).trans rfl,Y,d,i,g,w1,eY,A.b5.cell,W,O.cell,O.frozen,_,rfl,A.say (Da Q) r2 H r4⟩
 have HT:Hid (∀Z d i g,Gk w b F w.heap.size (w.heap.size+1) (w.heap.size+1+1) pb I P so E p 3 (fn:Nat) (.slice x y z) l (.slice c h f) st l (.slice d i g) (s++Dx a p 3) Z->Z.cell? ⟨(w.heap.size+1),0,none⟩=some (.slice d i g)/\Z.cell? ⟨(w.heap.size+1+1),0,none⟩=some (.string p)/\∃m q o w2,(Builtin.append_ #[59,9] 59 #[.slice d i g,.string (p.extract N p.size)]).run Tryz.prog Z.drew = .ok (.slice m q o) w2/\w2.cell? ⟨(w.heap.size+1),0,none⟩=some (.slice d i g)/\w2.cell? ⟨(w.heap.size+1+1),0,none⟩=some (.string p)/\w2.frozen? ⟨(w.heap.size+1),0,none⟩=false/\∃V,w2.setCell ⟨(w.heap.size+1),0,none⟩ (.slice m q o)=V/\V.cell? ⟨(w.heap.size+1),0,none⟩=some (.slice m q o)/\V.cell? ⟨(w.heap.size+1+1),0,none⟩=some (.string p)/\V.cell? ⟨(w.heap.size+1+1),1,none⟩=some (.int .u8 3)/\V.cell? ⟨(w.heap.size+1+1),2,none⟩=some (.int .i64 (fn:Nat))/\Hid (Gk w b F w.heap.size (w.heap.size+1) (w.heap.size+1+1) pb I P so E p 3 (fn:Nat) (.slice x y z) l (.slice c h f) st l (.slice m q o) (s++Dx a p 3++Dp a p) V)):=fun Z d i g D=>by
  have G:=D.below (Al _ _).drew;have aM:(s++Dx a p 3).size=s.size+3:=by rw[Ai];rfl
  have aV:(Dp a p).size<=p.size:=by unfold Dp;rw[Af];omega
  have aF:Dp a p=p.extract N p.size:=by unfold Dp;rw[hN]
  obtain⟨m,q,o,w2,W,r2,H,r4⟩:=UZ Z.drew b (Ag T G.fr.size) _ _ G.rs (Dp a p) (by omega);rw[aF]at W;have O:Boxed w2 (w.heap.size+1) 59 (.slice d i g):=(H.block _ G.b5.lt (fun e=>by rcases G.hv _ e with v|v;(have:=(Da Q).ov _ v;omega);omega)).trans G.b5;have q7:F0 w2 (w.heap.size+1+1) 141 _:=(H.block _ G.b7.lt (fun e=>by rcases G.hv _ e with v|v;(have:=(Da Q).ov _ v;omega);omega)).trans G.b7;have C:=G.say (Da Q) r2 H r4;exact⟨D.b5.cell,(D.b7.cell 0).trans rfl,m,q,o,w2,W,O.cell,(q7.cell 0).trans rfl,O.frozen,_,rfl,C.b5.cell,(C.b7.cell 0).trans rfl,(C.b7.cell 1).trans rfl,(C.b7.cell 2).trans rfl,C⟩
 obtain⟨N3,ac⟩:∃M:Nat,M=(UInt8.ofNat fn).toNat:=⟨_,rfl⟩;have a6:IntKind.u8.wrap (fn:Int)=(N3:Int):=by rw[ac];exact J7 fn
 have a7:(fn:Int)%256=(N3:Int):=by rw[ac,B3];omega
 have HC:Hid (∀Z d i g,Gk w b F w.heap.size (w.heap.size+1) (w.heap.size+1+1) pb I P so E p 3 (fn:Nat) (.slice x y z) l (.slice c h f) st l (.slice d i g) (s++Dx a p 3++Dp a p) Z->∃Y m q o w2,Z.alloc (.cells #[.int .u8 (N3:Nat)] 5)=Y/\(Builtin.append_ #[59,59] 59 #[.slice d i g,.slice (some ⟨Z.heap.size,0,none⟩) 1 1]).run Tryz.prog Y = .ok (.slice m q o) w2/\w2.cell? ⟨(w.heap.size+1),0,none⟩=some (.slice d i g)/\w2.frozen? ⟨(w.heap.size+1),0,none⟩=false/\∃V,w2.setCell ⟨(w.heap.size+1),0,none⟩ (.slice m q o)=V/\V.cell? ⟨(w.heap.size+1),0,none⟩=some (.slice m q o)/\V.cell? ⟨(w.heap.size+1+1),1,none⟩=some (.int .u8 3)/\V.cell? ⟨(w.heap.size+1+1),3,none⟩=some (.slice x y z)/\Hid (Gk w b F w.heap.size (w.heap.size+1) (w.heap.size+1+1) pb I P so E p 3 (fn:Nat) (.slice x y z) l (.slice c h f) st l (.slice m q o) (s++Dx a p 3++Dp a p++⟨#[UInt8.ofNat fn]⟩) V)):=fun Z d i g D=>by
  obtain⟨Y,eY,xY,kY,sY,bY⟩:=De Z [.int .u8 (N3:Nat)] 5;have A:=D.below bY;have ae:Dc ⟨#[UInt8.ofNat fn]⟩=[.int .u8 (N3:Nat)]:=by rw[ac];rfl
  have aM:(s++Dx a p 3++Dp a p).size<=s.size+3+p.size:=by
   rw[Ai,Ai];have v:(Dx a p 3).size=3:=rfl;have h2:(Dp a p).size<=p.size:=by unfold Dp;rw[Af];omega
   omega
  obtain⟨m,q,o,w2,W,r2,H,r4⟩:=J2 Y b (Ag T A.fr.size) _ _ A.rs ⟨Z.heap.size,0,none⟩ 1 1 ⟨#[UInt8.ofNat fn]⟩ rfl (fun j u hu=>by rw[AL,Av,xY.cell,<-ae];exact hu) (by omega);have O:Boxed w2 (w.heap.size+1) 59 (.slice d i g):=(H.block _ A.b5.lt (fun e=>by rcases A.hv _ e with v|v;(have:=(Da Q).ov _ v;omega);omega)).trans A.b5;have C:=A.say (Da Q) r2 H r4;exact⟨Y,m,q,o,w2,eY,W,O.cell,O.frozen,_,rfl,C.b5.cell,(C.b7.cell 1).trans rfl,(C.b7.cell 3).trans rfl,C⟩
 have al:Hid (Cl 271 #[.string a,.string p] B fun e X=>e = .returned (.int .i64 (N:Nat))/\Hid (Bw B X)):=(Ox a p B (by omega) (by omega)).mono (fun e X ⟨v,_,h2⟩=>⟨by rw[v,hN],h2⟩);have aW:IntKind.i64.wrap ((p.size:Int)-(N:Int))=(p.size:Int)-(N:Int):=by rw[AX];omega
 have aT:(N:Int)<=(p.size:Int):=by omega
 have ax:=Db e1;have ay:=Db e2;have az:=Db e3;have am:=(x3.cell 0);have aL:B.cell? ⟨(w.heap.size+1+1),0,none⟩=some (.string p):=am.trans rfl;clear hN aa ab ac am e1 e2 e3 x1 x2 x3 k1 k2 k3 s1 s2 s3 b1 b2 b3 y1 y2 t2 ap hB ao ad hs ar au L;refine(Bj (n:=3)).1 ?_;refine BJ Tryz.func236 rfl AQ ?_ rfl;simp only[Tryz.ntmps236,AR,Aq,AS,Nat.reduceAdd,Nat.reduceSub,AV,AU,A3,AY,AA,AI]
 gi_step
 refine BG.2 (A1 ?_);go_wp2;rw[show w.alloc (.cells #[.pointer (some ⟨pb,0,none⟩)] 168)=W1 from Da ax,show W1.alloc (.cells #[.slice c h f] 59)=W2 from Da ay,show W2.alloc (.cells #[.string p,.int .u8 3,.int .i64 (fn:Nat),.slice x y z] 141)=B from Da az]
 gi_step
 refine BG.2 (A1 ?_);go_wp2_with (go_at_call 271;refine(Da al).mono ?_;rintro e X ⟨rfl,HX⟩);obtain⟨aH,aI,aJ,Y,d,i,g,w1,hY,aG,ag,ai,aK,Z,hZ,aj⟩:=Da HA X (Da HX);rw[<-hY]at ag;have HZ:=Db hZ;clear hY hZ aG HA al aL
 gi_step
 refine BG.2 (A1 ?_);go_wp2_with (at_builtin;refine AZ _ rfl _ _ 59 59 rfl _ _ rfl rfl _ _ ag ?_);rw[Da HZ];obtain⟨m5,m7,m,q,o,w2,av,n5,n7,aP,V,hV,v5,aw,aQ,aR,ak⟩:=Da HT Z d i g (Da aj);have HV:=Db hV;clear hV ag ai aK aH aI aJ HZ HT aj
 gi_step
 refine EC Qf ?_;refine BG.2 ?_;refine AD (S:=fun X=>X.cell? ⟨(w.heap.size+1+1),0,none⟩=some (.string p)) (by kernel_rfl) m7 (fun an=>?_);refine tk 1 ?_;try simp only[pE];refine tk 2 ?_;try simp only[pE];refine tk 3 ?_;try simp only[pE];refine tk 4 ?_;try simp only[pE];refine rk 0 (fun K J=>?_);go_simp;refine J.out _ _ an (fun aC=>?_);clear J K
 (try simp only[pE])
 refine rk 5 (fun K J=>?_);refine JO rfl _ _ 59 9 rfl _ _ rfl rfl av ?_;refine J.out _ _ n7 (fun aD=>?_);clear J K
 (try simp only[pE])
 refine rk 6 (fun K J=>?_);go_simp;rw[Da HV];refine J.out _ _ aw (fun aE=>?_);clear J K
 (try simp only[pE])
 refine AW (by kernel_rfl) ?_ _;refine KY ?_;clear aC aD aE an av n5 n7 aP m5 m7 HV;obtain⟨Y3,a3,l3,c3,w3,aq,ah,ai,aO,U,hU,u5,a8,a9,aB⟩:=Da HC V m q o (Da ak);rw[<-aq]at ah;have HU:=Db hU;clear aq hU HC
 gi_step
 gi_step
 gi_step
 gi_step
 refine BG.2 (A1 ?_);go_wp2
 gi_step
 gi_step
 gi_step
 gi_step
 gi_step
 refine BG.2 (A1 ?_);go_wp2_with (at_builtin;refine AZ _ rfl _ _ 59 59 rfl _ _ rfl rfl _ _ ah ?_);rw[Da HU];clear ah ai aO HU v5 aw aQ aR ak
 gi_wp2
 exact⟨_,EF rfl _ _ _,(Da aB).post rfl⟩
end
open Go.RowKit Go.Shelf
def Gl(d:By)(x:Nat):By:=Dg (IJ d 64 x) 64
theorem Us(d:By)(x:Nat):(Gl d x).size=64:=Jc _ _
theorem spl_dt(c:By)(hc:c.size<=64):F8 (Dc (Di 64)) 0 (Dc c)=Dc (Dg c 64):=by
 have a:Dc (Di 64)=List.replicate 64 (.int .u8 0):=QS 64;unfold F8 Dg;by_cases h:64<=c.size
 ·rw[if_pos h,Jt];have e:c.size=64:=by omega
  rw[Cr (by rw[a,Bk,Dh];omega),BY,Ah (l:=Dc c) (by rw[Dh];omega)];simp
 ·rw[if_neg h,JE,a,Ct,AA,Dh,Av,CL]
  congr 1
  simp[Dc]
def JM(E:F3)(fn:Nat)(d:By)(st:Pl):Nat->List Nat->By
 | _,[]=>⟨#[]⟩
 | i,x::xs=>DI (E.put st (Dd 4 fn i) (Gl d x)).1 (Dl (Gl d x))++JM E fn d (E.put st (Dd 4 fn i) (Gl d x)).2 (i+1) xs
theorem JF(a b c:By):a++b++c=a++(b++c):=by apply A7;simp
theorem Uh(a:By):(⟨#[]⟩:By)++a=a:=by apply A7;simp
theorem Wc(E:F3)(fn:Nat)(d:By):∀(st:Pl) (i:Nat) (xs:List Nat) (x:Nat),JM E fn d st i (xs++[x])=JM E fn d st i xs++DI (E.put (E.puts (Dd 4 fn) (Gl d) st i xs) (Dd 4 fn (i+xs.length)) (Gl d x)).1 (Dl (Gl d x))
 | st,i,[],x=>by
  show DI _ _++⟨#[]⟩=⟨#[]⟩++DI _ _;rw[KC,Uh];rfl
 | st,i,y::xs,x=>by
  show DI _ _++JM E fn d _ (i+1) (xs++[x])=DI _ _++JM E fn d _ (i+1) xs++_;rw[Wc E fn d _ (i+1) xs x,JF,Aq,show i+1+xs.length=i+(xs.length+1) by omega]
  rfl
theorem Rr(E:F3)(fn:Nat)(d:By):∀(st:Pl) (i:Nat) (xs:List Nat),(JM E fn d st i xs).size=10*xs.length
 | st,i,[]=>rfl
 | st,i,x::xs=>by
  show(DI _ _++JM E fn d _ (i+1) xs).size=_;rw[Ai,K5,Rr E fn d _ (i+1) xs,Aq];omega
structure Ms(w9:World)(b n0 n1 B4 B5 B7 Bt g:Nat)(O9:Nat->Prop)(v9:Value):Prop where
 et:Bt=w9.heap.size
 en:n1=w9.heap.size+3
 l4:B4<w9.heap.size
 l5:B5<w9.heap.size
 l7:B7<w9.heap.size
 n45:B4≠B5
 n57:B5≠B7
 o9:∀j,O9 j->j<w9.heap.size/\j≠B4/\j≠B5/\j≠B7
 ov:∀j,F2 v9 j->j<w9.heap.size/\j≠B4/\j≠B5/\j≠B7
 nv:∀j,F2 v9 j->n0<=j
 n5:n0<=B5
 nb:b<=w9.heap.size
 n0w:n0<=w9.heap.size
 gl:g<w9.heap.size
 gO:¬O9 g
 gv:¬F2 v9 g
 g5:g≠B5
structure GY(w9:World)(b n0 n1 B4 B5 B7 Bt pb db sb so:Nat)(E:F3)(p:By)(fn g off len cap:Nat)(d:By)(O9:Nat->Prop)(v9:Value)(st9:Pl)(t9:By)(pre pre':List Nat)(v:Value)(O:Nat->Prop)(W:World):Prop where
 st:G9 n0 pb db sb so E (E.puts (Dd 4 fn) (Gl d) st9 0 pre') O W
 hO:∀j,O j->O9 j\/n1<=j
 b4:Boxed W B4 168 (.pointer (some ⟨pb,0,none⟩))
 b5:Boxed W B5 59 v
 b7:F0 W B7 141 [.string p,.int .u8 2,.int .i64 (fn:Nat),.slice (some ⟨g,off,none⟩) len cap]
 bt:Boxed W Bt 3 (.int .i64 (pre.length:Nat))
 rs:Gp b W v (t9++JM E fn d st9 0 pre)
 hv:∀j,F2 v j->F2 v9 j\/n1<=j
 dis:∀j,O j->¬F2 v j
 rd:Gy W (some ⟨g,off,none⟩) len cap d
 fr:Fr (fun j=>O9 j\/F2 v9 j\/j=B5) w9 W
 sz:n1<=W.heap.size
section
variable{w9:World}{b n0 n1 B4 B5 B7 Bt pb db sb so:Nat}{E:F3}{p:By}{fn g off len cap:Nat}{d:By}{O9:Nat->Prop}{v9:Value}{st9:Pl}{t9:By}{pre pre':List Nat}{v:Value}{O:Nat->Prop}{W W':World}
theorem GY.below(h:GY w9 b n0 n1 B4 B5 B7 Bt pb db sb so E p fn g off len cap d O9 v9 st9 t9 pre pre' v O W)(a:Bw W W'):GY w9 b n0 n1 B4 B5 B7 Bt pb db sb so E p fn g off len cap d O9 v9 st9 t9 pre pre' v O W':=
 ⟨h.st.abides (row:=none) ⟨a.os,a.tape,a.output,a.size,fun k c _=>a.block k c⟩ (fun r e=>by cases e),h.hO,(a.block _ h.b4.lt).trans h.b4,(a.block _ h.b5.lt).trans h.b5,(a.block _ h.b7.lt).trans h.b7,(a.block _ h.bt.lt).trans h.bt,h.rs.below a,h.hv,h.dis,h.rd.below a,h.fr.then (Fr.of_below a (X:=fun _=>False)) (fun _ _ e=>e.elim),Ag h.sz a.size⟩
theorem GY.nO(c:Ms w9 b n0 n1 B4 B5 B7 Bt g O9 v9)(h:GY w9 b n0 n1 B4 B5 B7 Bt pb db sb so E p fn g off len cap d O9 v9 st9 t9 pre pre' v O W):¬O B4/\¬O B5/\¬O B7/\¬O Bt/\¬O g:=by
 have l4:=c.l4;have l5:=c.l5;have l7:=c.l7;have et:=c.et;have en:=c.en;have gl:=c.gl;refine⟨fun e=>?_,fun e=>?_,fun e=>?_,fun e=>?_,fun e=>?_⟩
 ·rcases h.hO _ e with a|a
  ·exact(c.o9 _ a).2.1 rfl
  ·omega
 ·rcases h.hO _ e with a|a
  ·exact(c.o9 _ a).2.2.1 rfl
  ·omega
 ·rcases h.hO _ e with a|a
  ·exact(c.o9 _ a).2.2.2 rfl
  ·omega
 ·rcases h.hO _ e with a|a
  ·have:=(c.o9 _ a).1;omega
  ·omega
 ·rcases h.hO _ e with a|a
  ·exact c.gO a
  ·omega
theorem Pf(c:Ms w9 b n0 n1 B4 B5 B7 Bt g O9 v9)(f:∀j,F2 v j->F2 v9 j\/n1<=j):¬F2 v B4/\¬F2 v B5/\¬F2 v B7/\¬F2 v Bt/\¬F2 v g:=by
 have l4:=c.l4;have l5:=c.l5;have l7:=c.l7;have et:=c.et;have en:=c.en;have gl:=c.gl;refine⟨fun e=>?_,fun e=>?_,fun e=>?_,fun e=>?_,fun e=>?_⟩
 ·rcases f _ e with a|a
  ·exact(c.ov _ a).2.1 rfl
  ·omega
 ·rcases f _ e with a|a
  ·exact(c.ov _ a).2.2.1 rfl
  ·omega
 ·rcases f _ e with a|a
  ·exact(c.ov _ a).2.2.2 rfl
  ·omega
 ·rcases f _ e with a|a
  ·have:=(c.ov _ a).1;omega
  ·omega
 ·rcases f _ e with a|a
  ·exact c.gv a
  ·omega
theorem GY.put(f:Ms w9 b n0 n1 B4 B5 B7 Bt g O9 v9)(h:GY w9 b n0 n1 B4 B5 B7 Bt pb db sb so E p fn g off len cap d O9 v9 st9 t9 pre pre' v O W){m:List Nat}{O':Nat->Prop}(o:G9 n0 pb db sb so E (E.puts (Dd 4 fn) (Gl d) st9 0 m) O' W')(a:Fr O W W')(i:∀j,O' j->O j\/W.heap.size<=j):GY w9 b n0 n1 B4 B5 B7 Bt pb db sb so E p fn g off len cap d O9 v9 st9 t9 pre m v O' W':=by
 obtain⟨q,r,s,t,qg⟩:=h.nO f;have aa:=h.sz;have en:=f.en;refine⟨o,fun j c=>(i j c).elim (h.hO j) (fun e => .inr (by omega)),(a.block _ h.b4.lt q).trans h.b4,(a.block _ h.b5.lt r).trans h.b5,(a.block _ h.b7.lt s).trans h.b7,(a.block _ h.bt.lt t).trans h.bt,⟨h.rs.1.fr a (fun k n ho=>h.dis k ho n),h.rs.2⟩,h.hv,fun j c l=>(i j c).elim (fun e=>h.dis j e l) (fun e=>by have:=h.rs.1.lt l;omega),h.rd.fr a (fun x e _ ho=>by cases e;exact qg ho),h.fr.then a (fun j c e=>(h.hO j e).elim .inl (fun e=>by omega)),Ag h.sz a.size⟩
theorem GY.done(c:Ms w9 b n0 n1 B4 B5 B7 Bt g O9 v9){n:List Nat}(h:GY w9 b n0 n1 B4 B5 B7 Bt pb db sb so E p fn g off len cap d O9 v9 st9 t9 pre n v O W)(y:n.length=pre.length+1){i:Value}(q:Gp b W' i (t9++JM E fn d st9 0 n))(m:Fr (F2 v) W W')(r:Dm W v i):GY w9 b n0 n1 B4 B5 B7 Bt pb db sb so E p fn g off len cap d O9 v9 st9 t9 n n i O ((W'.setCell ⟨B5,0,none⟩ i).setCell ⟨Bt,0,none⟩ (.int .i64 ((pre.length:Int)+1))):=by
 obtain⟨q4,H,q7,I,qg⟩:=h.nO c;obtain⟨J,K,L,N,M⟩:=Pf c h.hv;have aa:=h.sz;have en:=c.en;have et:=c.et;have l4:=c.l4;have l5:=c.l5;have l7:=c.l7;have G:=c.n5;have ab:=c.n0w;have F:=c.n45;have ac:=c.n57;have u:∀j,F2 i j->F2 v9 j\/n1<=j:=fun j f=>(r j f).elim (h.hv j) (fun e => .inr (by omega))
 obtain⟨s4,P,s7,Q,sg⟩:=Pf c u;have A:Boxed W' B4 168 _:=(m.block _ h.b4.lt J).trans h.b4;have B:Boxed W' B5 59 _:=(m.block _ h.b5.lt K).trans h.b5;have C:F0 W' B7 141 _:=(m.block _ h.b7.lt L).trans h.b7;have D:Boxed W' Bt 3 _:=(m.block _ h.bt.lt N).trans h.bt;have o:Fr (fun j=>F2 v j\/j=B5\/j=Bt) W ((W'.setCell ⟨B5,0,none⟩ i).setCell ⟨Bt,0,none⟩ (.int .i64 ((pre.length:Int)+1))):=
  (Fr.set (X:=fun j=>F2 v j\/j=B5\/j=Bt) (Fr.then (Fr.refl _ W) m (fun _ _ e => .inl e)) ⟨B5,0,none⟩ _ (.inr (.inl rfl))).set ⟨Bt,0,none⟩ _ (.inr (.inr rfl))
 have s:B5≠Bt:=by omega
 refine⟨h.st.keeps o (fun j f=>?_),h.hO,(A.other F _).other (by omega) _,(B.set _).other s _,?_,?_,⟨(q.1.setCell ⟨B5,0,none⟩ _ P).setCell ⟨Bt,0,none⟩ _ Q,q.2⟩,u,fun j f z=>?_,h.rd.fr o (fun x e _ l=>?_),h.fr.then o (fun k hk l=>?_),Ag h.sz o.size⟩
 ·rcases f with a|a|a
  ·exact⟨fun l=>h.dis j l a,(h.hv j a).elim (c.nv j) (fun e=>by omega)⟩
  ·subst a;exact⟨H,G⟩
  ·subst a;exact⟨I,by omega⟩
 ·exact(AB _ _ _ _ (show B7≠Bt by omega)).trans ((AB _ _ _ _ (show B7≠B5 by omega)).trans C)
 ·rw[y];exact(D.other (fun e=>s e.symm) _).set _
 ·rcases r j z with a|a
  ·exact h.dis j f a
  ·obtain⟨cs,t,w⟩:=h.st.cells f;have:=(Ak.1 w).1;omega
 ·cases e
  rcases l with a|a|a
  ·exact M a
  ·exact c.g5 a
  ·have:=c.gl;simp only at a;omega
 ·rcases l with a|a|a
  ·exact(h.hv k a).elim (fun e => .inr (.inl e)) (fun e=>by omega)
  ·exact .inr (.inr a)
  ·omega
theorem GY.own(w:Ms w9 b n0 n1 B4 B5 B7 Bt g O9 v9)(h:GY w9 b n0 n1 B4 B5 B7 Bt pb db sb so E p fn g off len cap d O9 v9 st9 t9 pre pre' v O W){row:Option Nat}(a:W.grownBy W' row)(m:∀r,row=some r->n1<=r/\∃o:Obj,W.heap[r]?=some o/\o.isCells=false):GY w9 b n0 n1 B4 B5 B7 Bt pb db sb so E p fn g off len cap d O9 v9 st9 t9 pre pre' v O W':=by
 have ne:∀(j:Nat) (c:Array Value) (t:TypeId) (z:Nat×Nat),W.heap[j]?=some (Obj.cells c t z)->some j≠row:=fun j c t z f e=>by
  obtain⟨o,u,D⟩:=(m j e.symm).2;rw[f]at u;cases u;cases D
 have i:∀(j:Nat) (c:Array Value) (t:TypeId) (z:Nat×Nat),W.heap[j]?=some (Obj.cells c t z)->W'.heap[j]?=some (Obj.cells c t z):=fun j c t z f=>(a.block j (Ak.1 f).1 (ne j c t z f)).trans f
 have gl:=w.gl;have en:=w.en;refine⟨h.st.abides a (fun r e=>(m r e).2),h.hO,i _ _ _ _ h.b4,i _ _ _ _ h.b5,i _ _ _ _ h.b7,i _ _ _ _ h.bt,⟨?_,h.rs.2⟩,h.hv,h.dis,?_,?_,Ag h.sz a.size⟩
 ·rcases h.rs.1.2 with⟨e,C⟩|⟨B,A,y,e,F,q⟩
  ·exact⟨h.rs.1.1,.inl ⟨e,C⟩⟩
  ·exact⟨h.rs.1.1,.inr ⟨B,A,y,e,i _ _ _ _ F,q⟩⟩
 ·exact h.rd.fr (P:=fun j=>row=some j) ⟨a.os,a.tape,a.output,a.size,fun k l n=>a.block k l (fun e=>n e.symm)⟩ (fun x e _ s=>by cases e;have:=(m _ s).1;simp only at this;omega)
 ·exact h.fr.then (Y:=fun j=>row=some j) ⟨a.os,a.tape,a.output,a.size,fun k l n=>a.block k l (fun e=>n e.symm)⟩ (fun k l s=>by have:=(m _ s).1;omega)
end
section
attribute [local go_sem] Oper.semAt_some
def KJ(B4 B7 Bt pb fn t Bb:Nat)(L:F6)(V:World):Prop:=V.cell? ⟨B4,0,none⟩=some (.pointer (some ⟨pb,0,none⟩))/\V.cell? ⟨B7,2,none⟩=some (.int .i64 (fn:Nat))/\V.cell? ⟨Bt,0,none⟩=some (.int .i64 (t:Nat))/\V.rangeAt Bb 0 L
def LG(w9:World)(b n0 n1 B4 B5 B7 Bt pb db sb so:Nat)(E:F3)(p:By)(fn g off len cap:Nat)(d:By)(O9:Nat->Prop)(v9:Value)(st9:Pl)(t9:By)(pre pre':List Nat)(v:Value)(O0 O:Nat->Prop)(x:Nat)(W V:World):Prop:=
 GY w9 b n0 n1 B4 B5 B7 Bt pb db sb so E p fn g off len cap d O9 v9 st9 t9 pre pre' v O V/\Fr (fun j=>O0 j\/F2 v j\/j=B5\/j=Bt) W V/\F0 V W.heap.size 188 (Dc (Gl d x))/\(∀j,O0 j->j<W.heap.size)/\∀j,O j->j≠W.heap.size
def Nu(w9:World)(b n0 n1 B4 B5 B7 Bt pb db sb so:Nat)(E:F3)(p:By)(fn g off len cap:Nat)(d:By)(O9:Nat->Prop)(v9:Value)(st9:Pl)(t9:By)(pre:List Nat)(W:World):Prop:=
 ∃v O,GY w9 b n0 n1 B4 B5 B7 Bt pb db sb so E p fn g off len cap d O9 v9 st9 t9 pre pre v O W
theorem Zkz(L:World)(M:Nat)(hM:M<=1000)(b K H z c q l pb P sb so:Nat)(E:F3)(hE:Gv E)(hj:∃j,j<96/\E.nd j<=0)(p:By)(fn g off Z N:Nat)(ak:fn<65536)(d:By)(G:Nat->Prop)(J:Value)(m:Pl)(I:By)(av:I.size<=900000)
  (u:Ms L b K H z c q l g G J) (h1:m.puts.length+M<=10000) (h2:m.ps.length+M<=1000000) (h3:m.hd<=1536) (al:∀y∈m.puts,∀i,i<M->y.1≠Dd 4 fn i)
  (a:List Nat) (x:Nat) (an:a.length<M) (W:World) (B:OA) (D C:Nat) (O:Nat->Prop) (h:GY L b K H z c q l pb P sb so E p fn g off Z N d G J m I a a (.slice B D C) O W):
  (∀V,Cl 244 #[.int .u8 4,.int .i64 (fn:Nat),.int .i64 (a.length:Nat)] V fun e w'=>e = .returned (.int .u64 (Dd 4 fn a.length:Nat))/\w'=V)/\
  (∀V,LG L b K H z c q l pb P sb so E p fn g off Z N d G J m I a a (.slice B D C) O O x W V->Cl 272 #[.pointer (some ⟨pb,0,none⟩),.int .u64 (Dd 4 fn a.length:Nat),DB (Gl d x)] V fun e f=>e = .returned (.agg #[.int .i64 ((E.put (E.puts (Dd 4 fn) (Gl d) m 0 a) (Dd 4 fn a.length) (Gl d x)).1:Nat),.int .u64 (Dl (Gl d x):Nat)])/\KJ z q l pb fn a.length W.heap.size (Dc (Gl d x)) f/\f.cell? ⟨c,0,none⟩=some (.slice B D C)/\Hid (∃O',LG L b K H z c q l pb P sb so E p fn g off Z N d G J m I a (a++[x]) (.slice B D C) O O' x W f))/\
  (∀V,(∃O',LG L b K H z c q l pb P sb so E p fn g off Z N d G J m I a (a++[x]) (.slice B D C) O O' x W V)->Cl 214 #[.agg #[.int .i64 ((E.put (E.puts (Dd 4 fn) (Gl d) m 0 a) (Dd 4 fn a.length) (Gl d x)).1:Nat),.int .u64 (Dl (Gl d x):Nat)],.slice B D C] V fun e f=>∃r w s,e = .returned (.slice r w s)/\KJ z q l pb fn a.length W.heap.size (Dc (Gl d x)) f/\KJ z q l pb fn a.length W.heap.size (Dc (Gl d x)) (f.setCell ⟨c,0,none⟩ (.slice r w s))/\f.cell? ⟨c,0,none⟩=some (.slice B D C)/\f.frozen? ⟨c,0,none⟩=false/\(f.setCell ⟨c,0,none⟩ (.slice r w s)).frozen? ⟨l,0,none⟩=false/\
   Hid (KeepsOthers W ((f.setCell ⟨c,0,none⟩ (.slice r w s)).setCell ⟨l,0,none⟩ (.int .i64 ((a.length:Int)+1)))/\Q0 H c l (fun j=>G j\/F2 J j) W ((f.setCell ⟨c,0,none⟩ (.slice r w s)).setCell ⟨l,0,none⟩ (.int .i64 ((a.length:Int)+1)))/\Nu L b K H z c q l pb P sb so E p fn g off Z N d G J m I (a++[x]) ((f.setCell ⟨c,0,none⟩ (.slice r w s)).setCell ⟨l,0,none⟩ (.int .i64 ((a.length:Int)+1))))):=by
 have et:=u.et;have en:=u.en;have l4:=u.l4;have l5:=u.l5;have l7:=u.l7;have aq:=u.n45;have aw:=u.n57;have au:=h.sz;refine⟨fun V=>UH V 4 fn a.length (by omega) ak (by omega),fun V hV=>?_,fun V hV=>?_⟩
 ·obtain⟨n,S,T,af,ad⟩:=hV;obtain⟨q1,F,q3⟩:=F3.puts_len E (Dd 4 fn) (Gl d) m 0 a;have aj:=S.size;have ac:=T.lt;refine(n.st.put hE hj (Dd 4 fn a.length) (Gl d x) (Us _ _) (fun y hy e=>?_) (by omega) (by omega) (q3 h3)).mono ?_
  ·rcases F3.puts_mem E _ _ m 0 a y hy with hm|⟨j,_,r2,r3⟩
   ·exact al y hm _ an e
   ·have:=QQ (r3.symm.trans e);omega
  ·rintro e f ⟨rfl,O',r1,r2,r3⟩;have Q:=F3.puts_snoc E (Dd 4 fn) (Gl d) m 0 a x;rw[Av]at Q;rw[<-Q]at r1;have U:=n.put u r1 r2 r3;have ae:F0 f W.heap.size 188 (Dc (Gl d x)):=(r2.block _ ac (fun e=>ad _ e rfl)).trans T;refine⟨rfl,⟨U.b4.cell,(U.b7.cell 2).trans rfl,U.bt.cell,fun j v Y=>by rw[ae.cell,Av];exact Y⟩,U.b5.cell,O',U,S.then r2 (fun k X e => .inl (by
    rcases AO k W.heap.size with A|A
    ·exact e
    ·omega)),ae,af,fun j hj e=>?_⟩
   rcases r3 j hj with A|A
   ·exact ad j A e
   ·omega
 ·obtain⟨O',n,S,T,af,ad⟩:=hV;have aj:=S.size;have ac:=T.lt;have ar:(I++JM E fn d m 0 a).size<=950000:=by rw[Ai,Rr];omega
  refine(RQ V b (by have:=u.nb;omega) B D C _ n.rs _ _ (Nat.lt_trans (hE.place_lt _ _ _) (by omega)) (JS _) (by omega)).mono ?_;rintro e f ⟨r,w,s,rfl,q1,F,q3⟩;have Q:=Wc E fn d m 0 a x;rw[Av]at Q;rw[JF,<-Q]at q1;have hD:=n.done u (by simp) q1 F q3;obtain⟨r4,r5,r7,rt,rg⟩:=Pf u n.hv;have am:¬F2 (.slice B D C) W.heap.size:=fun e=>by have:=h.rs.1.lt e;omega
  have k4:Boxed f z 168 _:=(F.block _ n.b4.lt r4).trans n.b4;have k5:Boxed f c 59 _:=(F.block _ n.b5.lt r5).trans n.b5;have k7:F0 f q 141 _:=(F.block _ n.b7.lt r7).trans n.b7;have kt:Boxed f l 3 _:=(F.block _ n.bt.lt rt).trans n.bt;have kL:F0 f W.heap.size 188 (Dc (Gl d x)):=(F.block _ ac am).trans T;have ao:F0 (f.setCell ⟨c,0,none⟩ (.slice r w s)) q 141 _:=(AB _ _ _ _ (show q≠c by omega)).trans k7;have ap:F0 (f.setCell ⟨c,0,none⟩ (.slice r w s)) W.heap.size 188 (Dc (Gl d x)):=(AB _ _ _ _ (show W.heap.size≠c by omega)).trans kL;have aa:Fr (fun j=>O j\/F2 (.slice B D C) j\/j=c\/j=l) W ((f.setCell ⟨c,0,none⟩ (.slice r w s)).setCell ⟨l,0,none⟩ (.int .i64 ((a.length:Int)+1))):=
   (Fr.set (S.then F (fun _ _ e => .inr (.inl e))) ⟨c,0,none⟩ _ (.inr (.inr (.inl rfl)))).set ⟨l,0,none⟩ _ (.inr (.inr (.inr rfl)))
  refine⟨r,w,s,rfl,⟨k4.cell,(k7.cell 2).trans rfl,kt.cell,fun j v Y=>by rw[kL.cell,Av];exact Y⟩,⟨(k4.other aq _).cell,(ao.cell 2).trans rfl,(kt.other (show l≠c by omega) _).cell,fun j v Y=>by rw[ap.cell,Av];exact Y⟩,k5.cell,k5.frozen,(kt.other (show l≠c by omega) _).frozen,⟨aa.size,fun k o X ho=>?_⟩,⟨aa.size,fun k X hY ag ah=>?_⟩,_,O',hD⟩
  ·refine(aa.block k (Ak.1 X).1 (fun e=>?_)).trans X;have ab:∀cs t,W.heap[k]? ≠ some (Obj.cells cs t (0,0)):=fun cs t e2=>by rw[X]at e2;cases e2;cases ho
   rcases e with e|e|e|e
   ·obtain⟨cs,t,e2⟩:=h.st.cells e;exact ab _ _ e2
   ·obtain⟨R,ai⟩:=h.rs.1.type e;exact ab _ _ ai
   ·subst e;exact ab _ _ h.b5
   ·subst e;exact ab _ _ h.bt
  ·refine aa.block k (by omega) (fun e=>?_);rcases e with e|e|e|e
   ·rcases h.hO k e with A|A
    ·exact hY (.inl A)
    ·omega
   ·rcases h.hv k e with A|A
    ·exact hY (.inr A)
    ·omega
   ·exact ag e
   ·exact ah e
end
end Go.Proofs.YtaieidcohdhgpaaGreatDoor
