/- Dumps. -/
import Derived.Test.YtaieidcohdhgpaaGreatDoorZAR
namespace Go.Proofs.YtaieidcohdhgpaaGreatDoor
set_option maxHeartbeats 40000000
set_option maxRecDepth 100000
section
open Go.RowKit Go.Shelf
attribute [local go_sem] Oper.semAt_some
def Do(last p:By)(k:Nat):By:=⟨#[UInt8.ofNat k,UInt8.ofNat (Kz last p),UInt8.ofNat (p.size-Kz last p)]⟩
def Dl(last p:By):By:=p.extract (Kz last p) p.size
theorem MZ(a b:By):Kz a b<=a.size/\Kz a b<=b.size:=Pb _ _
def QK(w:World)(b n0 pb db sb so:Nat)(E:FL)(O0:Nat->Prop)(v0:Value)(st:Pl)(t:By)(e:Ending)(w':World):Prop:=
 ∃a' l' c' O',e = .returned (.slice a' l' c')/\cP b w' (.slice a' l' c') t/\Gy n0 pb db sb so E st O' w'/\(∀j,O' j->O0 j\/w.heap.size<=j)/\(∀j,Own (.slice a' l' c') j->Own v0 j\/w.heap.size<=j)/\(∀j,O' j->¬Own (.slice a' l' c') j)/\Fr (fun j=>O0 j\/Own v0 j) w w'
theorem FV.post{w:World}{b m r s u pb i n so:Nat}{E:FL}{p:By}{k:Nat}{f:Int}{x:Value}{g:Nat->Prop}{q:Value}{o:Pl}{O:Nat->Prop}{a:OA}{l c:Nat}{t:By}{W:World}(h:FV w b m r s u pb i n so E p k f x g q o O (.slice a l c) t W){e:Ending}(v:e = .returned (.slice a l c)):QK w b m pb i n so E g q o t e W:=
 ⟨a,l,c,O,v,h.rs,h.st,fun j d=>(h.hO j d).imp id (fun e=>by omega),fun j d=>(h.hv j d).imp id (fun e=>by omega),h.dis,h.fr⟩
theorem ZB(w:World)(b G pb J Q so:Nat)(E:FL)(R:Pl)(m:Nat->Prop)(ad:Gy G pb J Q so E R m w)(c:OA)(h f:Nat)(s:By)(hs:cP b w (.slice c h f) s)(aR:s.size<=1000000)(an:∀j,m j->¬Own (.slice c h f) j)(ao:∀j,Own (.slice c h f) j->G<=j)(W:b<=w.heap.size)(a p:By)(aO:a.size<=100000)(hp:p.size<=100000)(fn:Nat)(_hfn:fn<=100000)(vd:Value)(aI:∃x y z,vd = .slice x y z):
  Cl 236 #[.pointer (some ⟨pb,0,none⟩),.slice c h f,.string a,.agg #[.string p,.int .u8 1,.int .i64 (fn:Nat),vd]] w (QK w b G pb J Q so E m (.slice c h f) R (s++Do a p 1++Dl a p)):=by
 obtain⟨x,y,z,rfl⟩:=aI;obtain⟨W1,e1,x1,k1,s1,b1⟩:=De w [.pointer (some ⟨pb,0,none⟩)] 168;obtain⟨W2,e2,x2,k2,s2,b2⟩:=De W1 [.slice c h f] 59;obtain⟨C,e3,x3,k3,s3,b3⟩:=De W2 [.string p,.int .u8 1,.int .i64 (fn:Nat),.slice x y z] 141;have O:Bw w C:=b1.trans ((b2.mono (by omega)).trans (b3.mono (by omega)));have y1:=k3 _ _ _ (k2 _ _ _ x1);have y2:=k3 _ _ _ x2;have t2:W2.heap.size=w.heap.size+1+1:=by omega
 rw[s1]at y2;rw[t2]at x3;have am:∀j,m j->j<w.heap.size:=fun j U=>by obtain⟨cs,t,W⟩:=ad.cells U;exact(Ah.1 W).1
 have hB:IJ w b G w.heap.size (w.heap.size+1) (w.heap.size+1+1) m (.slice c h f):=⟨rfl,rfl,rfl,am,fun j U=>hs.1.lt U,ao,W,ad.2.2.1⟩;have al:FV w b G w.heap.size (w.heap.size+1) (w.heap.size+1+1) pb J Q so E p 1 (fn:Nat) (.slice x y z) m (.slice c h f) R m (.slice c h f) s C:=⟨ad.abides (row:=none) ⟨O.os,O.tape,O.output,O.size,fun k hk _=>O.block k hk⟩ (fun r e=>by cases e),fun j U => .inl U,y1,y2,x3,hs.below O,fun j U => .inl U,an,Fr.of_below O,by omega⟩;obtain⟨N,hN⟩:=ex (Kz a p);have aM:N<=p.size:=by rw[hN];exact(MZ _ _).2
 obtain⟨N1,aa⟩:∃M:Nat,M=(UInt8.ofNat N).toNat:=⟨_,rfl⟩;obtain⟨N2,ab⟩:∃M:Nat,M=(UInt8.ofNat (p.size-N)).toNat:=⟨_,rfl⟩;have af:((p.size:Int)-(N:Int))=((p.size-N:Nat):Int):=by omega
 have aS:IntKind.u8.wrap (N:Int)=(N1:Int):=by rw[aa];exact Ka N
 have aU:IntKind.u8.wrap ((p.size:Int)-(N:Int))=(N2:Int):=by rw[ab,af];exact Ka _
 have aT:(N:Int)%256=(N1:Int):=by rw[aa,BA];omega
 have aV:((p.size:Int)-(N:Int))%256=(N2:Int):=by rw[ab,af,BA];omega
 clear af;have av:=Db al;have T:=Db hB;have HA:Hid (∀X,Bw C X->X.cell? ⟨(w.heap.size+1),0,none⟩=some (.slice c h f)/\X.cell? ⟨(w.heap.size+1+1),0,none⟩=some (.string p)/\X.cell? ⟨(w.heap.size+1+1),1,none⟩=some (.int .u8 1)/\∃Y d i g w1,X.alloc (.cells #[.int .u8 1,.int .u8 (N1:Nat),.int .u8 (N2:Nat)] 5)=Y/\Y.cell? ⟨(w.heap.size+1),0,none⟩=some (.slice c h f)/\(Builtin.append_ #[59,59] 59 #[.slice c h f,.slice (some ⟨X.heap.size,0,none⟩) 3 3]).run Tryz.prog Y = .ok (.slice d i g) w1/\w1.cell? ⟨(w.heap.size+1),0,none⟩=some (.slice c h f)/\w1.frozen? ⟨(w.heap.size+1),0,none⟩=false/\∃Z,w1.setCell ⟨(w.heap.size+1),0,none⟩ (.slice d i g)=Z/\Hid (FV w b G w.heap.size (w.heap.size+1) (w.heap.size+1+1) pb J Q so E p 1 (fn:Nat) (.slice x y z) m (.slice c h f) R m (.slice d i g) (s++Do a p 1) Z)):=fun X hX=>by
  have F:=(Da av).below hX;obtain⟨Y,eY,xY,kY,sY,bY⟩:=De X [.int .u8 1,.int .u8 (N1:Nat),.int .u8 (N2:Nat)] 5;have A:=F.below bY;have ae:Dd (Do a p 1)=[.int .u8 1,.int .u8 (N1:Nat),.int .u8 (N2:Nat)]:=by
   rw[aa,ab,hN];rfl
  obtain⟨d,i,g,w1,r1,r2,I,r4⟩:=Kj Y b (Ae W (Ae A.fr.size (Aa _))) _ _ A.rs ⟨X.heap.size,0,none⟩ 3 3 (Do a p 1) rfl (fun j u hu=>by rw[AF,Au,xY.cell,<-ae];exact hu) (by omega);have P:Boxed w1 (w.heap.size+1) 59 (.slice c h f):=(I.block _ A.b5.lt (fun e=>by rcases A.hv _ e with v|v;(have:=(Da T).ov _ v;omega);omega)).trans A.b5;exact⟨F.b5.cell,(F.b7.cell 0).trans rfl,(F.b7.cell 1).trans rfl,Y,d,i,g,w1,eY,A.b5.cell,r1,P.cell,P.frozen,_,rfl,A.say (Da T) r2 I r4⟩
 have HT:Hid (∀Z d i g,FV w b G w.heap.size (w.heap.size+1) (w.heap.size+1+1) pb J Q so E p 1 (fn:Nat) (.slice x y z) m (.slice c h f) R m (.slice d i g) (s++Do a p 1) Z->Z.cell? ⟨(w.heap.size+1),0,none⟩=some (.slice d i g)/\Z.cell? ⟨(w.heap.size+1+1),0,none⟩=some (.string p)/\∃o B q l,(Builtin.append_ #[59,9] 59 #[.slice d i g,.string (p.extract N p.size)]).run Tryz.prog Z.drew = .ok (.slice o B q) l/\l.cell? ⟨(w.heap.size+1),0,none⟩=some (.slice d i g)/\l.cell? ⟨(w.heap.size+1+1),0,none⟩=some (.string p)/\l.frozen? ⟨(w.heap.size+1),0,none⟩=false/\∃V,l.setCell ⟨(w.heap.size+1),0,none⟩ (.slice o B q)=V/\V.cell? ⟨(w.heap.size+1),0,none⟩=some (.slice o B q)/\V.cell? ⟨(w.heap.size+1+1),0,none⟩=some (.string p)/\V.cell? ⟨(w.heap.size+1+1),1,none⟩=some (.int .u8 1)/\V.cell? ⟨(w.heap.size+1+1),2,none⟩=some (.int .i64 (fn:Nat))/\Hid (FV w b G w.heap.size (w.heap.size+1) (w.heap.size+1+1) pb J Q so E p 1 (fn:Nat) (.slice x y z) m (.slice c h f) R m (.slice o B q) (s++Do a p 1++Dl a p) V)):=fun Z d i g F=>by
  have H:=F.below (Ag _ _).drew;have aH:(s++Do a p 1).size=s.size+3:=by rw[Ai];rfl
  have aP:(Dl a p).size<=p.size:=by unfold Dl;rw[Am];omega
  have aA:Dl a p=p.extract N p.size:=by unfold Dl;rw[hN]
  obtain⟨o,B,q,l,r1,r2,I,r4⟩:=UY Z.drew b (Ae W H.fr.size) _ _ H.rs (Dl a p) (by omega);rw[aA]at r1;have P:Boxed l (w.heap.size+1) 59 (.slice d i g):=(I.block _ H.b5.lt (fun e=>by rcases H.hv _ e with v|v;(have:=(Da T).ov _ v;omega);omega)).trans H.b5;have q7:FH l (w.heap.size+1+1) 141 _:=(I.block _ H.b7.lt (fun e=>by rcases H.hv _ e with v|v;(have:=(Da T).ov _ v;omega);omega)).trans H.b7;have D:=H.say (Da T) r2 I r4;exact⟨F.b5.cell,(F.b7.cell 0).trans rfl,o,B,q,l,r1,P.cell,(q7.cell 0).trans rfl,P.frozen,_,rfl,D.b5.cell,(D.b7.cell 0).trans rfl,(D.b7.cell 1).trans rfl,(D.b7.cell 2).trans rfl,D⟩
 obtain⟨N3,ac⟩:∃M:Nat,M=(UInt8.ofNat fn).toNat:=⟨_,rfl⟩;have aW:IntKind.u8.wrap (fn:Int)=(N3:Int):=by rw[ac];exact Ka fn
 have aX:(fn:Int)%256=(N3:Int):=by rw[ac,BA];omega
 have HC:Hid (∀Z d i g,FV w b G w.heap.size (w.heap.size+1) (w.heap.size+1+1) pb J Q so E p 1 (fn:Nat) (.slice x y z) m (.slice c h f) R m (.slice d i g) (s++Do a p 1++Dl a p) Z->∃Y o B q l,Z.alloc (.cells #[.int .u8 (N3:Nat)] 5)=Y/\(Builtin.append_ #[59,59] 59 #[.slice d i g,.slice (some ⟨Z.heap.size,0,none⟩) 1 1]).run Tryz.prog Y = .ok (.slice o B q) l/\l.cell? ⟨(w.heap.size+1),0,none⟩=some (.slice d i g)/\l.frozen? ⟨(w.heap.size+1),0,none⟩=false/\∃V,l.setCell ⟨(w.heap.size+1),0,none⟩ (.slice o B q)=V/\V.cell? ⟨(w.heap.size+1),0,none⟩=some (.slice o B q)/\V.cell? ⟨(w.heap.size+1+1),1,none⟩=some (.int .u8 1)/\V.cell? ⟨(w.heap.size+1+1),3,none⟩=some (.slice x y z)/\Hid (FV w b G w.heap.size (w.heap.size+1) (w.heap.size+1+1) pb J Q so E p 1 (fn:Nat) (.slice x y z) m (.slice c h f) R m (.slice o B q) (s++Do a p 1++Dl a p++⟨#[UInt8.ofNat fn]⟩) V)):=fun Z d i g F=>by
  obtain⟨Y,eY,xY,kY,sY,bY⟩:=De Z [.int .u8 (N3:Nat)] 5;have A:=F.below bY;have ae:Dd ⟨#[UInt8.ofNat fn]⟩=[.int .u8 (N3:Nat)]:=by rw[ac];rfl
  have aH:(s++Do a p 1++Dl a p).size<=s.size+3+p.size:=by
   rw[Ai,Ai];have v:(Do a p 1).size=3:=rfl;have h2:(Dl a p).size<=p.size:=by unfold Dl;rw[Am];omega
   omega
  obtain⟨o,B,q,l,r1,r2,I,r4⟩:=Kj Y b (Ae W A.fr.size) _ _ A.rs ⟨Z.heap.size,0,none⟩ 1 1 ⟨#[UInt8.ofNat fn]⟩ rfl (fun j u hu=>by rw[AF,Au,xY.cell,<-ae];exact hu) (by omega);have P:Boxed l (w.heap.size+1) 59 (.slice d i g):=(I.block _ A.b5.lt (fun e=>by rcases A.hv _ e with v|v;(have:=(Da T).ov _ v;omega);omega)).trans A.b5;have D:=A.say (Da T) r2 I r4;exact⟨Y,o,B,q,l,eY,r1,P.cell,P.frozen,_,rfl,D.b5.cell,(D.b7.cell 1).trans rfl,(D.b7.cell 3).trans rfl,D⟩
 have ai:Hid (Cl 271 #[.string a,.string p] C fun e X=>e = .returned (.int .i64 (N:Nat))/\Hid (Bw C X)):=(NC a p C (by omega) (by omega)).mono (fun e X ⟨v,_,h2⟩=>⟨by rw[v,hN],h2⟩);have aQ:IntKind.i64.wrap ((p.size:Int)-(N:Int))=(p.size:Int)-(N:Int):=by rw[BD];omega
 have aN:(N:Int)<=(p.size:Int):=by omega
 have aq:=Db e1;have ar:=Db e2;have au:=Db e3;have aj:=(x3.cell 0);have aG:C.cell? ⟨(w.heap.size+1+1),0,none⟩=some (.string p):=aj.trans rfl;clear hN aa ab ac aj e1 e2 e3 x1 x2 x3 k1 k2 k3 s1 s2 s3 b1 b2 b3 y1 y2 t2 am hB al ad hs an ao O;refine(A0 (n:=3)).1 ?_;refine Bq Tryz.func236 rfl trivial ?_ rfl;simp only[Tryz.ntmps236,AQ,Af,Ay,Nat.reduceAdd,Nat.reduceSub,AP,AO,AV,AR,AJ,AL]
 gi_step
 refine Br.2 (AT ?_);go_wp2;rw[show w.alloc (.cells #[.pointer (some ⟨pb,0,none⟩)] 168)=W1 from Da aq,show W1.alloc (.cells #[.slice c h f] 59)=W2 from Da ar,show W2.alloc (.cells #[.string p,.int .u8 1,.int .i64 (fn:Nat),.slice x y z] 141)=C from Da au]
 gi_step
 refine Br.2 (AT ?_);go_wp2_with (go_at_call 271;refine(Da ai).mono ?_;rintro e X ⟨rfl,HX⟩);obtain⟨aC,aD,aE,Y,d,i,g,w1,hY,aB,ag,aJ,aF,Z,hZ,ah⟩:=Da HA X (Da HX);rw[<-hY]at ag;have HZ:=Db hZ;clear hY hZ aB HA ai aG
 gi_step
 refine Br.2 (AT ?_);go_wp2_with (at_builtin;refine Aj _ rfl _ _ 59 59 rfl _ _ rfl rfl _ _ ag ?_);rw[Da HZ];obtain⟨m5,m7,o,B,q,l,ap,n5,n7,aK,V,hV,v5,aL,aY,aZ,aw⟩:=Da HT Z d i g (Da ah);have HV:=Db hV;clear hV ag aJ aF aC aD aE HZ HT ah
 gi_step
 refine Ev Qt ?_;refine Br.2 ?_;refine AN (S:=fun X=>X.cell? ⟨(w.heap.size+1+1),0,none⟩=some (.string p)) (by kernel_rfl) m7 (fun ak=>?_);refine tk 1 ?_;try simp only[pE];refine tk 2 ?_;try simp only[pE];refine tk 3 ?_;try simp only[pE];refine tk 4 ?_;try simp only[pE];refine rk 0 (fun K L=>?_);go_simp;refine L.out _ _ ak (fun ax=>?_);clear L K
 (try simp only[pE])
 refine rk 5 (fun K L=>?_);refine JD rfl _ _ 59 9 rfl _ _ rfl rfl ap ?_;refine L.out _ _ n7 (fun ay=>?_);clear L K
 (try simp only[pE])
 refine rk 6 (fun K L=>?_);go_simp;rw[Da HV];refine L.out _ _ aL (fun az=>?_);clear L K
 (try simp only[pE])
 refine AS (by kernel_rfl) ?_ _;refine Qg ?_;clear ax ay az ak ap n5 n7 aK m5 m7 HV
 gi_wp2
 exact⟨_,EQ rfl _ _ _,(Da aw).post rfl⟩
theorem ZkE(w:World)(b G pb J Q so:Nat)(E:FL)(R:Pl)(m:Nat->Prop)(ad:Gy G pb J Q so E R m w)(c:OA)(h f:Nat)(s:By)(hs:cP b w (.slice c h f) s)(aX:s.size<=1000000)(ar:∀j,m j->¬Own (.slice c h f) j)(au:∀j,Own (.slice c h f) j->G<=j)(hb:b<=w.heap.size)(a p:By)(aU:a.size<=100000)(hp:p.size<=100000)(fn:Nat)(_hfn:fn<=100000)(vd:Value)(aN:∃x y z,vd = .slice x y z):
  Cl 236 #[.pointer (some ⟨pb,0,none⟩),.slice c h f,.string a,.agg #[.string p,.int .u8 3,.int .i64 (fn:Nat),vd]] w (QK w b G pb J Q so E m (.slice c h f) R (s++Do a p 3++Dl a p++⟨#[UInt8.ofNat fn]⟩)):=by
 obtain⟨x,y,z,rfl⟩:=aN;obtain⟨W1,e1,x1,k1,s1,b1⟩:=De w [.pointer (some ⟨pb,0,none⟩)] 168;obtain⟨W2,e2,x2,k2,s2,b2⟩:=De W1 [.slice c h f] 59;obtain⟨C,e3,x3,k3,s3,b3⟩:=De W2 [.string p,.int .u8 3,.int .i64 (fn:Nat),.slice x y z] 141;have O:Bw w C:=b1.trans ((b2.mono (by omega)).trans (b3.mono (by omega)));have y1:=k3 _ _ _ (k2 _ _ _ x1);have y2:=k3 _ _ _ x2;have t2:W2.heap.size=w.heap.size+1+1:=by omega
 rw[s1]at y2;rw[t2]at x3;have ap:∀j,m j->j<w.heap.size:=fun j W=>by obtain⟨cs,t,hb⟩:=ad.cells W;exact(Ah.1 hb).1
 have hB:IJ w b G w.heap.size (w.heap.size+1) (w.heap.size+1+1) m (.slice c h f):=⟨rfl,rfl,rfl,ap,fun j W=>hs.1.lt W,au,hb,ad.2.2.1⟩;have ao:FV w b G w.heap.size (w.heap.size+1) (w.heap.size+1+1) pb J Q so E p 3 (fn:Nat) (.slice x y z) m (.slice c h f) R m (.slice c h f) s C:=⟨ad.abides (row:=none) ⟨O.os,O.tape,O.output,O.size,fun k hk _=>O.block k hk⟩ (fun r e=>by cases e),fun j W => .inl W,y1,y2,x3,hs.below O,fun j W => .inl W,ar,Fr.of_below O,by omega⟩;obtain⟨N,hN⟩:=ex (Kz a p);have aS:N<=p.size:=by rw[hN];exact(MZ _ _).2
 obtain⟨N1,aa⟩:∃M:Nat,M=(UInt8.ofNat N).toNat:=⟨_,rfl⟩;obtain⟨N2,ab⟩:∃M:Nat,M=(UInt8.ofNat (p.size-N)).toNat:=⟨_,rfl⟩;have af:((p.size:Int)-(N:Int))=((p.size-N:Nat):Int):=by omega
 have aY:IntKind.u8.wrap (N:Int)=(N1:Int):=by rw[aa];exact Ka N
 have a4:IntKind.u8.wrap ((p.size:Int)-(N:Int))=(N2:Int):=by rw[ab,af];exact Ka _
 have aZ:(N:Int)%256=(N1:Int):=by rw[aa,BA];omega
 have a5:((p.size:Int)-(N:Int))%256=(N2:Int):=by rw[ab,af,BA];omega
 clear af;have aA:=Db ao;have T:=Db hB;have HA:Hid (∀X,Bw C X->X.cell? ⟨(w.heap.size+1),0,none⟩=some (.slice c h f)/\X.cell? ⟨(w.heap.size+1+1),0,none⟩=some (.string p)/\X.cell? ⟨(w.heap.size+1+1),1,none⟩=some (.int .u8 3)/\∃Y d i g w1,X.alloc (.cells #[.int .u8 3,.int .u8 (N1:Nat),.int .u8 (N2:Nat)] 5)=Y/\Y.cell? ⟨(w.heap.size+1),0,none⟩=some (.slice c h f)/\(Builtin.append_ #[59,59] 59 #[.slice c h f,.slice (some ⟨X.heap.size,0,none⟩) 3 3]).run Tryz.prog Y = .ok (.slice d i g) w1/\w1.cell? ⟨(w.heap.size+1),0,none⟩=some (.slice c h f)/\w1.frozen? ⟨(w.heap.size+1),0,none⟩=false/\∃Z,w1.setCell ⟨(w.heap.size+1),0,none⟩ (.slice d i g)=Z/\Hid (FV w b G w.heap.size (w.heap.size+1) (w.heap.size+1+1) pb J Q so E p 3 (fn:Nat) (.slice x y z) m (.slice c h f) R m (.slice d i g) (s++Do a p 3) Z)):=fun X hX=>by
  have F:=(Da aA).below hX;obtain⟨Y,eY,xY,kY,sY,bY⟩:=De X [.int .u8 3,.int .u8 (N1:Nat),.int .u8 (N2:Nat)] 5;have B:=F.below bY;have ae:Dd (Do a p 3)=[.int .u8 3,.int .u8 (N1:Nat),.int .u8 (N2:Nat)]:=by
   rw[aa,ab,hN];rfl
  obtain⟨d,i,g,w1,r1,r2,I,r4⟩:=Kj Y b (Ae hb (Ae B.fr.size (Aa _))) _ _ B.rs ⟨X.heap.size,0,none⟩ 3 3 (Do a p 3) rfl (fun j u hu=>by rw[AF,Au,xY.cell,<-ae];exact hu) (by omega);have P:Boxed w1 (w.heap.size+1) 59 (.slice c h f):=(I.block _ B.b5.lt (fun e=>by rcases B.hv _ e with A|A;(have:=(Da T).ov _ A;omega);omega)).trans B.b5;exact⟨F.b5.cell,(F.b7.cell 0).trans rfl,(F.b7.cell 1).trans rfl,Y,d,i,g,w1,eY,B.b5.cell,r1,P.cell,P.frozen,_,rfl,B.say (Da T) r2 I r4⟩
 have HT:Hid (∀Z d i g,FV w b G w.heap.size (w.heap.size+1) (w.heap.size+1+1) pb J Q so E p 3 (fn:Nat) (.slice x y z) m (.slice c h f) R m (.slice d i g) (s++Do a p 3) Z->Z.cell? ⟨(w.heap.size+1),0,none⟩=some (.slice d i g)/\Z.cell? ⟨(w.heap.size+1+1),0,none⟩=some (.string p)/\∃o v q l,(Builtin.append_ #[59,9] 59 #[.slice d i g,.string (p.extract N p.size)]).run Tryz.prog Z.drew = .ok (.slice o v q) l/\l.cell? ⟨(w.heap.size+1),0,none⟩=some (.slice d i g)/\l.cell? ⟨(w.heap.size+1+1),0,none⟩=some (.string p)/\l.frozen? ⟨(w.heap.size+1),0,none⟩=false/\∃V,l.setCell ⟨(w.heap.size+1),0,none⟩ (.slice o v q)=V/\V.cell? ⟨(w.heap.size+1),0,none⟩=some (.slice o v q)/\V.cell? ⟨(w.heap.size+1+1),0,none⟩=some (.string p)/\V.cell? ⟨(w.heap.size+1+1),1,none⟩=some (.int .u8 3)/\V.cell? ⟨(w.heap.size+1+1),2,none⟩=some (.int .i64 (fn:Nat))/\Hid (FV w b G w.heap.size (w.heap.size+1) (w.heap.size+1+1) pb J Q so E p 3 (fn:Nat) (.slice x y z) m (.slice c h f) R m (.slice o v q) (s++Do a p 3++Dl a p) V)):=fun Z d i g F=>by
  have H:=F.below (Ag _ _).drew;have aM:(s++Do a p 3).size=s.size+3:=by rw[Ai];rfl
  have aV:(Dl a p).size<=p.size:=by unfold Dl;rw[Am];omega
  have aF:Dl a p=p.extract N p.size:=by unfold Dl;rw[hN]
  obtain⟨o,v,q,l,r1,r2,I,r4⟩:=UY Z.drew b (Ae hb H.fr.size) _ _ H.rs (Dl a p) (by omega);rw[aF]at r1;have P:Boxed l (w.heap.size+1) 59 (.slice d i g):=(I.block _ H.b5.lt (fun e=>by rcases H.hv _ e with A|A;(have:=(Da T).ov _ A;omega);omega)).trans H.b5;have q7:FH l (w.heap.size+1+1) 141 _:=(I.block _ H.b7.lt (fun e=>by rcases H.hv _ e with A|A;(have:=(Da T).ov _ A;omega);omega)).trans H.b7;have D:=H.say (Da T) r2 I r4;exact⟨F.b5.cell,(F.b7.cell 0).trans rfl,o,v,q,l,r1,P.cell,(q7.cell 0).trans rfl,P.frozen,_,rfl,D.b5.cell,(D.b7.cell 0).trans rfl,(D.b7.cell 1).trans rfl,(D.b7.cell 2).trans rfl,D⟩
 obtain⟨N3,ac⟩:∃M:Nat,M=(UInt8.ofNat fn).toNat:=⟨_,rfl⟩;have a6:IntKind.u8.wrap (fn:Int)=(N3:Int):=by rw[ac];exact Ka fn
 have a7:(fn:Int)%256=(N3:Int):=by rw[ac,BA];omega
 have HC:Hid (∀Z d i g,FV w b G w.heap.size (w.heap.size+1) (w.heap.size+1+1) pb J Q so E p 3 (fn:Nat) (.slice x y z) m (.slice c h f) R m (.slice d i g) (s++Do a p 3++Dl a p) Z->∃Y o v q l,Z.alloc (.cells #[.int .u8 (N3:Nat)] 5)=Y/\(Builtin.append_ #[59,59] 59 #[.slice d i g,.slice (some ⟨Z.heap.size,0,none⟩) 1 1]).run Tryz.prog Y = .ok (.slice o v q) l/\l.cell? ⟨(w.heap.size+1),0,none⟩=some (.slice d i g)/\l.frozen? ⟨(w.heap.size+1),0,none⟩=false/\∃V,l.setCell ⟨(w.heap.size+1),0,none⟩ (.slice o v q)=V/\V.cell? ⟨(w.heap.size+1),0,none⟩=some (.slice o v q)/\V.cell? ⟨(w.heap.size+1+1),1,none⟩=some (.int .u8 3)/\V.cell? ⟨(w.heap.size+1+1),3,none⟩=some (.slice x y z)/\Hid (FV w b G w.heap.size (w.heap.size+1) (w.heap.size+1+1) pb J Q so E p 3 (fn:Nat) (.slice x y z) m (.slice c h f) R m (.slice o v q) (s++Do a p 3++Dl a p++⟨#[UInt8.ofNat fn]⟩) V)):=fun Z d i g F=>by
  obtain⟨Y,eY,xY,kY,sY,bY⟩:=De Z [.int .u8 (N3:Nat)] 5;have B:=F.below bY;have ae:Dd ⟨#[UInt8.ofNat fn]⟩=[.int .u8 (N3:Nat)]:=by rw[ac];rfl
  have aM:(s++Do a p 3++Dl a p).size<=s.size+3+p.size:=by
   rw[Ai,Ai];have A:(Do a p 3).size=3:=rfl;have h2:(Dl a p).size<=p.size:=by unfold Dl;rw[Am];omega
   omega
  obtain⟨o,v,q,l,r1,r2,I,r4⟩:=Kj Y b (Ae hb B.fr.size) _ _ B.rs ⟨Z.heap.size,0,none⟩ 1 1 ⟨#[UInt8.ofNat fn]⟩ rfl (fun j u hu=>by rw[AF,Au,xY.cell,<-ae];exact hu) (by omega);have P:Boxed l (w.heap.size+1) 59 (.slice d i g):=(I.block _ B.b5.lt (fun e=>by rcases B.hv _ e with A|A;(have:=(Da T).ov _ A;omega);omega)).trans B.b5;have D:=B.say (Da T) r2 I r4;exact⟨Y,o,v,q,l,eY,r1,P.cell,P.frozen,_,rfl,D.b5.cell,(D.b7.cell 1).trans rfl,(D.b7.cell 3).trans rfl,D⟩
 have al:Hid (Cl 271 #[.string a,.string p] C fun e X=>e = .returned (.int .i64 (N:Nat))/\Hid (Bw C X)):=(NC a p C (by omega) (by omega)).mono (fun e X ⟨A,_,h2⟩=>⟨by rw[A,hN],h2⟩);have aW:IntKind.i64.wrap ((p.size:Int)-(N:Int))=(p.size:Int)-(N:Int):=by rw[BD];omega
 have aT:(N:Int)<=(p.size:Int):=by omega
 have ax:=Db e1;have ay:=Db e2;have az:=Db e3;have am:=(x3.cell 0);have aL:C.cell? ⟨(w.heap.size+1+1),0,none⟩=some (.string p):=am.trans rfl;clear hN aa ab ac am e1 e2 e3 x1 x2 x3 k1 k2 k3 s1 s2 s3 b1 b2 b3 y1 y2 t2 ap hB ao ad hs ar au O;refine(A0 (n:=3)).1 ?_;refine Bq Tryz.func236 rfl trivial ?_ rfl;simp only[Tryz.ntmps236,AQ,Af,Ay,Nat.reduceAdd,Nat.reduceSub,AP,AO,AV,AR,AJ,AL]
 gi_step
 refine Br.2 (AT ?_);go_wp2;rw[show w.alloc (.cells #[.pointer (some ⟨pb,0,none⟩)] 168)=W1 from Da ax,show W1.alloc (.cells #[.slice c h f] 59)=W2 from Da ay,show W2.alloc (.cells #[.string p,.int .u8 3,.int .i64 (fn:Nat),.slice x y z] 141)=C from Da az]
 gi_step
 refine Br.2 (AT ?_);go_wp2_with (go_at_call 271;refine(Da al).mono ?_;rintro e X ⟨rfl,HX⟩);obtain⟨aH,aI,aJ,Y,d,i,g,w1,hY,aG,ag,ai,aK,Z,hZ,aj⟩:=Da HA X (Da HX);rw[<-hY]at ag;have HZ:=Db hZ;clear hY hZ aG HA al aL
 gi_step
 refine Br.2 (AT ?_);go_wp2_with (at_builtin;refine Aj _ rfl _ _ 59 59 rfl _ _ rfl rfl _ _ ag ?_);rw[Da HZ];obtain⟨m5,m7,o,v,q,l,av,n5,n7,aP,V,hV,v5,aw,aQ,aR,ak⟩:=Da HT Z d i g (Da aj);have HV:=Db hV;clear hV ag ai aK aH aI aJ HZ HT aj
 gi_step
 refine Ev Qt ?_;refine Br.2 ?_;refine AN (S:=fun X=>X.cell? ⟨(w.heap.size+1+1),0,none⟩=some (.string p)) (by kernel_rfl) m7 (fun an=>?_);refine tk 1 ?_;try simp only[pE];refine tk 2 ?_;try simp only[pE];refine tk 3 ?_;try simp only[pE];refine tk 4 ?_;try simp only[pE];refine rk 0 (fun K L=>?_);go_simp;refine L.out _ _ an (fun aC=>?_);clear L K
 (try simp only[pE])
 refine rk 5 (fun K L=>?_);refine JD rfl _ _ 59 9 rfl _ _ rfl rfl av ?_;refine L.out _ _ n7 (fun aD=>?_);clear L K
 (try simp only[pE])
 refine rk 6 (fun K L=>?_);go_simp;rw[Da HV];refine L.out _ _ aw (fun aE=>?_);clear L K
 (try simp only[pE])
 refine AS (by kernel_rfl) ?_ _;refine Qg ?_;clear aC aD aE an av n5 n7 aP m5 m7 HV;obtain⟨Y3,a3,l3,c3,w3,aq,ah,ai,aO,U,hU,u5,a8,a9,aB⟩:=Da HC V o v q (Da ak);rw[<-aq]at ah;have HU:=Db hU;clear aq hU HC
 gi_step
 gi_step
 gi_step
 gi_step
 refine Br.2 (AT ?_);go_wp2
 gi_step
 gi_step
 gi_step
 gi_step
 gi_step
 refine Br.2 (AT ?_);go_wp2_with (at_builtin;refine Aj _ rfl _ _ 59 59 rfl _ _ rfl rfl _ _ ah ?_);rw[Da HU];clear ah ai aO HU v5 aw aQ aR ak
 gi_wp2
 exact⟨_,EQ rfl _ _ _,(Da aB).post rfl⟩
end
open Go.RowKit Go.Shelf
def Gq(d:By)(x:Nat):By:=Dt (G7 d 64 x) 64
theorem O1(d:By)(x:Nat):(Gq d x).size=64:=J6 _ _
theorem spl_dt(c:By)(hc:c.size<=64):FM (Dd (Du 64)) 0 (Dd c)=Dd (Dt c 64):=by
 have a:Dd (Du 64)=List.replicate 64 (.int .u8 0):=UE 64;unfold FM Dt;by_cases h:64<=c.size
 ·rw[if_pos h,KD];have e:c.size=64:=by omega
  rw[Bf (by rw[a,C5,Dj];omega),CP,AI (l:=Dd c) (by rw[Dj];omega)];simp
 ·rw[if_neg h,KF,a,Co,AJ,Dj,Au,EV]
  congr 1
  simp[Dd]
def Kc(E:FL)(fn:Nat)(d:By)(st:Pl):Nat->List Nat->By
 | _,[]=>⟨#[]⟩
 | i,x::xs=>D3 (E.put st (Dp 4 fn i) (Gq d x)).1 (D5 (Gq d x))++Kc E fn d (E.put st (Dp 4 fn i) (Gq d x)).2 (i+1) xs
theorem Jm(a b c:By):a++b++c=a++(b++c):=by apply AY;simp
theorem Ow(a:By):(⟨#[]⟩:By)++a=a:=by apply AY;simp
theorem VA(E:FL)(fn:Nat)(d:By):∀(st:Pl) (i:Nat) (xs:List Nat) (x:Nat),Kc E fn d st i (xs++[x])=Kc E fn d st i xs++D3 (E.put (E.puts (Dp 4 fn) (Gq d) st i xs) (Dp 4 fn (i+xs.length)) (Gq d x)).1 (D5 (Gq d x))
 | st,i,[],x=>by
  show D3 _ _++⟨#[]⟩=⟨#[]⟩++D3 _ _;rw[K2,Ow];rfl
 | st,i,y::xs,x=>by
  show D3 _ _++Kc E fn d _ (i+1) (xs++[x])=D3 _ _++Kc E fn d _ (i+1) xs++_;rw[VA E fn d _ (i+1) xs x,Jm,Af,show i+1+xs.length=i+(xs.length+1) by omega]
  rfl
theorem PB(E:FL)(fn:Nat)(d:By):∀(st:Pl) (i:Nat) (xs:List Nat),(Kc E fn d st i xs).size=10*xs.length
 | st,i,[]=>rfl
 | st,i,x::xs=>by
  show(D3 _ _++Kc E fn d _ (i+1) xs).size=_;rw[Ai,Ne,PB E fn d _ (i+1) xs,Af];omega
structure LE(w9:World)(b n0 n1 B4 B5 B7 Bt g:Nat)(O9:Nat->Prop)(v9:Value):Prop where
 et:Bt=w9.heap.size
 en:n1=w9.heap.size+3
 l4:B4<w9.heap.size
 l5:B5<w9.heap.size
 l7:B7<w9.heap.size
 n45:B4≠B5
 n57:B5≠B7
 o9:∀j,O9 j->j<w9.heap.size/\j≠B4/\j≠B5/\j≠B7
 ov:∀j,Own v9 j->j<w9.heap.size/\j≠B4/\j≠B5/\j≠B7
 nv:∀j,Own v9 j->n0<=j
 n5:n0<=B5
 nb:b<=w9.heap.size
 n0w:n0<=w9.heap.size
 gl:g<w9.heap.size
 gO:¬O9 g
 gv:¬Own v9 g
 g5:g≠B5
structure Gr(w9:World)(b n0 n1 B4 B5 B7 Bt pb db sb so:Nat)(E:FL)(p:By)(fn g off len cap:Nat)(d:By)(O9:Nat->Prop)(v9:Value)(st9:Pl)(t9:By)(pre pre':List Nat)(v:Value)(O:Nat->Prop)(W:World):Prop where
 st:Gy n0 pb db sb so E (E.puts (Dp 4 fn) (Gq d) st9 0 pre') O W
 hO:∀j,O j->O9 j\/n1<=j
 b4:Boxed W B4 168 (.pointer (some ⟨pb,0,none⟩))
 b5:Boxed W B5 59 v
 b7:FH W B7 141 [.string p,.int .u8 2,.int .i64 (fn:Nat),.slice (some ⟨g,off,none⟩) len cap]
 bt:Boxed W Bt 3 (.int .i64 (pre.length:Nat))
 rs:cP b W v (t9++Kc E fn d st9 0 pre)
 hv:∀j,Own v j->Own v9 j\/n1<=j
 dis:∀j,O j->¬Own v j
 rd:Ge W (some ⟨g,off,none⟩) len cap d
 fr:Fr (fun j=>O9 j\/Own v9 j\/j=B5) w9 W
 sz:n1<=W.heap.size
section
variable{w9:World}{b n0 n1 B4 B5 B7 Bt pb db sb so:Nat}{E:FL}{p:By}{fn g off len cap:Nat}{d:By}{O9:Nat->Prop}{v9:Value}{st9:Pl}{t9:By}{pre pre':List Nat}{v:Value}{O:Nat->Prop}{W W':World}
theorem Gr.below(h:Gr w9 b n0 n1 B4 B5 B7 Bt pb db sb so E p fn g off len cap d O9 v9 st9 t9 pre pre' v O W)(a:Bw W W'):Gr w9 b n0 n1 B4 B5 B7 Bt pb db sb so E p fn g off len cap d O9 v9 st9 t9 pre pre' v O W':=
 ⟨h.st.abides (row:=none) ⟨a.os,a.tape,a.output,a.size,fun k c _=>a.block k c⟩ (fun r e=>by cases e),h.hO,(a.block _ h.b4.lt).trans h.b4,(a.block _ h.b5.lt).trans h.b5,(a.block _ h.b7.lt).trans h.b7,(a.block _ h.bt.lt).trans h.bt,h.rs.below a,h.hv,h.dis,h.rd.below a,h.fr.then (Fr.of_below a (X:=fun _=>False)) (fun _ _ e=>e.elim),Ae h.sz a.size⟩
theorem Gr.nO(c:LE w9 b n0 n1 B4 B5 B7 Bt g O9 v9)(h:Gr w9 b n0 n1 B4 B5 B7 Bt pb db sb so E p fn g off len cap d O9 v9 st9 t9 pre pre' v O W):¬O B4/\¬O B5/\¬O B7/\¬O Bt/\¬O g:=by
 have l4:=c.l4;have l5:=c.l5;have l7:=c.l7;have et:=c.et;have en:=c.en;have gl:=c.gl;refine⟨fun e=>?_,fun e=>?_,fun e=>?_,fun e=>?_,fun e=>?_⟩
 ·rcases h.hO _ e with a|a
  ·exact(c.o9 _ a).2.1 rfl
  ·omega
 ·rcases h.hO _ e with a|a
  ·exact(c.o9 _ a).2.2.1 rfl
  ·omega
 ·rcases h.hO _ e with a|a
  ·exact(c.o9 _ a).2.2.2 rfl
  ·omega
 ·rcases h.hO _ e with a|a
  ·have:=(c.o9 _ a).1;omega
  ·omega
 ·rcases h.hO _ e with a|a
  ·exact c.gO a
  ·omega
theorem Om(c:LE w9 b n0 n1 B4 B5 B7 Bt g O9 v9)(f:∀j,Own v j->Own v9 j\/n1<=j):¬Own v B4/\¬Own v B5/\¬Own v B7/\¬Own v Bt/\¬Own v g:=by
 have l4:=c.l4;have l5:=c.l5;have l7:=c.l7;have et:=c.et;have en:=c.en;have gl:=c.gl;refine⟨fun e=>?_,fun e=>?_,fun e=>?_,fun e=>?_,fun e=>?_⟩
 ·rcases f _ e with a|a
  ·exact(c.ov _ a).2.1 rfl
  ·omega
 ·rcases f _ e with a|a
  ·exact(c.ov _ a).2.2.1 rfl
  ·omega
 ·rcases f _ e with a|a
  ·exact(c.ov _ a).2.2.2 rfl
  ·omega
 ·rcases f _ e with a|a
  ·have:=(c.ov _ a).1;omega
  ·omega
 ·rcases f _ e with a|a
  ·exact c.gv a
  ·omega
theorem Gr.put(f:LE w9 b n0 n1 B4 B5 B7 Bt g O9 v9)(h:Gr w9 b n0 n1 B4 B5 B7 Bt pb db sb so E p fn g off len cap d O9 v9 st9 t9 pre pre' v O W){m:List Nat}{O':Nat->Prop}(o:Gy n0 pb db sb so E (E.puts (Dp 4 fn) (Gq d) st9 0 m) O' W')(a:Fr O W W')(i:∀j,O' j->O j\/W.heap.size<=j):Gr w9 b n0 n1 B4 B5 B7 Bt pb db sb so E p fn g off len cap d O9 v9 st9 t9 pre m v O' W':=by
 obtain⟨q,r,s,u,t⟩:=h.nO f;have aa:=h.sz;have en:=f.en;refine⟨o,fun j c=>(i j c).elim (h.hO j) (fun e => .inr (by omega)),(a.block _ h.b4.lt q).trans h.b4,(a.block _ h.b5.lt r).trans h.b5,(a.block _ h.b7.lt s).trans h.b7,(a.block _ h.bt.lt u).trans h.bt,⟨h.rs.1.fr a (fun k n ho=>h.dis k ho n),h.rs.2⟩,h.hv,fun j c l=>(i j c).elim (fun e=>h.dis j e l) (fun e=>by have:=h.rs.1.lt l;omega),h.rd.fr a (fun x e _ ho=>by cases e;exact t ho),h.fr.then a (fun j c e=>(h.hO j e).elim .inl (fun e=>by omega)),Ae h.sz a.size⟩
theorem Gr.done(c:LE w9 b n0 n1 B4 B5 B7 Bt g O9 v9){n:List Nat}(h:Gr w9 b n0 n1 B4 B5 B7 Bt pb db sb so E p fn g off len cap d O9 v9 st9 t9 pre n v O W)(y:n.length=pre.length+1){i:Value}(q:cP b W' i (t9++Kc E fn d st9 0 n))(m:Fr (Own v) W W')(r:Dh W v i):Gr w9 b n0 n1 B4 B5 B7 Bt pb db sb so E p fn g off len cap d O9 v9 st9 t9 n n i O ((W'.setCell ⟨B5,0,none⟩ i).setCell ⟨Bt,0,none⟩ (.int .i64 ((pre.length:Int)+1))):=by
 obtain⟨q4,H,q7,I,qg⟩:=h.nO c;obtain⟨J,K,L,N,M⟩:=Om c h.hv;have aa:=h.sz;have en:=c.en;have et:=c.et;have l4:=c.l4;have l5:=c.l5;have l7:=c.l7;have G:=c.n5;have ab:=c.n0w;have F:=c.n45;have ac:=c.n57;have u:∀j,Own i j->Own v9 j\/n1<=j:=fun j f=>(r j f).elim (h.hv j) (fun e => .inr (by omega))
 obtain⟨s4,P,s7,Q,sg⟩:=Om c u;have A:Boxed W' B4 168 _:=(m.block _ h.b4.lt J).trans h.b4;have B:Boxed W' B5 59 _:=(m.block _ h.b5.lt K).trans h.b5;have C:FH W' B7 141 _:=(m.block _ h.b7.lt L).trans h.b7;have D:Boxed W' Bt 3 _:=(m.block _ h.bt.lt N).trans h.bt;have o:Fr (fun j=>Own v j\/j=B5\/j=Bt) W ((W'.setCell ⟨B5,0,none⟩ i).setCell ⟨Bt,0,none⟩ (.int .i64 ((pre.length:Int)+1))):=
  (Fr.set (X:=fun j=>Own v j\/j=B5\/j=Bt) (Fr.then (Fr.refl _ W) m (fun _ _ e => .inl e)) ⟨B5,0,none⟩ _ (.inr (.inl rfl))).set ⟨Bt,0,none⟩ _ (.inr (.inr rfl))
 have s:B5≠Bt:=by omega
 refine⟨h.st.keeps o (fun j f=>?_),h.hO,(A.other F _).other (by omega) _,(B.set _).other s _,?_,?_,⟨(q.1.setCell ⟨B5,0,none⟩ _ P).setCell ⟨Bt,0,none⟩ _ Q,q.2⟩,u,fun j f z=>?_,h.rd.fr o (fun x e _ l=>?_),h.fr.then o (fun k hk l=>?_),Ae h.sz o.size⟩
 ·rcases f with a|a|a
  ·exact⟨fun l=>h.dis j l a,(h.hv j a).elim (c.nv j) (fun e=>by omega)⟩
  ·subst a;exact⟨H,G⟩
  ·subst a;exact⟨I,by omega⟩
 ·exact(AB _ _ _ _ (show B7≠Bt by omega)).trans ((AB _ _ _ _ (show B7≠B5 by omega)).trans C)
 ·rw[y];exact(D.other (fun e=>s e.symm) _).set _
 ·rcases r j z with a|a
  ·exact h.dis j f a
  ·obtain⟨cs,t,w⟩:=h.st.cells f;have:=(Ah.1 w).1;omega
 ·cases e
  rcases l with a|a|a
  ·exact M a
  ·exact c.g5 a
  ·have:=c.gl;simp only at a;omega
 ·rcases l with a|a|a
  ·exact(h.hv k a).elim (fun e => .inr (.inl e)) (fun e=>by omega)
  ·exact .inr (.inr a)
  ·omega
theorem Gr.own(w:LE w9 b n0 n1 B4 B5 B7 Bt g O9 v9)(h:Gr w9 b n0 n1 B4 B5 B7 Bt pb db sb so E p fn g off len cap d O9 v9 st9 t9 pre pre' v O W){row:Option Nat}(a:W.grownBy W' row)(m:∀r,row=some r->n1<=r/\∃o:Obj,W.heap[r]?=some o/\o.isCells=false):Gr w9 b n0 n1 B4 B5 B7 Bt pb db sb so E p fn g off len cap d O9 v9 st9 t9 pre pre' v O W':=by
 have ne:∀(j:Nat) (c:Array Value) (t:TypeId) (z:Nat×Nat),W.heap[j]?=some (Obj.cells c t z)->some j≠row:=fun j c t z f e=>by
  obtain⟨o,u,D⟩:=(m j e.symm).2;rw[f]at u;cases u;cases D
 have i:∀(j:Nat) (c:Array Value) (t:TypeId) (z:Nat×Nat),W.heap[j]?=some (Obj.cells c t z)->W'.heap[j]?=some (Obj.cells c t z):=fun j c t z f=>(a.block j (Ah.1 f).1 (ne j c t z f)).trans f
 have gl:=w.gl;have en:=w.en;refine⟨h.st.abides a (fun r e=>(m r e).2),h.hO,i _ _ _ _ h.b4,i _ _ _ _ h.b5,i _ _ _ _ h.b7,i _ _ _ _ h.bt,⟨?_,h.rs.2⟩,h.hv,h.dis,?_,?_,Ae h.sz a.size⟩
 ·rcases h.rs.1.2 with⟨e,C⟩|⟨B,A,y,e,F,q⟩
  ·exact⟨h.rs.1.1,.inl ⟨e,C⟩⟩
  ·exact⟨h.rs.1.1,.inr ⟨B,A,y,e,i _ _ _ _ F,q⟩⟩
 ·exact h.rd.fr (P:=fun j=>row=some j) ⟨a.os,a.tape,a.output,a.size,fun k l n=>a.block k l (fun e=>n e.symm)⟩ (fun x e _ s=>by cases e;have:=(m _ s).1;simp only at this;omega)
 ·exact h.fr.then (Y:=fun j=>row=some j) ⟨a.os,a.tape,a.output,a.size,fun k l n=>a.block k l (fun e=>n e.symm)⟩ (fun k l s=>by have:=(m _ s).1;omega)
end
section
attribute [local go_sem] Oper.semAt_some
def KV(B4 B7 Bt pb fn t Bb:Nat)(L:LV)(V:World):Prop:=V.cell? ⟨B4,0,none⟩=some (.pointer (some ⟨pb,0,none⟩))/\V.cell? ⟨B7,2,none⟩=some (.int .i64 (fn:Nat))/\V.cell? ⟨Bt,0,none⟩=some (.int .i64 (t:Nat))/\V.rangeAt Bb 0 L
def Ld(w9:World)(b n0 n1 B4 B5 B7 Bt pb db sb so:Nat)(E:FL)(p:By)(fn g off len cap:Nat)(d:By)(O9:Nat->Prop)(v9:Value)(st9:Pl)(t9:By)(pre pre':List Nat)(v:Value)(O0 O:Nat->Prop)(x:Nat)(W V:World):Prop:=
 Gr w9 b n0 n1 B4 B5 B7 Bt pb db sb so E p fn g off len cap d O9 v9 st9 t9 pre pre' v O V/\Fr (fun j=>O0 j\/Own v j\/j=B5\/j=Bt) W V/\FH V W.heap.size 188 (Dd (Gq d x))/\(∀j,O0 j->j<W.heap.size)/\∀j,O j->j≠W.heap.size
def MP(w9:World)(b n0 n1 B4 B5 B7 Bt pb db sb so:Nat)(E:FL)(p:By)(fn g off len cap:Nat)(d:By)(O9:Nat->Prop)(v9:Value)(st9:Pl)(t9:By)(pre:List Nat)(W:World):Prop:=
 ∃v O,Gr w9 b n0 n1 B4 B5 B7 Bt pb db sb so E p fn g off len cap d O9 v9 st9 t9 pre pre v O W
theorem ZkD(K:World)(M:Nat)(hM:M<=1000)(b J n1 z c q l pb N Z so:Nat)(E:FL)(hE:F4 E)(hj:∃j,j<96/\E.nd j<=0)(p:By)(fn g off Y L:Nat)(ak:fn<65536)(d:By)(G:Nat->Prop)(I:Value)(m:Pl)(H:By)(av:H.size<=900000)
  (u:LE K b J n1 z c q l g G I) (h1:m.puts.length+M<=10000) (h2:m.ps.length+M<=1000000) (h3:m.hd<=1536) (al:∀y∈m.puts,∀i,i<M->y.1≠Dp 4 fn i)
  (a:List Nat) (x:Nat) (an:a.length<M) (W:World) (B:OA) (D C:Nat) (O:Nat->Prop) (h:Gr K b J n1 z c q l pb N Z so E p fn g off Y L d G I m H a a (.slice B D C) O W):
  (∀V,Cl 244 #[.int .u8 4,.int .i64 (fn:Nat),.int .i64 (a.length:Nat)] V fun e w'=>e = .returned (.int .u64 (Dp 4 fn a.length:Nat))/\w'=V)/\
  (∀V,Ld K b J n1 z c q l pb N Z so E p fn g off Y L d G I m H a a (.slice B D C) O O x W V->Cl 272 #[.pointer (some ⟨pb,0,none⟩),.int .u64 (Dp 4 fn a.length:Nat),DG (Gq d x)] V fun e f=>e = .returned (.agg #[.int .i64 ((E.put (E.puts (Dp 4 fn) (Gq d) m 0 a) (Dp 4 fn a.length) (Gq d x)).1:Nat),.int .u64 (D5 (Gq d x):Nat)])/\KV z q l pb fn a.length W.heap.size (Dd (Gq d x)) f/\f.cell? ⟨c,0,none⟩=some (.slice B D C)/\Hid (∃O',Ld K b J n1 z c q l pb N Z so E p fn g off Y L d G I m H a (a++[x]) (.slice B D C) O O' x W f))/\
  (∀V,(∃O',Ld K b J n1 z c q l pb N Z so E p fn g off Y L d G I m H a (a++[x]) (.slice B D C) O O' x W V)->Cl 214 #[.agg #[.int .i64 ((E.put (E.puts (Dp 4 fn) (Gq d) m 0 a) (Dp 4 fn a.length) (Gq d x)).1:Nat),.int .u64 (D5 (Gq d x):Nat)],.slice B D C] V fun e f=>∃r w s,e = .returned (.slice r w s)/\KV z q l pb fn a.length W.heap.size (Dd (Gq d x)) f/\KV z q l pb fn a.length W.heap.size (Dd (Gq d x)) (f.setCell ⟨c,0,none⟩ (.slice r w s))/\f.cell? ⟨c,0,none⟩=some (.slice B D C)/\f.frozen? ⟨c,0,none⟩=false/\(f.setCell ⟨c,0,none⟩ (.slice r w s)).frozen? ⟨l,0,none⟩=false/\
   Hid (KeepsOthers W ((f.setCell ⟨c,0,none⟩ (.slice r w s)).setCell ⟨l,0,none⟩ (.int .i64 ((a.length:Int)+1)))/\Q6 n1 c l (fun j=>G j\/Own I j) W ((f.setCell ⟨c,0,none⟩ (.slice r w s)).setCell ⟨l,0,none⟩ (.int .i64 ((a.length:Int)+1)))/\MP K b J n1 z c q l pb N Z so E p fn g off Y L d G I m H (a++[x]) ((f.setCell ⟨c,0,none⟩ (.slice r w s)).setCell ⟨l,0,none⟩ (.int .i64 ((a.length:Int)+1))))):=by
 have et:=u.et;have en:=u.en;have l4:=u.l4;have l5:=u.l5;have l7:=u.l7;have aq:=u.n45;have aw:=u.n57;have au:=h.sz;refine⟨fun V=>Vx V 4 fn a.length (by omega) ak (by omega),fun V hV=>?_,fun V hV=>?_⟩
 ·obtain⟨n,Q,S,af,ad⟩:=hV;obtain⟨q1,F,q3⟩:=FL.puts_len E (Dp 4 fn) (Gq d) m 0 a;have aj:=Q.size;have ac:=S.lt;refine(n.st.put hE hj (Dp 4 fn a.length) (Gq d x) (O1 _ _) (fun y hy e=>?_) (by omega) (by omega) (q3 h3)).mono ?_
  ·rcases FL.puts_mem E _ _ m 0 a y hy with hm|⟨j,_,r2,r3⟩
   ·exact al y hm _ an e
   ·have:=Tu (r3.symm.trans e);omega
  ·rintro e f ⟨rfl,O',r1,r2,r3⟩;have P:=FL.puts_snoc E (Dp 4 fn) (Gq d) m 0 a x;rw[Au]at P;rw[<-P]at r1;have T:=n.put u r1 r2 r3;have ae:FH f W.heap.size 188 (Dd (Gq d x)):=(r2.block _ ac (fun e=>ad _ e rfl)).trans S;refine⟨rfl,⟨T.b4.cell,(T.b7.cell 2).trans rfl,T.bt.cell,fun j v X=>by rw[ae.cell,Au];exact X⟩,T.b5.cell,O',T,Q.then r2 (fun k U e => .inl (by
    rcases Bk k W.heap.size with A|A
    ·exact e
    ·omega)),ae,af,fun j hj e=>?_⟩
   rcases r3 j hj with A|A
   ·exact ad j A e
   ·omega
 ·obtain⟨O',n,Q,S,af,ad⟩:=hV;have aj:=Q.size;have ac:=S.lt;have ar:(H++Kc E fn d m 0 a).size<=950000:=by rw[Ai,PB];omega
  refine(PP V b (by have:=u.nb;omega) B D C _ n.rs _ _ (Nat.lt_trans (hE.place_lt _ _ _) (by omega)) (OG _) (by omega)).mono ?_;rintro e f ⟨r,w,s,rfl,q1,F,q3⟩;have P:=VA E fn d m 0 a x;rw[Au]at P;rw[Jm,<-P]at q1;have hD:=n.done u (by simp) q1 F q3;obtain⟨r4,r5,r7,rt,rg⟩:=Om u n.hv;have am:¬Own (.slice B D C) W.heap.size:=fun e=>by have:=h.rs.1.lt e;omega
  have k4:Boxed f z 168 _:=(F.block _ n.b4.lt r4).trans n.b4;have k5:Boxed f c 59 _:=(F.block _ n.b5.lt r5).trans n.b5;have k7:FH f q 141 _:=(F.block _ n.b7.lt r7).trans n.b7;have kt:Boxed f l 3 _:=(F.block _ n.bt.lt rt).trans n.bt;have kL:FH f W.heap.size 188 (Dd (Gq d x)):=(F.block _ ac am).trans S;have ao:FH (f.setCell ⟨c,0,none⟩ (.slice r w s)) q 141 _:=(AB _ _ _ _ (show q≠c by omega)).trans k7;have ap:FH (f.setCell ⟨c,0,none⟩ (.slice r w s)) W.heap.size 188 (Dd (Gq d x)):=(AB _ _ _ _ (show W.heap.size≠c by omega)).trans kL;have aa:Fr (fun j=>O j\/Own (.slice B D C) j\/j=c\/j=l) W ((f.setCell ⟨c,0,none⟩ (.slice r w s)).setCell ⟨l,0,none⟩ (.int .i64 ((a.length:Int)+1))):=
   (Fr.set (Q.then F (fun _ _ e => .inr (.inl e))) ⟨c,0,none⟩ _ (.inr (.inr (.inl rfl)))).set ⟨l,0,none⟩ _ (.inr (.inr (.inr rfl)))
  refine⟨r,w,s,rfl,⟨k4.cell,(k7.cell 2).trans rfl,kt.cell,fun j v X=>by rw[kL.cell,Au];exact X⟩,⟨(k4.other aq _).cell,(ao.cell 2).trans rfl,(kt.other (show l≠c by omega) _).cell,fun j v X=>by rw[ap.cell,Au];exact X⟩,k5.cell,k5.frozen,(kt.other (show l≠c by omega) _).frozen,⟨aa.size,fun k o U ho=>?_⟩,⟨aa.size,fun k U hY ag ah=>?_⟩,_,O',hD⟩
  ·refine(aa.block k (Ah.1 U).1 (fun e=>?_)).trans U;have ab:∀cs t,W.heap[k]? ≠ some (Obj.cells cs t (0,0)):=fun cs t e2=>by rw[U]at e2;cases e2;cases ho
   rcases e with e|e|e|e
   ·obtain⟨cs,t,e2⟩:=h.st.cells e;exact ab _ _ e2
   ·obtain⟨R,ai⟩:=h.rs.1.type e;exact ab _ _ ai
   ·subst e;exact ab _ _ h.b5
   ·subst e;exact ab _ _ h.bt
  ·refine aa.block k (by omega) (fun e=>?_);rcases e with e|e|e|e
   ·rcases h.hO k e with A|A
    ·exact hY (.inl A)
    ·omega
   ·rcases h.hv k e with A|A
    ·exact hY (.inr A)
    ·omega
   ·exact ag e
   ·exact ah e
end
end Go.Proofs.YtaieidcohdhgpaaGreatDoor
