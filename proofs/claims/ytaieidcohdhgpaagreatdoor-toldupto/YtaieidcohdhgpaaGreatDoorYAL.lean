/- Told. -/
import Derived.Test.YtaieidcohdhgpaaGreatDoorYAK
namespace Go.Proofs.YtaieidcohdhgpaaGreatDoor
set_option maxHeartbeats 40000000
set_option maxRecDepth 100000
section
open Tryz
open Go.RowKit Go.Shelf
attribute [local go_sem] Oper.semAt_some
def Ds(last p:By)(k:Nat):By:=⟨#[UInt8.ofNat k,UInt8.ofNat (Kl last p),UInt8.ofNat (p.size-Kl last p)]⟩
def Do(last p:By):By:=p.extract (Kl last p) p.size
theorem Uo(a b:By):Kl a b<=a.size/\Kl a b<=b.size:=Rd _ _
def QC(w:World)(b n0 pb db sb so:Nat)(E:FZ)(O0:Nat->Prop)(v0:Value)(st:Pl)(t:By)(e:Ending)(w':World):Prop:=
 ∃a' l' c' O',e=.returned (.slice a' l' c')/\F9 b w' (.slice a' l' c') t/\GV n0 pb db sb so E st O' w'/\(∀j,O' j->O0 j\/w.heap.size<=j)/\(∀j,Own (.slice a' l' c') j->Own v0 j\/w.heap.size<=j)/\(∀j,O' j->¬Own (.slice a' l' c') j)/\Fr (λj=>O0 j\/Own v0 j) w w'
theorem Gb.post{w:World}{b m q r s pb i n so:Nat}{E:FZ}{p:By}{k:Nat}{f:Int}{v:Value}{g:Nat->Prop}{o:Value}{st:Pl}{O:Nat->Prop}{a:OA}{l c:Nat}{t:By}{W:World}(h:Gb w b m q r s pb i n so E p k f v g o st O (.slice a l c) t W){e:Ending}(u:e=.returned (.slice a l c)):QC w b m pb i n so E g o st t e W:=
 ⟨a,l,c,O,u,h.rs,h.st,λj d=>(h.hO j d).imp id (λe=>by omega),λj d=>(h.hv j d).imp id (λe=>by omega),h.dis,h.fr⟩
theorem Zmw(w:World)(b F pb I P so:Nat)(E:FZ)(st:Pl)(l:Nat->Prop)(ad:GV F pb I P so E st l w)(c:OA)(h f:Nat)(s:By)(hs:F9 b w (.slice c h f) s)(aR:s.size<=1000000)(an:∀j,l j->¬Own (.slice c h f) j)(ao:∀j,Own (.slice c h f) j->F<=j)(T:b<=w.heap.size)(a p:By)(aO:a.size<=100000)(hp:p.size<=100000)(fn:Nat)(_hfn:fn<=100000)(vd:Value)(aI:∃x y z,vd=.slice x y z):
  Cl 236 #[.pointer (some ⟨pb,0,none⟩),.slice c h f,.string a,.agg #[.string p,.int .u8 1,.int .i64 (fn:Nat),vd]] w (QC w b F pb I P so E l (.slice c h f) st (s++Ds a p 1++Do a p)):=by
 obtain⟨x,y,z,rfl⟩:=aI;obtain⟨W1,e1,x1,k1,s1,b1⟩:=De w [.pointer (some ⟨pb,0,none⟩)] 168;obtain⟨W2,e2,x2,k2,s2,b2⟩:=De W1 [.slice c h f] 59;obtain⟨B,e3,x3,k3,s3,b3⟩:=De W2 [.string p,.int .u8 1,.int .i64 (fn:Nat),.slice x y z] 141;have L:Bw w B:=b1.trans ((b2.mono (by omega)).trans (b3.mono (by omega)));have y1:=k3 _ _ _ (k2 _ _ _ x1);have y2:=k3 _ _ _ x2;have t2:W2.heap.size=w.heap.size+1+1:=by omega
 rw[s1]at y2;rw[t2]at x3;have am:∀j,l j->j<w.heap.size:=λj R=>by obtain⟨cs,t,T⟩:=ad.cells R;exact(Aj.1 T).1
 have hB:LA w b F w.heap.size (w.heap.size+1) (w.heap.size+1+1) l (.slice c h f):=⟨rfl,rfl,rfl,am,λj R=>hs.1.lt R,ao,T,ad.2.2.1⟩;have al:Gb w b F w.heap.size (w.heap.size+1) (w.heap.size+1+1) pb I P so E p 1 (fn:Nat) (.slice x y z) l (.slice c h f) st l (.slice c h f) s B:=⟨ad.abides (row:=none) ⟨L.os,L.tape,L.output,L.size,λk hk _=>L.block k hk⟩ (λr e=>by cases e),λj R => .inl R,y1,y2,x3,hs.below L,λj R => .inl R,an,Fr.of_below L,by omega⟩;obtain⟨N,hN⟩:=ex (Kl a p);have aM:N<=p.size:=by rw[hN];exact(Uo _ _).2
 obtain⟨W,aa⟩:∃M:Nat,M=(UInt8.ofNat N).toNat:=⟨_,rfl⟩;obtain⟨N2,ab⟩:∃M:Nat,M=(UInt8.ofNat (p.size-N)).toNat:=⟨_,rfl⟩;have af:((p.size:Int)-(N:Int))=((p.size-N:Nat):Int):=by omega
 have aS:IntKind.u8.wrap (N:Int)=(W:Int):=by rw[aa];exact J6 N
 have aU:IntKind.u8.wrap ((p.size:Int)-(N:Int))=(N2:Int):=by rw[ab,af];exact J6 _
 have aT:(N:Int)%256=(W:Int):=by rw[aa,BQ];omega
 have aV:((p.size:Int)-(N:Int))%256=(N2:Int):=by rw[ab,af,BQ];omega
 clear af;have av:=Db al;have Q:=Db hB;have HA:Hid (∀X,Bw B X->X.cell? ⟨(w.heap.size+1),0,none⟩=some (.slice c h f)/\X.cell? ⟨(w.heap.size+1+1),0,none⟩=some (.string p)/\X.cell? ⟨(w.heap.size+1+1),1,none⟩=some (.int .u8 1)/\∃Y d i g w1,X.alloc (.cells #[.int .u8 1,.int .u8 (W:Nat),.int .u8 (N2:Nat)] 5)=Y/\Y.cell? ⟨(w.heap.size+1),0,none⟩=some (.slice c h f)/\(Builtin.append_ #[59,59] 59 #[.slice c h f,.slice (some ⟨X.heap.size,0,none⟩) 3 3]).run prog Y=.ok (.slice d i g) w1/\w1.cell? ⟨(w.heap.size+1),0,none⟩=some (.slice c h f)/\w1.frozen? ⟨(w.heap.size+1),0,none⟩=false/\∃Z,w1.setCell ⟨(w.heap.size+1),0,none⟩ (.slice d i g)=Z/\Hid (Gb w b F w.heap.size (w.heap.size+1) (w.heap.size+1+1) pb I P so E p 1 (fn:Nat) (.slice x y z) l (.slice c h f) st l (.slice d i g) (s++Ds a p 1) Z)):=λX hX=>by
  have D:=(Da av).below hX;obtain⟨Y,eY,xY,kY,sY,bY⟩:=De X [.int .u8 1,.int .u8 (W:Nat),.int .u8 (N2:Nat)] 5;have v:=D.below bY;have ae:Dc (Ds a p 1)=[.int .u8 1,.int .u8 (W:Nat),.int .u8 (N2:Nat)]:=by
   rw[aa,ab,hN];rfl
  obtain⟨d,i,g,w1,U,r2,H,r4⟩:=JX Y b (Af T (Af v.fr.size (Aa _))) _ _ v.rs ⟨X.heap.size,0,none⟩ 3 3 (Ds a p 1) rfl (λj u hu=>by rw[AI,Av,xY.cell,<-ae];exact hu) (by omega);have O:Boxed w1 (w.heap.size+1) 59 (.slice c h f):=(H.block _ v.b5.lt (λe=>by rcases v.hv _ e with q|q;(have:=(Da Q).ov _ q;omega);omega)).trans v.b5;exact⟨D.b5.cell,(D.b7.cell 0).trans rfl,(D.b7.cell 1).trans rfl,Y,d,i,g,w1,eY,v.b5.cell,U,O.cell,O.frozen,_,rfl,v.say (Da Q) r2 H r4⟩
 have HT:Hid (∀Z d i g,Gb w b F w.heap.size (w.heap.size+1) (w.heap.size+1+1) pb I P so E p 1 (fn:Nat) (.slice x y z) l (.slice c h f) st l (.slice d i g) (s++Ds a p 1) Z->Z.cell? ⟨(w.heap.size+1),0,none⟩=some (.slice d i g)/\Z.cell? ⟨(w.heap.size+1+1),0,none⟩=some (.string p)/\∃m A o w2,(Builtin.append_ #[59,9] 59 #[.slice d i g,.string (p.extract N p.size)]).run prog Z.drew=.ok (.slice m A o) w2/\w2.cell? ⟨(w.heap.size+1),0,none⟩=some (.slice d i g)/\w2.cell? ⟨(w.heap.size+1+1),0,none⟩=some (.string p)/\w2.frozen? ⟨(w.heap.size+1),0,none⟩=false/\∃V,w2.setCell ⟨(w.heap.size+1),0,none⟩ (.slice m A o)=V/\V.cell? ⟨(w.heap.size+1),0,none⟩=some (.slice m A o)/\V.cell? ⟨(w.heap.size+1+1),0,none⟩=some (.string p)/\V.cell? ⟨(w.heap.size+1+1),1,none⟩=some (.int .u8 1)/\V.cell? ⟨(w.heap.size+1+1),2,none⟩=some (.int .i64 (fn:Nat))/\Hid (Gb w b F w.heap.size (w.heap.size+1) (w.heap.size+1+1) pb I P so E p 1 (fn:Nat) (.slice x y z) l (.slice c h f) st l (.slice m A o) (s++Ds a p 1++Do a p) V)):=λZ d i g D=>by
  have G:=D.below (Ak _ _).drew;have aH:(s++Ds a p 1).size=s.size+3:=by rw[Ai];rfl
  have aP:(Do a p).size<=p.size:=by unfold Do;rw[Ah];omega
  have aA:Do a p=p.extract N p.size:=by unfold Do;rw[hN]
  obtain⟨m,A,o,w2,U,r2,H,r4⟩:=UT Z.drew b (Af T G.fr.size) _ _ G.rs (Do a p) (by omega);rw[aA]at U;have O:Boxed w2 (w.heap.size+1) 59 (.slice d i g):=(H.block _ G.b5.lt (λe=>by rcases G.hv _ e with q|q;(have:=(Da Q).ov _ q;omega);omega)).trans G.b5;have q7:FX w2 (w.heap.size+1+1) 141 _:=(H.block _ G.b7.lt (λe=>by rcases G.hv _ e with q|q;(have:=(Da Q).ov _ q;omega);omega)).trans G.b7;have C:=G.say (Da Q) r2 H r4;exact⟨D.b5.cell,(D.b7.cell 0).trans rfl,m,A,o,w2,U,O.cell,(q7.cell 0).trans rfl,O.frozen,_,rfl,C.b5.cell,(C.b7.cell 0).trans rfl,(C.b7.cell 1).trans rfl,(C.b7.cell 2).trans rfl,C⟩
 obtain⟨N3,ac⟩:∃M:Nat,M=(UInt8.ofNat fn).toNat:=⟨_,rfl⟩;have aW:IntKind.u8.wrap (fn:Int)=(N3:Int):=by rw[ac];exact J6 fn
 have aX:(fn:Int)%256=(N3:Int):=by rw[ac,BQ];omega
 have HC:Hid (∀Z d i g,Gb w b F w.heap.size (w.heap.size+1) (w.heap.size+1+1) pb I P so E p 1 (fn:Nat) (.slice x y z) l (.slice c h f) st l (.slice d i g) (s++Ds a p 1++Do a p) Z->∃Y m A o w2,Z.alloc (.cells #[.int .u8 (N3:Nat)] 5)=Y/\(Builtin.append_ #[59,59] 59 #[.slice d i g,.slice (some ⟨Z.heap.size,0,none⟩) 1 1]).run prog Y=.ok (.slice m A o) w2/\w2.cell? ⟨(w.heap.size+1),0,none⟩=some (.slice d i g)/\w2.frozen? ⟨(w.heap.size+1),0,none⟩=false/\∃V,w2.setCell ⟨(w.heap.size+1),0,none⟩ (.slice m A o)=V/\V.cell? ⟨(w.heap.size+1),0,none⟩=some (.slice m A o)/\V.cell? ⟨(w.heap.size+1+1),1,none⟩=some (.int .u8 1)/\V.cell? ⟨(w.heap.size+1+1),3,none⟩=some (.slice x y z)/\Hid (Gb w b F w.heap.size (w.heap.size+1) (w.heap.size+1+1) pb I P so E p 1 (fn:Nat) (.slice x y z) l (.slice c h f) st l (.slice m A o) (s++Ds a p 1++Do a p++⟨#[UInt8.ofNat fn]⟩) V)):=λZ d i g D=>by
  obtain⟨Y,eY,xY,kY,sY,bY⟩:=De Z [.int .u8 (N3:Nat)] 5;have v:=D.below bY;have ae:Dc ⟨#[UInt8.ofNat fn]⟩=[.int .u8 (N3:Nat)]:=by rw[ac];rfl
  have aH:(s++Ds a p 1++Do a p).size<=s.size+3+p.size:=by
   rw[Ai,Ai];have q:(Ds a p 1).size=3:=rfl;have h2:(Do a p).size<=p.size:=by unfold Do;rw[Ah];omega
   omega
  obtain⟨m,A,o,w2,U,r2,H,r4⟩:=JX Y b (Af T v.fr.size) _ _ v.rs ⟨Z.heap.size,0,none⟩ 1 1 ⟨#[UInt8.ofNat fn]⟩ rfl (λj u hu=>by rw[AI,Av,xY.cell,<-ae];exact hu) (by omega);have O:Boxed w2 (w.heap.size+1) 59 (.slice d i g):=(H.block _ v.b5.lt (λe=>by rcases v.hv _ e with q|q;(have:=(Da Q).ov _ q;omega);omega)).trans v.b5;have C:=v.say (Da Q) r2 H r4;exact⟨Y,m,A,o,w2,eY,U,O.cell,O.frozen,_,rfl,C.b5.cell,(C.b7.cell 1).trans rfl,(C.b7.cell 3).trans rfl,C⟩
 have ai:Hid (Cl 271 #[.string a,.string p] B λe X=>e=.returned (.int .i64 (N:Nat))/\Hid (Bw B X)):=(OL a p B (by omega) (by omega)).mono (λe X ⟨q,_,h2⟩=>⟨by rw[q,hN],h2⟩);have aQ:IntKind.i64.wrap ((p.size:Int)-(N:Int))=(p.size:Int)-(N:Int):=by rw[AV];omega
 have aN:(N:Int)<=(p.size:Int):=by omega
 have aq:=Db e1;have ar:=Db e2;have au:=Db e3;have aj:=(x3.cell 0);have aG:B.cell? ⟨(w.heap.size+1+1),0,none⟩=some (.string p):=aj.trans rfl;clear hN aa ab ac aj e1 e2 e3 x1 x2 x3 k1 k2 k3 s1 s2 s3 b1 b2 b3 y1 y2 t2 am hB al ad hs an ao L;refine(A2 (n:=3)).1 ?_;refine Br func236 rfl trivial ?_ rfl;simp only[ntmps236,AM,Al,AK,Nat.reduceAdd,Nat.reduceSub,AQ,AP,AZ,AT,AD,AN]
 gi_step
 refine BE.2 (AX ?_);go_wp2;rw[show w.alloc (.cells #[.pointer (some ⟨pb,0,none⟩)] 168)=W1 from Da aq,show W1.alloc (.cells #[.slice c h f] 59)=W2 from Da ar,show W2.alloc (.cells #[.string p,.int .u8 1,.int .i64 (fn:Nat),.slice x y z] 141)=B from Da au]
 gi_step
 refine BE.2 (AX ?_);go_wp2_with(go_at_call 271;refine(Da ai).mono ?_;rintro e X⟨rfl,HX⟩);obtain⟨aC,aD,aE,Y,d,i,g,w1,hY,aB,ag,aJ,aF,Z,hZ,ah⟩:=Da HA X (Da HX);rw[<-hY]at ag;have HZ:=Db hZ;clear hY hZ aB HA ai aG
 gi_step
 refine BE.2 (AX ?_);go_wp2_with(at_builtin;refine A0 _ rfl _ _ 59 59 rfl _ _ rfl rfl _ _ ag ?_);rw[Da HZ];obtain⟨m5,m7,m,A,o,w2,ap,n5,n7,aK,V,hV,v5,aL,aY,aZ,aw⟩:=Da HT Z d i g (Da ah);have HV:=Db hV;clear hV ag aJ aF aC aD aE HZ HT ah
 gi_step
 refine EH Qo ?_;refine BE.2 ?_;refine AE (S:=λX=>X.cell? ⟨(w.heap.size+1+1),0,none⟩=some (.string p)) (by kernel_rfl) m7 (λak=>?_);refine tk 1 ?_;refine tk 2 ?_;refine tk 3 ?_;refine tk 4 ?_;refine rk 0 (λK J=>?_);go_simp;refine J.out _ _ ak (λax=>?_);clear J K
 try simp only[pE]
 refine rk 5 (λK J=>?_);refine JV rfl _ _ 59 9 rfl _ _ rfl rfl ap ?_;refine J.out _ _ n7 (λay=>?_);clear J K
 try simp only[pE]
 refine rk 6 (λK J=>?_);go_simp;rw[Da HV];refine J.out _ _ aL (λaz=>?_);clear J K
 try simp only[pE]
 refine AO (by kernel_rfl) ?_ _;refine K8 ?_;clear ax ay az ak ap n5 n7 aK m5 m7 HV
 gi_wp2
 exact⟨_,Eu rfl _ _ _,(Da aw).post rfl⟩
theorem ZkJ(w:World)(b F pb I P so:Nat)(E:FZ)(st:Pl)(l:Nat->Prop)(ad:GV F pb I P so E st l w)(c:OA)(h f:Nat)(s:By)(hs:F9 b w (.slice c h f) s)(aX:s.size<=1000000)(ar:∀j,l j->¬Own (.slice c h f) j)(au:∀j,Own (.slice c h f) j->F<=j)(T:b<=w.heap.size)(a p:By)(aU:a.size<=100000)(hp:p.size<=100000)(fn:Nat)(_hfn:fn<=100000)(vd:Value)(aN:∃x y z,vd=.slice x y z):
  Cl 236 #[.pointer (some ⟨pb,0,none⟩),.slice c h f,.string a,.agg #[.string p,.int .u8 3,.int .i64 (fn:Nat),vd]] w (QC w b F pb I P so E l (.slice c h f) st (s++Ds a p 3++Do a p++⟨#[UInt8.ofNat fn]⟩)):=by
 obtain⟨x,y,z,rfl⟩:=aN;obtain⟨W1,e1,x1,k1,s1,b1⟩:=De w [.pointer (some ⟨pb,0,none⟩)] 168;obtain⟨W2,e2,x2,k2,s2,b2⟩:=De W1 [.slice c h f] 59;obtain⟨B,e3,x3,k3,s3,b3⟩:=De W2 [.string p,.int .u8 3,.int .i64 (fn:Nat),.slice x y z] 141;have L:Bw w B:=b1.trans ((b2.mono (by omega)).trans (b3.mono (by omega)));have y1:=k3 _ _ _ (k2 _ _ _ x1);have y2:=k3 _ _ _ x2;have t2:W2.heap.size=w.heap.size+1+1:=by omega
 rw[s1]at y2;rw[t2]at x3;have ap:∀j,l j->j<w.heap.size:=λj R=>by obtain⟨cs,t,T⟩:=ad.cells R;exact(Aj.1 T).1
 have hB:LA w b F w.heap.size (w.heap.size+1) (w.heap.size+1+1) l (.slice c h f):=⟨rfl,rfl,rfl,ap,λj R=>hs.1.lt R,au,T,ad.2.2.1⟩;have ao:Gb w b F w.heap.size (w.heap.size+1) (w.heap.size+1+1) pb I P so E p 3 (fn:Nat) (.slice x y z) l (.slice c h f) st l (.slice c h f) s B:=⟨ad.abides (row:=none) ⟨L.os,L.tape,L.output,L.size,λk hk _=>L.block k hk⟩ (λr e=>by cases e),λj R => .inl R,y1,y2,x3,hs.below L,λj R => .inl R,ar,Fr.of_below L,by omega⟩;obtain⟨N,hN⟩:=ex (Kl a p);have aS:N<=p.size:=by rw[hN];exact(Uo _ _).2
 obtain⟨N1,aa⟩:∃M:Nat,M=(UInt8.ofNat N).toNat:=⟨_,rfl⟩;obtain⟨N2,ab⟩:∃M:Nat,M=(UInt8.ofNat (p.size-N)).toNat:=⟨_,rfl⟩;have af:((p.size:Int)-(N:Int))=((p.size-N:Nat):Int):=by omega
 have aY:IntKind.u8.wrap (N:Int)=(N1:Int):=by rw[aa];exact J6 N
 have a4:IntKind.u8.wrap ((p.size:Int)-(N:Int))=(N2:Int):=by rw[ab,af];exact J6 _
 have aZ:(N:Int)%256=(N1:Int):=by rw[aa,BQ];omega
 have a5:((p.size:Int)-(N:Int))%256=(N2:Int):=by rw[ab,af,BQ];omega
 clear af;have aA:=Db ao;have Q:=Db hB;have HA:Hid (∀X,Bw B X->X.cell? ⟨(w.heap.size+1),0,none⟩=some (.slice c h f)/\X.cell? ⟨(w.heap.size+1+1),0,none⟩=some (.string p)/\X.cell? ⟨(w.heap.size+1+1),1,none⟩=some (.int .u8 3)/\∃Y d i g w1,X.alloc (.cells #[.int .u8 3,.int .u8 (N1:Nat),.int .u8 (N2:Nat)] 5)=Y/\Y.cell? ⟨(w.heap.size+1),0,none⟩=some (.slice c h f)/\(Builtin.append_ #[59,59] 59 #[.slice c h f,.slice (some ⟨X.heap.size,0,none⟩) 3 3]).run prog Y=.ok (.slice d i g) w1/\w1.cell? ⟨(w.heap.size+1),0,none⟩=some (.slice c h f)/\w1.frozen? ⟨(w.heap.size+1),0,none⟩=false/\∃Z,w1.setCell ⟨(w.heap.size+1),0,none⟩ (.slice d i g)=Z/\Hid (Gb w b F w.heap.size (w.heap.size+1) (w.heap.size+1+1) pb I P so E p 3 (fn:Nat) (.slice x y z) l (.slice c h f) st l (.slice d i g) (s++Ds a p 3) Z)):=λX hX=>by
  have D:=(Da aA).below hX;obtain⟨Y,eY,xY,kY,sY,bY⟩:=De X [.int .u8 3,.int .u8 (N1:Nat),.int .u8 (N2:Nat)] 5;have A:=D.below bY;have ae:Dc (Ds a p 3)=[.int .u8 3,.int .u8 (N1:Nat),.int .u8 (N2:Nat)]:=by
   rw[aa,ab,hN];rfl
  obtain⟨d,i,g,w1,W,r2,H,r4⟩:=JX Y b (Af T (Af A.fr.size (Aa _))) _ _ A.rs ⟨X.heap.size,0,none⟩ 3 3 (Ds a p 3) rfl (λj u hu=>by rw[AI,Av,xY.cell,<-ae];exact hu) (by omega);have O:Boxed w1 (w.heap.size+1) 59 (.slice c h f):=(H.block _ A.b5.lt (λe=>by rcases A.hv _ e with v|v;(have:=(Da Q).ov _ v;omega);omega)).trans A.b5;exact⟨D.b5.cell,(D.b7.cell 0).trans rfl,(D.b7.cell 1).trans rfl,Y,d,i,g,w1,eY,A.b5.cell,W,O.cell,O.frozen,_,rfl,A.say (Da Q) r2 H r4⟩
 have HT:Hid (∀Z d i g,Gb w b F w.heap.size (w.heap.size+1) (w.heap.size+1+1) pb I P so E p 3 (fn:Nat) (.slice x y z) l (.slice c h f) st l (.slice d i g) (s++Ds a p 3) Z->Z.cell? ⟨(w.heap.size+1),0,none⟩=some (.slice d i g)/\Z.cell? ⟨(w.heap.size+1+1),0,none⟩=some (.string p)/\∃m q o w2,(Builtin.append_ #[59,9] 59 #[.slice d i g,.string (p.extract N p.size)]).run prog Z.drew=.ok (.slice m q o) w2/\w2.cell? ⟨(w.heap.size+1),0,none⟩=some (.slice d i g)/\w2.cell? ⟨(w.heap.size+1+1),0,none⟩=some (.string p)/\w2.frozen? ⟨(w.heap.size+1),0,none⟩=false/\∃V,w2.setCell ⟨(w.heap.size+1),0,none⟩ (.slice m q o)=V/\V.cell? ⟨(w.heap.size+1),0,none⟩=some (.slice m q o)/\V.cell? ⟨(w.heap.size+1+1),0,none⟩=some (.string p)/\V.cell? ⟨(w.heap.size+1+1),1,none⟩=some (.int .u8 3)/\V.cell? ⟨(w.heap.size+1+1),2,none⟩=some (.int .i64 (fn:Nat))/\Hid (Gb w b F w.heap.size (w.heap.size+1) (w.heap.size+1+1) pb I P so E p 3 (fn:Nat) (.slice x y z) l (.slice c h f) st l (.slice m q o) (s++Ds a p 3++Do a p) V)):=λZ d i g D=>by
  have G:=D.below (Ak _ _).drew;have aM:(s++Ds a p 3).size=s.size+3:=by rw[Ai];rfl
  have aV:(Do a p).size<=p.size:=by unfold Do;rw[Ah];omega
  have aF:Do a p=p.extract N p.size:=by unfold Do;rw[hN]
  obtain⟨m,q,o,w2,W,r2,H,r4⟩:=UT Z.drew b (Af T G.fr.size) _ _ G.rs (Do a p) (by omega);rw[aF]at W;have O:Boxed w2 (w.heap.size+1) 59 (.slice d i g):=(H.block _ G.b5.lt (λe=>by rcases G.hv _ e with v|v;(have:=(Da Q).ov _ v;omega);omega)).trans G.b5;have q7:FX w2 (w.heap.size+1+1) 141 _:=(H.block _ G.b7.lt (λe=>by rcases G.hv _ e with v|v;(have:=(Da Q).ov _ v;omega);omega)).trans G.b7;have C:=G.say (Da Q) r2 H r4;exact⟨D.b5.cell,(D.b7.cell 0).trans rfl,m,q,o,w2,W,O.cell,(q7.cell 0).trans rfl,O.frozen,_,rfl,C.b5.cell,(C.b7.cell 0).trans rfl,(C.b7.cell 1).trans rfl,(C.b7.cell 2).trans rfl,C⟩
 obtain⟨N3,ac⟩:∃M:Nat,M=(UInt8.ofNat fn).toNat:=⟨_,rfl⟩;have a6:IntKind.u8.wrap (fn:Int)=(N3:Int):=by rw[ac];exact J6 fn
 have a7:(fn:Int)%256=(N3:Int):=by rw[ac,BQ];omega
 have HC:Hid (∀Z d i g,Gb w b F w.heap.size (w.heap.size+1) (w.heap.size+1+1) pb I P so E p 3 (fn:Nat) (.slice x y z) l (.slice c h f) st l (.slice d i g) (s++Ds a p 3++Do a p) Z->∃Y m q o w2,Z.alloc (.cells #[.int .u8 (N3:Nat)] 5)=Y/\(Builtin.append_ #[59,59] 59 #[.slice d i g,.slice (some ⟨Z.heap.size,0,none⟩) 1 1]).run prog Y=.ok (.slice m q o) w2/\w2.cell? ⟨(w.heap.size+1),0,none⟩=some (.slice d i g)/\w2.frozen? ⟨(w.heap.size+1),0,none⟩=false/\∃V,w2.setCell ⟨(w.heap.size+1),0,none⟩ (.slice m q o)=V/\V.cell? ⟨(w.heap.size+1),0,none⟩=some (.slice m q o)/\V.cell? ⟨(w.heap.size+1+1),1,none⟩=some (.int .u8 3)/\V.cell? ⟨(w.heap.size+1+1),3,none⟩=some (.slice x y z)/\Hid (Gb w b F w.heap.size (w.heap.size+1) (w.heap.size+1+1) pb I P so E p 3 (fn:Nat) (.slice x y z) l (.slice c h f) st l (.slice m q o) (s++Ds a p 3++Do a p++⟨#[UInt8.ofNat fn]⟩) V)):=λZ d i g D=>by
  obtain⟨Y,eY,xY,kY,sY,bY⟩:=De Z [.int .u8 (N3:Nat)] 5;have A:=D.below bY;have ae:Dc ⟨#[UInt8.ofNat fn]⟩=[.int .u8 (N3:Nat)]:=by rw[ac];rfl
  have aM:(s++Ds a p 3++Do a p).size<=s.size+3+p.size:=by
   rw[Ai,Ai];have v:(Ds a p 3).size=3:=rfl;have h2:(Do a p).size<=p.size:=by unfold Do;rw[Ah];omega
   omega
  obtain⟨m,q,o,w2,W,r2,H,r4⟩:=JX Y b (Af T A.fr.size) _ _ A.rs ⟨Z.heap.size,0,none⟩ 1 1 ⟨#[UInt8.ofNat fn]⟩ rfl (λj u hu=>by rw[AI,Av,xY.cell,<-ae];exact hu) (by omega);have O:Boxed w2 (w.heap.size+1) 59 (.slice d i g):=(H.block _ A.b5.lt (λe=>by rcases A.hv _ e with v|v;(have:=(Da Q).ov _ v;omega);omega)).trans A.b5;have C:=A.say (Da Q) r2 H r4;exact⟨Y,m,q,o,w2,eY,W,O.cell,O.frozen,_,rfl,C.b5.cell,(C.b7.cell 1).trans rfl,(C.b7.cell 3).trans rfl,C⟩
 have al:Hid (Cl 271 #[.string a,.string p] B λe X=>e=.returned (.int .i64 (N:Nat))/\Hid (Bw B X)):=(OL a p B (by omega) (by omega)).mono (λe X ⟨v,_,h2⟩=>⟨by rw[v,hN],h2⟩);have aW:IntKind.i64.wrap ((p.size:Int)-(N:Int))=(p.size:Int)-(N:Int):=by rw[AV];omega
 have aT:(N:Int)<=(p.size:Int):=by omega
 have ax:=Db e1;have ay:=Db e2;have az:=Db e3;have am:=(x3.cell 0);have aL:B.cell? ⟨(w.heap.size+1+1),0,none⟩=some (.string p):=am.trans rfl;clear hN aa ab ac am e1 e2 e3 x1 x2 x3 k1 k2 k3 s1 s2 s3 b1 b2 b3 y1 y2 t2 ap hB ao ad hs ar au L;refine(A2 (n:=3)).1 ?_;refine Br func236 rfl trivial ?_ rfl;simp only[ntmps236,AM,Al,AK,Nat.reduceAdd,Nat.reduceSub,AQ,AP,AZ,AT,AD,AN]
 gi_step
 refine BE.2 (AX ?_);go_wp2;rw[show w.alloc (.cells #[.pointer (some ⟨pb,0,none⟩)] 168)=W1 from Da ax,show W1.alloc (.cells #[.slice c h f] 59)=W2 from Da ay,show W2.alloc (.cells #[.string p,.int .u8 3,.int .i64 (fn:Nat),.slice x y z] 141)=B from Da az]
 gi_step
 refine BE.2 (AX ?_);go_wp2_with(go_at_call 271;refine(Da al).mono ?_;rintro e X⟨rfl,HX⟩);obtain⟨aH,aI,aJ,Y,d,i,g,w1,hY,aG,ag,ai,aK,Z,hZ,aj⟩:=Da HA X (Da HX);rw[<-hY]at ag;have HZ:=Db hZ;clear hY hZ aG HA al aL
 gi_step
 refine BE.2 (AX ?_);go_wp2_with(at_builtin;refine A0 _ rfl _ _ 59 59 rfl _ _ rfl rfl _ _ ag ?_);rw[Da HZ];obtain⟨m5,m7,m,q,o,w2,av,n5,n7,aP,V,hV,v5,aw,aQ,aR,ak⟩:=Da HT Z d i g (Da aj);have HV:=Db hV;clear hV ag ai aK aH aI aJ HZ HT aj
 gi_step
 refine EH Qo ?_;refine BE.2 ?_;refine AE (S:=λX=>X.cell? ⟨(w.heap.size+1+1),0,none⟩=some (.string p)) (by kernel_rfl) m7 (λan=>?_);refine tk 1 ?_;refine tk 2 ?_;refine tk 3 ?_;refine tk 4 ?_;refine rk 0 (λK J=>?_);go_simp;refine J.out _ _ an (λaC=>?_);clear J K
 try simp only[pE]
 refine rk 5 (λK J=>?_);refine JV rfl _ _ 59 9 rfl _ _ rfl rfl av ?_;refine J.out _ _ n7 (λaD=>?_);clear J K
 try simp only[pE]
 refine rk 6 (λK J=>?_);go_simp;rw[Da HV];refine J.out _ _ aw (λaE=>?_);clear J K
 try simp only[pE]
 refine AO (by kernel_rfl) ?_ _;refine K8 ?_;clear aC aD aE an av n5 n7 aP m5 m7 HV;obtain⟨Y3,a3,l3,c3,w3,aq,ah,ai,aO,U,hU,u5,a8,a9,aB⟩:=Da HC V m q o (Da ak);rw[<-aq]at ah;have HU:=Db hU;clear aq hU HC
 gi_step
 gi_step
 gi_step
 gi_step
 refine BE.2 (AX ?_);go_wp2
 gi_step
 gi_step
 gi_step
 gi_step
 gi_step
 refine BE.2 (AX ?_);go_wp2_with(at_builtin;refine A0 _ rfl _ _ 59 59 rfl _ _ rfl rfl _ _ ah ?_);rw[Da HU];clear ah ai aO HU v5 aw aQ aR ak
 gi_wp2
 exact⟨_,Eu rfl _ _ _,(Da aB).post rfl⟩
end
open Go.RowKit Go.Shelf
def Gn(d:By)(x:Nat):By:=Di (Hy d 64 x) 64
theorem Qr(d:By)(x:Nat):(Gn d x).size=64:=Jc _ _
theorem spl_dt(c:By)(hc:c.size<=64):F2 (Dc (Dn 64)) 0 (Dc c)=Dc (Di c 64):=by
 have a:Dc (Dn 64)=List.replicate 64 (.int .u8 0):=QZ 64;unfold F2 Di;by_cases h:64<=c.size
 ·rw[if_pos h,Jp];have e:c.size=64:=by omega
  rw[B8 (by rw[a,Bj,Dg];omega),BV,Ag (l:=Dc c) (by rw[Dg];omega)];simp
 ·rw[if_neg h,Jz,a,Cs,AD,Dg,Av,CP]
  congr 1
  simp[Dc]
def JQ(E:FZ)(fn:Nat)(d:By)(st:Pl):Nat->List Nat->By
 |_,[]=>⟨#[]⟩
 |i,x::xs=>DI (E.put st (Dd 4 fn i) (Gn d x)).1 (Dp (Gn d x))++JQ E fn d (E.put st (Dd 4 fn i) (Gn d x)).2 (i+1) xs
theorem JA(a b c:By):a++b++c=a++(b++c):=by apply A8;simp
theorem Ud(a:By):(⟨#[]⟩:By)++a=a:=by apply A8;simp
theorem Xc(E:FZ)(fn:Nat)(d:By):∀(st:Pl) (i:Nat) (xs:List Nat) (x:Nat),JQ E fn d st i (xs++[x])=JQ E fn d st i xs++DI (E.put (E.puts (Dd 4 fn) (Gn d) st i xs) (Dd 4 fn (i+xs.length)) (Gn d x)).1 (Dp (Gn d x))
 |st,i,[],x=>by
  show DI _ _++⟨#[]⟩=⟨#[]⟩++DI _ _;rw[Kv,Ud];rfl
 |st,i,y::xs,x=>by
  show DI _ _++JQ E fn d _ (i+1) (xs++[x])=DI _ _++JQ E fn d _ (i+1) xs++_;rw[Xc E fn d _ (i+1) xs x,JA,Al,show i+1+xs.length=i+(xs.length+1) by omega]
  rfl
theorem RL(E:FZ)(fn:Nat)(d:By):∀(st:Pl) (i:Nat) (xs:List Nat),(JQ E fn d st i xs).size=10*xs.length
 |st,i,[]=>rfl
 |st,i,x::xs=>by
  show(DI _ _++JQ E fn d _ (i+1) xs).size=_;rw[Ai,Qf,RL E fn d _ (i+1) xs,Al];omega
structure Mz(w9:World)(b n0 n1 B4 B5 B7 Bt g:Nat)(O9:Nat->Prop)(v9:Value):Prop where
 et:Bt=w9.heap.size
 en:n1=w9.heap.size+3
 l4:B4<w9.heap.size
 l5:B5<w9.heap.size
 l7:B7<w9.heap.size
 n45:B4≠B5
 n57:B5≠B7
 o9:∀j,O9 j->j<w9.heap.size/\j≠B4/\j≠B5/\j≠B7
 ov:∀j,Own v9 j->j<w9.heap.size/\j≠B4/\j≠B5/\j≠B7
 nv:∀j,Own v9 j->n0<=j
 n5:n0<=B5
 nb:b<=w9.heap.size
 n0w:n0<=w9.heap.size
 gl:g<w9.heap.size
 gO:¬O9 g
 gv:¬Own v9 g
 g5:g≠B5
structure GR(w9:World)(b n0 n1 B4 B5 B7 Bt pb db sb so:Nat)(E:FZ)(p:By)(fn g off len cap:Nat)(d:By)(O9:Nat->Prop)(v9:Value)(st9:Pl)(t9:By)(pre pre':List Nat)(v:Value)(O:Nat->Prop)(W:World):Prop where
 st:GV n0 pb db sb so E (E.puts (Dd 4 fn) (Gn d) st9 0 pre') O W
 hO:∀j,O j->O9 j\/n1<=j
 b4:Boxed W B4 168 (.pointer (some ⟨pb,0,none⟩))
 b5:Boxed W B5 59 v
 b7:FX W B7 141 [.string p,.int .u8 2,.int .i64 (fn:Nat),.slice (some ⟨g,off,none⟩) len cap]
 bt:Boxed W Bt 3 (.int .i64 (pre.length:Nat))
 rs:F9 b W v (t9++JQ E fn d st9 0 pre)
 hv:∀j,Own v j->Own v9 j\/n1<=j
 dis:∀j,O j->¬Own v j
 rd:Gp W (some ⟨g,off,none⟩) len cap d
 fr:Fr (λj=>O9 j\/Own v9 j\/j=B5) w9 W
 sz:n1<=W.heap.size
section
variable{w9:World}{b n0 n1 B4 B5 B7 Bt pb db sb so:Nat}{E:FZ}{p:By}{fn g off len cap:Nat}{d:By}{O9:Nat->Prop}{v9:Value}{st9:Pl}{t9:By}{pre pre':List Nat}{v:Value}{O:Nat->Prop}{W W':World}
theorem GR.below(h:GR w9 b n0 n1 B4 B5 B7 Bt pb db sb so E p fn g off len cap d O9 v9 st9 t9 pre pre' v O W)(a:Bw W W'):GR w9 b n0 n1 B4 B5 B7 Bt pb db sb so E p fn g off len cap d O9 v9 st9 t9 pre pre' v O W':=
 ⟨h.st.abides (row:=none) ⟨a.os,a.tape,a.output,a.size,λk c _=>a.block k c⟩ (λr e=>by cases e),h.hO,(a.block _ h.b4.lt).trans h.b4,(a.block _ h.b5.lt).trans h.b5,(a.block _ h.b7.lt).trans h.b7,(a.block _ h.bt.lt).trans h.bt,h.rs.below a,h.hv,h.dis,h.rd.below a,h.fr.then (Fr.of_below a (X:=λ_=>False)) (λ_ _ e=>e.elim),Af h.sz a.size⟩
theorem GR.nO(c:Mz w9 b n0 n1 B4 B5 B7 Bt g O9 v9)(h:GR w9 b n0 n1 B4 B5 B7 Bt pb db sb so E p fn g off len cap d O9 v9 st9 t9 pre pre' v O W):¬O B4/\¬O B5/\¬O B7/\¬O Bt/\¬O g:=by
 have l4:=c.l4;have l5:=c.l5;have l7:=c.l7;have et:=c.et;have en:=c.en;have gl:=c.gl;refine⟨λe=>?_,λe=>?_,λe=>?_,λe=>?_,λe=>?_⟩
 ·rcases h.hO _ e with a|a
  ·exact(c.o9 _ a).2.1 rfl
  ·omega
 ·rcases h.hO _ e with a|a
  ·exact(c.o9 _ a).2.2.1 rfl
  ·omega
 ·rcases h.hO _ e with a|a
  ·exact(c.o9 _ a).2.2.2 rfl
  ·omega
 ·rcases h.hO _ e with a|a
  ·have:=(c.o9 _ a).1;omega
  ·omega
 ·rcases h.hO _ e with a|a
  ·exact c.gO a
  ·omega
theorem Pr(c:Mz w9 b n0 n1 B4 B5 B7 Bt g O9 v9)(f:∀j,Own v j->Own v9 j\/n1<=j):¬Own v B4/\¬Own v B5/\¬Own v B7/\¬Own v Bt/\¬Own v g:=by
 have l4:=c.l4;have l5:=c.l5;have l7:=c.l7;have et:=c.et;have en:=c.en;have gl:=c.gl;refine⟨λe=>?_,λe=>?_,λe=>?_,λe=>?_,λe=>?_⟩
 ·rcases f _ e with a|a
  ·exact(c.ov _ a).2.1 rfl
  ·omega
 ·rcases f _ e with a|a
  ·exact(c.ov _ a).2.2.1 rfl
  ·omega
 ·rcases f _ e with a|a
  ·exact(c.ov _ a).2.2.2 rfl
  ·omega
 ·rcases f _ e with a|a
  ·have:=(c.ov _ a).1;omega
  ·omega
 ·rcases f _ e with a|a
  ·exact c.gv a
  ·omega
theorem GR.put(f:Mz w9 b n0 n1 B4 B5 B7 Bt g O9 v9)(h:GR w9 b n0 n1 B4 B5 B7 Bt pb db sb so E p fn g off len cap d O9 v9 st9 t9 pre pre' v O W){m:List Nat}{O':Nat->Prop}(o:GV n0 pb db sb so E (E.puts (Dd 4 fn) (Gn d) st9 0 m) O' W')(a:Fr O W W')(i:∀j,O' j->O j\/W.heap.size<=j):GR w9 b n0 n1 B4 B5 B7 Bt pb db sb so E p fn g off len cap d O9 v9 st9 t9 pre m v O' W':=by
 obtain⟨q,r,s,t,qg⟩:=h.nO f;have aa:=h.sz;have en:=f.en;refine⟨o,λj c=>(i j c).elim (h.hO j) (λe => .inr (by omega)),(a.block _ h.b4.lt q).trans h.b4,(a.block _ h.b5.lt r).trans h.b5,(a.block _ h.b7.lt s).trans h.b7,(a.block _ h.bt.lt t).trans h.bt,⟨h.rs.1.fr a (λk n ho=>h.dis k ho n),h.rs.2⟩,h.hv,λj c l=>(i j c).elim (λe=>h.dis j e l) (λe=>by have:=h.rs.1.lt l;omega),h.rd.fr a (λx e _ ho=>by cases e;exact qg ho),h.fr.then a (λj c e=>(h.hO j e).elim .inl (λe=>by omega)),Af h.sz a.size⟩
theorem GR.done(c:Mz w9 b n0 n1 B4 B5 B7 Bt g O9 v9){n:List Nat}(h:GR w9 b n0 n1 B4 B5 B7 Bt pb db sb so E p fn g off len cap d O9 v9 st9 t9 pre n v O W)(y:n.length=pre.length+1){i:Value}(q:F9 b W' i (t9++JQ E fn d st9 0 n))(m:Fr (Own v) W W')(r:Dk W v i):GR w9 b n0 n1 B4 B5 B7 Bt pb db sb so E p fn g off len cap d O9 v9 st9 t9 n n i O ((W'.setCell ⟨B5,0,none⟩ i).setCell ⟨Bt,0,none⟩ (.int .i64 ((pre.length:Int)+1))):=by
 obtain⟨q4,H,q7,I,qg⟩:=h.nO c;obtain⟨J,K,L,N,M⟩:=Pr c h.hv;have aa:=h.sz;have en:=c.en;have et:=c.et;have l4:=c.l4;have l5:=c.l5;have l7:=c.l7;have G:=c.n5;have ab:=c.n0w;have F:=c.n45;have ac:=c.n57;have u:∀j,Own i j->Own v9 j\/n1<=j:=λj f=>(r j f).elim (h.hv j) (λe => .inr (by omega))
 obtain⟨s4,P,s7,Q,sg⟩:=Pr c u;have A:Boxed W' B4 168 _:=(m.block _ h.b4.lt J).trans h.b4;have B:Boxed W' B5 59 _:=(m.block _ h.b5.lt K).trans h.b5;have C:FX W' B7 141 _:=(m.block _ h.b7.lt L).trans h.b7;have D:Boxed W' Bt 3 _:=(m.block _ h.bt.lt N).trans h.bt;have o:Fr (λj=>Own v j\/j=B5\/j=Bt) W ((W'.setCell ⟨B5,0,none⟩ i).setCell ⟨Bt,0,none⟩ (.int .i64 ((pre.length:Int)+1))):=
  (Fr.set (X:=λj=>Own v j\/j=B5\/j=Bt) (Fr.then (Fr.refl _ W) m (λ_ _ e => .inl e)) ⟨B5,0,none⟩ _ (.inr (.inl rfl))).set ⟨Bt,0,none⟩ _ (.inr (.inr rfl))
 have s:B5≠Bt:=by omega
 refine⟨h.st.keeps o (λj f=>?_),h.hO,(A.other F _).other (by omega) _,(B.set _).other s _,?_,?_,⟨(q.1.setCell ⟨B5,0,none⟩ _ P).setCell ⟨Bt,0,none⟩ _ Q,q.2⟩,u,λj f z=>?_,h.rd.fr o (λx e _ l=>?_),h.fr.then o (λk hk l=>?_),Af h.sz o.size⟩
 ·rcases f with a|a|a
  ·exact⟨λl=>h.dis j l a,(h.hv j a).elim (c.nv j) (λe=>by omega)⟩
  ·subst a;exact⟨H,G⟩
  ·subst a;exact⟨I,by omega⟩
 ·exact(Aw _ _ _ _ (show B7≠Bt by omega)).trans ((Aw _ _ _ _ (show B7≠B5 by omega)).trans C)
 ·rw[y];exact(D.other (λe=>s e.symm) _).set _
 ·rcases r j z with a|a
  ·exact h.dis j f a
  ·obtain⟨cs,t,w⟩:=h.st.cells f;have:=(Aj.1 w).1;omega
 ·cases e
  rcases l with a|a|a
  ·exact M a
  ·exact c.g5 a
  ·have:=c.gl;simp only at a;omega
 ·rcases l with a|a|a
  ·exact(h.hv k a).elim (λe => .inr (.inl e)) (λe=>by omega)
  ·exact .inr (.inr a)
  ·omega
theorem GR.own(w:Mz w9 b n0 n1 B4 B5 B7 Bt g O9 v9)(h:GR w9 b n0 n1 B4 B5 B7 Bt pb db sb so E p fn g off len cap d O9 v9 st9 t9 pre pre' v O W){row:Option Nat}(a:W.grownBy W' row)(m:∀r,row=some r->n1<=r/\∃o:Obj,W.heap[r]?=some o/\o.isCells=false):GR w9 b n0 n1 B4 B5 B7 Bt pb db sb so E p fn g off len cap d O9 v9 st9 t9 pre pre' v O W':=by
 have ne:∀(j:Nat) (c:Array Value) (t:TypeId) (z:Nat×Nat),W.heap[j]?=some (Obj.cells c t z)->some j≠row:=λj c t z f e=>by
  obtain⟨o,u,D⟩:=(m j e.symm).2;rw[f]at u;cases u;cases D
 have i:∀(j:Nat) (c:Array Value) (t:TypeId) (z:Nat×Nat),W.heap[j]?=some (Obj.cells c t z)->W'.heap[j]?=some (Obj.cells c t z):=λj c t z f=>(a.block j (Aj.1 f).1 (ne j c t z f)).trans f
 have gl:=w.gl;have en:=w.en;refine⟨h.st.abides a (λr e=>(m r e).2),h.hO,i _ _ _ _ h.b4,i _ _ _ _ h.b5,i _ _ _ _ h.b7,i _ _ _ _ h.bt,⟨?_,h.rs.2⟩,h.hv,h.dis,?_,?_,Af h.sz a.size⟩
 ·rcases h.rs.1.2 with⟨e,C⟩|⟨B,A,y,e,F,q⟩
  ·exact⟨h.rs.1.1,.inl ⟨e,C⟩⟩
  ·exact⟨h.rs.1.1,.inr ⟨B,A,y,e,i _ _ _ _ F,q⟩⟩
 ·exact h.rd.fr (P:=λj=>row=some j) ⟨a.os,a.tape,a.output,a.size,λk l n=>a.block k l (λe=>n e.symm)⟩ (λx e _ s=>by cases e;have:=(m _ s).1;simp only at this;omega)
 ·exact h.fr.then (Y:=λj=>row=some j) ⟨a.os,a.tape,a.output,a.size,λk l n=>a.block k l (λe=>n e.symm)⟩ (λk l s=>by have:=(m _ s).1;omega)
end
section
attribute [local go_sem] Oper.semAt_some
def KQ(B4 B7 Bt pb fn t Bb:Nat)(L:F0)(V:World):Prop:=V.cell? ⟨B4,0,none⟩=some (.pointer (some ⟨pb,0,none⟩))/\V.cell? ⟨B7,2,none⟩=some (.int .i64 (fn:Nat))/\V.cell? ⟨Bt,0,none⟩=some (.int .i64 (t:Nat))/\V.rangeAt Bb 0 L
def LX(w9:World)(b n0 n1 B4 B5 B7 Bt pb db sb so:Nat)(E:FZ)(p:By)(fn g off len cap:Nat)(d:By)(O9:Nat->Prop)(v9:Value)(st9:Pl)(t9:By)(pre pre':List Nat)(v:Value)(O0 O:Nat->Prop)(x:Nat)(W V:World):Prop:=
 GR w9 b n0 n1 B4 B5 B7 Bt pb db sb so E p fn g off len cap d O9 v9 st9 t9 pre pre' v O V/\Fr (λj=>O0 j\/Own v j\/j=B5\/j=Bt) W V/\FX V W.heap.size 188 (Dc (Gn d x))/\(∀j,O0 j->j<W.heap.size)/\∀j,O j->j≠W.heap.size
def NL(w9:World)(b n0 n1 B4 B5 B7 Bt pb db sb so:Nat)(E:FZ)(p:By)(fn g off len cap:Nat)(d:By)(O9:Nat->Prop)(v9:Value)(st9:Pl)(t9:By)(pre:List Nat)(W:World):Prop:=
 ∃v O,GR w9 b n0 n1 B4 B5 B7 Bt pb db sb so E p fn g off len cap d O9 v9 st9 t9 pre pre v O W
theorem ZkH(K:World)(M:Nat)(hM:M<=1000)(b J n1 z c q l pb N Z so:Nat)(E:FZ)(hE:Gt E)(hj:∃j,j<96/\E.nd j<=0)(p:By)(fn g off Y L:Nat)(ak:fn<65536)(d:By)(G:Nat->Prop)(I:Value)(m:Pl)(H:By)(av:H.size<=900000)(u:Mz K b J n1 z c q l g G I)(h1:m.puts.length+M<=10000)(h2:m.ps.length+M<=1000000)(h3:m.hd<=1536)(al:∀y∈m.puts,∀i,i<M->y.1≠Dd 4 fn i)(a:List Nat)(x:Nat)(an:a.length<M)(W:World)(B:OA)(D C:Nat)(O:Nat->Prop)(h:GR K b J n1 z c q l pb N Z so E p fn g off Y L d G I m H a a (.slice B D C) O W):
  (∀V,Cl 244 #[.int .u8 4,.int .i64 (fn:Nat),.int .i64 (a.length:Nat)] V λe w'=>e=.returned (.int .u64 (Dd 4 fn a.length:Nat))/\w'=V)/\
  (∀V,LX K b J n1 z c q l pb N Z so E p fn g off Y L d G I m H a a (.slice B D C) O O x W V->Cl 272 #[.pointer (some ⟨pb,0,none⟩),.int .u64 (Dd 4 fn a.length:Nat),DA (Gn d x)] V λe f=>e=.returned (.agg #[.int .i64 ((E.put (E.puts (Dd 4 fn) (Gn d) m 0 a) (Dd 4 fn a.length) (Gn d x)).1:Nat),.int .u64 (Dp (Gn d x):Nat)])/\KQ z q l pb fn a.length W.heap.size (Dc (Gn d x)) f/\f.cell? ⟨c,0,none⟩=some (.slice B D C)/\Hid (∃O',LX K b J n1 z c q l pb N Z so E p fn g off Y L d G I m H a (a++[x]) (.slice B D C) O O' x W f))/\
  (∀V,(∃O',LX K b J n1 z c q l pb N Z so E p fn g off Y L d G I m H a (a++[x]) (.slice B D C) O O' x W V)->Cl 214 #[.agg #[.int .i64 ((E.put (E.puts (Dd 4 fn) (Gn d) m 0 a) (Dd 4 fn a.length) (Gn d x)).1:Nat),.int .u64 (Dp (Gn d x):Nat)],.slice B D C] V λe f=>∃r w s,e=.returned (.slice r w s)/\KQ z q l pb fn a.length W.heap.size (Dc (Gn d x)) f/\KQ z q l pb fn a.length W.heap.size (Dc (Gn d x)) (f.setCell ⟨c,0,none⟩ (.slice r w s))/\f.cell? ⟨c,0,none⟩=some (.slice B D C)/\f.frozen? ⟨c,0,none⟩=false/\(f.setCell ⟨c,0,none⟩ (.slice r w s)).frozen? ⟨l,0,none⟩=false/\
   Hid (KeepsOthers W ((f.setCell ⟨c,0,none⟩ (.slice r w s)).setCell ⟨l,0,none⟩ (.int .i64 ((a.length:Int)+1)))/\Q1 n1 c l (λj=>G j\/Own I j) W ((f.setCell ⟨c,0,none⟩ (.slice r w s)).setCell ⟨l,0,none⟩ (.int .i64 ((a.length:Int)+1)))/\NL K b J n1 z c q l pb N Z so E p fn g off Y L d G I m H (a++[x]) ((f.setCell ⟨c,0,none⟩ (.slice r w s)).setCell ⟨l,0,none⟩ (.int .i64 ((a.length:Int)+1))))):=by
 have et:=u.et;have en:=u.en;have l4:=u.l4;have l5:=u.l5;have l7:=u.l7;have aq:=u.n45;have aw:=u.n57;have au:=h.sz;refine⟨λV=>UB V 4 fn a.length (by omega) ak (by omega),λV hV=>?_,λV hV=>?_⟩
 ·obtain⟨n,Q,S,af,ad⟩:=hV;obtain⟨q1,F,q3⟩:=FZ.puts_len E (Dd 4 fn) (Gn d) m 0 a;have aj:=Q.size;have ac:=S.lt;refine(n.st.put hE hj (Dd 4 fn a.length) (Gn d x) (Qr _ _) (λy hy e=>?_) (by omega) (by omega) (q3 h3)).mono ?_
  ·rcases FZ.puts_mem E _ _ m 0 a y hy with hm|⟨j,_,r2,r3⟩
   ·exact al y hm _ an e
   ·have:=QP (r3.symm.trans e);omega
  ·rintro e f⟨rfl,O',r1,r2,r3⟩;have P:=FZ.puts_snoc E (Dd 4 fn) (Gn d) m 0 a x;rw[Av]at P;rw[<-P]at r1;have T:=n.put u r1 r2 r3;have ae:FX f W.heap.size 188 (Dc (Gn d x)):=(r2.block _ ac (λe=>ad _ e rfl)).trans S;refine⟨rfl,⟨T.b4.cell,(T.b7.cell 2).trans rfl,T.bt.cell,λj v X=>by rw[ae.cell,Av];exact X⟩,T.b5.cell,O',T,Q.then r2 (λk U e => .inl (by
    rcases Bh k W.heap.size with A|A
    ·exact e
    ·omega)),ae,af,λj hj e=>?_⟩
   rcases r3 j hj with A|A
   ·exact ad j A e
   ·omega
 ·obtain⟨O',n,Q,S,af,ad⟩:=hV;have aj:=Q.size;have ac:=S.lt;have ar:(H++JQ E fn d m 0 a).size<=950000:=by rw[Ai,RL];omega
  refine(R4 V b (by have:=u.nb;omega) B D C _ n.rs _ _ (Nat.lt_trans (hE.place_lt _ _ _) (by omega)) (KJ _) (by omega)).mono ?_;rintro e f⟨r,w,s,rfl,q1,F,q3⟩;have P:=Xc E fn d m 0 a x;rw[Av]at P;rw[JA,<-P]at q1;have hD:=n.done u (by simp) q1 F q3;obtain⟨r4,r5,r7,rt,rg⟩:=Pr u n.hv;have am:¬Own (.slice B D C) W.heap.size:=λe=>by have:=h.rs.1.lt e;omega
  have k4:Boxed f z 168 _:=(F.block _ n.b4.lt r4).trans n.b4;have k5:Boxed f c 59 _:=(F.block _ n.b5.lt r5).trans n.b5;have k7:FX f q 141 _:=(F.block _ n.b7.lt r7).trans n.b7;have kt:Boxed f l 3 _:=(F.block _ n.bt.lt rt).trans n.bt;have kL:FX f W.heap.size 188 (Dc (Gn d x)):=(F.block _ ac am).trans S;have ao:FX (f.setCell ⟨c,0,none⟩ (.slice r w s)) q 141 _:=(Aw _ _ _ _ (show q≠c by omega)).trans k7;have ap:FX (f.setCell ⟨c,0,none⟩ (.slice r w s)) W.heap.size 188 (Dc (Gn d x)):=(Aw _ _ _ _ (show W.heap.size≠c by omega)).trans kL;have aa:Fr (λj=>O j\/Own (.slice B D C) j\/j=c\/j=l) W ((f.setCell ⟨c,0,none⟩ (.slice r w s)).setCell ⟨l,0,none⟩ (.int .i64 ((a.length:Int)+1))):=
   (Fr.set (Q.then F (λ_ _ e => .inr (.inl e))) ⟨c,0,none⟩ _ (.inr (.inr (.inl rfl)))).set ⟨l,0,none⟩ _ (.inr (.inr (.inr rfl)))
  refine⟨r,w,s,rfl,⟨k4.cell,(k7.cell 2).trans rfl,kt.cell,λj v X=>by rw[kL.cell,Av];exact X⟩,⟨(k4.other aq _).cell,(ao.cell 2).trans rfl,(kt.other (show l≠c by omega) _).cell,λj v X=>by rw[ap.cell,Av];exact X⟩,k5.cell,k5.frozen,(kt.other (show l≠c by omega) _).frozen,⟨aa.size,λk o U ho=>?_⟩,⟨aa.size,λk U hY ag ah=>?_⟩,_,O',hD⟩
  ·refine(aa.block k (Aj.1 U).1 (λe=>?_)).trans U;have ab:∀cs t,W.heap[k]? ≠ some (Obj.cells cs t (0,0)):=λcs t e2=>by rw[U]at e2;cases e2;cases ho
   rcases e with e|e|e|e
   ·obtain⟨cs,t,e2⟩:=h.st.cells e;exact ab _ _ e2
   ·obtain⟨R,ai⟩:=h.rs.1.type e;exact ab _ _ ai
   ·subst e;exact ab _ _ h.b5
   ·subst e;exact ab _ _ h.bt
  ·refine aa.block k (by omega) (λe=>?_);rcases e with e|e|e|e
   ·rcases h.hO k e with A|A
    ·exact hY (.inl A)
    ·omega
   ·rcases h.hv k e with A|A
    ·exact hY (.inr A)
    ·omega
   ·exact ag e
   ·exact ah e
end
section
open Tryz
attribute [local go_sem] Oper.semAt_some
theorem ZeS{F:Fence}{n:Nat}{P:Program}{b:Array Oper}{d:List Oper}{o:Oper}{a:Act}{w:World}{Q:Exit->Act->World->Prop}(g:o.guard=none)(t:TypeId)(ho:o.op=.alloc t){zs:Array Value}(i:∀w,(zeroValue t).run P w=.ok (.agg zs) w)(h:wpListIn F n P b Q d (a.put o.dst (.pointer (some ⟨w.heap.size,0,none⟩))) (w.alloc (.cells zs t))):wpListIn F n P b Q (o::d) a w:=by
 refine wpListIn_plain g λK e=>?_
 unfold Oper.wpIn;refine⟨by simp[Oper.about,ho],?_⟩;rw[Ft F _ _ (by rw[ho];intro c f;cases f)];unfold execOp;simp only[ho,Instr.alloc,Cn,i,Cg];simp[newVar,newRow,go_sem,Value.cells];exact e _ _ h
theorem Zd9{F:Fence}{n:Nat}{P:Program}(w:World){b:Array Oper}{e:List Oper}{o:Oper}{a:Act}{Q:Exit->Act->World->Prop}(l:o.guard=none)(d s:Operand)(t f:TypeId)(ho:o.op=.call { callee:=.builtin .copy,args:=#[d,s],argTypes:=#[t,f] })(v u:Value)(k:a.eval d=v)(p:a.eval s=u){g:Value}{w':World}(m:(Builtin.copy_ #[t,f] o.type #[v,u]).run P w=.ok g w')(h:wpListIn F n P b Q e (a.put o.dst g) w'):wpListIn F n P b Q (o::e) a w:=by
 refine wpListIn_plain l λK i=>?_
 unfold Oper.wpIn;refine⟨?_,?_⟩
 ·simp[Oper.about,ho,resolve,Target.leads,Sem.run_pure]
 ·rw[Ft F _ _ (by rw[ho];intro c j;cases j)];simp[execOp,ho,resolve,invoke,builtin,k,p,m,Result.andThen];exact i _ _ h
theorem ZkK(w:World)(b n0 pb db sb so:Nat)(E:FZ)(st:Pl)(C:Nat->Prop)(aC:GV n0 pb db sb so E st C w)(H:OA)(J I:Nat)(s:By)(hs:F9 b w (.slice H J I) s)(cG:s.size<=600000)(br:∀j,C j->¬Own (.slice H J I) j)(bw:∀j,Own (.slice H J I) j->n0<=j)(hb:b<=w.heap.size)(m p:By)(cA:m.size<=100000)(hp:p.size<=100000)(fn:Nat)(cx:fn<60000)(g off q G:Nat)(d:By)(bz:Gp w (some ⟨g,off,none⟩) q G d)(cd:q<=G)(hl:q<=60000)(bu:¬C g)(bv:¬Own (.slice H J I) g)(cy:g<w.heap.size)(hE:Gt E)(F:∃j,j<96/\E.nd j<=0)(M:Nat)(hM:M<=1000)(L:st.puts.length+M<=10000)(h2:st.ps.length+M<=1000000)(h3:st.hd<=1536)(cc:∀y∈st.puts,∀i,i<M->y.1≠Dd 4 fn i)(KN:Nat)(bk:KN=(q+64-1)/64)(cu:KN<=M):
  Cl 236 #[.pointer (some ⟨pb,0,none⟩),.slice H J I,.string m,.agg #[.string p,.int .u8 2,.int .i64 (fn:Nat) ,.slice (some ⟨g,off,none⟩) q G]] w (QC w b n0 pb db sb so E C (.slice H J I) (E.puts (Dd 4 fn) (Gn d) st 0 (List.range KN)) (s++Ds m p 2++Do m p++⟨#[UInt8.ofNat fn]⟩++Ja q 2++JQ E fn d st 0 (List.range KN))):=by
 obtain⟨W1,e1,x1,k1,s1,b1⟩:=De w [.pointer (some ⟨pb,0,none⟩)] 168;obtain⟨W2,e2,x2,k2,s2,b2⟩:=De W1 [.slice H J I] 59;obtain⟨W3,e3,x3,k3,s3,b3⟩:=De W2 [.string p,.int .u8 2,.int .i64 (fn:Nat),.slice (some ⟨g,off,none⟩) q G] 141;have aj:Bw w W3:=b1.trans ((b2.mono (by omega)).trans (b3.mono (by omega)));have y1:=k3 _ _ _ (k2 _ _ _ x1);have y2:=k3 _ _ _ x2;have t2:W2.heap.size=w.heap.size+1+1:=by omega
 rw[s1]at y2;rw[t2]at x3;have bl:∀j,C j->j<w.heap.size:=λj F=>by obtain⟨cs,t,hb⟩:=aC.cells F;exact(Aj.1 hb).1
 have hB:LA w b n0 w.heap.size (w.heap.size+1) (w.heap.size+1+1) C (.slice H J I):=⟨rfl,rfl,rfl,bl,λj F=>hs.1.lt F,bw,hb,aC.2.2.1⟩;have bj:Gb w b n0 w.heap.size (w.heap.size+1) (w.heap.size+1+1) pb db sb so E p 2 (fn:Nat) (.slice (some ⟨g,off,none⟩) q G) C (.slice H J I) st C (.slice H J I) s W3:=⟨aC.abides (row:=none) ⟨aj.os,aj.tape,aj.output,aj.size,λk hk _=>aj.block k hk⟩ (λr e=>by cases e),λj F => .inl F,y1,y2,x3,hs.below aj,λj F => .inl F,br,Fr.of_below aj,by omega⟩;obtain⟨N,hN⟩:=ex (Kl m p);have cw:N<=p.size:=by rw[hN];exact(Uo _ _).2
 obtain⟨N1,ay⟩:∃M:Nat,M=(UInt8.ofNat N).toNat:=⟨_,rfl⟩;obtain⟨N2,az⟩:∃M:Nat,M=(UInt8.ofNat (p.size-N)).toNat:=⟨_,rfl⟩;have aJ:((p.size:Int)-(N:Int))=((p.size-N:Nat):Int):=by omega
 have cI:IntKind.u8.wrap (N:Int)=(N1:Int):=by rw[ay];exact J6 N
 have cK:IntKind.u8.wrap ((p.size:Int)-(N:Int))=(N2:Int):=by rw[az,aJ];exact J6 _
 have cJ:(N:Int)%256=(N1:Int):=by rw[ay,BQ];omega
 have cL:((p.size:Int)-(N:Int))%256=(N2:Int):=by rw[az,aJ,BQ];omega
 clear aJ;have bS:=Db bj;have HB:=Db hB;have HA:Hid (∀X,Bw W3 X->X.cell? ⟨(w.heap.size+1),0,none⟩=some (.slice H J I)/\X.cell? ⟨(w.heap.size+1+1),0,none⟩=some (.string p)/\X.cell? ⟨(w.heap.size+1+1),1,none⟩=some (.int .u8 2)/\∃Y P R Q w1,X.alloc (.cells #[.int .u8 2,.int .u8 (N1:Nat),.int .u8 (N2:Nat)] 5)=Y/\Y.cell? ⟨(w.heap.size+1),0,none⟩=some (.slice H J I)/\(Builtin.append_ #[59,59] 59 #[.slice H J I,.slice (some ⟨X.heap.size,0,none⟩) 3 3]).run prog Y=.ok (.slice P R Q) w1/\w1.cell? ⟨(w.heap.size+1),0,none⟩=some (.slice H J I)/\w1.frozen? ⟨(w.heap.size+1),0,none⟩=false/\∃Z,w1.setCell ⟨(w.heap.size+1),0,none⟩ (.slice P R Q)=Z/\Hid (Gb w b n0 w.heap.size (w.heap.size+1) (w.heap.size+1+1) pb db sb so E p 2 (fn:Nat) (.slice (some ⟨g,off,none⟩) q G) C (.slice H J I) st C (.slice P R Q) (s++Ds m p 2) Z)):=λX hX=>by
  have hI:=(Da bS).below hX;obtain⟨Y,eY,xY,kY,sY,bY⟩:=De X [.int .u8 2,.int .u8 (N1:Nat),.int .u8 (N2:Nat)] 5;have ab:=hI.below bY;have aI:Dc (Ds m p 2)=[.int .u8 2,.int .u8 (N1:Nat),.int .u8 (N2:Nat)]:=by
   rw[ay,az,hN];rfl
  obtain⟨P,R,Q,w1,r1,r2,r3,r4⟩:=JX Y b (Af hb (Af ab.fr.size (Aa _))) _ _ ab.rs ⟨X.heap.size,0,none⟩ 3 3 (Ds m p 2) rfl (λj u hu=>by rw[AI,Av,xY.cell,<-aI];exact hu) (by omega);have q5:Boxed w1 (w.heap.size+1) 59 (.slice H J I):=(r3.block _ ab.b5.lt (λe=>by rcases ab.hv _ e with L|L;(have:=(Da HB).ov _ L;omega);omega)).trans ab.b5;exact⟨hI.b5.cell,(hI.b7.cell 0).trans rfl,(hI.b7.cell 1).trans rfl,Y,P,R,Q,w1,eY,ab.b5.cell,r1,q5.cell,q5.frozen,_,rfl,ab.say (Da HB) r2 r3 r4⟩
 have HT:Hid (∀Z P R Q,Gb w b n0 w.heap.size (w.heap.size+1) (w.heap.size+1+1) pb db sb so E p 2 (fn:Nat) (.slice (some ⟨g,off,none⟩) q G) C (.slice H J I) st C (.slice P R Q) (s++Ds m p 2) Z->Z.cell? ⟨(w.heap.size+1),0,none⟩=some (.slice P R Q)/\Z.cell? ⟨(w.heap.size+1+1),0,none⟩=some (.string p)/\∃T l2 c2 w2,(Builtin.append_ #[59,9] 59 #[.slice P R Q,.string (p.extract N p.size)]).run prog Z.drew=.ok (.slice T l2 c2) w2/\w2.cell? ⟨(w.heap.size+1),0,none⟩=some (.slice P R Q)/\w2.cell? ⟨(w.heap.size+1+1),0,none⟩=some (.string p)/\w2.frozen? ⟨(w.heap.size+1),0,none⟩=false/\∃V,w2.setCell ⟨(w.heap.size+1),0,none⟩ (.slice T l2 c2)=V/\V.cell? ⟨(w.heap.size+1),0,none⟩=some (.slice T l2 c2)/\V.cell? ⟨(w.heap.size+1+1),0,none⟩=some (.string p)/\V.cell? ⟨(w.heap.size+1+1),1,none⟩=some (.int .u8 2)/\V.cell? ⟨(w.heap.size+1+1),2,none⟩=some (.int .i64 (fn:Nat))/\Hid (Gb w b n0 w.heap.size (w.heap.size+1) (w.heap.size+1+1) pb db sb so E p 2 (fn:Nat) (.slice (some ⟨g,off,none⟩) q G) C (.slice H J I) st C (.slice T l2 c2) (s++Ds m p 2++Do m p) V)):=λZ P R Q hI=>by
  have ad:=hI.below (Ak _ _).drew;have bB:(s++Ds m p 2).size=s.size+3:=by rw[Ai];rfl
  have cC:(Do m p).size<=p.size:=by unfold Do;rw[Ah];omega
  have b7:Do m p=p.extract N p.size:=by unfold Do;rw[hN]
  obtain⟨T,l2,c2,w2,r1,r2,r3,r4⟩:=UT Z.drew b (Af hb ad.fr.size) _ _ ad.rs (Do m p) (by omega);rw[b7]at r1;have q5:Boxed w2 (w.heap.size+1) 59 (.slice P R Q):=(r3.block _ ad.b5.lt (λe=>by rcases ad.hv _ e with L|L;(have:=(Da HB).ov _ L;omega);omega)).trans ad.b5;have q7:FX w2 (w.heap.size+1+1) 141 _:=(r3.block _ ad.b7.lt (λe=>by rcases ad.hv _ e with L|L;(have:=(Da HB).ov _ L;omega);omega)).trans ad.b7;have hF:=ad.say (Da HB) r2 r3 r4;exact⟨hI.b5.cell,(hI.b7.cell 0).trans rfl,T,l2,c2,w2,r1,q5.cell,(q7.cell 0).trans rfl,q5.frozen,_,rfl,hF.b5.cell,(hF.b7.cell 0).trans rfl,(hF.b7.cell 1).trans rfl,(hF.b7.cell 2).trans rfl,hF⟩
 obtain⟨N3,aA⟩:∃M:Nat,M=(UInt8.ofNat fn).toNat:=⟨_,rfl⟩;have cM:IntKind.u8.wrap (fn:Int)=(N3:Int):=by rw[aA];exact J6 fn
 have cN:(fn:Int)%256=(N3:Int):=by rw[aA,BQ];omega
 have HC:Hid (∀Z P R Q,Gb w b n0 w.heap.size (w.heap.size+1) (w.heap.size+1+1) pb db sb so E p 2 (fn:Nat) (.slice (some ⟨g,off,none⟩) q G) C (.slice H J I) st C (.slice P R Q) (s++Ds m p 2++Do m p) Z->∃Y T l2 c2 w2,Z.alloc (.cells #[.int .u8 (N3:Nat)] 5)=Y/\(Builtin.append_ #[59,59] 59 #[.slice P R Q,.slice (some ⟨Z.heap.size,0,none⟩) 1 1]).run prog Y=.ok (.slice T l2 c2) w2/\w2.cell? ⟨(w.heap.size+1),0,none⟩=some (.slice P R Q)/\w2.frozen? ⟨(w.heap.size+1),0,none⟩=false/\∃V,w2.setCell ⟨(w.heap.size+1),0,none⟩ (.slice T l2 c2)=V/\V.cell? ⟨(w.heap.size+1),0,none⟩=some (.slice T l2 c2)/\V.cell? ⟨(w.heap.size+1+1),1,none⟩=some (.int .u8 2)/\V.cell? ⟨(w.heap.size+1+1),3,none⟩=some (.slice (some ⟨g,off,none⟩) q G)/\Hid (Gb w b n0 w.heap.size (w.heap.size+1) (w.heap.size+1+1) pb db sb so E p 2 (fn:Nat) (.slice (some ⟨g,off,none⟩) q G) C (.slice H J I) st C (.slice T l2 c2) (s++Ds m p 2++Do m p++⟨#[UInt8.ofNat fn]⟩) V)):=λZ P R Q hI=>by
  obtain⟨Y,eY,xY,kY,sY,bY⟩:=De Z [.int .u8 (N3:Nat)] 5;have ab:=hI.below bY;have aI:Dc ⟨#[UInt8.ofNat fn]⟩=[.int .u8 (N3:Nat)]:=by rw[aA];rfl
  have bB:(s++Ds m p 2++Do m p).size<=s.size+3+p.size:=by
   rw[Ai,Ai];have L:(Ds m p 2).size=3:=rfl;have h2:(Do m p).size<=p.size:=by unfold Do;rw[Ah];omega
   omega
  obtain⟨T,l2,c2,w2,r1,r2,r3,r4⟩:=JX Y b (Af hb ab.fr.size) _ _ ab.rs ⟨Z.heap.size,0,none⟩ 1 1 ⟨#[UInt8.ofNat fn]⟩ rfl (λj u hu=>by rw[AI,Av,xY.cell,<-aI];exact hu) (by omega);have q5:Boxed w2 (w.heap.size+1) 59 (.slice P R Q):=(r3.block _ ab.b5.lt (λe=>by rcases ab.hv _ e with L|L;(have:=(Da HB).ov _ L;omega);omega)).trans ab.b5;have hF:=ab.say (Da HB) r2 r3 r4;exact⟨Y,T,l2,c2,w2,eY,r1,q5.cell,q5.frozen,_,rfl,hF.b5.cell,(hF.b7.cell 1).trans rfl,(hF.b7.cell 3).trans rfl,hF⟩
 have cO:IntKind.u64.wrap (q:Int)=(q:Int):=by simp[IntKind.wrap,IntKind.bits,IntKind.signed];omega
 have aV:Hid (∀U a3 l3 c3,Gb w b n0 w.heap.size (w.heap.size+1) (w.heap.size+1+1) pb db sb so E p 2 (fn:Nat) (.slice (some ⟨g,off,none⟩) q G) C (.slice H J I) st C (.slice a3 l3 c3) (s++Ds m p 2++Do m p++⟨#[UInt8.ofNat fn]⟩) U->Cl 212 #[.slice a3 l3 c3,.int .u64 (q:Nat),.int .i64 2] U λe X=>∃a4 l4 c4,e=.returned (.slice a4 l4 c4)/\X.cell? ⟨(w.heap.size+1),0,none⟩=some (.slice a3 l3 c3)/\X.frozen? ⟨(w.heap.size+1),0,none⟩=false/\∃z,X.setCell ⟨(w.heap.size+1),0,none⟩ (.slice a4 l4 c4)=z/\z.cell? ⟨(w.heap.size+1+1),3,none⟩=some (.slice (some ⟨g,off,none⟩) q G)/\Hid (Gb w b n0 w.heap.size (w.heap.size+1) (w.heap.size+1+1) pb db sb so E p 2 (fn:Nat) (.slice (some ⟨g,off,none⟩) q G) C (.slice H J I) st C (.slice a4 l4 c4) (s++Ds m p 2++Do m p++⟨#[UInt8.ofNat fn]⟩++Ja q 2) z)):=λU a3 l3 c3 hI=>by
  have bB:(s++Ds m p 2++Do m p++⟨#[UInt8.ofNat fn]⟩).size<=s.size+4+p.size:=by
   rw[Ai,Ai,Ai];have q1:(Ds m p 2).size=3:=rfl;have q2:(Do m p).size<=p.size:=by unfold Do;rw[Ah];omega
   have q3:(⟨#[UInt8.ofNat fn]⟩:By).size=1:=rfl;omega
  refine(UD U b (Af hb hI.fr.size) a3 l3 c3 _ hI.rs q (by omega) 2 (by omega) (by omega)).mono ?_;rintro e X⟨a4,l4,c4,rfl,r2,r3,r4⟩;have q5:Boxed X (w.heap.size+1) 59 (.slice a3 l3 c3):=(r3.block _ hI.b5.lt (λe=>by rcases hI.hv _ e with L|L;(have:=(Da HB).ov _ L;omega);omega)).trans hI.b5;have hF:=hI.say (Da HB) r2 r3 r4;exact⟨a4,l4,c4,rfl,q5.cell,q5.frozen,_,rfl,(hF.b7.cell 3).trans rfl,hF⟩
 have aW:Hid (Cl 271 #[.string m,.string p] W3 λe X=>e=.returned (.int .i64 (N:Nat))/\Hid (Bw W3 X)):=(OL m p W3 (by omega) (by omega)).mono (λe X ⟨L,_,h2⟩=>⟨by rw[L,hN],h2⟩);have cF:IntKind.i64.wrap ((p.size:Int)-(N:Int))=(p.size:Int)-(N:Int):=by rw[AV];omega
 have cz:(N:Int)<=(p.size:Int):=by omega
 have bL:=Db e1;have bP:=Db e2;have bQ:=Db e3;have a7:=(x3.cell 0);have ce:W3.cell? ⟨(w.heap.size+1+1),0,none⟩=some (.string p):=a7.trans rfl;have bT:=Db bk;clear bk hN ay az aA a7 e1 e2 e3 x1 x2 x3 k1 k2 k3 s1 s2 s3 b1 b2 b3 y1 y2 t2 bl hB bj aC hs br bw aj;refine(A2 (n:=3)).1 ?_;refine Br func236 rfl trivial ?_ rfl;simp only[ntmps236,AM,Al,AK,Nat.reduceAdd,Nat.reduceSub,AQ,AP,AZ,AT,AD,AN]
 gi_step
 refine BE.2 (AX ?_);go_wp2;rw[show w.alloc (.cells #[.pointer (some ⟨pb,0,none⟩)] 168)=W1 from Da bL,show W1.alloc (.cells #[.slice H J I] 59)=W2 from Da bP,show W2.alloc (.cells #[.string p,.int .u8 2,.int .i64 (fn:Nat),.slice (some ⟨g,off,none⟩) q G] 141)=W3 from Da bQ]
 gi_step
 refine BE.2 (AX ?_);go_wp2_with(go_at_call 271;refine(Da aW).mono ?_;rintro e X⟨rfl,HX⟩);obtain⟨av,b9,ca,Y,P,R,Q,w1,hY,b8,aK,aM,cb,Z,hZ,aR⟩:=Da HA X (Da HX);rw[<-hY]at aK;have HZ:=Db hZ;clear hY hZ b8 HA aW ce
 gi_step
 refine BE.2 (AX ?_);go_wp2_with(at_builtin;refine A0 _ rfl _ _ 59 59 rfl _ _ rfl rfl _ _ aK ?_);rw[Da HZ];obtain⟨m5,m7,T,l2,c2,w2,bx,n5,n7,ci,V,hV,v5,bE,co,cp,aS⟩:=Da HT Z P R Q (Da aR);have HV:=Db hV;clear hV aK aM cb av b9 ca HZ HT aR
 gi_step
 refine EH Qo ?_;refine BE.2 ?_;refine AE (S:=λX=>X.cell? ⟨(w.heap.size+1+1),0,none⟩=some (.string p)) (by kernel_rfl) m7 (λaF=>?_);refine tk 1 ?_;refine tk 2 ?_;refine tk 3 ?_;refine tk 4 ?_;refine rk 0 (λK f=>?_);go_simp;refine f.out _ _ aF (λbX=>?_);clear f K
 try simp only[pE]
 refine rk 5 (λK f=>?_);refine JV rfl _ _ 59 9 rfl _ _ rfl rfl bx ?_;refine f.out _ _ n7 (λbZ=>?_);clear f K
 try simp only[pE]
 refine rk 6 (λK f=>?_);go_simp;rw[Da HV];refine f.out _ _ bE (λb0=>?_);clear f K
 try simp only[pE]
 refine AO (by kernel_rfl) ?_ _;refine K8 ?_;clear bX bZ b0 aF bx n5 n7 ci m5 m7 HV;obtain⟨Y3,a3,l3,c3,w3,bo,aL,aM,cf,U,hU,u5,cm,cn,aT⟩:=Da HC V T l2 c2 (Da aS);rw[<-bo]at aL;have HU:=Db hU;clear bo hU HC
 gi_step
 gi_step
 gi_step
 gi_step
 refine BE.2 (AX ?_);go_wp2
 gi_step
 gi_step
 gi_step
 gi_step
 gi_step
 refine BE.2 (AX ?_);go_wp2_with(at_builtin;refine A0 _ rfl _ _ 59 59 rfl _ _ rfl rfl _ _ aL ?_);rw[Da HU];clear aL aM cf HU v5 bE co cp aS;have H9:=Db (Da aV U a3 l3 c3 (Da aT));clear aV
 gi_step
 gi_step
 refine BE.2 (AX ?_);go_wp2
 gi_step
 gi_step
 gi_step
 gi_step
 gi_step
 refine BE.2 (AX ?_);go_wp2_with(go_at_call 212;refine(Da H9).mono ?_;rintro e X9⟨a4,l4,c4,rfl,x5,cr,z,aN,cq,aU⟩;have aY:=Db aN;clear aN);rw[Da aY];obtain⟨an,bb,bF,cg,aP,aE⟩:=De z [.int .i64 0] 3;obtain⟨aw,bc,bG,bC,cj,a5⟩:=De an [.slice (some ⟨g,off,none⟩) q G] 59;obtain⟨ag,bd,aQ,aO,ck,a6⟩:=De aw [.int .i64 64] 3;have aB:Bw z ag:=aE.trans ((a5.mono (by omega)).trans (a6.mono (by omega)));have aa:=Da aU;have al:=Da HB;have cH:=aa.sz;have bD:aw.heap.size=z.heap.size+1+1:=by omega
 have af:ag.heap.size=z.heap.size+3:=by omega
 have yt:=aO _ _ _ (bC _ _ _ bF);have yc:=aO _ _ _ bG;rw[aP]at yc;rw[bD]at aQ;have ct:an.cell? ⟨(w.heap.size+1+1),3,none⟩=some (.slice (some ⟨g,off,none⟩) q G):=(aE.cell (p:=⟨(w.heap.size+1+1),3,none⟩) aa.b7.lt).trans cq;have bh:Mz z b n0 (z.heap.size+3) w.heap.size (w.heap.size+1) (w.heap.size+1+1) z.heap.size g C (.slice a4 l4 c4):=by
  refine⟨rfl,rfl,by omega,by omega,by omega,by omega,by omega,λj F=>?_,λj F=>?_,λj F=>?_,by have:=al.n0w;omega,by omega,by have:=al.n0w;omega,by omega,bu,λe=>?_,by omega⟩
  ·have:=al.o0 j F;omega
  ·have h9:=aa.rs.1.lt F;rcases aa.hv j F with h8|h8
   ·have:=al.ov j h8;omega
   ·omega
  ·rcases aa.hv j F with h8|h8
   ·exact al.nv j h8
   ·have:=al.n0w;omega
  ·rcases aa.hv _ e with h8|h8
   ·exact bv h8
   ·omega
 have bA:Gp z (some ⟨g,off,none⟩) q G d:=bz.fr aa.fr (λx e _ ho=>by cases e;exact ho.elim bu bv);have bi:GR z b n0 (z.heap.size+3) w.heap.size (w.heap.size+1) (w.heap.size+1+1) z.heap.size pb db sb so E p fn g off q G d C (.slice a4 l4 c4) st (s++Ds m p 2++Do m p++⟨#[UInt8.ofNat fn]⟩++Ja q 2) [] [] (.slice a4 l4 c4) C ag:=by
  have ao:=aa.below aB;refine⟨ao.st,λj F => .inl F,ao.b4,ao.b5,ao.b7,yt,?_,λj F => .inl F,ao.dis,bA.below aB,Fr.of_below aB,by omega⟩;show F9 b ag _ (_++⟨#[]⟩);rw[Kv];exact ao.rs
 have bR:=Db bi;have bV:Hid ((s++Ds m p 2++Do m p++⟨#[UInt8.ofNat fn]⟩++Ja q 2).size<=900000):=by
  show(s++Ds m p 2++Do m p++⟨#[UInt8.ofNat fn]⟩++Ja q 2).size<=900000;rw[Ai,Ai,Ai,Ai,Qe];have q1:(Ds m p 2).size=3:=rfl;have q2:(Do m p).size<=p.size:=by unfold Do;rw[Ah];omega
  have q3:(⟨#[UInt8.ofNat fn]⟩:By).size=1:=rfl;omega
 have ak:=Db bh;have aX:=Db af;have bU:Hid (an.heap.size=z.heap.size+1):=aP;have bM:=Db bb;have bN:=Db bc;have bO:=Db bd;have a8:ag.cell? ⟨(z.heap.size+1),0,none⟩=some (.slice (some ⟨g,off,none⟩) q G):=(yc.cell 0).trans rfl;have a9:ag.cell? ⟨(z.heap.size+1+1),0,none⟩=some (.int .i64 64):=(aQ.cell 0).trans rfl;have bI:=Db a8;have bJ:=Db a9;clear H9 aY x5 cr u5 cm cn aT bb bc bd bF bG aQ cg bC aO aP cj ck aE a5 a6 aB aa al bD af yt yc bh bi bA a8 a9 bz
 gi_step
 refine BE.2 (AX ?_);go_wp2;rw[show z.alloc (.cells #[.int .i64 0] 3)=an from Da bM]
 gi_wp2_with (refine⟨trivial,?_⟩;gi_at_call 172;refine(Uk _ 64 (by omega) (by omega) _ _ ⟨_,_,_,rfl⟩).mono ?_;rintro e w'⟨rfl,rfl⟩)
 rw[show an.alloc (.cells #[.slice (some ⟨g,off,none⟩) q G] 59)=aw from Da bN,show aw.alloc (.cells #[.int .i64 64] 3)=ag from Da bO];rw[show an.heap.size=z.heap.size+1 from Da bU];rename_i K0 b4;have af:=Da aX;have cv:KN<=1000:=by omega
 have aZ:Hid (∀j,(C j\/Own (.slice a4 l4 c4) j)->j<z.heap.size):=λj F=>F.elim (λe=>((Da ak).o9 j e).1) (λe=>((Da ak).ov j e).1)
 refine CO (α:=Nat) rfl (by omega) (gf:=220) (lb:=#[.pointer (some ⟨(z.heap.size+1),0,none⟩),.pointer (some ⟨(z.heap.size+1+1),0,none⟩)]) rfl trivial (EB func220 (by kernel_rfl) rfl)
  (Ol 2 (by omega) (z.heap.size+1) (z.heap.size+1+1) g off 64 q G (by omega) (by omega) cd (by omega) KN (Da bT) ag (by omega) (by omega) (Da bI) (Da bJ) (Q1 (z.heap.size+3) (w.heap.size+1) z.heap.size (λj=>C j\/Own (.slice a4 l4 c4) j))
   (λA B bg L h2=>⟨(Ay (w:=A) (a:=⟨(z.heap.size+1),0,none⟩) (bg.2 (z.heap.size+1) (by omega) (λe=>by have:=Da aZ _ e;omega) (by have:=(Da ak).l5;omega) (by omega))).trans L,(Ay (w:=A) (a:=⟨(z.heap.size+1+1),0,none⟩) (bg.2 (z.heap.size+1+1) (by omega) (λe=>by have:=Da aZ _ e;omega) (by have:=(Da ak).l5;omega) (by omega))).trans h2⟩))
  (λL h2=>⟨Af L.1 h2.1,λk a b c d=>(h2.2 k a b c d).trans (L.2 k a b c d)⟩)
  (λX l o o' hl ho _ _=>⟨by simp[World.putObj],λk hk _ _ _=>by
   have:=af;simp only[World.putObj];rw[A7];rw[if_neg (by omega)]⟩)
  (Ak _ _) (λ_=>rfl)
  (λae X=>NL z b n0 (z.heap.size+3) w.heap.size (w.heap.size+1) (w.heap.size+1+1) z.heap.size pb db sb so E p fn g off q G d C (.slice a4 l4 c4) st (s++Ds m p 2++Do m p++⟨#[UInt8.ofNat fn]⟩++Ja q 2) ae X)
  (λ_ _ _=>False)
  (λae A B row hs hg hr=>by
   obtain⟨v,O,h⟩:=hs;exact⟨v,O,h.own (Da ak) hg (λr e=>by rw[<-af];exact hr r e)⟩)
  (λ_ _ _ _ _ hs _ _=>hs)
  ⟨_,_,Da bR⟩
  (λx=>{ tmps:=List.toArray ((.pointer (some ⟨pb,0,none⟩))::(.slice H J I)::(.string m)::(.agg #[.string p,.int .u8 2,.int .i64 (fn:Nat),.slice (some ⟨g,off,none⟩) q G])::(.pointer (some ⟨w.heap.size,0,none⟩))::(.pointer (some ⟨(w.heap.size+1),0,none⟩))::undef::(.pointer (some ⟨(w.heap.size+1+1),0,none⟩))::(.slice none 0 0)::(.int .i64 (N:Nat))::(.pointer (some ⟨z.heap.size,0,none⟩))::(Io g off 64 q x)::undef::(.string m)::(.pointer (some ⟨(w.heap.size+1+1),0,none⟩))::(.string p)::(.int .i64 (N:Nat))::(.slice H J I)::(.pointer (some ⟨(w.heap.size+1+1),1,none⟩))::(.int .u8 2)::(.int .i64 (N:Nat))::(.int .u8 (N1:Nat))::(.pointer (some ⟨(w.heap.size+1+1),0,none⟩))::(.string p)::(.int .i64 (p.size:Nat))::(.int .i64 (N:Nat))::(.int .i64 ((p.size:Int)-(N:Int)))::(.int .u8 (N2:Nat))::(.slice (some ⟨X.heap.size,0,none⟩) 3 3)::(.slice P R Q)::(.slice P R Q)::(.pointer (some ⟨(w.heap.size+1+1),0,none⟩))::(.string p)::(.int .i64 (N:Nat))::(.string (p.extract N p.size))::(.slice T l2 c2)::(.pointer (some ⟨(w.heap.size+1+1),1,none⟩))::(.int .u8 2)::(.bool false)::undef::(.slice T l2 c2)::(.pointer (some ⟨(w.heap.size+1+1),2,none⟩))::(.int .i64 (fn:Nat))::(.int .u8 (N3:Nat))::(.slice (some ⟨V.heap.size,0,none⟩) 1 1)::(.slice a3 l3 c3)::(.pointer (some ⟨(w.heap.size+1+1),1,none⟩))::(.int .u8 2)::(.bool false)::undef::(.slice a3 l3 c3)::(.pointer (some ⟨(w.heap.size+1+1),3,none⟩))::(.slice (some ⟨g,off,none⟩) q G)::(.int .i64 (q:Nat))::(.int .u64 (q:Nat))::(.slice a4 l4 c4)::(.pointer (some ⟨(w.heap.size+1+1),3,none⟩))::(.slice (some ⟨g,off,none⟩) q G)::(.func (.func 220) #[] #[.pointer (some ⟨z.heap.size+1,0,none⟩),.pointer (some ⟨z.heap.size+1+1,0,none⟩)])::(Io g off 64 q x)::undef::undef::undef::undef::undef::undef::undef::undef::undef::undef::undef::undef::undef::undef::undef::[]),defers:=[] })
  ?assign ?body ?done ?stop
 case assign=>
  intro l x X K f;clear af
  gi_wp2
  exact f
 case body=>
  rintro l ae x W⟨v,O,hR⟩ cB;obtain⟨ra,rl,rc,rfl⟩:=hR.rs.1.shape;obtain⟨h4,h6,h8⟩:=ZkH z M hM b n0 (z.heap.size+3) w.heap.size (w.heap.size+1) (w.heap.size+1+1) z.heap.size pb db sb so E hE F p fn g off q G (by omega) d C (.slice a4 l4 c4) st _ (Da bV) (Da ak) L h2 h3 cc ae x (by omega) W ra rl rc O hR;have H4:=Db h4;have H6:=Db h6;have H8:=Db h8;obtain⟨V1,be,bH,ch,cl,ax⟩:=De W (Dc (Dn 64)) 188;obtain⟨V2,bp,aD,bf⟩:=NR V1 W.heap.size 188 _ bH 0 64 64 _ _ _ _ ((hR.rd.below ax).chunk 64 x) (by rw[Qg];omega) (by rw[Dg,Jr];exact Aa _);rw[spl_dt _ (by rw[Qg];omega)]at aD;have ap:Bw W V2:=ax.grown bf ax.size (λk e=>by cases e;omega);have aH:Bw W V2.drew:=⟨ap.os,ap.tape,ap.output,ap.size,ap.block⟩;have ac:=hR.below aH;have aG:∀j,O j->j<W.heap.size:=λj F=>by obtain⟨cs,t,hb⟩:=hR.st.cells F;exact(Aj.1 hb).1
  have HM:Hid (LX z b n0 (z.heap.size+3) w.heap.size (w.heap.size+1) (w.heap.size+1+1) z.heap.size pb db sb so E p fn g off q G d C (.slice a4 l4 c4) st (s++Ds m p 2++Do m p++⟨#[UInt8.ofNat fn]⟩++Ja q 2) ae ae (.slice ra rl rc) O O x W V2.drew):=⟨ac,Fr.of_below aH,aD,aG,λj F e=>by have:=aG j F;omega⟩;have b5:KQ w.heap.size (w.heap.size+1+1) z.heap.size pb fn ae.length W.heap.size (Dc (Gn d x)) V2.drew:=⟨ac.b4.cell,(ac.b7.cell 2).trans rfl,ac.bt.cell,λj v hv=>by rw[FX.cell (w:=V2.drew) aD,Av];exact hv⟩;have av:V2.drew.cell? ⟨(w.heap.size+1),0,none⟩=some (.slice ra rl rc):=ac.b5.cell;have bW:=Db be;have bK:(Builtin.copy_ #[59,59] 3 #[.slice (some ⟨W.heap.size,0,none⟩) 64 64,Io g off 64 q x]).run prog V1=.ok (goInt (Hy d 64 x).size) V2:=bp;clear bp h4 h6 h8 hR ac af be bH ch cl ax aD bf ap aH aG
  gi_step
  gi_step
  gi_step
  refine wpIn_region_lit ?_;refine ZeS rfl 188 rfl Kx ?_;refine wpListIn_nil ?_
  try simp only[pE]
  rw[show W.alloc (.cells (Dc (Dn 64)).toArray 188)=V1 from Da bW]
  gi_step
  gi_step
  gi_step
  refine wpIn_region_lit ?_
  gi_wp2_with (refine Zd9 _ rfl _ _ 59 59 rfl _ _ rfl rfl bK ?_)
  refine Qw (KQ w.heap.size (w.heap.size+1+1) z.heap.size pb fn ae.length W.heap.size (Dc (Gn d x))) (by kernel_rfl) (λhh=>by obtain⟨_,_,hh⟩:=hh;exact hh) (by kernel_rfl) b5 (λaF=>?_);refine tv 0 (?_) rfl (Or.inl ⟨by rfl,?_⟩) ?_
  rotate_left
  ·intro w am;(try unfold KQ at am);go_simp<;>with_reducible rfl
  try simp only[pE]
  refine tv 1 (?_) rfl (Or.inl ⟨by rfl,?_⟩) ?_
  rotate_left
  ·intro w am;(try unfold KQ at am);go_simp<;>with_reducible rfl
  try simp only[pE]
  refine tv 2 (?_) rfl (Or.inl ⟨by rfl,?_⟩) ?_
  rotate_left
  ·intro w am;(try unfold KQ at am);go_simp<;>with_reducible rfl
  try simp only[pE]
  refine tv 3 (?_) rfl (Or.inl ⟨by rfl,?_⟩) ?_
  rotate_left
  ·intro w am;(try unfold KQ at am);go_simp<;>with_reducible rfl
  try simp only[pE]
  refine A5 (i:=5) (v:=DA (Gn d x)) rfl (by kernel_rfl) (by kernel_rfl) (by kernel_rfl) (λ_ _ _ h=>h) (CZ (by rfl) 188 _ rfl W.heap.size 0 rfl (Dc (Gn d x)) _ (λX hX=>hX.2.2.2) Kf rfl (by rw[Jf,Dg,Qr])) (by assumption) ?_
  try simp only[pE]
  refine Bo (rs:=[4,7]) (by kernel_rfl) (by simp) ?_;refine(AR (i:=4) rfl ?_ (AR (i:=7) rfl ?_ Bg))
  ·intro K f;go_simp;go_at_call 244;refine(Da H4 _).mono ?_;rintro e w'⟨rfl,hw⟩;rw[hw];clear hw;go_wp2_with fail;refine f.out _ _ (by assumption) (λb6=>?_);clear f K
   try simp only[pE]
   refine Bo (rs:=[6,7]) (by kernel_rfl) (by simp) ?_;refine(AR (i:=6) rfl ?_ (AR (i:=7) rfl ?_ Bg))
   ·intro K f;go_simp;go_at_call 272;refine(Da H6 _ (Da HM)).mono ?_;clear HM;rintro e V6⟨rfl,au,av,HM⟩;go_wp2_with fail;refine f.out _ _ au (λbm=>?_);clear f K
    try simp only[pE]
    refine Bo (rs:=[7]) (by kernel_rfl) (by simp) ?_;refine(AR (i:=7) rfl ?_ Bg)
    ·intro K f;go_simp;refine f.out _ _ (by assumption) (λbn=>?_);clear f K
     try simp only[pE]
     refine rk 8 (λK f=>?_);go_simp;go_at_call 214;refine(Da H8 _ (Da HM)).mono ?_;clear HM;rintro e V8⟨a',l',c',rfl,ah,ai,bq,bs,bt,HF⟩;go_wp2_with fail;refine f.out _ _ ah (λaq=>?_);clear f K
     try simp only[pE]
     refine rk 9 (λK f=>?_);go_simp;refine f.out _ _ ai (λar=>?_);clear f K
     try simp only[pE]
     refine AO (by kernel_rfl) ?_ _;have cT:=ai.2.2.1;clear ah aq ar
     gi_wp2
     exact⟨(Da HF).1,(Da HF).2.1,(Da HF).2.2⟩
   ·intro K f;go_simp;refine f.out _ _ (by assumption) (λbn=>?_);clear f K
    try simp only[pE]
    refine Bo (rs:=[6]) (by kernel_rfl) (by simp) ?_;refine(AR (i:=6) rfl ?_ Bg)
    ·intro K f;go_simp;go_at_call 272;refine(Da H6 _ (Da HM)).mono ?_;clear HM;rintro e V6⟨rfl,au,av,HM⟩;go_wp2_with fail;refine f.out _ _ au (λbm=>?_);clear f K
     try simp only[pE]
     refine rk 8 (λK f=>?_);go_simp;go_at_call 214;refine(Da H8 _ (Da HM)).mono ?_;clear HM;rintro e V8⟨a',l',c',rfl,ah,ai,bq,bs,bt,HF⟩;go_wp2_with fail;refine f.out _ _ ah (λaq=>?_);clear f K
     try simp only[pE]
     refine rk 9 (λK f=>?_);go_simp;refine f.out _ _ ai (λar=>?_);clear f K
     try simp only[pE]
     refine AO (by kernel_rfl) ?_ _;have cT:=ai.2.2.1;clear ah aq ar
     gi_wp2
     exact⟨(Da HF).1,(Da HF).2.1,(Da HF).2.2⟩
  ·intro K f;go_simp;refine f.out _ _ (by assumption) (λbn=>?_);clear f K
   try simp only[pE]
   refine Bo (rs:=[4]) (by kernel_rfl) (by simp) ?_;refine(AR (i:=4) rfl ?_ Bg)
   ·intro K f;go_simp;go_at_call 244;refine(Da H4 _).mono ?_;rintro e w'⟨rfl,hw⟩;rw[hw];clear hw;go_wp2_with fail;refine f.out _ _ (by assumption) (λb6=>?_);clear f K
    try simp only[pE]
    refine Bo (rs:=[6]) (by kernel_rfl) (by simp) ?_;refine(AR (i:=6) rfl ?_ Bg)
    ·intro K f;go_simp;go_at_call 272;refine(Da H6 _ (Da HM)).mono ?_;clear HM;rintro e V6⟨rfl,au,av,HM⟩;go_wp2_with fail;refine f.out _ _ au (λbm=>?_);clear f K
     try simp only[pE]
     refine rk 8 (λK f=>?_);go_simp;go_at_call 214;refine(Da H8 _ (Da HM)).mono ?_;clear HM;rintro e V8⟨a',l',c',rfl,ah,ai,bq,bs,bt,HF⟩;go_wp2_with fail;refine f.out _ _ ah (λaq=>?_);clear f K
     try simp only[pE]
     refine rk 9 (λK f=>?_);go_simp;refine f.out _ _ ai (λar=>?_);clear f K
     try simp only[pE]
     refine AO (by kernel_rfl) ?_ _;have cT:=ai.2.2.1;clear ah aq ar
     gi_wp2
     exact⟨(Da HF).1,(Da HF).2.1,(Da HF).2.2⟩
 case done=>
  rintro D ys XX hD rfl⟨v,O,hR⟩ f;have c5:=hR.b5.cell;obtain⟨ra,rl,rc,rfl⟩:=hR.rs.1.shape;have HR:=Db hR;clear hR af;show K0 _ _;refine b4 _ _ ?_
  gi_wp2
  have hR:=Da HR;have af:=Da aX;have aa:=Da aU;refine⟨by simp,.inl ⟨_,_,rfl,BP f,?_⟩⟩;have hg:XX.grownBy (XX.putObj D (.deferred none)) (some D):=⟨rfl,rfl,rfl,by simp[World.putObj],λk _ hk=>by
   simp only[World.putObj];rw[A7,if_neg (λe=>hk (by rw[e]))]⟩
  have ac:=hR.own (Da ak) hg (λr e=>by cases e;exact⟨by omega,_,f,rfl⟩);have aN:=aa.fr.size;refine⟨_,Eu rfl _ _ _,ra,rl,rc,O,rfl,ac.rs,ac.st,λj F=>(ac.hO j F).imp id (λe=>by omega),λj F=>?_,ac.dis,aa.fr.then ac.fr (λk hk e=>?_)⟩
  ·rcases ac.hv j F with e|e
   ·exact(aa.hv j e).imp id (λe=>by omega)
   ·exact .inr (by omega)
  ·rcases e with e|e|e
   ·exact .inl e
   ·exact(aa.hv k e).elim .inr (λe=>by omega)
   ·omega
 case stop=>
  rintro D c ae X _ _ h _;exact h.elim
end
end Go.Proofs.YtaieidcohdhgpaaGreatDoor
