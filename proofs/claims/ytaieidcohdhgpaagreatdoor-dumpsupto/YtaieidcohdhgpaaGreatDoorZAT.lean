/- Dumps. -/
import Derived.Test.YtaieidcohdhgpaaGreatDoorZAS
namespace Go.Proofs.YtaieidcohdhgpaaGreatDoor
set_option maxHeartbeats 40000000
set_option maxRecDepth 100000
section
open Go.RowKit Go.Shelf
attribute [local go_sem] Oper.semAt_some
theorem ZeM{F:Fence}{n:Nat}{P:Program}{b:Array Oper}{d:List Oper}{o:Oper}{a:Act}{w:World}{Q:Exit->Act->World->Prop}(g:o.guard=none)(t:TypeId)(ho:o.op = .alloc t){zs:Array Value}(i:∀w,(zeroValue t).run P w = .ok (.agg zs) w)
  (h:wpListIn F n P b Q d (a.put o.dst (.pointer (some ⟨w.heap.size,0,none⟩))) (w.alloc (.cells zs t))):wpListIn F n P b Q (o::d) a w:=by
 refine wpListIn_plain g fun K e=>?_
 unfold Oper.wpIn;refine⟨by simp[Oper.about,ho],?_⟩;rw[Fg F _ _ (by rw[ho];intro c f;cases f)];unfold execOp;simp only[ho,Instr.alloc,Cy,i,Cr];simp[newVar,newRow,go_sem,Value.cells];exact e _ _ h
theorem Zed{F:Fence}{n:Nat}{P:Program}(w:World){b:Array Oper}{e:List Oper}{o:Oper}{a:Act}{Q:Exit->Act->World->Prop}(l:o.guard=none)(d s:Operand)(t f:TypeId)
  (ho:o.op = .call { callee := .builtin .copy,args := #[d,s],argTypes := #[t,f] }) (v u:Value) (k:a.eval d=v) (p:a.eval s=u) {g:Value} {w':World}
  (m:(Builtin.copy_ #[t,f] o.type #[v,u]).run P w = .ok g w') (h:wpListIn F n P b Q e (a.put o.dst g) w'):wpListIn F n P b Q (o::e) a w:=by
 refine wpListIn_plain l fun K i=>?_
 unfold Oper.wpIn;refine⟨?_,?_⟩
 ·simp[Oper.about,ho,resolve,Target.leads,Sem.run_pure]
 ·rw[Fg F _ _ (by rw[ho];intro c j;cases j)];simp[execOp,ho,resolve,invoke,builtin,k,p,m,Result.andThen];exact i _ _ h
theorem ZkF(w:World)(b n0 pb db sb so:Nat)(E:FL)(T:Pl)(C:Nat->Prop)(aC:Gy n0 pb db sb so E T C w)(H:OA)(J I:Nat)(s:By)(hs:cP b w (.slice H J I) s)(cG:s.size<=600000)(br:∀j,C j->¬Own (.slice H J I) j)(bw:∀j,Own (.slice H J I) j->n0<=j)(hb:b<=w.heap.size)(m p:By)(cA:m.size<=100000)(hp:p.size<=100000)(fn:Nat)(cx:fn<60000)(g off q G:Nat)(d:By)(bz:Ge w (some ⟨g,off,none⟩) q G d)(cd:q<=G)(hl:q<=60000)(bu:¬C g)(bv:¬Own (.slice H J I) g)(cy:g<w.heap.size)(hE:F4 E)(F:∃j,j<96/\E.nd j<=0)(M:Nat)(hM:M<=1000)(L:T.puts.length+M<=10000)(h2:T.ps.length+M<=1000000)(h3:T.hd<=1536)(cc:∀y∈T.puts,∀i,i<M->y.1≠Dp 4 fn i)(KN:Nat)(bk:KN=(q+64-1)/64)(cu:KN<=M):
  Cl 236 #[.pointer (some ⟨pb,0,none⟩),.slice H J I,.string m,.agg #[.string p,.int .u8 2,.int .i64 (fn:Nat) ,.slice (some ⟨g,off,none⟩) q G]] w (QK w b n0 pb db sb so E C (.slice H J I) (E.puts (Dp 4 fn) (Gq d) T 0 (List.range KN)) (s++Do m p 2++Dl m p++⟨#[UInt8.ofNat fn]⟩++Jv q 2++Kc E fn d T 0 (List.range KN))):=by
 obtain⟨W1,e1,x1,k1,s1,b1⟩:=De w [.pointer (some ⟨pb,0,none⟩)] 168;obtain⟨W2,e2,x2,k2,s2,b2⟩:=De W1 [.slice H J I] 59;obtain⟨W3,e3,x3,k3,s3,b3⟩:=De W2 [.string p,.int .u8 2,.int .i64 (fn:Nat),.slice (some ⟨g,off,none⟩) q G] 141;have aj:Bw w W3:=b1.trans ((b2.mono (by omega)).trans (b3.mono (by omega)));have y1:=k3 _ _ _ (k2 _ _ _ x1);have y2:=k3 _ _ _ x2;have t2:W2.heap.size=w.heap.size+1+1:=by omega
 rw[s1]at y2;rw[t2]at x3;have bl:∀j,C j->j<w.heap.size:=fun j F=>by obtain⟨cs,t,hb⟩:=aC.cells F;exact(Ah.1 hb).1
 have hB:IJ w b n0 w.heap.size (w.heap.size+1) (w.heap.size+1+1) C (.slice H J I):=⟨rfl,rfl,rfl,bl,fun j F=>hs.1.lt F,bw,hb,aC.2.2.1⟩;have bj:FV w b n0 w.heap.size (w.heap.size+1) (w.heap.size+1+1) pb db sb so E p 2 (fn:Nat) (.slice (some ⟨g,off,none⟩) q G) C (.slice H J I) T C (.slice H J I) s W3:=⟨aC.abides (row:=none) ⟨aj.os,aj.tape,aj.output,aj.size,fun k hk _=>aj.block k hk⟩ (fun r e=>by cases e),fun j F => .inl F,y1,y2,x3,hs.below aj,fun j F => .inl F,br,Fr.of_below aj,by omega⟩;obtain⟨N,hN⟩:=ex (Kz m p);have cw:N<=p.size:=by rw[hN];exact(MZ _ _).2
 obtain⟨N1,ay⟩:∃M:Nat,M=(UInt8.ofNat N).toNat:=⟨_,rfl⟩;obtain⟨N2,az⟩:∃M:Nat,M=(UInt8.ofNat (p.size-N)).toNat:=⟨_,rfl⟩;have aJ:((p.size:Int)-(N:Int))=((p.size-N:Nat):Int):=by omega
 have cI:IntKind.u8.wrap (N:Int)=(N1:Int):=by rw[ay];exact Ka N
 have cK:IntKind.u8.wrap ((p.size:Int)-(N:Int))=(N2:Int):=by rw[az,aJ];exact Ka _
 have cJ:(N:Int)%256=(N1:Int):=by rw[ay,BA];omega
 have cL:((p.size:Int)-(N:Int))%256=(N2:Int):=by rw[az,aJ,BA];omega
 clear aJ;have bS:=Db bj;have HB:=Db hB;have HA:Hid (∀X,Bw W3 X->X.cell? ⟨(w.heap.size+1),0,none⟩=some (.slice H J I)/\X.cell? ⟨(w.heap.size+1+1),0,none⟩=some (.string p)/\X.cell? ⟨(w.heap.size+1+1),1,none⟩=some (.int .u8 2)/\∃Y P R Q w1,X.alloc (.cells #[.int .u8 2,.int .u8 (N1:Nat),.int .u8 (N2:Nat)] 5)=Y/\Y.cell? ⟨(w.heap.size+1),0,none⟩=some (.slice H J I)/\(Builtin.append_ #[59,59] 59 #[.slice H J I,.slice (some ⟨X.heap.size,0,none⟩) 3 3]).run Tryz.prog Y = .ok (.slice P R Q) w1/\w1.cell? ⟨(w.heap.size+1),0,none⟩=some (.slice H J I)/\w1.frozen? ⟨(w.heap.size+1),0,none⟩=false/\∃Z,w1.setCell ⟨(w.heap.size+1),0,none⟩ (.slice P R Q)=Z/\Hid (FV w b n0 w.heap.size (w.heap.size+1) (w.heap.size+1+1) pb db sb so E p 2 (fn:Nat) (.slice (some ⟨g,off,none⟩) q G) C (.slice H J I) T C (.slice P R Q) (s++Do m p 2) Z)):=fun X hX=>by
  have hI:=(Da bS).below hX;obtain⟨Y,eY,xY,kY,sY,bY⟩:=De X [.int .u8 2,.int .u8 (N1:Nat),.int .u8 (N2:Nat)] 5;have ab:=hI.below bY;have aI:Dd (Do m p 2)=[.int .u8 2,.int .u8 (N1:Nat),.int .u8 (N2:Nat)]:=by
   rw[ay,az,hN];rfl
  obtain⟨P,R,Q,w1,r1,r2,r3,r4⟩:=Kj Y b (Ae hb (Ae ab.fr.size (Aa _))) _ _ ab.rs ⟨X.heap.size,0,none⟩ 3 3 (Do m p 2) rfl (fun j u hu=>by rw[AF,Au,xY.cell,<-aI];exact hu) (by omega);have q5:Boxed w1 (w.heap.size+1) 59 (.slice H J I):=(r3.block _ ab.b5.lt (fun e=>by rcases ab.hv _ e with L|L;(have:=(Da HB).ov _ L;omega);omega)).trans ab.b5;exact⟨hI.b5.cell,(hI.b7.cell 0).trans rfl,(hI.b7.cell 1).trans rfl,Y,P,R,Q,w1,eY,ab.b5.cell,r1,q5.cell,q5.frozen,_,rfl,ab.say (Da HB) r2 r3 r4⟩
 have HT:Hid (∀Z P R Q,FV w b n0 w.heap.size (w.heap.size+1) (w.heap.size+1+1) pb db sb so E p 2 (fn:Nat) (.slice (some ⟨g,off,none⟩) q G) C (.slice H J I) T C (.slice P R Q) (s++Do m p 2) Z->Z.cell? ⟨(w.heap.size+1),0,none⟩=some (.slice P R Q)/\Z.cell? ⟨(w.heap.size+1+1),0,none⟩=some (.string p)/\∃a2 l2 c2 w2,(Builtin.append_ #[59,9] 59 #[.slice P R Q,.string (p.extract N p.size)]).run Tryz.prog Z.drew = .ok (.slice a2 l2 c2) w2/\w2.cell? ⟨(w.heap.size+1),0,none⟩=some (.slice P R Q)/\w2.cell? ⟨(w.heap.size+1+1),0,none⟩=some (.string p)/\w2.frozen? ⟨(w.heap.size+1),0,none⟩=false/\∃V,w2.setCell ⟨(w.heap.size+1),0,none⟩ (.slice a2 l2 c2)=V/\V.cell? ⟨(w.heap.size+1),0,none⟩=some (.slice a2 l2 c2)/\V.cell? ⟨(w.heap.size+1+1),0,none⟩=some (.string p)/\V.cell? ⟨(w.heap.size+1+1),1,none⟩=some (.int .u8 2)/\V.cell? ⟨(w.heap.size+1+1),2,none⟩=some (.int .i64 (fn:Nat))/\Hid (FV w b n0 w.heap.size (w.heap.size+1) (w.heap.size+1+1) pb db sb so E p 2 (fn:Nat) (.slice (some ⟨g,off,none⟩) q G) C (.slice H J I) T C (.slice a2 l2 c2) (s++Do m p 2++Dl m p) V)):=fun Z P R Q hI=>by
  have ad:=hI.below (Ag _ _).drew;have bB:(s++Do m p 2).size=s.size+3:=by rw[Ai];rfl
  have cC:(Dl m p).size<=p.size:=by unfold Dl;rw[Am];omega
  have b7:Dl m p=p.extract N p.size:=by unfold Dl;rw[hN]
  obtain⟨a2,l2,c2,w2,r1,r2,r3,r4⟩:=UY Z.drew b (Ae hb ad.fr.size) _ _ ad.rs (Dl m p) (by omega);rw[b7]at r1;have q5:Boxed w2 (w.heap.size+1) 59 (.slice P R Q):=(r3.block _ ad.b5.lt (fun e=>by rcases ad.hv _ e with L|L;(have:=(Da HB).ov _ L;omega);omega)).trans ad.b5;have q7:FH w2 (w.heap.size+1+1) 141 _:=(r3.block _ ad.b7.lt (fun e=>by rcases ad.hv _ e with L|L;(have:=(Da HB).ov _ L;omega);omega)).trans ad.b7;have hF:=ad.say (Da HB) r2 r3 r4;exact⟨hI.b5.cell,(hI.b7.cell 0).trans rfl,a2,l2,c2,w2,r1,q5.cell,(q7.cell 0).trans rfl,q5.frozen,_,rfl,hF.b5.cell,(hF.b7.cell 0).trans rfl,(hF.b7.cell 1).trans rfl,(hF.b7.cell 2).trans rfl,hF⟩
 obtain⟨N3,aA⟩:∃M:Nat,M=(UInt8.ofNat fn).toNat:=⟨_,rfl⟩;have cM:IntKind.u8.wrap (fn:Int)=(N3:Int):=by rw[aA];exact Ka fn
 have cN:(fn:Int)%256=(N3:Int):=by rw[aA,BA];omega
 have HC:Hid (∀Z P R Q,FV w b n0 w.heap.size (w.heap.size+1) (w.heap.size+1+1) pb db sb so E p 2 (fn:Nat) (.slice (some ⟨g,off,none⟩) q G) C (.slice H J I) T C (.slice P R Q) (s++Do m p 2++Dl m p) Z->∃Y a2 l2 c2 w2,Z.alloc (.cells #[.int .u8 (N3:Nat)] 5)=Y/\(Builtin.append_ #[59,59] 59 #[.slice P R Q,.slice (some ⟨Z.heap.size,0,none⟩) 1 1]).run Tryz.prog Y = .ok (.slice a2 l2 c2) w2/\w2.cell? ⟨(w.heap.size+1),0,none⟩=some (.slice P R Q)/\w2.frozen? ⟨(w.heap.size+1),0,none⟩=false/\∃V,w2.setCell ⟨(w.heap.size+1),0,none⟩ (.slice a2 l2 c2)=V/\V.cell? ⟨(w.heap.size+1),0,none⟩=some (.slice a2 l2 c2)/\V.cell? ⟨(w.heap.size+1+1),1,none⟩=some (.int .u8 2)/\V.cell? ⟨(w.heap.size+1+1),3,none⟩=some (.slice (some ⟨g,off,none⟩) q G)/\Hid (FV w b n0 w.heap.size (w.heap.size+1) (w.heap.size+1+1) pb db sb so E p 2 (fn:Nat) (.slice (some ⟨g,off,none⟩) q G) C (.slice H J I) T C (.slice a2 l2 c2) (s++Do m p 2++Dl m p++⟨#[UInt8.ofNat fn]⟩) V)):=fun Z P R Q hI=>by
  obtain⟨Y,eY,xY,kY,sY,bY⟩:=De Z [.int .u8 (N3:Nat)] 5;have ab:=hI.below bY;have aI:Dd ⟨#[UInt8.ofNat fn]⟩=[.int .u8 (N3:Nat)]:=by rw[aA];rfl
  have bB:(s++Do m p 2++Dl m p).size<=s.size+3+p.size:=by
   rw[Ai,Ai];have L:(Do m p 2).size=3:=rfl;have h2:(Dl m p).size<=p.size:=by unfold Dl;rw[Am];omega
   omega
  obtain⟨a2,l2,c2,w2,r1,r2,r3,r4⟩:=Kj Y b (Ae hb ab.fr.size) _ _ ab.rs ⟨Z.heap.size,0,none⟩ 1 1 ⟨#[UInt8.ofNat fn]⟩ rfl (fun j u hu=>by rw[AF,Au,xY.cell,<-aI];exact hu) (by omega);have q5:Boxed w2 (w.heap.size+1) 59 (.slice P R Q):=(r3.block _ ab.b5.lt (fun e=>by rcases ab.hv _ e with L|L;(have:=(Da HB).ov _ L;omega);omega)).trans ab.b5;have hF:=ab.say (Da HB) r2 r3 r4;exact⟨Y,a2,l2,c2,w2,eY,r1,q5.cell,q5.frozen,_,rfl,hF.b5.cell,(hF.b7.cell 1).trans rfl,(hF.b7.cell 3).trans rfl,hF⟩
 have cO:IntKind.u64.wrap (q:Int)=(q:Int):=by simp[IntKind.wrap,IntKind.bits,IntKind.signed];omega
 have aV:Hid (∀U a3 l3 c3,FV w b n0 w.heap.size (w.heap.size+1) (w.heap.size+1+1) pb db sb so E p 2 (fn:Nat) (.slice (some ⟨g,off,none⟩) q G) C (.slice H J I) T C (.slice a3 l3 c3) (s++Do m p 2++Dl m p++⟨#[UInt8.ofNat fn]⟩) U->Cl 212 #[.slice a3 l3 c3,.int .u64 (q:Nat),.int .i64 2] U fun e X=>∃a4 l4 c4,e = .returned (.slice a4 l4 c4)/\X.cell? ⟨(w.heap.size+1),0,none⟩=some (.slice a3 l3 c3)/\X.frozen? ⟨(w.heap.size+1),0,none⟩=false/\∃z,X.setCell ⟨(w.heap.size+1),0,none⟩ (.slice a4 l4 c4)=z/\z.cell? ⟨(w.heap.size+1+1),3,none⟩=some (.slice (some ⟨g,off,none⟩) q G)/\Hid (FV w b n0 w.heap.size (w.heap.size+1) (w.heap.size+1+1) pb db sb so E p 2 (fn:Nat) (.slice (some ⟨g,off,none⟩) q G) C (.slice H J I) T C (.slice a4 l4 c4) (s++Do m p 2++Dl m p++⟨#[UInt8.ofNat fn]⟩++Jv q 2) z)):=fun U a3 l3 c3 hI=>by
  have bB:(s++Do m p 2++Dl m p++⟨#[UInt8.ofNat fn]⟩).size<=s.size+4+p.size:=by
   rw[Ai,Ai,Ai];have q1:(Do m p 2).size=3:=rfl;have q2:(Dl m p).size<=p.size:=by unfold Dl;rw[Am];omega
   have q3:(⟨#[UInt8.ofNat fn]⟩:By).size=1:=rfl;omega
  refine(UI U b (Ae hb hI.fr.size) a3 l3 c3 _ hI.rs q (by omega) 2 (by omega) (by omega)).mono ?_;rintro e X ⟨a4,l4,c4,rfl,r2,r3,r4⟩;have q5:Boxed X (w.heap.size+1) 59 (.slice a3 l3 c3):=(r3.block _ hI.b5.lt (fun e=>by rcases hI.hv _ e with L|L;(have:=(Da HB).ov _ L;omega);omega)).trans hI.b5;have hF:=hI.say (Da HB) r2 r3 r4;exact⟨a4,l4,c4,rfl,q5.cell,q5.frozen,_,rfl,(hF.b7.cell 3).trans rfl,hF⟩
 have aW:Hid (Cl 271 #[.string m,.string p] W3 fun e X=>e = .returned (.int .i64 (N:Nat))/\Hid (Bw W3 X)):=(NC m p W3 (by omega) (by omega)).mono (fun e X ⟨L,_,h2⟩=>⟨by rw[L,hN],h2⟩);have cF:IntKind.i64.wrap ((p.size:Int)-(N:Int))=(p.size:Int)-(N:Int):=by rw[BD];omega
 have cz:(N:Int)<=(p.size:Int):=by omega
 have bL:=Db e1;have bP:=Db e2;have bQ:=Db e3;have a7:=(x3.cell 0);have ce:W3.cell? ⟨(w.heap.size+1+1),0,none⟩=some (.string p):=a7.trans rfl;have bT:=Db bk;clear bk hN ay az aA a7 e1 e2 e3 x1 x2 x3 k1 k2 k3 s1 s2 s3 b1 b2 b3 y1 y2 t2 bl hB bj aC hs br bw aj;refine(A0 (n:=3)).1 ?_;refine Bq Tryz.func236 rfl trivial ?_ rfl;simp only[Tryz.ntmps236,AQ,Af,Ay,Nat.reduceAdd,Nat.reduceSub,AP,AO,AV,AR,AJ,AL]
 gi_step
 refine Br.2 (AT ?_);go_wp2;rw[show w.alloc (.cells #[.pointer (some ⟨pb,0,none⟩)] 168)=W1 from Da bL,show W1.alloc (.cells #[.slice H J I] 59)=W2 from Da bP,show W2.alloc (.cells #[.string p,.int .u8 2,.int .i64 (fn:Nat),.slice (some ⟨g,off,none⟩) q G] 141)=W3 from Da bQ]
 gi_step
 refine Br.2 (AT ?_);go_wp2_with (go_at_call 271;refine(Da aW).mono ?_;rintro e X ⟨rfl,HX⟩);obtain⟨av,b9,ca,Y,P,R,Q,w1,hY,b8,aK,aM,cb,Z,hZ,aR⟩:=Da HA X (Da HX);rw[<-hY]at aK;have HZ:=Db hZ;clear hY hZ b8 HA aW ce
 gi_step
 refine Br.2 (AT ?_);go_wp2_with (at_builtin;refine Aj _ rfl _ _ 59 59 rfl _ _ rfl rfl _ _ aK ?_);rw[Da HZ];obtain⟨m5,m7,a2,l2,c2,w2,bx,n5,n7,ci,V,hV,v5,bE,co,cp,aS⟩:=Da HT Z P R Q (Da aR);have HV:=Db hV;clear hV aK aM cb av b9 ca HZ HT aR
 gi_step
 refine Ev Qt ?_;refine Br.2 ?_;refine AN (S:=fun X=>X.cell? ⟨(w.heap.size+1+1),0,none⟩=some (.string p)) (by kernel_rfl) m7 (fun aF=>?_);refine tk 1 ?_;try simp only[pE];refine tk 2 ?_;try simp only[pE];refine tk 3 ?_;try simp only[pE];refine tk 4 ?_;try simp only[pE];refine rk 0 (fun K f=>?_);go_simp;refine f.out _ _ aF (fun bX=>?_);clear f K
 (try simp only[pE])
 refine rk 5 (fun K f=>?_);refine JD rfl _ _ 59 9 rfl _ _ rfl rfl bx ?_;refine f.out _ _ n7 (fun bZ=>?_);clear f K
 (try simp only[pE])
 refine rk 6 (fun K f=>?_);go_simp;rw[Da HV];refine f.out _ _ bE (fun b0=>?_);clear f K
 (try simp only[pE])
 refine AS (by kernel_rfl) ?_ _;refine Qg ?_;clear bX bZ b0 aF bx n5 n7 ci m5 m7 HV;obtain⟨Y3,a3,l3,c3,w3,bo,aL,aM,cf,U,hU,u5,cm,cn,aT⟩:=Da HC V a2 l2 c2 (Da aS);rw[<-bo]at aL;have HU:=Db hU;clear bo hU HC
 gi_step
 gi_step
 gi_step
 gi_step
 refine Br.2 (AT ?_);go_wp2
 gi_step
 gi_step
 gi_step
 gi_step
 gi_step
 refine Br.2 (AT ?_);go_wp2_with (at_builtin;refine Aj _ rfl _ _ 59 59 rfl _ _ rfl rfl _ _ aL ?_);rw[Da HU];clear aL aM cf HU v5 bE co cp aS;have H9:=Db (Da aV U a3 l3 c3 (Da aT));clear aV
 gi_step
 gi_step
 refine Br.2 (AT ?_);go_wp2
 gi_step
 gi_step
 gi_step
 gi_step
 gi_step
 refine Br.2 (AT ?_);go_wp2_with (go_at_call 212;refine(Da H9).mono ?_;rintro e X9 ⟨a4,l4,c4,rfl,x5,cr,z,aN,cq,aU⟩;have aY:=Db aN;clear aN);rw[Da aY];obtain⟨an,bb,bF,cg,aP,aE⟩:=De z [.int .i64 0] 3;obtain⟨aw,bc,bG,bC,cj,a5⟩:=De an [.slice (some ⟨g,off,none⟩) q G] 59;obtain⟨ag,bd,aQ,aO,ck,a6⟩:=De aw [.int .i64 64] 3;have aB:Bw z ag:=aE.trans ((a5.mono (by omega)).trans (a6.mono (by omega)));have aa:=Da aU;have al:=Da HB;have cH:=aa.sz;have bD:aw.heap.size=z.heap.size+1+1:=by omega
 have af:ag.heap.size=z.heap.size+3:=by omega
 have yt:=aO _ _ _ (bC _ _ _ bF);have yc:=aO _ _ _ bG;rw[aP]at yc;rw[bD]at aQ;have ct:an.cell? ⟨(w.heap.size+1+1),3,none⟩=some (.slice (some ⟨g,off,none⟩) q G):=(aE.cell (p:=⟨(w.heap.size+1+1),3,none⟩) aa.b7.lt).trans cq;have bh:LE z b n0 (z.heap.size+3) w.heap.size (w.heap.size+1) (w.heap.size+1+1) z.heap.size g C (.slice a4 l4 c4):=by
  refine⟨rfl,rfl,by omega,by omega,by omega,by omega,by omega,fun j F=>?_,fun j F=>?_,fun j F=>?_,by have:=al.n0w;omega,by omega,by have:=al.n0w;omega,by omega,bu,fun e=>?_,by omega⟩
  ·have:=al.o0 j F;omega
  ·have h9:=aa.rs.1.lt F;rcases aa.hv j F with h8|h8
   ·have:=al.ov j h8;omega
   ·omega
  ·rcases aa.hv j F with h8|h8
   ·exact al.nv j h8
   ·have:=al.n0w;omega
  ·rcases aa.hv _ e with h8|h8
   ·exact bv h8
   ·omega
 have bA:Ge z (some ⟨g,off,none⟩) q G d:=bz.fr aa.fr (fun x e _ ho=>by cases e;exact ho.elim bu bv);have bi:Gr z b n0 (z.heap.size+3) w.heap.size (w.heap.size+1) (w.heap.size+1+1) z.heap.size pb db sb so E p fn g off q G d C (.slice a4 l4 c4) T (s++Do m p 2++Dl m p++⟨#[UInt8.ofNat fn]⟩++Jv q 2) [] [] (.slice a4 l4 c4) C ag:=by
  have ao:=aa.below aB;refine⟨ao.st,fun j F => .inl F,ao.b4,ao.b5,ao.b7,yt,?_,fun j F => .inl F,ao.dis,bA.below aB,Fr.of_below aB,by omega⟩;show cP b ag _ (_++⟨#[]⟩);rw[K2];exact ao.rs
 have bR:=Db bi;have bV:Hid ((s++Do m p 2++Dl m p++⟨#[UInt8.ofNat fn]⟩++Jv q 2).size<=900000):=by
  show(s++Do m p 2++Dl m p++⟨#[UInt8.ofNat fn]⟩++Jv q 2).size<=900000;rw[Ai,Ai,Ai,Ai,Ql];have q1:(Do m p 2).size=3:=rfl;have q2:(Dl m p).size<=p.size:=by unfold Dl;rw[Am];omega
  have q3:(⟨#[UInt8.ofNat fn]⟩:By).size=1:=rfl;omega
 have ak:=Db bh;have aX:=Db af;have bU:Hid (an.heap.size=z.heap.size+1):=aP;have bM:=Db bb;have bN:=Db bc;have bO:=Db bd;have a8:ag.cell? ⟨(z.heap.size+1),0,none⟩=some (.slice (some ⟨g,off,none⟩) q G):=(yc.cell 0).trans rfl;have a9:ag.cell? ⟨(z.heap.size+1+1),0,none⟩=some (.int .i64 64):=(aQ.cell 0).trans rfl;have bI:=Db a8;have bJ:=Db a9;clear H9 aY x5 cr u5 cm cn aT bb bc bd bF bG aQ cg bC aO aP cj ck aE a5 a6 aB aa al bD af yt yc bh bi bA a8 a9 bz
 gi_step
 refine Br.2 (AT ?_);go_wp2;rw[show z.alloc (.cells #[.int .i64 0] 3)=an from Da bM]
 gi_wp2_with (refine⟨trivial,?_⟩;gi_at_call 172;refine(Uk _ 64 (by omega) (by omega) _ _ ⟨_,_,_,rfl⟩).mono ?_;rintro e w' ⟨rfl,rfl⟩)
 rw[show an.alloc (.cells #[.slice (some ⟨g,off,none⟩) q G] 59)=aw from Da bN,show aw.alloc (.cells #[.int .i64 64] 3)=ag from Da bO];rw[show an.heap.size=z.heap.size+1 from Da bU];rename_i K0 b4;have af:=Da aX;have cv:KN<=1000:=by omega
 have aZ:Hid (∀j,(C j\/Own (.slice a4 l4 c4) j)->j<z.heap.size):=fun j F=>F.elim (fun e=>((Da ak).o9 j e).1) (fun e=>((Da ak).ov j e).1)
 refine CS (α := Nat) rfl (by omega) (gf:=220) (lb := #[.pointer (some ⟨(z.heap.size+1),0,none⟩),.pointer (some ⟨(z.heap.size+1+1),0,none⟩)]) rfl trivial (Ez Tryz.func220 (by kernel_rfl) rfl)
  (Nj 2 (by omega) (z.heap.size+1) (z.heap.size+1+1) g off 64 q G (by omega) (by omega) cd (by omega) KN (Da bT) ag (by omega) (by omega) (Da bI) (Da bJ) (Q6 (z.heap.size+3) (w.heap.size+1) z.heap.size (fun j=>C j\/Own (.slice a4 l4 c4) j))
   (fun A B bg L h2=>⟨(Ax (w:=A) (a:=⟨(z.heap.size+1),0,none⟩) (bg.2 (z.heap.size+1) (by omega) (fun e=>by have:=Da aZ _ e;omega) (by have:=(Da ak).l5;omega) (by omega))).trans L,(Ax (w:=A) (a:=⟨(z.heap.size+1+1),0,none⟩) (bg.2 (z.heap.size+1+1) (by omega) (fun e=>by have:=Da aZ _ e;omega) (by have:=(Da ak).l5;omega) (by omega))).trans h2⟩))
  (fun L h2=>⟨Ae L.1 h2.1,fun k a b c d=>(h2.2 k a b c d).trans (L.2 k a b c d)⟩)
  (fun X l o o' hl ho _ _=>⟨by simp[World.putObj],fun k hk _ _ _=>by
   have:=af;simp only[World.putObj];rw[A5];rw[if_neg (by omega)]⟩)
  (Ag _ _) (fun _=>rfl)
  (fun ae X=>MP z b n0 (z.heap.size+3) w.heap.size (w.heap.size+1) (w.heap.size+1+1) z.heap.size pb db sb so E p fn g off q G d C (.slice a4 l4 c4) T (s++Do m p 2++Dl m p++⟨#[UInt8.ofNat fn]⟩++Jv q 2) ae X)
  (fun _ _ _=>False)
  (fun ae A B row hs hg hr=>by
   obtain⟨v,O,h⟩:=hs;exact⟨v,O,h.own (Da ak) hg (fun r e=>by rw[<-af];exact hr r e)⟩)
  (fun _ _ _ _ _ hs _ _=>hs)
  ⟨_,_,Da bR⟩
  (fun x=>{ tmps:=List.toArray ((.pointer (some ⟨pb,0,none⟩))::(.slice H J I)::(.string m)::(.agg #[.string p,.int .u8 2,.int .i64 (fn:Nat),.slice (some ⟨g,off,none⟩) q G])::(.pointer (some ⟨w.heap.size,0,none⟩))::(.pointer (some ⟨(w.heap.size+1),0,none⟩))::undef::(.pointer (some ⟨(w.heap.size+1+1),0,none⟩))::(.slice none 0 0)::(.int .i64 (N:Nat))::(.pointer (some ⟨z.heap.size,0,none⟩))::(Hj g off 64 q x)::undef::(.string m)::(.pointer (some ⟨(w.heap.size+1+1),0,none⟩))::(.string p)::(.int .i64 (N:Nat))::(.slice H J I)::(.pointer (some ⟨(w.heap.size+1+1),1,none⟩))::(.int .u8 2)::(.int .i64 (N:Nat))::(.int .u8 (N1:Nat))::(.pointer (some ⟨(w.heap.size+1+1),0,none⟩))::(.string p)::(.int .i64 (p.size:Nat))::(.int .i64 (N:Nat))::(.int .i64 ((p.size:Int)-(N:Int)))::(.int .u8 (N2:Nat))::(.slice (some ⟨X.heap.size,0,none⟩) 3 3)::(.slice P R Q)::(.slice P R Q)::(.pointer (some ⟨(w.heap.size+1+1),0,none⟩))::(.string p)::(.int .i64 (N:Nat))::(.string (p.extract N p.size))::(.slice a2 l2 c2)::(.pointer (some ⟨(w.heap.size+1+1),1,none⟩))::(.int .u8 2)::(.bool false)::undef::(.slice a2 l2 c2)::(.pointer (some ⟨(w.heap.size+1+1),2,none⟩))::(.int .i64 (fn:Nat))::(.int .u8 (N3:Nat))::(.slice (some ⟨V.heap.size,0,none⟩) 1 1)::(.slice a3 l3 c3)::(.pointer (some ⟨(w.heap.size+1+1),1,none⟩))::(.int .u8 2)::(.bool false)::undef::(.slice a3 l3 c3)::(.pointer (some ⟨(w.heap.size+1+1),3,none⟩))::(.slice (some ⟨g,off,none⟩) q G)::(.int .i64 (q:Nat))::(.int .u64 (q:Nat))::(.slice a4 l4 c4)::(.pointer (some ⟨(w.heap.size+1+1),3,none⟩))::(.slice (some ⟨g,off,none⟩) q G)::(.func (.func 220) #[] #[.pointer (some ⟨z.heap.size+1,0,none⟩),.pointer (some ⟨z.heap.size+1+1,0,none⟩)])::(Hj g off 64 q x)::undef::undef::undef::undef::undef::undef::undef::undef::undef::undef::undef::undef::undef::undef::undef::[]),defers:=[] })
  ?assign ?body ?done ?stop
 case assign=>
  intro l x X K f;clear af
  gi_wp2
  exact f
 case body=>
  rintro l ae x W ⟨v,O,hR⟩ cB;obtain⟨ra,rl,rc,rfl⟩:=hR.rs.1.shape;obtain⟨h4,h6,h8⟩:=ZkD z M hM b n0 (z.heap.size+3) w.heap.size (w.heap.size+1) (w.heap.size+1+1) z.heap.size pb db sb so E hE F p fn g off q G (by omega) d C (.slice a4 l4 c4) T _ (Da bV) (Da ak) L h2 h3 cc ae x (by omega) W ra rl rc O hR;have H4:=Db h4;have H6:=Db h6;have H8:=Db h8;obtain⟨V1,be,bH,ch,cl,ax⟩:=De W (Dd (Du 64)) 188;obtain⟨V2,bp,aD,bf⟩:=OZ V1 W.heap.size 188 _ bH 0 64 64 _ _ _ _ ((hR.rd.below ax).chunk 64 x) (by rw[Qf];omega) (by rw[Dj,Kr];exact Aa _);rw[spl_dt _ (by rw[Qf];omega)]at aD;have ap:Bw W V2:=ax.grown bf ax.size (fun k e=>by cases e;omega);have aH:Bw W V2.drew:=⟨ap.os,ap.tape,ap.output,ap.size,ap.block⟩;have ac:=hR.below aH;have aG:∀j,O j->j<W.heap.size:=fun j F=>by obtain⟨cs,t,hb⟩:=hR.st.cells F;exact(Ah.1 hb).1
  have HM:Hid (Ld z b n0 (z.heap.size+3) w.heap.size (w.heap.size+1) (w.heap.size+1+1) z.heap.size pb db sb so E p fn g off q G d C (.slice a4 l4 c4) T (s++Do m p 2++Dl m p++⟨#[UInt8.ofNat fn]⟩++Jv q 2) ae ae (.slice ra rl rc) O O x W V2.drew):=⟨ac,Fr.of_below aH,aD,aG,fun j F e=>by have:=aG j F;omega⟩;have b5:KV w.heap.size (w.heap.size+1+1) z.heap.size pb fn ae.length W.heap.size (Dd (Gq d x)) V2.drew:=⟨ac.b4.cell,(ac.b7.cell 2).trans rfl,ac.bt.cell,fun j v hv=>by rw[FH.cell (w:=V2.drew) aD,Au];exact hv⟩;have av:V2.drew.cell? ⟨(w.heap.size+1),0,none⟩=some (.slice ra rl rc):=ac.b5.cell;have bW:=Db be;have bK:(Builtin.copy_ #[59,59] 3 #[.slice (some ⟨W.heap.size,0,none⟩) 64 64,Hj g off 64 q x]).run Tryz.prog V1 = .ok (goInt (G7 d 64 x).size) V2:=bp;clear bp h4 h6 h8 hR ac af be bH ch cl ax aD bf ap aH aG
  gi_step
  gi_step
  gi_step
  refine wpIn_region_lit ?_;refine ZeM rfl 188 rfl Ui ?_;refine wpListIn_nil ?_
  (try simp only[pE])
  rw[show W.alloc (.cells (Dd (Du 64)).toArray 188)=V1 from Da bW]
  gi_step
  gi_step
  gi_step
  refine wpIn_region_lit ?_
  gi_wp2_with (refine Zed _ rfl _ _ 59 59 rfl _ _ rfl rfl bK ?_)
  refine QC (KV w.heap.size (w.heap.size+1+1) z.heap.size pb fn ae.length W.heap.size (Dd (Gq d x))) (by kernel_rfl) (fun hh=>by obtain⟨_,_,hh⟩:=hh;exact hh) (by kernel_rfl) b5 (fun aF=>?_);refine tv 0 (?_) rfl (Or.inl ⟨by rfl,?_⟩) ?_
  rotate_left
  ·intro w am;(try unfold KV at am);go_simp<;>with_reducible rfl
  (try simp only[pE])
  refine tv 1 (?_) rfl (Or.inl ⟨by rfl,?_⟩) ?_
  rotate_left
  ·intro w am;(try unfold KV at am);go_simp<;>with_reducible rfl
  (try simp only[pE])
  refine tv 2 (?_) rfl (Or.inl ⟨by rfl,?_⟩) ?_
  rotate_left
  ·intro w am;(try unfold KV at am);go_simp<;>with_reducible rfl
  (try simp only[pE])
  refine tv 3 (?_) rfl (Or.inl ⟨by rfl,?_⟩) ?_
  rotate_left
  ·intro w am;(try unfold KV at am);go_simp<;>with_reducible rfl
  (try simp only[pE])
  refine Bc (i:=5) (v:=DG (Gq d x)) rfl (by kernel_rfl) (by kernel_rfl) (by kernel_rfl) (fun _ _ _ h=>h) (Ea (by rfl) 188 _ rfl W.heap.size 0 rfl (Dd (Gq d x)) _ (fun X hX=>hX.2.2.2) KX rfl (by rw[Kf,Dj,O1])) (by assumption) ?_
  (try simp only[pE])
  refine A6 (rs:=[4,7]) (by kernel_rfl) (by simp) ?_;refine(AE (i:=4) rfl ?_ (AE (i:=7) rfl ?_ AX))
  ·intro K f;go_simp;go_at_call 244;refine(Da H4 _).mono ?_;rintro e w' ⟨rfl,hw⟩;rw[hw];clear hw;go_wp2_with fail;refine f.out _ _ (by assumption) (fun b6=>?_);clear f K
   (try simp only[pE])
   refine A6 (rs:=[6,7]) (by kernel_rfl) (by simp) ?_;refine(AE (i:=6) rfl ?_ (AE (i:=7) rfl ?_ AX))
   ·intro K f;go_simp;go_at_call 272;refine(Da H6 _ (Da HM)).mono ?_;clear HM;rintro e V6 ⟨rfl,au,av,HM⟩;go_wp2_with fail;refine f.out _ _ au (fun bm=>?_);clear f K
    (try simp only[pE])
    refine A6 (rs:=[7]) (by kernel_rfl) (by simp) ?_;refine(AE (i:=7) rfl ?_ AX)
    ·intro K f;go_simp;refine f.out _ _ (by assumption) (fun bn=>?_);clear f K
     (try simp only[pE])
     refine rk 8 (fun K f=>?_);go_simp;go_at_call 214;refine(Da H8 _ (Da HM)).mono ?_;clear HM;rintro e V8 ⟨a',l',c',rfl,ah,ai,bq,bs,bt,HF⟩;go_wp2_with fail;refine f.out _ _ ah (fun aq=>?_);clear f K
     (try simp only[pE])
     refine rk 9 (fun K f=>?_);go_simp;refine f.out _ _ ai (fun ar=>?_);clear f K
     (try simp only[pE])
     refine AS (by kernel_rfl) ?_ _;have cT:=ai.2.2.1;clear ah aq ar
     gi_wp2
     exact⟨(Da HF).1,(Da HF).2.1,(Da HF).2.2⟩
   ·intro K f;go_simp;refine f.out _ _ (by assumption) (fun bn=>?_);clear f K
    (try simp only[pE])
    refine A6 (rs:=[6]) (by kernel_rfl) (by simp) ?_;refine(AE (i:=6) rfl ?_ AX)
    ·intro K f;go_simp;go_at_call 272;refine(Da H6 _ (Da HM)).mono ?_;clear HM;rintro e V6 ⟨rfl,au,av,HM⟩;go_wp2_with fail;refine f.out _ _ au (fun bm=>?_);clear f K
     (try simp only[pE])
     refine rk 8 (fun K f=>?_);go_simp;go_at_call 214;refine(Da H8 _ (Da HM)).mono ?_;clear HM;rintro e V8 ⟨a',l',c',rfl,ah,ai,bq,bs,bt,HF⟩;go_wp2_with fail;refine f.out _ _ ah (fun aq=>?_);clear f K
     (try simp only[pE])
     refine rk 9 (fun K f=>?_);go_simp;refine f.out _ _ ai (fun ar=>?_);clear f K
     (try simp only[pE])
     refine AS (by kernel_rfl) ?_ _;have cT:=ai.2.2.1;clear ah aq ar
     gi_wp2
     exact⟨(Da HF).1,(Da HF).2.1,(Da HF).2.2⟩
  ·intro K f;go_simp;refine f.out _ _ (by assumption) (fun bn=>?_);clear f K
   (try simp only[pE])
   refine A6 (rs:=[4]) (by kernel_rfl) (by simp) ?_;refine(AE (i:=4) rfl ?_ AX)
   ·intro K f;go_simp;go_at_call 244;refine(Da H4 _).mono ?_;rintro e w' ⟨rfl,hw⟩;rw[hw];clear hw;go_wp2_with fail;refine f.out _ _ (by assumption) (fun b6=>?_);clear f K
    (try simp only[pE])
    refine A6 (rs:=[6]) (by kernel_rfl) (by simp) ?_;refine(AE (i:=6) rfl ?_ AX)
    ·intro K f;go_simp;go_at_call 272;refine(Da H6 _ (Da HM)).mono ?_;clear HM;rintro e V6 ⟨rfl,au,av,HM⟩;go_wp2_with fail;refine f.out _ _ au (fun bm=>?_);clear f K
     (try simp only[pE])
     refine rk 8 (fun K f=>?_);go_simp;go_at_call 214;refine(Da H8 _ (Da HM)).mono ?_;clear HM;rintro e V8 ⟨a',l',c',rfl,ah,ai,bq,bs,bt,HF⟩;go_wp2_with fail;refine f.out _ _ ah (fun aq=>?_);clear f K
     (try simp only[pE])
     refine rk 9 (fun K f=>?_);go_simp;refine f.out _ _ ai (fun ar=>?_);clear f K
     (try simp only[pE])
     refine AS (by kernel_rfl) ?_ _;have cT:=ai.2.2.1;clear ah aq ar
     gi_wp2
     exact⟨(Da HF).1,(Da HF).2.1,(Da HF).2.2⟩
 case done=>
  rintro D ys XX hD rfl ⟨v,O,hR⟩ f;have c5:=hR.b5.cell;obtain⟨ra,rl,rc,rfl⟩:=hR.rs.1.shape;have HR:=Db hR;clear hR af;show K0 _ _;refine b4 _ _ ?_
  gi_wp2
  have hR:=Da HR;have af:=Da aX;have aa:=Da aU;refine⟨by simp,.inl ⟨_,_,rfl,BS f,?_⟩⟩;have hg:XX.grownBy (XX.putObj D (.deferred none)) (some D):=⟨rfl,rfl,rfl,by simp[World.putObj],fun k _ hk=>by
   simp only[World.putObj];rw[A5,if_neg (fun e=>hk (by rw[e]))]⟩
  have ac:=hR.own (Da ak) hg (fun r e=>by cases e;exact⟨by omega,_,f,rfl⟩);have aN:=aa.fr.size;refine⟨_,EQ rfl _ _ _,ra,rl,rc,O,rfl,ac.rs,ac.st,fun j F=>(ac.hO j F).imp id (fun e=>by omega),fun j F=>?_,ac.dis,aa.fr.then ac.fr (fun k hk e=>?_)⟩
  ·rcases ac.hv j F with e|e
   ·exact(aa.hv j e).imp id (fun e=>by omega)
   ·exact .inr (by omega)
  ·rcases e with e|e|e
   ·exact .inl e
   ·exact(aa.hv k e).elim .inr (fun e=>by omega)
   ·omega
 case stop=>
  rintro D c ae X _ _ h _;exact h.elim
end
section
open Go.RowKit Go.Shelf
attribute [local go_sem] Oper.semAt_some
theorem Ts(n:Nat)(a e m:Nat)(w:World)(h:a<w.heap.size)(c:w.cell? ⟨a,0,none⟩=some (.slice none 0 0))(g:World->World->Prop):
  SeqStopsK Fence.wide n Tryz.prog 220 #[.pointer (some ⟨a,0,none⟩),.pointer (some ⟨e,0,none⟩)] (fun k:Nat => #[Hj 0 0 m 0 k]) g (fun o=>o=[]) (fun _=>False) 0 w:=fun l J Jx W d i _ j b=>by
 have c1:=(d.cell (p:=⟨a,0,none⟩) h).trans c;have f:=Db b;clear j d c i b;refine Cv Tryz.func220 rfl trivial ?_ rfl;simp only[Tryz.ntmps220,AQ,Af,Ay,Nat.reduceAdd,Nat.reduceSub,AP,AO,AV,AR,AJ,AL]
 gi_wp2
 refine wpIn_loop_once ?_
 gi_wp2
 go_end0
 exact⟨⟨_,rfl⟩,.inl ⟨[],rfl,Da f⟩⟩
theorem FV.own{w:World}{b B m n s pb x C so:Nat}{E:FL}{p:By}{k:Nat}{f:Int}{G:Value}{u:Nat->Prop}{F:Value}{D:Pl}{O:Nat->Prop}{v:Value}{t:By}{W i:World}(h:FV w b B m n s pb x C so E p k f G u F D O v t W){row:Option Nat}(a:W.grownBy i row)(l:∀r,row=some r->w.heap.size<=r/\∃o:Obj,W.heap[r]?=some o/\o.isCells=false):FV w b B m n s pb x C so E p k f G u F D O v t i:=by
 have ne:∀(j:Nat) (c:Array Value) (t:TypeId) (z:Nat×Nat),W.heap[j]?=some (Obj.cells c t z)->some j≠row:=fun j c t z d e=>by
  obtain⟨o,y,L⟩:=(l j e.symm).2;rw[d]at y;cases y;cases L
 have g:∀(j:Nat) (c:Array Value) (t:TypeId) (z:Nat×Nat),W.heap[j]?=some (Obj.cells c t z)->i.heap[j]?=some (Obj.cells c t z):=fun j c t z d=>(a.block j (Ah.1 d).1 (ne j c t z d)).trans d
 refine⟨h.st.abides a (fun r e=>(l r e).2),h.hO,g _ _ _ _ h.b4,g _ _ _ _ h.b5,g _ _ _ _ h.b7,⟨?_,h.rs.2⟩,h.hv,h.dis,?_,Ae h.sz a.size⟩
 ·rcases h.rs.1.2 with⟨e,K⟩|⟨J,I,H,e,M,q⟩
  ·exact⟨h.rs.1.1,.inl ⟨e,K⟩⟩
  ·exact⟨h.rs.1.1,.inr ⟨J,I,H,e,g _ _ _ _ M,q⟩⟩
 ·exact h.fr.then (Y:=fun j=>row=some j) ⟨a.os,a.tape,a.output,a.size,fun k A N=>a.block k A (fun e=>N e.symm)⟩ (fun k A P=>by have:=(l _ P).1;omega)
theorem ZiT(w:World)(b O pb Q T so:Nat)(E:FL)(st:Pl)(i:Nat->Prop)(aj:Gy O pb Q T so E st i w)(d:OA)(g f:Nat)(s:By)(hs:cP b w (.slice d g f) s)(bL:s.size<=600000)(aN:∀j,i j->¬Own (.slice d g f) j)(aO:∀j,Own (.slice d g f) j->O<=j)(hb:b<=w.heap.size)(a p:By)(bI:a.size<=100000)(hp:p.size<=100000)(fn:Nat)(_hfn:fn<60000):
  Cl 236 #[.pointer (some ⟨pb,0,none⟩),.slice d g f,.string a,.agg #[.string p,.int .u8 2,.int .i64 (fn:Nat),.slice none 0 0]] w (QK w b O pb Q T so E i (.slice d g f) st (s++Do a p 2++Dl a p++⟨#[UInt8.ofNat fn]⟩++Jv 0 2)):=by
 obtain⟨W1,e1,x1,k1,s1,b1⟩:=De w [.pointer (some ⟨pb,0,none⟩)] 168;obtain⟨W2,e2,x2,k2,s2,b2⟩:=De W1 [.slice d g f] 59;obtain⟨W3,e3,x3,k3,s3,b3⟩:=De W2 [.string p,.int .u8 2,.int .i64 (fn:Nat),.slice none 0 0] 141;have ab:Bw w W3:=b1.trans ((b2.mono (by omega)).trans (b3.mono (by omega)));have y1:=k3 _ _ _ (k2 _ _ _ x1);have y2:=k3 _ _ _ x2;have t2:W2.heap.size=w.heap.size+1+1:=by omega
 rw[s1]at y2;rw[t2]at x3;have aK:∀j,i j->j<w.heap.size:=fun j hj=>by obtain⟨cs,t,hb⟩:=aj.cells hj;exact(Ah.1 hb).1
 have hB:IJ w b O w.heap.size (w.heap.size+1) (w.heap.size+1+1) i (.slice d g f):=⟨rfl,rfl,rfl,aK,fun j hj=>hs.1.lt hj,aO,hb,aj.2.2.1⟩;have aJ:FV w b O w.heap.size (w.heap.size+1) (w.heap.size+1+1) pb Q T so E p 2 (fn:Nat) (.slice none 0 0) i (.slice d g f) st i (.slice d g f) s W3:=⟨aj.abides (row:=none) ⟨ab.os,ab.tape,ab.output,ab.size,fun k hk _=>ab.block k hk⟩ (fun r e=>by cases e),fun j hj => .inl hj,y1,y2,x3,hs.below ab,fun j hj => .inl hj,aN,Fr.of_below ab,by omega⟩;obtain⟨N,hN⟩:=ex (Kz a p);have bG:N<=p.size:=by rw[hN];exact(MZ _ _).2
 obtain⟨N1,ag⟩:∃M:Nat,M=(UInt8.ofNat N).toNat:=⟨_,rfl⟩;obtain⟨N2,ah⟩:∃M:Nat,M=(UInt8.ofNat (p.size-N)).toNat:=⟨_,rfl⟩;have an:((p.size:Int)-(N:Int))=((p.size-N:Nat):Int):=by omega
 have bN:IntKind.u8.wrap (N:Int)=(N1:Int):=by rw[ag];exact Ka N
 have bP:IntKind.u8.wrap ((p.size:Int)-(N:Int))=(N2:Int):=by rw[ah,an];exact Ka _
 have bO:(N:Int)%256=(N1:Int):=by rw[ag,BA];omega
 have bQ:((p.size:Int)-(N:Int))%256=(N2:Int):=by rw[ah,an,BA];omega
 clear an;have a9:=Db aJ;have HB:=Db hB;have HA:Hid (∀X,Bw W3 X->X.cell? ⟨(w.heap.size+1),0,none⟩=some (.slice d g f)/\X.cell? ⟨(w.heap.size+1+1),0,none⟩=some (.string p)/\X.cell? ⟨(w.heap.size+1+1),1,none⟩=some (.int .u8 2)/\∃Y m q o w1,X.alloc (.cells #[.int .u8 2,.int .u8 (N1:Nat),.int .u8 (N2:Nat)] 5)=Y/\Y.cell? ⟨(w.heap.size+1),0,none⟩=some (.slice d g f)/\(Builtin.append_ #[59,59] 59 #[.slice d g f,.slice (some ⟨X.heap.size,0,none⟩) 3 3]).run Tryz.prog Y = .ok (.slice m q o) w1/\w1.cell? ⟨(w.heap.size+1),0,none⟩=some (.slice d g f)/\w1.frozen? ⟨(w.heap.size+1),0,none⟩=false/\∃Z,w1.setCell ⟨(w.heap.size+1),0,none⟩ (.slice m q o)=Z/\Hid (FV w b O w.heap.size (w.heap.size+1) (w.heap.size+1+1) pb Q T so E p 2 (fn:Nat) (.slice none 0 0) i (.slice d g f) st i (.slice m q o) (s++Do a p 2) Z)):=fun X hX=>by
  have G:=(Da a9).below hX;obtain⟨Y,eY,xY,kY,sY,bY⟩:=De X [.int .u8 2,.int .u8 (N1:Nat),.int .u8 (N2:Nat)] 5;have I:=G.below bY;have am:Dd (Do a p 2)=[.int .u8 2,.int .u8 (N1:Nat),.int .u8 (N2:Nat)]:=by
   rw[ag,ah,hN];rfl
  obtain⟨m,q,o,w1,r1,r2,P,r4⟩:=Kj Y b (Ae hb (Ae I.fr.size (Aa _))) _ _ I.rs ⟨X.heap.size,0,none⟩ 3 3 (Do a p 2) rfl (fun j u hu=>by rw[AF,Au,xY.cell,<-am];exact hu) (by omega);have R:Boxed w1 (w.heap.size+1) 59 (.slice d g f):=(P.block _ I.b5.lt (fun e=>by rcases I.hv _ e with F|F;(have:=(Da HB).ov _ F;omega);omega)).trans I.b5;exact⟨G.b5.cell,(G.b7.cell 0).trans rfl,(G.b7.cell 1).trans rfl,Y,m,q,o,w1,eY,I.b5.cell,r1,R.cell,R.frozen,_,rfl,I.say (Da HB) r2 P r4⟩
 have HT:Hid (∀Z m q o,FV w b O w.heap.size (w.heap.size+1) (w.heap.size+1+1) pb Q T so E p 2 (fn:Nat) (.slice none 0 0) i (.slice d g f) st i (.slice m q o) (s++Do a p 2) Z->Z.cell? ⟨(w.heap.size+1),0,none⟩=some (.slice m q o)/\Z.cell? ⟨(w.heap.size+1+1),0,none⟩=some (.string p)/\∃z H C y,(Builtin.append_ #[59,9] 59 #[.slice m q o,.string (p.extract N p.size)]).run Tryz.prog Z.drew = .ok (.slice z H C) y/\y.cell? ⟨(w.heap.size+1),0,none⟩=some (.slice m q o)/\y.cell? ⟨(w.heap.size+1+1),0,none⟩=some (.string p)/\y.frozen? ⟨(w.heap.size+1),0,none⟩=false/\∃V,y.setCell ⟨(w.heap.size+1),0,none⟩ (.slice z H C)=V/\V.cell? ⟨(w.heap.size+1),0,none⟩=some (.slice z H C)/\V.cell? ⟨(w.heap.size+1+1),0,none⟩=some (.string p)/\V.cell? ⟨(w.heap.size+1+1),1,none⟩=some (.int .u8 2)/\V.cell? ⟨(w.heap.size+1+1),2,none⟩=some (.int .i64 (fn:Nat))/\Hid (FV w b O w.heap.size (w.heap.size+1) (w.heap.size+1+1) pb Q T so E p 2 (fn:Nat) (.slice none 0 0) i (.slice d g f) st i (.slice z H C) (s++Do a p 2++Dl a p) V)):=fun Z m q o G=>by
  have aa:=G.below (Ag _ _).drew;have aQ:(s++Do a p 2).size=s.size+3:=by rw[Ai];rfl
  have bJ:(Dl a p).size<=p.size:=by unfold Dl;rw[Am];omega
  have bi:Dl a p=p.extract N p.size:=by unfold Dl;rw[hN]
  obtain⟨z,H,C,y,r1,r2,P,r4⟩:=UY Z.drew b (Ae hb aa.fr.size) _ _ aa.rs (Dl a p) (by omega);rw[bi]at r1;have R:Boxed y (w.heap.size+1) 59 (.slice m q o):=(P.block _ aa.b5.lt (fun e=>by rcases aa.hv _ e with F|F;(have:=(Da HB).ov _ F;omega);omega)).trans aa.b5;have q7:FH y (w.heap.size+1+1) 141 _:=(P.block _ aa.b7.lt (fun e=>by rcases aa.hv _ e with F|F;(have:=(Da HB).ov _ F;omega);omega)).trans aa.b7;have J:=aa.say (Da HB) r2 P r4;exact⟨G.b5.cell,(G.b7.cell 0).trans rfl,z,H,C,y,r1,R.cell,(q7.cell 0).trans rfl,R.frozen,_,rfl,J.b5.cell,(J.b7.cell 0).trans rfl,(J.b7.cell 1).trans rfl,(J.b7.cell 2).trans rfl,J⟩
 obtain⟨N3,ai⟩:∃M:Nat,M=(UInt8.ofNat fn).toNat:=⟨_,rfl⟩;have bR:IntKind.u8.wrap (fn:Int)=(N3:Int):=by rw[ai];exact Ka fn
 have bS:(fn:Int)%256=(N3:Int):=by rw[ai,BA];omega
 have HC:Hid (∀Z m q o,FV w b O w.heap.size (w.heap.size+1) (w.heap.size+1+1) pb Q T so E p 2 (fn:Nat) (.slice none 0 0) i (.slice d g f) st i (.slice m q o) (s++Do a p 2++Dl a p) Z->∃Y z H C y,Z.alloc (.cells #[.int .u8 (N3:Nat)] 5)=Y/\(Builtin.append_ #[59,59] 59 #[.slice m q o,.slice (some ⟨Z.heap.size,0,none⟩) 1 1]).run Tryz.prog Y = .ok (.slice z H C) y/\y.cell? ⟨(w.heap.size+1),0,none⟩=some (.slice m q o)/\y.frozen? ⟨(w.heap.size+1),0,none⟩=false/\∃V,y.setCell ⟨(w.heap.size+1),0,none⟩ (.slice z H C)=V/\V.cell? ⟨(w.heap.size+1),0,none⟩=some (.slice z H C)/\V.cell? ⟨(w.heap.size+1+1),1,none⟩=some (.int .u8 2)/\V.cell? ⟨(w.heap.size+1+1),3,none⟩=some (.slice none 0 0)/\Hid (FV w b O w.heap.size (w.heap.size+1) (w.heap.size+1+1) pb Q T so E p 2 (fn:Nat) (.slice none 0 0) i (.slice d g f) st i (.slice z H C) (s++Do a p 2++Dl a p++⟨#[UInt8.ofNat fn]⟩) V)):=fun Z m q o G=>by
  obtain⟨Y,eY,xY,kY,sY,bY⟩:=De Z [.int .u8 (N3:Nat)] 5;have I:=G.below bY;have am:Dd ⟨#[UInt8.ofNat fn]⟩=[.int .u8 (N3:Nat)]:=by rw[ai];rfl
  have aQ:(s++Do a p 2++Dl a p).size<=s.size+3+p.size:=by
   rw[Ai,Ai];have F:(Do a p 2).size=3:=rfl;have h2:(Dl a p).size<=p.size:=by unfold Dl;rw[Am];omega
   omega
  obtain⟨z,H,C,y,r1,r2,P,r4⟩:=Kj Y b (Ae hb I.fr.size) _ _ I.rs ⟨Z.heap.size,0,none⟩ 1 1 ⟨#[UInt8.ofNat fn]⟩ rfl (fun j u hu=>by rw[AF,Au,xY.cell,<-am];exact hu) (by omega);have R:Boxed y (w.heap.size+1) 59 (.slice m q o):=(P.block _ I.b5.lt (fun e=>by rcases I.hv _ e with F|F;(have:=(Da HB).ov _ F;omega);omega)).trans I.b5;have J:=I.say (Da HB) r2 P r4;exact⟨Y,z,H,C,y,eY,r1,R.cell,R.frozen,_,rfl,J.b5.cell,(J.b7.cell 1).trans rfl,(J.b7.cell 3).trans rfl,J⟩
 have ax:Hid (∀U a3 l3 c3,FV w b O w.heap.size (w.heap.size+1) (w.heap.size+1+1) pb Q T so E p 2 (fn:Nat) (.slice none 0 0) i (.slice d g f) st i (.slice a3 l3 c3) (s++Do a p 2++Dl a p++⟨#[UInt8.ofNat fn]⟩) U->Cl 212 #[.slice a3 l3 c3,.int .u64 0,.int .i64 2] U fun e X=>∃a4 l4 c4,e = .returned (.slice a4 l4 c4)/\X.cell? ⟨(w.heap.size+1),0,none⟩=some (.slice a3 l3 c3)/\X.frozen? ⟨(w.heap.size+1),0,none⟩=false/\∃v,X.setCell ⟨(w.heap.size+1),0,none⟩ (.slice a4 l4 c4)=v/\v.cell? ⟨(w.heap.size+1+1),3,none⟩=some (.slice none 0 0)/\Hid (FV w b O w.heap.size (w.heap.size+1) (w.heap.size+1+1) pb Q T so E p 2 (fn:Nat) (.slice none 0 0) i (.slice d g f) st i (.slice a4 l4 c4) (s++Do a p 2++Dl a p++⟨#[UInt8.ofNat fn]⟩++Jv 0 2) v)):=fun U a3 l3 c3 G=>by
  have aQ:(s++Do a p 2++Dl a p++⟨#[UInt8.ofNat fn]⟩).size<=s.size+4+p.size:=by
   rw[Ai,Ai,Ai];have q1:(Do a p 2).size=3:=rfl;have q2:(Dl a p).size<=p.size:=by unfold Dl;rw[Am];omega
   have q3:(⟨#[UInt8.ofNat fn]⟩:By).size=1:=rfl;omega
  refine(UI U b (Ae hb G.fr.size) a3 l3 c3 _ G.rs 0 (by omega) 2 (by omega) (by omega)).mono ?_;rintro e X ⟨a4,l4,c4,rfl,r2,P,r4⟩;have R:Boxed X (w.heap.size+1) 59 (.slice a3 l3 c3):=(P.block _ G.b5.lt (fun e=>by rcases G.hv _ e with F|F;(have:=(Da HB).ov _ F;omega);omega)).trans G.b5;have J:=G.say (Da HB) r2 P r4;exact⟨a4,l4,c4,rfl,R.cell,R.frozen,_,rfl,(J.b7.cell 3).trans rfl,J⟩
 have ay:Hid (Cl 271 #[.string a,.string p] W3 fun e X=>e = .returned (.int .i64 (N:Nat))/\Hid (Bw W3 X)):=(NC a p W3 (by omega) (by omega)).mono (fun e X ⟨F,_,h2⟩=>⟨by rw[F,hN],h2⟩);have bK:IntKind.i64.wrap ((p.size:Int)-(N:Int))=(p.size:Int)-(N:Int):=by rw[BD];omega
 have bH:(N:Int)<=(p.size:Int):=by omega
 have aX:=Db e1;have a6:=Db e2;have a7:=Db e3;have aD:=(x3.cell 0);have bp:W3.cell? ⟨(w.heap.size+1+1),0,none⟩=some (.string p):=aD.trans rfl;clear hN ag ah ai aD e1 e2 e3 x1 x2 x3 k1 k2 k3 s1 s2 s3 b1 b2 b3 y1 y2 t2 aK hB aJ aj hs aN aO ab;refine(A0 (n:=3)).1 ?_;refine Bq Tryz.func236 rfl trivial ?_ rfl;simp only[Tryz.ntmps236,AQ,Af,Ay,Nat.reduceAdd,Nat.reduceSub,AP,AO,AV,AR,AJ,AL]
 gi_step
 refine Br.2 (AT ?_);go_wp2;rw[show w.alloc (.cells #[.pointer (some ⟨pb,0,none⟩)] 168)=W1 from Da aX,show W1.alloc (.cells #[.slice d g f] 59)=W2 from Da a6,show W2.alloc (.cells #[.string p,.int .u8 2,.int .i64 (fn:Nat),.slice none 0 0] 141)=W3 from Da a7]
 gi_step
 refine Br.2 (AT ?_);go_wp2_with (go_at_call 271;refine(Da ay).mono ?_;rintro e X ⟨rfl,HX⟩);obtain⟨bk,bl,bm,Y,m,q,o,w1,hY,bj,ao,aq,bn,Z,hZ,au⟩:=Da HA X (Da HX);rw[<-hY]at ao;have HZ:=Db hZ;clear hY hZ bj HA ay bp
 gi_step
 refine Br.2 (AT ?_);go_wp2_with (at_builtin;refine Aj _ rfl _ _ 59 59 rfl _ _ rfl rfl _ _ ao ?_);rw[Da HZ];obtain⟨m5,m7,z,H,C,y,aP,n5,n7,bt,V,hV,v5,aU,bz,bA,av⟩:=Da HT Z m q o (Da au);have HV:=Db hV;clear hV ao aq bn bk bl bm HZ HT au
 gi_step
 refine Ev Qt ?_;refine Br.2 ?_;refine AN (S:=fun X=>X.cell? ⟨(w.heap.size+1+1),0,none⟩=some (.string p)) (by kernel_rfl) m7 (fun aI=>?_);refine tk 1 ?_;try simp only[pE];refine tk 2 ?_;try simp only[pE];refine tk 3 ?_;try simp only[pE];refine tk 4 ?_;try simp only[pE];refine rk 0 (fun K L=>?_);go_simp;refine L.out _ _ aI (fun bd=>?_);clear L K
 (try simp only[pE])
 refine rk 5 (fun K L=>?_);refine JD rfl _ _ 59 9 rfl _ _ rfl rfl aP ?_;refine L.out _ _ n7 (fun be=>?_);clear L K
 (try simp only[pE])
 refine rk 6 (fun K L=>?_);go_simp;rw[Da HV];refine L.out _ _ aU (fun bf=>?_);clear L K
 (try simp only[pE])
 refine AS (by kernel_rfl) ?_ _;refine Qg ?_;clear bd be bf aI aP n5 n7 bt m5 m7 HV;obtain⟨Y3,a3,l3,c3,w3,aL,ap,aq,bq,U,hU,u5,bw,bx,aw⟩:=Da HC V z H C (Da av);rw[<-aL]at ap;have HU:=Db hU;clear aL hU HC
 gi_step
 gi_step
 gi_step
 gi_step
 refine Br.2 (AT ?_);go_wp2
 gi_step
 gi_step
 gi_step
 gi_step
 gi_step
 refine Br.2 (AT ?_);go_wp2_with (at_builtin;refine Aj _ rfl _ _ 59 59 rfl _ _ rfl rfl _ _ ap ?_);rw[Da HU];clear ap aq bq HU v5 aU bz bA av;have H9:=Db (Da ax U a3 l3 c3 (Da aw));clear ax
 gi_step
 gi_step
 refine Br.2 (AT ?_);go_wp2
 gi_step
 gi_step
 gi_step
 gi_step
 gi_step
 refine Br.2 (AT ?_);go_wp2_with (go_at_call 212;refine(Da H9).mono ?_;rintro e X9 ⟨a4,l4,c4,rfl,x5,bE,v,aR,bD,bb⟩;have aA:=Db aR;clear aR);rw[Da aA];obtain⟨ac,aF,bB,br,ar,al⟩:=De v [.int .i64 0] 3;obtain⟨ak,aG,aV,bs,bu,aB⟩:=De ac [.slice none 0 0] 59;obtain⟨ae,aH,bC,aS,bv,aC⟩:=De ak [.int .i64 64] 3;have aM:Bw v ae:=al.trans ((aB.mono (by omega)).trans (aC.mono (by omega)));have af:=Da bb;have bM:=af.sz;have ad:ae.heap.size=v.heap.size+3:=by omega
 have yc:=aS _ _ _ aV;rw[ar]at yc;have bF:ac.cell? ⟨(w.heap.size+1+1),3,none⟩=some (.slice none 0 0):=(al.cell (p:=⟨(w.heap.size+1+1),3,none⟩) af.b7.lt).trans bD;have a8:=Db (af.below aM);have az:=Db ad;have bc:Hid (ac.heap.size=v.heap.size+1):=ar;have aY:=Db aF;have aZ:=Db aG;have a5:=Db aH;have aE:ae.cell? ⟨(v.heap.size+1),0,none⟩=some (.slice none 0 0):=(yc.cell 0).trans rfl;have aW:=Db aE;clear H9 aA x5 bE u5 bw bx aw aF aG aH bB aV bC br bs aS ar bu bv al aB aC aM af ad yc aE
 gi_step
 refine Br.2 (AT ?_);go_wp2;rw[show v.alloc (.cells #[.int .i64 0] 3)=ac from Da aY]
 gi_wp2_with (refine⟨trivial,?_⟩;gi_at_call 172;refine(Uk _ 64 (by omega) (by omega) _ _ ⟨_,_,_,rfl⟩).mono ?_;rintro e w' ⟨rfl,rfl⟩)
 rw[show ac.alloc (.cells #[.slice none 0 0] 59)=ak from Da aZ,show ak.alloc (.cells #[.int .i64 64] 3)=ae from Da a5];rw[show ac.heap.size=v.heap.size+1 from Da bc];rename_i K0 bg;have ad:=Da az;refine CS (α := Nat) rfl (by omega) (gf:=220) (lb := #[.pointer (some ⟨(v.heap.size+1),0,none⟩),.pointer (some ⟨(v.heap.size+1+1),0,none⟩)]) rfl trivial (Ez Tryz.func220 (by kernel_rfl) rfl)
  (Ts 2 (v.heap.size+1) (v.heap.size+1+1) 64 ae (by omega) (Da aW) (fun _ _=>True))
  (fun _ _=>trivial)
  (fun _ _ _ _ _ _ _ _=>trivial)
  (Ag _ _) (fun _=>rfl)
  (fun _ X=>FV w b O w.heap.size (w.heap.size+1) (w.heap.size+1+1) pb Q T so E p 2 (fn:Nat) (.slice none 0 0) i (.slice d g f) st i (.slice a4 l4 c4) (s++Do a p 2++Dl a p++⟨#[UInt8.ofNat fn]⟩++Jv 0 2) X)
  (fun _ _ _=>False)
  (fun aT A B row hs hg hr=>hs.own hg (fun r e=>⟨by have:=(hr r e).1;omega,(hr r e).2⟩))
  (fun _ _ _ _ _ hs _ _=>hs)
  (Da a8)
  (fun x=>{ tmps:=List.toArray ((.pointer (some ⟨pb,0,none⟩))::(.slice d g f)::(.string a)::(.agg #[.string p,.int .u8 2,.int .i64 (fn:Nat),.slice none 0 0])::(.pointer (some ⟨w.heap.size,0,none⟩))::(.pointer (some ⟨(w.heap.size+1),0,none⟩))::undef::(.pointer (some ⟨(w.heap.size+1+1),0,none⟩))::(.slice none 0 0)::(.int .i64 (N:Nat))::(.pointer (some ⟨v.heap.size,0,none⟩))::(Hj 0 0 64 0 x)::undef::(.string a)::(.pointer (some ⟨(w.heap.size+1+1),0,none⟩))::(.string p)::(.int .i64 (N:Nat))::(.slice d g f)::(.pointer (some ⟨(w.heap.size+1+1),1,none⟩))::(.int .u8 2)::(.int .i64 (N:Nat))::(.int .u8 (N1:Nat))::(.pointer (some ⟨(w.heap.size+1+1),0,none⟩))::(.string p)::(.int .i64 (p.size:Nat))::(.int .i64 (N:Nat))::(.int .i64 ((p.size:Int)-(N:Int)))::(.int .u8 (N2:Nat))::(.slice (some ⟨X.heap.size,0,none⟩) 3 3)::(.slice m q o)::(.slice m q o)::(.pointer (some ⟨(w.heap.size+1+1),0,none⟩))::(.string p)::(.int .i64 (N:Nat))::(.string (p.extract N p.size))::(.slice z H C)::(.pointer (some ⟨(w.heap.size+1+1),1,none⟩))::(.int .u8 2)::(.bool false)::undef::(.slice z H C)::(.pointer (some ⟨(w.heap.size+1+1),2,none⟩))::(.int .i64 (fn:Nat))::(.int .u8 (N3:Nat))::(.slice (some ⟨V.heap.size,0,none⟩) 1 1)::(.slice a3 l3 c3)::(.pointer (some ⟨(w.heap.size+1+1),1,none⟩))::(.int .u8 2)::(.bool false)::undef::(.slice a3 l3 c3)::(.pointer (some ⟨(w.heap.size+1+1),3,none⟩))::(.slice none 0 0)::(.int .i64 0)::(.int .u64 0)::(.slice a4 l4 c4)::(.pointer (some ⟨(w.heap.size+1+1),3,none⟩))::(.slice none 0 0)::(.func (.func 220) #[] #[.pointer (some ⟨v.heap.size+1,0,none⟩),.pointer (some ⟨v.heap.size+1+1,0,none⟩)])::(Hj 0 0 64 0 x)::undef::undef::undef::undef::undef::undef::undef::undef::undef::undef::undef::undef::undef::undef::undef::[]),defers:=[] })
  ?assign ?body ?done ?stop
 case assign=>
  intro l x X K L;clear ad
  gi_wp2
  exact L
 case body=>
  rintro l aT x W hR bo;exact absurd bo (by omega)
 case done=>
  rintro D ys XX hD rfl hR L;have c5:=hR.b5.cell;have HR:=Db hR;clear hR ad;show K0 _ _;refine bg _ _ ?_
  gi_wp2
  have hR:=Da HR;have ad:=Da az;refine⟨by simp,.inl ⟨_,_,rfl,BS L,?_⟩⟩;have hg:XX.grownBy (XX.putObj D (.deferred none)) (some D):=⟨rfl,rfl,rfl,by simp[World.putObj],fun k _ hk=>by
   simp only[World.putObj];rw[A5,if_neg (fun e=>hk (by rw[e]))]⟩
  have bh:=hR.own hg (fun r e=>by cases e;exact⟨by omega,_,L,rfl⟩);exact⟨_,EQ rfl _ _ _,bh.post rfl⟩
 case stop=>
  rintro D c aT X _ _ h _;exact h.elim
end
end Go.Proofs.YtaieidcohdhgpaaGreatDoor
