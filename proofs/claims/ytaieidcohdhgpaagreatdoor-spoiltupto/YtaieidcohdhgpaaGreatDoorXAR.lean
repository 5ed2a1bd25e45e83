/- Spoilt. -/
import Derived.Test.YtaieidcohdhgpaaGreatDoorXAQ
namespace Go.Proofs.YtaieidcohdhgpaaGreatDoor
set_option maxHeartbeats 40000000
set_option maxRecDepth 100000
section
open Go.RowKit Go.Shelf
attribute [local go_sem] Oper.semAt_some
theorem Ze4{F:Fence}{n:Nat}{P:Program}{b:Array Oper}{d:List Oper}{o:Oper}{a:Act}{w:World}{Q:Exit->Act->World->Prop}(i:o.guard=none)(t:TypeId)(ho:o.op = .alloc t){e:Array Value}(j:∀w,(zeroValue t).run P w = .ok (.agg e) w)
  (h:wpListIn F n P b Q d (a.put o.dst (.pointer (some ⟨w.heap.size,0,none⟩))) (w.alloc (.cells e t))):wpListIn F n P b Q (o::d) a w:=by
 refine wpListIn_plain i fun K f=>?_
 unfold Oper.wpIn;refine⟨by simp[Oper.about,ho],?_⟩;rw[Fp F _ _ (by rw[ho];intro c g;cases g)];unfold execOp;simp only[ho,Instr.alloc,Cj,j,Ch];simp[newVar,newRow,go_sem,Value.cells];exact f _ _ h
theorem Zek{F:Fence}{n:Nat}{P:Program}(w:World){b:Array Oper}{e:List Oper}{o:Oper}{a:Act}{Q:Exit->Act->World->Prop}(l:o.guard=none)(d s:Operand)(t f:TypeId)
  (ho:o.op = .call { callee := .builtin .copy,args := #[d,s],argTypes := #[t,f] }) (v u:Value) (k:a.eval d=v) (p:a.eval s=u) {g:Value} {w':World}
  (m:(Builtin.copy_ #[t,f] o.type #[v,u]).run P w = .ok g w') (h:wpListIn F n P b Q e (a.put o.dst g) w'):wpListIn F n P b Q (o::e) a w:=by
 refine wpListIn_plain l fun K i=>?_
 unfold Oper.wpIn;refine⟨?_,?_⟩
 ·simp[Oper.about,ho,resolve,Target.leads,Sem.run_pure]
 ·rw[Fp F _ _ (by rw[ho];intro c j;cases j)];simp[execOp,ho,resolve,invoke,builtin,k,p,m,Result.andThen];exact i _ _ h
theorem ZkC(w:World)(b n0 pb db sb so:Nat)(E:F3)(st:Pl)(C:Nat->Prop)(aC:G9 n0 pb db sb so E st C w)(H:OA)(J I:Nat)(s:By)(hs:Gp b w (.slice H J I) s)(cF:s.size<=600000)(bq:∀j,C j->¬F2 (.slice H J I) j)(bv:∀j,F2 (.slice H J I) j->n0<=j)(hb:b<=w.heap.size)(m p:By)(cz:m.size<=100000)(hp:p.size<=100000)(fn:Nat)(cw:fn<60000)(g off q G:Nat)(d:By)(bx:Gy w (some ⟨g,off,none⟩) q G d)(cc:q<=G)(hl:q<=60000)(bt:¬C g)(bu:¬F2 (.slice H J I) g)(cx:g<w.heap.size)(hE:Gv E)(F:∃j,j<96/\E.nd j<=0)(M:Nat)(hM:M<=1000)(L:st.puts.length+M<=10000)(h2:st.ps.length+M<=1000000)(h3:st.hd<=1536)(cb:∀y∈st.puts,∀i,i<M->y.1≠Dd 4 fn i)(KN:Nat)(bj:KN=(q+64-1)/64)(ct:KN<=M):
  Cl 236 #[.pointer (some ⟨pb,0,none⟩),.slice H J I,.string m,.agg #[.string p,.int .u8 2,.int .i64 (fn:Nat) ,.slice (some ⟨g,off,none⟩) q G]] w (QA w b n0 pb db sb so E C (.slice H J I) (E.puts (Dd 4 fn) (Gl d) st 0 (List.range KN)) (s++Dx m p 2++Dp m p++⟨#[UInt8.ofNat fn]⟩++Je q 2++JM E fn d st 0 (List.range KN))):=by
 obtain⟨W1,e1,x1,k1,s1,b1⟩:=De w [.pointer (some ⟨pb,0,none⟩)] 168;obtain⟨W2,e2,x2,k2,s2,b2⟩:=De W1 [.slice H J I] 59;obtain⟨W3,e3,x3,k3,s3,b3⟩:=De W2 [.string p,.int .u8 2,.int .i64 (fn:Nat),.slice (some ⟨g,off,none⟩) q G] 141;have aj:Bw w W3:=b1.trans ((b2.mono (by omega)).trans (b3.mono (by omega)));have y1:=k3 _ _ _ (k2 _ _ _ x1);have y2:=k3 _ _ _ x2;have t2:W2.heap.size=w.heap.size+1+1:=by omega
 rw[s1]at y2;rw[t2]at x3;have bk:∀j,C j->j<w.heap.size:=fun j F=>by obtain⟨cs,t,hb⟩:=aC.cells F;exact(Ak.1 hb).1
 have hB:Lk w b n0 w.heap.size (w.heap.size+1) (w.heap.size+1+1) C (.slice H J I):=⟨rfl,rfl,rfl,bk,fun j F=>hs.1.lt F,bv,hb,aC.2.2.1⟩;have bi:Gk w b n0 w.heap.size (w.heap.size+1) (w.heap.size+1+1) pb db sb so E p 2 (fn:Nat) (.slice (some ⟨g,off,none⟩) q G) C (.slice H J I) st C (.slice H J I) s W3:=⟨aC.abides (row:=none) ⟨aj.os,aj.tape,aj.output,aj.size,fun k hk _=>aj.block k hk⟩ (fun r e=>by cases e),fun j F => .inl F,y1,y2,x3,hs.below aj,fun j F => .inl F,bq,Fr.of_below aj,by omega⟩;obtain⟨N,hN⟩:=ex (Jr m p);have cv:N<=p.size:=by rw[hN];exact(Up _ _).2
 obtain⟨N1,ay⟩:∃M:Nat,M=(UInt8.ofNat N).toNat:=⟨_,rfl⟩;obtain⟨N2,az⟩:∃M:Nat,M=(UInt8.ofNat (p.size-N)).toNat:=⟨_,rfl⟩;have aJ:((p.size:Int)-(N:Int))=((p.size-N:Nat):Int):=by omega
 have cH:IntKind.u8.wrap (N:Int)=(N1:Int):=by rw[ay];exact J7 N
 have cJ:IntKind.u8.wrap ((p.size:Int)-(N:Int))=(N2:Int):=by rw[az,aJ];exact J7 _
 have cI:(N:Int)%256=(N1:Int):=by rw[ay,B3];omega
 have cK:((p.size:Int)-(N:Int))%256=(N2:Int):=by rw[az,aJ,B3];omega
 clear aJ;have bR:=Db bi;have HB:=Db hB;have HA:Hid (∀X,Bw W3 X->X.cell? ⟨(w.heap.size+1),0,none⟩=some (.slice H J I)/\X.cell? ⟨(w.heap.size+1+1),0,none⟩=some (.string p)/\X.cell? ⟨(w.heap.size+1+1),1,none⟩=some (.int .u8 2)/\∃Y P R Q w1,X.alloc (.cells #[.int .u8 2,.int .u8 (N1:Nat),.int .u8 (N2:Nat)] 5)=Y/\Y.cell? ⟨(w.heap.size+1),0,none⟩=some (.slice H J I)/\(Builtin.append_ #[59,59] 59 #[.slice H J I,.slice (some ⟨X.heap.size,0,none⟩) 3 3]).run Tryz.prog Y = .ok (.slice P R Q) w1/\w1.cell? ⟨(w.heap.size+1),0,none⟩=some (.slice H J I)/\w1.frozen? ⟨(w.heap.size+1),0,none⟩=false/\∃Z,w1.setCell ⟨(w.heap.size+1),0,none⟩ (.slice P R Q)=Z/\Hid (Gk w b n0 w.heap.size (w.heap.size+1) (w.heap.size+1+1) pb db sb so E p 2 (fn:Nat) (.slice (some ⟨g,off,none⟩) q G) C (.slice H J I) st C (.slice P R Q) (s++Dx m p 2) Z)):=fun X hX=>by
  have hI:=(Da bR).below hX;obtain⟨Y,eY,xY,kY,sY,bY⟩:=De X [.int .u8 2,.int .u8 (N1:Nat),.int .u8 (N2:Nat)] 5;have ab:=hI.below bY;have aI:Dc (Dx m p 2)=[.int .u8 2,.int .u8 (N1:Nat),.int .u8 (N2:Nat)]:=by
   rw[ay,az,hN];rfl
  obtain⟨P,R,Q,w1,r1,r2,r3,r4⟩:=J2 Y b (Ag hb (Ag ab.fr.size (Aa _))) _ _ ab.rs ⟨X.heap.size,0,none⟩ 3 3 (Dx m p 2) rfl (fun j u hu=>by rw[AL,Av,xY.cell,<-aI];exact hu) (by omega);have q5:Boxed w1 (w.heap.size+1) 59 (.slice H J I):=(r3.block _ ab.b5.lt (fun e=>by rcases ab.hv _ e with L|L;(have:=(Da HB).ov _ L;omega);omega)).trans ab.b5;exact⟨hI.b5.cell,(hI.b7.cell 0).trans rfl,(hI.b7.cell 1).trans rfl,Y,P,R,Q,w1,eY,ab.b5.cell,r1,q5.cell,q5.frozen,_,rfl,ab.say (Da HB) r2 r3 r4⟩
 have HT:Hid (∀Z P R Q,Gk w b n0 w.heap.size (w.heap.size+1) (w.heap.size+1+1) pb db sb so E p 2 (fn:Nat) (.slice (some ⟨g,off,none⟩) q G) C (.slice H J I) st C (.slice P R Q) (s++Dx m p 2) Z->Z.cell? ⟨(w.heap.size+1),0,none⟩=some (.slice P R Q)/\Z.cell? ⟨(w.heap.size+1+1),0,none⟩=some (.string p)/\∃T l2 c2 w2,(Builtin.append_ #[59,9] 59 #[.slice P R Q,.string (p.extract N p.size)]).run Tryz.prog Z.drew = .ok (.slice T l2 c2) w2/\w2.cell? ⟨(w.heap.size+1),0,none⟩=some (.slice P R Q)/\w2.cell? ⟨(w.heap.size+1+1),0,none⟩=some (.string p)/\w2.frozen? ⟨(w.heap.size+1),0,none⟩=false/\∃V,w2.setCell ⟨(w.heap.size+1),0,none⟩ (.slice T l2 c2)=V/\V.cell? ⟨(w.heap.size+1),0,none⟩=some (.slice T l2 c2)/\V.cell? ⟨(w.heap.size+1+1),0,none⟩=some (.string p)/\V.cell? ⟨(w.heap.size+1+1),1,none⟩=some (.int .u8 2)/\V.cell? ⟨(w.heap.size+1+1),2,none⟩=some (.int .i64 (fn:Nat))/\Hid (Gk w b n0 w.heap.size (w.heap.size+1) (w.heap.size+1+1) pb db sb so E p 2 (fn:Nat) (.slice (some ⟨g,off,none⟩) q G) C (.slice H J I) st C (.slice T l2 c2) (s++Dx m p 2++Dp m p) V)):=fun Z P R Q hI=>by
  have ad:=hI.below (Al _ _).drew;have bA:(s++Dx m p 2).size=s.size+3:=by rw[Ai];rfl
  have cB:(Dp m p).size<=p.size:=by unfold Dp;rw[Af];omega
  have b6:Dp m p=p.extract N p.size:=by unfold Dp;rw[hN]
  obtain⟨T,l2,c2,w2,r1,r2,r3,r4⟩:=UZ Z.drew b (Ag hb ad.fr.size) _ _ ad.rs (Dp m p) (by omega);rw[b6]at r1;have q5:Boxed w2 (w.heap.size+1) 59 (.slice P R Q):=(r3.block _ ad.b5.lt (fun e=>by rcases ad.hv _ e with L|L;(have:=(Da HB).ov _ L;omega);omega)).trans ad.b5;have q7:F0 w2 (w.heap.size+1+1) 141 _:=(r3.block _ ad.b7.lt (fun e=>by rcases ad.hv _ e with L|L;(have:=(Da HB).ov _ L;omega);omega)).trans ad.b7;have hF:=ad.say (Da HB) r2 r3 r4;exact⟨hI.b5.cell,(hI.b7.cell 0).trans rfl,T,l2,c2,w2,r1,q5.cell,(q7.cell 0).trans rfl,q5.frozen,_,rfl,hF.b5.cell,(hF.b7.cell 0).trans rfl,(hF.b7.cell 1).trans rfl,(hF.b7.cell 2).trans rfl,hF⟩
 obtain⟨N3,aA⟩:∃M:Nat,M=(UInt8.ofNat fn).toNat:=⟨_,rfl⟩;have cL:IntKind.u8.wrap (fn:Int)=(N3:Int):=by rw[aA];exact J7 fn
 have cM:(fn:Int)%256=(N3:Int):=by rw[aA,B3];omega
 have HC:Hid (∀Z P R Q,Gk w b n0 w.heap.size (w.heap.size+1) (w.heap.size+1+1) pb db sb so E p 2 (fn:Nat) (.slice (some ⟨g,off,none⟩) q G) C (.slice H J I) st C (.slice P R Q) (s++Dx m p 2++Dp m p) Z->∃Y T l2 c2 w2,Z.alloc (.cells #[.int .u8 (N3:Nat)] 5)=Y/\(Builtin.append_ #[59,59] 59 #[.slice P R Q,.slice (some ⟨Z.heap.size,0,none⟩) 1 1]).run Tryz.prog Y = .ok (.slice T l2 c2) w2/\w2.cell? ⟨(w.heap.size+1),0,none⟩=some (.slice P R Q)/\w2.frozen? ⟨(w.heap.size+1),0,none⟩=false/\∃V,w2.setCell ⟨(w.heap.size+1),0,none⟩ (.slice T l2 c2)=V/\V.cell? ⟨(w.heap.size+1),0,none⟩=some (.slice T l2 c2)/\V.cell? ⟨(w.heap.size+1+1),1,none⟩=some (.int .u8 2)/\V.cell? ⟨(w.heap.size+1+1),3,none⟩=some (.slice (some ⟨g,off,none⟩) q G)/\Hid (Gk w b n0 w.heap.size (w.heap.size+1) (w.heap.size+1+1) pb db sb so E p 2 (fn:Nat) (.slice (some ⟨g,off,none⟩) q G) C (.slice H J I) st C (.slice T l2 c2) (s++Dx m p 2++Dp m p++⟨#[UInt8.ofNat fn]⟩) V)):=fun Z P R Q hI=>by
  obtain⟨Y,eY,xY,kY,sY,bY⟩:=De Z [.int .u8 (N3:Nat)] 5;have ab:=hI.below bY;have aI:Dc ⟨#[UInt8.ofNat fn]⟩=[.int .u8 (N3:Nat)]:=by rw[aA];rfl
  have bA:(s++Dx m p 2++Dp m p).size<=s.size+3+p.size:=by
   rw[Ai,Ai];have L:(Dx m p 2).size=3:=rfl;have h2:(Dp m p).size<=p.size:=by unfold Dp;rw[Af];omega
   omega
  obtain⟨T,l2,c2,w2,r1,r2,r3,r4⟩:=J2 Y b (Ag hb ab.fr.size) _ _ ab.rs ⟨Z.heap.size,0,none⟩ 1 1 ⟨#[UInt8.ofNat fn]⟩ rfl (fun j u hu=>by rw[AL,Av,xY.cell,<-aI];exact hu) (by omega);have q5:Boxed w2 (w.heap.size+1) 59 (.slice P R Q):=(r3.block _ ab.b5.lt (fun e=>by rcases ab.hv _ e with L|L;(have:=(Da HB).ov _ L;omega);omega)).trans ab.b5;have hF:=ab.say (Da HB) r2 r3 r4;exact⟨Y,T,l2,c2,w2,eY,r1,q5.cell,q5.frozen,_,rfl,hF.b5.cell,(hF.b7.cell 1).trans rfl,(hF.b7.cell 3).trans rfl,hF⟩
 have cN:IntKind.u64.wrap (q:Int)=(q:Int):=by simp[IntKind.wrap,IntKind.bits,IntKind.signed];omega
 have aV:Hid (∀U a3 l3 c3,Gk w b n0 w.heap.size (w.heap.size+1) (w.heap.size+1+1) pb db sb so E p 2 (fn:Nat) (.slice (some ⟨g,off,none⟩) q G) C (.slice H J I) st C (.slice a3 l3 c3) (s++Dx m p 2++Dp m p++⟨#[UInt8.ofNat fn]⟩) U->Cl 212 #[.slice a3 l3 c3,.int .u64 (q:Nat),.int .i64 2] U fun e X=>∃a4 l4 c4,e = .returned (.slice a4 l4 c4)/\X.cell? ⟨(w.heap.size+1),0,none⟩=some (.slice a3 l3 c3)/\X.frozen? ⟨(w.heap.size+1),0,none⟩=false/\∃z,X.setCell ⟨(w.heap.size+1),0,none⟩ (.slice a4 l4 c4)=z/\z.cell? ⟨(w.heap.size+1+1),3,none⟩=some (.slice (some ⟨g,off,none⟩) q G)/\Hid (Gk w b n0 w.heap.size (w.heap.size+1) (w.heap.size+1+1) pb db sb so E p 2 (fn:Nat) (.slice (some ⟨g,off,none⟩) q G) C (.slice H J I) st C (.slice a4 l4 c4) (s++Dx m p 2++Dp m p++⟨#[UInt8.ofNat fn]⟩++Je q 2) z)):=fun U a3 l3 c3 hI=>by
  have bA:(s++Dx m p 2++Dp m p++⟨#[UInt8.ofNat fn]⟩).size<=s.size+4+p.size:=by
   rw[Ai,Ai,Ai];have q1:(Dx m p 2).size=3:=rfl;have q2:(Dp m p).size<=p.size:=by unfold Dp;rw[Af];omega
   have q3:(⟨#[UInt8.ofNat fn]⟩:By).size=1:=rfl;omega
  refine(UL U b (Ag hb hI.fr.size) a3 l3 c3 _ hI.rs q (by omega) 2 (by omega) (by omega)).mono ?_;rintro e X ⟨a4,l4,c4,rfl,r2,r3,r4⟩;have q5:Boxed X (w.heap.size+1) 59 (.slice a3 l3 c3):=(r3.block _ hI.b5.lt (fun e=>by rcases hI.hv _ e with L|L;(have:=(Da HB).ov _ L;omega);omega)).trans hI.b5;have hF:=hI.say (Da HB) r2 r3 r4;exact⟨a4,l4,c4,rfl,q5.cell,q5.frozen,_,rfl,(hF.b7.cell 3).trans rfl,hF⟩
 have aW:Hid (Cl 271 #[.string m,.string p] W3 fun e X=>e = .returned (.int .i64 (N:Nat))/\Hid (Bw W3 X)):=(Ox m p W3 (by omega) (by omega)).mono (fun e X ⟨L,_,h2⟩=>⟨by rw[L,hN],h2⟩);have cC:IntKind.i64.wrap ((p.size:Int)-(N:Int))=(p.size:Int)-(N:Int):=by rw[AX];omega
 have cy:(N:Int)<=(p.size:Int):=by omega
 have bK:=Db e1;have bO:=Db e2;have bP:=Db e3;have a7:=(x3.cell 0);have cd:W3.cell? ⟨(w.heap.size+1+1),0,none⟩=some (.string p):=a7.trans rfl;have bS:=Db bj;clear bj hN ay az aA a7 e1 e2 e3 x1 x2 x3 k1 k2 k3 s1 s2 s3 b1 b2 b3 y1 y2 t2 bk hB bi aC hs bq bv aj;refine(Bj (n:=3)).1 ?_;refine BJ Tryz.func236 rfl AQ ?_ rfl;simp only[Tryz.ntmps236,AR,Aq,AS,Nat.reduceAdd,Nat.reduceSub,AV,AU,A3,AY,AA,AI]
 gi_step
 refine BG.2 (A1 ?_);go_wp2;rw[show w.alloc (.cells #[.pointer (some ⟨pb,0,none⟩)] 168)=W1 from Da bK,show W1.alloc (.cells #[.slice H J I] 59)=W2 from Da bO,show W2.alloc (.cells #[.string p,.int .u8 2,.int .i64 (fn:Nat),.slice (some ⟨g,off,none⟩) q G] 141)=W3 from Da bP]
 gi_step
 refine BG.2 (A1 ?_);go_wp2_with (go_at_call 271;refine(Da aW).mono ?_;rintro e X ⟨rfl,HX⟩);obtain⟨av,b8,b9,Y,P,R,Q,w1,hY,b7,aK,aM,ca,Z,hZ,aR⟩:=Da HA X (Da HX);rw[<-hY]at aK;have HZ:=Db hZ;clear hY hZ b7 HA aW cd
 gi_step
 refine BG.2 (A1 ?_);go_wp2_with (at_builtin;refine AZ _ rfl _ _ 59 59 rfl _ _ rfl rfl _ _ aK ?_);rw[Da HZ];obtain⟨m5,m7,T,l2,c2,w2,bw,n5,n7,ch,V,hV,v5,bD,cn,co,aS⟩:=Da HT Z P R Q (Da aR);have HV:=Db hV;clear hV aK aM ca av b8 b9 HZ HT aR
 gi_step
 refine EC Qf ?_;refine BG.2 ?_;refine AD (S:=fun X=>X.cell? ⟨(w.heap.size+1+1),0,none⟩=some (.string p)) (by kernel_rfl) m7 (fun aF=>?_);refine tk 1 ?_;try simp only[pE];refine tk 2 ?_;try simp only[pE];refine tk 3 ?_;try simp only[pE];refine tk 4 ?_;try simp only[pE];refine rk 0 (fun K f=>?_);go_simp;refine f.out _ _ aF (fun bW=>?_);clear f K
 (try simp only[pE])
 refine rk 5 (fun K f=>?_);refine JO rfl _ _ 59 9 rfl _ _ rfl rfl bw ?_;refine f.out _ _ n7 (fun bX=>?_);clear f K
 (try simp only[pE])
 refine rk 6 (fun K f=>?_);go_simp;rw[Da HV];refine f.out _ _ bD (fun bZ=>?_);clear f K
 (try simp only[pE])
 refine AW (by kernel_rfl) ?_ _;refine KY ?_;clear bW bX bZ aF bw n5 n7 ch m5 m7 HV;obtain⟨Y3,a3,l3,c3,w3,bn,aL,aM,ce,U,hU,u5,cl,cm,aT⟩:=Da HC V T l2 c2 (Da aS);rw[<-bn]at aL;have HU:=Db hU;clear bn hU HC
 gi_step
 gi_step
 gi_step
 gi_step
 refine BG.2 (A1 ?_);go_wp2
 gi_step
 gi_step
 gi_step
 gi_step
 gi_step
 refine BG.2 (A1 ?_);go_wp2_with (at_builtin;refine AZ _ rfl _ _ 59 59 rfl _ _ rfl rfl _ _ aL ?_);rw[Da HU];clear aL aM ce HU v5 bD cn co aS;have H9:=Db (Da aV U a3 l3 c3 (Da aT));clear aV
 gi_step
 gi_step
 refine BG.2 (A1 ?_);go_wp2
 gi_step
 gi_step
 gi_step
 gi_step
 gi_step
 refine BG.2 (A1 ?_);go_wp2_with (go_at_call 212;refine(Da H9).mono ?_;rintro e X9 ⟨a4,l4,c4,rfl,x5,cq,z,aN,cp,aU⟩;have aY:=Db aN;clear aN);rw[Da aY];obtain⟨an,ba,bE,cf,aP,aE⟩:=De z [.int .i64 0] 3;obtain⟨aw,bb,bF,bB,ci,a5⟩:=De an [.slice (some ⟨g,off,none⟩) q G] 59;obtain⟨ag,bc,aQ,aO,cj,a6⟩:=De aw [.int .i64 64] 3;have aB:Bw z ag:=aE.trans ((a5.mono (by omega)).trans (a6.mono (by omega)));have aa:=Da aU;have al:=Da HB;have cG:=aa.sz;have bC:aw.heap.size=z.heap.size+1+1:=by omega
 have af:ag.heap.size=z.heap.size+3:=by omega
 have yt:=aO _ _ _ (bB _ _ _ bE);have yc:=aO _ _ _ bF;rw[aP]at yc;rw[bC]at aQ;have cr:an.cell? ⟨(w.heap.size+1+1),3,none⟩=some (.slice (some ⟨g,off,none⟩) q G):=(aE.cell (p:=⟨(w.heap.size+1+1),3,none⟩) aa.b7.lt).trans cp;have bg:Ms z b n0 (z.heap.size+3) w.heap.size (w.heap.size+1) (w.heap.size+1+1) z.heap.size g C (.slice a4 l4 c4):=by
  refine⟨rfl,rfl,by omega,by omega,by omega,by omega,by omega,fun j F=>?_,fun j F=>?_,fun j F=>?_,by have:=al.n0w;omega,by omega,by have:=al.n0w;omega,by omega,bt,fun e=>?_,by omega⟩
  ·have:=al.o0 j F;omega
  ·have h9:=aa.rs.1.lt F;rcases aa.hv j F with h8|h8
   ·have:=al.ov j h8;omega
   ·omega
  ·rcases aa.hv j F with h8|h8
   ·exact al.nv j h8
   ·have:=al.n0w;omega
  ·rcases aa.hv _ e with h8|h8
   ·exact bu h8
   ·omega
 have bz:Gy z (some ⟨g,off,none⟩) q G d:=bx.fr aa.fr (fun x e _ ho=>by cases e;exact ho.elim bt bu);have bh:GY z b n0 (z.heap.size+3) w.heap.size (w.heap.size+1) (w.heap.size+1+1) z.heap.size pb db sb so E p fn g off q G d C (.slice a4 l4 c4) st (s++Dx m p 2++Dp m p++⟨#[UInt8.ofNat fn]⟩++Je q 2) [] [] (.slice a4 l4 c4) C ag:=by
  have ao:=aa.below aB;refine⟨ao.st,fun j F => .inl F,ao.b4,ao.b5,ao.b7,yt,?_,fun j F => .inl F,ao.dis,bz.below aB,Fr.of_below aB,by omega⟩;show Gp b ag _ (_++⟨#[]⟩);rw[KC];exact ao.rs
 have bQ:=Db bh;have bU:Hid ((s++Dx m p 2++Dp m p++⟨#[UInt8.ofNat fn]⟩++Je q 2).size<=900000):=by
  show(s++Dx m p 2++Dp m p++⟨#[UInt8.ofNat fn]⟩++Je q 2).size<=900000;rw[Ai,Ai,Ai,Ai,K4];have q1:(Dx m p 2).size=3:=rfl;have q2:(Dp m p).size<=p.size:=by unfold Dp;rw[Af];omega
  have q3:(⟨#[UInt8.ofNat fn]⟩:By).size=1:=rfl;omega
 have ak:=Db bg;have aX:=Db af;have bT:Hid (an.heap.size=z.heap.size+1):=aP;have bL:=Db ba;have bM:=Db bb;have bN:=Db bc;have a8:ag.cell? ⟨(z.heap.size+1),0,none⟩=some (.slice (some ⟨g,off,none⟩) q G):=(yc.cell 0).trans rfl;have a9:ag.cell? ⟨(z.heap.size+1+1),0,none⟩=some (.int .i64 64):=(aQ.cell 0).trans rfl;have bH:=Db a8;have bI:=Db a9;clear H9 aY x5 cq u5 cl cm aT ba bb bc bE bF aQ cf bB aO aP ci cj aE a5 a6 aB aa al bC af yt yc bg bh bz a8 a9 bx
 gi_step
 refine BG.2 (A1 ?_);go_wp2;rw[show z.alloc (.cells #[.int .i64 0] 3)=an from Da bL]
 gi_wp2_with (refine⟨AQ,?_⟩;gi_at_call 172;refine(NH _ 64 (by omega) (by omega) _ _ ⟨_,_,_,rfl⟩).mono ?_;rintro e w' ⟨rfl,rfl⟩)
 rw[show an.alloc (.cells #[.slice (some ⟨g,off,none⟩) q G] 59)=aw from Da bM,show aw.alloc (.cells #[.int .i64 64] 3)=ag from Da bN];rw[show an.heap.size=z.heap.size+1 from Da bT];rename_i K0 b0;have af:=Da aX;have cu:KN<=1000:=by omega
 have aZ:Hid (∀j,(C j\/F2 (.slice a4 l4 c4) j)->j<z.heap.size):=fun j F=>F.elim (fun e=>((Da ak).o9 j e).1) (fun e=>((Da ak).ov j e).1)
 refine C5 (α := Nat) rfl (by omega) (gf:=220) (lb := #[.pointer (some ⟨(z.heap.size+1),0,none⟩),.pointer (some ⟨(z.heap.size+1+1),0,none⟩)]) rfl AQ (ER Tryz.func220 (by kernel_rfl) rfl)
  (RH 2 (by omega) (z.heap.size+1) (z.heap.size+1+1) g off 64 q G (by omega) (by omega) cc (by omega) KN (Da bS) ag (by omega) (by omega) (Da bH) (Da bI) (Q0 (z.heap.size+3) (w.heap.size+1) z.heap.size (fun j=>C j\/F2 (.slice a4 l4 c4) j))
   (fun A B bf L h2=>⟨(AC (w:=A) (a:=⟨(z.heap.size+1),0,none⟩) (bf.2 (z.heap.size+1) (by omega) (fun e=>by have:=Da aZ _ e;omega) (by have:=(Da ak).l5;omega) (by omega))).trans L,(AC (w:=A) (a:=⟨(z.heap.size+1+1),0,none⟩) (bf.2 (z.heap.size+1+1) (by omega) (fun e=>by have:=Da aZ _ e;omega) (by have:=(Da ak).l5;omega) (by omega))).trans h2⟩))
  (fun L h2=>⟨Ag L.1 h2.1,fun k a b c d=>(h2.2 k a b c d).trans (L.2 k a b c d)⟩)
  (fun X l o o' hl ho _ _=>⟨by simp[World.putObj],fun k hk _ _ _=>by
   have:=af;simp only[World.putObj];rw[Bd];rw[if_neg (by omega)]⟩)
  (Al _ _) (fun _=>rfl)
  (fun ae X=>Nu z b n0 (z.heap.size+3) w.heap.size (w.heap.size+1) (w.heap.size+1+1) z.heap.size pb db sb so E p fn g off q G d C (.slice a4 l4 c4) st (s++Dx m p 2++Dp m p++⟨#[UInt8.ofNat fn]⟩++Je q 2) ae X)
  (fun _ _ _=>False)
  (fun ae A B row hs hg hr=>by
   obtain⟨v,O,h⟩:=hs;exact⟨v,O,h.own (Da ak) hg (fun r e=>by rw[<-af];exact hr r e)⟩)
  (fun _ _ _ _ _ hs _ _=>hs)
  ⟨_,_,Da bQ⟩
  (fun x=>{ tmps:=List.toArray ((.pointer (some ⟨pb,0,none⟩))::(.slice H J I)::(.string m)::(.agg #[.string p,.int .u8 2,.int .i64 (fn:Nat),.slice (some ⟨g,off,none⟩) q G])::(.pointer (some ⟨w.heap.size,0,none⟩))::(.pointer (some ⟨(w.heap.size+1),0,none⟩))::undef::(.pointer (some ⟨(w.heap.size+1+1),0,none⟩))::(.slice none 0 0)::(.int .i64 (N:Nat))::(.pointer (some ⟨z.heap.size,0,none⟩))::(II g off 64 q x)::undef::(.string m)::(.pointer (some ⟨(w.heap.size+1+1),0,none⟩))::(.string p)::(.int .i64 (N:Nat))::(.slice H J I)::(.pointer (some ⟨(w.heap.size+1+1),1,none⟩))::(.int .u8 2)::(.int .i64 (N:Nat))::(.int .u8 (N1:Nat))::(.pointer (some ⟨(w.heap.size+1+1),0,none⟩))::(.string p)::(.int .i64 (p.size:Nat))::(.int .i64 (N:Nat))::(.int .i64 ((p.size:Int)-(N:Int)))::(.int .u8 (N2:Nat))::(.slice (some ⟨X.heap.size,0,none⟩) 3 3)::(.slice P R Q)::(.slice P R Q)::(.pointer (some ⟨(w.heap.size+1+1),0,none⟩))::(.string p)::(.int .i64 (N:Nat))::(.string (p.extract N p.size))::(.slice T l2 c2)::(.pointer (some ⟨(w.heap.size+1+1),1,none⟩))::(.int .u8 2)::(.bool false)::undef::(.slice T l2 c2)::(.pointer (some ⟨(w.heap.size+1+1),2,none⟩))::(.int .i64 (fn:Nat))::(.int .u8 (N3:Nat))::(.slice (some ⟨V.heap.size,0,none⟩) 1 1)::(.slice a3 l3 c3)::(.pointer (some ⟨(w.heap.size+1+1),1,none⟩))::(.int .u8 2)::(.bool false)::undef::(.slice a3 l3 c3)::(.pointer (some ⟨(w.heap.size+1+1),3,none⟩))::(.slice (some ⟨g,off,none⟩) q G)::(.int .i64 (q:Nat))::(.int .u64 (q:Nat))::(.slice a4 l4 c4)::(.pointer (some ⟨(w.heap.size+1+1),3,none⟩))::(.slice (some ⟨g,off,none⟩) q G)::(.func (.func 220) #[] #[.pointer (some ⟨z.heap.size+1,0,none⟩),.pointer (some ⟨z.heap.size+1+1,0,none⟩)])::(II g off 64 q x)::undef::undef::undef::undef::undef::undef::undef::undef::undef::undef::undef::undef::undef::undef::undef::[]),defers:=[] })
  ?assign ?body ?done ?stop
 case assign=>
  intro l x X K f;clear af
  gi_wp2
  exact f
 case body=>
  rintro l ae x W ⟨v,O,hR⟩ cA;obtain⟨ra,rl,rc,rfl⟩:=hR.rs.1.shape;obtain⟨h4,h6,h8⟩:=Zkz z M hM b n0 (z.heap.size+3) w.heap.size (w.heap.size+1) (w.heap.size+1+1) z.heap.size pb db sb so E hE F p fn g off q G (by omega) d C (.slice a4 l4 c4) st _ (Da bU) (Da ak) L h2 h3 cb ae x (by omega) W ra rl rc O hR;have H4:=Db h4;have H6:=Db h6;have H8:=Db h8;obtain⟨V1,bd,bG,cg,ck,ax⟩:=De W (Dc (Di 64)) 188;obtain⟨V2,bo,aD,be⟩:=NJ V1 W.heap.size 188 _ bG 0 64 64 _ _ _ _ ((hR.rd.below ax).chunk 64 x) (by rw[NG];omega) (by rw[Dh,Jd];exact Aa _);rw[spl_dt _ (by rw[NG];omega)]at aD;have ap:Bw W V2:=ax.grown be ax.size (fun k e=>by cases e;omega);have aH:Bw W V2.drew:=⟨ap.os,ap.tape,ap.output,ap.size,ap.block⟩;have ac:=hR.below aH;have aG:∀j,O j->j<W.heap.size:=fun j F=>by obtain⟨cs,t,hb⟩:=hR.st.cells F;exact(Ak.1 hb).1
  have HM:Hid (LG z b n0 (z.heap.size+3) w.heap.size (w.heap.size+1) (w.heap.size+1+1) z.heap.size pb db sb so E p fn g off q G d C (.slice a4 l4 c4) st (s++Dx m p 2++Dp m p++⟨#[UInt8.ofNat fn]⟩++Je q 2) ae ae (.slice ra rl rc) O O x W V2.drew):=⟨ac,Fr.of_below aH,aD,aG,fun j F e=>by have:=aG j F;omega⟩;have b4:KJ w.heap.size (w.heap.size+1+1) z.heap.size pb fn ae.length W.heap.size (Dc (Gl d x)) V2.drew:=⟨ac.b4.cell,(ac.b7.cell 2).trans rfl,ac.bt.cell,fun j v hv=>by rw[F0.cell (w:=V2.drew) aD,Av];exact hv⟩;have av:V2.drew.cell? ⟨(w.heap.size+1),0,none⟩=some (.slice ra rl rc):=ac.b5.cell;have bV:=Db bd;have bJ:(Builtin.copy_ #[59,59] 3 #[.slice (some ⟨W.heap.size,0,none⟩) 64 64,II g off 64 q x]).run Tryz.prog V1 = .ok (goInt (IJ d 64 x).size) V2:=bo;clear bo h4 h6 h8 hR ac af bd bG cg ck ax aD be ap aH aG
  gi_step
  gi_step
  gi_step
  refine wpIn_region_lit ?_;refine Ze4 rfl 188 rfl JU ?_;refine wpListIn_nil ?_
  (try simp only[pE])
  rw[show W.alloc (.cells (Dc (Di 64)).toArray 188)=V1 from Da bV]
  gi_step
  gi_step
  gi_step
  refine wpIn_region_lit ?_
  gi_wp2_with (refine Zek _ rfl _ _ 59 59 rfl _ _ rfl rfl bJ ?_)
  refine RW (KJ w.heap.size (w.heap.size+1+1) z.heap.size pb fn ae.length W.heap.size (Dc (Gl d x))) (by kernel_rfl) (fun hh=>by obtain⟨_,_,hh⟩:=hh;exact hh) (by kernel_rfl) b4 (fun aF=>?_);refine tv 0 (?_) rfl (Or.inl ⟨by rfl,?_⟩) ?_
  rotate_left
  ·intro w am;(try unfold KJ at am);go_simp<;>with_reducible rfl
  (try simp only[pE])
  refine tv 1 (?_) rfl (Or.inl ⟨by rfl,?_⟩) ?_
  rotate_left
  ·intro w am;(try unfold KJ at am);go_simp<;>with_reducible rfl
  (try simp only[pE])
  refine tv 2 (?_) rfl (Or.inl ⟨by rfl,?_⟩) ?_
  rotate_left
  ·intro w am;(try unfold KJ at am);go_simp<;>with_reducible rfl
  (try simp only[pE])
  refine tv 3 (?_) rfl (Or.inl ⟨by rfl,?_⟩) ?_
  rotate_left
  ·intro w am;(try unfold KJ at am);go_simp<;>with_reducible rfl
  (try simp only[pE])
  refine A6 (i:=5) (v:=DB (Gl d x)) rfl (by kernel_rfl) (by kernel_rfl) (by kernel_rfl) (fun _ _ _ h=>h) (C4 (by rfl) 188 _ rfl W.heap.size 0 rfl (Dc (Gl d x)) _ (fun X hX=>hX.2.2.2) Kg rfl (by rw[D7,Dh,Us])) (by assumption) ?_
  (try simp only[pE])
  refine Bh (rs:=[4,7]) (by kernel_rfl) (by simp) ?_;refine(AN (i:=4) rfl ?_ (AN (i:=7) rfl ?_ A8))
  ·intro K f;go_simp;go_at_call 244;refine(Da H4 _).mono ?_;rintro e w' ⟨rfl,hw⟩;rw[hw];clear hw;go_wp2_with fail;refine f.out _ _ (by assumption) (fun b5=>?_);clear f K
   (try simp only[pE])
   refine Bh (rs:=[6,7]) (by kernel_rfl) (by simp) ?_;refine(AN (i:=6) rfl ?_ (AN (i:=7) rfl ?_ A8))
   ·intro K f;go_simp;go_at_call 272;refine(Da H6 _ (Da HM)).mono ?_;clear HM;rintro e V6 ⟨rfl,au,av,HM⟩;go_wp2_with fail;refine f.out _ _ au (fun bl=>?_);clear f K
    (try simp only[pE])
    refine Bh (rs:=[7]) (by kernel_rfl) (by simp) ?_;refine(AN (i:=7) rfl ?_ A8)
    ·intro K f;go_simp;refine f.out _ _ (by assumption) (fun bm=>?_);clear f K
     (try simp only[pE])
     refine rk 8 (fun K f=>?_);go_simp;go_at_call 214;refine(Da H8 _ (Da HM)).mono ?_;clear HM;rintro e V8 ⟨a',l',c',rfl,ah,ai,bp,br,bs,HF⟩;go_wp2_with fail;refine f.out _ _ ah (fun aq=>?_);clear f K
     (try simp only[pE])
     refine rk 9 (fun K f=>?_);go_simp;refine f.out _ _ ai (fun ar=>?_);clear f K
     (try simp only[pE])
     refine AW (by kernel_rfl) ?_ _;have cT:=ai.2.2.1;clear ah aq ar
     gi_wp2
     exact⟨(Da HF).1,(Da HF).2.1,(Da HF).2.2⟩
   ·intro K f;go_simp;refine f.out _ _ (by assumption) (fun bm=>?_);clear f K
    (try simp only[pE])
    refine Bh (rs:=[6]) (by kernel_rfl) (by simp) ?_;refine(AN (i:=6) rfl ?_ A8)
    ·intro K f;go_simp;go_at_call 272;refine(Da H6 _ (Da HM)).mono ?_;clear HM;rintro e V6 ⟨rfl,au,av,HM⟩;go_wp2_with fail;refine f.out _ _ au (fun bl=>?_);clear f K
     (try simp only[pE])
     refine rk 8 (fun K f=>?_);go_simp;go_at_call 214;refine(Da H8 _ (Da HM)).mono ?_;clear HM;rintro e V8 ⟨a',l',c',rfl,ah,ai,bp,br,bs,HF⟩;go_wp2_with fail;refine f.out _ _ ah (fun aq=>?_);clear f K
     (try simp only[pE])
     refine rk 9 (fun K f=>?_);go_simp;refine f.out _ _ ai (fun ar=>?_);clear f K
     (try simp only[pE])
     refine AW (by kernel_rfl) ?_ _;have cT:=ai.2.2.1;clear ah aq ar
     gi_wp2
     exact⟨(Da HF).1,(Da HF).2.1,(Da HF).2.2⟩
  ·intro K f;go_simp;refine f.out _ _ (by assumption) (fun bm=>?_);clear f K
   (try simp only[pE])
   refine Bh (rs:=[4]) (by kernel_rfl) (by simp) ?_;refine(AN (i:=4) rfl ?_ A8)
   ·intro K f;go_simp;go_at_call 244;refine(Da H4 _).mono ?_;rintro e w' ⟨rfl,hw⟩;rw[hw];clear hw;go_wp2_with fail;refine f.out _ _ (by assumption) (fun b5=>?_);clear f K
    (try simp only[pE])
    refine Bh (rs:=[6]) (by kernel_rfl) (by simp) ?_;refine(AN (i:=6) rfl ?_ A8)
    ·intro K f;go_simp;go_at_call 272;refine(Da H6 _ (Da HM)).mono ?_;clear HM;rintro e V6 ⟨rfl,au,av,HM⟩;go_wp2_with fail;refine f.out _ _ au (fun bl=>?_);clear f K
     (try simp only[pE])
     refine rk 8 (fun K f=>?_);go_simp;go_at_call 214;refine(Da H8 _ (Da HM)).mono ?_;clear HM;rintro e V8 ⟨a',l',c',rfl,ah,ai,bp,br,bs,HF⟩;go_wp2_with fail;refine f.out _ _ ah (fun aq=>?_);clear f K
     (try simp only[pE])
     refine rk 9 (fun K f=>?_);go_simp;refine f.out _ _ ai (fun ar=>?_);clear f K
     (try simp only[pE])
     refine AW (by kernel_rfl) ?_ _;have cT:=ai.2.2.1;clear ah aq ar
     gi_wp2
     exact⟨(Da HF).1,(Da HF).2.1,(Da HF).2.2⟩
 case done=>
  rintro D ys XX hD rfl ⟨v,O,hR⟩ f;have c5:=hR.b5.cell;obtain⟨ra,rl,rc,rfl⟩:=hR.rs.1.shape;have HR:=Db hR;clear hR af;show K0 _ _;refine b0 _ _ ?_
  gi_wp2
  have hR:=Da HR;have af:=Da aX;have aa:=Da aU;refine⟨by simp,.inl ⟨_,_,rfl,Cb f,?_⟩⟩;have hg:XX.grownBy (XX.putObj D (.deferred none)) (some D):=⟨rfl,rfl,rfl,by simp[World.putObj],fun k _ hk=>by
   simp only[World.putObj];rw[Bd,if_neg (fun e=>hk (by rw[e]))]⟩
  have ac:=hR.own (Da ak) hg (fun r e=>by cases e;exact⟨by omega,_,f,rfl⟩);have aN:=aa.fr.size;refine⟨_,EF rfl _ _ _,ra,rl,rc,O,rfl,ac.rs,ac.st,fun j F=>(ac.hO j F).imp id (fun e=>by omega),fun j F=>?_,ac.dis,aa.fr.then ac.fr (fun k hk e=>?_)⟩
  ·rcases ac.hv j F with e|e
   ·exact(aa.hv j e).imp id (fun e=>by omega)
   ·exact .inr (by omega)
  ·rcases e with e|e|e
   ·exact .inl e
   ·exact(aa.hv k e).elim .inr (fun e=>by omega)
   ·omega
 case stop=>
  rintro D c ae X _ _ h _;exact h.elim
end
section
open Go.RowKit Go.Shelf
attribute [local go_sem] Oper.semAt_some
theorem ZmH(n:Nat)(a e m:Nat)(w:World)(h:a<w.heap.size)(c:w.cell? ⟨a,0,none⟩=some (.slice none 0 0))(g:World->World->Prop):
  SeqStopsK Fence.wide n Tryz.prog 220 #[.pointer (some ⟨a,0,none⟩),.pointer (some ⟨e,0,none⟩)] (fun k:Nat => #[II 0 0 m 0 k]) g (fun o=>o=[]) (fun _=>False) 0 w:=fun l J Jx W d i _ j b=>by
 have c1:=(d.cell (p:=⟨a,0,none⟩) h).trans c;have f:=Db b;clear j d c i b;refine CD Tryz.func220 rfl AQ ?_ rfl;simp only[Tryz.ntmps220,AR,Aq,AS,Nat.reduceAdd,Nat.reduceSub,AV,AU,A3,AY,AA,AI]
 gi_wp2
 refine wpIn_loop_once ?_
 gi_wp2
 go_end0
 exact⟨⟨_,rfl⟩,.inl ⟨[],rfl,Da f⟩⟩
theorem Gk.own{w:World}{b B m n s pb x C so:Nat}{E:F3}{p:By}{k:Nat}{f:Int}{F:Value}{u:Nat->Prop}{D:Value}{st:Pl}{O:Nat->Prop}{v:Value}{t:By}{W i:World}(h:Gk w b B m n s pb x C so E p k f F u D st O v t W){row:Option Nat}(a:W.grownBy i row)(l:∀r,row=some r->w.heap.size<=r/\∃o:Obj,W.heap[r]?=some o/\o.isCells=false):Gk w b B m n s pb x C so E p k f F u D st O v t i:=by
 have ne:∀(j:Nat) (c:Array Value) (t:TypeId) (z:Nat×Nat),W.heap[j]?=some (Obj.cells c t z)->some j≠row:=fun j c t z d e=>by
  obtain⟨o,y,K⟩:=(l j e.symm).2;rw[d]at y;cases y;cases K
 have g:∀(j:Nat) (c:Array Value) (t:TypeId) (z:Nat×Nat),W.heap[j]?=some (Obj.cells c t z)->i.heap[j]?=some (Obj.cells c t z):=fun j c t z d=>(a.block j (Ak.1 d).1 (ne j c t z d)).trans d
 refine⟨h.st.abides a (fun r e=>(l r e).2),h.hO,g _ _ _ _ h.b4,g _ _ _ _ h.b5,g _ _ _ _ h.b7,⟨?_,h.rs.2⟩,h.hv,h.dis,?_,Ag h.sz a.size⟩
 ·rcases h.rs.1.2 with⟨e,J⟩|⟨I,H,G,e,L,q⟩
  ·exact⟨h.rs.1.1,.inl ⟨e,J⟩⟩
  ·exact⟨h.rs.1.1,.inr ⟨I,H,G,e,g _ _ _ _ L,q⟩⟩
 ·exact h.fr.then (Y:=fun j=>row=some j) ⟨a.os,a.tape,a.output,a.size,fun k A M=>a.block k A (fun e=>M e.symm)⟩ (fun k A N=>by have:=(l _ N).1;omega)
theorem Zi9(w:World)(b L pb P R so:Nat)(E:F3)(st:Pl)(i:Nat->Prop)(aj:G9 L pb P R so E st i w)(d:OA)(g f:Nat)(s:By)(hs:Gp b w (.slice d g f) s)(bK:s.size<=600000)(aN:∀j,i j->¬F2 (.slice d g f) j)(aO:∀j,F2 (.slice d g f) j->L<=j)(hb:b<=w.heap.size)(a p:By)(bH:a.size<=100000)(hp:p.size<=100000)(fn:Nat)(_hfn:fn<60000):
  Cl 236 #[.pointer (some ⟨pb,0,none⟩),.slice d g f,.string a,.agg #[.string p,.int .u8 2,.int .i64 (fn:Nat),.slice none 0 0]] w (QA w b L pb P R so E i (.slice d g f) st (s++Dx a p 2++Dp a p++⟨#[UInt8.ofNat fn]⟩++Je 0 2)):=by
 obtain⟨W1,e1,x1,k1,s1,b1⟩:=De w [.pointer (some ⟨pb,0,none⟩)] 168;obtain⟨W2,e2,x2,k2,s2,b2⟩:=De W1 [.slice d g f] 59;obtain⟨T,e3,x3,k3,s3,b3⟩:=De W2 [.string p,.int .u8 2,.int .i64 (fn:Nat),.slice none 0 0] 141;have ab:Bw w T:=b1.trans ((b2.mono (by omega)).trans (b3.mono (by omega)));have y1:=k3 _ _ _ (k2 _ _ _ x1);have y2:=k3 _ _ _ x2;have t2:W2.heap.size=w.heap.size+1+1:=by omega
 rw[s1]at y2;rw[t2]at x3;have aK:∀j,i j->j<w.heap.size:=fun j hj=>by obtain⟨cs,t,hb⟩:=aj.cells hj;exact(Ak.1 hb).1
 have hB:Lk w b L w.heap.size (w.heap.size+1) (w.heap.size+1+1) i (.slice d g f):=⟨rfl,rfl,rfl,aK,fun j hj=>hs.1.lt hj,aO,hb,aj.2.2.1⟩;have aJ:Gk w b L w.heap.size (w.heap.size+1) (w.heap.size+1+1) pb P R so E p 2 (fn:Nat) (.slice none 0 0) i (.slice d g f) st i (.slice d g f) s T:=⟨aj.abides (row:=none) ⟨ab.os,ab.tape,ab.output,ab.size,fun k hk _=>ab.block k hk⟩ (fun r e=>by cases e),fun j hj => .inl hj,y1,y2,x3,hs.below ab,fun j hj => .inl hj,aN,Fr.of_below ab,by omega⟩;obtain⟨N,hN⟩:=ex (Jr a p);have bF:N<=p.size:=by rw[hN];exact(Up _ _).2
 obtain⟨N1,ag⟩:∃M:Nat,M=(UInt8.ofNat N).toNat:=⟨_,rfl⟩;obtain⟨N2,ah⟩:∃M:Nat,M=(UInt8.ofNat (p.size-N)).toNat:=⟨_,rfl⟩;have an:((p.size:Int)-(N:Int))=((p.size-N:Nat):Int):=by omega
 have bM:IntKind.u8.wrap (N:Int)=(N1:Int):=by rw[ag];exact J7 N
 have bO:IntKind.u8.wrap ((p.size:Int)-(N:Int))=(N2:Int):=by rw[ah,an];exact J7 _
 have bN:(N:Int)%256=(N1:Int):=by rw[ag,B3];omega
 have bP:((p.size:Int)-(N:Int))%256=(N2:Int):=by rw[ah,an,B3];omega
 clear an;have a9:=Db aJ;have HB:=Db hB;have HA:Hid (∀X,Bw T X->X.cell? ⟨(w.heap.size+1),0,none⟩=some (.slice d g f)/\X.cell? ⟨(w.heap.size+1+1),0,none⟩=some (.string p)/\X.cell? ⟨(w.heap.size+1+1),1,none⟩=some (.int .u8 2)/\∃Y m q o w1,X.alloc (.cells #[.int .u8 2,.int .u8 (N1:Nat),.int .u8 (N2:Nat)] 5)=Y/\Y.cell? ⟨(w.heap.size+1),0,none⟩=some (.slice d g f)/\(Builtin.append_ #[59,59] 59 #[.slice d g f,.slice (some ⟨X.heap.size,0,none⟩) 3 3]).run Tryz.prog Y = .ok (.slice m q o) w1/\w1.cell? ⟨(w.heap.size+1),0,none⟩=some (.slice d g f)/\w1.frozen? ⟨(w.heap.size+1),0,none⟩=false/\∃Z,w1.setCell ⟨(w.heap.size+1),0,none⟩ (.slice m q o)=Z/\Hid (Gk w b L w.heap.size (w.heap.size+1) (w.heap.size+1+1) pb P R so E p 2 (fn:Nat) (.slice none 0 0) i (.slice d g f) st i (.slice m q o) (s++Dx a p 2) Z)):=fun X hX=>by
  have F:=(Da a9).below hX;obtain⟨Y,eY,xY,kY,sY,bY⟩:=De X [.int .u8 2,.int .u8 (N1:Nat),.int .u8 (N2:Nat)] 5;have H:=F.below bY;have am:Dc (Dx a p 2)=[.int .u8 2,.int .u8 (N1:Nat),.int .u8 (N2:Nat)]:=by
   rw[ag,ah,hN];rfl
  obtain⟨m,q,o,w1,r1,r2,O,r4⟩:=J2 Y b (Ag hb (Ag H.fr.size (Aa _))) _ _ H.rs ⟨X.heap.size,0,none⟩ 3 3 (Dx a p 2) rfl (fun j u hu=>by rw[AL,Av,xY.cell,<-am];exact hu) (by omega);have Q:Boxed w1 (w.heap.size+1) 59 (.slice d g f):=(O.block _ H.b5.lt (fun e=>by rcases H.hv _ e with C|C;(have:=(Da HB).ov _ C;omega);omega)).trans H.b5;exact⟨F.b5.cell,(F.b7.cell 0).trans rfl,(F.b7.cell 1).trans rfl,Y,m,q,o,w1,eY,H.b5.cell,r1,Q.cell,Q.frozen,_,rfl,H.say (Da HB) r2 O r4⟩
 have HT:Hid (∀Z m q o,Gk w b L w.heap.size (w.heap.size+1) (w.heap.size+1+1) pb P R so E p 2 (fn:Nat) (.slice none 0 0) i (.slice d g f) st i (.slice m q o) (s++Dx a p 2) Z->Z.cell? ⟨(w.heap.size+1),0,none⟩=some (.slice m q o)/\Z.cell? ⟨(w.heap.size+1+1),0,none⟩=some (.string p)/\∃y G z w2,(Builtin.append_ #[59,9] 59 #[.slice m q o,.string (p.extract N p.size)]).run Tryz.prog Z.drew = .ok (.slice y G z) w2/\w2.cell? ⟨(w.heap.size+1),0,none⟩=some (.slice m q o)/\w2.cell? ⟨(w.heap.size+1+1),0,none⟩=some (.string p)/\w2.frozen? ⟨(w.heap.size+1),0,none⟩=false/\∃V,w2.setCell ⟨(w.heap.size+1),0,none⟩ (.slice y G z)=V/\V.cell? ⟨(w.heap.size+1),0,none⟩=some (.slice y G z)/\V.cell? ⟨(w.heap.size+1+1),0,none⟩=some (.string p)/\V.cell? ⟨(w.heap.size+1+1),1,none⟩=some (.int .u8 2)/\V.cell? ⟨(w.heap.size+1+1),2,none⟩=some (.int .i64 (fn:Nat))/\Hid (Gk w b L w.heap.size (w.heap.size+1) (w.heap.size+1+1) pb P R so E p 2 (fn:Nat) (.slice none 0 0) i (.slice d g f) st i (.slice y G z) (s++Dx a p 2++Dp a p) V)):=fun Z m q o F=>by
  have aa:=F.below (Al _ _).drew;have aQ:(s++Dx a p 2).size=s.size+3:=by rw[Ai];rfl
  have bI:(Dp a p).size<=p.size:=by unfold Dp;rw[Af];omega
  have bh:Dp a p=p.extract N p.size:=by unfold Dp;rw[hN]
  obtain⟨y,G,z,w2,r1,r2,O,r4⟩:=UZ Z.drew b (Ag hb aa.fr.size) _ _ aa.rs (Dp a p) (by omega);rw[bh]at r1;have Q:Boxed w2 (w.heap.size+1) 59 (.slice m q o):=(O.block _ aa.b5.lt (fun e=>by rcases aa.hv _ e with C|C;(have:=(Da HB).ov _ C;omega);omega)).trans aa.b5;have q7:F0 w2 (w.heap.size+1+1) 141 _:=(O.block _ aa.b7.lt (fun e=>by rcases aa.hv _ e with C|C;(have:=(Da HB).ov _ C;omega);omega)).trans aa.b7;have I:=aa.say (Da HB) r2 O r4;exact⟨F.b5.cell,(F.b7.cell 0).trans rfl,y,G,z,w2,r1,Q.cell,(q7.cell 0).trans rfl,Q.frozen,_,rfl,I.b5.cell,(I.b7.cell 0).trans rfl,(I.b7.cell 1).trans rfl,(I.b7.cell 2).trans rfl,I⟩
 obtain⟨N3,ai⟩:∃M:Nat,M=(UInt8.ofNat fn).toNat:=⟨_,rfl⟩;have bQ:IntKind.u8.wrap (fn:Int)=(N3:Int):=by rw[ai];exact J7 fn
 have bR:(fn:Int)%256=(N3:Int):=by rw[ai,B3];omega
 have HC:Hid (∀Z m q o,Gk w b L w.heap.size (w.heap.size+1) (w.heap.size+1+1) pb P R so E p 2 (fn:Nat) (.slice none 0 0) i (.slice d g f) st i (.slice m q o) (s++Dx a p 2++Dp a p) Z->∃Y y G z w2,Z.alloc (.cells #[.int .u8 (N3:Nat)] 5)=Y/\(Builtin.append_ #[59,59] 59 #[.slice m q o,.slice (some ⟨Z.heap.size,0,none⟩) 1 1]).run Tryz.prog Y = .ok (.slice y G z) w2/\w2.cell? ⟨(w.heap.size+1),0,none⟩=some (.slice m q o)/\w2.frozen? ⟨(w.heap.size+1),0,none⟩=false/\∃V,w2.setCell ⟨(w.heap.size+1),0,none⟩ (.slice y G z)=V/\V.cell? ⟨(w.heap.size+1),0,none⟩=some (.slice y G z)/\V.cell? ⟨(w.heap.size+1+1),1,none⟩=some (.int .u8 2)/\V.cell? ⟨(w.heap.size+1+1),3,none⟩=some (.slice none 0 0)/\Hid (Gk w b L w.heap.size (w.heap.size+1) (w.heap.size+1+1) pb P R so E p 2 (fn:Nat) (.slice none 0 0) i (.slice d g f) st i (.slice y G z) (s++Dx a p 2++Dp a p++⟨#[UInt8.ofNat fn]⟩) V)):=fun Z m q o F=>by
  obtain⟨Y,eY,xY,kY,sY,bY⟩:=De Z [.int .u8 (N3:Nat)] 5;have H:=F.below bY;have am:Dc ⟨#[UInt8.ofNat fn]⟩=[.int .u8 (N3:Nat)]:=by rw[ai];rfl
  have aQ:(s++Dx a p 2++Dp a p).size<=s.size+3+p.size:=by
   rw[Ai,Ai];have C:(Dx a p 2).size=3:=rfl;have h2:(Dp a p).size<=p.size:=by unfold Dp;rw[Af];omega
   omega
  obtain⟨y,G,z,w2,r1,r2,O,r4⟩:=J2 Y b (Ag hb H.fr.size) _ _ H.rs ⟨Z.heap.size,0,none⟩ 1 1 ⟨#[UInt8.ofNat fn]⟩ rfl (fun j u hu=>by rw[AL,Av,xY.cell,<-am];exact hu) (by omega);have Q:Boxed w2 (w.heap.size+1) 59 (.slice m q o):=(O.block _ H.b5.lt (fun e=>by rcases H.hv _ e with C|C;(have:=(Da HB).ov _ C;omega);omega)).trans H.b5;have I:=H.say (Da HB) r2 O r4;exact⟨Y,y,G,z,w2,eY,r1,Q.cell,Q.frozen,_,rfl,I.b5.cell,(I.b7.cell 1).trans rfl,(I.b7.cell 3).trans rfl,I⟩
 have ax:Hid (∀U a3 l3 c3,Gk w b L w.heap.size (w.heap.size+1) (w.heap.size+1+1) pb P R so E p 2 (fn:Nat) (.slice none 0 0) i (.slice d g f) st i (.slice a3 l3 c3) (s++Dx a p 2++Dp a p++⟨#[UInt8.ofNat fn]⟩) U->Cl 212 #[.slice a3 l3 c3,.int .u64 0,.int .i64 2] U fun e X=>∃a4 l4 c4,e = .returned (.slice a4 l4 c4)/\X.cell? ⟨(w.heap.size+1),0,none⟩=some (.slice a3 l3 c3)/\X.frozen? ⟨(w.heap.size+1),0,none⟩=false/\∃v,X.setCell ⟨(w.heap.size+1),0,none⟩ (.slice a4 l4 c4)=v/\v.cell? ⟨(w.heap.size+1+1),3,none⟩=some (.slice none 0 0)/\Hid (Gk w b L w.heap.size (w.heap.size+1) (w.heap.size+1+1) pb P R so E p 2 (fn:Nat) (.slice none 0 0) i (.slice d g f) st i (.slice a4 l4 c4) (s++Dx a p 2++Dp a p++⟨#[UInt8.ofNat fn]⟩++Je 0 2) v)):=fun U a3 l3 c3 F=>by
  have aQ:(s++Dx a p 2++Dp a p++⟨#[UInt8.ofNat fn]⟩).size<=s.size+4+p.size:=by
   rw[Ai,Ai,Ai];have q1:(Dx a p 2).size=3:=rfl;have q2:(Dp a p).size<=p.size:=by unfold Dp;rw[Af];omega
   have q3:(⟨#[UInt8.ofNat fn]⟩:By).size=1:=rfl;omega
  refine(UL U b (Ag hb F.fr.size) a3 l3 c3 _ F.rs 0 (by omega) 2 (by omega) (by omega)).mono ?_;rintro e X ⟨a4,l4,c4,rfl,r2,O,r4⟩;have Q:Boxed X (w.heap.size+1) 59 (.slice a3 l3 c3):=(O.block _ F.b5.lt (fun e=>by rcases F.hv _ e with C|C;(have:=(Da HB).ov _ C;omega);omega)).trans F.b5;have I:=F.say (Da HB) r2 O r4;exact⟨a4,l4,c4,rfl,Q.cell,Q.frozen,_,rfl,(I.b7.cell 3).trans rfl,I⟩
 have ay:Hid (Cl 271 #[.string a,.string p] T fun e X=>e = .returned (.int .i64 (N:Nat))/\Hid (Bw T X)):=(Ox a p T (by omega) (by omega)).mono (fun e X ⟨C,_,h2⟩=>⟨by rw[C,hN],h2⟩);have bJ:IntKind.i64.wrap ((p.size:Int)-(N:Int))=(p.size:Int)-(N:Int):=by rw[AX];omega
 have bG:(N:Int)<=(p.size:Int):=by omega
 have aX:=Db e1;have a6:=Db e2;have a7:=Db e3;have aD:=(x3.cell 0);have bo:T.cell? ⟨(w.heap.size+1+1),0,none⟩=some (.string p):=aD.trans rfl;clear hN ag ah ai aD e1 e2 e3 x1 x2 x3 k1 k2 k3 s1 s2 s3 b1 b2 b3 y1 y2 t2 aK hB aJ aj hs aN aO ab;refine(Bj (n:=3)).1 ?_;refine BJ Tryz.func236 rfl AQ ?_ rfl;simp only[Tryz.ntmps236,AR,Aq,AS,Nat.reduceAdd,Nat.reduceSub,AV,AU,A3,AY,AA,AI]
 gi_step
 refine BG.2 (A1 ?_);go_wp2;rw[show w.alloc (.cells #[.pointer (some ⟨pb,0,none⟩)] 168)=W1 from Da aX,show W1.alloc (.cells #[.slice d g f] 59)=W2 from Da a6,show W2.alloc (.cells #[.string p,.int .u8 2,.int .i64 (fn:Nat),.slice none 0 0] 141)=T from Da a7]
 gi_step
 refine BG.2 (A1 ?_);go_wp2_with (go_at_call 271;refine(Da ay).mono ?_;rintro e X ⟨rfl,HX⟩);obtain⟨bj,bk,bl,Y,m,q,o,w1,hY,bi,ao,aq,bm,Z,hZ,au⟩:=Da HA X (Da HX);rw[<-hY]at ao;have HZ:=Db hZ;clear hY hZ bi HA ay bo
 gi_step
 refine BG.2 (A1 ?_);go_wp2_with (at_builtin;refine AZ _ rfl _ _ 59 59 rfl _ _ rfl rfl _ _ ao ?_);rw[Da HZ];obtain⟨m5,m7,y,G,z,w2,aP,n5,n7,bs,V,hV,v5,aU,bx,bz,av⟩:=Da HT Z m q o (Da au);have HV:=Db hV;clear hV ao aq bm bj bk bl HZ HT au
 gi_step
 refine EC Qf ?_;refine BG.2 ?_;refine AD (S:=fun X=>X.cell? ⟨(w.heap.size+1+1),0,none⟩=some (.string p)) (by kernel_rfl) m7 (fun aI=>?_);refine tk 1 ?_;try simp only[pE];refine tk 2 ?_;try simp only[pE];refine tk 3 ?_;try simp only[pE];refine tk 4 ?_;try simp only[pE];refine rk 0 (fun K J=>?_);go_simp;refine J.out _ _ aI (fun bc=>?_);clear J K
 (try simp only[pE])
 refine rk 5 (fun K J=>?_);refine JO rfl _ _ 59 9 rfl _ _ rfl rfl aP ?_;refine J.out _ _ n7 (fun bd=>?_);clear J K
 (try simp only[pE])
 refine rk 6 (fun K J=>?_);go_simp;rw[Da HV];refine J.out _ _ aU (fun be=>?_);clear J K
 (try simp only[pE])
 refine AW (by kernel_rfl) ?_ _;refine KY ?_;clear bc bd be aI aP n5 n7 bs m5 m7 HV;obtain⟨Y3,a3,l3,c3,w3,aL,ap,aq,bp,U,hU,u5,bv,bw,aw⟩:=Da HC V y G z (Da av);rw[<-aL]at ap;have HU:=Db hU;clear aL hU HC
 gi_step
 gi_step
 gi_step
 gi_step
 refine BG.2 (A1 ?_);go_wp2
 gi_step
 gi_step
 gi_step
 gi_step
 gi_step
 refine BG.2 (A1 ?_);go_wp2_with (at_builtin;refine AZ _ rfl _ _ 59 59 rfl _ _ rfl rfl _ _ ap ?_);rw[Da HU];clear ap aq bp HU v5 aU bx bz av;have H9:=Db (Da ax U a3 l3 c3 (Da aw));clear ax
 gi_step
 gi_step
 refine BG.2 (A1 ?_);go_wp2
 gi_step
 gi_step
 gi_step
 gi_step
 gi_step
 refine BG.2 (A1 ?_);go_wp2_with (go_at_call 212;refine(Da H9).mono ?_;rintro e X9 ⟨a4,l4,c4,rfl,x5,bD,v,aR,bC,ba⟩;have aA:=Db aR;clear aR);rw[Da aA];obtain⟨ac,aF,bA,bq,ar,al⟩:=De v [.int .i64 0] 3;obtain⟨ak,aG,aV,br,bt,aB⟩:=De ac [.slice none 0 0] 59;obtain⟨ae,aH,bB,aS,bu,aC⟩:=De ak [.int .i64 64] 3;have aM:Bw v ae:=al.trans ((aB.mono (by omega)).trans (aC.mono (by omega)));have af:=Da ba;have bL:=af.sz;have ad:ae.heap.size=v.heap.size+3:=by omega
 have yc:=aS _ _ _ aV;rw[ar]at yc;have bE:ac.cell? ⟨(w.heap.size+1+1),3,none⟩=some (.slice none 0 0):=(al.cell (p:=⟨(w.heap.size+1+1),3,none⟩) af.b7.lt).trans bC;have a8:=Db (af.below aM);have az:=Db ad;have bb:Hid (ac.heap.size=v.heap.size+1):=ar;have aY:=Db aF;have aZ:=Db aG;have a5:=Db aH;have aE:ae.cell? ⟨(v.heap.size+1),0,none⟩=some (.slice none 0 0):=(yc.cell 0).trans rfl;have aW:=Db aE;clear H9 aA x5 bD u5 bv bw aw aF aG aH bA aV bB bq br aS ar bt bu al aB aC aM af ad yc aE
 gi_step
 refine BG.2 (A1 ?_);go_wp2;rw[show v.alloc (.cells #[.int .i64 0] 3)=ac from Da aY]
 gi_wp2_with (refine⟨AQ,?_⟩;gi_at_call 172;refine(NH _ 64 (by omega) (by omega) _ _ ⟨_,_,_,rfl⟩).mono ?_;rintro e w' ⟨rfl,rfl⟩)
 rw[show ac.alloc (.cells #[.slice none 0 0] 59)=ak from Da aZ,show ak.alloc (.cells #[.int .i64 64] 3)=ae from Da a5];rw[show ac.heap.size=v.heap.size+1 from Da bb];rename_i K0 bf;have ad:=Da az;refine C5 (α := Nat) rfl (by omega) (gf:=220) (lb := #[.pointer (some ⟨(v.heap.size+1),0,none⟩),.pointer (some ⟨(v.heap.size+1+1),0,none⟩)]) rfl AQ (ER Tryz.func220 (by kernel_rfl) rfl)
  (ZmH 2 (v.heap.size+1) (v.heap.size+1+1) 64 ae (by omega) (Da aW) (fun _ _=>True))
  (fun _ _=>AQ)
  (fun _ _ _ _ _ _ _ _=>AQ)
  (Al _ _) (fun _=>rfl)
  (fun _ X=>Gk w b L w.heap.size (w.heap.size+1) (w.heap.size+1+1) pb P R so E p 2 (fn:Nat) (.slice none 0 0) i (.slice d g f) st i (.slice a4 l4 c4) (s++Dx a p 2++Dp a p++⟨#[UInt8.ofNat fn]⟩++Je 0 2) X)
  (fun _ _ _=>False)
  (fun aT A B row hs hg hr=>hs.own hg (fun r e=>⟨by have:=(hr r e).1;omega,(hr r e).2⟩))
  (fun _ _ _ _ _ hs _ _=>hs)
  (Da a8)
  (fun x=>{ tmps:=List.toArray ((.pointer (some ⟨pb,0,none⟩))::(.slice d g f)::(.string a)::(.agg #[.string p,.int .u8 2,.int .i64 (fn:Nat),.slice none 0 0])::(.pointer (some ⟨w.heap.size,0,none⟩))::(.pointer (some ⟨(w.heap.size+1),0,none⟩))::undef::(.pointer (some ⟨(w.heap.size+1+1),0,none⟩))::(.slice none 0 0)::(.int .i64 (N:Nat))::(.pointer (some ⟨v.heap.size,0,none⟩))::(II 0 0 64 0 x)::undef::(.string a)::(.pointer (some ⟨(w.heap.size+1+1),0,none⟩))::(.string p)::(.int .i64 (N:Nat))::(.slice d g f)::(.pointer (some ⟨(w.heap.size+1+1),1,none⟩))::(.int .u8 2)::(.int .i64 (N:Nat))::(.int .u8 (N1:Nat))::(.pointer (some ⟨(w.heap.size+1+1),0,none⟩))::(.string p)::(.int .i64 (p.size:Nat))::(.int .i64 (N:Nat))::(.int .i64 ((p.size:Int)-(N:Int)))::(.int .u8 (N2:Nat))::(.slice (some ⟨X.heap.size,0,none⟩) 3 3)::(.slice m q o)::(.slice m q o)::(.pointer (some ⟨(w.heap.size+1+1),0,none⟩))::(.string p)::(.int .i64 (N:Nat))::(.string (p.extract N p.size))::(.slice y G z)::(.pointer (some ⟨(w.heap.size+1+1),1,none⟩))::(.int .u8 2)::(.bool false)::undef::(.slice y G z)::(.pointer (some ⟨(w.heap.size+1+1),2,none⟩))::(.int .i64 (fn:Nat))::(.int .u8 (N3:Nat))::(.slice (some ⟨V.heap.size,0,none⟩) 1 1)::(.slice a3 l3 c3)::(.pointer (some ⟨(w.heap.size+1+1),1,none⟩))::(.int .u8 2)::(.bool false)::undef::(.slice a3 l3 c3)::(.pointer (some ⟨(w.heap.size+1+1),3,none⟩))::(.slice none 0 0)::(.int .i64 0)::(.int .u64 0)::(.slice a4 l4 c4)::(.pointer (some ⟨(w.heap.size+1+1),3,none⟩))::(.slice none 0 0)::(.func (.func 220) #[] #[.pointer (some ⟨v.heap.size+1,0,none⟩),.pointer (some ⟨v.heap.size+1+1,0,none⟩)])::(II 0 0 64 0 x)::undef::undef::undef::undef::undef::undef::undef::undef::undef::undef::undef::undef::undef::undef::undef::[]),defers:=[] })
  ?assign ?body ?done ?stop
 case assign=>
  intro l x X K J;clear ad
  gi_wp2
  exact J
 case body=>
  rintro l aT x W hR bn;exact absurd bn (by omega)
 case done=>
  rintro D ys XX hD rfl hR J;have c5:=hR.b5.cell;have HR:=Db hR;clear hR ad;show K0 _ _;refine bf _ _ ?_
  gi_wp2
  have hR:=Da HR;have ad:=Da az;refine⟨by simp,.inl ⟨_,_,rfl,Cb J,?_⟩⟩;have hg:XX.grownBy (XX.putObj D (.deferred none)) (some D):=⟨rfl,rfl,rfl,by simp[World.putObj],fun k _ hk=>by
   simp only[World.putObj];rw[Bd,if_neg (fun e=>hk (by rw[e]))]⟩
  have bg:=hR.own hg (fun r e=>by cases e;exact⟨by omega,_,J,rfl⟩);exact⟨_,EF rfl _ _ _,bg.post rfl⟩
 case stop=>
  rintro D c aT X _ _ h _;exact h.elim
end
end Go.Proofs.YtaieidcohdhgpaaGreatDoor
