/- Told. -/
import Derived.Test.YtaieidcohdhgpaaGreatDoorYAL
namespace Go.Proofs.YtaieidcohdhgpaaGreatDoor
set_option maxHeartbeats 40000000
set_option maxRecDepth 100000
section
open Tryz
open Go.RowKit Go.Shelf
attribute [local go_sem] Oper.semAt_some
theorem Vm(n:Nat)(a e m:Nat)(w:World)(h:a<w.heap.size)(c:w.cell? ⟨a,0,none⟩=some (.slice none 0 0))(g:World->World->Prop):
  SeqStopsK Fence.wide n prog 220 #[.pointer (some ⟨a,0,none⟩),.pointer (some ⟨e,0,none⟩)] (λk:Nat => #[Io 0 0 m 0 k]) g (λo=>o=[]) (λ_=>False) 0 w:=λl J Jx W d i _ j b=>by
 have c1:=(d.cell (p:=⟨a,0,none⟩) h).trans c;have f:=Db b;clear j d c i b;refine CH func220 rfl trivial ?_ rfl;simp only[ntmps220,AM,Al,AK,Nat.reduceAdd,Nat.reduceSub,AQ,AP,AZ,AT,AD,AN]
 gi_wp2
 refine wpIn_loop_once ?_
 gi_wp2
 go_end0
 exact⟨⟨_,rfl⟩,.inl ⟨[],rfl,Da f⟩⟩
theorem Gb.own{w:World}{b B m n s pb x C so:Nat}{E:FZ}{p:By}{k:Nat}{f:Int}{F:Value}{u:Nat->Prop}{D:Value}{st:Pl}{O:Nat->Prop}{v:Value}{t:By}{W i:World}(h:Gb w b B m n s pb x C so E p k f F u D st O v t W){row:Option Nat}(a:W.grownBy i row)(l:∀r,row=some r->w.heap.size<=r/\∃o:Obj,W.heap[r]?=some o/\o.isCells=false):Gb w b B m n s pb x C so E p k f F u D st O v t i:=by
 have ne:∀(j:Nat) (c:Array Value) (t:TypeId) (z:Nat×Nat),W.heap[j]?=some (Obj.cells c t z)->some j≠row:=λj c t z d e=>by
  obtain⟨o,y,K⟩:=(l j e.symm).2;rw[d]at y;cases y;cases K
 have g:∀(j:Nat) (c:Array Value) (t:TypeId) (z:Nat×Nat),W.heap[j]?=some (Obj.cells c t z)->i.heap[j]?=some (Obj.cells c t z):=λj c t z d=>(a.block j (Aj.1 d).1 (ne j c t z d)).trans d
 refine⟨h.st.abides a (λr e=>(l r e).2),h.hO,g _ _ _ _ h.b4,g _ _ _ _ h.b5,g _ _ _ _ h.b7,⟨?_,h.rs.2⟩,h.hv,h.dis,?_,Af h.sz a.size⟩
 ·rcases h.rs.1.2 with⟨e,J⟩|⟨I,H,G,e,L,q⟩
  ·exact⟨h.rs.1.1,.inl ⟨e,J⟩⟩
  ·exact⟨h.rs.1.1,.inr ⟨I,H,G,e,g _ _ _ _ L,q⟩⟩
 ·exact h.fr.then (Y:=λj=>row=some j) ⟨a.os,a.tape,a.output,a.size,λk A M=>a.block k A (λe=>M e.symm)⟩ (λk A N=>by have:=(l _ N).1;omega)
theorem Zjf(w:World)(b L pb P R so:Nat)(E:FZ)(st:Pl)(i:Nat->Prop)(aj:GV L pb P R so E st i w)(d:OA)(g f:Nat)(s:By)(hs:F9 b w (.slice d g f) s)(bL:s.size<=600000)(aN:∀j,i j->¬Own (.slice d g f) j)(aO:∀j,Own (.slice d g f) j->L<=j)(hb:b<=w.heap.size)(a p:By)(bI:a.size<=100000)(hp:p.size<=100000)(fn:Nat)(_hfn:fn<60000):
  Cl 236 #[.pointer (some ⟨pb,0,none⟩),.slice d g f,.string a,.agg #[.string p,.int .u8 2,.int .i64 (fn:Nat),.slice none 0 0]] w (QC w b L pb P R so E i (.slice d g f) st (s++Ds a p 2++Do a p++⟨#[UInt8.ofNat fn]⟩++Ja 0 2)):=by
 obtain⟨W1,e1,x1,k1,s1,b1⟩:=De w [.pointer (some ⟨pb,0,none⟩)] 168;obtain⟨W2,e2,x2,k2,s2,b2⟩:=De W1 [.slice d g f] 59;obtain⟨T,e3,x3,k3,s3,b3⟩:=De W2 [.string p,.int .u8 2,.int .i64 (fn:Nat),.slice none 0 0] 141;have ab:Bw w T:=b1.trans ((b2.mono (by omega)).trans (b3.mono (by omega)));have y1:=k3 _ _ _ (k2 _ _ _ x1);have y2:=k3 _ _ _ x2;have t2:W2.heap.size=w.heap.size+1+1:=by omega
 rw[s1]at y2;rw[t2]at x3;have aK:∀j,i j->j<w.heap.size:=λj hj=>by obtain⟨cs,t,hb⟩:=aj.cells hj;exact(Aj.1 hb).1
 have hB:LA w b L w.heap.size (w.heap.size+1) (w.heap.size+1+1) i (.slice d g f):=⟨rfl,rfl,rfl,aK,λj hj=>hs.1.lt hj,aO,hb,aj.2.2.1⟩;have aJ:Gb w b L w.heap.size (w.heap.size+1) (w.heap.size+1+1) pb P R so E p 2 (fn:Nat) (.slice none 0 0) i (.slice d g f) st i (.slice d g f) s T:=⟨aj.abides (row:=none) ⟨ab.os,ab.tape,ab.output,ab.size,λk hk _=>ab.block k hk⟩ (λr e=>by cases e),λj hj => .inl hj,y1,y2,x3,hs.below ab,λj hj => .inl hj,aN,Fr.of_below ab,by omega⟩;obtain⟨N,hN⟩:=ex (Kl a p);have bG:N<=p.size:=by rw[hN];exact(Uo _ _).2
 obtain⟨N1,ag⟩:∃M:Nat,M=(UInt8.ofNat N).toNat:=⟨_,rfl⟩;obtain⟨N2,ah⟩:∃M:Nat,M=(UInt8.ofNat (p.size-N)).toNat:=⟨_,rfl⟩;have an:((p.size:Int)-(N:Int))=((p.size-N:Nat):Int):=by omega
 have bN:IntKind.u8.wrap (N:Int)=(N1:Int):=by rw[ag];exact J6 N
 have bP:IntKind.u8.wrap ((p.size:Int)-(N:Int))=(N2:Int):=by rw[ah,an];exact J6 _
 have bO:(N:Int)%256=(N1:Int):=by rw[ag,BQ];omega
 have bQ:((p.size:Int)-(N:Int))%256=(N2:Int):=by rw[ah,an,BQ];omega
 clear an;have a9:=Db aJ;have HB:=Db hB;have HA:Hid (∀X,Bw T X->X.cell? ⟨(w.heap.size+1),0,none⟩=some (.slice d g f)/\X.cell? ⟨(w.heap.size+1+1),0,none⟩=some (.string p)/\X.cell? ⟨(w.heap.size+1+1),1,none⟩=some (.int .u8 2)/\∃Y m q o w1,X.alloc (.cells #[.int .u8 2,.int .u8 (N1:Nat),.int .u8 (N2:Nat)] 5)=Y/\Y.cell? ⟨(w.heap.size+1),0,none⟩=some (.slice d g f)/\(Builtin.append_ #[59,59] 59 #[.slice d g f,.slice (some ⟨X.heap.size,0,none⟩) 3 3]).run prog Y=.ok (.slice m q o) w1/\w1.cell? ⟨(w.heap.size+1),0,none⟩=some (.slice d g f)/\w1.frozen? ⟨(w.heap.size+1),0,none⟩=false/\∃Z,w1.setCell ⟨(w.heap.size+1),0,none⟩ (.slice m q o)=Z/\Hid (Gb w b L w.heap.size (w.heap.size+1) (w.heap.size+1+1) pb P R so E p 2 (fn:Nat) (.slice none 0 0) i (.slice d g f) st i (.slice m q o) (s++Ds a p 2) Z)):=λX hX=>by
  have F:=(Da a9).below hX;obtain⟨Y,eY,xY,kY,sY,bY⟩:=De X [.int .u8 2,.int .u8 (N1:Nat),.int .u8 (N2:Nat)] 5;have H:=F.below bY;have am:Dc (Ds a p 2)=[.int .u8 2,.int .u8 (N1:Nat),.int .u8 (N2:Nat)]:=by
   rw[ag,ah,hN];rfl
  obtain⟨m,q,o,w1,r1,r2,O,r4⟩:=JX Y b (Af hb (Af H.fr.size (Aa _))) _ _ H.rs ⟨X.heap.size,0,none⟩ 3 3 (Ds a p 2) rfl (λj u hu=>by rw[AI,Av,xY.cell,<-am];exact hu) (by omega);have Q:Boxed w1 (w.heap.size+1) 59 (.slice d g f):=(O.block _ H.b5.lt (λe=>by rcases H.hv _ e with C|C;(have:=(Da HB).ov _ C;omega);omega)).trans H.b5;exact⟨F.b5.cell,(F.b7.cell 0).trans rfl,(F.b7.cell 1).trans rfl,Y,m,q,o,w1,eY,H.b5.cell,r1,Q.cell,Q.frozen,_,rfl,H.say (Da HB) r2 O r4⟩
 have HT:Hid (∀Z m q o,Gb w b L w.heap.size (w.heap.size+1) (w.heap.size+1+1) pb P R so E p 2 (fn:Nat) (.slice none 0 0) i (.slice d g f) st i (.slice m q o) (s++Ds a p 2) Z->Z.cell? ⟨(w.heap.size+1),0,none⟩=some (.slice m q o)/\Z.cell? ⟨(w.heap.size+1+1),0,none⟩=some (.string p)/\∃y G z w2,(Builtin.append_ #[59,9] 59 #[.slice m q o,.string (p.extract N p.size)]).run prog Z.drew=.ok (.slice y G z) w2/\w2.cell? ⟨(w.heap.size+1),0,none⟩=some (.slice m q o)/\w2.cell? ⟨(w.heap.size+1+1),0,none⟩=some (.string p)/\w2.frozen? ⟨(w.heap.size+1),0,none⟩=false/\∃V,w2.setCell ⟨(w.heap.size+1),0,none⟩ (.slice y G z)=V/\V.cell? ⟨(w.heap.size+1),0,none⟩=some (.slice y G z)/\V.cell? ⟨(w.heap.size+1+1),0,none⟩=some (.string p)/\V.cell? ⟨(w.heap.size+1+1),1,none⟩=some (.int .u8 2)/\V.cell? ⟨(w.heap.size+1+1),2,none⟩=some (.int .i64 (fn:Nat))/\Hid (Gb w b L w.heap.size (w.heap.size+1) (w.heap.size+1+1) pb P R so E p 2 (fn:Nat) (.slice none 0 0) i (.slice d g f) st i (.slice y G z) (s++Ds a p 2++Do a p) V)):=λZ m q o F=>by
  have aa:=F.below (Ak _ _).drew;have aQ:(s++Ds a p 2).size=s.size+3:=by rw[Ai];rfl
  have bJ:(Do a p).size<=p.size:=by unfold Do;rw[Ah];omega
  have bi:Do a p=p.extract N p.size:=by unfold Do;rw[hN]
  obtain⟨y,G,z,w2,r1,r2,O,r4⟩:=UT Z.drew b (Af hb aa.fr.size) _ _ aa.rs (Do a p) (by omega);rw[bi]at r1;have Q:Boxed w2 (w.heap.size+1) 59 (.slice m q o):=(O.block _ aa.b5.lt (λe=>by rcases aa.hv _ e with C|C;(have:=(Da HB).ov _ C;omega);omega)).trans aa.b5;have q7:FX w2 (w.heap.size+1+1) 141 _:=(O.block _ aa.b7.lt (λe=>by rcases aa.hv _ e with C|C;(have:=(Da HB).ov _ C;omega);omega)).trans aa.b7;have I:=aa.say (Da HB) r2 O r4;exact⟨F.b5.cell,(F.b7.cell 0).trans rfl,y,G,z,w2,r1,Q.cell,(q7.cell 0).trans rfl,Q.frozen,_,rfl,I.b5.cell,(I.b7.cell 0).trans rfl,(I.b7.cell 1).trans rfl,(I.b7.cell 2).trans rfl,I⟩
 obtain⟨N3,ai⟩:∃M:Nat,M=(UInt8.ofNat fn).toNat:=⟨_,rfl⟩;have bR:IntKind.u8.wrap (fn:Int)=(N3:Int):=by rw[ai];exact J6 fn
 have bS:(fn:Int)%256=(N3:Int):=by rw[ai,BQ];omega
 have HC:Hid (∀Z m q o,Gb w b L w.heap.size (w.heap.size+1) (w.heap.size+1+1) pb P R so E p 2 (fn:Nat) (.slice none 0 0) i (.slice d g f) st i (.slice m q o) (s++Ds a p 2++Do a p) Z->∃Y y G z w2,Z.alloc (.cells #[.int .u8 (N3:Nat)] 5)=Y/\(Builtin.append_ #[59,59] 59 #[.slice m q o,.slice (some ⟨Z.heap.size,0,none⟩) 1 1]).run prog Y=.ok (.slice y G z) w2/\w2.cell? ⟨(w.heap.size+1),0,none⟩=some (.slice m q o)/\w2.frozen? ⟨(w.heap.size+1),0,none⟩=false/\∃V,w2.setCell ⟨(w.heap.size+1),0,none⟩ (.slice y G z)=V/\V.cell? ⟨(w.heap.size+1),0,none⟩=some (.slice y G z)/\V.cell? ⟨(w.heap.size+1+1),1,none⟩=some (.int .u8 2)/\V.cell? ⟨(w.heap.size+1+1),3,none⟩=some (.slice none 0 0)/\Hid (Gb w b L w.heap.size (w.heap.size+1) (w.heap.size+1+1) pb P R so E p 2 (fn:Nat) (.slice none 0 0) i (.slice d g f) st i (.slice y G z) (s++Ds a p 2++Do a p++⟨#[UInt8.ofNat fn]⟩) V)):=λZ m q o F=>by
  obtain⟨Y,eY,xY,kY,sY,bY⟩:=De Z [.int .u8 (N3:Nat)] 5;have H:=F.below bY;have am:Dc ⟨#[UInt8.ofNat fn]⟩=[.int .u8 (N3:Nat)]:=by rw[ai];rfl
  have aQ:(s++Ds a p 2++Do a p).size<=s.size+3+p.size:=by
   rw[Ai,Ai];have C:(Ds a p 2).size=3:=rfl;have h2:(Do a p).size<=p.size:=by unfold Do;rw[Ah];omega
   omega
  obtain⟨y,G,z,w2,r1,r2,O,r4⟩:=JX Y b (Af hb H.fr.size) _ _ H.rs ⟨Z.heap.size,0,none⟩ 1 1 ⟨#[UInt8.ofNat fn]⟩ rfl (λj u hu=>by rw[AI,Av,xY.cell,<-am];exact hu) (by omega);have Q:Boxed w2 (w.heap.size+1) 59 (.slice m q o):=(O.block _ H.b5.lt (λe=>by rcases H.hv _ e with C|C;(have:=(Da HB).ov _ C;omega);omega)).trans H.b5;have I:=H.say (Da HB) r2 O r4;exact⟨Y,y,G,z,w2,eY,r1,Q.cell,Q.frozen,_,rfl,I.b5.cell,(I.b7.cell 1).trans rfl,(I.b7.cell 3).trans rfl,I⟩
 have ax:Hid (∀U a3 l3 c3,Gb w b L w.heap.size (w.heap.size+1) (w.heap.size+1+1) pb P R so E p 2 (fn:Nat) (.slice none 0 0) i (.slice d g f) st i (.slice a3 l3 c3) (s++Ds a p 2++Do a p++⟨#[UInt8.ofNat fn]⟩) U->Cl 212 #[.slice a3 l3 c3,.int .u64 0,.int .i64 2] U λe X=>∃a4 l4 c4,e=.returned (.slice a4 l4 c4)/\X.cell? ⟨(w.heap.size+1),0,none⟩=some (.slice a3 l3 c3)/\X.frozen? ⟨(w.heap.size+1),0,none⟩=false/\∃v,X.setCell ⟨(w.heap.size+1),0,none⟩ (.slice a4 l4 c4)=v/\v.cell? ⟨(w.heap.size+1+1),3,none⟩=some (.slice none 0 0)/\Hid (Gb w b L w.heap.size (w.heap.size+1) (w.heap.size+1+1) pb P R so E p 2 (fn:Nat) (.slice none 0 0) i (.slice d g f) st i (.slice a4 l4 c4) (s++Ds a p 2++Do a p++⟨#[UInt8.ofNat fn]⟩++Ja 0 2) v)):=λU a3 l3 c3 F=>by
  have aQ:(s++Ds a p 2++Do a p++⟨#[UInt8.ofNat fn]⟩).size<=s.size+4+p.size:=by
   rw[Ai,Ai,Ai];have q1:(Ds a p 2).size=3:=rfl;have q2:(Do a p).size<=p.size:=by unfold Do;rw[Ah];omega
   have q3:(⟨#[UInt8.ofNat fn]⟩:By).size=1:=rfl;omega
  refine(UD U b (Af hb F.fr.size) a3 l3 c3 _ F.rs 0 (by omega) 2 (by omega) (by omega)).mono ?_;rintro e X⟨a4,l4,c4,rfl,r2,O,r4⟩;have Q:Boxed X (w.heap.size+1) 59 (.slice a3 l3 c3):=(O.block _ F.b5.lt (λe=>by rcases F.hv _ e with C|C;(have:=(Da HB).ov _ C;omega);omega)).trans F.b5;have I:=F.say (Da HB) r2 O r4;exact⟨a4,l4,c4,rfl,Q.cell,Q.frozen,_,rfl,(I.b7.cell 3).trans rfl,I⟩
 have ay:Hid (Cl 271 #[.string a,.string p] T λe X=>e=.returned (.int .i64 (N:Nat))/\Hid (Bw T X)):=(OL a p T (by omega) (by omega)).mono (λe X ⟨C,_,h2⟩=>⟨by rw[C,hN],h2⟩);have bK:IntKind.i64.wrap ((p.size:Int)-(N:Int))=(p.size:Int)-(N:Int):=by rw[AV];omega
 have bH:(N:Int)<=(p.size:Int):=by omega
 have aX:=Db e1;have a6:=Db e2;have a7:=Db e3;have aD:=(x3.cell 0);have bp:T.cell? ⟨(w.heap.size+1+1),0,none⟩=some (.string p):=aD.trans rfl;clear hN ag ah ai aD e1 e2 e3 x1 x2 x3 k1 k2 k3 s1 s2 s3 b1 b2 b3 y1 y2 t2 aK hB aJ aj hs aN aO ab;refine(A2 (n:=3)).1 ?_;refine Br func236 rfl trivial ?_ rfl;simp only[ntmps236,AM,Al,AK,Nat.reduceAdd,Nat.reduceSub,AQ,AP,AZ,AT,AD,AN]
 gi_step
 refine BE.2 (AX ?_);go_wp2;rw[show w.alloc (.cells #[.pointer (some ⟨pb,0,none⟩)] 168)=W1 from Da aX,show W1.alloc (.cells #[.slice d g f] 59)=W2 from Da a6,show W2.alloc (.cells #[.string p,.int .u8 2,.int .i64 (fn:Nat),.slice none 0 0] 141)=T from Da a7]
 gi_step
 refine BE.2 (AX ?_);go_wp2_with(go_at_call 271;refine(Da ay).mono ?_;rintro e X⟨rfl,HX⟩);obtain⟨bk,bl,bm,Y,m,q,o,w1,hY,bj,ao,aq,bn,Z,hZ,au⟩:=Da HA X (Da HX);rw[<-hY]at ao;have HZ:=Db hZ;clear hY hZ bj HA ay bp
 gi_step
 refine BE.2 (AX ?_);go_wp2_with(at_builtin;refine A0 _ rfl _ _ 59 59 rfl _ _ rfl rfl _ _ ao ?_);rw[Da HZ];obtain⟨m5,m7,y,G,z,w2,aP,n5,n7,bt,V,hV,v5,aU,bz,bA,av⟩:=Da HT Z m q o (Da au);have HV:=Db hV;clear hV ao aq bn bk bl bm HZ HT au
 gi_step
 refine EH Qo ?_;refine BE.2 ?_;refine AE (S:=λX=>X.cell? ⟨(w.heap.size+1+1),0,none⟩=some (.string p)) (by kernel_rfl) m7 (λaI=>?_);refine tk 1 ?_;refine tk 2 ?_;refine tk 3 ?_;refine tk 4 ?_;refine rk 0 (λK J=>?_);go_simp;refine J.out _ _ aI (λbd=>?_);clear J K
 try simp only[pE]
 refine rk 5 (λK J=>?_);refine JV rfl _ _ 59 9 rfl _ _ rfl rfl aP ?_;refine J.out _ _ n7 (λbe=>?_);clear J K
 try simp only[pE]
 refine rk 6 (λK J=>?_);go_simp;rw[Da HV];refine J.out _ _ aU (λbf=>?_);clear J K
 try simp only[pE]
 refine AO (by kernel_rfl) ?_ _;refine K8 ?_;clear bd be bf aI aP n5 n7 bt m5 m7 HV;obtain⟨Y3,a3,l3,c3,w3,aL,ap,aq,bq,U,hU,u5,bw,bx,aw⟩:=Da HC V y G z (Da av);rw[<-aL]at ap;have HU:=Db hU;clear aL hU HC
 gi_step
 gi_step
 gi_step
 gi_step
 refine BE.2 (AX ?_);go_wp2
 gi_step
 gi_step
 gi_step
 gi_step
 gi_step
 refine BE.2 (AX ?_);go_wp2_with(at_builtin;refine A0 _ rfl _ _ 59 59 rfl _ _ rfl rfl _ _ ap ?_);rw[Da HU];clear ap aq bq HU v5 aU bz bA av;have H9:=Db (Da ax U a3 l3 c3 (Da aw));clear ax
 gi_step
 gi_step
 refine BE.2 (AX ?_);go_wp2
 gi_step
 gi_step
 gi_step
 gi_step
 gi_step
 refine BE.2 (AX ?_);go_wp2_with(go_at_call 212;refine(Da H9).mono ?_;rintro e X9⟨a4,l4,c4,rfl,x5,bE,v,aR,bD,bb⟩;have aA:=Db aR;clear aR);rw[Da aA];obtain⟨ac,aF,bB,br,ar,al⟩:=De v [.int .i64 0] 3;obtain⟨ak,aG,aV,bs,bu,aB⟩:=De ac [.slice none 0 0] 59;obtain⟨ae,aH,bC,aS,bv,aC⟩:=De ak [.int .i64 64] 3;have aM:Bw v ae:=al.trans ((aB.mono (by omega)).trans (aC.mono (by omega)));have af:=Da bb;have bM:=af.sz;have ad:ae.heap.size=v.heap.size+3:=by omega
 have yc:=aS _ _ _ aV;rw[ar]at yc;have bF:ac.cell? ⟨(w.heap.size+1+1),3,none⟩=some (.slice none 0 0):=(al.cell (p:=⟨(w.heap.size+1+1),3,none⟩) af.b7.lt).trans bD;have a8:=Db (af.below aM);have az:=Db ad;have bc:Hid (ac.heap.size=v.heap.size+1):=ar;have aY:=Db aF;have aZ:=Db aG;have a5:=Db aH;have aE:ae.cell? ⟨(v.heap.size+1),0,none⟩=some (.slice none 0 0):=(yc.cell 0).trans rfl;have aW:=Db aE;clear H9 aA x5 bE u5 bw bx aw aF aG aH bB aV bC br bs aS ar bu bv al aB aC aM af ad yc aE
 gi_step
 refine BE.2 (AX ?_);go_wp2;rw[show v.alloc (.cells #[.int .i64 0] 3)=ac from Da aY]
 gi_wp2_with (refine⟨trivial,?_⟩;gi_at_call 172;refine(Uk _ 64 (by omega) (by omega) _ _ ⟨_,_,_,rfl⟩).mono ?_;rintro e w'⟨rfl,rfl⟩)
 rw[show ac.alloc (.cells #[.slice none 0 0] 59)=ak from Da aZ,show ak.alloc (.cells #[.int .i64 64] 3)=ae from Da a5];rw[show ac.heap.size=v.heap.size+1 from Da bc];rename_i K0 bg;have ad:=Da az;refine CO (α:=Nat) rfl (by omega) (gf:=220) (lb:=#[.pointer (some ⟨(v.heap.size+1),0,none⟩),.pointer (some ⟨(v.heap.size+1+1),0,none⟩)]) rfl trivial (EB func220 (by kernel_rfl) rfl)
  (Vm 2 (v.heap.size+1) (v.heap.size+1+1) 64 ae (by omega) (Da aW) (λ_ _=>True))
  (λ_ _=>trivial)
  (λ_ _ _ _ _ _ _ _=>trivial)
  (Ak _ _) (λ_=>rfl)
  (λ_ X=>Gb w b L w.heap.size (w.heap.size+1) (w.heap.size+1+1) pb P R so E p 2 (fn:Nat) (.slice none 0 0) i (.slice d g f) st i (.slice a4 l4 c4) (s++Ds a p 2++Do a p++⟨#[UInt8.ofNat fn]⟩++Ja 0 2) X)
  (λ_ _ _=>False)
  (λaT A B row hs hg hr=>hs.own hg (λr e=>⟨by have:=(hr r e).1;omega,(hr r e).2⟩))
  (λ_ _ _ _ _ hs _ _=>hs)
  (Da a8)
  (λx=>{ tmps:=List.toArray ((.pointer (some ⟨pb,0,none⟩))::(.slice d g f)::(.string a)::(.agg #[.string p,.int .u8 2,.int .i64 (fn:Nat),.slice none 0 0])::(.pointer (some ⟨w.heap.size,0,none⟩))::(.pointer (some ⟨(w.heap.size+1),0,none⟩))::undef::(.pointer (some ⟨(w.heap.size+1+1),0,none⟩))::(.slice none 0 0)::(.int .i64 (N:Nat))::(.pointer (some ⟨v.heap.size,0,none⟩))::(Io 0 0 64 0 x)::undef::(.string a)::(.pointer (some ⟨(w.heap.size+1+1),0,none⟩))::(.string p)::(.int .i64 (N:Nat))::(.slice d g f)::(.pointer (some ⟨(w.heap.size+1+1),1,none⟩))::(.int .u8 2)::(.int .i64 (N:Nat))::(.int .u8 (N1:Nat))::(.pointer (some ⟨(w.heap.size+1+1),0,none⟩))::(.string p)::(.int .i64 (p.size:Nat))::(.int .i64 (N:Nat))::(.int .i64 ((p.size:Int)-(N:Int)))::(.int .u8 (N2:Nat))::(.slice (some ⟨X.heap.size,0,none⟩) 3 3)::(.slice m q o)::(.slice m q o)::(.pointer (some ⟨(w.heap.size+1+1),0,none⟩))::(.string p)::(.int .i64 (N:Nat))::(.string (p.extract N p.size))::(.slice y G z)::(.pointer (some ⟨(w.heap.size+1+1),1,none⟩))::(.int .u8 2)::(.bool false)::undef::(.slice y G z)::(.pointer (some ⟨(w.heap.size+1+1),2,none⟩))::(.int .i64 (fn:Nat))::(.int .u8 (N3:Nat))::(.slice (some ⟨V.heap.size,0,none⟩) 1 1)::(.slice a3 l3 c3)::(.pointer (some ⟨(w.heap.size+1+1),1,none⟩))::(.int .u8 2)::(.bool false)::undef::(.slice a3 l3 c3)::(.pointer (some ⟨(w.heap.size+1+1),3,none⟩))::(.slice none 0 0)::(.int .i64 0)::(.int .u64 0)::(.slice a4 l4 c4)::(.pointer (some ⟨(w.heap.size+1+1),3,none⟩))::(.slice none 0 0)::(.func (.func 220) #[] #[.pointer (some ⟨v.heap.size+1,0,none⟩),.pointer (some ⟨v.heap.size+1+1,0,none⟩)])::(Io 0 0 64 0 x)::undef::undef::undef::undef::undef::undef::undef::undef::undef::undef::undef::undef::undef::undef::undef::[]),defers:=[] })
  ?assign ?body ?done ?stop
 case assign=>
  intro l x X K J;clear ad
  gi_wp2
  exact J
 case body=>
  rintro l aT x W hR bo;exact absurd bo (by omega)
 case done=>
  rintro D ys XX hD rfl hR J;have c5:=hR.b5.cell;have HR:=Db hR;clear hR ad;show K0 _ _;refine bg _ _ ?_
  gi_wp2
  have hR:=Da HR;have ad:=Da az;refine⟨by simp,.inl ⟨_,_,rfl,BP J,?_⟩⟩;have hg:XX.grownBy (XX.putObj D (.deferred none)) (some D):=⟨rfl,rfl,rfl,by simp[World.putObj],λk _ hk=>by
   simp only[World.putObj];rw[A7,if_neg (λe=>hk (by rw[e]))]⟩
  have bh:=hR.own hg (λr e=>by cases e;exact⟨by omega,_,J,rfl⟩);exact⟨_,Eu rfl _ _ _,bh.post rfl⟩
 case stop=>
  rintro D c aT X _ _ h _;exact h.elim
end
open Tryz
open Go.RowKit Go.Shelf
def TT(t:TypeId):Bool:=t==37 || t==9 || t==247 || t==144 || t==4 || t==307 || t==260 || t==141 || t==245
def KY(o:Obj):Prop:=o.isCells=false\/∃cs t fr,o=.cells cs t fr/\TT t=true
def GB(B:Nat)(A A':World):Prop:=∃row,A.grownBy A' row/\∀r,row=some r->B<=r/\∃o,A.heap[r]?=some o/\KY o
theorem GB.mono{B b:Nat}{A a:World}(h:GB B A a)(d:b<=B):GB b A a:=by
 obtain⟨row,f,c⟩:=h;exact⟨row,f,λr e=>⟨Af d (c r e).1,(c r e).2⟩⟩
theorem GB.put{B:Nat}{A:World}{r:Nat}{o:Obj}(a:Obj)(b:B<=r)(h:A.heap[r]?=some o)(c:KY o):GB B A (A.putObj r a):=
 ⟨some r,FD A r a,λk e=>by cases e;exact⟨b,o,h,c⟩⟩
theorem GB.below{B:Nat}{A a:World}(h:Bw A a):GB B A a:=
 ⟨none,⟨h.os,h.tape,h.output,h.size,λk b _=>h.block k b⟩,λr e=>by cases e⟩
theorem GB.alloc{B:Nat}(A:World)(o:Obj):GB B A (A.alloc o):=⟨none,Om A o,λr e=>by cases e⟩
theorem GB.same{B:Nat}{A b:World}(h:GB B A b){k:Nat}{o:Obj}(a:A.heap[k]?=some o)(i:k<B\/¬KY o):b.heap[k]?=some o:=by
 obtain⟨row,f,j⟩:=h;refine(f.block k (Aj.1 a).1 ?_).trans a;intro e;obtain⟨hB,o',d,g⟩:=j k e.symm;rw[a]at d;cases d;rcases i with c|c
 ·omega
 ·exact c g
theorem NU{a:Array Value}{t:TypeId}{b:Nat×Nat}(h:KY (.cells a t b)):TT t=true:=by
 rcases h with h|⟨aa,t',ab,e,h⟩
 ·simp[Obj.isCells]at h
 ·cases e;exact h
theorem GB.row{B:Nat}{A b:World}(h:GB B A b){k:Nat}{t:TypeId}{L:F0}(c:FX A k t L)(e:k<B\/TT t=false):FX b k t L:=by
 refine h.same c ?_;rcases e with a|a
 ·exact .inl a
 ·exact .inr (λd=>by have:=NU d;rw[a]at this;cases this)
theorem Rk(r:Loop):KY (.loop r):=.inl rfl
def ME(gf:Nat)(lb:Array Value)(encs:Nat->Array Value)(N:Nat)(Kp:Nat->World->World->Prop)(w0:World):Prop:=
 ∀(l:Nat) (J:Nat->World->Prop) (W:World),Bw w0 W->(∀k A A',J k A->GB W.heap.size A A'->J k A')->
  (∀k W1,k<N->J k W1->YieldAt Fence.wide 1 prog l (encs k) W1 λe W'=>e=.returned (.bool true)/\J (k+1) W'/\Kp W.heap.size W1 W')->
  J 0 W->Calls prog gf (#[.func (.yield l) #[] #[]]++lb) W λe W'=>(∃v,e=.returned v)/\J N W'
def TY(B:Nat)(Kp:World->World->Prop)(I:World->Prop)(W:World):Exit->Act->World->Prop
 |.normal,_,W'=>KeepsFrom B W W'/\Kp W W'/\I W'
 |_,_,_=>False
theorem RQ{n:Nat}{g:Operand}{ps:Array Tmp}{assign body:Code}{Q:Exit->Act->World->Prop}{a:Act}{w:World}{gf:Nat}{lb:Array Value}(hg:a.eval g=.func (.func gf) #[] lb)(X:∀args w,(callFunc gf args).run prog w=.ok (.enter gf args) w){D:Nat->Array Value}{i:Nat->World->World->Prop}{N:Nat}{y:World}(av:ME gf lb D N i y)(R:Bw y w)(G:∀{A B C:World},i (w.heap.size+2) A B->i (w.heap.size+2) B C->i (w.heap.size+2) A C)(O:∀(W:World) (o o':Obj),W.heap[w.heap.size+1]?=some o->o.isCells=false->i (w.heap.size+2) W (W.putObj (w.heap.size+1) o'))(au:∀k,k<N->(D k).size=ps.size)(I:Nat->World->Prop)(q:∀k A A',I k A->GB w.heap.size A A'->I k A')(Y:I 0 w)(z:Nat->Act->World->Prop)(Z:∀k d A A',z k d A->A.heap.size<=A'.heap.size->GB w.heap.size A A'->(∀j,w.heap.size+2<=j->A'.heap[j]?=A.heap[j]?)->z k d A')(ad:∀(k:Nat) (W:World) (K:Act->World->Prop),k<N->I k W->w.heap.size+2<=W.heap.size->(∀d W',KeepsFrom w.heap.size W W'->i (w.heap.size+2) W W'->I k W'->z k d W'->K d W')->
   assign.wpIn (Fence.wide.inRound (w.heap.size+1)) 1 prog (Exit.then K (λ_ _ _=>False)) { tmps:=(ps.zip (D k)).foldl (λt (p,v)=>t.setIfInBounds p v) a.tmps,defers:=[] } W)(ag:∀(k:Nat) (d:Act) (W:World),k<N->w.heap.size+2<=W.heap.size->I k W->z k d W->body.wpIn (Fence.wide.inRound (w.heap.size+1)) 1 prog (TY w.heap.size (i (w.heap.size+2)) (I (k+1)) W) d W)(ah:∀(W:World),w.heap.size+2<=W.heap.size->I N W->W.heap[w.heap.size]?=some (.deferred (some []))->Q .normal { a with defers:={ target:=.collected w.heap.size,args:=#[] }::a.defers } W):
  (Code.rangeFunc g ps assign body).wpIn Fence.wide n prog Q a w:=by
 refine wpIn_rangeFunc ?_;intro fn ai;rw[show Fence.wide.round=none from rfl];obtain⟨f,m⟩:∃f:LoopState->Option Code->Loop,f=λst pe=>{ state:=st,pending:=pe,fn,tmps:=a.tmps,params:=ps,assign,body,defers:=w.heap.size }:=⟨_,rfl⟩
 obtain⟨c,r⟩:∃c,(w.alloc (.deferred (some []))).alloc (.loop (f .ready none))=c:=⟨_,rfl⟩;have V:c.heap.size=w.heap.size+2:=by rw[<-r];simp
 have ac:c.heap[w.heap.size+1]?=some (.loop (f .ready none)):=by
  rw[<-r];have:=B9 (w.alloc (.deferred (some []))) (.loop (f .ready none));rwa [World.size_alloc]at this
 have ab:c.heap[w.heap.size]?=some (.deferred (some [])):=by
  rw[<-r];exact(BH _ _ _ (by simp)).trans (B9 w _)
 have aa:I 0 c:=by rw[<-r];exact q _ _ _ (q _ _ _ Y (GB.alloc _ _)) (GB.alloc _ _)
 have af:Bw y c:=by
  rw[<-r];exact R.trans ((((Ak _ w).alloc (Aa _) _).alloc (by simp) _).mono R.size)
 refine⟨w.heap.size+1,[{ target:=.collected w.heap.size,args:=#[] }],c,{ target:=.fn (.func gf) lb,args:=#[.func (.yield (w.heap.size+1)) #[] #[]] },c,gf,
  #[.func (.yield (w.heap.size+1)) #[] #[]]++lb,c,?_,?_,?_,?_,λh=>(by cases h),?_⟩
 ·rw[<-r,m];exact run_enterLoop_outer _ _ _ _ _
 ·simp only[resolve,hg];simp[go_sem]
 ·intro f' ax;trivial
 ·simp[invoke,go_sem,X]
 ·refine A2.2 ((av (w.heap.size+1)
   (λk W=>I k W/\W.heap[w.heap.size+1]?=some (.loop (f .ready none))/\W.heap[w.heap.size]?=some (.deferred (some [])))
   c af
   (λs A B L E=>by
    rw[V]at E;exact⟨q s A B L.1 (E.mono (by omega)),E.same L.2.1 (.inl (by omega)),E.same L.2.2 (.inl (by omega))⟩)
   ?_ ⟨aa,ac,ab⟩).mono ?_)
  ·rintro k W J⟨H,b,x⟩;rw[V];have ap:w.heap.size+1<W.heap.size:=(Aj.1 b).1;have M:=run_yield (P:=prog) (args:=D k) b (by rw[m];exact au k J);rw[m]at M;refine⟨fn,_,assign,body,M,roundIn_of_wpIn ai (ad k W _ J H (by omega) ?_)⟩;clear M;intro d l U an ak ae;replace b:=U.same _ _ (by omega) b rfl;replace x:=U.same _ _ (Aa _) x rfl;have ar:w.heap.size+1<l.heap.size:=(Aj.1 b).1;refine⟨_,run_beginRound b (by rw[m]),?_⟩;have ao:(l.putObj (w.heap.size+1) (.loop { f .ready none with state:=.busy })).heap[w.heap.size+1]?=some (.loop { f .ready none with state:=.busy }):=World.putObj_heap_same ar;have al:(l.putObj (w.heap.size+1) (.loop { f .ready none with state:=.busy })).heap[w.heap.size]?=some (.deferred (some [])):=(Bs (by omega)).trans x;have aw:i (w.heap.size+2) l (l.putObj (w.heap.size+1) (.loop { f .ready none with state:=.busy })):=O _ _ _ b rfl;have S:GB w.heap.size l (l.putObj (w.heap.size+1) (.loop { f .ready none with state:=.busy })):=GB.put _ (by omega) b (Rk _);refine wpIn_mono (ag k d _ J (by simp;omega) (q _ _ _ ak S) (Z k d _ _ ae (by simp) S (λj hj=>Bs (by omega)))) ?_;rintro e a3 W3 u
   cases e with
   |normal=>
    obtain⟨T,am,aj⟩:=u;have F:=T.same _ _ (by omega) ao rfl;have aq:=(Aj.1 F).1;have hr:=run_endRound (P:=prog) none F;refine⟨_,_,hr,rfl,⟨q _ _ _ aj (GB.put _ (by omega) F (Rk _)),?_,(Bs (by omega)).trans (T.same _ _ (Aa _) al rfl)⟩,G an (G (G aw am) (O _ _ _ F rfl))⟩;rw[World.putObj_heap_same aq,m]
    rfl
   |ret=>exact u.elim
   |exit id=>exact u.elim
   |goto t=>exact u.elim
   |panic ch=>exact u.elim
   |outgrown=>exact u.elim
  ·rintro e W2⟨⟨v,rfl⟩,H,b,x⟩;have ap:=(Aj.1 b).1;exact⟨none,_,by have:=run_endLoop (P:=prog) b (by rw[m];simp);rw[m]at this;exact this,ah _ (by simp;omega) (q _ _ _ H (GB.put _ (by omega) b (Rk _))) ((Bs (by omega)).trans x)⟩
section
attribute [local go_sem] Oper.semAt_some
def Ls(es:LS)(k:Nat):Array Value:=
 match es[k]? with
 |some x => #[.string x.1,.agg #[.pointer x.2.p,.int .i64 x.2.f]]
 |none => #[]
theorem PJ{es:LS}{k:Nat}{x:By×VS}(h:es[k]?=some x):Ls es k = #[.string x.1,.agg #[.pointer x.2.p,.int .i64 x.2.f]]:=by
 unfold Ls;rw[h]
theorem Zmz(es:LS)(k:Nat)(h:k<es.length):(Ls es k).size=2:=by
 rw[PJ (Ac h)];rfl
theorem Ny(l h t ho g C:Nat)(es:LS)(ab:es.length<=10000)(m:World->World->Prop)(J:Nat->World->Prop)(W:World)(G:∀A B,m A B->B.heap[g]?=A.heap[g]?)(E:∀k A A',J k A->GB W.heap.size A A'->J k A')(s:∀k W1,k<es.length->J k W1->YieldAt Fence.wide 1 prog l (Ls es k) W1 λe c=>e=.returned (.bool true)/\J (k+1) c/\m W1 c)(aa:W.cell? ⟨h,0,none⟩=some (.pointer (some ⟨t,ho,none⟩)))(hc:W.cell? ⟨t,ho,none⟩=some (.slice (some ⟨g,0,none⟩) es.length C))(I:g<W.heap.size)(d:∀j u,(Dm es)[j]?=some u->W.cell? ⟨g,j,none⟩=some u)(D:J 0 W):
  Cl 222 #[.func (.yield l) #[] #[],.pointer (some ⟨h,0,none⟩)] W λe c=>(∃v,e=.returned v)/\J es.length c:=by
 refine(A2 (n:=2)).1 ?_;refine CH func222 rfl trivial ?_ rfl;simp only[ntmps222,AM,Al,AK,Nat.reduceAdd,Nat.reduceSub,AQ,AP,AZ,AT,AD,AN]
 gi_wp2
 gi_loopw [10] (λi wr=>∃k:Nat,k<=es.length/\i=.int .i64 k/\J k wr/\Hid (wr.heap[g]?=W.heap[g]?))
  (λi _=>es.length-(intOf i).toNat)
 case atStart=>exact⟨0,Au _,rfl,D,rfl⟩
 case round=>
  obtain⟨k,hk,rfl,r,b⟩:=hrel;by_cases w:k<es.length
  ·obtain⟨x,f⟩:∃x,es[k]?=some x:=⟨_,Ac w⟩;have q:=QN es k x f;have q0:=(Ay (a:=⟨g,k*3,none⟩) (Da b)).trans (d _ _ q.1);have q1:=(Ay (a:=⟨g,k*3+1,none⟩) (Da b)).trans (d _ _ q.2.1);have q2:=(Ay (a:=⟨g,k*3+2,none⟩) (Da b)).trans (d _ _ q.2.2);have K:g<wr.heap.size:=by
    have p:=Da b;rw[EU I]at p;exact(Aj.1 p).1
   have z:Hid (∀o,(wr.alloc o).heap[g]?=W.heap[g]?):=λo=>(BH wr o g K).trans (Da b)
   have y:=s k (wr.alloc (.cells #[.string x.1,.pointer x.2.p,.int .i64 x.2.f] 310)) w (E _ _ _ r (GB.alloc _ _));rw[PJ f]at y;obtain⟨fn,tmps,assign,body,hy,H⟩:=y;have HX:=Db f;clear q f d s
   gi_wp2
   refine H.mono ?_;rintro e W3⟨rfl,F,L⟩
   gi_wp2
   go_roundw
   case rel=>exact⟨k+1,by omega,by go_num,F,(G _ _ L).trans (Da z _)⟩
   case measure=>simp[intOf];omega
  ·obtain rfl:k=es.length:=by omega
   gi_wp2
   go_end0
   exact⟨⟨_,rfl⟩,r⟩
theorem Zk(a b ho:Nat)(v:Value)(es:LS)(G:es.length<=10000)(w:World)(s:a<w.heap.size)(D:b<w.heap.size)(f:Nat->World->World->Prop)(x:∀g,v.ownBlock=some g->∀n A B,f n A B->B.heap[g]?=A.heap[g]?)(r:w.cell? ⟨a,0,none⟩=some (.pointer (some ⟨b,ho,none⟩)))(E:w.cell? ⟨b,ho,none⟩=some v)(y:Sl w 310 3 v es.length (Dm es)):
  ME 222 #[.pointer (some ⟨a,0,none⟩)] (Ls es) es.length f w:=λl J W c t C k=>by
 have m:=(c.cell (p:=⟨a,0,none⟩) s).trans r;have o:=(c.cell (p:=⟨b,ho,none⟩) D).trans E;rcases y.2 with⟨rfl,F⟩|⟨g,q,R,rfl,i,_,_,_,z⟩
 ·obtain rfl:es=[]:=AA F;exact((A2 (n:=2)).1 (T5 (α:=Nat) Fence.wide 2 trivial rfl l a b ho (λ_=>J 0) W m o k)).mono λe W' h=>h
 ·exact Ny l a b ho g q es G (f W.heap.size) J W (x g rfl _) t C m o (AY i.lt c.size) (λj u d=>by
   rw[c.cell (p:=⟨g,j,none⟩) i.lt,i.cell];rw[<-z,Ao]at d
   split at d
   ·exact d
   ·cases d) k
end
structure It where
 ns:LY
 k:Nat
 f:Nat
abbrev F3:=Nat->Bool
def F3.add(S:F3)(n:Nat):F3:=λk=>if k=n then true else S k
abbrev Ek:=By×Option Nat
def GX(rec:LY->F3->List It×F3)(ns:LY)(S:F3)(x:Ek):List It×F3:=
 match x.2 with
 |none=>(⟨ns++[x.1],1,0⟩::(rec (ns++[x.1]) S).1,(rec (ns++[x.1]) S).2)
 |some f=>if S f then([⟨ns++[x.1],3,f⟩],S) else([⟨ns++[x.1],2,f⟩],S.add f)
def Gx(rec:LY->F3->List It×F3)(ns:LY):List Ek->F3->List It×F3
 |[],S=>([],S)
 |x::l,S=>((GX rec ns S x).1++(Gx rec ns l (GX rec ns S x).2).1,(Gx rec ns l (GX rec ns S x).2).2)
def DV(ch:LY->List Ek):Nat->LY->F3->List It×F3
 |0,_,S=>([],S)
 |d+1,ns,S=>Gx (DV ch d) ns (ch ns) S
theorem RG(c:LY->F3->List It×F3)(ns:LY):∀(a b:List Ek) (S:F3),Gx c ns (a++b) S=((Gx c ns a S).1++(Gx c ns b (Gx c ns a S).2).1,(Gx c ns b (Gx c ns a S).2).2)
 |[],b,S=>by simp[Gx]
 |x::a,b,S=>by simp only[AN,Gx,RG c ns a b,Ax]
theorem ZnN(b:LY->F3->List It×F3)(ns:LY)(a:List Ek)(x:Ek)(S:F3):Gx b ns (a++[x]) S=((Gx b ns a S).1++(GX b ns (Gx b ns a S).2 x).1,(GX b ns (Gx b ns a S).2 x).2):=by
 rw[RG];simp[Gx]
theorem TJ(a:LY->F3->List It×F3)(ns:LY)(l:List Ek)(k:Nat)(x:Ek)(h:l[k]?=some x)(S:F3):
  Gx a ns (l.take (k+1)) S=((Gx a ns (l.take k) S).1++(GX a ns (Gx a ns (l.take k) S).2 x).1,(GX a ns (Gx a ns (l.take k) S).2 x).2):=by
 rw[BK,h,Fd,ZnN]
theorem itL_at(a:LY->F3->List It×F3)(ns:LY)(l:List Ek)(k:Nat)(x:Ek)(h:l[k]?=some x)(S:F3)(j:Nat)(y:It)(b:(GX a ns (Gx a ns (l.take k) S).2 x).1[j]?=some y):(Gx a ns l S).1[(Gx a ns (l.take k) S).1.length+j]?=some y:=by
 obtain⟨ab,hx⟩:=Ae.1 h;have e:l=l.take (k+1)++l.drop (k+1):=(Co _ _).symm;rw[e,RG];show((Gx a ns ((l.take (k+1)++l.drop (k+1)).take k) S).1.length+j |> λi=>((Gx a ns (l.take (k+1)) S).1++_)[i]?)=some y;rw[<-e];show((Gx a ns (l.take (k+1)) S).1++_)[(Gx a ns (l.take k) S).1.length+j]?=some y;rw[TJ a ns l k x h S];obtain⟨aa,_⟩:=Ae.1 b;rw[AW (by simp only[Ab];omega),AS (by omega)];rw[show(Gx a ns (l.take k) S).1.length+j-(Gx a ns (l.take k) S).1.length=j by omega];exact b
def Jb(x:By×VS):Ek:=(x.1,if x.2.p.isSome then none else some x.2.f.toNat)
def J5(dv:NV)(x:It):Value:=.agg #[.string (jn x.ns),.int .u8 x.k,.int .i64 x.f,if x.k=2 then dv x.f else .slice none 0 0]
def I9(dv:NV)(L:List It)(k:Nat):Array Value:=
 match L[k]? with
 |some x => #[J5 dv x]
 |none => #[]
theorem Vc{a:NV}{L:List It}{k:Nat}{x:It}(h:L[k]?=some x):I9 a L k = #[J5 a x]:=by unfold I9;rw[h]
theorem Vp(a:NV)(L:List It)(k:Nat)(h:k<L.length):(I9 a L k).size=1:=by
 rw[Vc (Ac h)];rfl
def Id(n0 n1:Nat)(A B:World):Prop:=Below n0 A B/\∀k o,n1<=k->A.heap[k]?=some o->KY o->B.heap[k]?=some o
theorem Id.trans{a n1:Nat}{A B C:World}(h:Id a n1 A B)(k:Id a n1 B C):Id a n1 A C:=⟨h.1.trans k.1,λi o b ho c=>k.2 i o b (h.2 i o b ho c) c⟩
theorem Id.row{c n1:Nat}{A B:World}(h:Id c n1 A B){k:Nat}{t:TypeId}{L:F0}(b:FX A k t L)(e:k<c\/n1<=k/\TT t=true):FX B k t L:=by
 rcases e with a|⟨a,d⟩
 ·exact(h.1.block k a).trans b
 ·exact h.2 k _ a b (.inr ⟨_,_,_,rfl,d⟩)
def GT(n0 n1 qb:Nat)(A B:World):Prop:=Below n0 A B/\∀k o,n1<=k->A.heap[k]?=some o->KY o->k≠qb->B.heap[k]?=some o
theorem GT.trans{a n1 b:Nat}{A B C:World}(h:GT a n1 b A B)(k:GT a n1 b B C):GT a n1 b A C:=⟨h.1.trans k.1,λi o c ho d e=>k.2 i o c (h.2 i o c ho d e) d e⟩
theorem Id.wk{a n1:Nat}{A B:World}(h:Id a n1 A B)(d:Nat):GT a n1 d A B:=⟨h.1,λk o b ho c _=>h.2 k o b ho c⟩
theorem GT.below{a n1 c:Nat}{A B:World}(h:Bw A B)(b:a<=A.heap.size):GT a n1 c A B:=
 ⟨h.mono b,λk _o _ ho _ _=>(h.block k (Aj.1 ho).1).trans ho⟩
theorem GT.fr{a n1 b:Nat}{A B:World}(h:Fr (λk=>k=b) A B)(hn:a<=b)(hA:a<=A.heap.size):GT a n1 b A B:=
 ⟨⟨h.os,h.tape,h.output,h.size,λk hk=>h.block k (by omega) (by omega)⟩,λk o _ ho _ c=>(h.block k (Aj.1 ho).1 c).trans ho⟩
theorem GT.row{c n1 d:Nat}{A B:World}(h:GT c n1 d A B){k:Nat}{t:TypeId}{L:F0}(b:FX A k t L)(g:k<c\/n1<=k/\k≠d/\TT t=true):FX B k t L:=by
 rcases g with a|⟨a,f,e⟩
 ·exact(h.1.block k a).trans b
 ·exact h.2 k _ a b (.inr ⟨_,_,_,rfl,e⟩) f
theorem GT.chg{a n1 g B:Nat}{A b X:World}(h:GT a n1 g X A)(i:GB B A b)(hB:X.heap.size<=B)(m:a<=X.heap.size):GT a n1 g X b:=by
 obtain⟨row,d,f⟩:=i;refine⟨h.1.grown d (Af m h.1.size) (λk e=>by have:=(f k e).1;omega),λk o j ho l n=>?_⟩;have aa:=(Aj.1 ho).1;have c:=h.2 k o j ho l n;refine(d.block k (Aj.1 c).1 ?_).trans c;intro e;have:=(f k e.symm).1;omega
open Go.RowKit
def Lk(s:By)(k:Nat)(f:Int)(vd:Value):Value:=.agg #[.string s,.int .u8 k,.int .i64 f,vd]
def J7(S:Nat->Bool):F0:=(List.range 60).map (λj => .bool (S j))
theorem R3(S:Nat->Bool):(J7 S).length=60:=by simp[J7]
theorem Ue(S:Nat->Bool)(j:Nat)(h:j<60):(J7 S)[j]?=some (.bool (S j)):=by simp[J7,h]
theorem Zlp(S:Nat->Bool)(j:Nat)(h:j<60):(J7 S).set j (.bool true)=J7 (λk=>if k=j then true else S k):=by
 apply Ep;intro k;by_cases a:k<60
 ·rw[Ue _ k a];by_cases e:j=k
  ·subst e;rw[BC (by rw[R3];exact h)];simp
  ·rw[AB e,Ue _ k a,if_neg (λb=>e b.symm)]
 ·rw[BA (by rw[Ce,R3];omega),BA (by rw[R3];omega)]
theorem ZnM(w:World)(t q:OA)(s:By)(a:Addr)(n:Int):
  Cl 218 #[.pointer t,.string s,.agg #[.pointer (some a),.int .i64 n],.pointer q] w λe w'=>e=.returned (Lk s 1 0 (.slice none 0 0))/\Bw w w':=by
 obtain⟨d,i,m,x,l,f⟩:=De w [.pointer (some a),.int .i64 n] 260;obtain⟨h,j,b,k,C,g⟩:=De d [.string ⟨#[]⟩,.int .u8 0,.int .i64 0,.slice none 0 0] 141;have r:Bw w h:=f.trans (g.mono (by omega));have c0:=(k _ _ _ m).cell 0;rw[l]at b;have u:w.heap.size<=w.heap.size+1:=by omega
 have o:=Db i;have p:=Db j;clear i j m x l f k C g;go_enter func218,ntmps218;go_upto_region 1 with fail;rw[show w.alloc (.cells #[.pointer (some a),.int .i64 n] 260)=d from Da o,show d.alloc (.cells #[.string ⟨#[]⟩,.int .u8 0,.int .i64 0,.slice none 0 0] 141)=h from Da p];have b0:=b.cell 0;have f:=b.cell 1;have g:=b.cell 2;have b3:=b.cell 3;have g0:=b.frozen 0;have g1:=b.frozen 1;have g2:=b.frozen 2;have g3:=b.frozen 3;go_wp2;have c:=JL b (.string s) (.int .u8 1) (.int .i64 0) (.slice none 0 0);have y:=c.cell 0;have z:=c.cell 1;have A:=c.cell 2;have B:=c.cell 3;exact Ap (v:=Lk s 1 0 (.slice none 0 0)) (by simp[results,results218,go_sem,y,z,A,B,Lk]) rfl ⟨rfl,Qu r u _ _ _ _⟩
theorem Zl1(w:World)(t:OA)(s:By)(n:Nat)(B:n<60)(j:Nat)(S:Nat->Bool)(o:FX w j 245 (J7 S))(y:S n=true):
  Cl 218 #[.pointer t,.string s,.agg #[.pointer none,.int .i64 (n:Nat)],.pointer (some ⟨j,0,none⟩)] w λe w'=>e=.returned (Lk s 3 (n:Nat) (.slice none 0 0))/\Bw w w':=by
 obtain⟨g,l,k,p,q,h⟩:=De w [.pointer none,.int .i64 (n:Nat)] 260;obtain⟨b,m,r,f,G,i⟩:=De g [.string ⟨#[]⟩,.int .u8 0,.int .i64 0,.slice none 0 0] 141;have c:Bw w b:=h.trans (i.mono (by omega));have c0:=(f _ _ _ k).cell 0;have c1:=(f _ _ _ k).cell 1;have ab:b.cell? ⟨j,n,none⟩=some (.bool true):=((f _ _ _ (p _ _ _ o)).cell n).trans (by rw[Ue _ _ B,y]);rw[q]at r;have A:w.heap.size<=w.heap.size+1:=by omega
 have aa:(n:Int)<60:=by omega
 have u:=Db l;have x:=Db m;clear l m k p q h f G i o;go_enter func218,ntmps218;go_upto_region 1 with fail;rw[show w.alloc (.cells #[.pointer none,.int .i64 (n:Nat)] 260)=g from Da u,show g.alloc (.cells #[.string ⟨#[]⟩,.int .u8 0,.int .i64 0,.slice none 0 0] 141)=b from Da x];go_upto_region 3 with fail
 go_quiet (fail)
 have a:FX (b.drewN nq) (w.heap.size+1) 141 _:=r;have b0:=a.cell 0;have h:=a.cell 1;have i:=a.cell 2;have b3:=a.cell 3;have g0:=a.frozen 0;have g1:=a.frozen 1;have g2:=a.frozen 2;have g3:=a.frozen 3;go_wp2;have d:=JL a (.string s) (.int .u8 3) (.int .i64 (n:Nat)) (.slice none 0 0);have C:=d.cell 0;have D:=d.cell 1;have E:=d.cell 2;have F:=d.cell 3;have z:Bw w (b.drewN nq):=⟨c.os,c.tape,c.output,c.size,c.block⟩;exact Ap (v:=Lk s 3 (n:Nat) (.slice none 0 0)) (by simp[results,results218,go_sem,C,D,E,F,Lk]) rfl ⟨rfl,Qu z A _ _ _ _⟩
def Zf(w:World)(s:By)(n:Nat)(qb:Nat)(S:Nat->Bool)(vd:Value)(e:Ending)(w':World):Prop:=
 e=.returned (Lk s 2 (n:Nat) vd)/\FX w' qb 245 (J7 (λk=>if k=n then true else S k))/\Fr (λk=>k=qb) w w'
theorem Zl2(w:World)(tb Z:Nat)(V:NV)(E:NS)(vi:Value)(G:Gh)(I:LF)(C:IB)(_h:TW w tb Z V E vi G I C)(ax:I.length<=10000)(s:By)(n:Nat)(Q:n<60)(r:VF)(ak:((n:Int),r)∈I)(c:Nat)(S:Nat->Bool)(R:FX w c 245 (J7 S))(hS:S n=false)(_hqt:c≠tb)(ag:∀w',Fr (λk=>k=c) w w'->TW w' tb Z V E vi G I C):
  Cl 218 #[.pointer (some ⟨tb,0,none⟩),.string s,.agg #[.pointer none,.int .i64 (n:Nat)],.pointer (some ⟨c,0,none⟩)] w (Zf w s n c S (.slice r.a r.l r.c)):=by
 obtain⟨M,e1,x1,k1,s1,N⟩:=De w [.pointer none,.int .i64 (n:Nat)] 260;obtain⟨f,e2,x2,U,s2,O⟩:=De M [.string ⟨#[]⟩,.int .u8 0,.int .i64 0,.slice none 0 0] 141;have B:Bw w f:=N.trans (O.mono (by omega));have aJ:=R.lt;have t:=U _ _ _ x1;have J:=U _ _ _ (k1 _ _ _ R);have c0:=t.cell 0;have c1:=t.cell 1;have aF:f.cell? ⟨c,n,none⟩=some (.bool false):=(J.cell n).trans (by rw[Ue _ _ Q,hS]);have aE:f.frozen? ⟨c,n,none⟩=false:=J.frozen n;rw[s1]at x2;have aH:w.heap.size<=w.heap.size+1:=by omega
 have aI:(n:Int)<60:=by omega
 have aa:Hid (∀d:World,d.heap=f.heap->d.os=f.os->d.tape=f.tape->d.output=f.output->d.cell? ⟨w.heap.size,1,none⟩=some (.int .i64 (n:Nat))/\d.cell? ⟨c,n,none⟩=some (.bool false)/\d.frozen? ⟨c,n,none⟩=false/\∃a,d.setCell ⟨c,n,none⟩ (.bool true)=a/\FX a w.heap.size 260 [.pointer none,.int .i64 (n:Nat)]/\FX a (w.heap.size+1) 141 [.string ⟨#[]⟩,.int .u8 0,.int .i64 0,.slice none 0 0]/\Hid (∀W,Bw a W->Cl 175 #[.pointer (some ⟨tb,1,none⟩),.int .i64 (n:Nat)] W λe w'=>e=.returned (.tuple #[.agg #[.slice r.a r.l r.c,.int .i64 r.f],.bool true])/\Bw W w')/\Hid (Fr (λk=>k=c) w a)/\Hid (FX a c 245 (J7 (λk=>if k=n then true else S k)))):=λd x ho ht hu=>by
  have T:FX d c 245 (J7 S):=by unfold FX;rw[x];exact J
  have am:FX d w.heap.size 260 [.pointer none,.int .i64 (n:Nat)]:=by unfold FX;rw[x];exact t
  have IA:FX d (w.heap.size+1) 141 [.string ⟨#[]⟩,.int .u8 0,.int .i64 0,.slice none 0 0]:=by unfold FX;rw[x];exact x2
  have j:Fr (λk=>k=c) w (d.setCell ⟨c,n,none⟩ (.bool true)):=
   Fr.set (X:=λk=>k=c) (w':=d) ⟨ho.trans B.os,ht.trans B.tape,hu.trans B.output,by rw[x];exact B.size,λk D _=>by rw[x];exact B.block k D⟩ ⟨c,n,none⟩ _ rfl
  refine⟨(am.cell 1).trans rfl,(T.cell n).trans (by rw[Ue _ _ Q,hS]),T.frozen n,_,rfl,(Aw _ _ _ _ (show w.heap.size≠c by omega)).trans am,(Aw _ _ _ _ (show w.heap.size+1≠c by omega)).trans IA,?_,j,?_⟩
  ·exact λW A=>Qd W tb Z V E vi G I C (ag W ⟨A.os.trans j.os,A.tape.trans j.tape,A.output.trans j.output,Af j.size A.size,λk D aA=>(A.block k (AY D j.size)).trans (j.block k D aA)⟩) ax n r ak
  ·show FX _ _ _ _;rw[<-Zlp S n Q];exact FX.set T n (.bool true)
 have ao:=Db e1;have ap:=Db e2;clear e1 e2 x1 k1 s1 N U s2 O ag ak R J x2 t;go_enter func218,ntmps218;go_upto_region 1 with fail;rw[show w.alloc (.cells #[.pointer none,.int .i64 (n:Nat)] 260)=M from Da ao,show M.alloc (.cells #[.string ⟨#[]⟩,.int .u8 0,.int .i64 0,.slice none 0 0] 141)=f from Da ap];go_upto_region 3 with fail
 go_quiet (fail)
 obtain⟨Wq,o⟩:∃X,X=f.drewN nq:=⟨_,rfl⟩;rw[<-o];obtain⟨P,dn,df,a,ah,u,z2,ab,aq,ac⟩:=Da aa Wq.drew (by rw[o];rfl) (by rw[o];rfl) (by rw[o];rfl) (by rw[o];rfl);clear o;have ad:=Db ah;have an:=u;clear ah aa aF aE c0 c1;go_upto_region 5 with fail;refine AE (S:=λX=>X.cell? ⟨w.heap.size,1,none⟩=some (.int .i64 (n:Nat))) (by kernel_rfl) P (λaw=>?_);refine tk 0 ?_;refine tk 1 ?_;refine tk 2 ?_;refine tk 3 ?_;refine tk 4 ?_;refine rk 5 (λK hK=>?_);go_simp;rw[show(Wq.setCell ⟨c,n,none⟩ (.bool true)).drew=a from Da ad];refine hK.out _ _ ((u.cell 1).trans rfl) (λav=>?_);clear hK K
 try simp only[pE]
 refine AO (by kernel_rfl) ?_ _;have a0:=u.cell 0;have a1:=u.cell 1;have az:w.heap.size+1<a.heap.size:=z2.lt;have aB:¬a.heap.size=w.heap.size:=by omega
 have aC:¬w.heap.size=a.heap.size:=by omega
 clear u P dn df aw av ad;go_upto_region 6 with fail
 go_region_held3 (λW=>W.cell? ⟨w.heap.size,1,none⟩=some (.int .i64 (n:Nat))) (go_keep)
  (first|(go_at_call 175;refine(Da ab _ (by first|exact(Ak _ a).drew|exact((Ak _ a).drew).alloc (Aa _) _|exact((Ak _ a).alloc (Aa _) _).drew)).mono ?_;rintro e w'⟨rfl,H⟩;have q:Bw a w':=(by first|exact((Ak _ a).drew).trans (H.mono (by simp))|exact(((Ak _ a).alloc (Aa _) _).drew).trans (H.mono (by simp)));have m0:=(q.cell (p:=⟨w.heap.size,1,none⟩) (by show w.heap.size<a.heap.size;omega)).trans a1;(try(have z:FX w' a.heap.size 217 [.slice none 0 0,.int .i64 0]:=(H.block a.heap.size (by simp)).trans (Je a [.slice none 0 0,.int .i64 0] 217);have z0:=z.cell 0;have u:=z.cell 1;have aK:=z.frozen 0;have aL:=z.frozen 1))))
 case' refine_2.refine_3.refine_3.refine_3.refine_3.refine_3.refine_1.refine_2.refine_3.refine_3.refine_3.refine_1.refine_2.refine_1.refine_2.refine_3=>
  obtain⟨g,y,l,ay,aG,ai⟩:=De w' [.slice r.a r.l r.c,.int .i64 r.f] 217;rw[y];have i:Bw a g:=q.trans (ai.mono q.size);have ae:a.heap.size<=w'.heap.size:=q.size;obtain⟨L,m⟩:∃b,b=w'.heap.size:=⟨_,rfl⟩;rw[<-m]at l ae ⊢;clear y ay aG ai m
 case' refine_2.refine_3.refine_3.refine_3.refine_3.refine_3.refine_2.refine_1.refine_2.refine_1.refine_2.refine_3.refine_3.refine_3.refine_1.refine_2.refine_3=>
  have l:FX ((w'.setCell ⟨a.heap.size,0,none⟩ (.slice r.a r.l r.c)).setCell ⟨a.heap.size,1,none⟩ (.int .i64 r.f)) a.heap.size 217 [.slice r.a r.l r.c,.int .i64 r.f]:=by
   have:=(z.set 0 (.slice r.a r.l r.c)).set 1 (.int .i64 r.f)
   simpa using this
  have i:Bw a ((w'.setCell ⟨a.heap.size,0,none⟩ (.slice r.a r.l r.c)).setCell ⟨a.heap.size,1,none⟩ (.int .i64 r.f)):=(q.setCell (p:=⟨a.heap.size,0,none⟩) (Aa _) _).setCell (p:=⟨a.heap.size,1,none⟩) (Aa _) _;obtain⟨g,y⟩:∃g,(w'.setCell ⟨a.heap.size,0,none⟩ (.slice r.a r.l r.c)).setCell ⟨a.heap.size,1,none⟩ (.int .i64 r.f)=g:=⟨_,rfl⟩;rw[y]at l i ⊢;obtain⟨L,m⟩:∃b,b=a.heap.size:=⟨_,rfl⟩;have ae:a.heap.size<=L:=by omega
  rw[<-m]at l;rw[show(Value.pointer (some { block:=a.heap.size,off:=0 }))=Value.pointer (some { block:=L,off:=0 }) by rw[m]];clear y m
 all_goals
  have h:FX g (w.heap.size+1) 141 [.string ⟨#[]⟩,.int .u8 0,.int .i64 0,.slice none 0 0]:=(i.block _ az).trans z2;have t:FX g w.heap.size 260 [.pointer none,.int .i64 (n:Nat)]:=(i.block _ an.lt).trans an;have al:FX g c 245 _:=(i.block _ (Da ac).lt).trans (Da ac);have aj:Fr (λk=>k=c) w g:=(Da aq).then (Fr.of_below (X:=λ_=>False) i) (λ_ _ e=>e.elim);have au:=Db al;have ar:=Db aj;have b0:=h.cell 0;have N:=h.cell 1;have O:=h.cell 2;have b3:=h.cell 3;have f0:=h.frozen 0;have f1:=h.frozen 1;have f2:=h.frozen 2;have f3:=h.frozen 3;have c0:=l.cell 0;have c1:=l.cell 1;have P:=t.cell 1;clear aB aC H q m0 i ab l al aj;go_wp2;have F:=JL h (.string s) (.int .u8 2) (.int .i64 (n:Nat)) (.slice r.a r.l r.c);have r0:=F.cell 0;have r1:=F.cell 1;have r2:=F.cell 2;have r3:=F.cell 3;have aD:c≠w.heap.size+1:=by omega
  have af:=((((Fr.refl (λk=>k=w.heap.size+1) g).set ⟨w.heap.size+1,0,none⟩ (.string s) rfl).set ⟨w.heap.size+1,1,none⟩ (.int .u8 2) rfl).set ⟨w.heap.size+1,2,none⟩ (.int .i64 (n:Nat)) rfl).set ⟨w.heap.size+1,3,none⟩ (.slice r.a r.l r.c) rfl;exact Ap (v:=Lk s 2 (n:Nat) (.slice r.a r.l r.c)) (by simp[results,results218,go_sem,r0,r1,r2,r3,Lk]) rfl ⟨rfl,(FX.fr (Da au) (X:=λk=>k=w.heap.size+1) af aD),(Da ar).then (Y:=λk=>k=w.heap.size+1) af (λk D e=>by omega)⟩
theorem GB.fr{B a:Nat}{A b:World}(h:Fr (λk=>k=a) A b)(f:B<=a){c:Array Value}{t:TypeId}{d:Nat×Nat}(ho:A.heap[a]?=some (.cells c t d))(j:TT t=true):GB B A b:=
 ⟨some a,⟨h.os,h.tape,h.output,h.size,λk g i=>h.block k g (λe=>i (by rw[e]))⟩,λr e=>by cases e;exact⟨f,_,ho,.inr ⟨_,_,_,rfl,j⟩⟩⟩
theorem Pc:∀(ns:LY),Iw ns->(jn ns).size<=13*ns.length
 |[],_=>by simp[Td,jl]
 |n::ns,h=>by
  have ih:=Pc ns (λm b=>h m (AF _ b));have h1:n.size<=12:=by
   have:=h n (by simp);unfold DL at this;simp only[A6,AH]at this;exact this.1.2
  rw[Td]at ih ⊢;rw[K9];have a:n.data.toList.length=n.size:=AG;simp only[Ab,Al,a];omega
theorem Yh(ns:LY)(n:By):jn (ns++[n])=jn ns++⟨#[47]⟩++n:=Ui (by
 rw[QG,ZlZ,Pp,Fp,EA,Fp,EA,QG];simp)
theorem ZnL(a:NV)(ns:LY):J5 a ⟨ns,1,0⟩=.agg #[.string (jn ns),.int .u8 1,.int .i64 0,.slice none 0 0]:=rfl
theorem Wc(a:NV)(ns:LY)(f:Nat):J5 a ⟨ns,2,f⟩=.agg #[.string (jn ns),.int .u8 2,.int .i64 (f:Nat),a f]:=rfl
theorem Wd(a:NV)(ns:LY)(f:Nat):J5 a ⟨ns,3,f⟩=.agg #[.string (jn ns),.int .u8 3,.int .i64 (f:Nat),.slice none 0 0]:=rfl
theorem YW(s:By)(v:Value):Lk s 1 0 v=.agg #[.string s,.int .u8 1,.int .i64 0,v]:=rfl
theorem YX(s:By)(f:Nat)(v:Value):Lk s 2 (f:Nat) v=.agg #[.string s,.int .u8 2,.int .i64 (f:Nat),v]:=rfl
theorem YY(s:By)(f:Nat)(v:Value):Lk s 3 (f:Nat) v=.agg #[.string s,.int .u8 3,.int .i64 (f:Nat),v]:=rfl
structure LP(w0:World)(tb rd:Nat)(V:NV)(E:NS)(vi:Value)(G:Gh)(I:LF)(C:IB)(ch:LY->List Ek)(dv:NV):Prop where
 tw:TW w0 tb rd V E vi G I C
 ok:Gk G
 gl:G.length<=10000
 il:I.length<=10000
 ch:∀ns b,FY G rd ns b->ch ns=(E b).map Jb
 num:∀x∈G,x.2.p=none->∃(n:Nat) (r:VF),x.2.f=n/\n<60/\((n:Int),r)∈I/\dv n=.slice r.a r.l r.c
structure Iv(w0:World)(qb:Nat)(J:Nat->World->Prop)(K:Nat)(S:F3)(X:World):Prop where
 j:J K X
 t:Bw w0 X
 s:FX X qb 245 (J7 S)
theorem Iv.chg{c:World}{b:Nat}{J:Nat->World->Prop}{K:Nat}{S:F3}{X d:World}(h:Iv c b J K S X){n1 B:Nat}(i:∀k A A',J k A->GB n1 A A'->J k A')(a:GB B X d)(g:n1<=B)(l:b<B)(f:c.heap.size<=B):Iv c b J K S d:=
 ⟨i _ _ _ h.j (a.mono g),by
  obtain⟨row,j,m⟩:=a;exact h.t.grown j h.t.size (λk e=>Af f (m k e).1),a.row h.s (.inl l)⟩
def P5(w0:World)(n1 qb:Nat)(J:Nat->World->Prop)(K:Nat)(S:F3)(w:World)(e:Ending)(w':World):Prop:=
 e=.returned (.bool true)/\Iv w0 qb J K S w'/\GT w0.heap.size n1 qb w w'
theorem GT.keeps{c n1 a B:Nat}{A C:World}(h:GT c n1 a A C)(hB:n1<=B)(hq:a<B):KeepsFrom B A C:=
 ⟨h.1.size,λk o hk ho b=>h.2 k o (by omega) ho (.inl b) (by omega)⟩
section
attribute [local go_sem] Oper.semAt_some
def Lu(B0 tb qb l:Nat)(ns:LY)(X:World):Prop:=
 FX X B0 37 [.pointer (some ⟨tb,0,none⟩)]/\FX X (B0+1) 9 [.string (jn ns)]/\FX X (B0+1+1) 247 [.pointer (some ⟨qb,0,none⟩)]/\FX X (B0+1+1+1) 144 [.func (.yield l) #[] #[]]/\FX X (B0+1+1+1+1) 4 [.bool false]
theorem Lu.wk{d n1 b tb c l:Nat}{ns:LY}{X Y:World}(h:Lu b tb c l ns X)(a:GT d n1 c X Y)(h1:n1<=b)(hq:c<b):Lu b tb c l ns Y:=
 ⟨a.row h.1 (.inr ⟨by omega,by omega,rfl⟩),a.row h.2.1 (.inr ⟨by omega,by omega,rfl⟩),a.row h.2.2.1 (.inr ⟨by omega,by omega,rfl⟩),a.row h.2.2.2.1 (.inr ⟨by omega,by omega,rfl⟩),a.row h.2.2.2.2 (.inr ⟨by omega,by omega,rfl⟩)⟩
theorem Lu.chg{b tb c l B:Nat}{ns:LY}{X Y:World}(h:Lu b tb c l ns X)(a:GB B X Y)(hB:b+5<=B):Lu b tb c l ns Y:=
 ⟨a.row h.1 (.inl (by omega)),a.row h.2.1 (.inl (by omega)),a.row h.2.2.1 (.inl (by omega)),a.row h.2.2.2.1 (.inl (by omega)),a.row h.2.2.2.2 (.inl (by omega))⟩
theorem LP.entry{s:World}{tb e:Nat}{V:NV}{E:NS}{q:Value}{G:Gh}{I:LF}{C:IB}{ch:LY->List Ek}{g:NV}(H:LP s tb e V E q G I C ch g){ns:LY}{b:Nat}(m:FY G e ns b){x:By×VS}(o:x∈E b):
  (∃c,x=(x.1,⟨some ⟨c,0,none⟩,0⟩)/\FY G e (ns++[x.1]) c)\/(∃(n:Nat) (r:VF),x=(x.1,⟨none,n⟩)/\n<60/\((n:Int),r)∈I/\g n=.slice r.a r.l r.c):=by
 have d:(ns++[x.1],x.2)∈G:=(H.tw.d.en ns b m x.1 x.2).1 o;rcases H.tw.d.shp _ d with h|⟨c,h⟩
 ·obtain⟨n,r,i,j,k,l⟩:=H.num _ d h;refine .inr ⟨n,r,?_,j,k,l⟩;obtain⟨a,p,f⟩:=x;simp at h i;subst h;subst i;rfl
 ·refine .inl ⟨c,?_,?_⟩
  ·obtain⟨a,u⟩:=x;simp at h;subst h;rfl
  ·right;simp at h;rw[<-h];exact d
theorem FY.le6{G:Gh}(a:Gk G){d:Nat}{ns:LY}{b:Nat}(h:FY G d ns b):ns.length<=6/\Iw ns:=by
 rcases h with⟨rfl,_⟩|h
 ·exact⟨by simp,λn c=>by cases c⟩
 ·exact⟨a.le _ h,a.nms _ h⟩
theorem RP{b m d:Nat}{P:Program}{l:Nat}{f:FuncId}{tmps:Array Value}{assign body:Code}{w:World}{R:Ending->World->Prop}(h:RoundIn Fence.wide m P l f tmps assign body w R):RoundIn (Fence.wide.inRound b) d P l f tmps assign body w R:=⟨trivial,λc a _=>h.2 c a (room_wide _)⟩
theorem Xi{a r:Nat}(X:World)(o:Obj)(h:a<=r):Below a X (X.putObj r o):=⟨rfl,rfl,rfl,by simp,λk hk=>Bs (by omega)⟩
theorem Zk1(f:World)(tb rd:Nat)(V:NV)(E:NS)(vi:Value)(G:Gh)(I:LF)(C:IB)(ch:LY->List Ek)(dv:NV)(H:LP f tb rd V E vi G I C ch dv)(L:List It)(l n1 a:Nat)(J:Nat->World->Prop)(bO:f.heap.size<=n1)(bc:n1<=a)(hJ:∀k A A',J k A->GB n1 A A'->J k A')(hY:∀k W1,k<L.length->J k W1->YieldAt Fence.wide 1 prog l (I9 dv L k) W1 λe W'=>e=.returned (.bool true)/\J (k+1) W'/\Id f.heap.size n1 W1 W')(d:Nat)(bd:∀ns b K S W,FY G rd ns b->7<=ns.length+d->(∀j y,(DV ch d ns S).1[j]?=some y->L[K+j]?=some y)->Iv f a J K S W->
   Cl 170 #[.pointer (some ⟨tb,0,none⟩),.pointer (some ⟨b,0,none⟩),.string (jn ns),.pointer (some ⟨a,0,none⟩),.func (.yield l) #[] #[]] W (P5 f n1 a J (K+(DV ch d ns S).1.length) (DV ch d ns S).2 W))(ns:LY)(b K:Nat)(S:F3)(w:World)(hd:FY G rd ns b)(bN:7<=ns.length+(d+1))(hL:∀j y,(Gx (DV ch d) ns (ch ns) S).1[j]?=some y->L[K+j]?=some y)(hw:Iv f a J K S w):
  Cl 170 #[.pointer (some ⟨tb,0,none⟩),.pointer (some ⟨b,0,none⟩),.string (jn ns),.pointer (some ⟨a,0,none⟩),.func (.yield l) #[] #[]] w (P5 f n1 a J (K+(Gx (DV ch d) ns (ch ns) S).1.length) (Gx (DV ch d) ns (ch ns) S).2 w):=by
 obtain⟨W1,e1,x1,k1,s1,b1⟩:=De w [.pointer (some ⟨tb,0,none⟩)] 37;obtain⟨W2,e2,x2,k2,s2,b2⟩:=De W1 [.string (jn ns)] 9;obtain⟨W3,e3,x3,k3,s3,b3⟩:=De W2 [.pointer (some ⟨a,0,none⟩)] 247;obtain⟨W4,e4,x4,k4,s4,b4⟩:=De W3 [.func (.yield l) #[] #[]] 144;obtain⟨W5,e5,x5,k5,s5,b5⟩:=De W4 [.bool false] 4;obtain⟨m,e6,x6,k6,s6,b6⟩:=De W5 [.pointer (some ⟨b,0,none⟩)] 307;have an:Bw w m:=b1.trans ((b2.mono (by omega)).trans ((b3.mono (by omega)).trans ((b4.mono (by omega)).trans ((b5.mono (by omega)).trans (b6.mono (by omega))))));have t1:W1.heap.size=w.heap.size+1:=by omega
 have t2:W2.heap.size=w.heap.size+1+1:=by omega
 have t3:W3.heap.size=w.heap.size+1+1+1:=by omega
 have t4:W4.heap.size=w.heap.size+1+1+1+1:=by omega
 have t5:W5.heap.size=w.heap.size+1+1+1+1+1:=by omega
 have T:m.heap.size=w.heap.size+6:=by omega
 rw[t1]at x2;rw[t2]at x3;rw[t3]at x4;rw[t4]at x5;rw[t5]at x6;have aU:Lu w.heap.size tb a l ns m:=⟨k6 _ _ _ (k5 _ _ _ (k4 _ _ _ (k3 _ _ _ (k2 _ _ _ x1)))),k6 _ _ _ (k5 _ _ _ (k4 _ _ _ (k3 _ _ _ x2))),k6 _ _ _ (k5 _ _ _ (k4 _ _ _ x3)),k6 _ _ _ (k5 _ _ _ x4),k6 _ _ _ x5⟩;have bD:a<w.heap.size:=hw.s.lt;have aF:f.heap.size<=w.heap.size:=hw.t.size;have t:FX w b 229 [V b]:=(hw.t.block _ (H.tw.d.row ns b hd).lt).trans (H.tw.d.row ns b hd);have bF:=t.lt;have a0:m.cell? ⟨w.heap.size+1+1+1+1+1,0,none⟩=some (.pointer (some ⟨b,0,none⟩)):=(x6.cell 0).trans rfl;have a3:m.cell? ⟨b,0,none⟩=some (V b):=(an.cell (p:=⟨b,0,none⟩) bF).trans ((t.cell 0).trans rfl);have aX:Sl m 310 3 (V b) (E b).length (Dm (E b)):=(H.tw.d.sl ns b hd).fr (X:=λ_=>False) (Fr.of_below (hw.t.trans (an.mono aF))) (λ_ _ e=>e);have bt:(E b).length<=10000:=Af (H.tw.d.le H.ok hd) H.gl;have a4:∀g,(V b).ownBlock=some g->g<f.heap.size:=λg hg=>by
  obtain⟨R,Q⟩:=(H.tw.d.sl ns b hd).type hg;exact Q.lt
 have bf:Iv f a J K S m:=hw.chg hJ (GB.below (B:=w.heap.size) an) (by omega) bD aF;have aW:GT f.heap.size n1 a w m:=GT.below an aF;have a1:=H.ch ns b hd;have aD:=Db T;have bg:=Db aU;have bI:=Db an;have bh:=Db a0;have bi:=Db a3;have bp:=Db aX;have br:=Db bf;have bm:=Db aW;have aN:=Db a1;have bo:=Db bd;have HY:=Db hY;have HL:=Db hL;have HJ:=Db hJ;have HH:=Db H;have bj:=Db a4;have aO:=Db e1;have aP:=Db e2;have aQ:=Db e3;have aR:=Db e4;have aS:=Db e5;have aT:=Db e6;have hc:=t.cell 0;clear x1 x2 x3 x4 x5 x6 k1 k2 k3 k4 k5 k6 s1 s2 s3 s4 s5 s6 b1 b2 b3 b4 b5 b6 t1 t2 t3 t4 t5 T e1 e2 e3 e4 e5 e6 an a0 a3 t aU aX bf aW a1 bd hY hL hJ a4;refine(A2 (n:=3)).1 ?_;refine Br func170 rfl trivial ?_ rfl;simp only[ntmps170,AM,Al,AK,Nat.reduceAdd,Nat.reduceSub,AQ,AP,AZ,AT,AD,AN]
 gi_wp2_with (refine⟨trivial,?_⟩;gi_at_call 179;refine(PA _ _ trivial rfl _ _).mono ?_;rintro e w'⟨rfl,rfl⟩)
 rw[show w.alloc (.cells #[.pointer (some ⟨tb,0,none⟩)] 37)=W1 from Da aO,show W1.alloc (.cells #[.string (jn ns)] 9)=W2 from Da aP,show W2.alloc (.cells #[.pointer (some ⟨a,0,none⟩)] 247)=W3 from Da aQ,show W3.alloc (.cells #[.func (.yield l) #[] #[]] 144)=W4 from Da aR,show W4.alloc (.cells #[.bool false] 4)=W5 from Da aS,show W5.alloc (.cells #[.pointer (some ⟨b,0,none⟩)] 307)=m from Da aT];rename_i K0 bv;clear aO aP aQ aR aS aT;have T:=Da aD;refine RQ (gf:=222) (lb:=#[.pointer (some ⟨w.heap.size+1+1+1+1+1,0,none⟩)]) rfl (EB func222 (by kernel_rfl) rfl)
  (Zk (w.heap.size+1+1+1+1+1) b 0 (V b) (E b) bt m (by omega) (by omega) (λ_ A B=>Below f.heap.size A B) (λg hg _ A B bs=>bs.block g (Da bj g hg)) (Da bh) (Da bi) (Da bp))
  (Ak _ _) Below.trans (λX o o' ho _=>Xi X o' (by omega)) (Zmz _)
  (λk X=>Iv f a J (K+(Gx (DV ch d) ns ((ch ns).take k) S).1.length) (Gx (DV ch d) ns ((ch ns).take k) S).2 X/\Lu w.heap.size tb a l ns X/\GT f.heap.size n1 a w X)
  (λk A A' hA hc=>⟨hA.1.chg (Da HJ) hc (by omega) (by omega) (by omega),hA.2.1.chg hc (by omega),hA.2.2.chg hc (by omega) (by omega)⟩)
  ⟨by simpa [Gx] using Da br,Da bg,Da bm⟩
  (λk a' X=>∃U x,(E b)[k]?=some x/\m.heap.size+2<=U/\FX X U 260 [.pointer x.2.p,.int .i64 x.2.f]/\a'={ tmps:=#[.pointer (some ⟨tb,0,none⟩),.pointer (some ⟨b,0,none⟩),.string (jn ns),.pointer (some ⟨a,0,none⟩),.func (.yield l) #[] #[],.pointer (some ⟨w.heap.size,0,none⟩),undef,.pointer (some ⟨w.heap.size+1,0,none⟩),.pointer (some ⟨w.heap.size+1+1,0,none⟩),.pointer (some ⟨w.heap.size+1+1+1,0,none⟩),.pointer (some ⟨w.heap.size+1+1+1+1,0,none⟩),.string x.1,.pointer (some ⟨U,0,none⟩),undef,.pointer (some ⟨b,0,none⟩),.pointer (some ⟨b,0,none⟩),.pointer (some ⟨b,0,none⟩),.func (.func 222) #[] #[.pointer (some ⟨w.heap.size+1+1+1+1+1,0,none⟩)],.string x.1,.agg #[.pointer x.2.p,.int .i64 x.2.f],undef,undef,undef,undef,undef,undef,undef,undef,undef,undef,undef,undef,undef,undef,undef,undef,undef,undef,undef,undef,undef,undef,undef,undef,undef,undef],defers:=[] })
  (λk a' A A' hA hs hc hj=>by
   obtain⟨U,x,N,am,hr,ha⟩:=hA;exact⟨U,x,N,am,(hj U am).trans hr,ha⟩)
  ?assign ?body ?done
 case assign=>
  rintro k X Kk hk⟨i,s,v⟩ z a5;obtain⟨x,N⟩:∃x,(E b)[k]?=some x:=⟨_,Ac hk⟩;rw[PJ N];have HX:=Db N;have bk:=Db a5;have HZ:=Db z;have O:=Db i;have HB:=Db s;have HK:=Db v;clear T i s v N a5 z
  gi_wp2
  have T:=Da aD;have aI:GB (m.heap.size) X (X.alloc (.cells #[.pointer x.2.p,.int .i64 x.2.f] 260)):=GB.alloc _ _;exact Da bk _ _ ((Es _ _).from _) ((Ak _ X).alloc (by have:=(Da HZ);omega) _) ⟨(Da O).chg (Da HJ) aI (by omega) (by omega) (by omega),(Da HB).chg aI (by omega),(Da HK).chg aI (by omega) (by omega)⟩ ⟨X.heap.size,x,Da HX,Da HZ,B9 X _,rfl⟩
 case body=>
  rintro k a' X hk z⟨i,s,v⟩ ⟨U,x,N,am,t,rfl⟩;have ax:x∈E b:=Ar N;have aK:(ch ns)[k]?=some (Jb x):=by rw[Da aN,Bc,N];rfl
  have aC:=TJ (DV ch d) ns (ch ns) k _ aK S;have aJ:=itL_at (DV ch d) ns (ch ns) k _ aK S;obtain⟨P,hP⟩:=ex (Gx (DV ch d) ns ((ch ns).take k) S);rw[<-hP]at i aC aJ;have aG:∀j y,(GX (DV ch d) ns P.2 (Jb x)).1[j]?=some y->L[K+P.1.length+j]?=some y:=λj y hj=>by
   rw[EP];exact Da HL _ _ (aJ j y hj)
  obtain⟨bP,bC⟩:=FY.le6 H.ok hd;have bM:=Pc ns bC;have bQ:x.1.size<=12:=by
   have h1:=H.ok.nms _ ((H.tw.d.en ns b hd x.1 x.2).1 ax) x.1 (by simp);unfold DL at h1;simp only[A6,AH]at h1;exact h1.1.2
  have bR:(jn ns).size+1<=9223372036854775807:=by omega
  have bS:(jn ns).size+1+x.1.size<=9223372036854775807:=by omega
  have aZ:w.heap.size<=X.heap.size:=v.1.size;have al:Hid (∀(a2:Act) Y,Iv f a J (K+P.1.length+(GX (DV ch d) ns P.2 (Jb x)).1.length) (GX (DV ch d) ns P.2 (Jb x)).2 Y->GT f.heap.size n1 a X Y->TY m.heap.size (λA B=>Below f.heap.size A B) (λX=>Iv f a J (K+(Gx (DV ch d) ns ((ch ns).take (k+1)) S).1.length) (Gx (DV ch d) ns ((ch ns).take (k+1)) S).2 X/\Lu w.heap.size tb a l ns X/\GT f.heap.size n1 a w X) X .normal a2 Y):=λa2 Y h1 h2=>by
   refine⟨h2.keeps (by omega) (by omega),h2.1,?_,s.wk h2 (by omega) (by omega),v.trans h2⟩;rw[aC];show Iv f a J (K+(P.1++_).length) _ Y;rw[Ab,<-EP];exact h1
  have ac:Hid (∀Y,GT f.heap.size n1 a X Y->Lu w.heap.size tb a l ns Y/\FX Y U 260 [.pointer x.2.p,.int .i64 x.2.f]):=λY h=>⟨s.wk h (by omega) (by omega),h.row t (.inr ⟨by omega,by omega,rfl⟩)⟩
  have D:Hid (∀c S' (y:It) (q:F0),J5 dv y=.agg q.toArray->(GX (DV ch d) ns P.2 (Jb x)).1[0]?=some y->Iv f a J (K+P.1.length) S' c->GT f.heap.size n1 a X c->YieldAt Fence.wide 1 prog l #[.agg q.toArray] (c.alloc (.cells q.toArray 141)) λe Y=>e=.returned (.bool true)/\Hid (Iv f a J (K+P.1.length+1) S' Y/\GT f.heap.size n1 a X Y/\Lu w.heap.size tb a l ns Y/\FX Y U 260 [.pointer x.2.p,.int .i64 x.2.f]/\FX Y c.heap.size 141 q)):=λc S' y q hq bH h1 h2=>by
   have aH:=aG 0 y bH;have bB:=(Ae.1 aH).1;have bT:w.heap.size<=c.heap.size:=Af aZ h2.1.size;have h3:=h1.chg (Da HJ) (GB.alloc (B:=c.heap.size) c (.cells q.toArray 141)) (by omega) (by omega) (by omega);have hy:=Da HY _ (c.alloc (.cells q.toArray 141)) bB h3.j;rw[Ef]at hy aH;rw[Vc aH,hq]at hy;refine hy.mono ?_;rintro e Y⟨rfl,hj,aB⟩;have bG:GT f.heap.size n1 a c (c.alloc (.cells q.toArray 141)):=GT.below ((Ak _ c).alloc (Aa _) _) (by omega);have aL:GT f.heap.size n1 a X Y:=h2.trans (bG.trans (aB.wk a));refine⟨rfl,⟨hj,h3.t.trans aB.1,aB.row h3.s (.inr ⟨bc,rfl⟩)⟩,aL,s.wk aL (by omega) (by omega),aL.row t (.inr ⟨by omega,by omega,rfl⟩),?_⟩;exact aB.row (B9 c _) (.inr ⟨by omega,rfl⟩)
  have c0:=(s.1.cell 0).trans (show _=some (Value.pointer (some ⟨tb,0,none⟩)) from rfl);have c1:=(s.2.1.cell 0).trans (show _=some (Value.string (jn ns)) from rfl);have c2:=(s.2.2.1.cell 0).trans (show _=some (Value.pointer (some ⟨a,0,none⟩)) from rfl);have a9:=Yh ns x.1;have az:=Db a9;have bJ:=Db aC;have ar:=Db aG;have HP:=Db hP;have aE:=Db aZ;clear aJ aC hP aK aG a9;rcases H.entry hd ax with⟨b',ak,be⟩|⟨n,r,ak,a8,bu,bx⟩
  ·have ao:Jb x=(x.1,none):=by rw[ak];rfl
   have ai:x.2=⟨some ⟨b',0,none⟩,0⟩:=by rw[ak]
   rw[ai]at t;have d0:=(t.cell 0).trans (show _=some (Value.pointer (some ⟨b',0,none⟩)) from rfl);have d1:=(t.cell 1).trans (show _=some (Value.int .i64 0) from rfl);have u:=ZnM X (some ⟨tb,0,none⟩) (some ⟨a,0,none⟩) (jn ns++⟨#[47]⟩++x.1) ⟨b',0,none⟩ 0;rw[YW]at u;have ad:=Db u;have HR:=Db (Da bo (ns++[x.1]) b' (K+P.1.length+1) P.2);rw[ao]at D al ar;rw[ai]at D ac ⊢;have O:=Db i;have bq:=Db be;have HK:=Db v;clear u ak ao t i s v be ai ax N
   gi_wp2_with (fail)
   refine⟨trivial,?_⟩;refine(Cx _ (A2.2 (Da ad))).mono ?_;rintro e c⟨rfl,aa⟩;have au:=Da aE;have av:=aa.size;have F:GT f.heap.size n1 a X c:=GT.below aa (by omega);have ag:Iv f a J (K+P.1.length) P.2 c:=(Da O).chg (Da HJ) (GB.below (B:=X.heap.size) aa) (by omega) (by omega) (by omega);obtain⟨fn,tmps,assign,body,hy,Q⟩:=Da D c P.2 ⟨ns++[x.1],1,0⟩ [.string (jn ns++⟨#[47]⟩++x.1),.int .u8 1,.int .i64 0,.slice none 0 0] (by rw[ZnL,Da az]) rfl ag F;have R:=Db Q;have M:=(Da ac c F).1;have e3:=(((Ak c.heap.size c).alloc (Aa _) (.cells #[.string (jn ns++⟨#[47]⟩++x.1),.int .u8 1,.int .i64 0,.slice none 0 0] 141)).cell (p:=⟨w.heap.size+1+1+1,0,none⟩) M.2.2.2.1.lt).trans ((M.2.2.2.1.cell 0).trans (show _=some (Value.func (.yield l) #[] #[]) from rfl));clear Q D ac ad ag F M au av aa c0 c1 c2 d0 d1 T z am
   gi_wp2
   refine(RP (Da R)).mono ?_;rintro e Y⟨rfl,ae⟩;obtain⟨ab,ah,af,aj,ap⟩:=Da ae;have f0:=(af.1.cell 0).trans (show _=some (Value.pointer (some ⟨tb,0,none⟩)) from rfl);have f2:=(af.2.2.1.cell 0).trans (show _=some (Value.pointer (some ⟨a,0,none⟩)) from rfl);have f3:=(af.2.2.2.1.cell 0).trans (show _=some (Value.func (.yield l) #[] #[]) from rfl);have fx:=(aj.cell 0).trans (show _=some (Value.pointer (some ⟨b',0,none⟩)) from rfl);have fm:=(ap.cell 0).trans (show _=some (Value.string (jn ns++⟨#[47]⟩++x.1)) from rfl);have ay:=Db ab;have aq:=Db ah;have u:=Da HR Y (Da bq) (by simp;omega) (λj y hj=>by
    have:=Da ar (j+1) y hj;rw[show K+P.1.length+1+j=K+P.1.length+(j+1) by omega];exact this) ab
   rw[Da az]at u;have aM:=Db u;clear R ae ab ah af aj ap e3 hy u
   gi_wp2_with (fail)
   refine⟨trivial,?_⟩;refine(Cx _ (A2.2 (Da aM))).mono ?_;rintro e Z⟨rfl,a6,a7⟩;have bl:=Db a6;have bn:=Db ((Da aq).trans a7);clear a6 a7 aM f0 f2 f3 fx fm
   gi_wp2
   refine Da al _ _ ?_ (Da bn);have z:=Da bl;rw[show K+P.1.length+1+(DV ch d (ns++[x.1]) P.2).1.length=K+P.1.length+((DV ch d (ns++[x.1]) P.2).1.length+1) by omega]at z;exact z
  ·have ao:Jb x=(x.1,some n):=by rw[ak];rfl
   have ai:x.2=⟨none,n⟩:=by rw[ak]
   rw[ai]at t;have d0:=(t.cell 0).trans (show _=some (Value.pointer none) from rfl);have d1:=(t.cell 1).trans (show _=some (Value.int .i64 (n:Nat)) from rfl);rw[ao]at D al ar;rw[ai]at D ac ⊢;have O:=Db i;have HK:=Db v
   cases hS:P.2 n with
   |true=>
    have u:=Zl1 X (some ⟨tb,0,none⟩) (jn ns++⟨#[47]⟩++x.1) n a8 a P.2 i.s hS;rw[YY]at u;have ad:=Db u;have aw:GX (DV ch d) ns P.2 (x.1,some n)=([⟨ns++[x.1],3,n⟩],P.2):=by unfold GX;simp[hS]
    rw[aw]at D al;clear u ak ao t i s v ai ax N hS aw ar
    gi_wp2_with (fail)
    refine⟨trivial,?_⟩;refine(Cx _ (A2.2 (Da ad))).mono ?_;rintro e c⟨rfl,aa⟩;have au:=Da aE;have av:=aa.size;have F:GT f.heap.size n1 a X c:=GT.below aa (by omega);have ag:Iv f a J (K+P.1.length) P.2 c:=(Da O).chg (Da HJ) (GB.below (B:=X.heap.size) aa) (by omega) (by omega) (by omega);obtain⟨fn,tmps,assign,body,hy,Q⟩:=Da D c P.2 ⟨ns++[x.1],3,n⟩ [.string (jn ns++⟨#[47]⟩++x.1),.int .u8 3,.int .i64 (n:Nat),.slice none 0 0] (by rw[Wd,Da az]) rfl ag F;have R:=Db Q;have M:=(Da ac c F).1;have e3:=(((Ak c.heap.size c).alloc (Aa _) (.cells #[.string (jn ns++⟨#[47]⟩++x.1),.int .u8 3,.int .i64 (n:Nat),.slice none 0 0] 141)).cell (p:=⟨w.heap.size+1+1+1,0,none⟩) M.2.2.2.1.lt).trans ((M.2.2.2.1.cell 0).trans (show _=some (Value.func (.yield l) #[] #[]) from rfl));clear Q D ac ad ag F M au av aa c0 c1 c2 d0 d1 T z am
    gi_wp2
    refine(RP (Da R)).mono ?_;rintro e Y⟨rfl,ae⟩;obtain⟨ab,ah,af,aj,ap⟩:=Da ae;have fx:=(aj.cell 0).trans (show _=some (Value.pointer none) from rfl);have ay:=Db ab;have aq:=Db ah;clear R ae ab ah af aj ap e3 hy
    gi_wp2
    refine⟨trivial,?_⟩
    gi_wp2
    exact Da al _ _ (Da ay) (Da aq)
   |false=>
    have aY:∀w',Fr (λk=>k=a) X w'->TW w' tb rd V E vi G I C:=λw' hf=>H.tw.below (B:=f.heap.size) (i.t.trans ⟨hf.os,hf.tape,hf.output,hf.size,λj hj=>hf.block j (by have:=i.t.size;omega) (by omega)⟩) (Aa _)
    have u:=Zl2 X tb rd V E vi G I C (H.tw.below i.t (Aa _)) H.il (jn ns++⟨#[47]⟩++x.1) n a8 r bu a P.2 i.s hS (by have:=H.tw.t.lt;omega) aY;have ad:=Db u;have aw:GX (DV ch d) ns P.2 (x.1,some n)=([⟨ns++[x.1],2,n⟩],P.2.add n):=by unfold GX;simp[hS]
    rw[aw]at D al;clear u ak ao t i s v ai ax N hS aw ar aY
    gi_wp2_with (fail)
    refine⟨trivial,?_⟩;refine(Cx _ (A2.2 (Da ad))).mono ?_;rintro e c⟨rfl,bb,aA⟩;rw[YX];have au:=Da aE;have av:=aA.size;have F:GT f.heap.size n1 a X c:=GT.fr aA (by omega) (by omega);have ag:Iv f a J (K+P.1.length) (P.2.add n) c:=⟨Da HJ _ _ _ (Da O).j (GB.fr aA bc (Da O).s rfl),(Da O).t.trans F.1,bb⟩;obtain⟨fn,tmps,assign,body,hy,Q⟩:=Da D c (P.2.add n) ⟨ns++[x.1],2,n⟩ [.string (jn ns++⟨#[47]⟩++x.1),.int .u8 2,.int .i64 (n:Nat),.slice r.a r.l r.c] (by rw[Wc,Da az,bx]) rfl ag F;have R:=Db Q;have M:=(Da ac c F).1;have e3:=(((Ak c.heap.size c).alloc (Aa _) (.cells #[.string (jn ns++⟨#[47]⟩++x.1),.int .u8 2,.int .i64 (n:Nat),.slice r.a r.l r.c] 141)).cell (p:=⟨w.heap.size+1+1+1,0,none⟩) M.2.2.2.1.lt).trans ((M.2.2.2.1.cell 0).trans (show _=some (Value.func (.yield l) #[] #[]) from rfl));clear Q D ac ad ag F M au av aA bb c0 c1 c2 d0 d1 T z am
    gi_wp2
    refine(RP (Da R)).mono ?_;rintro e Y⟨rfl,ae⟩;obtain⟨ab,ah,af,aj,ap⟩:=Da ae;have fx:=(aj.cell 0).trans (show _=some (Value.pointer none) from rfl);have ay:=Db ab;have aq:=Db ah;clear R ae ab ah af aj ap e3 hy
    gi_wp2
    refine⟨trivial,?_⟩
    gi_wp2
    exact Da al _ _ (Da ay) (Da aq)
 case done=>
  rintro X z⟨i,s,v⟩ hD;have bK:=(s.2.2.2.2.cell 0).trans (show _=some (Value.bool false) from rfl);have bL:=s.2.2.2.2.frozen 0;have HD:=Db hD;have O:=Db i;have HB:=Db s;have HK:=Db v;have HZ:=Db z;clear T hD i s v z;show K0 _ _;refine bv _ _ ?_
  gi_wp2
  have T:=Da aD;have z:=Da HZ;have aV:(X.setCell ⟨w.heap.size+1+1+1+1,0,none⟩ (.bool true)).heap[m.heap.size]?=some (.deferred (some [])):=(Aw _ _ _ _ (show m.heap.size≠w.heap.size+1+1+1+1 by omega)).trans (Da HD);refine⟨by simp,.inl ⟨_,_,rfl,BP aV,?_⟩⟩;have bE:FX (X.setCell ⟨w.heap.size+1+1+1+1,0,none⟩ (.bool true)) (w.heap.size+1+1+1+1) 4 [.bool true]:=(Da HB).2.2.2.2.set 0 (.bool true);have bA:FX ((X.setCell ⟨w.heap.size+1+1+1+1,0,none⟩ (.bool true)).putObj m.heap.size (.deferred none)) (w.heap.size+1+1+1+1) 4 [.bool true]:=(Bs (show w.heap.size+1+1+1+1≠m.heap.size by omega)).trans bE;have bw:=(bA.cell 0).trans (show _=some (Value.bool true) from rfl);have g1:GB w.heap.size X (X.setCell ⟨w.heap.size+1+1+1+1,0,none⟩ (.bool true)):=⟨_,grownBy_setCell' X _ _,λr e=>by cases e;exact⟨by omega,_,(Da HB).2.2.2.2,.inr ⟨_,_,_,rfl,rfl⟩⟩⟩;have g2:GB w.heap.size (X.setCell ⟨w.heap.size+1+1+1+1,0,none⟩ (.bool true)) ((X.setCell ⟨w.heap.size+1+1+1+1,0,none⟩ (.bool true)).putObj m.heap.size (.deferred none)):=GB.put _ (by omega) aV (.inl rfl);have bz:Gx (DV ch d) ns ((ch ns).take (E b).length) S=Gx (DV ch d) ns (ch ns) S:=by rw[Ag (by rw[Da aN,AL];omega)]
  have i:=Da O;rw[bz]at i;refine⟨_,by simp[results,results170,go_sem,bw]<;>rfl,rfl,(i.chg (Da HJ) g1 (by omega) (by omega) (by omega)).chg (Da HJ) g2 (by omega) (by omega) (by omega),((Da HK).chg g1 (by omega) (by omega)).chg g2 (by omega) (by omega)⟩
end
end Go.Proofs.YtaieidcohdhgpaaGreatDoor
