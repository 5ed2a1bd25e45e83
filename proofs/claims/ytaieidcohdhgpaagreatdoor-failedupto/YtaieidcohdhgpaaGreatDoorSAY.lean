/- Failed. -/
import Derived.Test.YtaieidcohdhgpaaGreatDoorSAX
namespace Go.Proofs.YtaieidcohdhgpaaGreatDoor
set_option maxHeartbeats 40000000
set_option maxRecDepth 100000
section
open Go.RowKit Go.Shelf
attribute [local go_sem] Oper.semAt_some
theorem Zmd(n:Nat)(a e m:Nat)(w:World)(h:a<w.heap.size)(c:w.cell? ⟨a,0,none⟩=some (.slice none 0 0))(g:World->World->Prop):
  SeqStopsK Fence.wide n Tryz.prog 220 #[.pointer (some ⟨a,0,none⟩),.pointer (some ⟨e,0,none⟩)] (fun k:Nat => #[chV 0 0 m 0 k]) g (fun o=>o=[]) (fun _=>False) 0 w:=fun l J Jx W d i _ j b=>by
 have c1:=(d.cell (p:=⟨a,0,none⟩) h).trans c;have f:=Db b;clear j d c i b;refine callsIn_of_wp Tryz.func220 rfl trivial ?_ rfl;simp only[Tryz.ntmps220,List.size_toArray,List.length_cons,List.length_nil,Nat.reduceAdd,Nat.reduceSub,Array.replicate_succ,Array.replicate_zero,List.push_toArray,List.append_toArray,List.nil_append,List.cons_append]
 gi_wp2
 refine wpIn_loop_once ?_
 gi_wp2
 go_end0
 exact⟨⟨_,rfl⟩,.inl ⟨[],rfl,Da f⟩⟩
theorem EntI.own{w:World}{b B m n s pb x C so:Nat}{E:Env}{p:By}{k:Nat}{f:Int}{F:Value}{u:Nat->Prop}{D:Value}{st:Pl}{O:Nat->Prop}{v:Value}{t:By}{W i:World}(h:EntI w b B m n s pb x C so E p k f F u D st O v t W){row:Option Nat}(a:W.grownBy i row)(l:∀r,row=some r->w.heap.size<=r/\∃o:Obj,W.heap[r]?=some o/\o.isCells=false):EntI w b B m n s pb x C so E p k f F u D st O v t i:=by
 have ne:∀(j:Nat) (c:Array Value) (t:TypeId) (z:Nat×Nat),W.heap[j]?=some (Obj.cells c t z)->some j≠row:=fun j c t z d e=>by
  obtain⟨o,y,K⟩:=(l j e.symm).2;rw[d]at y;cases y;cases K
 have g:∀(j:Nat) (c:Array Value) (t:TypeId) (z:Nat×Nat),W.heap[j]?=some (Obj.cells c t z)->i.heap[j]?=some (Obj.cells c t z):=fun j c t z d=>(a.block j (Array.getElem?_eq_some_iff.1 d).1 (ne j c t z d)).trans d
 refine⟨h.st.abides a (fun r e=>(l r e).2),h.hO,g _ _ _ _ h.b4,g _ _ _ _ h.b5,g _ _ _ _ h.b7,⟨?_,h.rs.2⟩,h.hv,h.dis,?_,Nat.le_trans h.sz a.size⟩
 ·rcases h.rs.1.2 with⟨e,J⟩|⟨I,H,G,e,L,q⟩
  ·exact⟨h.rs.1.1,.inl ⟨e,J⟩⟩
  ·exact⟨h.rs.1.1,.inr ⟨I,H,G,e,g _ _ _ _ L,q⟩⟩
 ·exact h.fr.then (Y:=fun j=>row=some j) ⟨a.os,a.tape,a.output,a.size,fun k A M=>a.block k A (fun e=>M e.symm)⟩ (fun k A N=>by have:=(l _ N).1;omega)
theorem ZiW(w:World)(b L pb P R so:Nat)(E:Env)(st:Pl)(i:Nat->Prop)(aj:StX L pb P R so E st i w)(d:OA)(g f:Nat)(s:By)(hs:SlB b w (.slice d g f) s)(bK:s.size<=600000)(aN:∀j,i j->¬Own (.slice d g f) j)(aO:∀j,Own (.slice d g f) j->L<=j)(hb:b<=w.heap.size)(a p:By)(bH:a.size<=100000)(hp:p.size<=100000)(fn:Nat)(_hfn:fn<60000):
  Calls Tryz.prog 236 #[.pointer (some ⟨pb,0,none⟩),.slice d g f,.string a,.agg #[.string p,.int .u8 2,.int .i64 (fn:Nat),.slice none 0 0]] w (Qr w b L pb P R so E i (.slice d g f) st (s++Ds a p 2++Do a p++⟨#[UInt8.ofNat fn]⟩++Ja 0 2)):=by
 obtain⟨W1,e1,x1,k1,s1,b1⟩:=De w [.pointer (some ⟨pb,0,none⟩)] 168;obtain⟨W2,e2,x2,k2,s2,b2⟩:=De W1 [.slice d g f] 59;obtain⟨T,e3,x3,k3,s3,b3⟩:=De W2 [.string p,.int .u8 2,.int .i64 (fn:Nat),.slice none 0 0] 141;have ab:Below w.heap.size w T:=b1.trans ((b2.mono (by omega)).trans (b3.mono (by omega)));have y1:=k3 _ _ _ (k2 _ _ _ x1);have y2:=k3 _ _ _ x2;have t2:W2.heap.size=w.heap.size+1+1:=by omega
 rw[s1]at y2;rw[t2]at x3;have aK:∀j,i j->j<w.heap.size:=fun j hj=>by obtain⟨cs,t,hb⟩:=aj.cells hj;exact(Array.getElem?_eq_some_iff.1 hb).1
 have hB:EntB w b L w.heap.size (w.heap.size+1) (w.heap.size+1+1) i (.slice d g f):=⟨rfl,rfl,rfl,aK,fun j hj=>hs.1.lt hj,aO,hb,aj.2.2.1⟩;have aJ:EntI w b L w.heap.size (w.heap.size+1) (w.heap.size+1+1) pb P R so E p 2 (fn:Nat) (.slice none 0 0) i (.slice d g f) st i (.slice d g f) s T:=⟨aj.abides (row:=none) ⟨ab.os,ab.tape,ab.output,ab.size,fun k hk _=>ab.block k hk⟩ (fun r e=>by cases e),fun j hj => .inl hj,y1,y2,x3,hs.below ab,fun j hj => .inl hj,aN,Fr.of_below ab,by omega⟩;obtain⟨N,hN⟩:∃N,N=JP a p:=⟨_,rfl⟩;have bF:N<=p.size:=by rw[hN];exact(Ua _ _).2
 obtain⟨N1,ag⟩:∃M:Nat,M=(UInt8.ofNat N).toNat:=⟨_,rfl⟩;obtain⟨N2,ah⟩:∃M:Nat,M=(UInt8.ofNat (p.size-N)).toNat:=⟨_,rfl⟩;have an:((p.size:Int)-(N:Int))=((p.size-N:Nat):Int):=by omega
 have bM:IntKind.u8.wrap (N:Int)=(N1:Int):=by rw[ag];exact J0 N
 have bO:IntKind.u8.wrap ((p.size:Int)-(N:Int))=(N2:Int):=by rw[ah,an];exact J0 _
 have bN:(N:Int)%256=(N1:Int):=by rw[ag,UInt8.toNat_ofNat'];omega
 have bP:((p.size:Int)-(N:Int))%256=(N2:Int):=by rw[ah,an,UInt8.toNat_ofNat'];omega
 clear an;have a9:=Db aJ;have HB:=Db hB;have HA:Hid (∀X,Below T.heap.size T X->X.cell? ⟨(w.heap.size+1),0,none⟩=some (.slice d g f)/\X.cell? ⟨(w.heap.size+1+1),0,none⟩=some (.string p)/\X.cell? ⟨(w.heap.size+1+1),1,none⟩=some (.int .u8 2)/\∃Y m q o w1,X.alloc (.cells #[.int .u8 2,.int .u8 (N1:Nat),.int .u8 (N2:Nat)] 5)=Y/\Y.cell? ⟨(w.heap.size+1),0,none⟩=some (.slice d g f)/\(Builtin.append_ #[59,59] 59 #[.slice d g f,.slice (some ⟨X.heap.size,0,none⟩) 3 3]).run Tryz.prog Y = .ok (.slice m q o) w1/\w1.cell? ⟨(w.heap.size+1),0,none⟩=some (.slice d g f)/\w1.frozen? ⟨(w.heap.size+1),0,none⟩=false/\∃Z,w1.setCell ⟨(w.heap.size+1),0,none⟩ (.slice m q o)=Z/\Hid (EntI w b L w.heap.size (w.heap.size+1) (w.heap.size+1+1) pb P R so E p 2 (fn:Nat) (.slice none 0 0) i (.slice d g f) st i (.slice m q o) (s++Ds a p 2) Z)):=fun X hX=>by
  have F:=(Da a9).below hX;obtain⟨Y,eY,xY,kY,sY,bY⟩:=De X [.int .u8 2,.int .u8 (N1:Nat),.int .u8 (N2:Nat)] 5;have H:=F.below bY;have am:Dc (Ds a p 2)=[.int .u8 2,.int .u8 (N1:Nat),.int .u8 (N2:Nat)]:=by
   rw[ag,ah,hN];rfl
  obtain⟨m,q,o,w1,r1,r2,O,r4⟩:=JY Y b (Nat.le_trans hb (Nat.le_trans H.fr.size (Nat.le_refl _))) _ _ H.rs ⟨X.heap.size,0,none⟩ 3 3 (Ds a p 2) rfl (fun j u hu=>by rw[Addr.add_lit,Nat.zero_add,xY.cell,<-am];exact hu) (by omega);have Q:Boxed w1 (w.heap.size+1) 59 (.slice d g f):=(O.block _ H.b5.lt (fun e=>by rcases H.hv _ e with C|C;(have:=(Da HB).ov _ C;omega);omega)).trans H.b5;exact⟨F.b5.cell,(F.b7.cell 0).trans rfl,(F.b7.cell 1).trans rfl,Y,m,q,o,w1,eY,H.b5.cell,r1,Q.cell,Q.frozen,_,rfl,H.say (Da HB) r2 O r4⟩
 have HT:Hid (∀Z m q o,EntI w b L w.heap.size (w.heap.size+1) (w.heap.size+1+1) pb P R so E p 2 (fn:Nat) (.slice none 0 0) i (.slice d g f) st i (.slice m q o) (s++Ds a p 2) Z->Z.cell? ⟨(w.heap.size+1),0,none⟩=some (.slice m q o)/\Z.cell? ⟨(w.heap.size+1+1),0,none⟩=some (.string p)/\∃y G z w2,(Builtin.append_ #[59,9] 59 #[.slice m q o,.string (p.extract N p.size)]).run Tryz.prog Z.drew = .ok (.slice y G z) w2/\w2.cell? ⟨(w.heap.size+1),0,none⟩=some (.slice m q o)/\w2.cell? ⟨(w.heap.size+1+1),0,none⟩=some (.string p)/\w2.frozen? ⟨(w.heap.size+1),0,none⟩=false/\∃V,w2.setCell ⟨(w.heap.size+1),0,none⟩ (.slice y G z)=V/\V.cell? ⟨(w.heap.size+1),0,none⟩=some (.slice y G z)/\V.cell? ⟨(w.heap.size+1+1),0,none⟩=some (.string p)/\V.cell? ⟨(w.heap.size+1+1),1,none⟩=some (.int .u8 2)/\V.cell? ⟨(w.heap.size+1+1),2,none⟩=some (.int .i64 (fn:Nat))/\Hid (EntI w b L w.heap.size (w.heap.size+1) (w.heap.size+1+1) pb P R so E p 2 (fn:Nat) (.slice none 0 0) i (.slice d g f) st i (.slice y G z) (s++Ds a p 2++Do a p) V)):=fun Z m q o F=>by
  have aa:=F.below (Below.refl _ _).drew;have aQ:(s++Ds a p 2).size=s.size+3:=by rw[ByteArray.size_append];rfl
  have bI:(Do a p).size<=p.size:=by unfold Do;rw[ByteArray.size_extract];omega
  have bh:Do a p=p.extract N p.size:=by unfold Do;rw[hN]
  obtain⟨y,G,z,w2,r1,r2,O,r4⟩:=UE Z.drew b (Nat.le_trans hb aa.fr.size) _ _ aa.rs (Do a p) (by omega);rw[bh]at r1;have Q:Boxed w2 (w.heap.size+1) 59 (.slice m q o):=(O.block _ aa.b5.lt (fun e=>by rcases aa.hv _ e with C|C;(have:=(Da HB).ov _ C;omega);omega)).trans aa.b5;have q7:RowIs w2 (w.heap.size+1+1) 141 _:=(O.block _ aa.b7.lt (fun e=>by rcases aa.hv _ e with C|C;(have:=(Da HB).ov _ C;omega);omega)).trans aa.b7;have I:=aa.say (Da HB) r2 O r4;exact⟨F.b5.cell,(F.b7.cell 0).trans rfl,y,G,z,w2,r1,Q.cell,(q7.cell 0).trans rfl,Q.frozen,_,rfl,I.b5.cell,(I.b7.cell 0).trans rfl,(I.b7.cell 1).trans rfl,(I.b7.cell 2).trans rfl,I⟩
 obtain⟨N3,ai⟩:∃M:Nat,M=(UInt8.ofNat fn).toNat:=⟨_,rfl⟩;have bQ:IntKind.u8.wrap (fn:Int)=(N3:Int):=by rw[ai];exact J0 fn
 have bR:(fn:Int)%256=(N3:Int):=by rw[ai,UInt8.toNat_ofNat'];omega
 have HC:Hid (∀Z m q o,EntI w b L w.heap.size (w.heap.size+1) (w.heap.size+1+1) pb P R so E p 2 (fn:Nat) (.slice none 0 0) i (.slice d g f) st i (.slice m q o) (s++Ds a p 2++Do a p) Z->∃Y y G z w2,Z.alloc (.cells #[.int .u8 (N3:Nat)] 5)=Y/\(Builtin.append_ #[59,59] 59 #[.slice m q o,.slice (some ⟨Z.heap.size,0,none⟩) 1 1]).run Tryz.prog Y = .ok (.slice y G z) w2/\w2.cell? ⟨(w.heap.size+1),0,none⟩=some (.slice m q o)/\w2.frozen? ⟨(w.heap.size+1),0,none⟩=false/\∃V,w2.setCell ⟨(w.heap.size+1),0,none⟩ (.slice y G z)=V/\V.cell? ⟨(w.heap.size+1),0,none⟩=some (.slice y G z)/\V.cell? ⟨(w.heap.size+1+1),1,none⟩=some (.int .u8 2)/\V.cell? ⟨(w.heap.size+1+1),3,none⟩=some (.slice none 0 0)/\Hid (EntI w b L w.heap.size (w.heap.size+1) (w.heap.size+1+1) pb P R so E p 2 (fn:Nat) (.slice none 0 0) i (.slice d g f) st i (.slice y G z) (s++Ds a p 2++Do a p++⟨#[UInt8.ofNat fn]⟩) V)):=fun Z m q o F=>by
  obtain⟨Y,eY,xY,kY,sY,bY⟩:=De Z [.int .u8 (N3:Nat)] 5;have H:=F.below bY;have am:Dc ⟨#[UInt8.ofNat fn]⟩=[.int .u8 (N3:Nat)]:=by rw[ai];rfl
  have aQ:(s++Ds a p 2++Do a p).size<=s.size+3+p.size:=by
   rw[ByteArray.size_append,ByteArray.size_append];have C:(Ds a p 2).size=3:=rfl;have h2:(Do a p).size<=p.size:=by unfold Do;rw[ByteArray.size_extract];omega
   omega
  obtain⟨y,G,z,w2,r1,r2,O,r4⟩:=JY Y b (Nat.le_trans hb H.fr.size) _ _ H.rs ⟨Z.heap.size,0,none⟩ 1 1 ⟨#[UInt8.ofNat fn]⟩ rfl (fun j u hu=>by rw[Addr.add_lit,Nat.zero_add,xY.cell,<-am];exact hu) (by omega);have Q:Boxed w2 (w.heap.size+1) 59 (.slice m q o):=(O.block _ H.b5.lt (fun e=>by rcases H.hv _ e with C|C;(have:=(Da HB).ov _ C;omega);omega)).trans H.b5;have I:=H.say (Da HB) r2 O r4;exact⟨Y,y,G,z,w2,eY,r1,Q.cell,Q.frozen,_,rfl,I.b5.cell,(I.b7.cell 1).trans rfl,(I.b7.cell 3).trans rfl,I⟩
 have ax:Hid (∀U a3 l3 c3,EntI w b L w.heap.size (w.heap.size+1) (w.heap.size+1+1) pb P R so E p 2 (fn:Nat) (.slice none 0 0) i (.slice d g f) st i (.slice a3 l3 c3) (s++Ds a p 2++Do a p++⟨#[UInt8.ofNat fn]⟩) U->Calls Tryz.prog 212 #[.slice a3 l3 c3,.int .u64 0,.int .i64 2] U fun e X=>∃a4 l4 c4,e = .returned (.slice a4 l4 c4)/\X.cell? ⟨(w.heap.size+1),0,none⟩=some (.slice a3 l3 c3)/\X.frozen? ⟨(w.heap.size+1),0,none⟩=false/\∃v,X.setCell ⟨(w.heap.size+1),0,none⟩ (.slice a4 l4 c4)=v/\v.cell? ⟨(w.heap.size+1+1),3,none⟩=some (.slice none 0 0)/\Hid (EntI w b L w.heap.size (w.heap.size+1) (w.heap.size+1+1) pb P R so E p 2 (fn:Nat) (.slice none 0 0) i (.slice d g f) st i (.slice a4 l4 c4) (s++Ds a p 2++Do a p++⟨#[UInt8.ofNat fn]⟩++Ja 0 2) v)):=fun U a3 l3 c3 F=>by
  have aQ:(s++Ds a p 2++Do a p++⟨#[UInt8.ofNat fn]⟩).size<=s.size+4+p.size:=by
   rw[ByteArray.size_append,ByteArray.size_append,ByteArray.size_append];have q1:(Ds a p 2).size=3:=rfl;have q2:(Do a p).size<=p.size:=by unfold Do;rw[ByteArray.size_extract];omega
   have q3:(⟨#[UInt8.ofNat fn]⟩:By).size=1:=rfl;omega
  refine(Ur U b (Nat.le_trans hb F.fr.size) a3 l3 c3 _ F.rs 0 (by omega) 2 (by omega) (by omega)).mono ?_;rintro e X ⟨a4,l4,c4,rfl,r2,O,r4⟩;have Q:Boxed X (w.heap.size+1) 59 (.slice a3 l3 c3):=(O.block _ F.b5.lt (fun e=>by rcases F.hv _ e with C|C;(have:=(Da HB).ov _ C;omega);omega)).trans F.b5;have I:=F.say (Da HB) r2 O r4;exact⟨a4,l4,c4,rfl,Q.cell,Q.frozen,_,rfl,(I.b7.cell 3).trans rfl,I⟩
 have ay:Hid (Calls Tryz.prog 271 #[.string a,.string p] T fun e X=>e = .returned (.int .i64 (N:Nat))/\Hid (Below T.heap.size T X)):=(Zbz a p T (by omega) (by omega)).mono (fun e X ⟨C,_,h2⟩=>⟨by rw[C,hN],h2⟩);have bJ:IntKind.i64.wrap ((p.size:Int)-(N:Int))=(p.size:Int)-(N:Int):=by rw[IntKind.wrap_i64];omega
 have bG:(N:Int)<=(p.size:Int):=by omega
 have aX:=Db e1;have a6:=Db e2;have a7:=Db e3;have aD:=(x3.cell 0);have bo:T.cell? ⟨(w.heap.size+1+1),0,none⟩=some (.string p):=aD.trans rfl;clear hN ag ah ai aD e1 e2 e3 x1 x2 x3 k1 k2 k3 s1 s2 s3 b1 b2 b3 y1 y2 t2 aK hB aJ aj hs aN aO ab;refine(callsIn_wide (n:=3)).1 ?_;refine callsIn_of_wp_marks Tryz.func236 rfl trivial ?_ rfl;simp only[Tryz.ntmps236,List.size_toArray,List.length_cons,List.length_nil,Nat.reduceAdd,Nat.reduceSub,Array.replicate_succ,Array.replicate_zero,List.push_toArray,List.append_toArray,List.nil_append,List.cons_append]
 gi_step
 refine wpIn_wide.2 (wp_region_lit ?_);go_wp2;rw[show w.alloc (.cells #[.pointer (some ⟨pb,0,none⟩)] 168)=W1 from Da aX,show W1.alloc (.cells #[.slice d g f] 59)=W2 from Da a6,show W2.alloc (.cells #[.string p,.int .u8 2,.int .i64 (fn:Nat),.slice none 0 0] 141)=T from Da a7]
 gi_step
 refine wpIn_wide.2 (wp_region_lit ?_);go_wp2_with (go_at_call 271;refine(Da ay).mono ?_;rintro e X ⟨rfl,HX⟩);obtain⟨bj,bk,bl,Y,m,q,o,w1,hY,bi,ao,aq,bm,Z,hZ,au⟩:=Da HA X (Da HX);rw[<-hY]at ao;have HZ:=Db hZ;clear hY hZ bi HA ay bo
 gi_step
 refine wpIn_wide.2 (wp_region_lit ?_);go_wp2_with (at_builtin;refine Lib.wpList_append_run _ rfl _ _ 59 59 rfl _ _ rfl rfl _ _ ao ?_);rw[Da HZ];obtain⟨m5,m7,y,G,z,w2,aP,n5,n7,bs,V,hV,v5,aU,bx,bz,av⟩:=Da HT Z m q o (Da au);have HV:=Db hV;clear hV ao aq bm bj bk bl HZ HT au
 gi_step
 refine Code.wpIn_mono Qb ?_;refine wpIn_wide.2 ?_;refine wp_region_held_drew (S:=fun X=>X.cell? ⟨(w.heap.size+1+1),0,none⟩=some (.string p)) (by kernel_rfl) m7 (fun aI=>?_);refine tk 1 ?_;try simp only[pE];refine tk 2 ?_;try simp only[pE];refine tk 3 ?_;try simp only[pE];refine tk 4 ?_;try simp only[pE];refine rk 0 (fun K J=>?_);go_simp;refine J.out _ _ aI (fun bc=>?_);clear J K
 (try simp only[pE])
 refine rk 5 (fun K J=>?_);refine JM rfl _ _ 59 9 rfl _ _ rfl rfl aP ?_;refine J.out _ _ n7 (fun bd=>?_);clear J K
 (try simp only[pE])
 refine rk 6 (fun K J=>?_);go_simp;rw[Da HV];refine J.out _ _ aU (fun be=>?_);clear J K
 (try simp only[pE])
 refine wpAnyH_done (by kernel_rfl) ?_ _;refine KU ?_;clear bc bd be aI aP n5 n7 bs m5 m7 HV;obtain⟨Y3,a3,l3,c3,w3,aL,ap,aq,bp,U,hU,u5,bv,bw,aw⟩:=Da HC V y G z (Da av);rw[<-aL]at ap;have HU:=Db hU;clear aL hU HC
 gi_step
 gi_step
 gi_step
 gi_step
 refine wpIn_wide.2 (wp_region_lit ?_);go_wp2
 gi_step
 gi_step
 gi_step
 gi_step
 gi_step
 refine wpIn_wide.2 (wp_region_lit ?_);go_wp2_with (at_builtin;refine Lib.wpList_append_run _ rfl _ _ 59 59 rfl _ _ rfl rfl _ _ ap ?_);rw[Da HU];clear ap aq bp HU v5 aU bx bz av;have H9:=Db (Da ax U a3 l3 c3 (Da aw));clear ax
 gi_step
 gi_step
 refine wpIn_wide.2 (wp_region_lit ?_);go_wp2
 gi_step
 gi_step
 gi_step
 gi_step
 gi_step
 refine wpIn_wide.2 (wp_region_lit ?_);go_wp2_with (go_at_call 212;refine(Da H9).mono ?_;rintro e X9 ⟨a4,l4,c4,rfl,x5,bD,v,aR,bC,ba⟩;have aA:=Db aR;clear aR);rw[Da aA];obtain⟨ac,aF,bA,bq,ar,al⟩:=De v [.int .i64 0] 3;obtain⟨ak,aG,aV,br,bt,aB⟩:=De ac [.slice none 0 0] 59;obtain⟨ae,aH,bB,aS,bu,aC⟩:=De ak [.int .i64 64] 3;have aM:Below v.heap.size v ae:=al.trans ((aB.mono (by omega)).trans (aC.mono (by omega)));have af:=Da ba;have bL:=af.sz;have ad:ae.heap.size=v.heap.size+3:=by omega
 have yc:=aS _ _ _ aV;rw[ar]at yc;have bE:ac.cell? ⟨(w.heap.size+1+1),3,none⟩=some (.slice none 0 0):=(al.cell (p:=⟨(w.heap.size+1+1),3,none⟩) af.b7.lt).trans bC;have a8:=Db (af.below aM);have az:=Db ad;have bb:Hid (ac.heap.size=v.heap.size+1):=ar;have aY:=Db aF;have aZ:=Db aG;have a5:=Db aH;have aE:ae.cell? ⟨(v.heap.size+1),0,none⟩=some (.slice none 0 0):=(yc.cell 0).trans rfl;have aW:=Db aE;clear H9 aA x5 bD u5 bv bw aw aF aG aH bA aV bB bq br aS ar bt bu al aB aC aM af ad yc aE
 gi_step
 refine wpIn_wide.2 (wp_region_lit ?_);go_wp2;rw[show v.alloc (.cells #[.int .i64 0] 3)=ac from Da aY]
 gi_wp2_with (refine⟨trivial,?_⟩;gi_at_call 172;refine(UY _ 64 (by omega) (by omega) _ _ ⟨_,_,_,rfl⟩).mono ?_;rintro e w' ⟨rfl,rfl⟩)
 rw[show ac.alloc (.cells #[.slice none 0 0] 59)=ak from Da aZ,show ak.alloc (.cells #[.int .i64 64] 3)=ae from Da a5];rw[show ac.heap.size=v.heap.size+1 from Da bb];rename_i K0 bf;have ad:=Da az;refine wpIn_rangeFunc_ownF (α := Nat) rfl (by omega) (gf:=220) (lb := #[.pointer (some ⟨(v.heap.size+1),0,none⟩),.pointer (some ⟨(v.heap.size+1+1),0,none⟩)]) rfl trivial (enters_of Tryz.func220 (by kernel_rfl) rfl)
  (Zmd 2 (v.heap.size+1) (v.heap.size+1+1) 64 ae (by omega) (Da aW) (fun _ _=>True))
  (fun _ _=>trivial)
  (fun _ _ _ _ _ _ _ _=>trivial)
  (Below.refl _ _) (fun _=>rfl)
  (fun _ X=>EntI w b L w.heap.size (w.heap.size+1) (w.heap.size+1+1) pb P R so E p 2 (fn:Nat) (.slice none 0 0) i (.slice d g f) st i (.slice a4 l4 c4) (s++Ds a p 2++Do a p++⟨#[UInt8.ofNat fn]⟩++Ja 0 2) X)
  (fun _ _ _=>False)
  (fun aT A B row hs hg hr=>hs.own hg (fun r e=>⟨by have:=(hr r e).1;omega,(hr r e).2⟩))
  (fun _ _ _ _ _ hs _ _=>hs)
  (Da a8)
  (fun x=>{ tmps:=List.toArray ((.pointer (some ⟨pb,0,none⟩))::(.slice d g f)::(.string a)::(.agg #[.string p,.int .u8 2,.int .i64 (fn:Nat),.slice none 0 0])::(.pointer (some ⟨w.heap.size,0,none⟩))::(.pointer (some ⟨(w.heap.size+1),0,none⟩))::undef::(.pointer (some ⟨(w.heap.size+1+1),0,none⟩))::(.slice none 0 0)::(.int .i64 (N:Nat))::(.pointer (some ⟨v.heap.size,0,none⟩))::(chV 0 0 64 0 x)::undef::(.string a)::(.pointer (some ⟨(w.heap.size+1+1),0,none⟩))::(.string p)::(.int .i64 (N:Nat))::(.slice d g f)::(.pointer (some ⟨(w.heap.size+1+1),1,none⟩))::(.int .u8 2)::(.int .i64 (N:Nat))::(.int .u8 (N1:Nat))::(.pointer (some ⟨(w.heap.size+1+1),0,none⟩))::(.string p)::(.int .i64 (p.size:Nat))::(.int .i64 (N:Nat))::(.int .i64 ((p.size:Int)-(N:Int)))::(.int .u8 (N2:Nat))::(.slice (some ⟨X.heap.size,0,none⟩) 3 3)::(.slice m q o)::(.slice m q o)::(.pointer (some ⟨(w.heap.size+1+1),0,none⟩))::(.string p)::(.int .i64 (N:Nat))::(.string (p.extract N p.size))::(.slice y G z)::(.pointer (some ⟨(w.heap.size+1+1),1,none⟩))::(.int .u8 2)::(.bool false)::undef::(.slice y G z)::(.pointer (some ⟨(w.heap.size+1+1),2,none⟩))::(.int .i64 (fn:Nat))::(.int .u8 (N3:Nat))::(.slice (some ⟨V.heap.size,0,none⟩) 1 1)::(.slice a3 l3 c3)::(.pointer (some ⟨(w.heap.size+1+1),1,none⟩))::(.int .u8 2)::(.bool false)::undef::(.slice a3 l3 c3)::(.pointer (some ⟨(w.heap.size+1+1),3,none⟩))::(.slice none 0 0)::(.int .i64 0)::(.int .u64 0)::(.slice a4 l4 c4)::(.pointer (some ⟨(w.heap.size+1+1),3,none⟩))::(.slice none 0 0)::(.func (.func 220) #[] #[.pointer (some ⟨v.heap.size+1,0,none⟩),.pointer (some ⟨v.heap.size+1+1,0,none⟩)])::(chV 0 0 64 0 x)::undef::undef::undef::undef::undef::undef::undef::undef::undef::undef::undef::undef::undef::undef::undef::[]),defers:=[] })
  ?assign ?body ?done ?stop
 case assign=>
  intro l x X K J;clear ad
  gi_wp2
  exact J
 case body=>
  rintro l aT x W hR bn;exact absurd bn (by omega)
 case done=>
  rintro D ys XX hD rfl hR J;have c5:=hR.b5.cell;have HR:=Db hR;clear hR ad;show K0 _ _;refine bf _ _ ?_
  gi_wp2
  have hR:=Da HR;have ad:=Da az;refine⟨by simp,.inl ⟨_,_,rfl,run_takeDeferred J,?_⟩⟩;have hg:XX.grownBy (XX.putObj D (.deferred none)) (some D):=⟨rfl,rfl,rfl,by simp[World.putObj],fun k _ hk=>by
   simp only[World.putObj];rw[Array.getElem?_setIfInBounds,if_neg (fun e=>hk (by rw[e]))]⟩
  have bg:=hR.own hg (fun r e=>by cases e;exact⟨by omega,_,J,rfl⟩);exact⟨_,results_tmp rfl _ _ _,bg.post rfl⟩
 case stop=>
  rintro D c aT X _ _ h _;exact h.elim
end
open Go.RowKit Go.Shelf
def TT(t:TypeId):Bool:=t==37 || t==9 || t==247 || t==144 || t==4 || t==307 || t==260 || t==141 || t==245
def KL(o:Obj):Prop:=o.isCells=false\/∃cs t fr,o = .cells cs t fr/\TT t=true
def Chg(B:Nat)(A A':World):Prop:=∃row,A.grownBy A' row/\∀r,row=some r->B<=r/\∃o,A.heap[r]?=some o/\KL o
theorem Chg.mono{B b:Nat}{A a:World}(h:Chg B A a)(d:b<=B):Chg b A a:=by
 obtain⟨row,f,c⟩:=h;exact⟨row,f,fun r e=>⟨Nat.le_trans d (c r e).1,(c r e).2⟩⟩
theorem Chg.put{B:Nat}{A:World}{r:Nat}{o:Obj}(a:Obj)(b:B<=r)(h:A.heap[r]?=some o)(c:KL o):Chg B A (A.putObj r a):=
 ⟨some r,grownBy_putObj' A r a,fun k e=>by cases e;exact⟨b,o,h,c⟩⟩
theorem Chg.below{B:Nat}{A a:World}(h:Below A.heap.size A a):Chg B A a:=
 ⟨none,⟨h.os,h.tape,h.output,h.size,fun k b _=>h.block k b⟩,fun r e=>by cases e⟩
theorem Chg.alloc{B:Nat}(A:World)(o:Obj):Chg B A (A.alloc o):=⟨none,Zct A o,fun r e=>by cases e⟩
theorem Chg.same{B:Nat}{A b:World}(h:Chg B A b){k:Nat}{o:Obj}(a:A.heap[k]?=some o)(i:k<B\/¬KL o):b.heap[k]?=some o:=by
 obtain⟨row,f,j⟩:=h;refine(f.block k (Array.getElem?_eq_some_iff.1 a).1 ?_).trans a;intro e;obtain⟨hB,o',d,g⟩:=j k e.symm;rw[a]at d;cases d;rcases i with c|c
 ·omega
 ·exact c g
theorem Zju{a:Array Value}{t:TypeId}{b:Nat×Nat}(h:KL (.cells a t b)):TT t=true:=by
 rcases h with h|⟨aa,t',ab,e,h⟩
 ·simp[Obj.isCells]at h
 ·cases e;exact h
theorem Chg.row{B:Nat}{A b:World}(h:Chg B A b){k:Nat}{t:TypeId}{L:LVa}(c:RowIs A k t L)(e:k<B\/TT t=false):RowIs b k t L:=by
 refine h.same c ?_;rcases e with a|a
 ·exact .inl a
 ·exact .inr (fun d=>by have:=Zju d;rw[a]at this;cases this)
theorem Zfq(r:Loop):KL (.loop r) := .inl rfl
def SeqN(gf:Nat)(lb:Array Value)(encs:Nat->Array Value)(N:Nat)(Kp:Nat->World->World->Prop)(w0:World):Prop:=
 ∀(l:Nat) (J:Nat->World->Prop) (W:World),Below w0.heap.size w0 W->(∀k A A',J k A->Chg W.heap.size A A'->J k A')->
  (∀k W1,k<N->J k W1->YieldAt Fence.wide 1 Tryz.prog l (encs k) W1 fun e W'=>e = .returned (.bool true)/\J (k+1) W'/\Kp W.heap.size W1 W')->
  J 0 W->Calls Tryz.prog gf (#[.func (.yield l) #[] #[]]++lb) W fun e W'=>(∃v,e = .returned v)/\J N W'
def ZjQ(B:Nat)(Kp:World->World->Prop)(I:World->Prop)(W:World):Exit->Act->World->Prop
 | .normal,_,W'=>KeepsFrom B W W'/\Kp W W'/\I W'
 | _,_,_=>False
theorem Ze9{n:Nat}{g:Operand}{ps:Array Tmp}{assign body:Code}{Q:Exit->Act->World->Prop}{a:Act}{w:World}
  {gf:Nat} {lb:Array Value} (hg:a.eval g = .func (.func gf) #[] lb) (X:∀args w,(callFunc gf args).run Tryz.prog w = .ok (.enter gf args) w)
  {D:Nat->Array Value} {i:Nat->World->World->Prop} {N:Nat} {y:World} (av:SeqN gf lb D N i y) (R:Below y.heap.size y w)
  (G:∀{A B C:World},i (w.heap.size+2) A B->i (w.heap.size+2) B C->i (w.heap.size+2) A C)
  (O:∀(W:World) (o o':Obj),W.heap[w.heap.size+1]?=some o->o.isCells=false->i (w.heap.size+2) W (W.putObj (w.heap.size+1) o'))
  (au:∀k,k<N->(D k).size=ps.size)
  (I:Nat->World->Prop) (q:∀k A A',I k A->Chg w.heap.size A A'->I k A') (Y:I 0 w)
  (z:Nat->Act->World->Prop) (Z:∀k d A A',z k d A->A.heap.size<=A'.heap.size->Chg w.heap.size A A'->(∀j,w.heap.size+2<=j->A'.heap[j]?=A.heap[j]?)->z k d A')
  (ad:∀(k:Nat) (W:World) (K:Act->World->Prop),k<N->I k W->w.heap.size+2<=W.heap.size->(∀d W',KeepsFrom w.heap.size W W'->i (w.heap.size+2) W W'->I k W'->z k d W'->K d W')->
   assign.wpIn (Fence.wide.inRound (w.heap.size+1)) 1 Tryz.prog (Exit.then K (fun _ _ _=>False)) { tmps:=(ps.zip (D k)).foldl (fun t (p,v)=>t.setIfInBounds p v) a.tmps,defers:=[] } W)
  (ag:∀(k:Nat) (d:Act) (W:World),k<N->w.heap.size+2<=W.heap.size->I k W->z k d W->body.wpIn (Fence.wide.inRound (w.heap.size+1)) 1 Tryz.prog (ZjQ w.heap.size (i (w.heap.size+2)) (I (k+1)) W) d W)
  (ah:∀(W:World),w.heap.size+2<=W.heap.size->I N W->W.heap[w.heap.size]?=some (.deferred (some []))->Q .normal { a with defers:={ target := .collected w.heap.size,args := #[] }::a.defers } W):
  (Code.rangeFunc g ps assign body).wpIn Fence.wide n Tryz.prog Q a w:=by
 refine wpIn_rangeFunc ?_;intro fn ai;rw[show Fence.wide.round=none from rfl];obtain⟨f,m⟩:∃f:LoopState->Option Code->Loop,f=fun st pe=>{ state:=st,pending:=pe,fn,tmps:=a.tmps,params:=ps,assign,body,defers:=w.heap.size }:=⟨_,rfl⟩
 obtain⟨c,r⟩:∃c,(w.alloc (.deferred (some []))).alloc (.loop (f .ready none))=c:=⟨_,rfl⟩;have V:c.heap.size=w.heap.size+2:=by rw[<-r];simp
 have ac:c.heap[w.heap.size+1]?=some (.loop (f .ready none)):=by
  rw[<-r];have:=World.alloc_heap_new (w.alloc (.deferred (some []))) (.loop (f .ready none));rwa [World.size_alloc]at this
 have ab:c.heap[w.heap.size]?=some (.deferred (some [])):=by
  rw[<-r];exact(Below.heap_alloc _ _ _ (by simp)).trans (World.alloc_heap_new w _)
 have aa:I 0 c:=by rw[<-r];exact q _ _ _ (q _ _ _ Y (Chg.alloc _ _)) (Chg.alloc _ _)
 have af:Below y.heap.size y c:=by
  rw[<-r];exact R.trans ((((Below.refl _ w).alloc (Nat.le_refl _) _).alloc (by simp) _).mono R.size)
 refine⟨w.heap.size+1,[{ target := .collected w.heap.size,args := #[] }],c,{ target := .fn (.func gf) lb,args := #[.func (.yield (w.heap.size+1)) #[] #[]] },c,gf,
  #[.func (.yield (w.heap.size+1)) #[] #[]]++lb,c,?_,?_,?_,?_,fun h=>(by cases h),?_⟩
 ·rw[<-r,m];exact run_enterLoop_outer _ _ _ _ _
 ·simp only[resolve,hg];simp[go_sem]
 ·intro f' ax;trivial
 ·simp[invoke,go_sem,X]
 ·refine callsIn_wide.2 ((av (w.heap.size+1)
   (fun k W=>I k W/\W.heap[w.heap.size+1]?=some (.loop (f .ready none))/\W.heap[w.heap.size]?=some (.deferred (some [])))
   c af
   (fun s A B L E=>by
    rw[V]at E;exact⟨q s A B L.1 (E.mono (by omega)),E.same L.2.1 (.inl (by omega)),E.same L.2.2 (.inl (by omega))⟩)
   ?_ ⟨aa,ac,ab⟩).mono ?_)
  ·rintro k W J ⟨H,b,x⟩;rw[V];have ap:w.heap.size+1<W.heap.size:=(Array.getElem?_eq_some_iff.1 b).1;have M:=run_yield (P:=Tryz.prog) (args:=D k) b (by rw[m];exact au k J);rw[m]at M;refine⟨fn,_,assign,body,M,roundIn_of_wpIn ai (ad k W _ J H (by omega) ?_)⟩;clear M;intro d l U an ak ae;replace b:=U.same _ _ (by omega) b rfl;replace x:=U.same _ _ (Nat.le_refl _) x rfl;have ar:w.heap.size+1<l.heap.size:=(Array.getElem?_eq_some_iff.1 b).1;refine⟨_,run_beginRound b (by rw[m]),?_⟩;have ao:(l.putObj (w.heap.size+1) (.loop { f .ready none with state := .busy })).heap[w.heap.size+1]?=some (.loop { f .ready none with state := .busy }):=World.putObj_heap_same ar;have al:(l.putObj (w.heap.size+1) (.loop { f .ready none with state := .busy })).heap[w.heap.size]?=some (.deferred (some [])):=(World.putObj_heap_other (by omega)).trans x;have aw:i (w.heap.size+2) l (l.putObj (w.heap.size+1) (.loop { f .ready none with state := .busy })):=O _ _ _ b rfl;have S:Chg w.heap.size l (l.putObj (w.heap.size+1) (.loop { f .ready none with state := .busy })):=Chg.put _ (by omega) b (Zfq _);refine wpIn_mono (ag k d _ J (by simp;omega) (q _ _ _ ak S) (Z k d _ _ ae (by simp) S (fun j hj=>World.putObj_heap_other (by omega)))) ?_;rintro e a3 W3 u
   cases e with
   | normal=>
    obtain⟨T,am,aj⟩:=u;have F:=T.same _ _ (by omega) ao rfl;have aq:=(Array.getElem?_eq_some_iff.1 F).1;have hr:=run_endRound (P:=Tryz.prog) none F;refine⟨_,_,hr,rfl,⟨q _ _ _ aj (Chg.put _ (by omega) F (Zfq _)),?_,(World.putObj_heap_other (by omega)).trans (T.same _ _ (Nat.le_refl _) al rfl)⟩,G an (G (G aw am) (O _ _ _ F rfl))⟩;rw[World.putObj_heap_same aq,m]
    rfl
   | ret=>exact u.elim
   | exit id=>exact u.elim
   | goto t=>exact u.elim
   | panic ch=>exact u.elim
   | outgrown=>exact u.elim
  ·rintro e W2 ⟨⟨v,rfl⟩,H,b,x⟩;have ap:=(Array.getElem?_eq_some_iff.1 b).1;exact⟨none,_,by have:=run_endLoop (P:=Tryz.prog) b (by rw[m];simp);rw[m]at this;exact this,ah _ (by simp;omega) (q _ _ _ H (Chg.put _ (by omega) b (Zfq _))) ((World.putObj_heap_other (by omega)).trans x)⟩
section
attribute [local go_sem] Oper.semAt_some
def encE(es:LS)(k:Nat):Array Value:=
 match es[k]? with
 | some x => #[.string x.1,.agg #[.pointer x.2.p,.int .i64 x.2.f]]
 | none => #[]
theorem ZiY{es:LS}{k:Nat}{x:By×VS}(h:es[k]?=some x):encE es k = #[.string x.1,.agg #[.pointer x.2.p,.int .i64 x.2.f]]:=by
 unfold encE;rw[h]
theorem Zl1(es:LS)(k:Nat)(h:k<es.length):(encE es k).size=2:=by
 rw[ZiY (List.getElem?_eq_getElem h)];rfl
theorem all1N(l h t ho g C:Nat)(es:LS)(ab:es.length<=10000)(m:World->World->Prop)(J:Nat->World->Prop)
  (W:World) (G:∀A B,m A B->B.heap[g]?=A.heap[g]?) (E:∀k A A',J k A->Chg W.heap.size A A'->J k A')
  (s:∀k W1,k<es.length->J k W1->YieldAt Fence.wide 1 Tryz.prog l (encE es k) W1 fun e c=>e = .returned (.bool true)/\J (k+1) c/\m W1 c)
  (aa:W.cell? ⟨h,0,none⟩=some (.pointer (some ⟨t,ho,none⟩))) (hc:W.cell? ⟨t,ho,none⟩=some (.slice (some ⟨g,0,none⟩) es.length C)) (I:g<W.heap.size)
  (d:∀j u,(Dn es)[j]?=some u->W.cell? ⟨g,j,none⟩=some u) (D:J 0 W):
  Calls Tryz.prog 222 #[.func (.yield l) #[] #[],.pointer (some ⟨h,0,none⟩)] W fun e c=>(∃v,e = .returned v)/\J es.length c:=by
 refine(callsIn_wide (n:=2)).1 ?_;refine callsIn_of_wp Tryz.func222 rfl trivial ?_ rfl;simp only[Tryz.ntmps222,List.size_toArray,List.length_cons,List.length_nil,Nat.reduceAdd,Nat.reduceSub,Array.replicate_succ,Array.replicate_zero,List.push_toArray,List.append_toArray,List.nil_append,List.cons_append]
 gi_wp2
 gi_loopw [10] (fun i wr=>∃k:Nat,k<=es.length/\i = .int .i64 k/\J k wr/\Hid (wr.heap[g]?=W.heap[g]?))
  (fun i _=>es.length-(intOf i).toNat)
 case atStart=>exact⟨0,Nat.zero_le _,rfl,D,rfl⟩
 case round=>
  obtain⟨k,hk,rfl,r,b⟩:=hrel;by_cases w:k<es.length
  ·obtain⟨x,f⟩:∃x,es[k]?=some x:=⟨_,List.getElem?_eq_getElem w⟩;have q:=Qv es k x f;have q0:=(World.cell?_of_block (a:=⟨g,k*3,none⟩) (Da b)).trans (d _ _ q.1);have q1:=(World.cell?_of_block (a:=⟨g,k*3+1,none⟩) (Da b)).trans (d _ _ q.2.1);have q2:=(World.cell?_of_block (a:=⟨g,k*3+2,none⟩) (Da b)).trans (d _ _ q.2.2);have K:g<wr.heap.size:=by
    have p:=Da b;rw[Array.getElem?_eq_getElem I]at p;exact(Array.getElem?_eq_some_iff.1 p).1
   have z:Hid (∀o,(wr.alloc o).heap[g]?=W.heap[g]?):=fun o=>(Below.heap_alloc wr o g K).trans (Da b)
   have y:=s k (wr.alloc (.cells #[.string x.1,.pointer x.2.p,.int .i64 x.2.f] 310)) w (E _ _ _ r (Chg.alloc _ _));rw[ZiY f]at y;obtain⟨fn,tmps,assign,body,hy,H⟩:=y;have HX:=Db f;clear q f d s
   gi_wp2
   refine H.mono ?_;rintro e W3 ⟨rfl,F,L⟩
   gi_wp2
   go_roundw
   case rel=>exact⟨k+1,by omega,by go_num,F,(G _ _ L).trans (Da z _)⟩
   case measure=>simp[intOf];omega
  ·obtain rfl:k=es.length:=by omega
   gi_wp2
   go_end0
   exact⟨⟨_,rfl⟩,r⟩
theorem Znm(a b ho:Nat)(v:Value)(es:LS)(G:es.length<=10000)(w:World)(s:a<w.heap.size)(D:b<w.heap.size)(f:Nat->World->World->Prop)
  (x:∀g,v.ownBlock=some g->∀n A B,f n A B->B.heap[g]?=A.heap[g]?)
  (r:w.cell? ⟨a,0,none⟩=some (.pointer (some ⟨b,ho,none⟩))) (E:w.cell? ⟨b,ho,none⟩=some v) (y:Sl w 310 3 v es.length (Dn es)):
  SeqN 222 #[.pointer (some ⟨a,0,none⟩)] (encE es) es.length f w:=fun l J W c t C k=>by
 have m:=(c.cell (p:=⟨a,0,none⟩) s).trans r;have o:=(c.cell (p:=⟨b,ho,none⟩) D).trans E;rcases y.2 with⟨rfl,F⟩|⟨g,q,R,rfl,i,_,_,_,z⟩
 ·obtain rfl:es=[]:=List.eq_nil_of_length_eq_zero F;exact((callsIn_wide (n:=2)).1 (Zik (α := Nat) Fence.wide 2 trivial rfl l a b ho (fun _=>J 0) W m o k)).mono fun e W' h=>h
 ·exact all1N l a b ho g q es G (f W.heap.size) J W (x g rfl _) t C m o (Nat.lt_of_lt_of_le i.lt c.size) (fun j u d=>by
   rw[c.cell (p:=⟨g,j,none⟩) i.lt,i.cell];rw[<-z,List.getElem?_take]at d
   split at d
   ·exact d
   ·cases d) k
end
structure It where
 ns:LY
 k:Nat
 f:Nat
abbrev Seen:=Nat->Bool
def Seen.add(S:Seen)(n:Nat):Seen:=fun k=>if k=n then true else S k
abbrev Ek:=By×Option Nat
def stp(rec:LY->Seen->List It×Seen)(ns:LY)(S:Seen)(x:Ek):List It×Seen:=
 match x.2 with
 | none=>(⟨ns++[x.1],1,0⟩::(rec (ns++[x.1]) S).1,(rec (ns++[x.1]) S).2)
 | some f=>if S f then ([⟨ns++[x.1],3,f⟩],S) else ([⟨ns++[x.1],2,f⟩],S.add f)
def itL(rec:LY->Seen->List It×Seen)(ns:LY):List Ek->Seen->List It×Seen
 | [],S=>([],S)
 | x::l,S=>((stp rec ns S x).1++(itL rec ns l (stp rec ns S x).2).1,(itL rec ns l (stp rec ns S x).2).2)
def D4(ch:LY->List Ek):Nat->LY->Seen->List It×Seen
 | 0,_,S=>([],S)
 | d+1,ns,S=>itL (D4 ch d) ns (ch ns) S
theorem Zel(c:LY->Seen->List It×Seen)(ns:LY):∀(a b:List Ek) (S:Seen),itL c ns (a++b) S=((itL c ns a S).1++(itL c ns b (itL c ns a S).2).1,(itL c ns b (itL c ns a S).2).2)
 | [],b,S=>by simp[itL]
 | x::a,b,S=>by simp only[List.cons_append,itL,Zel c ns a b,List.append_assoc]
theorem ZmV(b:LY->Seen->List It×Seen)(ns:LY)(a:List Ek)(x:Ek)(S:Seen):itL b ns (a++[x]) S=((itL b ns a S).1++(stp b ns (itL b ns a S).2 x).1,(stp b ns (itL b ns a S).2 x).2):=by
 rw[Zel];simp[itL]
theorem Zjz(a:LY->Seen->List It×Seen)(ns:LY)(l:List Ek)(k:Nat)(x:Ek)(h:l[k]?=some x)(S:Seen):
  itL a ns (l.take (k+1)) S=((itL a ns (l.take k) S).1++(stp a ns (itL a ns (l.take k) S).2 x).1,(stp a ns (itL a ns (l.take k) S).2 x).2):=by
 rw[List.take_add_one,h,Option.toList_some,ZmV]
theorem itL_at(a:LY->Seen->List It×Seen)(ns:LY)(l:List Ek)(k:Nat)(x:Ek)(h:l[k]?=some x)(S:Seen)(j:Nat)(y:It)
  (b:(stp a ns (itL a ns (l.take k) S).2 x).1[j]?=some y):(itL a ns l S).1[(itL a ns (l.take k) S).1.length+j]?=some y:=by
 obtain⟨ab,hx⟩:=List.getElem?_eq_some_iff.1 h;have e:l=l.take (k+1)++l.drop (k+1):=(List.take_append_drop _ _).symm;rw[e,Zel];show((itL a ns ((l.take (k+1)++l.drop (k+1)).take k) S).1.length+j |> fun i=>((itL a ns (l.take (k+1)) S).1++_)[i]?)=some y;rw[<-e];show((itL a ns (l.take (k+1)) S).1++_)[(itL a ns (l.take k) S).1.length+j]?=some y;rw[Zjz a ns l k x h S];obtain⟨aa,_⟩:=List.getElem?_eq_some_iff.1 b;rw[List.getElem?_append_left (by simp only[List.length_append];omega),List.getElem?_append_right (by omega)];rw[show(itL a ns (l.take k) S).1.length+j-(itL a ns (l.take k) S).1.length=j by omega];exact b
def Js(x:By×VS):Ek:=(x.1,if x.2.p.isSome then none else some x.2.f.toNat)
def Ke(dv:NV)(x:It):Value := .agg #[.string (jn x.ns),.int .u8 x.k,.int .i64 x.f,if x.k=2 then dv x.f else .slice none 0 0]
def encI(dv:NV)(L:List It)(k:Nat):Array Value:=
 match L[k]? with
 | some x => #[Ke dv x]
 | none => #[]
theorem ZiX{a:NV}{L:List It}{k:Nat}{x:It}(h:L[k]?=some x):encI a L k = #[Ke a x]:=by unfold encI;rw[h]
theorem Zl0(a:NV)(L:List It)(k:Nat)(h:k<L.length):(encI a L k).size=1:=by
 rw[ZiX (List.getElem?_eq_getElem h)];rfl
def KpT(n0 n1:Nat)(A B:World):Prop:=Below n0 A B/\∀k o,n1<=k->A.heap[k]?=some o->KL o->B.heap[k]?=some o
theorem KpT.trans{a b:Nat}{A B C:World}(h:KpT a b A B)(k:KpT a b B C):KpT a b A C:=⟨h.1.trans k.1,fun i o c ho d=>k.2 i o c (h.2 i o c ho d) d⟩
theorem KpT.row{c d:Nat}{A B:World}(h:KpT c d A B){k:Nat}{t:TypeId}{L:LVa}(b:RowIs A k t L)(f:k<c\/d<=k/\TT t=true):RowIs B k t L:=by
 rcases f with a|⟨a,e⟩
 ·exact(h.1.block k a).trans b
 ·exact h.2 k _ a b (.inr ⟨_,_,_,rfl,e⟩)
def WkK(n0 n1 qb:Nat)(A B:World):Prop:=Below n0 A B/\∀k o,n1<=k->A.heap[k]?=some o->KL o->k≠qb->B.heap[k]?=some o
theorem WkK.trans{a b c:Nat}{A B C:World}(h:WkK a b c A B)(k:WkK a b c B C):WkK a b c A C:=⟨h.1.trans k.1,fun i o d ho e f=>k.2 i o d (h.2 i o d ho e f) e f⟩
theorem KpT.wk{a b:Nat}{A B:World}(h:KpT a b A B)(e:Nat):WkK a b e A B:=⟨h.1,fun k o c ho d _=>h.2 k o c ho d⟩
theorem WkK.below{a c d:Nat}{A B:World}(h:Below A.heap.size A B)(b:a<=A.heap.size):WkK a c d A B:=
 ⟨h.mono b,fun k _o _ ho _ _=>(h.block k (Array.getElem?_eq_some_iff.1 ho).1).trans ho⟩
theorem WkK.fr{a d b:Nat}{A B:World}(h:Fr (fun k=>k=b) A B)(hn:a<=b)(hA:a<=A.heap.size):WkK a d b A B:=
 ⟨⟨h.os,h.tape,h.output,h.size,fun k hk=>h.block k (by omega) (by omega)⟩,fun k o _ ho _ c=>(h.block k (Array.getElem?_eq_some_iff.1 ho).1 c).trans ho⟩
theorem WkK.row{c d e:Nat}{A B:World}(h:WkK c d e A B){k:Nat}{t:TypeId}{L:LVa}(b:RowIs A k t L)(i:k<c\/d<=k/\k≠e/\TT t=true):RowIs B k t L:=by
 rcases i with a|⟨a,g,f⟩
 ·exact(h.1.block k a).trans b
 ·exact h.2 k _ a b (.inr ⟨_,_,_,rfl,f⟩) g
theorem WkK.chg{a g i B:Nat}{A b X:World}(h:WkK a g i X A)(j:Chg B A b)(hB:X.heap.size<=B)(n:a<=X.heap.size):WkK a g i X b:=by
 obtain⟨row,d,f⟩:=j;refine⟨h.1.grown d (Nat.le_trans n h.1.size) (fun k e=>by have:=(f k e).1;omega),fun k o l ho m p=>?_⟩;have aa:=(Array.getElem?_eq_some_iff.1 ho).1;have c:=h.2 k o l ho m p;refine(d.block k (Array.getElem?_eq_some_iff.1 c).1 ?_).trans c;intro e;have:=(f k e.symm).1;omega
end Go.Proofs.YtaieidcohdhgpaaGreatDoor
