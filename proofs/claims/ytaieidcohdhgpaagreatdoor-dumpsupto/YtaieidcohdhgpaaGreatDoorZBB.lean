/- Dumps. -/
import Derived.Test.YtaieidcohdhgpaaGreatDoorZBA
namespace Go.Proofs.YtaieidcohdhgpaaGreatDoor
set_option maxHeartbeats 40000000
set_option maxRecDepth 100000
section
open Go.RowKit Go.Shelf
attribute [local go_sem] Oper.semAt_some
theorem Xe:(Tryz.prog.info? 161).map (fun i=>(i.zero,i.size))=some (some (.agg [Value.pointer none,Value.slice none 0 0].toArray),2):=by kernel_rfl
theorem W9:∀w,(zeroValue 161).run Tryz.prog w = .ok (.agg [Value.pointer none,Value.slice none 0 0].toArray) w:=(Ey Xe).1
theorem Xf:(Tryz.prog.info? 162).map (fun i=>(i.zero,i.size))=some (some (.agg (List.replicate 60 (.string ⟨#[]⟩)).toArray),60):=by kernel_rfl
theorem Xa:∀w,(zeroValue 162).run Tryz.prog w = .ok (.agg (List.replicate 60 (.string ⟨#[]⟩)).toArray) w:=(Ey Xf).1
theorem ZO:KK (fun _=>⟨#[]⟩)=List.replicate 60 (.string ⟨#[]⟩):=by
 unfold KK;exact List.map_const' .. |>.trans (by rw[A9])
section
variable{w:World}{Bt tb:Nat}{T T':List UInt8}{told told':NB}{X X':World}
theorem GU.chg(h:GU w Bt tb T told X){B:Nat}(q:Bt<B)(s:Gc B X X'):GU w Bt tb T told X':=by
 have ac:=h.lo;obtain⟨row,a,f⟩:=s;have ne:∀k,k<B->some k≠row:=fun k b e=>by have:=(f k e.symm).1;omega
 have i:∀{j:Nat} {t:TypeId} {R:LV},FH X j t R->j<B->FH X' j t R:=fun d x=>(a.block _ d.lt (ne _ x)).trans d
 have r:Bd w.heap.size T X':=by
  have l:∀{v:Value},Lib.BuilderAtF 161 5 w.heap.size w.heap.size v (Lib.byteCells T) X->Lib.BuilderAtF 161 5 w.heap.size w.heap.size v (Lib.byteCells T) X':=fun {v} ⟨m,v,n,c,p⟩=>by
   refine⟨m,v,(a.block _ h.bd.2 (ne _ (by omega))).trans n,c.kept a ?_,p⟩;rcases c.2 with⟨rfl,_⟩|⟨g,aa,ab,fz,rfl,_,u,_⟩
   ·exact .inl rfl
   ·refine .inr (fun e=>?_);obtain⟨_,o,ho,y⟩:=f g e.symm;rw[u]at ho;cases ho;have:=MW y
    cases this
  exact⟨h.bd.1.imp l l,Ao h.bd.2 a.size⟩
 exact⟨r,i h.tl (by omega),i h.bt q,⟨a.os.trans h.fr.os,a.tape.trans h.fr.tape,a.output.trans h.fr.output,Ae h.fr.size a.size,fun k b=>(a.block k (Ao b h.fr.size) (ne k (by omega))).trans (h.fr.block k b)⟩,h.lo⟩
theorem GU.end(h:GU w Bt tb T told X)(a:Hu w.heap.size X X'){n1:Nat}(hn:Bt<n1)(B:Nat):KeepsFrom B X X'/\G9 w.heap.size n1 X X'/\X'.heap[Bt]?=X.heap[Bt]? := by
 have aa:=h.lo;obtain⟨p,v,k⟩:∃p v,X.heap[w.heap.size]?=some (.cells #[p,v] 161 (0,0)):=by
  rcases h.bd.1 with⟨_,v,d,_⟩|⟨_,v,d,_⟩
  ·exact⟨_,v,d⟩
  ·exact⟨_,v,d⟩
 have f:=h.tl;unfold FH at f;refine⟨⟨a.1.size,fun j o _ ho b=>a.2 j o ho (fun e=>?_) (fun e=>?_) (fun c g e=>by rw[e]at b;cases b)⟩,⟨a.1,fun j o hj ho i=>a.2 j o ho (by omega) (by omega) (fun c g e=>?_)⟩,(a.row h.bt (by omega) (by omega) (by decide)).trans (Eq.symm h.bt)⟩
 ·rw[e,k]at ho;cases ho;cases b
 ·rw[e,f]at ho;cases ho;cases b
 ·subst e;have:=MW i
  cases this
end
theorem ZkR{n:Nat}{A B:World}(h:Below n A B)(o:Obj){D:Nat}(hD:n<=D):Below n A (B.putObj D o):=⟨h.os,h.tape,h.output,by simp[World.putObj];exact h.size,fun k a=>(Bl (by omega)).trans (h.block k a)⟩
theorem dump_code (w : World) (n0 tb rd : Nat) {V : Nat → Value} {E : Nat → List (ByteArray × VS)} {vi : Value} {G : Gh} {I : List (Int × VF)} {CI : Int → ByteArray} {ch : List ByteArray → List Ek} {dv : Nat → Value} {C : Nat → ByteArray} (H : I6 w tb rd V E vi G I CI ch dv C) (hn0 : n0 ≤ w.heap.size) (htab : Lib.TabBelow Tryz.prog n0 w "internal/strconv.uint64pow10" .u64 Lib.pow10Tab) :
  Cl 54 #[.pointer (some ⟨tb,0,none⟩)] w fun e w'=>e = .returned (.string ⟨(Gb C (Dg ch)).1.toArray⟩)/\Bw w w':=by
 obtain⟨W1,e1,x1,k1,s1,b1⟩:=De w [.pointer none,.slice none 0 0] 161;obtain⟨W2,e2,x2,k2,s2,b2⟩:=De W1 (List.replicate 60 (.string ⟨#[]⟩)) 162;have hb2:Bw w W2:=b1.trans (b2.mono (by omega));have hB2:Bd w.heap.size [] W2:=(show Bd w.heap.size [] W1 by rw[<-e1];exact Bd.fresh w).below b2;obtain⟨W3,e3,x3,k3,s3,b3⟩:=De W2 [.string ⟨#[115,105,108,116]⟩] 9;have t2:W2.heap.size=w.heap.size+1+1:=by omega
 rw[s1]at x2;obtain⟨L,hL⟩:=ex (Dg ch);have hbd:∀y∈L,(jn y.ns).size<=100/\(y.k=2->(C y.f).size<=1280):=fun y hy=>by rw[hL]at hy;exact⟨H.ok.path y hy,H.ok.size y hy⟩
 have hlen:L.length<=100:=by rw[hL];exact H.ok.len
 have HBD:=Db hbd;have HLEN:=Db hlen;have HL:Hid (Cl 114 #[.pointer (some ⟨w.heap.size,0,none⟩),.slice (some ⟨w.heap.size+1+1,0,none⟩) 1 1] W3 fun e X=>e = .returned (.tuple #[])/\Hid (∃W4,X.alloc (.cells #[.pointer (some ⟨tb,0,none⟩)] 37)=W4/\W4.heap.size=X.heap.size+1/\GU w X.heap.size tb (Gb C []).1 (Gb C []).2 W4/\Bw w W4/\FH W4 X.heap.size 37 [.pointer (some ⟨tb,0,none⟩)])):=by
  rw[t2]at x3;refine(TO (hB2.below b3) (w.heap.size+1+1) 1 [⟨#[115,105,108,116]⟩] (fun j x hj=>?_) x3.lt (Aa _) (by decide) (by decide)).mono ?_
  ·rw[x3.cell]
   cases j with
   | zero=>cases hj;rfl
   | succ j=>cases hj
  ·rintro e X ⟨rfl,h1,h2⟩;refine⟨rfl,?_⟩;obtain⟨W4,e4,x4,k4,s4,b4⟩:=De X [.pointer (some ⟨tb,0,none⟩)] 37;have hw2:=h2.1.size;have hX:Bw w X:=(hb2.trans (b3.mono (by omega))).trans h2.1;have hX4:Bw w W4:=hX.trans (b4.mono hX.size);have htl:FH X (w.heap.size+1) 162 (KK (fun _=>⟨#[]⟩)):=by rw[ZO];exact h2.row (k3 _ _ _ x2) (.inr ⟨by omega,by decide⟩)
   exact⟨W4,e4,s4,⟨h1.below b4,k4 _ _ _ htl,x4,hX4,by omega⟩,hX4,x4⟩
 have HE1:=Db e1;have HE2:=Db e2;have HE3:=Db e3;have HH:=Db H;have HT2:=Db t2;have HS1:=Db s1;have HTB:=Db htab;have HMEM:Hid (∀k y,L[k]?=some y->∃va vl vc,J9 dv y = .agg #[.string (jn y.ns),.int .u8 (y.k:Nat),.int .i64 (y.f:Nat),.slice va vl vc]/\(y.k=2->Sl w 5 1 (.slice va vl vc) vl (Dd (C y.f)))):=fun k y hy=>by
  unfold J9;by_cases hk:y.k=2
  ·rw[if_pos hk];obtain⟨a2,l2,c2,q1,q2⟩:=H.dat y (by rw[<-hL];exact An hy) hk;exact⟨a2,l2,c2,by rw[q1],fun _=>q2⟩
  ·rw[if_neg hk];exact⟨_,_,_,rfl,fun e=>absurd e hk⟩
 have HKN:Hid (∀y∈L,(y.k=1\/y.k=2\/y.k=3)/\y.f<60):=fun y hy=>by rw[hL]at hy;exact⟨H.ok.kind y hy,H.ok.num y hy⟩
 have HLL:=Db hL;rw[<-hL];clear x1 x2 x3 k1 k2 k3 s1 s2 s3 b1 b2 b3 e1 e2 e3 hb2 hB2 t2 hL H htab hbd hlen;refine(A0 (n:=3)).1 ?_;refine Bq Tryz.func54 rfl trivial ?_ rfl;simp only[Tryz.ntmps54,AQ,Af,Ay,Nat.reduceAdd,Nat.reduceSub,AP,AO,AV,AR,AJ,AL]
 gi_step
 gi_step
 gi_step
 gi_step
 gi_step
 gi_step
 gi_step
 gi_step
 gi_step
 gi_step
 refine Br.2 (AT ?_);refine KE rfl 161 rfl W9 ?_;refine Et ?_;rw[show w.alloc (.cells [Value.pointer none,Value.slice none 0 0].toArray 161)=W1 from Da HE1];rename_i hK;refine hK _ _ ?_;clear hK
 gi_step
 refine Br.2 (AT ?_);refine KE rfl 162 rfl Xa ?_;refine Et ?_;rw[show W1.alloc (.cells (List.replicate 60 (Value.string ⟨#[]⟩)).toArray 162)=W2 from Da HE2];rename_i hK;refine hK _ _ ?_;clear hK;rw[Da HS1]
 gi_wp2_with (refine⟨trivial,?_⟩;first|(gi_at_call 114;rw[show W2.alloc (.cells #[.string ⟨#[115,105,108,116]⟩] 9)=W3 from Da HE3,Da HT2];refine(A0.2 (Da HL)).mono ?_;rintro e X ⟨rfl,HX⟩)|(gi_at_call 115;refine(RK _ _ _).mono ?_;rintro e w' ⟨rfl,rfl⟩))
 obtain⟨W4,e4,s4,hI0,hb4,x4⟩:=Da HX;have hseq:=SJ w W4 X.heap.size tb rd V E vi G I CI ch dv (Da HH).wk hb4 x4;rw[<-Da HLL]at hseq;rw[show X.alloc (.cells #[.pointer (some ⟨tb,0,none⟩)] 37)=W4 from e4];have hlo:=hI0.lo;have HS4:=Db s4;have HE4:=Db e4;have HLO:=Db hlo;clear HE1 HE2 HE3 HX e4 HL HS1 HT2 HH;refine PO (gf:=169) (lb := #[.pointer (some ⟨X.heap.size,0,none⟩)]) rfl (Ez Tryz.func169 (by kernel_rfl) rfl)
  hseq (Ag _ _) (fun h k=>⟨h.1.trans k.1,k.2.trans h.2⟩) (fun Y o o' ho _=>⟨G9.chgs Y o' _ (by omega) (by omega),Bl (by omega)⟩) (T3 _ _)
  (fun k Y=>GU w X.heap.size tb (Gb C (L.take k)).1 (Gb C (L.take k)).2 Y)
  (fun k A A' hA hc=>hA.chg (by omega) hc)
  hI0
  (fun k a' Y=>∃Bx y va vl vc,L[k]?=some y/\W4.heap.size+2<=Bx/\FH Y Bx 141 [.string (jn y.ns),.int .u8 (y.k:Nat),.int .i64 (y.f:Nat),.slice va vl vc]/\(y.k=2->Sl w 5 1 (.slice va vl vc) vl (Dd (C y.f)))/\a'={ tmps := #[.pointer (some ⟨tb,0,none⟩),undef,.string ⟨#[]⟩,.pointer (some ⟨w.heap.size,0,none⟩),.pointer (some ⟨w.heap.size+1,0,none⟩),.pointer (some ⟨Bx,0,none⟩),.slice (some ⟨w.heap.size+1+1,0,none⟩) 1 1,.tuple #[],.pointer (some ⟨tb,0,none⟩),.func (.func 169) #[] #[.pointer (some ⟨X.heap.size,0,none⟩)],.agg #[.string (jn y.ns),.int .u8 (y.k:Nat),.int .i64 (y.f:Nat),.slice va vl vc],undef,undef,undef,undef,undef,undef,undef,undef,undef,undef,undef,undef,undef,undef,undef,undef,undef,undef,undef,undef,undef,undef,undef,undef,undef,undef,undef,undef,undef,undef,undef,undef,undef,undef,undef,undef,undef],defers:=[] })
  (fun k a' A A' hA hs hc hj=>by
   obtain⟨Bx,y,va,vl,vc,hy,hBx,hr,hv,ha⟩:=hA;exact⟨Bx,y,va,vl,vc,hy,hBx,(hj Bx hBx).trans hr,hv,ha⟩)
  ?assign ?body ?done
 case assign=>
  rintro k Y Kk hk hI hz hgo;obtain⟨y,hy⟩:∃y,L[k]?=some y:=⟨_,Ac hk⟩;obtain⟨va,vl,vc,hv,hsl⟩:=Da HMEM k y hy;rw[U8 hy,hv];have HY:=Db hy;have HV:=Db hsl;have HGO:=Db hgo;have HZ:=Db hz;have HI:=Db hI;clear hy hv hsl hgo hz hI s4 hlo hseq hI0 hb4 x4
  gi_wp2
  have hI:=Da HI;have s4:=Da HS4;have hlo:=Da HLO;have hal:Gc (X.heap.size+1) Y (Y.alloc (.cells #[.string (jn y.ns),.int .u8 (y.k:Nat),.int .i64 (y.f:Nat),.slice va vl vc] 141)):=Gc.alloc _ _;have hbl:Bw Y (Y.alloc (.cells #[.string (jn y.ns),.int .u8 (y.k:Nat),.int .i64 (y.f:Nat),.slice va vl vc] 141)):=(Ag _ Y).alloc (Aa _) _;have hz:=Da HZ;exact Da HGO _ _ ((Eb _ _).from _) ⟨⟨hbl.mono (by omega),fun j o hj ho _=>(hbl.block j (Ah.1 ho).1).trans ho⟩,hbl.block _ (by omega)⟩ (hI.chg (by omega) hal) ⟨Y.heap.size,y,va,vl,vc,Da HY,hz,B2 Y _,Da HV,rfl⟩
 case body=>
  rintro k a' Y hk hz hI ⟨Bx,y,va,vl,vc,hy,hBx,hrow,hsl,rfl⟩;have hym:=An hy;obtain⟨hkind,hf⟩:=Da HKN y hym;have hbl:=XE (C:=C) (L.take k) (fun z hz=>Da HBD z (Bm hz));have hTl:(Gb C (L.take k)).1.length<=400000:=by
   have h1:=Da HLEN;have h2:=hbl.1;rw[Ar]at h2;omega
  have htl:=hbl.2;have hnx:Gb C (L.take (k+1))=Hs C (Gb C (L.take k)) y:=by rw[Bg,hy,Cj,XQ]
  have hil:=Sk C (Gb C (L.take k)).2 y (Da HBD y hym).1 (Da HBD y hym).2 (htl _);obtain⟨T,hT⟩:=ex ((Gb C (L.take k)).1);obtain⟨told,htd⟩:∃t,t=(Gb C (L.take k)).2:=⟨_,rfl⟩;have HEND:Hid (∀Z,GU w X.heap.size tb (T++Gx C told y) (F9 told y) Z->Hu w.heap.size Y Z->KeepsFrom W4.heap.size Y Z/\(G9 w.heap.size (W4.heap.size+2) Y Z/\Z.heap[X.heap.size]?=Y.heap[X.heap.size]?)/\GU w X.heap.size tb (Gb C (L.take (k+1))).1 (Gb C (L.take (k+1))).2 Z):=fun Z h1 h2=>by
   obtain⟨q1,q2,q3⟩:=hI.end h2 (n1:=W4.heap.size+2) (by omega) W4.heap.size;refine⟨q1,⟨q2,q3⟩,?_⟩;rw[hnx];show GU w X.heap.size tb ((Gb C (L.take k)).1++Gx C (Gb C (L.take k)).2 y) (F9 (Gb C (L.take k)).2 y) Z;rw[<-hT,<-htd];exact h1
  rw[<-hT,<-htd]at hI;rw[<-hT]at hTl;rw[<-htd]at htl hil;have d0:=(hrow.cell 0).trans (show _=some (Value.string (jn y.ns)) from rfl);have d1:=(hrow.cell 1).trans (show _=some (Value.int .u8 (y.k:Nat)) from rfl);have d2:=(hrow.cell 2).trans (show _=some (Value.int .i64 (y.f:Nat)) from rfl);have d3:=(hrow.cell 3).trans (show _=some (Value.slice va vl vc) from rfl);have dt:Y.cell? ⟨w.heap.size+1,y.f,none⟩=some (.string (told y.f)):=(hI.tl.cell y.f).trans (R6 told hf);have df:Y.frozen? ⟨w.heap.size+1,y.f,none⟩=false:=hI.tl.frozen y.f;have hfi:(y.f:Int)<60:=by omega
  have hB1:Bx≠w.heap.size/\Bx≠w.heap.size+1:=by omega
  rcases hkind with hk1|hk1|hk1
  ·have HC:Hid (Cl 114 #[.pointer (some ⟨w.heap.size,0,none⟩),.slice (some ⟨Y.heap.size,0,none⟩) 2 2] (Y.alloc (.cells #[.string ⟨#[100]⟩,.string (jn y.ns)] 9)) fun e Z=>e = .returned (.tuple #[])/\Hid (KeepsFrom W4.heap.size Y Z/\(G9 w.heap.size (W4.heap.size+2) Y Z/\Z.heap[X.heap.size]?=Y.heap[X.heap.size]?)/\GU w X.heap.size tb (Gb C (L.take (k+1))).1 (Gb C (L.take (k+1))).2 Z)):=by
    have e1:Gx C told y=GI [⟨#[100]⟩,jn y.ns]:=by unfold Gx;rw[if_pos hk1]
    have e2:F9 told y=told:=by unfold F9;rw[if_neg (by omega)]
    refine(hI.line [⟨#[100]⟩,jn y.ns] (by show 2<=_;omega) (by rw[<-e1];omega)).mono ?_;rintro e Z ⟨rfl,h1,h2⟩;exact⟨rfl,Da HEND Z (by rw[e1,e2];exact h1) h2⟩
   rw[hk1]at d1;clear HEND hI hrow hsl hk hz hBx hB1 hTl htl hil hT htd hnx hbl hy hym s4 hlo hseq hI0 hb4 x4 dt df d2 d3 hf hfi
   gi_wp2_with (refine⟨trivial,?_⟩;gi_at_call 114;refine(Cp _ (A0.2 (Da HC))).mono ?_;rintro e Z ⟨rfl,HE⟩)
   exact Da HE
  ·obtain⟨Y2,hY2⟩:∃Y2,Y.setCell ⟨w.heap.size+1,y.f,none⟩ (.string (jn y.ns))=Y2:=⟨_,rfl⟩;obtain⟨hI2,hF2⟩:=hI.tell y.f (jn y.ns);rw[hY2]at hI2 hF2;have e1:Gx C told y=GI [⟨#[102]⟩,jn y.ns,Gm (C y.f).size]++Jc (C y.f):=by unfold Gx;rw[if_neg (by omega),if_pos hk1]
   have e2:F9 told y=fun n=>if n=y.f then jn y.ns else told n:=by unfold F9;rw[if_pos hk1]
   have hS:=hsl hk1;have hvl:vl=(C y.f).size:=by have:=hS.1;rw[Dj]at this;omega
   have hcs:=(Da HBD y hym).2 hk1;have hr2:FH Y2 Bx 141 _:=hF2.row hrow hB1.1 hB1.2 (by decide);have HC:Hid (Cl 116 #[.int .i64 (vl:Nat)] Y2.drew fun e Z=>e = .returned (.string (Gm vl))/\(Z.cell? ⟨Bx,0,none⟩=some (.string (jn y.ns))/\Z.cell? ⟨Bx,3,none⟩=some (.slice va vl vc))/\(∃Z1,Z.alloc (.cells #[.string ⟨#[102]⟩,.string (jn y.ns),.string (Gm vl)] 9)=Z1/\(Z1.cell? ⟨Bx,0,none⟩=some (.string (jn y.ns))/\Z1.cell? ⟨Bx,3,none⟩=some (.slice va vl vc))/\Hid (Cl 114 #[.pointer (some ⟨w.heap.size,0,none⟩),.slice (some ⟨Z.heap.size,0,none⟩) 3 3] Z1 fun e U=>e = .returned (.tuple #[])/\(U.cell? ⟨Bx,0,none⟩=some (.string (jn y.ns))/\U.cell? ⟨Bx,3,none⟩=some (.slice va vl vc))/\Hid (Cl 117 #[.pointer (some ⟨w.heap.size,0,none⟩),.slice va vl vc] U fun e Q=>e = .returned (.tuple #[])/\Hid (KeepsFrom W4.heap.size Y Q/\(G9 w.heap.size (W4.heap.size+2) Y Q/\Q.heap[X.heap.size]?=Y.heap[X.heap.size]?)/\GU w X.heap.size tb (Gb C (L.take (k+1))).1 (Gb C (L.take (k+1))).2 Q))))):=by
    have hcl:∀{Z:World},FH Z Bx 141 [.string (jn y.ns),.int .u8 (y.k:Nat),.int .i64 (y.f:Nat),.slice va vl vc]->Z.cell? ⟨Bx,0,none⟩=some (.string (jn y.ns))/\Z.cell? ⟨Bx,3,none⟩=some (.slice va vl vc):=fun h=>⟨(h.cell 0).trans rfl,(h.cell 3).trans rfl⟩
    have h2d:=hI2.below (Ag _ _).drew;refine(Tryz.strconv_Itoa (vl:Int) (by omega) (by omega) Y2.drew ((Da HTB).on (h2d.fr.mono hn0)).here).mono ?_;rintro e Z ⟨rfl,hZ⟩;have hbZ:=Zi9 hZ;have hIZ:=h2d.below hbZ;have hbZ':Bw Y2 Z:=(Ag _ Y2).drew.trans hbZ;have hrZ:FH Z Bx 141 _:=(hbZ'.block _ hr2.lt).trans hr2;refine⟨rfl,hcl hrZ,?_⟩;obtain⟨Z1,eZ,xZ,kZ,sZ,bZ⟩:=De Z [.string ⟨#[102]⟩,.string (jn y.ns),.string (Gm vl)] 9;refine⟨Z1,eZ,hcl (kZ _ _ _ hrZ),?_⟩;rw[e1,Ab,<-hvl]at hil;have hln:=hIZ.line [⟨#[102]⟩,jn y.ns,Gm vl] (by show 3<=_;omega) (by omega);rw[show Z.alloc (.cells ([⟨#[102]⟩,jn y.ns,Gm vl].map Value.string).toArray 9)=Z1 from eZ]at hln;refine hln.mono ?_;rintro e U ⟨rfl,h1,h2⟩;have hrU:FH U Bx 141 _:=h2.row hrZ hB1.1 hB1.2 (by decide);refine⟨rfl,hcl hrU,?_⟩;refine(Zku h1.bd va vl vc (C y.f) (hS.kept (fun j hj _=>h1.fr.block j hj)) (fun j hj=>hS.lt hj) hcs (by rw[Ab];omega)).mono ?_;rintro e Q ⟨rfl,h3,h4⟩;refine⟨rfl,Da HEND Q ?_ ((hF2.trans (Hu.below hbZ' (Cs hI2.bd.2))).trans (h2.trans h4.of))⟩;rw[e1,e2,<-hvl,<-AC];exact h1.on h3 h4
   have c0:=(hr2.cell 0).trans (show _=some (Value.string (jn y.ns)) from rfl);have c3:=(hr2.cell 3).trans (show _=some (Value.slice va vl vc) from rfl);rw[hk1]at d1;have HY2:=Db hY2;clear HEND hI hrow hsl hk hz hBx hB1 hTl htl hil hT htd hnx hbl hy hym s4 hlo hseq hI0 hb4 x4 hf hI2 hF2 e1 e2 hS hvl hcs hr2 hY2 d3
   gi_wp2
   rw[show Y.setCell ⟨w.heap.size+1,y.f,none⟩ (.string (jn y.ns))=Y2 from Da HY2];clear HY2 d0 d1 d2 dt df;refine QC (fun V=>V.cell? ⟨Bx,0,none⟩=some (.string (jn y.ns))/\V.cell? ⟨Bx,3,none⟩=some (.slice va vl vc)) (by kernel_rfl) (fun hh=>by obtain⟨_,_,hh⟩:=hh;exact hh) (by kernel_rfl) ⟨c0,c3⟩ (fun hHeld=>?_);refine tk 0 ?_;try simp only[pE];refine tk 1 ?_;try simp only[pE];refine tk 2 ?_;try simp only[pE];refine tk 3 ?_;try simp only[pE];refine tk 4 ?_;try simp only[pE];refine rk 5 (fun K hK=>?_);go_simp;go_at_call 116;refine(Da HC).mono ?_;rintro e Z ⟨rfl,mZ,Z1,eZ,m1,HC2⟩;go_wp2_with fail;refine hK.out _ _ mZ (fun hH5=>?_);clear hK K
   (try simp only[pE])
   refine rk 6 (fun K hK=>?_);go_simp;refine hK.out _ _ m1 (fun hH6=>?_);clear hK K
   (try simp only[pE])
   refine rk 7 (fun K hK=>?_);go_simp;go_at_call 114;refine(Da HC2).mono ?_;rintro e U ⟨rfl,mU,HC3⟩;go_wp2_with fail;refine hK.out _ _ mU (fun hH7=>?_);clear hK K
   (try simp only[pE])
   refine AS (by kernel_rfl) ?_ _;have d3:=mU.2
   gi_wp2_with (refine⟨trivial,?_⟩;gi_at_call 117;refine(Cp _ (A0.2 (Da HC3))).mono ?_;rintro e Q ⟨rfl,HE⟩)
   exact Da HE
  ·have HC:Hid (∃Z1,Y.drew.alloc (.cells #[.string ⟨#[108]⟩,.string (jn y.ns),.string (told y.f)] 9)=Z1/\(Z1.cell? ⟨Bx,0,none⟩=some (.string (jn y.ns))/\Z1.cell? ⟨Bx,2,none⟩=some (.int .i64 (y.f:Nat))/\Z1.cell? ⟨w.heap.size+1,y.f,none⟩=some (.string (told y.f)))/\Hid (Cl 114 #[.pointer (some ⟨w.heap.size,0,none⟩),.slice (some ⟨Y.heap.size,0,none⟩) 3 3] Z1 fun e Z=>e = .returned (.tuple #[])/\(Z.cell? ⟨Bx,0,none⟩=some (.string (jn y.ns))/\Z.cell? ⟨Bx,2,none⟩=some (.int .i64 (y.f:Nat))/\Z.cell? ⟨w.heap.size+1,y.f,none⟩=some (.string (told y.f)))/\Hid (KeepsFrom W4.heap.size Y Z/\(G9 w.heap.size (W4.heap.size+2) Y Z/\Z.heap[X.heap.size]?=Y.heap[X.heap.size]?)/\GU w X.heap.size tb (Gb C (L.take (k+1))).1 (Gb C (L.take (k+1))).2 Z))):=by
    have e1:Gx C told y=GI [⟨#[108]⟩,jn y.ns,told y.f]:=by unfold Gx;rw[if_neg (by omega),if_neg (by omega)]
    have e2:F9 told y=told:=by unfold F9;rw[if_neg (by omega)]
    have hId:=hI.below (Ag _ _).drew;obtain⟨Z1,eZ,xZ,kZ,sZ,bZ⟩:=De Y.drew [.string ⟨#[108]⟩,.string (jn y.ns),.string (told y.f)] 9;have hcl:∀{Z:World},FH Z Bx 141 [.string (jn y.ns),.int .u8 (y.k:Nat),.int .i64 (y.f:Nat),.slice va vl vc]->FH Z (w.heap.size+1) 162 (KK told)->Z.cell? ⟨Bx,0,none⟩=some (.string (jn y.ns))/\Z.cell? ⟨Bx,2,none⟩=some (.int .i64 (y.f:Nat))/\Z.cell? ⟨w.heap.size+1,y.f,none⟩=some (.string (told y.f)):=fun h h'=>⟨(h.cell 0).trans rfl,(h.cell 2).trans rfl,(h'.cell y.f).trans (R6 told hf)⟩
    refine⟨Z1,eZ,hcl (kZ _ _ _ hrow) (kZ _ _ _ hI.tl),?_⟩;have hln:=hId.line [⟨#[108]⟩,jn y.ns,told y.f] (by show 3<=_;omega) (by rw[<-e1];omega);rw[show Y.drew.alloc (.cells ([⟨#[108]⟩,jn y.ns,told y.f].map Value.string).toArray 9)=Z1 from eZ]at hln;refine hln.mono ?_;rintro e Z ⟨rfl,h1,h2⟩;have h2':Hu w.heap.size Y Z:=(Hu.below (Ag _ _).drew (Cs hI.bd.2)).trans h2;refine⟨rfl,hcl (h2'.row hrow hB1.1 hB1.2 (by decide)) h1.tl,Da HEND Z (by rw[e1,e2];exact h1) h2'⟩
   obtain⟨Z1,eZ,m1,HC2⟩:=Da HC;have HEZ:=Db eZ;rw[hk1]at d1;clear HEND hI hrow hsl hk hz hBx hB1 hTl htl hil hT htd hnx hbl hy hym s4 hlo hseq hI0 hb4 x4 df d3 hf HC eZ
   gi_wp2
   refine QC (fun V=>V.cell? ⟨Bx,0,none⟩=some (.string (jn y.ns))/\V.cell? ⟨Bx,2,none⟩=some (.int .i64 (y.f:Nat))/\V.cell? ⟨w.heap.size+1,y.f,none⟩=some (.string (told y.f))) (by kernel_rfl) (fun hh=>by obtain⟨_,_,hh⟩:=hh;exact hh) (by kernel_rfl) ⟨d0,d2,dt⟩ (fun hHeld=>?_);refine tk 0 ?_;try simp only[pE];refine tk 1 ?_;try simp only[pE];refine tk 2 ?_;try simp only[pE];refine tk 3 ?_;try simp only[pE];refine tk 4 ?_;try simp only[pE];refine tk 5 ?_;try simp only[pE];refine rk 6 (fun K hK=>?_);go_simp;rw[show(Y.alloc (.cells #[.string ⟨#[108]⟩,.string (jn y.ns),.string (told y.f)] 9)).drew=Z1 from Da HEZ];refine hK.out _ _ m1 (fun hH6=>?_);clear hK K
   (try simp only[pE])
   refine rk 7 (fun K hK=>?_);go_simp;go_at_call 114;refine(Da HC2).mono ?_;rintro e U ⟨rfl,mU,HE⟩;go_wp2_with fail;refine hK.out _ _ mU (fun hH7=>?_);clear hK K
   (try simp only[pE])
   refine AS (by kernel_rfl) ?_ _
   gi_wp2
   exact Da HE
 case done=>
  rintro Y hz hI hD;rw[BN]at hI;have HI:=Db hI;have HST:Hid (Cl 118 #[.pointer (some ⟨w.heap.size,0,none⟩)] Y fun e Z=>e = .returned (.string ⟨(Gb C L).1.toArray⟩)/\Hid (Bw w Z/\∀D:Nat,Y.heap[D]?=some (Obj.deferred (some []))->Z.heap[D]?=some (Obj.deferred (some [])))):=by
   refine(Tryz.Builder_String w.heap.size w.heap.size (Gb C L).1 Y hI.bd.1 (Cs hI.bd.2)).mono ?_;rintro e Z ⟨rfl,h1,h2,h3⟩;exact⟨rfl,hI.fr.trans h2,fun D hD=>(Gs.others ⟨h2,h3⟩ hI.bd).2 D _ hD rfl⟩
  clear hI hseq hI0 hb4 x4 s4 hlo hz;rename_i K0 hK0;have HD:=Db hD;clear hD;show K0 _ _;refine hK0 _ _ ?_;clear hK0
  gi_wp2_with (refine⟨trivial,?_⟩;gi_at_call 118;refine(A0.2 (Da HST)).mono ?_;rintro e Z ⟨rfl,HZ⟩)
  obtain⟨h1,h2⟩:=Da HZ;have hK:=h2 _ (Da HD);refine⟨by simp,.inl ⟨_,_,rfl,BS hK,?_⟩⟩;refine⟨_,EQ rfl _ _ _,rfl,?_⟩;exact ZkR h1 _ (by have:=Da HS4;have:=Da HLO;omega)
end
open Go.RowKit Go.Maps
def ba(l:List UInt8):By:=⟨l.toArray⟩
theorem DN(l:List UInt8):BL (ba l)=l:=by simp[BL,ba]
theorem DR(l:List UInt8):(ba l).size=l.length:=by show l.toArray.size=_;simp
theorem QF(s:By):ba (BL s)=s:=by unfold ba BL;simp
theorem Vk(c:UInt8)(b:List UInt8):∀(a:List UInt8),c∉a->Lib.index (a++c::b) [c]=(a.length:Int)
 | [],_=>by simp[Lib.index]
 | x::a,h=>by
  rw[AG,not_or]at h;have ih:=Vk c b a h.2;show(if [c].isPrefixOf (x::(a++c::b))=true then (0:Int) else if (Lib.index (a++c::b) [c] == -1)=true then -1 else Lib.index (a++c::b) [c]+1)=_;rw[ih,if_neg (by simp[List.isPrefixOf,h.1]),if_neg (by simp only[CE];omega),Af]
  rfl
theorem Vp(c:UInt8):∀(s:List UInt8),c∉s->Lib.index s [c] = -1
 | [],_=>rfl
 | x::a,h=>by
  rw[AG,not_or]at h;have ih:=Vp c a h.2;show(if [c].isPrefixOf (x::a)=true then (0:Int) else if (Lib.index a [c] == -1)=true then -1 else Lib.index a [c]+1)=_;rw[ih,if_neg (by simp[List.isPrefixOf,h.1])]
  rfl
theorem KC{c:UInt8}{a:List UInt8}(h:c∉a)(b:List UInt8):Lib.cut (a++c::b) [c]=(a,b,true):=by
 unfold Lib.cut;rw[Vk c b a h,if_pos (by omega),BB,Fc,<-List.drop_drop,FC]
 rfl
theorem M5{c:UInt8}{s:List UInt8}(h:c∉s):Lib.cut s [c]=(s,[],false):=by
 unfold Lib.cut;rw[Vp c s h]
 rfl
theorem Ol(c:UInt8):∀s:List UInt8,c∉s\/∃a b,s=a++c::b/\c∉a
 | [] => .inl (by simp)
 | x::s=>by
  by_cases e:c=x
  ·exact .inr ⟨[],s,by rw[e];rfl,by simp⟩
  ·rcases Ol c s with h|⟨a,b,d,f⟩
   ·exact .inl (by simp[e,h])
   ·exact .inr ⟨x::a,b,by rw[d];rfl,by simp[e,f]⟩
theorem Qu(s:List UInt8)(c:UInt8):(Lib.cut s [c]).2.1.length<=s.length/\((Lib.cut s [c]).2.2=true->(Lib.cut s [c]).2.1.length<s.length)/\(Lib.cut s [c]).1.length<=s.length:=by
 rcases Ol c s with h|⟨a,b,rfl,d⟩
 ·rw[M5 h];exact⟨Aw _,fun e=>(by cases e),Aa _⟩
 ·rw[KC d];simp;omega
abbrev DH:=DataW Unit
theorem Mi:Keyed Tryz.prog 9:=string_keyed Tryz.underlying9
def GH(w:World):Prop:=(∃te pe,w.cell? ⟨2,0,none⟩=some (.iface te pe))/\∃te pe,w.cell? ⟨3,0,none⟩=some (.iface te pe)
theorem GH.fr{X:Nat->Prop}{w w':World}(h:GH w)(e:Fr X w w')(d:∀k,k<4->¬X k):GH w':=by
 obtain⟨⟨i,f,b⟩,j,g,c⟩:=h;exact⟨⟨i,f,(Ax (w:=w) (a:=⟨2,0,none⟩) (e.block _ (Al _ _ b) (d _ (by show 2<4;omega)))).trans b⟩,j,g,(Ax (w:=w) (a:=⟨3,0,none⟩) (e.block _ (Al _ _ c) (d _ (by show 3<4;omega)))).trans c⟩
structure GG(rb mb:Nat)(rest:List UInt8)(D:DH)(K:Nat)(W:World):Prop where
 row:FH W rb 137 [.string (ba rest),.map (some mb)]
 map:W.ownsMap Tryz.prog 9 (plainElem Tryz.prog 3) mb K D
 pk:Gk W
 er:GH W
 ne:4<=rb/\4<=mb
 len:K+rest.length<=2000000
section
variable{rb mb:Nat}{rest:List UInt8}{D:DH}{K:Nat}{W W':World}
theorem GG.nm(h:GG rb mb rest D K W):rb≠mb:=fun e=>by
 obtain⟨es,cl,a,_⟩:=h.map;have:=h.row;unfold FH at this;rw[e,a]at this
 cases this
theorem GG.fr(h:GG rb mb rest D K W){X:Nat->Prop}(a:Fr X W W')(d:¬X rb)(e:¬X mb)(b:∀k,k<4->¬X k):GG rb mb rest D K W':=by
 refine⟨h.row.fr a d,?_,h.pk.fr a (b 0 (by omega)),h.er.fr a b,h.ne,h.len⟩;obtain⟨c,cl,g,f,i⟩:=h.map;exact⟨c,cl,(a.block _ h.map.lt e).trans g,f,i⟩
theorem GG.below(h:GG rb mb rest D K W)(a:Bw W W'):GG rb mb rest D K W':=h.fr (X:=fun _=>False) (Fr.of_below a) (fun e=>e) (fun e=>e) (fun _ _ e=>e)
theorem GG.set(h:GG rb mb rest D K W)(r:List UInt8)(b:K+r.length<=2000000):GG rb mb r D K (W.setCell ⟨rb,0,none⟩ (.string (ba r))):=by
 have a:Fr (fun k=>k=rb) W (W.setCell ⟨rb,0,none⟩ (.string (ba r))):=(Fr.refl _ _).set _ _ rfl;have h4:=h.ne;refine⟨h.row.set 0 _,?_,h.pk.fr a (fun e=>by omega),h.er.fr a (fun k hk e=>by omega),h.ne,b⟩;obtain⟨c,cl,f,d,b⟩:=h.map;exact⟨c,cl,(a.block _ h.map.lt (fun e=>h.nm e.symm)).trans f,d,b⟩
theorem R8(h:GG rb mb rest D K W):
  Cl 154 #[.pointer (some ⟨rb,0,none⟩)] W fun e W'=>e = .returned (.tuple #[.string (ba (Lib.cut rest [10]).1),.bool (Lib.cut rest [10]).2.2])/\GG rb mb (Lib.cut rest [10]).2.1 D K W'/\Fr (fun k=>k=rb) W W':=by
 obtain⟨⟨m,l⟩,_⟩:=h.pk;have q:=h.len;have b:=Tryz.strings_Cut (ba rest) ⟨#[10]⟩ m W (by rw[DR];omega) l;rw[show(ba rest).data.toList=rest from DN rest,show(⟨#[10]⟩:By).data.toList=[10] from rfl]at b;obtain⟨c,a,d,g⟩:∃c a d,Lib.cut rest [10]=(c,a,d):=⟨_,_,_,rfl⟩;have i:=Qu rest 10;rw[g]at b i;rw[g];dsimp only at b i ⊢;have o:Hid (Cl 155 #[.string (ba rest),.string ⟨#[10]⟩] W fun e W'=>e = .returned (.tuple #[.string (ba c),.string (ba a),.bool d])/\W'.cell? ⟨rb,0,none⟩=some (.string (ba rest))/\W'.frozen? ⟨rb,0,none⟩=false/\Hid (GG rb mb a D K (W'.setCell ⟨rb,0,none⟩ (.string (ba a)))/\Fr (fun k=>k=rb) W (W'.setCell ⟨rb,0,none⟩ (.string (ba a))))):=by
  refine b.mono ?_;rintro e W' ⟨rfl,n,rfl⟩;have j:Bw W (W.drewN n):=⟨rfl,rfl,rfl,Aa _,fun _ _=>rfl⟩;have f:=h.below j;exact⟨rfl,(f.row.cell 0).trans rfl,f.row.frozen 0,f.set a (by omega),(Fr.of_below (X:=fun k=>k=rb) j).then ((Fr.refl (fun k=>k=rb) _).set _ _ rfl) (fun _ _ e=>e)⟩
 have c0:W.cell? ⟨rb,0,none⟩=some (.string (ba rest)):=(h.row.cell 0).trans rfl;clear b h l q g i;go_enter Tryz.func154,Tryz.ntmps154;go_wp2_with (go_at_call 155;refine(Da o).mono ?_;rintro e X ⟨rfl,x0,x1,p⟩);exact Aq (v := .tuple #[.string (ba c),.bool d]) (by simp[results,Tryz.results154,go_sem]) rfl ⟨rfl,Da p⟩
end
open Go.RowKit
theorem ba_get(r:List UInt8)(j:Nat)(a:j<(ba r).size):r[j]?=some (ba r)[j]:=by
 rw[Ac (by rw[DR]at a;exact a)];rfl
theorem Nq(n:Nat)(h:n<4000000):IntKind.i64.wrap (n:Int)=(n:Int)/\RowKit.wrap64 (n:Int)=(n:Int):=⟨by rw[BD];omega,by unfold RowKit.wrap64;omega⟩
def GJ(b:UInt8):Int:=Lib.indexByte (BL JA) b
def DQ:List UInt8->Option (List UInt8)
 | []=>some []
 | [_]=>none
 | a::b::l=>if GJ a<0\/GJ b<0 then none else (DQ l).map (fun r=>UInt8.ofNat ((GJ a).toNat*16+(GJ b).toNat)::r)
theorem UZ(b:UInt8): -1<=GJ b/\GJ b<16:=by
 have a:=Lib.indexByte_ge (BL JA) b;refine⟨a,?_⟩;rcases Int.lt_or_le (GJ b) 0 with h|h
 ·omega
 ·obtain⟨o,ho⟩:=CL h;have d:=(Lib.indexByte_some (l:=BL JA) (c:=b) (o:=o) ho).1;have h3:=(Ad.1 d).1;have h4:(BL JA).length=16:=rfl;omega
theorem or_tab:(List.range 16).all (fun h=>(List.range 16).all (fun l=>bits BinOp.or IntKind.i64 ((h*16:Nat):Int) (l:Int)==((h*16+l:Nat):Int)))=true:=by kernel_rfl
theorem or_at{h l:Nat}(c:h<16)(d:l<16):bits BinOp.or IntKind.i64 ((h:Int)*16) (l:Int)=((h*16+l:Nat):Int):=by
 have b:=BC.1 or_tab h (BX.2 c);have a:=BC.1 b l (BX.2 d);rw[CE]at a;rw[<-a]
 congr 1
theorem TC:∀(n:Nat) (l:List UInt8),l.length=2*n+1->DQ l=none
 | 0,[_],_=>rfl
 | n+1,_::_::l,h=>by
  unfold DQ
  split
  ·rfl
  ·rw[TC n l (by simp only[Af]at h;omega)];rfl
def U2(w:World)(b:Nat)(v:Value)(s:By)(r:List UInt8)(e:Ending)(w':World):Prop:=
 (DQ r=none/\e = .returned (.tuple #[.slice none 0 0,.bool false])\/∃x a' l' c',DQ r=some x/\e = .returned (.tuple #[.slice a' l' c',.bool true])/\cP b w' (.slice a' l' c') (s++ba x)/\Dh w v (.slice a' l' c'))/\Fr (Own v) w w'
theorem app_rd(w:World)(b:Nat)(hb:b<=w.heap.size)(a:OA)(l c:Nat)(s:By)(h:cP b w (.slice a l c) s)(r:List UInt8)(hs:s.size+r.length<=3000000):
  Cl 211 #[.slice a l c,.string (ba r)] w (U2 w b (.slice a l c) s r):=by
 obtain⟨R,J⟩:=ex (ba r);have t:R.size=r.length:=by rw[J,DR]
 rw[<-J];by_cases ao:r.length%2=1
 ·have o:Hid (U2 w b (.slice a l c) s r (.returned (.tuple #[.slice none 0 0,.bool false])) w):=⟨.inl ⟨TC (r.length/2) r (by omega),rfl⟩,Fr.refl _ _⟩;have hm:((R.size:Int)%2)=1:=by omega
  have an:Int.tmod (R.size:Int) 2=1:=by rw[BF (by omega)];exact hm
  clear h J t ao;go_enter Tryz.func211,Tryz.ntmps211;go_wp2;exact Aq (v := .tuple #[.slice none 0 0,.bool false]) (by simp[results,Tryz.results211,go_sem]) rfl (Da o)
 ·obtain⟨n,K⟩:∃n,r.length=2*n:=⟨r.length/2,by omega⟩;have hm:((R.size:Int)%2)=0:=by omega
  have an:Int.tmod (R.size:Int) 2=0:=by rw[BF (by omega)];exact hm
  have H:=Db h;have HR:=Db J;have ai:=Db t;have HN:=Db K;clear h J t ao K;go_enter Tryz.func211,Tryz.ntmps211;go_wp2;clear hm an
  go_loopw [0,6] (fun v i wr=>∃(k:Nat) (x:List UInt8) (E:OA) (O I:Nat),k<=n/\i = .int .i64 ((2*k:Nat):Int)/\v = .slice E O I/\Hid (x.length=k/\DQ r=(DQ (r.drop (2*k))).map (x ++ ·))/\Hid (cP b wr v (s++ba x))/\Hid (Fr (Own (.slice a l c)) w wr/\Dh w (.slice a l c) v)) (fun _ i _=>2*n-(intOf i).toNat)
  case atStart=>exact⟨0,[],a,l,c,Aw _,rfl,rfl,⟨rfl,by show _=(DQ r).map _;cases DQ r<;>rfl⟩,by show cP _ _ _ _;rw[show ba []=⟨#[]⟩ from rfl,K2];exact Da H,Fr.refl _ _,fun g hg => .inl hg⟩
  case round=>
   obtain⟨k,x,E,O,I,hk,rfl,rfl,S,HS,f⟩:=hrel;have t:=Da ai;have K:=Da HN;by_cases aM:k<n
   ·obtain⟨q,hq⟩:=ex (2*k);have ay:Hid ((q:Int)+2=((2*(k+1):Nat):Int)/\IntKind.i64.wrap ((q:Int)+2)=((2*(k+1):Nat):Int)):=by
     have e:(q:Int)+2=((2*(k+1):Nat):Int):=by omega
     exact⟨e,by rw[e];exact(Nq _ (by omega)).1⟩
    have az:Hid (2*n-(q+2)<2*n-q):=by show _<_;omega
    have aK:R.size<=3000000:=by omega
    have U:q<R.size:=by omega
    obtain⟨d,ap⟩:=ex (q+1);have h2:d<R.size:=by omega
    have aO:(q:Int)+1=(d:Int):=by omega
    have aP:RowKit.wrap64 (d:Int)=(d:Int):=(Nq d (by omega)).2;obtain⟨F,V⟩:∃b,b=R[q]:=⟨_,rfl⟩;obtain⟨G,Y⟩:∃b,b=R[d]:=⟨_,rfl⟩;obtain⟨M,Z⟩:∃i,i=GJ F:=⟨_,rfl⟩;obtain⟨N,aa⟩:∃i,i=GJ G:=⟨_,rfl⟩;have ab:∀(j:Nat) (hj:j<R.size),r[j]?=some R[j]:=fun j hj=>by
     have e:=Da HR;subst e;exact ba_get r j hj
    have am:r.drop q=F::G::r.drop (q+2):=by
     have T:=ab q U;have p:=ab d h2;rw[<-V]at T;rw[<-Y,ap]at p;obtain⟨p1,T⟩:=Ad.1 T;obtain⟨p2,p⟩:=Ad.1 p;rw[BY p1,BY p2,T,p]
    clear ab;have af:Hid (∀W,Cl 251 #[.string JA,.int .u8 (R[q].toNat:Int)] W fun e D=>e = .returned (.int .i64 M)/\D=W):=fun W=>by
     have:=Tryz.strings_IndexByte JA (R[q].toNat:Int) W;rw[show((R[q].toNat:Int)).toNat.toUInt8=R[q] from by simp,<-V]at this;rw[Z,<-V];exact this
    have ag:Hid (∀W,Cl 251 #[.string JA,.int .u8 (R[d].toNat:Int)] W fun e D=>e = .returned (.int .i64 N)/\D=W):=fun W=>by
     have:=Tryz.strings_IndexByte JA (R[d].toNat:Int) W;rw[show((R[d].toNat:Int)).toNat.toUInt8=R[d] from by simp,<-Y]at this;rw[aa,<-Y];exact this
    have aq:=UZ F;have ar:=UZ G;rw[<-Z]at aq;rw[<-aa]at ar;have aH:(q:Int)<(R.size:Int):=by omega
    have aJ:(d:Int)<(R.size:Int):=by omega
    rw[<-hq];have HQ:=Db hq;have Q:=Db (And.intro Z aa);have ah:=Db am;clear hq Z aa am V Y t K ap;go_upto_region 7 with(go_at_call 251;refine(Da af _).mono ?_;rintro e D ⟨rfl,L⟩;rw[L];clear L);go_upto_region 8 with(go_at_call 251;refine(Da ag _).mono ?_;rintro e D ⟨rfl,L⟩;rw[L];clear L);clear af ag;by_cases A:M<0\/N<0
    ·have o:Hid (U2 w b (.slice a l c) s r (.returned (.tuple #[.slice none 0 0,.bool false])) wr):=by
      refine⟨.inl ⟨?_,rfl⟩,(Da f).1⟩;rw[(Da S).2,<-Da HQ,Da ah];unfold DQ;rw[<-(Da Q).1,<-(Da Q).2,if_pos A];rfl
     by_cases h3:M<0
     ·clear A;go_wp2;exact Aq (v := .tuple #[.slice none 0 0,.bool false]) (by simp[results,Tryz.results211,go_sem]) rfl (Da o)
     ·have h4:N<0:=by omega
      clear A;go_wp2;exact Aq (v := .tuple #[.slice none 0 0,.bool false]) (by simp[results,Tryz.results211,go_sem]) rfl (Da o)
    ·have h3:¬M<0:=fun e=>A (.inl e)
     have h4:¬N<0:=fun e=>A (.inr e)
     obtain⟨B,rfl⟩:=CL (a:=M) (by omega);obtain⟨j2,rfl⟩:=CL (a:=N) (by omega);obtain⟨z,hz⟩:∃z:UInt8,z=UInt8.ofNat (B*16+j2):=⟨_,rfl⟩;obtain⟨P,ae⟩:∃n,n=z.toNat:=⟨_,rfl⟩;have av:P=B*16+j2:=by rw[ae,hz,BA];omega
     obtain⟨C,aD⟩:∃m,m=B*16:=⟨_,rfl⟩;have aN:bits BinOp.or IntKind.i64 (C:Int) (j2:Int)=(P:Int):=by
      have:=or_at (h:=B) (l:=j2) (by omega) (by omega);rw[<-av,show((B:Int)*16)=(C:Int) by omega]at this;exact this
     have aF:(B:Int)*16=(C:Int):=by omega
     have aG:RowKit.wrap64 (C:Int)=(C:Int):=(Nq C (by omega)).2;have aI:(P:Int)%256=(P:Int):=by omega
     have ad:x.length=k:=(Da S).1;have aB:=(Da f).1.size;obtain⟨W,hW,au,aC,aE,ac⟩:=De wr [.int .u8 (P:Int)] 5;obtain⟨a2,l2,c2,w2,hr,al,aj,ak⟩:=Kj W b (by omega) _ _ ((Da HS).below ac) ⟨wr.heap.size,0,none⟩ 1 1 ⟨#[z]⟩ rfl (fun j u hu=>by
      rw[AF,Au,au.cell,ae];exact hu) (by
      have h5:=Da ai;have h6:=Da HN;rw[Ai,DR,ad];omega)
     have ax:Hid ((x++[z]).length=k+1/\DQ r=(DQ (r.drop (2*(k+1)))).map ((x++[z]) ++ ·)):=by
      refine⟨by rw[Ab,ad];rfl,?_⟩;rw[(Da S).2,<-Da HQ,Da ah];have p:2*(k+1)=q+2:=by have:=Da HQ;omega
      rw[p];show((if GJ F<0\/GJ G<0 then none else (DQ (r.drop (q+2))).map (fun r=>UInt8.ofNat ((GJ F).toNat*16+(GJ G).toNat)::r)):Option (List UInt8)).map _=_;rw[<-(Da Q).1,<-(Da Q).2,if_neg (by omega),BB,BB,<-hz]
      cases DQ (r.drop (q+2)) with
      | none=>rfl
      | some y=>simp
     have aA:Hid (cP b w2 (.slice a2 l2 c2) (s++ba (x++[z]))):=by
      have e:s++ba (x++[z])=s++ba x++⟨#[z]⟩:=by
       apply KB;simp only[KQ,DN,AC]
       rfl
      show cP _ _ _ _;rw[e];exact al
     have aw:Hid (Fr (Own (.slice a l c)) w w2/\Dh w (.slice a l c) (.slice a2 l2 c2)):=by
      refine⟨((Da f).1.then (Fr.of_below (X:=Own (.slice a l c)) ac) (fun k _ h=>h)).then aj (fun k hk e=>((Da f).2 k e).elim id (fun h=>by omega)),fun g hg=>?_⟩;rcases ak g hg with U|U
      ·exact(Da f).2 g U
      ·exact .inr (by omega)
     have HW:=Db hW;clear al aj ak au aC aE ac hW A aq ar ae av aD hz ad aB;rw[<-Da HW]at hr;go_wp2_with (at_builtin;refine Aj _ rfl _ _ 59 59 rfl _ _ rfl rfl _ _ hr ?_)
     go_roundw
     case rel=>exact⟨k+1,x++[z],a2,l2,c2,by omega,by rw[(Da ay).1],rfl,ax,aA,aw⟩
     case measure=>
      have:=Da az;have h3:q<3000000:=by omega
      show 2*n-((q:Int)+2).toNat<2*n-(q:Int).toNat;omega
   ·obtain rfl:k=n:=by omega
    have aL:¬(((2*k:Nat):Int)<(R.size:Int)):=by omega
    have o:Hid (U2 w b (.slice a l c) s r (.returned (.tuple #[.slice E O I,.bool true])) wr):=by
     have h0:DQ r=some x:=by
      rw[(Da S).2,Bf (by omega)];show some (x++[])=_;rw[AZ]
     exact⟨.inr ⟨x,E,O,I,h0,rfl,Da HS,(Da f).2⟩,(Da f).1⟩
    clear t K;go_wp2;exact Aq (v := .tuple #[.slice E O I,.bool true]) (by simp[results,Tryz.results211,go_sem]) rfl (Da o)
def Ip:Nat->Int->List UInt8->List UInt8->Option (List UInt8×List UInt8)
 | 0,_,_,_=>none
 | f+1,size,d,rest=>if (d.length:Int)<size then (if (Lib.cut rest [10]).2.2=true then (match DQ (Lib.cut rest [10]).1 with|none=>none|some x=>Ip f size (d++x) (Lib.cut rest [10]).2.1) else none) else some (d,rest)
def JB(told rest:List UInt8):Option (List UInt8×List UInt8):=
 match Lib.atoiAll told with
 | .ok v=>Ip (rest.length+1) v [] rest
 | _=>none
theorem TB:∀{l x:List UInt8},DQ l=some x->2*x.length=l.length
 | [],x,h=>by cases h;rfl
 | [_],x,h=>by cases h
 | a::b::l,x,h=>by
  unfold DQ at h
  split at h
  ·cases h
  ·cases hu:DQ l with
   | none=>rw[hu]at h;cases h
   | some y=>
    rw[hu]at h
    cases h
    have:=TB hu;simp only[Af];omega
def DM(p:List UInt8):Lit := .string p
def Qn(W:World)(n1 rb mb:Nat)(D:DH)(K:Nat)(p told rest:List UInt8)(e:Ending)(W':World):Prop:=
 (JB told rest=none/\e = .returned (.tuple #[.agg #[.string ⟨#[]⟩,.int .u8 0,.int .i64 0,.slice none 0 0],.bool false])\/∃d r a l c,JB told rest=some (d,r)/\e = .returned (.tuple #[.agg #[.string (ba p),.int .u8 2,.int .i64 (Maps.size D),.slice a l c],.bool true])/\cP n1 W' (.slice a l c) (ba d)/\GG rb mb r (D.put (DM p) (.lit (.int .i64 (Maps.size D)))) (K+1) W'/\(∀g,Own (.slice a l c) g->W.heap.size<=g))/\Fr (fun k=>k=rb\/k=mb) W W'
structure Iw(W:World)(rb mb B10:Nat)(D:DH)(K:Nat)(p d rest:List UInt8)(v:Value)(X:World):Prop where
 rg:GG rb mb rest D K X
 b6:FH X W.heap.size 141 [.string ⟨#[]⟩,.int .u8 0,.int .i64 0,.slice none 0 0]
 b10:FH X B10 141 [.string (ba p),.int .u8 2,.int .i64 (Maps.size D),v]
 dat:cP W.heap.size X v (ba d)
 fr:Fr (fun k=>k=rb\/k=mb) W X
 lo:W.heap.size<B10
 hi:rb<W.heap.size/\mb<W.heap.size
 ln:d.length+rest.length<=2000000
section
variable{W:World}{rb mb B10:Nat}{D:DH}{K:Nat}{p d rest told Qa:List UInt8}{v:Value}{X X':World}
def KO(X:World)(b:Nat)(v0 v1 v2 v3:Value):World:=(((X.setCell ⟨b,0,none⟩ v0).setCell ⟨b,1,none⟩ v1).setCell ⟨b,2,none⟩ v2).setCell ⟨b,3,none⟩ v3
theorem Up(X:World)(b:Nat)(a c e f:Value):Fr (fun k=>k=b) X (KO X b a c e f):=
 ((((Fr.refl (fun k=>k=b) X).set ⟨b,0,none⟩ a rfl).set ⟨b,1,none⟩ c rfl).set ⟨b,2,none⟩ e rfl).set ⟨b,3,none⟩ f rfl
theorem Ob(b:Fr (fun k=>k=rb\/k=mb) W X){n1:Nat}(a:JB told Qa=none):Qn W n1 rb mb D K p told Qa (.returned (.tuple #[.agg #[.string ⟨#[]⟩,.int .u8 0,.int .i64 0,.slice none 0 0],.bool false])) (KO X W.heap.size (.string ⟨#[]⟩) (.int .u8 0) (.int .i64 0) (.slice none 0 0)):=
 ⟨.inl ⟨a,rfl⟩,b.then (Up _ _ _ _ _ _) (fun k hk e=>by omega)⟩
theorem Iw.own(h:Iw W rb mb B10 D K p d rest v X){k:Nat}(b:Own v k):W.heap.size<=k/\k≠W.heap.size/\k≠B10:=by
 obtain⟨L,a⟩:=h.dat.typed b;refine⟨h.dat.2 k b,fun e=>?_,fun e=>?_⟩
 ·subst e;have:=a.type h.b6;cases this
 ·subst e;have:=a.type h.b10;cases this
theorem Iw.line(h:Iw W rb mb B10 D K p d rest v X)(_h4:4<=W.heap.size):
  Cl 154 #[.pointer (some ⟨rb,0,none⟩)] X fun e X'=>e = .returned (.tuple #[.string (ba (Lib.cut rest [10]).1),.bool (Lib.cut rest [10]).2.2])/\Iw W rb mb B10 D K p d (Lib.cut rest [10]).2.1 v X':=by
 refine(R8 h.rg).mono ?_;rintro e X' ⟨rfl,b,a⟩;have hi:=h.hi;have lo:=h.lo;have hl:=(Qu rest 10).1;have hn:=h.ln;exact⟨rfl,b,h.b6.fr a (by omega),h.b10.fr a (by omega),⟨h.dat.1.fr a (fun g c e=>by have:=(h.own c).1;omega),h.dat.2⟩,h.fr.then a (fun k _ e => .inl e),h.lo,h.hi,by omega⟩
theorem Iw.app(h:Iw W rb mb B10 D K p d rest v X){a:OA}{l c:Nat}(E:v = .slice a l c)(h4:4<=W.heap.size)(r:List UInt8)(hr:d.length+r.length+rest.length<=2000000):
  Cl 211 #[.slice a l c,.string (ba r)] X fun e X'=>(DQ r=none/\e = .returned (.tuple #[.slice none 0 0,.bool false])\/∃x b i f,DQ r=some x/\e = .returned (.tuple #[.slice b i f,.bool true])/\Iw W rb mb B10 D K p (d++x) rest (.slice b i f) (X'.setCell ⟨B10,3,none⟩ (.slice b i f)))/\FH X' W.heap.size 141 [.string ⟨#[]⟩,.int .u8 0,.int .i64 0,.slice none 0 0]/\FH X' B10 141 [.string (ba p),.int .u8 2,.int .i64 (Maps.size D),v]/\Fr (fun k=>k=rb\/k=mb) W X':=by
 subst E;have C:=h.fr.size;refine(app_rd X W.heap.size C a l c (ba d) h.dat r (by rw[DR];omega)).mono ?_;rintro e X' ⟨z,n⟩;have hi:=h.hi;have lo:=h.lo;have w:FH X' W.heap.size 141 _:=h.b6.fr n (fun e=>(h.own e).2.1 rfl);have t:FH X' B10 141 _:=h.b10.fr n (fun e=>(h.own e).2.2 rfl);have u:Fr (fun k=>k=rb\/k=mb) W X':=h.fr.then n (fun k j e=>by have:=(h.own e).1;omega);refine⟨?_,w,t,u⟩;rcases z with⟨m,q⟩|⟨x,b,i,f,m,q,s,h5⟩
 ·exact .inl ⟨m,q⟩
 ·refine .inr ⟨x,b,i,f,m,q,?_⟩;have aa:=TB m;have B:GG rb mb rest D K X':=h.rg.fr n (fun e=>by have:=(h.own e).1;omega) (fun e=>by have:=(h.own e).1;omega) (fun k j e=>by have:=(h.own e).1;omega);have o:Fr (fun k=>k=B10) X' (X'.setCell ⟨B10,3,none⟩ (.slice b i f)):=(Fr.refl _ _).set _ _ rfl;have ho:∀k,Own (.slice b i f) k->k≠B10:=fun k j e=>by
   obtain⟨L,y⟩:=s.typed j;subst e;have:=y.type t;cases this
  refine⟨B.fr o (by omega) (by omega) (fun k j e=>by omega),w.fr o (by omega),t.set 3 _,?_,u.then o (fun k j e=>by omega),h.lo,h.hi,by rw[Ab];omega⟩;have e:ba (d++x)=ba d++ba x:=KB (by rw[KQ,DN,DN,DN]);rw[e];exact⟨s.1.fr o (fun g A e=>ho g A e),s.2⟩
end
end Go.Proofs.YtaieidcohdhgpaaGreatDoor
