/- Told. -/
import Derived.Test.YtaieidcohdhgpaaGreatDoorYAQ
namespace Go.Proofs.YtaieidcohdhgpaaGreatDoor
set_option maxHeartbeats 40000000
set_option maxRecDepth 100000
section
open Tryz
open Go.RowKit Go.Shelf
attribute [local go_sem] Oper.semAt_some
theorem YQ:(prog.info? 161).map (λi=>(i.zero,i.size))=some (some (.agg [Value.pointer none,Value.slice none 0 0].toArray),2):=by kernel_rfl
theorem Zt:∀w,(zeroValue 161).run prog w=.ok (.agg [Value.pointer none,Value.slice none 0 0].toArray) w:=(Et YQ).1
theorem YR:(prog.info? 162).map (λi=>(i.zero,i.size))=some (some (.agg (List.replicate 60 (.string ⟨#[]⟩)).toArray),60):=by kernel_rfl
theorem Zu:∀w,(zeroValue 162).run prog w=.ok (.agg (List.replicate 60 (.string ⟨#[]⟩)).toArray) w:=(Et YR).1
theorem Zlc:KC (λ_=>⟨#[]⟩)=List.replicate 60 (.string ⟨#[]⟩):=by
 unfold KC;exact List.map_const' .. |>.trans (by rw[AU])
section
variable{w:World}{Bt tb:Nat}{T T':List UInt8}{told told':NB}{X X':World}
theorem Hq.chg(h:Hq w Bt tb T told X){B:Nat}(q:Bt<B)(s:GB B X X'):Hq w Bt tb T told X':=by
 have ac:=h.lo;obtain⟨row,a,f⟩:=s;have ne:∀k,k<B->some k≠row:=λk b e=>by have:=(f k e.symm).1;omega
 have i:∀{j:Nat} {t:TypeId} {R:F0},FX X j t R->j<B->FX X' j t R:=λd x=>(a.block _ d.lt (ne _ x)).trans d
 have r:Bd w.heap.size T X':=by
  have l:∀{v:Value},Lib.BuilderAtF 161 5 w.heap.size w.heap.size v (Lib.byteCells T) X->Lib.BuilderAtF 161 5 w.heap.size w.heap.size v (Lib.byteCells T) X':=λ{v} ⟨m,v,n,c,p⟩=>by
   refine⟨m,v,(a.block _ h.bd.2 (ne _ (by omega))).trans n,c.kept a ?_,p⟩;rcases c.2 with⟨rfl,_⟩|⟨g,aa,ab,fz,rfl,_,u,_⟩
   ·exact .inl rfl
   ·refine .inr (λe=>?_);obtain⟨_,o,ho,y⟩:=f g e.symm;rw[u]at ho;cases ho;have:=NU y
    cases this
  exact⟨h.bd.1.imp l l,AY h.bd.2 a.size⟩
 exact⟨r,i h.tl (by omega),i h.bt q,⟨a.os.trans h.fr.os,a.tape.trans h.fr.tape,a.output.trans h.fr.output,Af h.fr.size a.size,λk b=>(a.block k (AY b h.fr.size) (ne k (by omega))).trans (h.fr.block k b)⟩,h.lo⟩
theorem Hq.end(h:Hq w Bt tb T told X)(a:IF w.heap.size X X'){n1:Nat}(hn:Bt<n1)(B:Nat):KeepsFrom B X X'/\Id w.heap.size n1 X X'/\X'.heap[Bt]?=X.heap[Bt]? := by
 have aa:=h.lo;obtain⟨p,v,k⟩:∃p v,X.heap[w.heap.size]?=some (.cells #[p,v] 161 (0,0)):=by
  rcases h.bd.1 with⟨_,v,d,_⟩|⟨_,v,d,_⟩
  ·exact⟨_,v,d⟩
  ·exact⟨_,v,d⟩
 have f:=h.tl;unfold FX at f;refine⟨⟨a.1.size,λj o _ ho b=>a.2 j o ho (λe=>?_) (λe=>?_) (λc g e=>by rw[e]at b;cases b)⟩,⟨a.1,λj o hj ho i=>a.2 j o ho (by omega) (by omega) (λc g e=>?_)⟩,(a.row h.bt (by omega) (by omega) (by decide)).trans (Eq.symm h.bt)⟩
 ·rw[e,k]at ho;cases ho;cases b
 ·rw[e,f]at ho;cases ho;cases b
 ·subst e;have:=NU i
  cases this
end
theorem ZkT{n:Nat}{A B:World}(h:Below n A B)(o:Obj){D:Nat}(hD:n<=D):Below n A (B.putObj D o):=⟨h.os,h.tape,h.output,by simp[World.putObj];exact h.size,λk a=>(Bs (by omega)).trans (h.block k a)⟩
theorem dump_code(w : World)(n0 tb rd : Nat){V : Nat → Value}{E : Nat → List (ByteArray × VS)}{vi : Value}{G : Gh}{I : List (Int × VF)}{CI : Int → ByteArray}{ch : List ByteArray → List Ek}{dv : Nat → Value}{C : Nat → ByteArray}(H : IP w tb rd V E vi G I CI ch dv C)(hn0 : n0 ≤ w.heap.size)(htab : Lib.TabBelow prog n0 w "internal/strconv.uint64pow10" .u64 Lib.pow10Tab) :
  Cl 54 #[.pointer (some ⟨tb,0,none⟩)] w λe w'=>e=.returned (.string ⟨(GN C (Dt ch)).1.toArray⟩)/\Bw w w':=by
 obtain⟨W1,e1,x1,k1,s1,b1⟩:=De w [.pointer none,.slice none 0 0] 161;obtain⟨W2,e2,x2,k2,s2,b2⟩:=De W1 (List.replicate 60 (.string ⟨#[]⟩)) 162;have hb2:Bw w W2:=b1.trans (b2.mono (by omega));have hB2:Bd w.heap.size [] W2:=(show Bd w.heap.size [] W1 by rw[<-e1];exact Bd.fresh w).below b2;obtain⟨W3,e3,x3,k3,s3,b3⟩:=De W2 [.string ⟨#[115,105,108,116]⟩] 9;have t2:W2.heap.size=w.heap.size+1+1:=by omega
 rw[s1]at x2;obtain⟨L,hL⟩:=ex (Dt ch);have hbd:∀y∈L,(jn y.ns).size<=100/\(y.k=2->(C y.f).size<=1280):=λy hy=>by rw[hL]at hy;exact⟨H.ok.path y hy,H.ok.size y hy⟩
 have hlen:L.length<=100:=by rw[hL];exact H.ok.len
 have HBD:=Db hbd;have HLEN:=Db hlen;have HL:Hid (Cl 114 #[.pointer (some ⟨w.heap.size,0,none⟩),.slice (some ⟨w.heap.size+1+1,0,none⟩) 1 1] W3 λe X=>e=.returned (.tuple #[])/\Hid (∃W4,X.alloc (.cells #[.pointer (some ⟨tb,0,none⟩)] 37)=W4/\W4.heap.size=X.heap.size+1/\Hq w X.heap.size tb (GN C []).1 (GN C []).2 W4/\Bw w W4/\FX W4 X.heap.size 37 [.pointer (some ⟨tb,0,none⟩)])):=by
  rw[t2]at x3;refine(Wh (hB2.below b3) (w.heap.size+1+1) 1 [⟨#[115,105,108,116]⟩] (λj x hj=>?_) x3.lt (Aa _) (by decide) (by decide)).mono ?_
  ·rw[x3.cell]
   cases j with
   |zero=>cases hj;rfl
   |succ j=>cases hj
  ·rintro e X⟨rfl,h1,h2⟩;refine⟨rfl,?_⟩;obtain⟨W4,e4,x4,k4,s4,b4⟩:=De X [.pointer (some ⟨tb,0,none⟩)] 37;have hw2:=h2.1.size;have hX:Bw w X:=(hb2.trans (b3.mono (by omega))).trans h2.1;have hX4:Bw w W4:=hX.trans (b4.mono hX.size);have htl:FX X (w.heap.size+1) 162 (KC (λ_=>⟨#[]⟩)):=by rw[Zlc];exact h2.row (k3 _ _ _ x2) (.inr ⟨by omega,by decide⟩)
   exact⟨W4,e4,s4,⟨h1.below b4,k4 _ _ _ htl,x4,hX4,by omega⟩,hX4,x4⟩
 have HE1:=Db e1;have HE2:=Db e2;have HE3:=Db e3;have HH:=Db H;have HT2:=Db t2;have HS1:=Db s1;have HTB:=Db htab;have HMEM:Hid (∀k y,L[k]?=some y->∃va vl vc,J5 dv y=.agg #[.string (jn y.ns),.int .u8 (y.k:Nat),.int .i64 (y.f:Nat),.slice va vl vc]/\(y.k=2->Sl w 5 1 (.slice va vl vc) vl (Dc (C y.f)))):=λk y hy=>by
  unfold J5;by_cases hk:y.k=2
  ·rw[if_pos hk];obtain⟨a2,l2,c2,q1,q2⟩:=H.dat y (by rw[<-hL];exact Ar hy) hk;exact⟨a2,l2,c2,by rw[q1],λ_=>q2⟩
  ·rw[if_neg hk];exact⟨_,_,_,rfl,λe=>absurd e hk⟩
 have HKN:Hid (∀y∈L,(y.k=1\/y.k=2\/y.k=3)/\y.f<60):=λy hy=>by rw[hL]at hy;exact⟨H.ok.kind y hy,H.ok.num y hy⟩
 have HLL:=Db hL;rw[<-hL];clear x1 x2 x3 k1 k2 k3 s1 s2 s3 b1 b2 b3 e1 e2 e3 hb2 hB2 t2 hL H htab hbd hlen;refine(A2 (n:=3)).1 ?_;refine Br func54 rfl trivial ?_ rfl;simp only[ntmps54,AM,Al,AK,Nat.reduceAdd,Nat.reduceSub,AQ,AP,AZ,AT,AD,AN]
 gi_step
 gi_step
 gi_step
 gi_step
 gi_step
 gi_step
 gi_step
 gi_step
 gi_step
 gi_step
 refine BE.2 (AX ?_);refine JN rfl 161 rfl Zt ?_;refine El ?_;rw[show w.alloc (.cells [Value.pointer none,Value.slice none 0 0].toArray 161)=W1 from Da HE1];rename_i hK;refine hK _ _ ?_;clear hK
 gi_step
 refine BE.2 (AX ?_);refine JN rfl 162 rfl Zu ?_;refine El ?_;rw[show W1.alloc (.cells (List.replicate 60 (Value.string ⟨#[]⟩)).toArray 162)=W2 from Da HE2];rename_i hK;refine hK _ _ ?_;clear hK;rw[Da HS1]
 gi_wp2_with (refine⟨trivial,?_⟩;first|(gi_at_call 114;rw[show W2.alloc (.cells #[.string ⟨#[115,105,108,116]⟩] 9)=W3 from Da HE3,Da HT2];refine(A2.2 (Da HL)).mono ?_;rintro e X⟨rfl,HX⟩)|(gi_at_call 115;refine(SS _ _ _).mono ?_;rintro e w'⟨rfl,rfl⟩))
 obtain⟨W4,e4,s4,hI0,hb4,x4⟩:=Da HX;have hseq:=TZ w W4 X.heap.size tb rd V E vi G I CI ch dv (Da HH).wk hb4 x4;rw[<-Da HLL]at hseq;rw[show X.alloc (.cells #[.pointer (some ⟨tb,0,none⟩)] 37)=W4 from e4];have hlo:=hI0.lo;have HS4:=Db s4;have HE4:=Db e4;have HLO:=Db hlo;clear HE1 HE2 HE3 HX e4 HL HS1 HT2 HH;refine RQ (gf:=169) (lb:=#[.pointer (some ⟨X.heap.size,0,none⟩)]) rfl (EB func169 (by kernel_rfl) rfl)
  hseq (Ak _ _) (λh k=>⟨h.1.trans k.1,k.2.trans h.2⟩) (λY o o' ho _=>⟨Id.chgs Y o' _ (by omega) (by omega),Bs (by omega)⟩) (Vp _ _)
  (λk Y=>Hq w X.heap.size tb (GN C (L.take k)).1 (GN C (L.take k)).2 Y)
  (λk A A' hA hc=>hA.chg (by omega) hc)
  hI0
  (λk a' Y=>∃Bx y va vl vc,L[k]?=some y/\W4.heap.size+2<=Bx/\FX Y Bx 141 [.string (jn y.ns),.int .u8 (y.k:Nat),.int .i64 (y.f:Nat),.slice va vl vc]/\(y.k=2->Sl w 5 1 (.slice va vl vc) vl (Dc (C y.f)))/\a'={ tmps:=#[.pointer (some ⟨tb,0,none⟩),undef,.string ⟨#[]⟩,.pointer (some ⟨w.heap.size,0,none⟩),.pointer (some ⟨w.heap.size+1,0,none⟩),.pointer (some ⟨Bx,0,none⟩),.slice (some ⟨w.heap.size+1+1,0,none⟩) 1 1,.tuple #[],.pointer (some ⟨tb,0,none⟩),.func (.func 169) #[] #[.pointer (some ⟨X.heap.size,0,none⟩)],.agg #[.string (jn y.ns),.int .u8 (y.k:Nat),.int .i64 (y.f:Nat),.slice va vl vc],undef,undef,undef,undef,undef,undef,undef,undef,undef,undef,undef,undef,undef,undef,undef,undef,undef,undef,undef,undef,undef,undef,undef,undef,undef,undef,undef,undef,undef,undef,undef,undef,undef,undef,undef,undef,undef],defers:=[] })
  (λk a' A A' hA hs hc hj=>by
   obtain⟨Bx,y,va,vl,vc,hy,hBx,hr,hv,ha⟩:=hA;exact⟨Bx,y,va,vl,vc,hy,hBx,(hj Bx hBx).trans hr,hv,ha⟩)
  ?assign ?body ?done
 case assign=>
  rintro k Y Kk hk hI hz hgo;obtain⟨y,hy⟩:∃y,L[k]?=some y:=⟨_,Ac hk⟩;obtain⟨va,vl,vc,hv,hsl⟩:=Da HMEM k y hy;rw[Vc hy,hv];have HY:=Db hy;have HV:=Db hsl;have HGO:=Db hgo;have HZ:=Db hz;have HI:=Db hI;clear hy hv hsl hgo hz hI s4 hlo hseq hI0 hb4 x4
  gi_wp2
  have hI:=Da HI;have s4:=Da HS4;have hlo:=Da HLO;have hal:GB (X.heap.size+1) Y (Y.alloc (.cells #[.string (jn y.ns),.int .u8 (y.k:Nat),.int .i64 (y.f:Nat),.slice va vl vc] 141)):=GB.alloc _ _;have hbl:Bw Y (Y.alloc (.cells #[.string (jn y.ns),.int .u8 (y.k:Nat),.int .i64 (y.f:Nat),.slice va vl vc] 141)):=(Ak _ Y).alloc (Aa _) _;have hz:=Da HZ;exact Da HGO _ _ ((Es _ _).from _) ⟨⟨hbl.mono (by omega),λj o hj ho _=>(hbl.block j (Aj.1 ho).1).trans ho⟩,hbl.block _ (by omega)⟩ (hI.chg (by omega) hal) ⟨Y.heap.size,y,va,vl,vc,Da HY,hz,B9 Y _,Da HV,rfl⟩
 case body=>
  rintro k a' Y hk hz hI⟨Bx,y,va,vl,vc,hy,hBx,hrow,hsl,rfl⟩;have hym:=Ar hy;obtain⟨hkind,hf⟩:=Da HKN y hym;have hbl:=Ze (C:=C) (L.take k) (λz hz=>Da HBD z (Bv hz));have hTl:(GN C (L.take k)).1.length<=400000:=by
   have h1:=Da HLEN;have h2:=hbl.1;rw[An]at h2;omega
  have htl:=hbl.2;have hnx:GN C (L.take (k+1))=Ll C (GN C (L.take k)) y:=by rw[BK,hy,Fd,Z2]
  have hil:=Tq C (GN C (L.take k)).2 y (Da HBD y hym).1 (Da HBD y hym).2 (htl _);obtain⟨T,hT⟩:=ex ((GN C (L.take k)).1);obtain⟨told,htd⟩:∃t,t=(GN C (L.take k)).2:=⟨_,rfl⟩;have HEND:Hid (∀Z,Hq w X.heap.size tb (T++IM C told y) (I5 told y) Z->IF w.heap.size Y Z->KeepsFrom W4.heap.size Y Z/\(Id w.heap.size (W4.heap.size+2) Y Z/\Z.heap[X.heap.size]?=Y.heap[X.heap.size]?)/\Hq w X.heap.size tb (GN C (L.take (k+1))).1 (GN C (L.take (k+1))).2 Z):=λZ h1 h2=>by
   obtain⟨q1,q2,q3⟩:=hI.end h2 (n1:=W4.heap.size+2) (by omega) W4.heap.size;refine⟨q1,⟨q2,q3⟩,?_⟩;rw[hnx];show Hq w X.heap.size tb ((GN C (L.take k)).1++IM C (GN C (L.take k)).2 y) (I5 (GN C (L.take k)).2 y) Z;rw[<-hT,<-htd];exact h1
  rw[<-hT,<-htd]at hI;rw[<-hT]at hTl;rw[<-htd]at htl hil;have d0:=(hrow.cell 0).trans (show _=some (Value.string (jn y.ns)) from rfl);have d1:=(hrow.cell 1).trans (show _=some (Value.int .u8 (y.k:Nat)) from rfl);have d2:=(hrow.cell 2).trans (show _=some (Value.int .i64 (y.f:Nat)) from rfl);have d3:=(hrow.cell 3).trans (show _=some (Value.slice va vl vc) from rfl);have dt:Y.cell? ⟨w.heap.size+1,y.f,none⟩=some (.string (told y.f)):=(hI.tl.cell y.f).trans (Tc told hf);have df:Y.frozen? ⟨w.heap.size+1,y.f,none⟩=false:=hI.tl.frozen y.f;have hfi:(y.f:Int)<60:=by omega
  have hB1:Bx≠w.heap.size/\Bx≠w.heap.size+1:=by omega
  rcases hkind with hk1|hk1|hk1
  ·have HC:Hid (Cl 114 #[.pointer (some ⟨w.heap.size,0,none⟩),.slice (some ⟨Y.heap.size,0,none⟩) 2 2] (Y.alloc (.cells #[.string ⟨#[100]⟩,.string (jn y.ns)] 9)) λe Z=>e=.returned (.tuple #[])/\Hid (KeepsFrom W4.heap.size Y Z/\(Id w.heap.size (W4.heap.size+2) Y Z/\Z.heap[X.heap.size]?=Y.heap[X.heap.size]?)/\Hq w X.heap.size tb (GN C (L.take (k+1))).1 (GN C (L.take (k+1))).2 Z)):=by
    have e1:IM C told y=Iy [⟨#[100]⟩,jn y.ns]:=by unfold IM;rw[if_pos hk1]
    have e2:I5 told y=told:=by unfold I5;rw[if_neg (by omega)]
    refine(hI.line [⟨#[100]⟩,jn y.ns] (by show 2<=_;omega) (by rw[<-e1];omega)).mono ?_;rintro e Z⟨rfl,h1,h2⟩;exact⟨rfl,Da HEND Z (by rw[e1,e2];exact h1) h2⟩
   rw[hk1]at d1;clear HEND hI hrow hsl hk hz hBx hB1 hTl htl hil hT htd hnx hbl hy hym s4 hlo hseq hI0 hb4 x4 dt df d2 d3 hf hfi
   gi_wp2_with (refine⟨trivial,?_⟩;gi_at_call 114;refine(Cx _ (A2.2 (Da HC))).mono ?_;rintro e Z⟨rfl,HE⟩)
   exact Da HE
  ·obtain⟨Y2,hY2⟩:∃Y2,Y.setCell ⟨w.heap.size+1,y.f,none⟩ (.string (jn y.ns))=Y2:=⟨_,rfl⟩;obtain⟨hI2,hF2⟩:=hI.tell y.f (jn y.ns);rw[hY2]at hI2 hF2;have e1:IM C told y=Iy [⟨#[102]⟩,jn y.ns,Il (C y.f).size]++JJ (C y.f):=by unfold IM;rw[if_neg (by omega),if_pos hk1]
   have e2:I5 told y=λn=>if n=y.f then jn y.ns else told n:=by unfold I5;rw[if_pos hk1]
   have hS:=hsl hk1;have hvl:vl=(C y.f).size:=by have:=hS.1;rw[Dg]at this;omega
   have hcs:=(Da HBD y hym).2 hk1;have hr2:FX Y2 Bx 141 _:=hF2.row hrow hB1.1 hB1.2 (by decide);have HC:Hid (Cl 116 #[.int .i64 (vl:Nat)] Y2.drew λe Z=>e=.returned (.string (Il vl))/\(Z.cell? ⟨Bx,0,none⟩=some (.string (jn y.ns))/\Z.cell? ⟨Bx,3,none⟩=some (.slice va vl vc))/\(∃Z1,Z.alloc (.cells #[.string ⟨#[102]⟩,.string (jn y.ns),.string (Il vl)] 9)=Z1/\(Z1.cell? ⟨Bx,0,none⟩=some (.string (jn y.ns))/\Z1.cell? ⟨Bx,3,none⟩=some (.slice va vl vc))/\Hid (Cl 114 #[.pointer (some ⟨w.heap.size,0,none⟩),.slice (some ⟨Z.heap.size,0,none⟩) 3 3] Z1 λe U=>e=.returned (.tuple #[])/\(U.cell? ⟨Bx,0,none⟩=some (.string (jn y.ns))/\U.cell? ⟨Bx,3,none⟩=some (.slice va vl vc))/\Hid (Cl 117 #[.pointer (some ⟨w.heap.size,0,none⟩),.slice va vl vc] U λe Q=>e=.returned (.tuple #[])/\Hid (KeepsFrom W4.heap.size Y Q/\(Id w.heap.size (W4.heap.size+2) Y Q/\Q.heap[X.heap.size]?=Y.heap[X.heap.size]?)/\Hq w X.heap.size tb (GN C (L.take (k+1))).1 (GN C (L.take (k+1))).2 Q))))):=by
    have hcl:∀{Z:World},FX Z Bx 141 [.string (jn y.ns),.int .u8 (y.k:Nat),.int .i64 (y.f:Nat),.slice va vl vc]->Z.cell? ⟨Bx,0,none⟩=some (.string (jn y.ns))/\Z.cell? ⟨Bx,3,none⟩=some (.slice va vl vc):=λh=>⟨(h.cell 0).trans rfl,(h.cell 3).trans rfl⟩
    have h2d:=hI2.below (Ak _ _).drew;refine(Tryz.strconv_Itoa (vl:Int) (by omega) (by omega) Y2.drew ((Da HTB).on (h2d.fr.mono hn0)).here).mono ?_;rintro e Z⟨rfl,hZ⟩;have hbZ:=Zjp hZ;have hIZ:=h2d.below hbZ;have hbZ':Bw Y2 Z:=(Ak _ Y2).drew.trans hbZ;have hrZ:FX Z Bx 141 _:=(hbZ'.block _ hr2.lt).trans hr2;refine⟨rfl,hcl hrZ,?_⟩;obtain⟨Z1,eZ,xZ,kZ,sZ,bZ⟩:=De Z [.string ⟨#[102]⟩,.string (jn y.ns),.string (Il vl)] 9;refine⟨Z1,eZ,hcl (kZ _ _ _ hrZ),?_⟩;rw[e1,Ab,<-hvl]at hil;have hln:=hIZ.line [⟨#[102]⟩,jn y.ns,Il vl] (by show 3<=_;omega) (by omega);rw[show Z.alloc (.cells ([⟨#[102]⟩,jn y.ns,Il vl].map Value.string).toArray 9)=Z1 from eZ]at hln;refine hln.mono ?_;rintro e U⟨rfl,h1,h2⟩;have hrU:FX U Bx 141 _:=h2.row hrZ hB1.1 hB1.2 (by decide);refine⟨rfl,hcl hrU,?_⟩;refine(Zku h1.bd va vl vc (C y.f) (hS.kept (λj hj _=>h1.fr.block j hj)) (λj hj=>hS.lt hj) hcs (by rw[Ab];omega)).mono ?_;rintro e Q⟨rfl,h3,h4⟩;refine⟨rfl,Da HEND Q ?_ ((hF2.trans (IF.below hbZ' (CC hI2.bd.2))).trans (h2.trans h4.of))⟩;rw[e1,e2,<-hvl,<-Ax];exact h1.on h3 h4
   have c0:=(hr2.cell 0).trans (show _=some (Value.string (jn y.ns)) from rfl);have c3:=(hr2.cell 3).trans (show _=some (Value.slice va vl vc) from rfl);rw[hk1]at d1;have HY2:=Db hY2;clear HEND hI hrow hsl hk hz hBx hB1 hTl htl hil hT htd hnx hbl hy hym s4 hlo hseq hI0 hb4 x4 hf hI2 hF2 e1 e2 hS hvl hcs hr2 hY2 d3
   gi_wp2
   rw[show Y.setCell ⟨w.heap.size+1,y.f,none⟩ (.string (jn y.ns))=Y2 from Da HY2];clear HY2 d0 d1 d2 dt df;refine Qw (λV=>V.cell? ⟨Bx,0,none⟩=some (.string (jn y.ns))/\V.cell? ⟨Bx,3,none⟩=some (.slice va vl vc)) (by kernel_rfl) (λhh=>by obtain⟨_,_,hh⟩:=hh;exact hh) (by kernel_rfl) ⟨c0,c3⟩ (λhHeld=>?_);refine tk 0 ?_;refine tk 1 ?_;refine tk 2 ?_;refine tk 3 ?_;refine tk 4 ?_;refine rk 5 (λK hK=>?_);go_simp;go_at_call 116;refine(Da HC).mono ?_;rintro e Z⟨rfl,mZ,Z1,eZ,m1,HC2⟩;go_wp2_with fail;refine hK.out _ _ mZ (λhH5=>?_);clear hK K
   try simp only[pE]
   refine rk 6 (λK hK=>?_);go_simp;refine hK.out _ _ m1 (λhH6=>?_);clear hK K
   try simp only[pE]
   refine rk 7 (λK hK=>?_);go_simp;go_at_call 114;refine(Da HC2).mono ?_;rintro e U⟨rfl,mU,HC3⟩;go_wp2_with fail;refine hK.out _ _ mU (λhH7=>?_);clear hK K
   try simp only[pE]
   refine AO (by kernel_rfl) ?_ _;have d3:=mU.2
   gi_wp2_with (refine⟨trivial,?_⟩;gi_at_call 117;refine(Cx _ (A2.2 (Da HC3))).mono ?_;rintro e Q⟨rfl,HE⟩)
   exact Da HE
  ·have HC:Hid (∃Z1,Y.drew.alloc (.cells #[.string ⟨#[108]⟩,.string (jn y.ns),.string (told y.f)] 9)=Z1/\(Z1.cell? ⟨Bx,0,none⟩=some (.string (jn y.ns))/\Z1.cell? ⟨Bx,2,none⟩=some (.int .i64 (y.f:Nat))/\Z1.cell? ⟨w.heap.size+1,y.f,none⟩=some (.string (told y.f)))/\Hid (Cl 114 #[.pointer (some ⟨w.heap.size,0,none⟩),.slice (some ⟨Y.heap.size,0,none⟩) 3 3] Z1 λe Z=>e=.returned (.tuple #[])/\(Z.cell? ⟨Bx,0,none⟩=some (.string (jn y.ns))/\Z.cell? ⟨Bx,2,none⟩=some (.int .i64 (y.f:Nat))/\Z.cell? ⟨w.heap.size+1,y.f,none⟩=some (.string (told y.f)))/\Hid (KeepsFrom W4.heap.size Y Z/\(Id w.heap.size (W4.heap.size+2) Y Z/\Z.heap[X.heap.size]?=Y.heap[X.heap.size]?)/\Hq w X.heap.size tb (GN C (L.take (k+1))).1 (GN C (L.take (k+1))).2 Z))):=by
    have e1:IM C told y=Iy [⟨#[108]⟩,jn y.ns,told y.f]:=by unfold IM;rw[if_neg (by omega),if_neg (by omega)]
    have e2:I5 told y=told:=by unfold I5;rw[if_neg (by omega)]
    have hId:=hI.below (Ak _ _).drew;obtain⟨Z1,eZ,xZ,kZ,sZ,bZ⟩:=De Y.drew [.string ⟨#[108]⟩,.string (jn y.ns),.string (told y.f)] 9;have hcl:∀{Z:World},FX Z Bx 141 [.string (jn y.ns),.int .u8 (y.k:Nat),.int .i64 (y.f:Nat),.slice va vl vc]->FX Z (w.heap.size+1) 162 (KC told)->Z.cell? ⟨Bx,0,none⟩=some (.string (jn y.ns))/\Z.cell? ⟨Bx,2,none⟩=some (.int .i64 (y.f:Nat))/\Z.cell? ⟨w.heap.size+1,y.f,none⟩=some (.string (told y.f)):=λh h'=>⟨(h.cell 0).trans rfl,(h.cell 2).trans rfl,(h'.cell y.f).trans (Tc told hf)⟩
    refine⟨Z1,eZ,hcl (kZ _ _ _ hrow) (kZ _ _ _ hI.tl),?_⟩;have hln:=hId.line [⟨#[108]⟩,jn y.ns,told y.f] (by show 3<=_;omega) (by rw[<-e1];omega);rw[show Y.drew.alloc (.cells ([⟨#[108]⟩,jn y.ns,told y.f].map Value.string).toArray 9)=Z1 from eZ]at hln;refine hln.mono ?_;rintro e Z⟨rfl,h1,h2⟩;have h2':IF w.heap.size Y Z:=(IF.below (Ak _ _).drew (CC hI.bd.2)).trans h2;refine⟨rfl,hcl (h2'.row hrow hB1.1 hB1.2 (by decide)) h1.tl,Da HEND Z (by rw[e1,e2];exact h1) h2'⟩
   obtain⟨Z1,eZ,m1,HC2⟩:=Da HC;have HEZ:=Db eZ;rw[hk1]at d1;clear HEND hI hrow hsl hk hz hBx hB1 hTl htl hil hT htd hnx hbl hy hym s4 hlo hseq hI0 hb4 x4 df d3 hf HC eZ
   gi_wp2
   refine Qw (λV=>V.cell? ⟨Bx,0,none⟩=some (.string (jn y.ns))/\V.cell? ⟨Bx,2,none⟩=some (.int .i64 (y.f:Nat))/\V.cell? ⟨w.heap.size+1,y.f,none⟩=some (.string (told y.f))) (by kernel_rfl) (λhh=>by obtain⟨_,_,hh⟩:=hh;exact hh) (by kernel_rfl) ⟨d0,d2,dt⟩ (λhHeld=>?_);refine tk 0 ?_;refine tk 1 ?_;refine tk 2 ?_;refine tk 3 ?_;refine tk 4 ?_;refine tk 5 ?_;refine rk 6 (λK hK=>?_);go_simp;rw[show(Y.alloc (.cells #[.string ⟨#[108]⟩,.string (jn y.ns),.string (told y.f)] 9)).drew=Z1 from Da HEZ];refine hK.out _ _ m1 (λhH6=>?_);clear hK K
   try simp only[pE]
   refine rk 7 (λK hK=>?_);go_simp;go_at_call 114;refine(Da HC2).mono ?_;rintro e U⟨rfl,mU,HE⟩;go_wp2_with fail;refine hK.out _ _ mU (λhH7=>?_);clear hK K
   try simp only[pE]
   refine AO (by kernel_rfl) ?_ _
   gi_wp2
   exact Da HE
 case done=>
  rintro Y hz hI hD;rw[Cy]at hI;have HI:=Db hI;have HST:Hid (Cl 118 #[.pointer (some ⟨w.heap.size,0,none⟩)] Y λe Z=>e=.returned (.string ⟨(GN C L).1.toArray⟩)/\Hid (Bw w Z/\∀D:Nat,Y.heap[D]?=some (Obj.deferred (some []))->Z.heap[D]?=some (Obj.deferred (some [])))):=by
   refine(Tryz.Builder_String w.heap.size w.heap.size (GN C L).1 Y hI.bd.1 (CC hI.bd.2)).mono ?_;rintro e Z⟨rfl,h1,h2,h3⟩;exact⟨rfl,hI.fr.trans h2,λD hD=>(GS.others ⟨h2,h3⟩ hI.bd).2 D _ hD rfl⟩
  clear hI hseq hI0 hb4 x4 s4 hlo hz;rename_i K0 hK0;have HD:=Db hD;clear hD;show K0 _ _;refine hK0 _ _ ?_;clear hK0
  gi_wp2_with (refine⟨trivial,?_⟩;gi_at_call 118;refine(A2.2 (Da HST)).mono ?_;rintro e Z⟨rfl,HZ⟩)
  obtain⟨h1,h2⟩:=Da HZ;have hK:=h2 _ (Da HD);refine⟨by simp,.inl ⟨_,_,rfl,BP hK,?_⟩⟩;refine⟨_,Eu rfl _ _ _,rfl,?_⟩;exact ZkT h1 _ (by have:=Da HS4;have:=Da HLO;omega)
end
open Tryz
open Go.RowKit Go.Maps
def ba(l:List UInt8):By:=⟨l.toArray⟩
theorem Jo(l:List UInt8):BL (ba l)=l:=by simp[BL,ba]
theorem JM(l:List UInt8):(ba l).size=l.length:=by show l.toArray.size=_;simp
theorem Pd(s:By):ba (BL s)=s:=by unfold ba BL;simp
theorem Wv(c:UInt8)(b:List UInt8):∀(a:List UInt8),c∉a->Lib.index (a++c::b) [c]=(a.length:Int)
 |[],_=>by simp[Lib.index]
 |x::a,h=>by
  rw[AC,not_or]at h;have ih:=Wv c b a h.2;show(if [c].isPrefixOf (x::(a++c::b))=true then(0:Int) else if (Lib.index (a++c::b) [c] == -1)=true then -1 else Lib.index (a++c::b) [c]+1)=_;rw[ih,if_neg (by simp[List.isPrefixOf,h.1]),if_neg (by simp only[EF];omega),Al]
  rfl
theorem WK(c:UInt8):∀(s:List UInt8),c∉s->Lib.index s [c] = -1
 |[],_=>rfl
 |x::a,h=>by
  rw[AC,not_or]at h;have ih:=WK c a h.2;show(if [c].isPrefixOf (x::a)=true then(0:Int) else if (Lib.index a [c] == -1)=true then -1 else Lib.index a [c]+1)=_;rw[ih,if_neg (by simp[List.isPrefixOf,h.1])]
  rfl
theorem QE{c:UInt8}{a:List UInt8}(h:c∉a)(b:List UInt8):Lib.cut (a++c::b) [c]=(a,b,true):=by
 unfold Lib.cut;rw[Wv c b a h,if_pos (by omega),Bp,ES,<-List.drop_drop,EG]
 rfl
theorem Tz{c:UInt8}{s:List UInt8}(h:c∉s):Lib.cut s [c]=(s,[],false):=by
 unfold Lib.cut;rw[WK c s h]
 rfl
theorem Po(c:UInt8):∀s:List UInt8,c∉s\/∃a b,s=a++c::b/\c∉a
 |[] => .inl (by simp)
 |x::s=>by
  by_cases e:c=x
  ·exact .inr ⟨[],s,by rw[e];rfl,by simp⟩
  ·rcases Po c s with h|⟨a,b,d,f⟩
   ·exact .inl (by simp[e,h])
   ·exact .inr ⟨x::a,b,by rw[d];rfl,by simp[e,f]⟩
theorem Qp(s:List UInt8)(c:UInt8):(Lib.cut s [c]).2.1.length<=s.length/\((Lib.cut s [c]).2.2=true->(Lib.cut s [c]).2.1.length<s.length)/\(Lib.cut s [c]).1.length<=s.length:=by
 rcases Po c s with h|⟨a,b,rfl,d⟩
 ·rw[Tz h];exact⟨Au _,λe=>(by cases e),Aa _⟩
 ·rw[QE d];simp;omega
abbrev D9:=DataW Unit
theorem Nd:Keyed prog 9:=string_keyed underlying9
def GU(w:World):Prop:=(∃te pe,w.cell? ⟨2,0,none⟩=some (.iface te pe))/\∃te pe,w.cell? ⟨3,0,none⟩=some (.iface te pe)
theorem GU.fr{X:Nat->Prop}{w w':World}(h:GU w)(e:Fr X w w')(d:∀k,k<4->¬X k):GU w':=by
 obtain⟨⟨i,f,b⟩,j,g,c⟩:=h;exact⟨⟨i,f,(Ay (w:=w) (a:=⟨2,0,none⟩) (e.block _ (Am _ _ b) (d _ (by show 2<4;omega)))).trans b⟩,j,g,(Ay (w:=w) (a:=⟨3,0,none⟩) (e.block _ (Am _ _ c) (d _ (by show 3<4;omega)))).trans c⟩
structure Hh(rb mb:Nat)(rest:List UInt8)(D:D9)(K:Nat)(W:World):Prop where
 row:FX W rb 137 [.string (ba rest),.map (some mb)]
 map:W.ownsMap prog 9 (plainElem prog 3) mb K D
 pk:Gd W
 er:GU W
 ne:4<=rb/\4<=mb
 len:K+rest.length<=2000000
section
variable{rb mb:Nat}{rest:List UInt8}{D:D9}{K:Nat}{W W':World}
theorem Hh.nm(h:Hh rb mb rest D K W):rb≠mb:=λe=>by
 obtain⟨es,cl,a,_⟩:=h.map;have:=h.row;unfold FX at this;rw[e,a]at this
 cases this
theorem Hh.fr(h:Hh rb mb rest D K W){X:Nat->Prop}(a:Fr X W W')(c:¬X rb)(d:¬X mb)(b:∀k,k<4->¬X k):Hh rb mb rest D K W':=by
 refine⟨h.row.fr a c,?_,h.pk.fr a (b 0 (by omega)),h.er.fr a b,h.ne,h.len⟩;obtain⟨es,cl,f,e,g⟩:=h.map;exact⟨es,cl,(a.block _ h.map.lt d).trans f,e,g⟩
theorem Hh.below(h:Hh rb mb rest D K W)(a:Bw W W'):Hh rb mb rest D K W':=h.fr (X:=λ_=>False) (Fr.of_below a) (λe=>e) (λe=>e) (λ_ _ e=>e)
theorem Hh.set(h:Hh rb mb rest D K W)(r:List UInt8)(b:K+r.length<=2000000):Hh rb mb r D K (W.setCell ⟨rb,0,none⟩ (.string (ba r))):=by
 have a:Fr (λk=>k=rb) W (W.setCell ⟨rb,0,none⟩ (.string (ba r))):=(Fr.refl _ _).set _ _ rfl;have h4:=h.ne;refine⟨h.row.set 0 _,?_,h.pk.fr a (λe=>by omega),h.er.fr a (λk hk e=>by omega),h.ne,b⟩;obtain⟨es,cl,d,c,b⟩:=h.map;exact⟨es,cl,(a.block _ h.map.lt (λe=>h.nm e.symm)).trans d,c,b⟩
theorem Tf(h:Hh rb mb rest D K W):
  Cl 154 #[.pointer (some ⟨rb,0,none⟩)] W λe W'=>e=.returned (.tuple #[.string (ba (Lib.cut rest [10]).1),.bool (Lib.cut rest [10]).2.2])/\Hh rb mb (Lib.cut rest [10]).2.1 D K W'/\Fr (λk=>k=rb) W W':=by
 obtain⟨⟨m,l⟩,_⟩:=h.pk;have q:=h.len;have b:=Tryz.strings_Cut (ba rest) ⟨#[10]⟩ m W (by rw[JM];omega) l;rw[show(ba rest).data.toList=rest from Jo rest,show(⟨#[10]⟩:By).data.toList=[10] from rfl]at b;obtain⟨c,a,d,g⟩:∃c a d,Lib.cut rest [10]=(c,a,d):=⟨_,_,_,rfl⟩;have i:=Qp rest 10;rw[g]at b i;rw[g];dsimp only at b i ⊢;have o:Hid (Cl 155 #[.string (ba rest),.string ⟨#[10]⟩] W λe W'=>e=.returned (.tuple #[.string (ba c),.string (ba a),.bool d])/\W'.cell? ⟨rb,0,none⟩=some (.string (ba rest))/\W'.frozen? ⟨rb,0,none⟩=false/\Hid (Hh rb mb a D K (W'.setCell ⟨rb,0,none⟩ (.string (ba a)))/\Fr (λk=>k=rb) W (W'.setCell ⟨rb,0,none⟩ (.string (ba a))))):=by
  refine b.mono ?_;rintro e W'⟨rfl,n,rfl⟩;have j:Bw W (W.drewN n):=⟨rfl,rfl,rfl,Aa _,λ_ _=>rfl⟩;have f:=h.below j;exact⟨rfl,(f.row.cell 0).trans rfl,f.row.frozen 0,f.set a (by omega),(Fr.of_below (X:=λk=>k=rb) j).then ((Fr.refl (λk=>k=rb) _).set _ _ rfl) (λ_ _ e=>e)⟩
 have c0:W.cell? ⟨rb,0,none⟩=some (.string (ba rest)):=(h.row.cell 0).trans rfl;clear b h l q g i;go_enter func154,ntmps154;go_wp2_with(go_at_call 155;refine(Da o).mono ?_;rintro e X⟨rfl,x0,x1,p⟩);exact Ap (v:=.tuple #[.string (ba c),.bool d]) (by simp[results,results154,go_sem]) rfl ⟨rfl,Da p⟩
end
open Go.RowKit
theorem ba_get(r:List UInt8)(j:Nat)(a:j<(ba r).size):r[j]?=some (ba r)[j]:=by
 rw[Ac (by rw[JM]at a;exact a)];rfl
theorem RS(n:Nat)(h:n<4000000):IntKind.i64.wrap (n:Int)=(n:Int)/\RowKit.wrap64 (n:Int)=(n:Int):=⟨by rw[AV];omega,by unfold RowKit.wrap64;omega⟩
def Lb(b:UInt8):Int:=Lib.indexByte (BL J3) b
def D8:List UInt8->Option (List UInt8)
 |[]=>some []
 |[_]=>none
 |a::b::l=>if Lb a<0\/Lb b<0 then none else(D8 l).map (λr=>UInt8.ofNat ((Lb a).toNat*16+(Lb b).toNat)::r)
theorem Sx(b:UInt8): -1<=Lb b/\Lb b<16:=by
 have a:=Lib.indexByte_ge (BL J3) b;refine⟨a,?_⟩;rcases Int.lt_or_le (Lb b) 0 with h|h
 ·omega
 ·obtain⟨o,ho⟩:=Fh h;have d:=(Lib.indexByte_some (l:=BL J3) (c:=b) (o:=o) ho).1;have h3:=(Ae.1 d).1;have h4:(BL J3).length=16:=rfl;omega
theorem or_tab:(List.range 16).all (λh=>(List.range 16).all (λl=>bits BinOp.or IntKind.i64 ((h*16:Nat):Int) (l:Int)==((h*16+l:Nat):Int)))=true:=by kernel_rfl
theorem or_at{h l:Nat}(c:h<16)(d:l<16):bits BinOp.or IntKind.i64 ((h:Int)*16) (l:Int)=((h*16+l:Nat):Int):=by
 have b:=Ct.1 or_tab h (A4.2 c);have a:=Ct.1 b l (A4.2 d);rw[EF]at a;rw[<-a]
 congr 1
theorem VD:∀(n:Nat) (l:List UInt8),l.length=2*n+1->D8 l=none
 |0,[_],_=>rfl
 |n+1,_::_::l,h=>by
  unfold D8
  split
  ·rfl
  ·rw[VD n l (by simp only[Al]at h;omega)];rfl
def UV(w:World)(b:Nat)(v:Value)(s:By)(r:List UInt8)(e:Ending)(w':World):Prop:=
 (D8 r=none/\e=.returned (.tuple #[.slice none 0 0,.bool false])\/∃x a' l' c',D8 r=some x/\e=.returned (.tuple #[.slice a' l' c',.bool true])/\F9 b w' (.slice a' l' c') (s++ba x)/\Dk w v (.slice a' l' c'))/\Fr (Own v) w w'
theorem app_rd(w:World)(b:Nat)(hb:b<=w.heap.size)(a:OA)(l c:Nat)(s:By)(h:F9 b w (.slice a l c) s)(r:List UInt8)(hs:s.size+r.length<=3000000):
  Cl 211 #[.slice a l c,.string (ba r)] w (UV w b (.slice a l c) s r):=by
 obtain⟨R,J⟩:=ex (ba r);have t:R.size=r.length:=by rw[J,JM]
 rw[<-J];by_cases ao:r.length%2=1
 ·have o:Hid (UV w b (.slice a l c) s r (.returned (.tuple #[.slice none 0 0,.bool false])) w):=⟨.inl ⟨VD (r.length/2) r (by omega),rfl⟩,Fr.refl _ _⟩;have hm:((R.size:Int)%2)=1:=by omega
  have an:Int.tmod (R.size:Int) 2=1:=by rw[Cc (by omega)];exact hm
  clear h J t ao;go_enter func211,ntmps211;go_wp2;exact Ap (v:=.tuple #[.slice none 0 0,.bool false]) (by simp[results,results211,go_sem]) rfl (Da o)
 ·obtain⟨n,K⟩:∃n,r.length=2*n:=⟨r.length/2,by omega⟩;have hm:((R.size:Int)%2)=0:=by omega
  have an:Int.tmod (R.size:Int) 2=0:=by rw[Cc (by omega)];exact hm
  have H:=Db h;have HR:=Db J;have ai:=Db t;have HN:=Db K;clear h J t ao K;go_enter func211,ntmps211;go_wp2;clear hm an
  go_loopw [0,6] (λv i wr=>∃(k:Nat) (x:List UInt8) (E:OA) (O I:Nat),k<=n/\i=.int .i64 ((2*k:Nat):Int)/\v=.slice E O I/\Hid (x.length=k/\D8 r=(D8 (r.drop (2*k))).map (x ++ ·))/\Hid (F9 b wr v (s++ba x))/\Hid (Fr (Own (.slice a l c)) w wr/\Dk w (.slice a l c) v)) (λ_ i _=>2*n-(intOf i).toNat)
  case atStart=>exact⟨0,[],a,l,c,Au _,rfl,rfl,⟨rfl,by show _=(D8 r).map _;cases D8 r<;>rfl⟩,by show F9 _ _ _ _;rw[show ba []=⟨#[]⟩ from rfl,Kv];exact Da H,Fr.refl _ _,λg hg => .inl hg⟩
  case round=>
   obtain⟨k,x,E,O,I,hk,rfl,rfl,S,HS,f⟩:=hrel;have t:=Da ai;have K:=Da HN;by_cases aM:k<n
   ·obtain⟨q,hq⟩:=ex (2*k);have ay:Hid ((q:Int)+2=((2*(k+1):Nat):Int)/\IntKind.i64.wrap ((q:Int)+2)=((2*(k+1):Nat):Int)):=by
     have e:(q:Int)+2=((2*(k+1):Nat):Int):=by omega
     exact⟨e,by rw[e];exact(RS _ (by omega)).1⟩
    have az:Hid (2*n-(q+2)<2*n-q):=by show _<_;omega
    have aK:R.size<=3000000:=by omega
    have U:q<R.size:=by omega
    obtain⟨d,ap⟩:=ex (q+1);have h2:d<R.size:=by omega
    have aO:(q:Int)+1=(d:Int):=by omega
    have aP:RowKit.wrap64 (d:Int)=(d:Int):=(RS d (by omega)).2;obtain⟨F,V⟩:∃b,b=R[q]:=⟨_,rfl⟩;obtain⟨G,Y⟩:∃b,b=R[d]:=⟨_,rfl⟩;obtain⟨M,Z⟩:∃i,i=Lb F:=⟨_,rfl⟩;obtain⟨N,aa⟩:∃i,i=Lb G:=⟨_,rfl⟩;have ab:∀(j:Nat) (hj:j<R.size),r[j]?=some R[j]:=λj hj=>by
     have e:=Da HR;subst e;exact ba_get r j hj
    have am:r.drop q=F::G::r.drop (q+2):=by
     have T:=ab q U;have p:=ab d h2;rw[<-V]at T;rw[<-Y,ap]at p;obtain⟨p1,T⟩:=Ae.1 T;obtain⟨p2,p⟩:=Ae.1 p;rw[BN p1,BN p2,T,p]
    clear ab;have af:Hid (∀W,Cl 251 #[.string J3,.int .u8 (R[q].toNat:Int)] W λe D=>e=.returned (.int .i64 M)/\D=W):=λW=>by
     have:=Tryz.strings_IndexByte J3 (R[q].toNat:Int) W;rw[show((R[q].toNat:Int)).toNat.toUInt8=R[q] from by simp,<-V]at this;rw[Z,<-V];exact this
    have ag:Hid (∀W,Cl 251 #[.string J3,.int .u8 (R[d].toNat:Int)] W λe D=>e=.returned (.int .i64 N)/\D=W):=λW=>by
     have:=Tryz.strings_IndexByte J3 (R[d].toNat:Int) W;rw[show((R[d].toNat:Int)).toNat.toUInt8=R[d] from by simp,<-Y]at this;rw[aa,<-Y];exact this
    have aq:=Sx F;have ar:=Sx G;rw[<-Z]at aq;rw[<-aa]at ar;have aH:(q:Int)<(R.size:Int):=by omega
    have aJ:(d:Int)<(R.size:Int):=by omega
    rw[<-hq];have HQ:=Db hq;have Q:=Db (And.intro Z aa);have ah:=Db am;clear hq Z aa am V Y t K ap;go_upto_region 7 with(go_at_call 251;refine(Da af _).mono ?_;rintro e D⟨rfl,L⟩;rw[L];clear L);go_upto_region 8 with(go_at_call 251;refine(Da ag _).mono ?_;rintro e D⟨rfl,L⟩;rw[L];clear L);clear af ag;by_cases A:M<0\/N<0
    ·have o:Hid (UV w b (.slice a l c) s r (.returned (.tuple #[.slice none 0 0,.bool false])) wr):=by
      refine⟨.inl ⟨?_,rfl⟩,(Da f).1⟩;rw[(Da S).2,<-Da HQ,Da ah];unfold D8
      rw[<-(Da Q).1,<-(Da Q).2,if_pos A];rfl
     by_cases h3:M<0
     ·clear A;go_wp2;exact Ap (v:=.tuple #[.slice none 0 0,.bool false]) (by simp[results,results211,go_sem]) rfl (Da o)
     ·have h4:N<0:=by omega
      clear A;go_wp2;exact Ap (v:=.tuple #[.slice none 0 0,.bool false]) (by simp[results,results211,go_sem]) rfl (Da o)
    ·have h3:¬M<0:=λe=>A (.inl e)
     have h4:¬N<0:=λe=>A (.inr e)
     obtain⟨B,rfl⟩:=Fh (a:=M) (by omega);obtain⟨j2,rfl⟩:=Fh (a:=N) (by omega);obtain⟨z,hz⟩:∃z:UInt8,z=UInt8.ofNat (B*16+j2):=⟨_,rfl⟩;obtain⟨P,ae⟩:∃n,n=z.toNat:=⟨_,rfl⟩;have av:P=B*16+j2:=by rw[ae,hz,BQ];omega
     obtain⟨C,aD⟩:∃m,m=B*16:=⟨_,rfl⟩;have aN:bits BinOp.or IntKind.i64 (C:Int) (j2:Int)=(P:Int):=by
      have:=or_at (h:=B) (l:=j2) (by omega) (by omega);rw[<-av,show((B:Int)*16)=(C:Int) by omega]at this;exact this
     have aF:(B:Int)*16=(C:Int):=by omega
     have aG:RowKit.wrap64 (C:Int)=(C:Int):=(RS C (by omega)).2;have aI:(P:Int)%256=(P:Int):=by omega
     have ad:x.length=k:=(Da S).1;have aB:=(Da f).1.size;obtain⟨W,hW,au,aC,aE,ac⟩:=De wr [.int .u8 (P:Int)] 5;obtain⟨a2,l2,c2,w2,hr,al,aj,ak⟩:=JX W b (by omega) _ _ ((Da HS).below ac) ⟨wr.heap.size,0,none⟩ 1 1 ⟨#[z]⟩ rfl (λj u hu=>by
      rw[AI,Av,au.cell,ae];exact hu) (by
      have h5:=Da ai;have h6:=Da HN;rw[Ai,JM,ad];omega)
     have ax:Hid ((x++[z]).length=k+1/\D8 r=(D8 (r.drop (2*(k+1)))).map ((x++[z]) ++ ·)):=by
      refine⟨by rw[Ab,ad];rfl,?_⟩;rw[(Da S).2,<-Da HQ,Da ah];have p:2*(k+1)=q+2:=by have:=Da HQ;omega
      rw[p];show((if Lb F<0\/Lb G<0 then none else(D8 (r.drop (q+2))).map (λr=>UInt8.ofNat ((Lb F).toNat*16+(Lb G).toNat)::r)):Option (List UInt8)).map _=_;rw[<-(Da Q).1,<-(Da Q).2,if_neg (by omega),Bp,Bp,<-hz]
      cases D8 (r.drop (q+2)) with
      |none=>rfl
      |some y=>simp
     have aA:Hid (F9 b w2 (.slice a2 l2 c2) (s++ba (x++[z]))):=by
      have e:s++ba (x++[z])=s++ba x++⟨#[z]⟩:=by
       apply Ku;simp only[Jy,Jo,Ax]
       rfl
      show F9 _ _ _ _;rw[e];exact al
     have aw:Hid (Fr (Own (.slice a l c)) w w2/\Dk w (.slice a l c) (.slice a2 l2 c2)):=by
      refine⟨((Da f).1.then (Fr.of_below (X:=Own (.slice a l c)) ac) (λk _ h=>h)).then aj (λk hk e=>((Da f).2 k e).elim id (λh=>by omega)),λg hg=>?_⟩;rcases ak g hg with U|U
      ·exact(Da f).2 g U
      ·exact .inr (by omega)
     have HW:=Db hW;clear al aj ak au aC aE ac hW A aq ar ae av aD hz ad aB;rw[<-Da HW]at hr;go_wp2_with(at_builtin;refine A0 _ rfl _ _ 59 59 rfl _ _ rfl rfl _ _ hr ?_)
     go_roundw
     case rel=>exact⟨k+1,x++[z],a2,l2,c2,by omega,by rw[(Da ay).1],rfl,ax,aA,aw⟩
     case measure=>
      have:=Da az;have h3:q<3000000:=by omega
      show 2*n-((q:Int)+2).toNat<2*n-(q:Int).toNat;omega
   ·obtain rfl:k=n:=by omega
    have aL:¬(((2*k:Nat):Int)<(R.size:Int)):=by omega
    have o:Hid (UV w b (.slice a l c) s r (.returned (.tuple #[.slice E O I,.bool true])) wr):=by
     have h0:D8 r=some x:=by
      rw[(Da S).2,B8 (by omega)];show some (x++[])=_;rw[Cf]
     exact⟨.inr ⟨x,E,O,I,h0,rfl,Da HS,(Da f).2⟩,(Da f).1⟩
    clear t K;go_wp2;exact Ap (v:=.tuple #[.slice E O I,.bool true]) (by simp[results,results211,go_sem]) rfl (Da o)
def Lh:Nat->Int->List UInt8->List UInt8->Option (List UInt8×List UInt8)
 |0,_,_,_=>none
 |f+1,size,d,rest=>if (d.length:Int)<size then(if (Lib.cut rest [10]).2.2=true then(match D8 (Lib.cut rest [10]).1 with|none=>none|some x=>Lh f size (d++x) (Lib.cut rest [10]).2.1) else none) else some (d,rest)
def JF(told rest:List UInt8):Option (List UInt8×List UInt8):=
 match Lib.atoiAll told with
 |.ok v=>Lh (rest.length+1) v [] rest
 |_=>none
theorem VC:∀{l x:List UInt8},D8 l=some x->2*x.length=l.length
 |[],x,h=>by cases h;rfl
 |[_],x,h=>by cases h
 |a::b::l,x,h=>by
  unfold D8 at h
  split at h
  ·cases h
  ·cases hu:D8 l with
   |none=>rw[hu]at h;cases h
   |some y=>
    rw[hu]at h
    cases h
    have:=VC hu;simp only[Al];omega
def Jm(p:List UInt8):Lit:=.string p
def Qi(W:World)(n1 rb mb:Nat)(D:D9)(K:Nat)(p told rest:List UInt8)(e:Ending)(W':World):Prop:=
 (JF told rest=none/\e=.returned (.tuple #[.agg #[.string ⟨#[]⟩,.int .u8 0,.int .i64 0,.slice none 0 0],.bool false])\/∃d r a l c,JF told rest=some (d,r)/\e=.returned (.tuple #[.agg #[.string (ba p),.int .u8 2,.int .i64 (Maps.size D),.slice a l c],.bool true])/\F9 n1 W' (.slice a l c) (ba d)/\Hh rb mb r (D.put (Jm p) (.lit (.int .i64 (Maps.size D)))) (K+1) W'/\(∀g,Own (.slice a l c) g->W.heap.size<=g))/\Fr (λk=>k=rb\/k=mb) W W'
structure Lm(W:World)(rb mb B10:Nat)(D:D9)(K:Nat)(p d rest:List UInt8)(v:Value)(X:World):Prop where
 rg:Hh rb mb rest D K X
 b6:FX X W.heap.size 141 [.string ⟨#[]⟩,.int .u8 0,.int .i64 0,.slice none 0 0]
 b10:FX X B10 141 [.string (ba p),.int .u8 2,.int .i64 (Maps.size D),v]
 dat:F9 W.heap.size X v (ba d)
 fr:Fr (λk=>k=rb\/k=mb) W X
 lo:W.heap.size<B10
 hi:rb<W.heap.size/\mb<W.heap.size
 ln:d.length+rest.length<=2000000
section
variable{W:World}{rb mb B10:Nat}{D:D9}{K:Nat}{p d rest told rest0:List UInt8}{v:Value}{X X':World}
def KF(X:World)(b:Nat)(v0 v1 v2 v3:Value):World:=(((X.setCell ⟨b,0,none⟩ v0).setCell ⟨b,1,none⟩ v1).setCell ⟨b,2,none⟩ v2).setCell ⟨b,3,none⟩ v3
theorem Uf(X:World)(b:Nat)(a c e f:Value):Fr (λk=>k=b) X (KF X b a c e f):=
 ((((Fr.refl (λk=>k=b) X).set ⟨b,0,none⟩ a rfl).set ⟨b,1,none⟩ c rfl).set ⟨b,2,none⟩ e rfl).set ⟨b,3,none⟩ f rfl
theorem Pf(b:Fr (λk=>k=rb\/k=mb) W X){n1:Nat}(a:JF told rest0=none):Qi W n1 rb mb D K p told rest0 (.returned (.tuple #[.agg #[.string ⟨#[]⟩,.int .u8 0,.int .i64 0,.slice none 0 0],.bool false])) (KF X W.heap.size (.string ⟨#[]⟩) (.int .u8 0) (.int .i64 0) (.slice none 0 0)):=
 ⟨.inl ⟨a,rfl⟩,b.then (Uf _ _ _ _ _ _) (λk hk e=>by omega)⟩
theorem Lm.own(h:Lm W rb mb B10 D K p d rest v X){k:Nat}(b:Own v k):W.heap.size<=k/\k≠W.heap.size/\k≠B10:=by
 obtain⟨L,a⟩:=h.dat.typed b;refine⟨h.dat.2 k b,λe=>?_,λe=>?_⟩
 ·subst e;have:=a.type h.b6;cases this
 ·subst e;have:=a.type h.b10;cases this
theorem Lm.line(h:Lm W rb mb B10 D K p d rest v X)(_h4:4<=W.heap.size):
  Cl 154 #[.pointer (some ⟨rb,0,none⟩)] X λe X'=>e=.returned (.tuple #[.string (ba (Lib.cut rest [10]).1),.bool (Lib.cut rest [10]).2.2])/\Lm W rb mb B10 D K p d (Lib.cut rest [10]).2.1 v X':=by
 refine(Tf h.rg).mono ?_;rintro e X'⟨rfl,b,a⟩;have hi:=h.hi;have lo:=h.lo;have hl:=(Qp rest 10).1;have hn:=h.ln;exact⟨rfl,b,h.b6.fr a (by omega),h.b10.fr a (by omega),⟨h.dat.1.fr a (λg c e=>by have:=(h.own c).1;omega),h.dat.2⟩,h.fr.then a (λk _ e => .inl e),h.lo,h.hi,by omega⟩
theorem Lm.app(h:Lm W rb mb B10 D K p d rest v X){a:OA}{l c:Nat}(E:v=.slice a l c)(h4:4<=W.heap.size)(r:List UInt8)(hr:d.length+r.length+rest.length<=2000000):
  Cl 211 #[.slice a l c,.string (ba r)] X λe X'=>(D8 r=none/\e=.returned (.tuple #[.slice none 0 0,.bool false])\/∃x b i f,D8 r=some x/\e=.returned (.tuple #[.slice b i f,.bool true])/\Lm W rb mb B10 D K p (d++x) rest (.slice b i f) (X'.setCell ⟨B10,3,none⟩ (.slice b i f)))/\FX X' W.heap.size 141 [.string ⟨#[]⟩,.int .u8 0,.int .i64 0,.slice none 0 0]/\FX X' B10 141 [.string (ba p),.int .u8 2,.int .i64 (Maps.size D),v]/\Fr (λk=>k=rb\/k=mb) W X':=by
 subst E;have C:=h.fr.size;refine(app_rd X W.heap.size C a l c (ba d) h.dat r (by rw[JM];omega)).mono ?_;rintro e X'⟨z,n⟩;have hi:=h.hi;have lo:=h.lo;have w:FX X' W.heap.size 141 _:=h.b6.fr n (λe=>(h.own e).2.1 rfl);have t:FX X' B10 141 _:=h.b10.fr n (λe=>(h.own e).2.2 rfl);have u:Fr (λk=>k=rb\/k=mb) W X':=h.fr.then n (λk j e=>by have:=(h.own e).1;omega);refine⟨?_,w,t,u⟩;rcases z with⟨m,q⟩|⟨x,b,i,f,m,q,s,h5⟩
 ·exact .inl ⟨m,q⟩
 ·refine .inr ⟨x,b,i,f,m,q,?_⟩;have aa:=VC m;have B:Hh rb mb rest D K X':=h.rg.fr n (λe=>by have:=(h.own e).1;omega) (λe=>by have:=(h.own e).1;omega) (λk j e=>by have:=(h.own e).1;omega);have o:Fr (λk=>k=B10) X' (X'.setCell ⟨B10,3,none⟩ (.slice b i f)):=(Fr.refl _ _).set _ _ rfl;have ho:∀k,Own (.slice b i f) k->k≠B10:=λk j e=>by
   obtain⟨L,y⟩:=s.typed j;subst e;have:=y.type t;cases this
  refine⟨B.fr o (by omega) (by omega) (λk j e=>by omega),w.fr o (by omega),t.set 3 _,?_,u.then o (λk j e=>by omega),h.lo,h.hi,by rw[Ab];omega⟩;have e:ba (d++x)=ba d++ba x:=Ku (by rw[Jy,Jo,Jo,Jo]);rw[e];exact⟨s.1.fr o (λg A e=>ho g A e),s.2⟩
end
def G7(rb:Nat)(w:World):Nat:=match w.cell? ⟨rb,0,none⟩ with|some (.string s)=>s.size|_=>0
theorem Hh.restAt{b c:Nat}{a:List UInt8}{D:D9}{K:Nat}{W:World}(h:Hh b c a D K W):G7 b W=a.length:=by
 unfold G7;rw[(h.row.cell 0).trans (show _=some (Value.string (ba a)) from rfl)];exact JM a
theorem Zd{s a b:List UInt8}{c:UInt8}(h:Lib.cut s [c]=(a,b,true)):a.length+1+b.length=s.length:=by
 rcases Po c s with d|⟨x,y,rfl,e⟩
 ·rw[Tz d]at h;cases h
 ·rw[QE e]at h;cases h;simp only[Ab,Al];omega
theorem Zs{n:Nat}(h:n<4000000):(Lit.int .i64 (n:Int)).wf=true:=by
 unfold Lit.wf;rw[A6];exact⟨Cr (by show(-9223372036854775808:Int)<=_;omega),Cr (by show _<=(9223372036854775807:Int);omega)⟩
theorem TA{d g:Nat}{D:D9}{K:Nat}{W b:World}{z:List UInt8}(_h:Hh d g z D K W)(_hi:d<W.heap.size/\g<W.heap.size)(p c j:List UInt8)(m:W.alloc (.cells [.string ⟨#[]⟩,.int .u8 0,.int .i64 0,.slice none 0 0].toArray 141)=b)(k:FX b W.heap.size 141 [.string ⟨#[]⟩,.int .u8 0,.int .i64 0,.slice none 0 0])(h:Bw W b)(q:JF c j=none)(o:Cl 210 #[.string (ba c)] b λe X=>∃(i:Int) (N:Nat),e=.returned (.tuple #[.int .i64 i,.iface 357 (.pointer (some ⟨N,0,none⟩))])/\Bw b X):
  Cl 156 #[.pointer (some ⟨d,0,none⟩),.string (ba p),.string (ba c)] W (Qi W W.heap.size d g D K p c j):=by
 have l:Hid (Cl 210 #[.string (ba c)] b λe X=>∃(i:Int) (N:Nat),e=.returned (.tuple #[.int .i64 i,.iface 357 (.pointer (some ⟨N,0,none⟩))])/\FX X W.heap.size 141 [.string ⟨#[]⟩,.int .u8 0,.int .i64 0,.slice none 0 0]/\Hid (Qi W W.heap.size d g D K p c j (.returned (.tuple #[.agg #[.string ⟨#[]⟩,.int .u8 0,.int .i64 0,.slice none 0 0],.bool false])) (KF X W.heap.size (.string ⟨#[]⟩) (.int .u8 0) (.int .i64 0) (.slice none 0 0)))):=
  o.mono λe X ⟨i,N,t,n⟩=>⟨i,N,t,(n.block _ k.lt).trans k,Pf (Fr.of_below (h.trans (n.mono h.size))) q⟩
 have r:=Db m;clear m k h q o;go_enter func156,ntmps156;go_upto_region 1 with fail;rw[show W.alloc (.cells #[.string ⟨#[]⟩,.int .u8 0,.int .i64 0,.slice none 0 0] 141)=b from Da r];go_upto_region 3 with(go_at_call 210;refine(Da l).mono ?_;rintro e X⟨i,N,rfl,a,s⟩);have f:=Db (JL a (.string ⟨#[]⟩) (.int .u8 0) (.int .i64 0) (.slice none 0 0));have z0:=a.cell 0;have z1:=a.cell 1;have z2:=a.cell 2;have z3:=a.cell 3;have y0:=a.frozen 0;have y1:=a.frozen 1;have y2:=a.frozen 2;have y3:=a.frozen 3;clear a l;go_wp2;have u:=(Da f).cell 0;have w:=(Da f).cell 1;have x:=(Da f).cell 2;have y:=(Da f).cell 3;exact Ap (v:=.tuple #[.agg #[.string ⟨#[]⟩,.int .u8 0,.int .i64 0,.slice none 0 0],.bool false]) (by simp[results,results156,go_sem,u,w,x,y]) rfl (Da s)
theorem YK{m u:Nat}{n:List UInt8}{D:D9}{K:Nat}{W:World}(h:Hh m u n D K W)(hi:m<W.heap.size/\u<W.heap.size)(p j:List UInt8)(hp:p.length<=2000000)(ht:j.length<=2000000)(aS:K+1+n.length<=2000000):
  Cl 156 #[.pointer (some ⟨m,0,none⟩),.string (ba p),.string (ba j)] W (Qi W W.heap.size m u D K p j n):=by
 have h4:4<=W.heap.size:=by have:=h.ne;omega
 obtain⟨T,e0,x0,k0,s0,b0⟩:=De W [.string ⟨#[]⟩,.int .u8 0,.int .i64 0,.slice none 0 0] 141;have h0:=h.below b0
 cases hat:Lib.atoiAll j with
 |ok v=>
  have al:Hid (Cl 210 #[.string (ba j)] T λe C=>e=.returned (.tuple #[.int .i64 v,.nilIface])/\C.cell? ⟨m,1,none⟩=some (.map (some u))/\C.ownsMap prog 9 (plainElem prog 3) u K D/\∃U,C.alloc (.cells #[.string (ba p),.int .u8 2,.int .i64 (Maps.size D),.slice none 0 0] 141)=U/\Hid (Lm W m u C.heap.size D K p [] n (.slice none 0 0) U)):=by
   refine(Tryz.strconv_Atoi_ok (ba j) (by rw[JM];omega) v (by rw[show(ba j).data.toList=j from Jo j];exact hat) T).mono ?_;rintro e C⟨rfl,hw⟩;have Z:Bw T C:=by
    rcases hw with rfl|⟨t,rfl⟩
    ·exact Ak _ _
    ·exact Lib.bytesWorld_below _ _ _
   have w:=h0.below Z;obtain⟨U,e2,x2,k2,s2,b2⟩:=De C [.string (ba p),.int .u8 2,.int .i64 (Maps.size D),.slice none 0 0] 141;have aX:=Z.size;have aK:Bw W U:=b0.trans ((Z.mono (by omega)).trans (b2.mono (by omega)));refine⟨rfl,(w.row.cell 1).trans rfl,w.map,U,e2,w.below b2,k2 _ _ _ ((Z.block _ x0.lt).trans x0),x2,F9.nil _ _,Fr.of_below aK,by omega,hi,?_⟩;have:=h.len;simp only[AK];omega
  have aD:JF j n=Lh (n.length+1) v [] n:=by unfold JF;rw[hat]
  have aT:=h.len;have aG:=Db e0;have an:=Db aD;have HI:=Db hi;have aj:=Db h4;clear h4 h h0 x0 k0 s0 b0 e0 hat aD hi;go_enter func156,ntmps156;go_upto_region 1 with fail;rw[show W.alloc (.cells #[.string ⟨#[]⟩,.int .u8 0,.int .i64 0,.slice none 0 0] 141)=T from Da aG];go_upto_region 4 with(go_at_call 210;refine(Da al).mono ?_;rintro e C⟨rfl,c1,aB,U,ap,HF⟩;have ao:=Db ap;clear ap);have am:=Db aB;clear aB al;go_wp2_with(at_len;refine wpList_len_own _ rfl _ 135 rfl 9 3 underlying135 _ u K D rfl (Da am) ?_);rw[show C.alloc (.cells #[.string (ba p),.int .u8 2,.int .i64 (Maps.size D),.slice none 0 0] 141)=U from Da ao];obtain⟨q,aq⟩:∃B,B=C.heap.size:=⟨_,rfl⟩;rw[<-aq]at HF ⊢;clear ao aq c1 am
  go_loopw [11] (λ_ wr=>∃(f:Nat) (d r:List UInt8) (a:OA) (l c:Nat),Hid (Lm W m u q D K p d r (.slice a l c) wr)/\Hid (r.length<f/\r.length<=n.length/\JF j n=Lh f v d r)) (λ_ wr=>G7 m wr)
  case atStart=>exact⟨n.length+1,[],n,none,0,0,HF,⟨by omega,Aa _,Da an⟩⟩
  case round=>
   obtain⟨f,d,r,a,l,c,O,R⟩:=hrel;clear HF an;have ag:l=d.length:=by
    rcases(Da O).dat.1.2 with⟨e,e2⟩|⟨g,aP,L,e,_⟩
    ·cases e;rw[JM]at e2;omega
    ·cases e;exact JM d
   have c3:wr.cell? ⟨q,3,none⟩=some (.slice a l c):=((Da O).b10.cell 3).trans rfl;have aO:=Db ag;obtain⟨f,rfl⟩:∃g,f=g+1:=⟨f-1,by have:=(Da R).1;omega⟩;by_cases ay:(l:Int)<v
   ·obtain⟨ln,Q,J,af⟩:∃a b c,Lib.cut r [10]=(a,b,c):=⟨_,_,_,rfl⟩;have ae:=Qp r 10;rw[af]at ae;dsimp only at ae;have au:=(Da O).rg.restAt;have aW:=(Da O).ln;have HL:Hid (Cl 154 #[.pointer (some ⟨m,0,none⟩)] wr λe X=>e=.returned (.tuple #[.string (ba ln),.bool J])/\X.cell? ⟨q,3,none⟩=some (.slice a l c)/\Hid (Lm W m u q D K p d Q (.slice a l c) X)):=by
     have h9:=(Da O).line (Da aj);rw[af]at h9;exact h9.mono λe X ⟨w,M⟩=>⟨w,(M.b10.cell 3).trans rfl,M⟩
    have aE:JF j n=if J=true then(match D8 ln with|none=>none|some x=>Lh f v (d++x) Q) else none:=by
     rw[(Da R).2.2];show(if (d.length:Int)<v then _ else _)=_;rw[if_pos (by rw[<-ag];exact ay),af]
    have ad:=Db aE;have aL:=Db af;clear aE af ag O;go_upto_region 7 with(go_at_call 154;refine(Da HL).mono ?_;rintro e X⟨rfl,c4,HX⟩)
    cases J
    ·have i:=Da HX;have ac:Hid (Qi W W.heap.size m u D K p j n (.returned (.tuple #[.agg #[.string ⟨#[]⟩,.int .u8 0,.int .i64 0,.slice none 0 0],.bool false])) (KF X W.heap.size (.string ⟨#[]⟩) (.int .u8 0) (.int .i64 0) (.slice none 0 0))):=Pf i.fr (by rw[Da ad];rfl);have o:=i.b6;have y:=Db (JL o (.string ⟨#[]⟩) (.int .u8 0) (.int .i64 0) (.slice none 0 0));have z0:=o.cell 0;have z1:=o.cell 1;have z2:=o.cell 2;have z3:=o.cell 3;have y0:=o.frozen 0;have y1:=o.frozen 1;have y2:=o.frozen 2;have y3:=o.frozen 3;clear i o HX HL ad;go_wp2;have r0:=(Da y).cell 0;have r1:=(Da y).cell 1;have r2:=(Da y).cell 2;have r3:=(Da y).cell 3;exact Ap (v:=.tuple #[.agg #[.string ⟨#[]⟩,.int .u8 0,.int .i64 0,.slice none 0 0],.bool false]) (by simp[results,results156,go_sem,r0,r1,r2,r3]) rfl (Da ac)
    ·have ai:=Db (ae.2.1 rfl);have HA:Hid (Cl 211 #[.slice a l c,.string (ba ln)] X λe Y=>∃E G F J,e=.returned (.tuple #[.slice E G F,.bool J])/\Y.cell? ⟨q,3,none⟩=some (.slice a l c)/\Y.frozen? ⟨q,3,none⟩=false/\Hid (J=false->FX (Y.setCell ⟨q,3,none⟩ (.slice E G F)) W.heap.size 141 [.string ⟨#[]⟩,.int .u8 0,.int .i64 0,.slice none 0 0]/\Qi W W.heap.size m u D K p j n (.returned (.tuple #[.agg #[.string ⟨#[]⟩,.int .u8 0,.int .i64 0,.slice none 0 0],.bool false])) (KF (Y.setCell ⟨q,3,none⟩ (.slice E G F)) W.heap.size (.string ⟨#[]⟩) (.int .u8 0) (.int .i64 0) (.slice none 0 0)))/\Hid (J=true->∃x,Lm W m u q D K p (d++x) Q (.slice E G F) (Y.setCell ⟨q,3,none⟩ (.slice E G F))/\JF j n=Lh f v (d++x) Q)):=by
      have i:=Da HX;have aU:=i.lo;refine(i.app rfl (Da aj) ln (by have:=ae.2.1 rfl;have:=Zd (Da aL);omega)).mono ?_;rintro e Y⟨hc,z,I,hf⟩;have A:Fr (λk=>k=q) Y (Y.setCell ⟨q,3,none⟩ (.slice none 0 0)):=(Fr.refl _ _).set _ _ rfl;rcases hc with⟨w,rfl⟩|⟨x,E,G,F,w,rfl,h3⟩
      ·refine⟨none,0,0,false,rfl,(I.cell 3).trans rfl,I.frozen 3,λ_=>⟨z.fr A (by omega),Pf (hf.then A (λk hk e=>by omega)) (by rw[Da ad,if_pos rfl,w])⟩,λe=>(by cases e)⟩
      ·exact⟨E,G,F,true,rfl,(I.cell 3).trans rfl,I.frozen 3,λe=>(by cases e),λ_=>⟨x,h3,by rw[Da ad,if_pos rfl,w]⟩⟩
     clear HX HL ad ae;go_upto_region 10 with(go_at_call 211;refine(Da HA).mono ?_;rintro e Y⟨E,G,F,J,rfl,c5,c6,HN,HG⟩)
     cases J
     ·obtain⟨o,ar⟩:=Da HN rfl;have ac:=Db ar;have y:=Db (JL o (.string ⟨#[]⟩) (.int .u8 0) (.int .i64 0) (.slice none 0 0));have z0:=o.cell 0;have z1:=o.cell 1;have z2:=o.cell 2;have z3:=o.cell 3;have y0:=o.frozen 0;have y1:=o.frozen 1;have y2:=o.frozen 2;have y3:=o.frozen 3;clear ar o HN HG HA c5 c6;go_wp2;have r0:=(Da y).cell 0;have r1:=(Da y).cell 1;have r2:=(Da y).cell 2;have r3:=(Da y).cell 3;exact Ap (v:=.tuple #[.agg #[.string ⟨#[]⟩,.int .u8 0,.int .i64 0,.slice none 0 0],.bool false]) (by simp[results,results156,go_sem,r0,r1,r2,r3]) rfl (Da ac)
     ·obtain⟨x,w,M⟩:=Da HG rfl;have hm:=w.rg.restAt;have aH:=Db w;have aI:Hid (Q.length<f/\Q.length<=n.length/\JF j n=Lh f v (d++x) Q):=⟨by have:=(Da R).1;have:=Da ai;omega,by have:=(Da R).2.1;have:=Da ai;omega,M⟩;have HM:Hid (G7 m (Y.setCell ⟨q,3,none⟩ (.slice E G F))<G7 m wr):=by
       show _<_;rw[hm,au];exact Da ai
      clear w M hm HN HG HA au;go_wp2
      go_roundw
      case rel=>exact⟨f,d++x,Q,E,G,F,aH,aI⟩
      case measure=>exact Da HM
   ·have i:=Da O;have aA:¬(d.length:Int)<v:=by rw[<-ag];exact ay
    have av:JF j n=some (d,r):=by
     rw[(Da R).2.2];show(if (d.length:Int)<v then _ else _)=_;rw[if_neg aA]
    have az:=i.rg.map.drew;have aM:=i.rg.len;have aY:=az.size_le;have ax:=WideMaps.keyOf_string_mk (P:=prog) (k:=9) underlying9 (s:=ba p) (by unfold maxLen;rw[JM];omega);rw[show(ba p).data.toList=p from Jo p]at ax;have aN:=plainElem_int (H:=Unit) underlying3 (a:=((Maps.size D:Nat):Int)) (Zs (by omega));obtain⟨w2,ah,aC,aF⟩:=az.store Nd underlying135 (by unfold maxLen;omega) ax aN;have ab:=aF.grown;have hi:=i.hi;have lo:=i.lo;have A:Fr (λk=>k=u) wr w2:=⟨ab.os,ab.tape,ab.output,ab.size,λk hk hn=>ab.block k hk (λe=>hn (BR e))⟩;have ak:FX w2 m 137 _:=i.rg.row.fr A i.rg.nm;have z:FX w2 W.heap.size 141 _:=i.b6.fr A (by omega);have I:FX w2 q 141 _:=i.b10.fr A (by omega);have aw:Fr (λk=>k=m\/k=u) W w2:=i.fr.then A (λk _ e => .inr e);have h4:=Da aj;have ac:Hid (Qi W W.heap.size m u D K p j n (.returned (.tuple #[.agg #[.string (ba p),.int .u8 2,.int .i64 (Maps.size D),.slice a l c],.bool true])) (KF w2 W.heap.size (.string (ba p)) (.int .u8 2) (.int .i64 (Maps.size D)) (.slice a l c))):=by
     have aa:=Uf w2 W.heap.size (.string (ba p)) (.int .u8 2) (.int .i64 (Maps.size D)) (.slice a l c);refine⟨.inr ⟨d,r,a,l,c,av,rfl,⟨(i.dat.1.fr A (λg hg e=>by have:=(i.own hg).1;omega)).fr aa (λg hg e=>(i.own hg).2.1 e),i.dat.2⟩,?_,λg hg=>(i.own hg).1⟩,aw.then aa (λk hk e=>by omega)⟩;refine⟨ak.fr aa (by omega),?_,(i.rg.pk.fr A (by have:=i.rg.ne;omega)).fr aa (by omega),(i.rg.er.fr A (λk hk e=>by have:=i.rg.ne;omega)).fr aa (λk hk e=>by omega),i.rg.ne,?_⟩
     ·obtain⟨es,cl,Z,hF,hr⟩:=aC;exact⟨es,cl,(aa.block _ (Aj.1 Z).1 (by omega)).trans Z,hF,hr⟩
     ·have:=(Da R).2.1;omega
    have m1:wr.cell? ⟨m,1,none⟩=some (.map (some u)):=(i.rg.row.cell 1).trans rfl;have m2:wr.cell? ⟨q,2,none⟩=some (.int .i64 (Maps.size D)):=(i.b10.cell 2).trans rfl;have n1:w2.cell? ⟨m,1,none⟩=some (.map (some u)):=(ak.cell 1).trans rfl;have n2:w2.cell? ⟨q,2,none⟩=some (.int .i64 (Maps.size D)):=(I.cell 2).trans rfl;have q0:=I.cell 0;have q1:=I.cell 1;have q3:=I.cell 3;have z0:=z.cell 0;have z1:=z.cell 1;have z2:=z.cell 2;have z3:=z.cell 3;have y0:=z.frozen 0;have y1:=z.frozen 1;have y2:=z.frozen 2;have y3:=z.frozen 3;have y:=Db (JL z (.string (ba p)) (.int .u8 2) (.int .i64 (Maps.size D)) (.slice a l c));have aV:¬W.heap.size=q:=by omega
    have aJ:=Db ah;clear i aA av aM ah aC aF ab A ak z I aw h4 ag R O;go_upto_region 12 with fail;refine AE (S:=λV=>V.cell? ⟨m,1,none⟩=some (.map (some u))/\V.cell? ⟨q,2,none⟩=some (.int .i64 (Maps.size D))) (by kernel_rfl) ⟨m1,m2⟩ (λaR=>?_);refine tk 0 ?_;refine tk 1 ?_;refine tk 2 ?_;refine tk 3 ?_;refine tk 4 ?_;refine tk 5 ?_;refine tk 6 ?_;refine rk 7 (λK hK=>?_);have ah:=Da aJ;go_simp;clear ah;refine hK.out _ _ ⟨n1,n2⟩ (λaQ=>?_);clear hK K
    try simp only[pE]
    refine AO (by kernel_rfl) ?_ _;go_wp2;have r0:=(Da y).cell 0;have r1:=(Da y).cell 1;have r2:=(Da y).cell 2;have r3:=(Da y).cell 3;exact Ap (v:=.tuple #[.agg #[.string (ba p),.int .u8 2,.int .i64 (Maps.size D),.slice a l c],.bool true]) (by simp[results,results156,go_sem,r0,r1,r2,r3]) rfl (Da ac)
 |range=>
  obtain⟨_,te,pe,hv⟩:=h0.er;exact TA h hi p j n (Da (Db e0)) x0 b0 (by unfold JF;rw[hat]) ((Tryz.strconv_Atoi_range (ba j) (by rw[JM];omega) (by rw[show(ba j).data.toList=j from Jo j];exact hat) _ T hv (.inr ⟨te,pe,rfl⟩)).mono λe X ⟨N,w,M⟩=>⟨_,N,w,M⟩)
 |_=>
  obtain⟨⟨te,pe,hv⟩,_⟩:=h0.er;exact TA h hi p j n (Da (Db e0)) x0 b0 (by unfold JF;rw[hat]) ((Tryz.strconv_Atoi_no (ba j) (by rw[JM];omega) (λv=>by rw[show(ba j).data.toList=j from Jo j,hat];exact λe=>by cases e) (by rw[show(ba j).data.toList=j from Jo j,hat];exact λe=>by cases e) _ T hv (.inr ⟨te,pe,rfl⟩)).mono λe X ⟨N,w,M⟩=>⟨0,N,w,M⟩)
def Mo(D:D9)(k:List UInt8):Int:=match D.atKey (Jm k) (.lit (.int .i64 0)) with|.lit (.int .i64 c)=>c|_=>0
def Li(rest:List UInt8)(D:D9):Option (Nat×List UInt8×Int×List UInt8×List UInt8×D9):=
 if (Lib.cut rest [10]).2.2=true then
  let c:=Lib.cut (Lib.cut rest [10]).1 [32]
  let q:=Lib.cut c.2.1 [32]
  let r:=(Lib.cut rest [10]).2.1
  if c.1=[100] then some (1,q.1,0,[],r,D) else if c.1=[102] then(JF q.2.1 r).map (λx=>(2,q.1,(Maps.size D:Int),x.1,x.2,D.put (Jm q.1) (.lit (.int .i64 (Maps.size D))))) else if c.1=[108] then(if Maps.has D (Jm q.2.1)=true then some (3,q.1,Mo D q.2.1,[],r,D) else none) else none
 else none
def Lz(W:World)(rb mb:Nat)(D:D9)(rest:List UInt8)(e:Ending)(W':World):Prop:=
 ∃(s:By) (kd:Nat) (nm:Int) (a:OA) (l c:Nat) (ok:Bool),e=.returned (.tuple #[.agg #[.string s,.int .u8 kd,.int .i64 nm,.slice a l c],.bool ok])/\Fr (λk=>k=rb\/k=mb) W W'/\(ok=false->Li rest D=none)/\(ok=true->∃p d r D' K',Li rest D=some (kd,p,nm,d,r,D')/\s=ba p/\Hh rb mb r D' K' W'/\F9 W.heap.size W' (.slice a l c) (ba d)/\r.length<rest.length/\p.length<=2000000)
theorem Tp:∀(f:Nat) {v:Int} {d r x r':List UInt8},Lh f v d r=some (x,r')->r'.length<=r.length
 |0,v,d,r,x,r',h=>by cases h
 |f+1,v,d,r,x,r',h=>by
  unfold Lh at h
  split at h
  ·split at h
   ·split at h
    ·cases h
    ·have h1:=Tp f h;have h2:=(Qp r 10).1;omega
   ·cases h
  ·cases h;exact Aa _
theorem ZJ{t r x a:List UInt8}(h:JF t r=some (x,a)):a.length<=r.length:=by
 unfold JF at h
 split at h
 ·exact Tp _ h
 ·cases h
theorem Sw(l:List UInt8)(hl:l.length<=2000000)(W:World)(i:Gd W){a b:List UInt8}{f:Bool}(h:Lib.cut l [32]=(a,b,f)):Cl 155 #[.string (ba l),.string ⟨#[32]⟩] W λe c=>e=.returned (.tuple #[.string (ba a),.string (ba b),.bool f])/\Bw W c:=by
 obtain⟨⟨m,g⟩,_⟩:=i;have d:=Tryz.strings_Cut (ba l) ⟨#[32]⟩ m W (by rw[JM];omega) g;rw[show(ba l).data.toList=l from Jo l,show(⟨#[32]⟩:By).data.toList=[32] from rfl,h]at d;refine d.mono ?_;rintro e c⟨rfl,n,rfl⟩;exact⟨rfl,rfl,rfl,rfl,Aa _,λ_ _=>rfl⟩
theorem YZ{o q:Nat}{z:List UInt8}{D:D9}{K:Nat}{W:World}(h:Hh o q z D K W)(hi:o<W.heap.size/\q<W.heap.size):
  Cl 96 #[.pointer (some ⟨o,0,none⟩)] W (Lz W o q D z):=by
 have h4:4<=W.heap.size:=by have:=h.ne;omega
 obtain⟨X0,e0,x0,k0,s0,b0⟩:=De W [.string ⟨#[]⟩,.int .u8 0,.int .i64 0,.slice none 0 0] 141;have h0:=h.below b0;obtain⟨ln,m,M,H⟩:∃a b c,Lib.cut z [10]=(a,b,c):=⟨_,_,_,rfl⟩;obtain⟨B,rd,k2,I⟩:∃a b c,Lib.cut ln [32]=(a,b,c):=⟨_,_,_,rfl⟩;obtain⟨i,lt,k3,J⟩:∃a b c,Lib.cut rd [32]=(a,b,c):=⟨_,_,_,rfl⟩;have L:=Qp z 10;have Q:=Qp ln 32;have R:=Qp rd 32;rw[H]at L;rw[I]at Q;rw[J]at R;dsimp only at L Q R;have ab:=h.len;have ar:Li z D=if M=true then(if B=[100] then some (1,i,0,[],m,D) else if B=[102] then(JF lt m).map (λx=>(2,i,(Maps.size D:Int),x.1,x.2,D.put (Jm i) (.lit (.int .i64 (Maps.size D))))) else if B=[108] then(if Maps.has D (Jm lt)=true then some (3,i,Mo D lt,[],m,D) else none) else none) else none:=by
  unfold Li;rw[H];dsimp only;rw[I];dsimp only;rw[J]
 have N:=Db ar;have HL:Hid (Cl 154 #[.pointer (some ⟨o,0,none⟩)] X0 λe X=>e=.returned (.tuple #[.string (ba ln),.bool M])/\Hid (Hh o q m D K X/\FX X W.heap.size 141 [.string ⟨#[]⟩,.int .u8 0,.int .i64 0,.slice none 0 0]/\Fr (λk=>k=o\/k=q) W X)):=by
  have h9:=Tf h0;rw[H]at h9;refine h9.mono ?_;rintro e X⟨T,h2,h3⟩;exact⟨T,h2,x0.fr h3 (by omega),(Fr.of_below b0).then (h3.mono (Y:=λk=>k=o\/k=q) (λk _ e => .inl e)) (λ_ _ e=>e)⟩
 have au:=Db e0;have C:Hid (∀X (s:By) (p:Nat) (nm:Int),Li z D=none->Fr (λk=>k=o\/k=q) W X->Lz W o q D z (.returned (.tuple #[.agg #[.string s,.int .u8 p,.int .i64 nm,.slice none 0 0],.bool false])) (KF X W.heap.size (.string s) (.int .u8 p) (.int .i64 nm) (.slice none 0 0))):=λX s p nm hn U=>⟨s,p,nm,none,0,0,false,rfl,U.then (Uf _ _ _ _ _ _) (λk hk e=>by omega),λ_=>hn,λe=>(by cases e)⟩
 have O:Hid (∀X (p:Nat) (nm:Int),Li z D=some (p,i,nm,[],m,D)->m.length<z.length->Hh o q m D K X->Fr (λk=>k=o\/k=q) W X->Lz W o q D z (.returned (.tuple #[.agg #[.string (ba i),.int .u8 p,.int .i64 nm,.slice none 0 0],.bool true])) (KF X W.heap.size (.string (ba i)) (.int .u8 p) (.int .i64 nm) (.slice none 0 0))):=λX p nm hn ax hg U=>by
  have V:=Uf X W.heap.size (.string (ba i)) (.int .u8 p) (.int .i64 nm) (.slice none 0 0);exact⟨ba i,p,nm,none,0,0,true,rfl,U.then V (λk hk e=>by omega),λe=>(by cases e),λ_=>⟨i,[],m,D,K,hn,rfl,hg.fr V (by omega) (by omega) (λk hk e=>by omega),F9.nil _ _,ax,by omega⟩⟩
 clear h0 e0 x0 k0 s0 b0 ar;go_enter func96,ntmps96;go_upto_region 1 with fail;rw[show W.alloc (.cells #[.string ⟨#[]⟩,.int .u8 0,.int .i64 0,.slice none 0 0] 141)=X0 from Da au];go_upto_region 2 with(go_at_call 154;refine(Da HL).mono ?_;rintro e X⟨rfl,HX⟩);clear HL
 cases M
 ·obtain⟨t,f,u⟩:=Da HX;have A:=Db (Da C X ⟨#[]⟩ 0 0 (by rw[Da N];rfl) u);have j:=Db (JL f (.string ⟨#[]⟩) (.int .u8 0) (.int .i64 0) (.slice none 0 0));have z0:=f.cell 0;have z1:=f.cell 1;have z2:=f.cell 2;have z3:=f.cell 3;have y0:=f.frozen 0;have y1:=f.frozen 1;have y2:=f.frozen 2;have y3:=f.frozen 3;clear t f u HX C O N h hi L Q R H I J ab;go_wp2;have E:=(Da j).cell 0;have m:=(Da j).cell 1;have F:=(Da j).cell 2;have G:=(Da j).cell 3;exact Ap (v:=.tuple #[.agg #[.string ⟨#[]⟩,.int .u8 0,.int .i64 0,.slice none 0 0],.bool false]) (by simp[results,results96,go_sem,E,m,F,G]) rfl (Da A)
 have Z:=L.2.1 rfl;have ak:Hid (Cl 155 #[.string (ba ln),.string ⟨#[32]⟩] X λe X2=>e=.returned (.tuple #[.string (ba B),.string (ba rd),.bool k2])/\Hid (Cl 155 #[.string (ba rd),.string ⟨#[32]⟩] X2 λe y=>e=.returned (.tuple #[.string (ba i),.string (ba lt),.bool k3])/\Hid (Hh o q m D K y/\FX y W.heap.size 141 [.string ⟨#[]⟩,.int .u8 0,.int .i64 0,.slice none 0 0]/\Fr (λk=>k=o\/k=q) W y))):=by
  obtain⟨t,g2,u⟩:=Da HX;refine(Sw ln (by omega) X t.pk I).mono ?_;rintro e X2⟨rfl,b2⟩;refine⟨rfl,?_⟩;have aw:=t.below b2;refine(Sw rd (by omega) X2 aw.pk J).mono ?_;rintro e y⟨rfl,b3⟩;have ah:Bw X y:=b2.trans (b3.mono b2.size);exact⟨rfl,t.below ah,(ah.block _ g2.lt).trans g2,u.then (Fr.of_below ah) (λ_ _ e=>e)⟩
 clear HX;go_upto_region 5 with(go_at_call 155;refine(Da ak).mono ?_;rintro e X2⟨rfl,al⟩);clear ak;go_upto_region 6 with(go_at_call 155;refine(Da al).mono ?_;rintro e y⟨rfl,aa⟩);clear al;obtain⟨t,f,u⟩:=Da aa;have j:=Db (λa b c d=>JL f a b c d);have z0:=f.cell 0;have z1:=f.cell 1;have z2:=f.cell 2;have z3:=f.cell 3;have y0:=f.frozen 0;have y1:=f.frozen 1;have y2:=f.frozen 2;have y3:=f.frozen 3;have w:=Da N;rw[if_pos trivial]at w;by_cases ae:B=[100]
 ·subst ae;have A:=Db (Da O y 1 0 (by rw[w,if_pos rfl]) Z t u);clear t f u aa C O N h hi L Q R H I J ab w Z;rw[show ba [100]=⟨#[100]⟩ from rfl];go_wp2;have E:=(Da j (.string (ba i)) (.int .u8 1) (.int .i64 0) (.slice none 0 0)).cell 0;have m:=(Da j (.string (ba i)) (.int .u8 1) (.int .i64 0) (.slice none 0 0)).cell 1;have F:=(Da j (.string (ba i)) (.int .u8 1) (.int .i64 0) (.slice none 0 0)).cell 2;have G:=(Da j (.string (ba i)) (.int .u8 1) (.int .i64 0) (.slice none 0 0)).cell 3;exact Ap (v:=.tuple #[.agg #[.string (ba i),.int .u8 1,.int .i64 0,.slice none 0 0],.bool true]) (by simp[results,results96,go_sem,E,m,F,G]) rfl (Da A)
 by_cases af:B=[102]
 ·subst af;rw[if_neg (by decide),if_pos rfl]at w;have HC:Hid (Cl 156 #[.pointer (some ⟨o,0,none⟩),.string (ba i),.string (ba lt)] y λe Y=>∃s p nm a l c M,e=.returned (.tuple #[.agg #[.string s,.int .u8 p,.int .i64 nm,.slice a l c],.bool M])/\FX Y W.heap.size 141 [.string ⟨#[]⟩,.int .u8 0,.int .i64 0,.slice none 0 0]/\Hid (Lz W o q D z (.returned (.tuple #[.agg #[.string s,.int .u8 p,.int .i64 nm,.slice a l c],.bool M])) (KF Y W.heap.size (.string s) (.int .u8 p) (.int .i64 nm) (.slice a l c)))):=by
   have aA:=u.size;refine(YK t (by omega) i lt (by omega) (by omega) (by omega)).mono ?_;rintro e Y⟨hc,U⟩;have o6:FX Y W.heap.size 141 _:=f.fr U (by omega);have aq:Fr (λk=>k=o\/k=q) W Y:=u.then U (λ_ _ e=>e);rcases hc with⟨T,rfl⟩|⟨d,r,a,l,c,T,rfl,h3,h5,h6⟩
   ·exact⟨_,_,_,_,_,_,_,rfl,o6,Da C Y ⟨#[]⟩ 0 0 (by rw[w,T];rfl) aq⟩
   ·have V:=Uf Y W.heap.size (.string (ba i)) (.int .u8 2) (.int .i64 (Maps.size D)) (.slice a l c);have az:r.length<=m.length:=ZJ T;refine⟨_,_,_,_,_,_,_,rfl,o6,ba i,2,_,a,l,c,true,rfl,aq.then V (λk hk e=>by omega),λe=>(by cases e),λ_=>⟨i,d,r,_,K+1,by rw[w,T];rfl,rfl,h5.fr V (by omega) (by omega) (λk hk e=>by omega),⟨h3.1.fr V (λg hg e=>?_),λg hg=>?_⟩,by omega,by omega⟩⟩
    ·have:=h6 g hg;have:=f.lt;omega
    ·have:=h6 g hg;omega
  clear t f u aa C O N h hi L Q R H I J ab w Z z0 z1 z2 z3 y0 y1 y2 y3 j;rw[show ba [102]=⟨#[102]⟩ from rfl];go_upto_region 10 with fail;go_wp2_with(go_at_call 156;refine(Da HC).mono ?_;rintro e Y⟨s,p,nm,a,l,c,M,rfl,f,A⟩;have j:=Db (JL f (.string s) (.int .u8 p) (.int .i64 nm) (.slice a l c));have z0:=f.cell 0;have z1:=f.cell 1;have z2:=f.cell 2;have z3:=f.cell 3;have y0:=f.frozen 0;have y1:=f.frozen 1;have y2:=f.frozen 2;have y3:=f.frozen 3;clear f HC);have E:=(Da j).cell 0;have m:=(Da j).cell 1;have F:=(Da j).cell 2;have G:=(Da j).cell 3;exact Ap (v:=.tuple #[.agg #[.string s,.int .u8 p,.int .i64 nm,.slice a l c],.bool M]) (by simp[results,results96,go_sem,E,m,F,G]) rfl (Da A)
 by_cases ag:B=[108]
 ·subst ag;rw[if_neg (by decide),if_neg (by decide),if_pos rfl]at w;have c1:y.cell? ⟨o,1,none⟩=some (.map (some q)):=(t.row.cell 1).trans rfl;have ai:=WideMaps.keyOf_string_mk (P:=prog) (k:=9) underlying9 (s:=ba lt) (by unfold maxLen;rw[JM];omega);rw[show(ba lt).data.toList=lt from Jo lt]at ai;have an:=Db ai;have ao:=Db t.map;obtain⟨hs,ad⟩:∃b,b=Maps.has D (Jm lt):=⟨_,rfl⟩;have A:Hid (∀n:Int,D.atKey (Jm lt) (.lit (.int .i64 0))=.lit (.int .i64 n)->Lz W o q D z (.returned (.tuple #[.agg #[.string (ba i),.int .u8 3,.int .i64 n,.slice none 0 0],.bool hs])) (KF y W.heap.size (.string (ba i)) (.int .u8 3) (.int .i64 n) (.slice none 0 0))):=λn hn=>by
   cases hs with
   |false=>exact Da C y (ba i) 3 n (by rw[w,<-ad];rfl) u
   |true=>exact Da O y 3 n (by
     rw[w,<-ad,if_pos rfl];have:Mo D lt=n:=by unfold Mo;rw[hn]
     rw[this]) Z t u
  have am:Hid (hs=Maps.has D (.string lt)):=ad;clear t f u aa C O N h hi L Q R H I J ab w Z ai ad;rw[show ba [108]=⟨#[108]⟩ from rfl];go_upto_region 12 with fail;go_upto_region 13 with(at_lookup;refine wpList_lookup_own_ok_int _ rfl _ _ 135 rfl 9 3 .i64 Nd underlying135 underlying3 (zeroValue3 _) q K D rfl (Da ao) _ _ rfl (Da an) ?_;intro n ap ay;have aj:=Db ap;rw[<-Da am];clear ap ay);clear an ao;have av:=Db (Da A n (Da aj));clear A aj am c1;go_wp2;have E:=(Da j (.string (ba i)) (.int .u8 3) (.int .i64 n) (.slice none 0 0)).cell 0;have m:=(Da j (.string (ba i)) (.int .u8 3) (.int .i64 n) (.slice none 0 0)).cell 1;have F:=(Da j (.string (ba i)) (.int .u8 3) (.int .i64 n) (.slice none 0 0)).cell 2;have G:=(Da j (.string (ba i)) (.int .u8 3) (.int .i64 n) (.slice none 0 0)).cell 3;exact Ap (v:=.tuple #[.agg #[.string (ba i),.int .u8 3,.int .i64 n,.slice none 0 0],.bool hs]) (by simp[results,results96,go_sem,E,m,F,G]) rfl (Da av)
 ·rw[if_neg ae,if_neg af,if_neg ag]at w;have A:=Db (Da C y ⟨#[]⟩ 0 0 w u);obtain⟨S,hS⟩:=ex (ba B);rw[<-hS];have ac:S.toList=B:=by rw[hS,FJ];exact Jo B
  have p1:(S.toList==[100])=false:=by rw[ac,Bm];exact ae
  have p2:(S.toList==[102])=false:=by rw[ac,Bm];exact af
  have p3:(S.toList==[108])=false:=by rw[ac,Bm];exact ag
  clear ac;clear t f u aa C O N h hi L Q R H I J ab w Z ae af ag hS;go_wp2;have E:=(Da j (.string ⟨#[]⟩) (.int .u8 0) (.int .i64 0) (.slice none 0 0)).cell 0;have m:=(Da j (.string ⟨#[]⟩) (.int .u8 0) (.int .i64 0) (.slice none 0 0)).cell 1;have F:=(Da j (.string ⟨#[]⟩) (.int .u8 0) (.int .i64 0) (.slice none 0 0)).cell 2;have G:=(Da j (.string ⟨#[]⟩) (.int .u8 0) (.int .i64 0) (.slice none 0 0)).cell 3;exact Ap (v:=.tuple #[.agg #[.string ⟨#[]⟩,.int .u8 0,.int .i64 0,.slice none 0 0],.bool false]) (by simp[results,results96,go_sem,E,m,F,G]) rfl (Da A)
end Go.Proofs.YtaieidcohdhgpaaGreatDoor
