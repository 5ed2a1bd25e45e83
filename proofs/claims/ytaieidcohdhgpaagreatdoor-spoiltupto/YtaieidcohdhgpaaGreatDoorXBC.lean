/- Spoilt. -/
import Derived.Test.YtaieidcohdhgpaaGreatDoorXBB
namespace Go.Proofs.YtaieidcohdhgpaaGreatDoor
set_option maxHeartbeats 40000000
set_option maxRecDepth 100000
open Go.RowKit
def Lj(G:Gh)(I:LF)(p:By)(f dl:Nat):Prop:=SB G I p f dl/\f<60/\dl<=1280
def UM(w:World)(tb:Nat)(G:Gh)(I:LF)(C:IB)(p:By)(f:Nat)(da:OA)(dl dc:Nat)(s:By)(e:Ending)(w':World):Prop:=
 (∃b:Bool,e = .returned (.bool b))/\Fr (DP tb w) w w'/\(e = .returned (.bool true)->Hz G p=0/\Jp G I (Df p).dropLast=true/\f<60/\(∀x∈I,x.1≠(f:Int))/\dl<=1280/\∃I1 I2 C2,I1.length=I.length+1/\(∀x,x∈I1↔x=((f:Int),⟨none,0,0,1⟩)\/x∈I)/\Gq I1 I2 (f:Int) ⟨da,dl,dc,1⟩/\DN (I2.map (·.2.l))<=160/\PS w' tb (G++[(Df p,⟨none,(f:Int)⟩)]) I2 C2/\C2 f=s/\∀x∈I,C2 x.1=C x.1)/\(e = .returned (.bool false)->¬Lj G I p f dl)
theorem Zjn(w:World)(tb:Nat)(G:Gh)(I:LF)(C:IB)(h:PS w tb G I C)(hG:Gt G)(aJ:G.length<=9000)(aK:I.length<=9000)(ao:∀x∈I,x.2.l<=2000000)(p:By)(hp:p.size<=2000000)
  (f:Nat) (q:OA) (g t:Nat) (s:By) (an:Sl w 5 1 (.slice q g t) g (Dc s)):
  Cl 157 #[.pointer (some ⟨tb,0,none⟩),.agg #[.string p,.int .u8 2,.int .i64 (f:Nat),.slice q g t]] w (UM w tb G I C p f q g t s):=by
 obtain⟨rd,V,E,vi,h⟩:=h;obtain⟨P,e1,x1,k1,s1,Q⟩:=De w [.string p,.int .u8 2,.int .i64 (f:Nat),.slice q g t] 141;have R:∀{X},Bw w X->TW X tb rd V E vi G I C:=fun j=>h.below j (Aa _)
 have a0:=h.t.lt;have N:Hid (∀X,¬Lj G I p f g->Bw w X->UM w tb G I C p f q g t s (.returned (.bool false)) X):=fun X hn hX=>⟨⟨false,rfl⟩,Fr.of_below hX,(fun e=>by cases e),fun _=>hn⟩
 have aV:¬((f:Int)<0):=by omega
 have ar:=Db e1;have c0:=(x1.cell 0).trans (show _=some (Value.string p) from rfl);by_cases S:Hz G p=0
 rotate_left
 ·have J:Hid (Cl 181 #[.pointer (some ⟨tb,0,none⟩),.string p] P fun e X=>e = .returned (.tuple #[DF,.int .i64 (Hz G p)])/\Hid (∀o,UM w tb G I C p f q g t s (.returned (.bool false)) (X.alloc o))):=by
   refine(Ok P tb rd V E vi G I C (R Q) hG (by omega) p hp).mono ?_;rintro e X ⟨(⟨_,rfl⟩|⟨e0,_⟩),j⟩
   ·have ah:Bw w X:=Q.trans (j.mono (by omega));exact⟨rfl,fun o=>Da N _ (fun m=>S m.1.lg) (ah.alloc ah.size o)⟩
   ·exact absurd e0 S
  obtain⟨el,aA⟩:=ex (Hz G p);rw[<-aA]at J S;clear aA e1 x1 k1 s1 Q an R h ao hG;go_enter Tryz.func157,Tryz.ntmps157;go_upto_region 1 with fail;rw[show w.alloc (.cells #[.string p,.int .u8 2,.int .i64 (f:Nat),.slice q g t] 141)=P from Da ar];unfold DF Dn at J;go_wp2_with (go_at_call 181;refine(Da J).mono ?_;rintro e X ⟨rfl,HP⟩);go_ret;exact Da HP _
 have J:Hid (Cl 181 #[.pointer (some ⟨tb,0,none⟩),.string p] P fun e X=>∃n z,e = .returned (.tuple #[Dn (some ⟨z,0,none⟩) n false ⟨none,0⟩,.int .i64 0])/\∃Y,X.alloc (.cells (DQ (some ⟨z,0,none⟩) n false ⟨none,0⟩).toArray 262)=Y/\F0 Y w.heap.size 141 [.string p,.int .u8 2,.int .i64 (f:Nat),.slice q g t]/\Hid (F0 Y X.heap.size 262 (DQ (some ⟨z,0,none⟩) n false ⟨none,0⟩))/\Hid (Bw w Y/\w.heap.size+1<=X.heap.size/\Y.heap.size=X.heap.size+1)/\
   Hid (f<60->g<=1280->(∀x∈I,x.1≠(f:Int))->∀Z,Bw w Z->Cl 185 #[.pointer (some ⟨tb,0,none⟩),Dn (some ⟨z,0,none⟩) n false ⟨none,0⟩,.int .i64 (f:Nat),.slice q g t] Z fun e U=>∃x:Int,e = .returned (.int .i64 x)/\Hid (UM w tb G I C p f q g t s (.returned (.bool (x==0))) U))):=by
  refine(Ok P tb rd V E vi G I C (R Q) hG (by omega) p hp).mono ?_;rintro e X ⟨(⟨aO,_⟩|⟨_,aF,ds,n,z,am,aM,ax,rfl⟩),j⟩
  ·exact absurd S aO
  ·obtain⟨Y,eY,xY,kY,sY,bY⟩:=De X (DQ (some ⟨z,0,none⟩) n false ⟨none,0⟩) 262;have aS:=j.size;have ah:Bw w X:=Q.trans (j.mono (by omega));have aL:F0 X w.heap.size 141 _:=(j.block _ x1.lt).trans x1;refine⟨n,z,rfl,Y,eY,kY _ _ _ aL,xY,⟨ah.trans (bY.mono ah.size),by omega,sY⟩,fun aj al hf Z y=>?_⟩;have T:=(QX aF (VO aF (by rw[am];simp))).2;have T:IX (Df p)/\(Df p).length<=6:=⟨T.1,T.2.2⟩;have aG:(Df p).dropLast=ds:=by rw[am];simp
   rw[am]at ax T;have aY:n.size<=12:=by
    have A:=T.1 n (by simp);unfold DX at A;simp only[Bu,AJ]at A;exact A.1.2
   refine(Xk Z tb rd V E vi G I C (R y) hG aJ aK ao ds z aM n (by omega) T ax (f:Int) hf q g t (by omega) s (an.kept (fun k u _=>y.block k u))).mono ?_;rintro e U (⟨aN,rfl,ae⟩|⟨hm,_,aC,I1,I2,q1,q2,q3,(⟨rfl,a1⟩|⟨rfl,q0,C2,q4,q5,q6⟩)⟩)
   ·exact⟨8,rfl,Da N _ (fun m=>by have:=m.1.may;rw[aG,aN]at this;cases this) (y.trans (ae.mono y.size))⟩
   ·exact⟨9,rfl,⟨false,rfl⟩,Fr.prog y aC,(fun e=>by cases e),fun _ m=>by have:=m.1.use I1 I2 q t q1 q2 q3;omega⟩
   ·exact⟨0,rfl,⟨true,rfl⟩,Fr.prog y aC,fun _=>⟨S,by rw[aG];exact hm,aj,hf,al,I1,I2,C2,q1,q2,q3,q0,by rw[am];exact q4,q5,q6⟩,fun e=>by cases e⟩
 have M:Hid (∀X,Bw w X->Cl 175 #[.pointer (some ⟨tb,1,none⟩),.int .i64 (f:Nat)] X fun e Y=>∃(a9:OA) (l9 c9:Nat) (f9:Int) (b:Bool),e = .returned (.tuple #[.agg #[.slice a9 l9 c9,.int .i64 f9],.bool b])/\Hid (b=false->∀x∈I,x.1≠(f:Int))/\Hid (b=true->¬Lj G I p f g)/\Bw X Y):=fun X hX=>by
  have hT:=R hX;refine(Mi X tb 1 vi I (f:Int) ((hT.t.cell 1).trans rfl) hT.i (by omega) hT.si).mono ?_;rintro e Y ⟨r,b,rfl,aB,j⟩;refine⟨r.a,r.l,r.c,r.f,b,rfl,fun ay=>?_,fun az m=>?_,j⟩
  ·rcases aB with⟨e9,_⟩|⟨_,_,hn⟩
   ·rw[e9]at ay;cases ay
   ·exact hn
  ·rcases aB with⟨_,hm⟩|⟨e9,_⟩
   ·exact m.1.fr _ hm rfl
   ·rw[e9]at az;cases az
 clear e1 x1 k1 s1 Q S an R h ao hG;go_enter Tryz.func157,Tryz.ntmps157;go_upto_region 1 with fail;rw[show w.alloc (.cells #[.string p,.int .u8 2,.int .i64 (f:Nat),.slice q g t] 141)=P from Da ar];unfold Dn at J;go_upto_region 2 with(go_at_call 181;refine(Da J).mono ?_;rintro e X ⟨n,z,rfl,Y,hY,y1,av,ai,K⟩;have HY:=Db hY;clear hY J c0);rw[show X.alloc (.cells (DQ (some ⟨z,0,none⟩) n false ⟨none,0⟩).toArray 262)=Y from Da HY];have c2:=(y1.cell 2).trans (show _=some (Value.int .i64 (f:Nat)) from rfl);have c3:=(y1.cell 3).trans (show _=some (Value.slice q g t) from rfl);have au:=Db y1;clear y1;by_cases aU:60<=f\/1280<g
 ·have L:=Db (Da N Y (fun m=>by have:=m.2;omega) (Da ai).1);have aR:(60:Int)<=(f:Int)\/¬(60:Int)<=(f:Int)/\(1280:Int)<(g:Int):=by omega
  clear ai au av K M N;rcases aR with hw|⟨hw,a2⟩
  ·go_wp2;go_ret;exact Da L
  ·go_wp2;go_ret;exact Da L
 have aj:f<60:=by omega
 have al:g<=1280:=by omega
 have aW:¬((60:Int)<=(f:Int)):=by omega
 have aT:¬((1280:Int)<(g:Int)):=by omega
 go_upto_region 4 with fail;obtain⟨i,aP,aQ⟩:=Da ai;have ab:Hid (∀V,V.heap=Y.heap->V.os=Y.os->V.tape=Y.tape->V.output=Y.output->Bw w V):=fun V a b c d=>⟨b.trans i.os,c.trans i.tape,d.trans i.output,by rw[a];exact i.size,fun k u=>by rw[a];exact i.block k u⟩
 have aa:Hid (∀V o,V.heap=(Y.alloc o).heap->V.os=Y.os->V.tape=Y.tape->V.output=Y.output->Bw w V):=fun V o a b c d=>by
  have A:=i.trans ((Al w.heap.size Y).alloc i.size o);exact⟨b.trans i.os,c.trans i.tape,d.trans i.output,by rw[a];exact A.size,fun k u=>by rw[a];exact A.block k u⟩
 have ac:Hid (∀V l,Bw V l->V.os=Y.os->V.tape=Y.tape->V.output=Y.output->(V.heap=Y.heap\/∃o,V.heap=(Y.alloc o).heap)->F0 l w.heap.size 141 [.string p,.int .u8 2,.int .i64 (f:Nat),.slice q g t]/\F0 l X.heap.size 262 (DQ (some ⟨z,0,none⟩) n false ⟨none,0⟩)/\Bw w l):=fun V l j ho ht hu hV=>by
  have A:=Da au;have h5:=Da av;rcases hV with e|⟨o,e⟩
  ·have u:∀k,k<Y.heap.size->l.heap[k]?=Y.heap[k]? := fun k u=>(j.block k (by rw[e];exact u)).trans (by rw[e])
   have af:=j.size;rw[e]at af;exact⟨(u _ A.lt).trans A,(u _ h5.lt).trans h5,j.os.trans (ho.trans i.os),j.tape.trans (ht.trans i.tape),j.output.trans (hu.trans i.output),Ag i.size af,fun k ag=>(u k (Be ag i.size)).trans (i.block k ag)⟩
  ·have u:∀k,k<Y.heap.size->l.heap[k]?=Y.heap[k]? := fun k u=>(j.block k (by rw[e];simp;omega)).trans (by rw[e];exact BO Y o k u)
   have af:=j.size;rw[e]at af;simp at af;exact⟨(u _ A.lt).trans A,(u _ h5.lt).trans h5,j.os.trans (ho.trans i.os),j.tape.trans (ht.trans i.tape),j.output.trans (hu.trans i.output),by have:=i.size;omega,fun k ag=>(u k (Be ag i.size)).trans (i.block k ag)⟩
 have ad:Hid (∀V l,Bw V l->V.heap=(Y.alloc (.cells #[.slice none 0 0,.int .i64 0] 217)).heap->F0 l Y.heap.size 217 [.slice none 0 0,.int .i64 0]):=fun V l j e=>(j.block _ (by rw[e];simp)).trans (by rw[e];exact Cp Y _)
 have aD:¬Y.heap.size=w.heap.size:=by omega
 have aE:¬Y.heap.size=X.heap.size:=by omega
 clear i aP aQ
 go_region_held3 (fun W=>W.cell? ⟨w.heap.size,2,none⟩=some (.int .i64 (f:Nat))) (go_keep) (first|(go_at_call 175;refine(Da M _ (by first|exact Da ab _ rfl rfl rfl rfl|exact Da aa _ _ rfl rfl rfl rfl)).mono ?_;rintro e l ⟨a9,l9,c9,f9,b9,rfl,aq,ap,ae⟩;have hz:=Da ac _ l ae rfl rfl rfl (by first|exact .inl rfl|exact .inr ⟨_,rfl⟩);have ak:=(hz.1.cell 2).trans (show _=some (Value.int .i64 (f:Nat)) from rfl);have aZ:=hz.1.lt;have aX:=hz.2.1.lt;(try have zn:=Da ad _ l ae rfl);(try have n0:=zn.cell 0);(try have n1:=zn.cell 1);(try have n2:=zn.frozen 0);(try have n3:=zn.frozen 1);have O:=Db hz;clear hz ae;(try clear zn)))
 ·obtain⟨Z,y⟩:∃Z,l.alloc (.cells #[.slice a9 l9 c9,.int .i64 f9] 217)=Z:=⟨_,rfl⟩;rw[y];have bZ:Bw l Z:=by rw[<-y];exact(Al _ l).alloc (Aa _) _
  obtain⟨D,F,H⟩:=Da O;have t1:F0 Z w.heap.size 141 _:=(bZ.block _ D.lt).trans D;have v:F0 Z X.heap.size 262 _:=(bZ.block _ F.lt).trans F;have B:Bw w Z:=H.trans (bZ.mono H.size);have c0:=v.cell 0;have c1:=v.cell 1;have aH:=v.cell 2;have aI:=v.cell 3;have c4:=v.cell 4;have d2:=(t1.cell 2).trans (show _=some (Value.int .i64 (f:Nat)) from rfl);have d3:=(t1.cell 3).trans (show _=some (Value.slice q g t) from rfl)
  cases b9
  ·have HM:=Db (Da K aj al (Da aq rfl) Z B);clear t1 v D F H B K O ac ad aa ab M c2 c3 ak;go_wp2_with (go_at_call 185;refine(Da HM).mono ?_;rintro e U ⟨x,rfl,HP⟩);go_ret;exact Da HP
  ·have L:=Db (Da N Z (Da ap rfl) B);clear t1 v D F H B K O ac ad aa ab M c2 c3 ak;go_wp2;go_ret;exact Da L
 ·obtain⟨Z,y⟩:∃Z,(l.setCell ⟨Y.heap.size,0,none⟩ (.slice a9 l9 c9)).setCell ⟨Y.heap.size,1,none⟩ (.int .i64 f9)=Z:=⟨_,rfl⟩;rw[y];obtain⟨D,F,H⟩:=Da O;have aw:w.heap.size<=Y.heap.size:=(Da ai).1.size;have t1:F0 Z w.heap.size 141 [.string p,.int .u8 2,.int .i64 (f:Nat),.slice q g t]:=by rw[<-y];exact(AB _ _ _ _ (show w.heap.size≠Y.heap.size from fun e=>aD e.symm)).trans ((AB _ _ _ _ (show w.heap.size≠Y.heap.size from fun e=>aD e.symm)).trans D)
  have v:F0 Z X.heap.size 262 (DQ (some ⟨z,0,none⟩) n false ⟨none,0⟩):=by rw[<-y];exact(AB _ _ _ _ (show X.heap.size≠Y.heap.size from fun e=>aE e.symm)).trans ((AB _ _ _ _ (show X.heap.size≠Y.heap.size from fun e=>aE e.symm)).trans F)
  have B:Bw w Z:=by rw[<-y];exact(H.setCell (p:=⟨Y.heap.size,0,none⟩) aw _).setCell (p:=⟨Y.heap.size,1,none⟩) aw _
  have c0:=v.cell 0;have c1:=v.cell 1;have aH:=v.cell 2;have aI:=v.cell 3;have c4:=v.cell 4;have d2:=(t1.cell 2).trans (show _=some (Value.int .i64 (f:Nat)) from rfl);have d3:=(t1.cell 3).trans (show _=some (Value.slice q g t) from rfl)
  cases b9
  ·have HM:=Db (Da K aj al (Da aq rfl) Z B);clear t1 v D F H B K O ac ad aa ab M c2 c3 ak;go_wp2_with (go_at_call 185;refine(Da HM).mono ?_;rintro e U ⟨x,rfl,HP⟩);go_ret;exact Da HP
  ·have L:=Db (Da N Z (Da ap rfl) B);clear t1 v D F H B K O ac ad aa ab M c2 c3 ak;go_wp2;go_ret;exact Da L
def O7(w:World)(tb:Nat)(G:Gh)(I:LF)(C:IB)(p:By)(f:Nat)(e:Ending)(w':World):Prop:=
 (∃b:Bool,e = .returned (.bool b))/\Fr (DP tb w) w w'/\(e = .returned (.bool true)->Hz G p=0/\Kz G (Df p).dropLast=true/\∃r I',((f:Int),r)∈I/\Gq I I' (f:Int) ⟨r.a,r.l,r.c,r.f+1⟩/\PS w' tb (G++[(Df p,⟨none,(f:Int)⟩)]) I' C)
theorem Zjm(w:World)(tb:Nat)(G:Gh)(I:LF)(C:IB)(h:PS w tb G I C)(hG:Gt G)(aH:G.length<=9000)(aI:I.length<=9000)(ag:∀x∈I,0<=x.2.f/\x.2.f<=10000)(p:By)(hp:p.size<=2000000)(f:Nat)(y:OA)(A z:Nat):
  Cl 158 #[.pointer (some ⟨tb,0,none⟩),.agg #[.string p,.int .u8 3,.int .i64 (f:Nat),.slice y A z]] w (O7 w tb G I C p f):=by
 obtain⟨rd,V,E,vi,h⟩:=h;obtain⟨W1,e1,x1,k1,s1,b1⟩:=De w [.string p,.int .u8 3,.int .i64 (f:Nat),.slice y A z] 141;have ac:∀{X},Bw w X->TW X tb rd V E vi G I C:=fun i=>h.below i (Aa _)
 have aM:=h.t.lt;have R:Hid (∀X,Bw w X->O7 w tb G I C p f (.returned (.bool false)) X):=fun X hX=>⟨⟨false,rfl⟩,Fr.of_below hX,fun e=>by cases e⟩
 have ar:=Db e1;have c0:=(x1.cell 0).trans (show _=some (Value.string p) from rfl);have af:Hid (Cl 181 #[.pointer (some ⟨tb,0,none⟩),.string p] W1 fun e X=>∃(d:OA) (n:By) (S:Int),e = .returned (.tuple #[Dn d n false ⟨none,0⟩,.int .i64 S])/\∃Y,X.alloc (.cells (DQ d n false ⟨none,0⟩).toArray 262)=Y/\F0 Y w.heap.size 141 [.string p,.int .u8 3,.int .i64 (f:Nat),.slice y A z]/\Hid (F0 Y X.heap.size 262 (DQ d n false ⟨none,0⟩))/\Hid (Bw w Y/\w.heap.size+1<=X.heap.size/\Y.heap.size=X.heap.size+1)/\
   Hid (S=0->(∃r,((f:Int),r)∈I)->∀Z,Bw w Z->Cl 192 #[.pointer (some ⟨tb,0,none⟩),Dn d n false ⟨none,0⟩,.int .i64 (f:Nat)] Z fun e U=>∃x:Int,e = .returned (.int .i64 x)/\Hid (O7 w tb G I C p f (.returned (.bool (x==0))) U))):=by
  refine(Ok W1 tb rd V E vi G I C (ac b1) hG (by omega) p hp).mono ?_;intro e X aq;have i:=aq.2;have aJ:=i.size;have ae:Bw w X:=b1.trans (i.mono (by omega));have ak:F0 X w.heap.size 141 _:=(i.block _ x1.lt).trans x1;rcases aq.1 with⟨aB,rfl⟩|⟨h0,aC,ds,n,db,ad,ay,am,rfl⟩
  ·obtain⟨Y,eY,xY,kY,sY,bY⟩:=De X (DQ none ⟨#[]⟩ false ⟨none,0⟩) 262;exact⟨none,⟨#[]⟩,_,rfl,Y,eY,kY _ _ _ ak,xY,⟨ae.trans (bY.mono ae.size),by omega,sY⟩,fun e0=>absurd e0 aB⟩
  ·obtain⟨Y,eY,xY,kY,sY,bY⟩:=De X (DQ (some ⟨db,0,none⟩) n false ⟨none,0⟩) 262;refine⟨some ⟨db,0,none⟩,n,0,rfl,Y,eY,kY _ _ _ ak,xY,⟨ae.trans (bY.mono ae.size),by omega,sY⟩,fun _ ⟨r,hr⟩ Z s=>?_⟩;have aD:(Df p).dropLast=ds:=by rw[ad];simp
   have aG:=N6 aC ad;rw[ad]at am;refine(Xl Z tb rd V E vi G I C (ac s) hG (by omega) (by omega) ds db ay n aG am (f:Int) r hr (ag _ hr).1 (ag _ hr).2).mono ?_;rintro e U (⟨_,rfl,T⟩|⟨hm,rfl,aA,V',E',I',q1,q2⟩)
   ·exact⟨8,rfl,Da R _ (s.trans (T.mono s.size))⟩
   ·exact⟨0,rfl,⟨true,rfl⟩,Fr.prog s aA,fun _=>⟨h0,by rw[aD];exact hm,r,I',hr,q2,by rw[ad];exact⟨rd,V',E',vi,q1⟩⟩⟩
 have L:Hid (∀X,Bw w X->Cl 175 #[.pointer (some ⟨tb,1,none⟩),.int .i64 (f:Nat)] X fun e Y=>∃(a9:OA) (l9 c9:Nat) (f9:Int) (b:Bool),e = .returned (.tuple #[.agg #[.slice a9 l9 c9,.int .i64 f9],.bool b])/\Hid (b=true->∃r,((f:Int),r)∈I)/\Bw X Y):=fun X hX=>by
  have hT:=ac hX;refine(Mi X tb 1 vi I (f:Int) ((hT.t.cell 1).trans rfl) hT.i (by omega) hT.si).mono ?_;rintro e Y ⟨r,b,rfl,az,i⟩;refine⟨r.a,r.l,r.c,r.f,b,rfl,fun an=>?_,i⟩;rcases az with⟨_,hm⟩|⟨e9,_⟩
  ·exact⟨r,hm⟩
  ·rw[e9]at an;cases an
 clear e1 x1 k1 s1 b1 ac h hG ag;go_enter Tryz.func158,Tryz.ntmps158;go_upto_region 1 with fail;rw[show w.alloc (.cells #[.string p,.int .u8 3,.int .i64 (f:Nat),.slice y A z] 141)=W1 from Da ar];unfold Dn at af;go_upto_region 2 with(go_at_call 181;refine(Da af).mono ?_;rintro e X ⟨d,n,S,rfl,Y,hY,y1,av,aj,B⟩;have HY:=Db hY;clear hY af c0);rw[show X.alloc (.cells (DQ d n false ⟨none,0⟩).toArray 262)=Y from Da HY];have O:=(y1.cell 2).trans (show _=some (Value.int .i64 (f:Nat)) from rfl);have P:=(y1.cell 3).trans (show _=some (Value.slice y A z) from rfl);have au:=Db y1;clear y1;obtain⟨g,aE,aF⟩:=Da aj;have H:Hid (∀V,V.heap=Y.heap->V.os=Y.os->V.tape=Y.tape->V.output=Y.output->Bw w V):=fun V a b c d=>⟨b.trans g.os,c.trans g.tape,d.trans g.output,by rw[a];exact g.size,fun k m=>by rw[a];exact g.block k m⟩
 have F:Hid (∀V o,V.heap=(Y.alloc o).heap->V.os=Y.os->V.tape=Y.tape->V.output=Y.output->Bw w V):=fun V o a b c d=>by
  have N:=g.trans ((Al w.heap.size Y).alloc g.size o);exact⟨b.trans g.os,c.trans g.tape,d.trans g.output,by rw[a];exact N.size,fun k m=>by rw[a];exact N.block k m⟩
 have J:Hid (∀V j,Bw V j->V.os=Y.os->V.tape=Y.tape->V.output=Y.output->(V.heap=Y.heap\/∃o,V.heap=(Y.alloc o).heap)->F0 j w.heap.size 141 [.string p,.int .u8 3,.int .i64 (f:Nat),.slice y A z]/\F0 j X.heap.size 262 (DQ d n false ⟨none,0⟩)/\Bw w j):=fun V j i ho ht hu hV=>by
  have N:=Da au;have h5:=Da av;rcases hV with e|⟨o,e⟩
  ·have m:∀k,k<Y.heap.size->j.heap[k]?=Y.heap[k]? := fun k m=>(i.block k (by rw[e];exact m)).trans (by rw[e])
   have aa:=i.size;rw[e]at aa;exact⟨(m _ N.lt).trans N,(m _ h5.lt).trans h5,i.os.trans (ho.trans g.os),i.tape.trans (ht.trans g.tape),i.output.trans (hu.trans g.output),Ag g.size aa,fun k ab=>(m k (Be ab g.size)).trans (g.block k ab)⟩
  ·have m:∀k,k<Y.heap.size->j.heap[k]?=Y.heap[k]? := fun k m=>(i.block k (by rw[e];simp;omega)).trans (by rw[e];exact BO Y o k m)
   have aa:=i.size;rw[e]at aa;simp at aa;exact⟨(m _ N.lt).trans N,(m _ h5.lt).trans h5,i.os.trans (ho.trans g.os),i.tape.trans (ht.trans g.tape),i.output.trans (hu.trans g.output),by have:=g.size;omega,fun k ab=>(m k (Be ab g.size)).trans (g.block k ab)⟩
 have M:Hid (∀V j,Bw V j->V.heap=(Y.alloc (.cells #[.slice none 0 0,.int .i64 0] 217)).heap->F0 j Y.heap.size 217 [.slice none 0 0,.int .i64 0]):=fun V j i e=>(i.block _ (by rw[e];simp)).trans (by rw[e];exact Cp Y _)
 have ao:¬Y.heap.size=w.heap.size:=by omega
 have ap:¬Y.heap.size=X.heap.size:=by omega
 clear g aE aF
 go_region_held3 (fun W=>W.cell? ⟨w.heap.size,2,none⟩=some (.int .i64 (f:Nat))) (go_keep) (first|(go_at_call 175;refine(Da L _ (by first|exact Da H _ rfl rfl rfl rfl|exact Da F _ _ rfl rfl rfl rfl)).mono ?_;rintro e j ⟨a9,l9,c9,f9,b9,rfl,ai,T⟩;have hz:=Da J _ j T rfl rfl rfl (by first|exact .inl rfl|exact .inr ⟨_,rfl⟩);have Q:=(hz.1.cell 2).trans (show _=some (Value.int .i64 (f:Nat)) from rfl);have aL:=hz.1.lt;have aK:=hz.2.1.lt;(try have zn:=Da M _ j T rfl);(try have n0:=zn.cell 0);(try have n1:=zn.cell 1);(try have n2:=zn.frozen 0);(try have n3:=zn.frozen 1);have D:=Db hz;clear hz T;(try clear zn)))
 ·obtain⟨Z,s⟩:∃Z,j.alloc (.cells #[.slice a9 l9 c9,.int .i64 f9] 217)=Z:=⟨_,rfl⟩;rw[s];have bZ:Bw j Z:=by rw[<-s];exact(Al _ j).alloc (Aa _) _
  obtain⟨t,u,v⟩:=Da D;have t1:F0 Z w.heap.size 141 _:=(bZ.block _ t.lt).trans t;have l:F0 Z X.heap.size 262 _:=(bZ.block _ u.lt).trans u;have q:Bw w Z:=v.trans (bZ.mono v.size);have c0:=l.cell 0;have c1:=l.cell 1;have aw:=l.cell 2;have ax:=l.cell 3;have c4:=l.cell 4;have d2:=(t1.cell 2).trans (show _=some (Value.int .i64 (f:Nat)) from rfl);have d3:=(t1.cell 3).trans (show _=some (Value.slice y A z) from rfl);by_cases ah:S=0
  ·cases b9
   ·have K:=Db (Da R Z q);clear t1 l t u v q B D J M F H L O P Q;go_wp2;go_ret;exact Da K
   ·have HM:=Db (Da B ah (Da ai rfl) Z q);clear t1 l t u v q B D J M F H L O P Q;go_wp2_with (go_at_call 192;refine(Da HM).mono ?_;rintro e U ⟨x,rfl,HP⟩);go_ret;exact Da HP
  ·have K:=Db (Da R Z q);clear t1 l t u v q B D J M F H L O P Q;go_wp2;go_ret;exact Da K
 ·obtain⟨Z,s⟩:∃Z,(j.setCell ⟨Y.heap.size,0,none⟩ (.slice a9 l9 c9)).setCell ⟨Y.heap.size,1,none⟩ (.int .i64 f9)=Z:=⟨_,rfl⟩;rw[s];obtain⟨t,u,v⟩:=Da D;have al:w.heap.size<=Y.heap.size:=(Da aj).1.size;have t1:F0 Z w.heap.size 141 [.string p,.int .u8 3,.int .i64 (f:Nat),.slice y A z]:=by rw[<-s];exact(AB _ _ _ _ (show w.heap.size≠Y.heap.size from fun e=>ao e.symm)).trans ((AB _ _ _ _ (show w.heap.size≠Y.heap.size from fun e=>ao e.symm)).trans t)
  have l:F0 Z X.heap.size 262 (DQ d n false ⟨none,0⟩):=by rw[<-s];exact(AB _ _ _ _ (show X.heap.size≠Y.heap.size from fun e=>ap e.symm)).trans ((AB _ _ _ _ (show X.heap.size≠Y.heap.size from fun e=>ap e.symm)).trans u)
  have q:Bw w Z:=by rw[<-s];exact(v.setCell (p:=⟨Y.heap.size,0,none⟩) al _).setCell (p:=⟨Y.heap.size,1,none⟩) al _
  have c0:=l.cell 0;have c1:=l.cell 1;have aw:=l.cell 2;have ax:=l.cell 3;have c4:=l.cell 4;have d2:=(t1.cell 2).trans (show _=some (Value.int .i64 (f:Nat)) from rfl);have d3:=(t1.cell 3).trans (show _=some (Value.slice y A z) from rfl);by_cases ah:S=0
  ·cases b9
   ·have K:=Db (Da R Z q);clear t1 l t u v q B D J M F H L O P Q;go_wp2;go_ret;exact Da K
   ·have HM:=Db (Da B ah (Da ai rfl) Z q);clear t1 l t u v q B D J M F H L O P Q;go_wp2_with (go_at_call 192;refine(Da HM).mono ?_;rintro e U ⟨x,rfl,HP⟩);go_ret;exact Da HP
  ·have K:=Db (Da R Z q);clear t1 l t u v q B D J M F H L O P Q;go_wp2;go_ret;exact Da K
theorem PJ{G:Gh}(h:Gt G){p:By}(a:Hz G p=0)(u:VS):DU p=true/\Df p≠[]/\Gr G (Df p)=none/\Gt (G++[(Df p,u)]):=by
 unfold Hz at a
 cases hp:DU p with
 | false=>rw[hp]at a;simp at a
 | true=>
  rw[if_neg (by rw[hp];simp)]at a;unfold Jo at a;by_cases b:GV G (D5 [] (Df p))=0
  ·rw[if_neg (fun e=>e b)]at a;by_cases c:Df p=[]\/(Gr G (Df p)).isSome=true
   ·rw[if_pos c]at a;cases a
   ·have d:Df p≠[]:=fun e=>c (.inl e)
    have f:Gr G (Df p)=none:=by
     cases e:Gr G (Df p) with
     | none=>rfl
     | some u=>exact absurd (.inr (by rw[e];rfl)) c
    refine⟨rfl,d,f,h.add (QX hp (VO hp d)).2.1 d (UG hp) f (fun ds n e=>?_) u⟩;rw[e]at b;exact Yr b
  ·rw[if_pos b]at a;exact absurd a b
structure TG(G:Gh)(I:LF):Prop where
 ok:Gt G
 gl:G.length<=100
 nd:cD G []+I.length<=60
 rg:∀x∈I,0<=x.1/\x.1<60/\x.2.l<=1280/\0<x.2.f/\x.2.f<=G.length
 fl:∀x∈G,x.2.p=none->∃r,(x.2.f,r)∈I
 us:DN (I.map (·.2.l))<=160
theorem Pd{G:Gh}(h:Gt G){ns:LY}{u:VS}(a:Gt (G++[(ns,u)])):cD (G++[(ns,u)]) []=cD G []+(if u.p.isSome=true then 1 else 0):=by
 rw[Px h,Px a,CS,CA];exact(EM _ _ _).symm
theorem Vw{G:Gh}{I:LF}{a:LY}(h:Jp G I a=true):G.length<100/\cD G []+I.length<60:=by
 unfold Jp at h;rw[AJ]at h;exact⟨h.1.2,h.2⟩
theorem Gq.use{I d:LF}{n:Int}{r a:VF}(h:Gq I d n a)(D:Gn I)(z:(n,r)∈I)(A:a.l=r.l):DN (d.map (·.2.l))=DN (I.map (·.2.l)):=by
 have s:=D.nd;have E:∀y∈I,y.1=n->y=(n,r):=fun y l e=>by
  have:=Bg.1 s;rcases Classical.em (y=(n,r)) with f|f
  ·exact f
  ·exfalso;obtain⟨i,p,g⟩:=CW.1 l;obtain⟨j,q,c⟩:=CW.1 z;have o:=Bm.1 this;rcases Cz i j with b|b|b
   ·exact o i j p q b (by rw[g,c,e])
   ·subst b;rw[g]at c;exact f c
   ·exact o j i q p b (by rw[g,c,e])
 have v:((I.map (fun x=>if x.1=n then (n,a) else x)).map (·.1))=I.map (·.1):=by
  rw[Ce];refine CJ (fun x _=>?_);show(if x.1=n then (n,a) else x).1=x.1
  split
  ·rename_i e;exact e.symm
  ·rfl
 have B:(I.map (fun x=>if x.1=n then (n,a) else x)).Nodup:=by
  have t:((I.map (fun x=>if x.1=n then (n,a) else x)).map (·.1)).Nodup:=by rw[v];exact s
  exact(Bg.1 t).imp (fun w e=>w (by rw[e]))
 have C:=UJ _ d B (fun x k=>by
  obtain⟨y,l,rfl⟩:=Au.1 k;by_cases e:y.1=n
  ·rw[if_pos e];exact(h.2 _).2 (.inl rfl)
  ·rw[if_neg e];exact(h.2 _).2 (.inr ⟨l,e⟩)) (by rw[AK,h.1];exact Aa _)
 have u:(I.map (fun x=>if x.1=n then (n,a) else x)).map (·.2.l)=I.map (·.2.l):=by
  rw[Ce];refine CJ (fun x k=>?_);show(if x.1=n then (n,a) else x).2.l=x.2.l
  split
  ·rename_i e;rw[E x k e];exact A
  ·rfl
 have m:=C.map (·.2.l);rw[u]at m;unfold DN;exact((m.map _).sum_nat).symm
theorem TG.dir{G:Gh}{I:LF}(h:TG G I){p:By}(b:IC G I p=0)(nb:Nat):TG (G++[(Df p,⟨some ⟨nb,0,none⟩,0⟩)]) I:=by
 have g:Hz G p=0/\Jp G I (Df p).dropLast=true:=by
  unfold IC at b;unfold Hz
  split at b
  ·cases b
  ·rename_i m;rw[if_neg m]
   split at b
   ·rename_i d;exact absurd b d
   ·rename_i d
    split at b
    ·cases b
    ·rename_i n;exact⟨by omega,by cases e:Jp G I (Df p).dropLast with|true=>rfl|false=>exact absurd e n⟩
 obtain⟨_,_,_,f⟩:=PJ h.ok g.1 ⟨some ⟨nb,0,none⟩,0⟩;obtain⟨m1,m2⟩:=Vw g.2;refine⟨f,by rw[Ad,Ba];omega,?_,fun x a=>?_,fun x a c=>?_,h.us⟩
 ·rw[Pd h.ok f];show cD G []+1+I.length<=60;omega
 ·obtain⟨i,j,k,l,a5⟩:=h.rg x a;rw[Ad,Ba];exact⟨i,j,k,l,by omega⟩
 ·rcases Ap.1 a with a|a
  ·exact h.fl x a c
  ·rw[Ab.1 a]at c;cases c
theorem TG.file{G:Gh}{I:LF}(h:TG G I){p:By}(v:Hz G p=0)(w:Jp G I (Df p).dropLast=true){f:Nat}(hf:f<60){o:OA}{e q:Nat}(t:e<=1280){c d:LF}(s:c.length=I.length+1)(g:∀x,x∈c↔x=((f:Int),⟨none,0,0,1⟩)\/x∈I)(b:Gq c d (f:Int) ⟨o,e,q,1⟩)(A:DN (d.map (·.2.l))<=160)(u:∀x∈I,x.1≠(f:Int)):TG (G++[(Df p,⟨none,(f:Int)⟩)]) d:=by
 obtain⟨_,_,_,i⟩:=PJ h.ok v ⟨none,(f:Int)⟩;obtain⟨m1,m2⟩:=Vw w;refine⟨i,by rw[Ad,Ba];omega,?_,fun x a=>?_,fun x a z=>?_,A⟩
 ·rw[Pd h.ok i,b.1,s];show cD G []+0+(I.length+1)<=60;omega
 ·rw[Ad,Ba];rcases (b.2 x).1 a with rfl|⟨B,y⟩
  ·exact⟨by show(0:Int)<=(f:Int);omega,by show(f:Int)<60;omega,t,by show(0:Int)<1;omega,by show(1:Int)<=_;omega⟩
  ·rcases (g x).1 B with rfl|C
   ·exact absurd rfl y
   ·obtain⟨k,l,m,n,a5⟩:=h.rg x C;exact⟨k,l,m,n,by omega⟩
 ·rcases Ap.1 a with a|a
  ·obtain⟨r,j⟩:=h.fl x a z;exact⟨r,(b.2 _).2 (.inr ⟨(g _).2 (.inr j),u _ j⟩)⟩
  ·rw[Ab.1 a];exact⟨_,(b.2 _).2 (.inl rfl)⟩
theorem TG.link{G:Gh}{I:LF}(h:TG G I)(v:Gn I){p:By}(t:Hz G p=0)(l:Kz G (Df p).dropLast=true){f:Int}{r:VF}(q:(f,r)∈I){d:LF}(b:Gq I d f ⟨r.a,r.l,r.c,r.f+1⟩):TG (G++[(Df p,⟨none,f⟩)]) d:=by
 obtain⟨_,_,_,o⟩:=PJ h.ok t ⟨none,f⟩;have m1:G.length<100:=by
  unfold Kz at l;rw[AJ]at l;exact l.2
 refine⟨o,by rw[Ad,Ba];omega,?_,fun x a=>?_,fun x a u=>?_,by rw[b.use v q rfl];exact h.us⟩
 ·rw[Pd h.ok o,b.1];exact h.nd
 ·rw[Ad,Ba];rcases (b.2 x).1 a with rfl|⟨w,aa⟩
  ·obtain⟨g,i,j,k,n⟩:=h.rg _ q;exact⟨g,i,j,by show 0<r.f+1;have:0<r.f:=k;omega,by show r.f+1<=_;have:r.f<=_:=n;omega⟩
  ·obtain⟨g,i,j,k,n⟩:=h.rg x w;exact⟨g,i,j,k,by omega⟩
 ·have s:∀c,(x.2.f,c)∈I->∃r,(x.2.f,r)∈d:=fun c m=>by
   by_cases e:x.2.f=f
   ·rw[e];exact⟨_,(b.2 _).2 (.inl rfl)⟩
   ·exact⟨c,(b.2 _).2 (.inr ⟨m,e⟩)⟩
  rcases Ap.1 a with a|a
  ·obtain⟨c,m⟩:=h.fl x a u;exact s c m
  ·rw[Ab.1 a];exact⟨_,(b.2 _).2 (.inl rfl)⟩
theorem TG.none:TG [] []:=
 ⟨⟨fun _ a=>absurd a BD,fun _ a=>absurd a BD,fun _ a=>absurd a BD,CC,fun _ _ _ a=>absurd a BD⟩,Aw _,by show 1+0+0<=60;omega,fun _ a=>absurd a BD,fun _ a=>absurd a BD,Aw _⟩
def Nv(G G':Gh)(I I':LF)(C C':IB)(p:By)(f dl:Nat)(s:By):Prop:=
 G'=G++[(Df p,⟨none,(f:Int)⟩)]/\∃I1 da dc,I1.length=I.length+1/\(∀x,x∈I1↔x=((f:Int),⟨none,0,0,1⟩)\/x∈I)/\Gq I1 I' (f:Int) ⟨da,dl,dc,1⟩/\C' f=s/\∀x∈I,C' x.1=C x.1
def NA(w:World)(tb:Nat)(G:Gh)(I:LF)(C:IB)(p:By)(kd f dl:Nat)(s:By)(e:Ending)(w':World):Prop:=
 (∃b:Bool,e = .returned (.bool b))/\Fr (DP tb w) w w'/\(e = .returned (.bool true)->∃G' I' C',PS w' tb G' I' C'/\TG G' I'/\(kd=2->Nv G G' I I' C C' p f dl s))/\(e = .returned (.bool false)->kd=2->¬Lj G I p f dl)
theorem Yn(w:World)(tb:Nat)(G:Gh)(I:LF)(C:IB)(h:PS w tb G I C)(c:TG G I)(p:By)(y:p.size<=2000000)(n f:Nat)(g:OA)(d i:Nat)(s:By)(U:Sl w 5 1 (.slice g d i) d (Dc s)):
  Cl 97 #[.pointer (some ⟨tb,0,none⟩),.agg #[.string p,.int .u8 (n:Nat),.int .i64 (f:Nat),.slice g d i]] w (NA w tb G I C p n f d s):=by
 have ab:=c.gl;have ac:=c.nd;have z:∀W,Bw w W->PS W tb G I C:=fun W a=>by obtain⟨H,V,E,J,h⟩:=h;exact⟨H,V,E,J,h.below a (Aa _)⟩
 have aa:Gn I:=by obtain⟨H,V,E,J,h⟩:=h;exact h.si
 refine Yp w tb p n f g d i (NA w tb G I C p n f d s) (fun m W a=>?_) (fun _ W a=>?_) (fun m W a=>?_) (fun _ m _ W a=>⟨⟨false,rfl⟩,Fr.of_below a,(fun e=>by cases e),fun _ e=>absurd e m⟩)
 ·refine(VY W tb G I C (z W a) c.ok (by omega) (by omega) p y).mono ?_;rintro e X ⟨rfl,l,j⟩;refine⟨_,rfl,⟨_,rfl⟩,Fr.prog a l,fun e=>?_,fun _ e=>by omega⟩;rcases j with⟨Y,_⟩|⟨S,nb,T⟩
  ·have:(IC G I p==0)=false:=by simpa using Y
   rw[this]at e;cases e
  ·exact⟨_,_,_,T,c.dir S nb,fun e=>by omega⟩
 ·refine(Zjn W tb G I C (z W a) c.ok (by omega) (by omega) (fun x A=>by have:=(c.rg x A).2.2.1;omega) p y f g d i s (U.kept (fun k m _=>a.block k m))).mono ?_;rintro e X ⟨⟨b,rfl⟩,l,j,Z⟩;refine⟨b,rfl,⟨b,rfl⟩,Fr.prog a l,fun e=>?_,fun e _=>Z e⟩;obtain⟨o,q,t,u,v,M,N,K,B,D,F,R,O,P,Q⟩:=j e;exact⟨_,N,K,O,c.file o q t v B D F R u,fun _=>⟨rfl,M,g,i,B,D,F,P,Q⟩⟩
 ·refine(Zjm W tb G I C (z W a) c.ok (by omega) (by omega) (fun x A=>by have:=c.rg x A;omega) p y f g d i).mono ?_;rintro e X ⟨⟨b,rfl⟩,l,j⟩;refine⟨b,rfl,⟨b,rfl⟩,Fr.prog a l,fun e=>?_,fun _ e=>by omega⟩;obtain⟨o,q,r,L,t,u,v⟩:=j e;exact⟨_,L,C,v,c.link aa o q t u,fun e=>by omega⟩
def Oy(T:F5->By->By->Gh->LF->(IB)->Prop)(W w0:World)(n0 rb db tp tx:Nat)(va vt:Value)(tb:Nat)(vt2:Value)(fb:Nat)(last:By)(wr:World):Prop:=
 ∃(q:F5) (s:By),QG q/\s.size<=1000000/\ReI W w0 n0 rb db tp tx fb tb va vt vt2 (fun G I C=>TG G I/\T q s last G I C) q s wr
def UO(A:Prop)(T:F5->By->By->Gh->LF->(IB)->Prop)(W w0:World)(n0 rb db tp tx:Nat)(va0 vt0:Value)(e:Ending)(w':World):Prop:=
 (e = .returned (.tuple #[.pointer none,.bool false])/\Ik w0 n0 rb w'/\¬A)\/
 ∃tb q' va' vt',QG q'/\e = .returned (.tuple #[.pointer (some ⟨tb,0,none⟩),.bool true])/\Gd w0 n0 rb db tp tx q' va' vt' w'/\(∃G I C,PS w' tb G I C/\TG G I/\∃s last,DA (BL (Dg s 1))=0/\T q' s last G I C)/\Fr (fun j=>j=rb\/F2 va0 j\/F2 vt0 j) W w'/\W.heap.size<tb
theorem Tu(A:Prop)(T:F5->By->By->Gh->LF->(IB)->Prop){D:LY}
  (aF:∀q s r G I C m p fn l d J s' G' I' C',T q s r G I C->Ll q s r m p J s'->(m=2->R7 D s fn l d)->m≠0->(m=2->Nv G G' I I' C C' p fn l d)->T J s' p G' I' C')
  (aG:∀q s r G I C,T q s r G I C->Nw q s r->¬A) (aH:∀q s r G I C m p fn l d J s',T q s r G I C->Ll q s r m p J s'->(m=2->R7 D s fn l d)->m≠0->(m=2->¬Lj G I p fn l)->¬A) (W w:World) (u f B bm bn:Nat) (q0:F5) (y z:Value) (h:Gd w u f B bm bn q0 y z W) {vf vw ve:Value} {a:OA} {l c:Nat} (hD:DV w B vf (.slice a l c) vw ve D) (aM:B<u/\∀k,F2 (.slice a l c) k->k<u) (h0:0<u) (aP:Gs W)
  (n o:Nat) (gr:Option (Nat×F5)) (hg:∀X y z,Gd w u f B n o q0 y z X->Cl 202 #[.pointer (some ⟨f,0,none⟩),.agg #[.int .i64 (n:Nat),.int .u64 (o:Nat)]] X (KK w u f B n o X y z gr)) (aK:∀b J,gr=some (b,J)->T J J.t ⟨#[]⟩ [] [] (fun _=>⟨#[]⟩)/\QG J/\J.t.size<=1000000) (aJ:gr=none->¬A):
  Cl 136 #[.pointer (some ⟨f,0,none⟩),.agg #[.int .i64 (n:Nat),.int .u64 (o:Nat)]] W (UO A T W w u f B n o y z):=by
 obtain⟨W1,e1,x1,k1,s1,b1⟩:=De W [.int .i64 (n:Nat),.int .u64 (o:Nat)] 175;obtain⟨a6,a7,a8⟩:=h.lt;have br:u<=W.heap.size:=Ag h.sz h.bel.size;have h1:=h.below b1;have bq:=h.lo;have be:=h1.topc;obtain⟨Z,af⟩:∃Z,(W1.setCell ⟨f,2,none⟩ (.int .i64 (n:Nat))).setCell ⟨f,3,none⟩ (.int .u64 (o:Nat))=Z:=⟨_,rfl⟩;have aC:Gd w u f B n o q0 y z Z:=by rw[<-af];exact h1.top n o
 have f1:Fr (fun k=>k=f) W1 Z:=by rw[<-af];exact((Fr.refl (fun k=>k=f) W1).set ⟨f,2,none⟩ _ rfl).set ⟨f,3,none⟩ _ rfl
 have ax:F0 Z W.heap.size 175 [.int .i64 (n:Nat),.int .u64 (o:Nat)]:=x1.fr f1 (fun e=>by omega);have al:Fr (fun j=>j=f\/F2 y j\/F2 z j) W Z:=((Fr.of_below b1).then f1 (fun _ _ e=>e)).mono (fun k _ e => .inl e);have HG:Hid (Cl 202 #[.pointer (some ⟨f,0,none⟩),.agg #[.int .i64 (n:Nat),.int .u64 (o:Nat)]] Z fun e X2=>∃(b:Nat) (H:Bool),e = .returned (.tuple #[.int .i64 (b:Nat),.bool H])/\Hid (H=false->Ik w u f X2/\¬A)/\
   Hid (H=true->Cl 95 #[] X2 fun e X3=>∃tb O Q P,e = .returned (.pointer (some ⟨tb,0,none⟩))/\X3.cell? ⟨f,1548,none⟩=some (.slice O Q P)/\∃X4,X3.alloc (.cells #[.slice O Q P] 287)=X4/\Hid (Oy T W w u f B n o y z tb (.slice O Q P) X3.heap.size ⟨#[]⟩ X4))):=by
  refine(hg Z y z aC).mono ?_;intro e X2 ag
  cases hgr':gr with
  | none=>
   rw[hgr']at ag;obtain⟨rfl,hb⟩:=ag;exact⟨0,false,rfl,fun _=>⟨hb,aJ hgr'⟩,fun e=>by cases e⟩
  | some gb=>
  obtain⟨b,qG⟩:=gb;obtain⟨a1,ba,bb⟩:=aK b qG hgr';rw[hgr']at ag;obtain⟨rfl,av,ac,r1,r2,r3,r4⟩:=ag;refine⟨b,true,rfl,(fun e=>by cases e),fun _=>?_⟩;have au:Fr (fun j=>j=f\/F2 y j\/F2 z j) W X2:=al.then r2 (fun _ _ e=>e);have a9:Gs X2:=aP.fr au (fun e=>by
   rcases e with e|e|e
   ·omega
   ·have:=(h.oa 0 e).1;omega
   ·have:=h.tab.2 0 e;omega)
  have a3:=al.size;refine(TV X2 a9).mono ?_;rintro e X3 ⟨tb,rfl,t1,t2,t3,_⟩;obtain⟨O,Q,P,rfl⟩:=r1.tab.1.shape;have ai:=r1.below t3;obtain⟨X4,e4,x4,k4,s4,b4⟩:=De X3 [.slice O Q P] 287;have hl:=ai.lt;have bo:=au.size;have bp:=t3.size;refine⟨tb,O,Q,P,rfl,ai.cells.2.2.1,X4,e4,qG,qG.t,ba,bb,⟨av,ai.below b4,fun g hg=>(r3 g hg).imp id (fun e=>by omega)⟩,?_,⟨[],[],fun _=>⟨#[]⟩,?_,TG.none,a1⟩,(au.then (Fr.of_below (X:=fun _=>False) t3) (fun _ _ e=>e.elim)).then (Fr.of_below (X:=fun _=>False) b4) (fun _ _ e=>e.elim),by omega,by omega⟩
  ·have hS:=(ai.below b4).tab;refine⟨O,Q,P,x4,hS.rdB,?_,fun x e=>?_⟩
   ·rcases hS.1.2 with⟨e,_⟩|⟨g,aV,L,e,_,q1,_⟩
    ·cases e;exact Aa _
    ·cases e;exact q1
   ·rcases hS.1.2 with⟨e2,_⟩|⟨g,aV,L,e2,_⟩
    ·cases e2;cases e
    ·cases e2;cases e;rfl
  ·obtain⟨rd,V,E,vi,ht⟩:=t2;exact⟨rd,V,E,vi,ht.below b4 (Aa _)⟩
 have ae:Hid (∀r:By,r.size<=600->∀tb ac fb wr,Oy T W w u f B n o y z tb ac fb r wr->Cl 203 #[.pointer (some ⟨f,0,none⟩),.pointer (some ⟨fb,0,none⟩),.string r] wr fun e X=>∃(p:By) (m fn:Nat) (K:OA) (N M:Nat) (H:Bool),e = .returned (.tuple #[.agg #[.string p,.int .u8 (m:Nat),.int .i64 (fn:Nat),.slice K N M],.bool H])/\
   ∃Y,X.alloc (.cells #[.string p,.int .u8 (m:Nat),.int .i64 (fn:Nat),.slice K N M] 141)=Y/\F0 Y X.heap.size 141 [.string p,.int .u8 (m:Nat),.int .i64 (fn:Nat),.slice K N M]/\Hid (H=false->Ik w u f Y/\¬A)/\Hid (H=true->m=0->UO A T W w u f B n o y z (.returned (.tuple #[.pointer (some ⟨tb,0,none⟩),.bool true])) Y)/\
   Hid (H=true->m≠0->p.size<=600/\Cl 97 #[.pointer (some ⟨tb,0,none⟩),.agg #[.string p,.int .u8 (m:Nat),.int .i64 (fn:Nat),.slice K N M]] Y fun e U=>∃b:Bool,e = .returned (.bool b)/\F0 U X.heap.size 141 [.string p,.int .u8 (m:Nat),.int .i64 (fn:Nat),.slice K N M]/\Hid (b=false->Ik w u f U/\¬A)/\Hid (b=true->Oy T W w u f B n o y z tb ac fb p U/\KL fb U<KL fb wr))):=fun r aL tb ac fb wr ⟨q,s,hQ,bd,F⟩=>by
  obtain⟨av,r1,r2⟩:=F.rd;have a4:=F.fl;have bt:=F.fr.size;refine(Zmr wr w u f B n o q av ac r1 hD aM fb (by omega) s F.fd bd r (by omega) hQ).mono ?_;rintro e X ⟨p,m,fn,K,N,M,H,rfl,aO,aQ⟩;obtain⟨Y,eY,S,kY,sY,bY⟩:=De X [.string p,.int .u8 (m:Nat),.int .i64 (fn:Nat),.slice K N M] 141;refine⟨p,m,fn,K,N,M,H,rfl,Y,eY,S,fun e=>?_,fun e hk=>?_,fun e hk=>?_⟩
  ·obtain⟨G,I,C,_,_,ab⟩:=F.ps;exact⟨(aO e).1.below bY,aG _ _ _ _ _ _ ab (aO e).2⟩
  ·obtain⟨ah,J,s',aw,d,aq,ad,am,p1,p2,_,_,p3,p5,p6⟩:=aQ e;obtain⟨G,I,C,an,ar,ab⟩:=F.ps;have ao:=an.fr9 r1 F.fd h0 (by omega) p5;have ap:PS Y tb G I C:=by obtain⟨rd,V,E,vi,ht⟩:=ao;exact⟨rd,V,E,vi,ht.below bY (Aa _)⟩
   refine .inr ⟨tb,J,aw,ac,aq,rfl,p1.below bY,⟨G,I,C,ap,ar,s,r,ad.1.symm.trans hk,by rw[ad.2.1 hk];exact ab⟩,(F.fr.then p5 (fun j hj e=>?_)).then (Fr.of_below (X:=fun _=>False) bY) (fun _ _ e=>e.elim),F.tl⟩;rcases e with e|e|e
   ·exact .inl e
   ·exact(r2 j e).elim (fun e => .inr (.inl e)) (fun e=>by omega)
   ·omega
  ·obtain⟨ah,J,s',aw,d,aq,ad,am,p1,p2,bs,bc,p3,p5,p6⟩:=aQ e;have a3:=p5.size;have bf:=F.tl;obtain⟨G,I,C,an,ar,ab⟩:=F.ps;have ao:=an.fr9 r1 F.fd h0 (by omega) p5;have ap:PS Y tb G I C:=by obtain⟨rd,V,E,vi,ht⟩:=ao;exact⟨rd,V,E,vi,ht.below bY (Aa _)⟩
   refine⟨ah,(Yn Y tb G I C ap ar p (by omega) m fn K N M d (p3.kept (fun j hj _=>bY.block j hj))).mono ?_⟩;rintro e U ⟨⟨b,rfl⟩,u1,hT,a2⟩;have aE:=p1.below bY;have aY:=p2.below bY p1.lt.2.2;have aD:=aE.prog u1 (by omega);have aB:=aY.prog aE u1;refine⟨b,rfl,S.fr u1 (fun ⟨⟨t,R,hr,bg⟩,_⟩=>?_),(fun hb=>⟨aD.no,aH _ _ _ _ _ _ _ _ _ _ _ _ _ ab ad am hk (a2 (by rw[hb]))⟩),fun hb=>?_⟩
   ·unfold F0 at hr S;rw[S]at hr;cases hr;rcases bg with e|e|e|e<;>cases e
   ·obtain⟨G',I',C',aZ,a0,aX⟩:=hT (by rw[hb]);refine⟨⟨J,s',aq,by omega,⟨aw,aD,fun g hg=>(p6 g hg).elim (r2 g) (fun e => .inr (by omega))⟩,aB,⟨G',I',C',aZ,a0,aF _ _ _ _ _ _ _ _ _ _ _ _ _ _ _ _ ab ad am hk aX⟩,?_,bf,a4⟩,by rw[aB.len,F.fd.len];exact bc hk⟩;refine((F.fr.then p5 (fun j hj e=>?_)).then (Fr.of_below (X:=fun _=>False) bY) (fun _ _ e=>e.elim)).then u1 (fun j hj ⟨_,hl⟩=>by omega);rcases e with e|e|e
    ·exact .inl e
    ·exact(r2 j e).elim (fun e => .inr (.inl e)) (fun e=>by omega)
    ·omega
 have aa:Hid (∀X,Ik w u f X/\¬A->UO A T W w u f B n o y z (.returned (.tuple #[.pointer none,.bool false])) X):=fun X hX => .inl ⟨rfl,hX.1,hX.2⟩
 have aR:=Db e1;have aT:=Db af;have c0:=(x1.cell 0).trans (show _=some (Value.int .i64 (n:Nat)) from rfl);have c1:=(x1.cell 1).trans (show _=some (Value.int .u64 (o:Nat)) from rfl);have d0:=(ax.cell 0).trans (show _=some (Value.int .i64 (n:Nat)) from rfl);have d1:=(ax.cell 1).trans (show _=some (Value.int .u64 (o:Nat)) from rfl);obtain⟨bh,bi,bj,bk⟩:=be;clear aF aG aH aJ e1 x1 k1 s1 b1 h h1 hD aM hg aK aC f1 ax al af aP a6 a7 a8;go_enter Tryz.func136,Tryz.ntmps136;go_upto_region 1 with fail;rw[show W.alloc (.cells #[.int .i64 (n:Nat),.int .u64 (o:Nat)] 175)=W1 from Da aR];go_upto_region 2 with fail;rw[show(W1.setCell ⟨f,2,none⟩ (.int .i64 (n:Nat))).setCell ⟨f,3,none⟩ (.int .u64 (o:Nat))=Z from Da aT];clear c0 c1 bh bi bj bk;go_upto_region 3 with(go_at_call 202;refine(Da HG).mono ?_;rintro e X2 ⟨bl,H,rfl,ak,aj⟩)
 cases H
 ·have HF:=Db (Da aa _ (Da ak rfl));clear HG aj ak ae aa;go_wp2;exact Ax (v := .tuple #[.pointer none,.bool false]) (by simp[results,Tryz.results136,go_sem]) rfl (Da HF)
 have az:=Db (Da aj rfl);clear aj ak HG;go_upto_region 7 with(go_at_call 95;refine(Da az).mono ?_;rintro e X3 ⟨tb,O,Q,P,rfl,aW,X4,aI,aA⟩;have aU:=Db aI;clear aI);rw[show X3.alloc (.cells #[.slice O Q P] 287)=X4 from Da aU];clear aW d0 d1 az;go_wp2
 go_loopw [10] (fun i wr=>∃r:By,r.size<=600/\i = .string r/\Hid (Oy T W w u f B n o y z tb (.slice O Q P) X3.heap.size r wr)) (fun _ wr=>KL X3.heap.size wr)
 case atStart=>exact⟨⟨#[]⟩,Aw _,rfl,Da aA⟩
 case round=>
  obtain⟨r,aL,rfl,HI⟩:=hrel;have HC:=Db (Da ae r aL _ _ _ _ (Da HI));clear HI aA;go_upto_region 9 with(go_at_call 203;refine(Da HC).mono ?_;rintro e X ⟨p,m,fn,K,N,M,H,rfl,Y,hY,S,HN,HZ,HA⟩;have HY:=Db hY;clear hY);rw[show X.alloc (.cells #[.string p,.int .u8 (m:Nat),.int .i64 (fn:Nat),.slice K N M] 141)=Y from Da HY];have y0:=S.cell 0;have y1:=S.cell 1;have y2:=S.cell 2;have y3:=S.cell 3;clear S HC
  cases H
  ·have HF:=Db (Da aa _ (Da HN rfl));clear HN HZ HA ae aa;go_wp2;exact Ax (v := .tuple #[.pointer none,.bool false]) (by simp[results,Tryz.results136,go_sem]) rfl (Da HF)
  ·by_cases hk:m=0
   ·have HF:=Db (Da HZ rfl hk);have a5:(m:Int)=0:=by omega
    clear HN HZ HA ae aa;go_wp2;exact Ax (v := .tuple #[.pointer (some ⟨tb,0,none⟩),.bool true]) (by simp[results,Tryz.results136,go_sem]) rfl (Da HF)
   ·obtain⟨ah,hA⟩:=Da HA rfl hk;have ay:=Db hA;have a5:¬(m:Int)=0:=by omega
    clear HN HZ HA hA;go_wp2_with (go_at_call 97;refine(Da ay).mono ?_;rintro e U ⟨b,rfl,xU,HB,HN⟩;have z0:=xU.cell 0;clear xU y0 y1 y2 y3;cases b)
    ·exact Ax (v := .tuple #[.pointer none,.bool false]) (by simp[results,Tryz.results136,go_sem]) rfl (Da aa _ (Da HB (by first|rfl|trivial)))
    ·obtain⟨hR,aN⟩:=Da HN AQ;have HR:=Db hR;have aS:=Db aN;clear hR aN HB HN ay
     go_roundw
     case rel=>exact⟨p,ah,rfl,Da HR⟩
     case measure=>exact Da aS
def LC(q:F5):Prop:=∀y∈q.ins,16<=y.2/\y.2<1536/\q.tk y.2=true
def Xt(q q':F5):Prop:=LC q'/\∀j,q.tk j=true->q'.tk j=true
theorem NC(q:F5)(p j:Nat)(h:q.tk j=true\/j=p):(q.take p).tk j=true:=by
 rcases h with h|h
 ·simp[F5.take,h]
 ·simp[F5.take,h]
theorem LC.take{q:F5}(h:LC q)(p:Nat):LC (q.take p):=fun y d=>by
 obtain⟨a,b,c⟩:=h y d;exact⟨a,b,NC q p _ (.inl c)⟩
theorem LC.put{q:F5}(h:LC q){p:Nat}(a:16<=p)(c:p<1536)(d:q.tk p=true)(r b:Nat):LC ((q.put r p).turn b):=fun y f=>by
 have g:y∈q.ins++[(r,p)]:=f;rcases Ap.1 g with e|e
 ·exact h y e
 ·rw[Ab.1 e];exact⟨a,c,d⟩
theorem SI{D:LY}:∀(f p:Nat) (q:F5) (b:Nat) (q':F5),LC q->Jb D f p q=some (b,q')->Xt q q'
 | 0,p,q,b,q',hi,h=>by cases h
 | f+1,p,q,b,q',hi,h=>by
  unfold Jb at h
  split at h
  ·cases h
  ·rename_i hn;have c:16<=p/\p<1536:=⟨by omega,by omega⟩;have l:(q.take p).tk p=true:=NC q p p (.inr rfl)
   split at h
   ·cases h
   ·split at h
    ·cases h
    ·split at h
     ·cases h
      exact⟨LC.put (q:=(q.take p).say _) (hi.take p) c.1 c.2 l _ _,fun j a=>NC q p j (.inl a)⟩
     ·split at h
      ·split at h
       ·cases h
       ·rename_i b2 i e
        split at h
        ·cases h
        ·cases h
         have d:=NL (Inv:=fun i=>Xt (q.take p) i) (fun o r m s k n=>by
          have g:=SI f o r m s k.1 n;exact⟨g.1,fun j a=>g.2 j (k.2 j a)⟩) 6 0 0 (q.take p) b i ⟨hi.take p,fun _ a=>a⟩ e
         exact⟨d.1.put c.1 c.2 (d.2 p l) _ _,fun j a=>d.2 j (NC q p j (.inl a))⟩
      ·cases h
theorem Pp(q:F5):Hv q<=1536:=by
 have:=BT (p:=fun p => !q.tk p) (l:=List.range 1536);rw[A2]at this;exact this
theorem GM.start:GM 0 D2:=by
 have hu:=Pp D2;refine⟨by show 0+Hv D2+0<=_;omega,fun _=>Aa _,Aw _,by show 0+63*(Hv D2+0)<=_;omega,fun y a=>?_⟩;exact absurd (show y∈[] from a) BD
theorem SZ{q:F5}{y:Nat×Nat}(h:y∈q.ins){r p:Nat}(a:y.1≠r):y∈(q.putO r p).ins:=by
 show y∈(if ∃y∈q.ins,y.1=r then q.ins.map (fun y=>if y.1=r then (r,p) else y) else q.ins++[(r,p)])
 split
 ·exact Au.2 ⟨y,h,if_neg a⟩
 ·exact A0 _ h
theorem SG{q:F5}{y:Nat×Nat}(h:y∈q.ins)(fn:Nat)(P:Nat->Nat):∀K,(∀k,k<K->y.1≠Dd 4 fn k)->y∈(Jf q fn P K).ins
 | 0,_=>h
 | K+1,hr=>SZ (q:=(Jf q fn P K).take (P K)) (SG h fn P K (fun k hk=>hr k (by omega))) (hr K (by omega))
theorem XW{D:LY}(n:∀s∈D,s.size=64){d:Nat}{q l:F5}{s u p w:By}{j:Nat}(r:∃b g,Jb D 1537 d D2=some (b,g)/\∀y∈g.ins,y∈q.ins)(o:Ll q s u j p l w)(t:j≠0):∃b g,Jb D 1537 d D2=some (b,g)/\∀y∈g.ins,y∈l.ins:=by
 obtain⟨b,g,f,h⟩:=r;refine⟨b,g,f,fun y c=>?_⟩;rcases (o.2.2 t).2.1 with e|e
 ·rw[e];exact h y c
 ·rw[e];refine SG (h y c) _ _ _ (fun k aa e=>?_);obtain⟨⟨a,_⟩,_⟩:=Ut n 1537 0 d D2 b g GM.start f;obtain⟨kk,m,i,r1,r2,r3,v⟩:=a.rol y c;have l1:=a.tn m;have l2:=a.len;have l4:eL s<256 ^ 2:=Qe (eS (LR s)) 2;have l5:eF s<256 ^ 1:=Qe (LR s) 1;rw[v]at e;have:=QY (by omega) (by omega) (by omega) (by omega) e;omega
theorem Vm{D:LY}(g:∀s∈D,s.size=64){c b:Nat}{a:F5}(e:Jb D 1537 c D2=some (b,a)):QG a/\a.t.size<=1000000:=by
 obtain⟨⟨d,_⟩,_⟩:=Ut g 1537 0 c D2 b a GM.start e;have f:=SI 1537 c D2 b a (fun y h=>absurd (show y∈[] from h) BD) e;have g3:=d.len;have g4:=d.ts;exact⟨⟨by omega,f.1⟩,by omega⟩
end Go.Proofs.YtaieidcohdhgpaaGreatDoor
