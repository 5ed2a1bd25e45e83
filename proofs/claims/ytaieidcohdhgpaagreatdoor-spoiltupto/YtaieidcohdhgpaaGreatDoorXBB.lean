/- Spoilt. -/
import Derived.Test.YtaieidcohdhgpaaGreatDoorXBA
namespace Go.Proofs.YtaieidcohdhgpaaGreatDoor
set_option maxHeartbeats 40000000
set_option maxRecDepth 100000
open Go.RowKit
def Sz(W w0:World)(n0 rb db tp tx fb:Nat)(q:F5)(va vt:Value)(p:By)(kd fn:Nat)(s':By)(e:Ending)(w':World):Prop:=
 e = .returned (.tuple #[.agg #[.string p,.int .u8 (kd:Nat),.int .i64 (fn:Nat),.slice none 0 0],.bool true])/\Gd w0 n0 rb db tp tx q va vt w'/\GH fb s' vt w'/\Fr (fun k=>k=fb) W w'
def KM(W w0:World)(n0 rb db tp tx fb:Nat)(q:F5)(va vt:Value)(last p:By)(kd sm fn:Nat)(s5 s6:By)(B:NB)(N K:Nat)(q':F5)(s':By)(e:Ending)(w':World):Prop:=
 if last.size<sm then e = .returned (.tuple #[.agg #[.string ⟨#[]⟩,.int .u8 (kd:Nat),.int .i64 0,.slice none 0 0],.bool false])/\Ik w0 n0 rb w'
 else if kd=1 then Sz W w0 n0 rb db tp tx fb q va vt p kd 0 s5 e w'
 else if kd=3 then Sz W w0 n0 rb db tp tx fb q va vt p kd fn s6 e w'
 else KD W w0 n0 rb db tp tx fb vt va p kd fn B N K q' s' e w'
theorem Zmn(W z:World)(o f u x y:Nat)(q:F5)(r l:Value)(h:Gd z o f u x y q r l W)
  (c:Nat) (ae:o<=c) (s s2 s3 s4 O s6:By) (hf:GH c s l W) (hs:s.size<=1000000) (L p:By) (a2:L.size<=1000000) (a D n fn:Nat) (a1:a<256) (aZ:a≠0) (a5:D<256) (hn:n<256) (aY:fn<256)
  (e2:s2=s.extract 1 s.size) (e3:s3=s2.extract 1 s2.size) (e4:s4=s3.extract 1 s3.size) (e5:O=s4.extract n s4.size) (e6:s6=O.extract 1 O.size)
  (h1:DA (BL (Dg s 1))=a) (h2:DA (BL (Dg s2 1))=D) (h3:DA (BL (Dg s3 1))=n) (h4:L.extract 0 D++Dg s4 n=p) (h5:DA (BL (Dg O 1))=fn)
  (B:NB) (N K:Nat) (q':F5) (s':By)
  (aB:D<=L.size->a≠1->a≠3->∀V,Gd z o f u x y q r l V->GH c s6 l V->Cl 246 #[.pointer (some ⟨f,0,none⟩),.pointer (some ⟨c,0,none⟩),.agg #[.string p,.int .u8 (a:Nat),.int .i64 (fn:Nat),.slice none 0 0]] V (KD V z o f u x y c l r p a fn B N K q' s')):
  Cl 203 #[.pointer (some ⟨f,0,none⟩),.pointer (some ⟨c,0,none⟩),.string L] W (KM W z o f u x y c q r l L p a D fn O s6 B N K q' s'):=by
 obtain⟨W1,e1,x1,k1,s1,b1⟩:=De W [.string ⟨#[]⟩,.int .u8 0,.int .i64 0,.slice none 0 0] 141;obtain⟨aC,al,P⟩:=h.lt;have ac:=(hf.some h).1;have ao:o<=W.heap.size:=Ag h.sz h.bel.size;have z2:s2.size<=1000000:=by rw[e2,Af];omega
 have z3:s3.size<=1000000:=by rw[e3,Af];omega
 have z4:s4.size<=1000000:=by rw[e4,Af];omega
 have z5:O.size<=1000000:=by rw[e5,Af];omega
 have z6:s6.size<=1000000:=by rw[e6,Af];omega
 have zp:(L.extract 0 D).size+(Dg s4 n).size<=9223372036854775807:=by rw[Af,Jc];omega
 have av:Hid (Cl 240 #[.pointer (some ⟨c,0,none⟩),.int .i64 1] W1 fun e X=>e = .returned (.int .u64 (a:Nat))/\∃Y,X.alloc (.cells #[.string ⟨#[]⟩,.int .u8 (a:Nat),.int .i64 0,.slice none 0 0] 141)=Y/\Y.cell? ⟨X.heap.size,1,none⟩=some (.int .u8 (a:Nat))/\
   Hid (Ir W z o f u x y c q r l X.heap.size s2 [.string ⟨#[]⟩,.int .u8 (a:Nat),.int .i64 0,.slice none 0 0] Y)):=by
  refine((h.below b1).number ae (hf.below b1 P) hs 1 (by omega)).mono ?_;rintro e X ⟨rfl,q1,q2,q3⟩;obtain⟨Y,eY,xY,kY,sY,bY⟩:=De X [.string ⟨#[]⟩,.int .u8 (a:Nat),.int .i64 0,.slice none 0 0] 141;have aQ:F0 X W.heap.size 141 _:=x1.fr q3 (fun e=>by omega);have aS:=q3.size;rw[<-e2]at q2;exact⟨by rw[h1],Y,eY,(xY.cell 1).trans rfl,q1.below bY,q2.below bY (fun k F=>by have:=P k F;omega),kY _ _ _ aQ,xY,((Fr.of_below b1).then q3 (fun _ _ e=>e)).then (Fr.of_below (X:=fun _=>False) bY) (fun _ _ e=>e.elim),by omega⟩
 have aw:Hid (∀d X,Ir W z o f u x y c q r l d s2 [.string ⟨#[]⟩,.int .u8 (a:Nat),.int .i64 0,.slice none 0 0] X->Cl 240 #[.pointer (some ⟨c,0,none⟩),.int .i64 1] X fun e Y=>e = .returned (.int .u64 (D:Nat))/\Hid (Ir W z o f u x y c q r l d s3 [.string ⟨#[]⟩,.int .u8 (a:Nat),.int .i64 0,.slice none 0 0] Y)):=fun d X m=>(m.num h ac ae z2).mono fun e Y ⟨r1,C⟩=>⟨by rw[r1,h2],by rw[e3];exact C⟩
 have ax:Hid (∀d X,Ir W z o f u x y c q r l d s3 [.string ⟨#[]⟩,.int .u8 (a:Nat),.int .i64 0,.slice none 0 0] X->Cl 240 #[.pointer (some ⟨c,0,none⟩),.int .i64 1] X.drew fun e Y=>e = .returned (.int .u64 (n:Nat))/\
   Hid (Cl 245 #[.pointer (some ⟨c,0,none⟩),.int .i64 (n:Nat)] Y fun e U=>e = .returned (.slice (some ⟨Y.heap.size,0,none⟩) n n)/\(convert 59 9 (.slice (some ⟨Y.heap.size,0,none⟩) n n)).run Tryz.prog U = .ok (.string (Dg s4 n)) U/\U.cell? ⟨d,0,none⟩=some (.string ⟨#[]⟩)/\U.frozen? ⟨d,0,none⟩=false/\∃V,U.setCell ⟨d,0,none⟩ (.string p)=V/\V.cell? ⟨d,1,none⟩=some (.int .u8 (a:Nat))/\
    Hid (Ir W z o f u x y c q r l d O [.string p,.int .u8 (a:Nat),.int .i64 0,.slice none 0 0] V))):=fun d X m=>by
  have aR:Ir W z o f u x y c q r l d s3 [.string ⟨#[]⟩,.int .u8 (a:Nat),.int .i64 0,.slice none 0 0] X.drew:=by
   have hd:Bw X X.drew:=⟨rfl,rfl,rfl,Aa _,fun _ _=>rfl⟩;exact⟨m.rd.below hd,m.fd.below hd (fun k F=>by have:=P k F;have:=m.fr.size;omega),m.b6,m.bi,⟨m.fr.os,m.fr.tape,m.fr.output,m.fr.size,m.fr.block⟩,m.lt⟩
  refine(aR.num h ac ae z3).mono ?_;rintro e Y ⟨rfl,C⟩;rw[<-e4]at C;refine⟨by rw[h3],(C.byt ac ae z4 n (by omega)).mono ?_⟩;rintro e U ⟨rfl,u1,R⟩;rw[<-e5]at R;have u3:=R.set h ac 0 (.string p);exact⟨rfl,u1,(R.bi.cell 0).trans rfl,R.bi.frozen 0,_,rfl,(u3.bi.cell 1).trans rfl,u3⟩
 have ay:Hid (∀d X,Ir W z o f u x y c q r l d O [.string p,.int .u8 (a:Nat),.int .i64 0,.slice none 0 0] X->Cl 240 #[.pointer (some ⟨c,0,none⟩),.int .i64 1] X fun e Y=>e = .returned (.int .u64 (fn:Nat))/\Y.cell? ⟨d,2,none⟩=some (.int .i64 0)/\Y.frozen? ⟨d,2,none⟩=false/\∃V,Y.setCell ⟨d,2,none⟩ (.int .i64 (fn:Nat))=V/\F0 V d 141 [.string p,.int .u8 (a:Nat),.int .i64 (fn:Nat),.slice none 0 0]/\
   Hid (Ir W z o f u x y c q r l d s6 [.string p,.int .u8 (a:Nat),.int .i64 (fn:Nat),.slice none 0 0] V)):=fun d X m=>by
  refine(m.num h ac ae z5).mono ?_;rintro e Y ⟨rfl,C⟩;rw[<-e6]at C;have t:=C.set h ac 2 (.int .i64 (fn:Nat));exact⟨by rw[h5],(C.bi.cell 2).trans rfl,C.bi.frozen 2,_,rfl,t.bi,t⟩
 have ah:Hid (∀d X s9 (I:F6) u0 u1 R u3,Ir W z o f u x y c q r l d s9 I X->Fr (fun k=>k=c) W ((((X.setCell ⟨W.heap.size,0,none⟩ (u0)).setCell ⟨W.heap.size,1,none⟩ (u1)).setCell ⟨W.heap.size,2,none⟩ (R)).setCell ⟨W.heap.size,3,none⟩ (u3))/\Gd z o f u x y q r l ((((X.setCell ⟨W.heap.size,0,none⟩ (u0)).setCell ⟨W.heap.size,1,none⟩ (u1)).setCell ⟨W.heap.size,2,none⟩ (R)).setCell ⟨W.heap.size,3,none⟩ (u3))/\GH c s9 l ((((X.setCell ⟨W.heap.size,0,none⟩ (u0)).setCell ⟨W.heap.size,1,none⟩ (u1)).setCell ⟨W.heap.size,2,none⟩ (R)).setCell ⟨W.heap.size,3,none⟩ (u3))/\F0 X W.heap.size 141 [.string ⟨#[]⟩,.int .u8 0,.int .i64 0,.slice none 0 0]):=fun d X s9 I u0 u1 R u3 m=>by
  have A:Fr (fun j=>j=W.heap.size) X ((((X.setCell ⟨W.heap.size,0,none⟩ (u0)).setCell ⟨W.heap.size,1,none⟩ (u1)).setCell ⟨W.heap.size,2,none⟩ (R)).setCell ⟨W.heap.size,3,none⟩ (u3)):=((((Fr.refl (fun j=>j=W.heap.size) X).set ⟨W.heap.size,0,none⟩ _ rfl).set ⟨W.heap.size,1,none⟩ _ rfl).set ⟨W.heap.size,2,none⟩ _ rfl).set ⟨W.heap.size,3,none⟩ _ rfl;have aS:=m.fr.size;exact⟨m.fr.then A (fun k F e=>by omega),m.rd.fr A (fun k e=>by subst e;exact⟨ao,by omega,fun e=>by have:=al _ e;omega,fun e=>by have:=P _ e;omega⟩),m.fd.fr A (fun e=>by omega) (fun k F e=>by have:=P k F;omega) (fun k F=>by have:=P k F;omega),m.b6⟩
 have au:Hid (D<=L.size->a≠1->a≠3->∀d V,Ir W z o f u x y c q r l d s6 [.string p,.int .u8 (a:Nat),.int .i64 (fn:Nat),.slice none 0 0] V->Cl 246 #[.pointer (some ⟨f,0,none⟩),.pointer (some ⟨c,0,none⟩),.agg #[.string p,.int .u8 (a:Nat),.int .i64 (fn:Nat),.slice none 0 0]] V fun e U=>∃H Q J ok,e = .returned (.tuple #[.agg #[.string p,.int .u8 (a:Nat),.int .i64 (fn:Nat),.slice H Q J],.bool ok])/\F0 U W.heap.size 141 [.string ⟨#[]⟩,.int .u8 0,.int .i64 0,.slice none 0 0]/\
    Hid (KD W z o f u x y c l r p a fn B N K q' s' (.returned (.tuple #[.agg #[.string p,.int .u8 (a:Nat),.int .i64 (fn:Nat),.slice H Q J],.bool ok])) ((((U.setCell ⟨W.heap.size,0,none⟩ (.string p)).setCell ⟨W.heap.size,1,none⟩ (.int .u8 (a:Nat))).setCell ⟨W.heap.size,2,none⟩ (.int .i64 (fn:Nat))).setCell ⟨W.heap.size,3,none⟩ (.slice H Q J)))):=fun c1 c2 c3 d V t=>by
  have aX:W.heap.size<=V.heap.size:=t.fr.size;refine(aB c1 c2 c3 V t.rd t.fd).mono ?_;intro e U hp;unfold KD at hp ⊢;by_cases aj:N<=64*K
  ·rw[if_pos aj]at hp;obtain⟨H,J,aE,rfl,p1,p2,p3,p4,p5,p6⟩:=hp;have ab:F0 U W.heap.size 141 _:=t.b6.fr p5 (fun e=>by
    rcases e with e|e|e
    ·omega
    ·have:=al _ e;omega
    ·omega)
   have aP:=p5.size;refine⟨H,_,J,true,rfl,ab,?_⟩;unfold Hid;rw[if_pos aj];have A:Fr (fun j=>j=W.heap.size) U ((((U.setCell ⟨W.heap.size,0,none⟩ (.string p)).setCell ⟨W.heap.size,1,none⟩ (.int .u8 (a:Nat))).setCell ⟨W.heap.size,2,none⟩ (.int .i64 (fn:Nat))).setCell ⟨W.heap.size,3,none⟩ (.slice H ((CB B K).extract 0 N).size J)):=((((Fr.refl (fun j=>j=W.heap.size) U).set ⟨W.heap.size,0,none⟩ _ rfl).set ⟨W.heap.size,1,none⟩ _ rfl).set ⟨W.heap.size,2,none⟩ _ rfl).set ⟨W.heap.size,3,none⟩ _ rfl;have nv:¬F2 aE W.heap.size:=fun e=>by
    obtain⟨es,_,q2⟩:=p1.es;obtain⟨R',an⟩:=q2.type e;unfold F0 at ab an;rw[ab]at an;cases an
   refine⟨H,J,aE,rfl,p1.fr A (fun k e=>by subst e;exact⟨ao,by omega,nv,fun e=>by have:=P _ e;omega⟩),p2.fr A (fun e=>by omega) (fun k F e=>by have:=P k F;omega) (fun k F=>by have:=P k F;omega),p3.fr A (fun g hg e=>by have:=p4 g hg;omega),fun k F=>by have:=p4 k F;have:=t.lt;have:=t.bi.lt;omega,?_,fun g hg=>(p6 g hg).imp id (fun e=>by omega)⟩;exact((t.fr.mono (Y:=fun j=>j=f\/F2 r j\/j=c) (fun j _ e => .inr (.inr e))).then p5 (fun _ _ e=>e)).then A (fun k F e=>by omega)
  ·rw[if_neg aj]at hp;obtain⟨H,Q,J,rfl,p1,p5⟩:=hp;have ab:F0 U W.heap.size 141 _:=t.b6.fr p5 (fun e=>by
    rcases e with e|e|e
    ·omega
    ·have:=al _ e;omega
    ·omega)
   have aP:=p5.size;refine⟨H,Q,J,false,rfl,ab,?_⟩;unfold Hid;rw[if_neg aj];have A:Fr (fun j=>j=W.heap.size) U ((((U.setCell ⟨W.heap.size,0,none⟩ (.string p)).setCell ⟨W.heap.size,1,none⟩ (.int .u8 (a:Nat))).setCell ⟨W.heap.size,2,none⟩ (.int .i64 (fn:Nat))).setCell ⟨W.heap.size,3,none⟩ (.slice H Q J)):=((((Fr.refl (fun j=>j=W.heap.size) U).set ⟨W.heap.size,0,none⟩ _ rfl).set ⟨W.heap.size,1,none⟩ _ rfl).set ⟨W.heap.size,2,none⟩ _ rfl).set ⟨W.heap.size,3,none⟩ _ rfl;refine⟨H,Q,J,rfl,p1.step (n:=W.heap.size) ⟨A.os,A.tape,A.output,A.size,fun j hj=>A.block j (by have:=ab.lt;omega) (fun e=>by omega)⟩ ao aC,?_⟩;exact((t.fr.mono (Y:=fun j=>j=f\/F2 r j\/j=c) (fun j _ e => .inr (.inr e))).then p5 (fun _ _ e=>e)).then A (fun k F e=>by omega)
 have aH:=Db h4;have zq:(Dg s4 n).size<=255:=by rw[Jc];omega
 have aG:=Db e1;have a7:IntKind.u8.wrap (a:Int)=(a:Int):=by rw[IntKind.wrap_u8];omega
 have a8:IntKind.i64.wrap (D:Int)=(D:Int):=by rw[AX];omega
 have a9:IntKind.i64.wrap (n:Int)=(n:Int):=by rw[AX];omega
 have ba:IntKind.i64.wrap (fn:Int)=(fn:Int):=by rw[AX];omega
 have a0:¬(a:Int)=0:=by omega
 clear e1 x1 k1 s1 b1 h hf hs aC al P h1 h2 h3 h5 h4 z2 z3 z4 z5 z6 e2 e3 e4 e5 e6 aB;go_enter Tryz.func203,Tryz.ntmps203;go_upto_region 1 with fail;rw[show W.alloc (.cells #[.string ⟨#[]⟩,.int .u8 0,.int .i64 0,.slice none 0 0] 141)=W1 from Da aG];go_upto_region 2 with(go_at_call 240;refine(Da av).mono ?_;rintro e X ⟨rfl,Y,hY,y1,HI⟩;have HY:=Db hY;clear hY av);rw[show X.alloc (.cells #[.string ⟨#[]⟩,.int .u8 (a:Nat),.int .i64 0,.slice none 0 0] 141)=Y from Da HY];go_upto_region 5 with(go_at_call 240;refine(Da aw _ _ (Da HI)).mono ?_;rintro e X3 ⟨rfl,ag⟩;clear HI aw y1);by_cases am:L.size<D
 ·have a3:(L.size:Int)<(D:Int):=by omega
  have ai:=Da ag;have E:=ai.bi;obtain⟨o1,o2,_,b⟩:=Da ah _ _ _ _ (.string ⟨#[]⟩) (.int .u8 (a:Nat)) (.int .i64 0) (.slice none 0 0) ai;have Z:Hid (KM W z o f u x y c q r l L p a D fn O s6 B N K q' s' (.returned (.tuple #[.agg #[.string ⟨#[]⟩,.int .u8 (a:Nat),.int .i64 0,.slice none 0 0],.bool false])) ((((X3.setCell ⟨W.heap.size,0,none⟩ (.string ⟨#[]⟩)).setCell ⟨W.heap.size,1,none⟩ (.int .u8 (a:Nat))).setCell ⟨W.heap.size,2,none⟩ (.int .i64 0)).setCell ⟨W.heap.size,3,none⟩ (.slice none 0 0))):=by
   unfold Hid KM;rw[if_pos am];exact⟨rfl,o2.no⟩
  have aD:¬W.heap.size=X.heap.size:=by have:=ai.lt;omega
  clear ai o1 o2 ag;have t0:=(E.cell 0).trans (show _=some (Value.string ⟨#[]⟩) from rfl);have t1:=(E.cell 1).trans (show _=some (Value.int .u8 (a:Nat)) from rfl);have t2:=(E.cell 2).trans (show _=some (Value.int .i64 0) from rfl);have t3:=(E.cell 3).trans (show _=some (Value.slice none 0 0) from rfl);have z0:=b.cell 0;have z1:=b.cell 1;have z2:=b.cell 2;have z3:=b.cell 3;have y0:=b.frozen 0;have y1:=b.frozen 1;have y2:=b.frozen 2;have y3:=b.frozen 3;have G:=Db (JX b (.string ⟨#[]⟩) (.int .u8 (a:Nat)) (.int .i64 0) (.slice none 0 0));clear E b;go_wp2;have r0:=(Da G).cell 0;have r1:=(Da G).cell 1;have C:=(Da G).cell 2;have t:=(Da G).cell 3;exact Ax (v := .tuple #[.agg #[.string ⟨#[]⟩,.int .u8 (a:Nat),.int .i64 0,.slice none 0 0],.bool false]) (by simp[results,Tryz.results203,go_sem,r0,r1,C,t]) rfl (Da Z)
 have a6:¬(L.size:Int)<(D:Int):=by omega
 have a4:D<=L.size:=by omega
 go_upto_region 7 with fail;have az:=Da ax _ _ (Da ag);have aq:=Db az;clear az ax ag;refine AD (S:=fun V=>True) (by kernel_rfl) AQ (fun aO=>?_);refine tk 0 ?_;try simp only[pE];refine tk 1 ?_;try simp only[pE];refine tk 2 ?_;try simp only[pE];refine tk 3 ?_;try simp only[pE];refine tk 4 ?_;try simp only[pE];refine rk 5 (fun K M=>?_);go_simp;go_at_call 240;refine(Da aq).mono ?_;rintro e X4 ⟨rfl,ap⟩;go_wp2_with fail;refine M.out _ _ AQ (fun aL=>?_);clear M K
 (try simp only[pE])
 refine tk 6 ?_;try simp only[pE];refine rk 7 (fun K M=>?_);go_simp;go_at_call 245;refine(Da ap).mono ?_;rintro e U ⟨rfl,aT,u0,u1,V,hV,v1,HV⟩;go_wp2_with fail;refine M.out _ _ AQ (fun aM=>?_);clear M K
 (try simp only[pE])
 refine rk 8 (fun K M=>?_);go_simp;refine M.out _ _ AQ (fun aN=>?_);clear M K
 (try simp only[pE])
 refine A6 (i:=9) (v := .string p) rfl (by kernel_rfl) (by kernel_rfl) (by kernel_rfl) (fun _ _ _ h=>h) (Or.inl ⟨by rfl,by intro w aW;go_simp;rw[if_neg (by omega),Da aH]⟩) (by assumption) ?_
 (try simp only[pE])
 refine tk 10 ?_;try simp only[pE];refine rk 11 (fun K M=>?_);go_simp;refine M.out _ _ AQ (fun aK=>?_);clear M K
 (try simp only[pE])
 refine AW (by kernel_rfl) ?_ _;clear aO aL aM aN aK u0 u1 aT ap aq;by_cases af:a=1
 ·have aU:(a:Int)=1:=by omega
  have aa:=Da HV;have E:=aa.bi;obtain⟨o1,o2,o3,b⟩:=Da ah _ _ _ _ (.string p) (.int .u8 (a:Nat)) (.int .i64 0) (.slice none 0 0) aa;have Z:Hid (KM W z o f u x y c q r l L p a D fn O s6 B N K q' s' (.returned (.tuple #[.agg #[.string p,.int .u8 1,.int .i64 0,.slice none 0 0],.bool true])) ((((V.setCell ⟨W.heap.size,0,none⟩ (.string p)).setCell ⟨W.heap.size,1,none⟩ (.int .u8 1)).setCell ⟨W.heap.size,2,none⟩ (.int .i64 0)).setCell ⟨W.heap.size,3,none⟩ (.slice none 0 0))):=by
   unfold Hid KM;rw[if_neg am,if_pos af];subst af;exact⟨rfl,o2,o3,o1⟩
  have aD:¬W.heap.size=X.heap.size:=by have:=aa.lt;omega
  clear aa o1 o2 o3 HV;have t0:=(E.cell 0).trans (show _=some (Value.string p) from rfl);have t1:=(E.cell 1).trans (show _=some (Value.int .u8 (a:Nat)) from rfl);have t2:=(E.cell 2).trans (show _=some (Value.int .i64 0) from rfl);have t3:=(E.cell 3).trans (show _=some (Value.slice none 0 0) from rfl);have z0:=b.cell 0;have z1:=b.cell 1;have z2:=b.cell 2;have z3:=b.cell 3;have y0:=b.frozen 0;have y1:=b.frozen 1;have y2:=b.frozen 2;have y3:=b.frozen 3;have G:=Db (JX b (.string p) (.int .u8 1) (.int .i64 0) (.slice none 0 0));clear E b;go_wp2;have r0:=(Da G).cell 0;have r1:=(Da G).cell 1;have C:=(Da G).cell 2;have t:=(Da G).cell 3;exact Ax (v := .tuple #[.agg #[.string p,.int .u8 1,.int .i64 0,.slice none 0 0],.bool true]) (by simp[results,Tryz.results203,go_sem,r0,r1,C,t]) rfl (Da Z)
 have aU:¬(a:Int)=1:=by omega
 have ar:=Db (Da ay _ _ (Da HV));clear hV HV ay;go_upto_region 11 with(go_at_call 240;refine(Da ar).mono ?_;rintro e X5 ⟨rfl,f0,A,V5,aA,ad,Z⟩;have aI:=Db aA;clear aA);rw[show X5.setCell ⟨X.heap.size,2,none⟩ (.int .i64 (fn:Nat))=V5 from Da aI];clear f0 A v1 ar;by_cases ak:a=3
 ·have aV:(a:Int)=3:=by omega
  have aa:=Da Z;have E:=aa.bi;obtain⟨o1,o2,o3,b⟩:=Da ah _ _ _ _ (.string p) (.int .u8 (a:Nat)) (.int .i64 (fn:Nat)) (.slice none 0 0) aa;have Z:Hid (KM W z o f u x y c q r l L p a D fn O s6 B N K q' s' (.returned (.tuple #[.agg #[.string p,.int .u8 3,.int .i64 (fn:Nat),.slice none 0 0],.bool true])) ((((V5.setCell ⟨W.heap.size,0,none⟩ (.string p)).setCell ⟨W.heap.size,1,none⟩ (.int .u8 3)).setCell ⟨W.heap.size,2,none⟩ (.int .i64 (fn:Nat))).setCell ⟨W.heap.size,3,none⟩ (.slice none 0 0))):=by
   unfold Hid KM;rw[if_neg am,if_neg af,if_pos ak];subst ak;exact⟨rfl,o2,o3,o1⟩
  have aD:¬W.heap.size=X.heap.size:=by have:=aa.lt;omega
  clear aa o1 o2 o3 ad;have t0:=(E.cell 0).trans (show _=some (Value.string p) from rfl);have t1:=(E.cell 1).trans (show _=some (Value.int .u8 (a:Nat)) from rfl);have t2:=(E.cell 2).trans (show _=some (Value.int .i64 (fn:Nat)) from rfl);have t3:=(E.cell 3).trans (show _=some (Value.slice none 0 0) from rfl);have z0:=b.cell 0;have z1:=b.cell 1;have z2:=b.cell 2;have z3:=b.cell 3;have y0:=b.frozen 0;have y1:=b.frozen 1;have y2:=b.frozen 2;have y3:=b.frozen 3;have G:=Db (JX b (.string p) (.int .u8 3) (.int .i64 (fn:Nat)) (.slice none 0 0));clear E b;go_wp2;have r0:=(Da G).cell 0;have r1:=(Da G).cell 1;have C:=(Da G).cell 2;have t:=(Da G).cell 3;exact Ax (v := .tuple #[.agg #[.string p,.int .u8 3,.int .i64 (fn:Nat),.slice none 0 0],.bool true]) (by simp[results,Tryz.results203,go_sem,r0,r1,C,t]) rfl (Da Z)
 have aV:¬(a:Int)=3:=by omega
 have g0:=(ad.cell 0).trans (show _=some (Value.string p) from rfl);have g1:=(ad.cell 1).trans (show _=some (Value.int .u8 (a:Nat)) from rfl);have g2:=(ad.cell 2).trans (show _=some (Value.int .i64 (fn:Nat)) from rfl);have g3:=(ad.cell 3).trans (show _=some (Value.slice none 0 0) from rfl);have aF:=Db (Da au (by omega) af ak _ _ (Da Z));clear ad Z au ah;go_upto_region 13 with fail;go_wp2_with (go_at_call 246;refine(Da aF).mono ?_;rintro e U2 ⟨H,Q,J,ok,rfl,T,HP⟩;have z0:=T.cell 0;have z1:=T.cell 1;have z2:=T.cell 2;have z3:=T.cell 3;have y0:=T.frozen 0;have y1:=T.frozen 1;have y2:=T.frozen 2;have y3:=T.frozen 3;have aJ:=Db T;clear T);have hR:=JX (Da aJ) (.string p) (.int .u8 (a:Nat)) (.int .i64 (fn:Nat)) (.slice H Q J);have r0:=hR.cell 0;have r1:=hR.cell 1;have C:=hR.cell 2;have t:=hR.cell 3;refine Ax (v := .tuple #[.agg #[.string p,.int .u8 (a:Nat),.int .i64 (fn:Nat),.slice H Q J],.bool ok]) (by simp[results,Tryz.results203,go_sem,r0,r1,C,t]) rfl ?_;unfold KM;rw[if_neg am,if_neg af,if_neg ak];exact Da HP
structure QG(q:F5):Prop where
 len:q.ins.length+Hv q<=1536
 pl:∀y∈q.ins,16<=y.2/\y.2<1536/\q.tk y.2=true
theorem Vt{p:Nat->Prop}:∀(n:Nat),¬p n->∃K,(∀k,k<K->p k)/\¬p K:=by
 intro n
 induction n using Nat.strongRecOn with
 | _ n ih=>
  intro d;by_cases h:∀k,k<n->p k
  ·exact⟨n,h,d⟩
  ·obtain⟨k,a⟩:=Classical.not_forall.1 h;obtain⟨b,c⟩:=Classical.not_imp.1 a;exact ih k b c
theorem Zp(q:F5)(r p:Nat):(q.putO r p).ins.length<=q.ins.length+1:=by
 show(if _ then _ else _:List (Nat×Nat)).length<=_
 split
 ·rw[AK];omega
 ·rw[Ad,Ba];exact Aa _
theorem T2{q:F5}{r p:Nat}{y:Nat×Nat}(h:y∈(q.putO r p).ins):y=(r,p)\/y∈q.ins:=by
 have a:y∈(if ∃y∈q.ins,y.1=r then q.ins.map (fun y=>if y.1=r then (r,p) else y) else q.ins++[(r,p)]):=h
 split at a
 ·obtain⟨z,b,rfl⟩:=Au.1 a
  split
  ·exact .inl rfl
  ·exact .inr b
 ·rcases Ap.1 a with a|a
  ·exact .inr a
  ·exact .inl (Ab.1 a)
theorem QG.step{q:F5}(h:QG q){p:Nat}(k:16<=p)(e:p<1536)(l:q.tk p=false)(r:Nat):QG ((q.take p).putO r p):=by
 have hu:=NR e l;have hl:=h.len;have m:=Zp (q.take p) r p;have g:Hv ((q.take p).putO r p)=Hv (q.take p):=rfl;have i:(q.take p).ins=q.ins:=rfl;rw[i]at m;refine⟨by rw[g];omega,fun y d=>?_⟩;have f:∀j,((q.take p).putO r p).tk j=(q.take p).tk j:=fun _=>rfl
 rcases T2 d with rfl|d
 ·exact⟨k,e,by rw[f];simp[F5.take]⟩
 ·obtain⟨a,b,c⟩:=h.pl y d;exact⟨a,b,by rw[f];simp[F5.take,c]⟩
def Jf(q:F5)(fn:Nat)(P:Nat->Nat):Nat->F5
 | 0=>q
 | k+1=>((Jf q fn P k).take (P k)).putO (Dd 4 fn k) (P k)
def eS(s:By):By:=s.extract 1 s.size
def LR(s:By):By:=(eS (eS (eS s))).extract (DA (BL (Dg (eS (eS s)) 1))) (eS (eS (eS s))).size
def eP(last s:By):By:=last.extract 0 (DA (BL (Dg (eS s) 1)))++Dg (eS (eS (eS s))) (DA (BL (Dg (eS (eS s)) 1)))
def eF(s:By):Nat:=DA (BL (Dg (LR s) 1))
def eL(s:By):Nat:=DA (BL (Dg (eS (LR s)) 2))
def eR(s:By):By:=(eS (LR s)).extract 2 (eS (LR s)).size
def eQ(s:By)(k:Nat):Nat:=Gu (Dv (eR s) k)
def Ll(q:F5)(s last:By)(kd:Nat)(p:By)(q':F5)(s':By):Prop:=
 kd=DA (BL (Dg s 1))/\(kd=0->q'=q)/\(kd≠0->p=eP last s/\(q'=q\/q'=Jf q (eF s) (eQ s) ((eL s+63)/64))/\(kd=2->q'=Jf q (eF s) (eQ s) ((eL s+63)/64)/\s'=Dv (eR s) ((eL s+63)/64)))
def Nw(q:F5)(s last:By):Prop:=DA (BL (Dg s 1))≠0/\(last.size<DA (BL (Dg (eS s) 1))\/¬ ∀k,k<(eL s+63)/64->16<=eQ s k/\eQ s k<1536/\(Jf q (eF s) (eQ s) k).tk (eQ s k)=false)
def R7(D:LY)(s:By)(fn l:Nat)(d:By):Prop:=fn=eF s/\l=eL s/\d=(CB (fun k=>(D[eQ s k]?).getD (Di 64)) ((eL s+63)/64)).extract 0 (eL s)
theorem Qe(s:By)(n:Nat):DA (BL (Dg s n))<256 ^ n:=by
 have:=Qg (BL (Dg s n))
 rwa [DZ,Jc]at this
def MD(D:LY)(W w0:World)(n0 rb db tp tx fb:Nat)(va vt:Value)(q:F5)(s last:By)(e:Ending)(w':World):Prop:=
 ∃(p:By) (kd fn:Nat) (a:OA) (l c:Nat) (ok:Bool),e = .returned (.tuple #[.agg #[.string p,.int .u8 (kd:Nat),.int .i64 (fn:Nat),.slice a l c],.bool ok])/\(ok=false->Ik w0 n0 rb w'/\Nw q s last)/\
  (ok=true->p.size<=600/\∃(q':F5) (s':By) (va':Value) (d:By),QG q'/\Ll q s last kd p q' s'/\(kd=2->R7 D s fn l d)/\Gd w0 n0 rb db tp tx q' va' vt w'/\GH fb s' vt w'/\s'.size<=s.size/\(kd≠0->s'.size<s.size)/\Sl w' 5 1 (.slice a l c) l (Dc d)/\Fr (fun j=>j=rb\/F2 va j\/j=fb) W w'/\Dm W va va')
theorem Zmr(W I:World)(t G y Q R:Nat)(q:F5)(x H:Value)(h:Gd I t G y Q R q x H W){vf vw ve:Value}{a:OA}{l c:Nat}{D:LY}(hD:DV I y vf (.slice a l c) vw ve D)(al:y<t/\∀k,F2 (.slice a l c) k->k<t)
  (z:Nat) (ab:t<=z) (s:By) (hf:GH z s H W) (hs:s.size<=1000000) (A:By) (am:A.size<=1000000) (U:QG q):
  Cl 203 #[.pointer (some ⟨G,0,none⟩),.pointer (some ⟨z,0,none⟩),.string A] W (MD D W I t G y Q R z x H q s A):=by
 have ai:=hD.2.1.2;have ap:=hD.2.2;by_cases d:DA (BL (Dg s 1))=0
 ·refine(Zmo W I t G y Q R q x H h z ab s hf hs d A).mono ?_;rintro e w' ⟨rfl,m,C,E⟩;exact⟨⟨#[]⟩,0,0,none,0,0,true,rfl,(fun e=>by cases e),fun _=>⟨Aw _,q,_,x,⟨#[]⟩,U,⟨d.symm,fun _=>rfl,fun e=>absurd rfl e⟩,(fun e=>by cases e),m,C,by rw[Af];omega,fun e=>absurd rfl e,⟨rfl,.inl ⟨rfl,rfl⟩⟩,E.mono (fun _ _ e => .inr (.inr e)),fun g O => .inl O⟩⟩
 ·have au:1<=s.size:=by
   rcases BC s.size with e|e
   ·exfalso;have hb:BL s=[]:=Ay (by rw[DZ,e]);rw[KR,hb]at d
    revert d;decide
   ·exact e
  obtain⟨o,L⟩:=ex (s.extract 1 s.size);obtain⟨r,e3⟩:=ex (o.extract 1 o.size);obtain⟨w,e4⟩:=ex (r.extract 1 r.size);obtain⟨n,hn⟩:∃n,DA (BL (Dg r 1))=n:=⟨_,rfl⟩;obtain⟨i,e5⟩:=ex (w.extract n w.size);obtain⟨s6,e6⟩:=ex (i.extract 1 i.size);obtain⟨j,T⟩:∃n,DA (BL (Dg s 1))=n:=⟨_,rfl⟩;obtain⟨X,ae⟩:∃n,DA (BL (Dg o 1))=n:=⟨_,rfl⟩;obtain⟨fn,ac⟩:∃n,DA (BL (Dg i 1))=n:=⟨_,rfl⟩;obtain⟨N,hN⟩:∃n,DA (BL (Dg s6 2))=n:=⟨_,rfl⟩;obtain⟨p,hp⟩:∃p,A.extract 0 X++Dg w n=p:=⟨_,rfl⟩;have l1:j<256:=by rw[<-T];exact Qe s 1
  have l2:X<256:=by rw[<-ae];exact Qe o 1
  have l3:n<256:=by rw[<-hn];exact Qe r 1
  have l4:fn<256:=by rw[<-ac];exact Qe i 1
  have l5:N<=65535:=by have:=Qe s6 2;rw[hN]at this;omega
  have ad:p.size<=600:=by rw[<-hp,Ai,Af,Jc];omega
  have z2:o.size=s.size-1:=by rw[L,Af];omega
  have z3:r.size<=o.size:=by rw[e3,Af];omega
  have z4:w.size<=r.size:=by rw[e4,Af];omega
  have z5:i.size<=w.size:=by rw[e5,Af];omega
  have z6:s6.size<=i.size:=by rw[e6,Af];omega
  rw[T]at d;obtain⟨P,hP⟩:∃P:Nat->Nat,P=fun k=>Gu (Dv (s6.extract 2 s6.size) k):=⟨_,rfl⟩
  have hE:X=DA (BL (Dg (eS s) 1))/\j=DA (BL (Dg s 1))/\p=eP A s/\fn=eF s/\N=eL s/\P=eQ s/\s6.extract 2 s6.size=eR s:=by
   subst hP;subst L;subst e3;subst e4;subst hn;subst e5;subst e6;subst T;subst ae;subst ac;subst hN;subst hp;exact⟨rfl,rfl,rfl,rfl,rfl,rfl,rfl⟩
  obtain⟨E0,J,Y,Z,S,E5,E6⟩:=hE;obtain⟨B,hB⟩:∃B:NB,B=fun k=>(D[P k]?).getD (Di 64):=⟨_,rfl⟩
  have af:∀k,(B k).size=64:=fun k=>by
   rw[hB];show((D[P k]?).getD (Di 64)).size=64
   cases e:D[P k]? with
   | none=>exact Jd 64
   | some b=>exact ai b (An e)
  obtain⟨K,M,ag⟩:=Vt (p:=fun k=>64*k<N/\16<=P k/\P k<1536/\(Jf q fn P k).tk (P k)=false) N (fun e=>by omega);have hQ:∀k,k<=K->QG (Jf q fn P k):=fun k=>by
   induction k with
   | zero=>exact fun _=>U
   | succ k ih=>
    intro F;obtain⟨_,a1,a2,a3⟩:=M k (by omega);exact(ih (by omega)).step a1 a2 a3 _
  refine(Zmn W I t G y Q R q x H h z ab s o r w i s6 hf hs A p am j X n fn l1 d l2 l3 l4 L e3 e4 e5 e6 T ae hn hp ac B N K (Jf q fn P K) (Dv (s6.extract 2 s6.size) K) (fun _ _ _ V hR hF=>?_)).mono ?_
  ·refine ZO V I t G y Q R q x H hR hD al z ab s6 hF (by omega) p j fn l4 N hN P B af (Jf q fn P) rfl K l5 (fun k F=>?_) (fun k F=>?_) (fun k F=>(M k F).1) ?_
   ·obtain⟨_,a1,a2,_⟩:=M k F;refine⟨by rw[hP],a1,a2,?_⟩;rw[hB];show D[P k]?=some ((D[P k]?).getD (Di 64));rw[Ac (by omega)];rfl
   ·exact⟨(M k F).2.2.2,rfl,by have:=(hQ k (by omega)).len;omega⟩
   ·rcases AO (64*K) N with e|e
    ·refine .inr ⟨e,?_⟩;have L:Gu (Dv (s6.extract 2 s6.size) K)=P K:=by rw[hP]
     rw[L];rcases AO (P K) 16 with u|u
     ·exact .inl u
     ·rcases AO (P K) 1536 with v|v
      ·refine .inr (.inr ?_)
       cases ht:(Jf q fn P K).tk (P K) with
       | true=>rfl
       | false=>exact absurd ⟨e,u,v,ht⟩ ag
      ·exact .inr (.inl v)
    ·exact .inl e
  ·intro e w' f;unfold KM at f
   split at f
   ·rename_i an;obtain⟨rfl,hb⟩:=f;exact⟨_,j,0,none,0,0,false,rfl,fun _=>⟨hb,by rw[<-J];exact d,.inl (by rw[<-E0];exact an)⟩,fun e=>by cases e⟩
   ·split at f
    ·obtain⟨rfl,m,C,E⟩:=f;exact⟨p,j,0,none,0,0,true,rfl,(fun e=>by cases e),fun _=>⟨ad,q,i,x,⟨#[]⟩,U,⟨J,fun e=>absurd e d,fun _=>⟨Y,.inl rfl,fun e=>by omega⟩⟩,(fun e=>by omega),m,C,by omega,fun _=>by omega,⟨rfl,.inl ⟨rfl,rfl⟩⟩,E.mono (fun _ _ e => .inr (.inr e)),fun g O => .inl O⟩⟩
    ·split at f
     ·obtain⟨rfl,m,C,E⟩:=f;exact⟨p,j,fn,none,0,0,true,rfl,(fun e=>by cases e),fun _=>⟨ad,q,s6,x,⟨#[]⟩,U,⟨J,fun e=>absurd e d,fun _=>⟨Y,.inl rfl,fun e=>by omega⟩⟩,(fun e=>by omega),m,C,by omega,fun _=>by omega,⟨rfl,.inl ⟨rfl,rfl⟩⟩,E.mono (fun _ _ e => .inr (.inr e)),fun g O => .inl O⟩⟩
     ·unfold KD at f
      split at f
      ·rename_i aq;obtain⟨a',c',ao,rfl,m,C,E,p4,p5,p6⟩:=f;have ak:((CB B K).extract 0 N).size=N:=by rw[Af,Uf af];omega
       have hz:(Dv (s6.extract 2 s6.size) K).size<=s6.size:=by rw[QW,Af];omega
       have aa:K=(eL s+63)/64:=by
        rw[<-S];rcases BC K with e|e
        ·omega
        ·have:=(M (K-1) (by omega)).1;omega
       have ah:Jf q fn P K=Jf q (eF s) (eQ s) ((eL s+63)/64):=by rw[<-aa,Z,E5]
       exact⟨p,j,fn,a',_,c',true,rfl,(fun e=>by cases e),fun _=>⟨ad,_,_,ao,_,hQ K (Aa _),⟨J,fun e=>absurd e d,fun _=>⟨Y,.inr ah,fun _=>⟨ah,by rw[E6,aa]⟩⟩⟩,(fun _=>⟨Z,by rw[<-S];exact ak,by rw[<-aa,<-S,<-E5,<-hB]⟩),m,C,by omega,fun _=>by omega,E,p5,p6⟩⟩
      ·rename_i ar;obtain⟨a',l',c',rfl,m,p5⟩:=f;exact⟨p,j,fn,a',l',c',false,rfl,fun _=>⟨m,by rw[<-J];exact d,.inr (fun aj=>ag ⟨by omega,by have:=aj K (by rw[<-S];omega);rw[<-Z,<-E5]at this;exact this⟩)⟩,fun e=>by cases e⟩
def Nx(E:F3)(p:Nat):Prop:=E.nd (p/16)<=0\/p/16=E.bt/16/\E.bt<p
def Hx(E:F3)(h:Nat):Prop:=h<=1536/\(h%16=0\/E.nd (h/16)<=0\/h/16=E.bt/16/\E.bt<h)
structure Lo(E:F3):Prop where
 ok:Gv E
 part:∃j,j<96/\E.nd j<=0
theorem Yc{E:F3}(k:Lo E){h:Nat}(l:Hx E h):Nx E (DH E.nd 96 h%1536):=by
 obtain⟨h1,f⟩:=l;by_cases a:h%16=0
 ·obtain⟨m,rfl⟩:∃m,h=16*m:=⟨h/16,by omega⟩;obtain⟨j,hj,hn⟩:=k.part;have d:¬0<E.nd ((m+(j+96-m%96)%96)%96):=by rw[show(m+(j+96-m%96)%96)%96=j by omega];omega
  obtain⟨i,b,c⟩:=Vt (p:=fun i=>0<E.nd ((m+i)%96)) ((j+96-m%96)%96) d;have ab:i<=95:=by
   rcases AO 95 i with g|g
   ·exact absurd (b _ (show(j+96-m%96)%96<i by omega)) d
   ·exact g
  rw[PE E.nd i 96 m (by omega) b c,show 16*(m+i)%1536=16*((m+i)%96) by omega];refine .inl ?_;rw[show 16*((m+i)%96)/16=(m+i)%96 by omega];have aa:¬0<E.nd ((m+i)%96):=c;omega
 ·rw[Uy (fun e=>a e.1),Eg (show h<1536 by omega)];rcases f with e|e|e
  ·exact absurd e a
  ·exact .inl e
  ·exact .inr e
theorem UX{E:F3}(f:Lo E){st:Pl}(h:Hx E st.hd)(r:Nat)(b:By):Hx E (E.put st r b).2.hd/\(E.put st r b).1<1536/\(E.D[(E.put st r b).1]?=some b\/Nx E (E.put st r b).1):=by
 cases hs:E.stay r b with
 | some q=>
  have a:E.put st r b=(q,⟨st.hd,st.puts++[(r,q)],st.ps⟩):=by unfold F3.put;rw[hs]
  unfold F3.stay at hs
  split at hs
  ·rename_i q' j
   split at hs
   ·rename_i i
    cases hs
    rw[a];exact⟨h,(f.ok.at_some j).2,.inl i.1⟩
   ·cases hs
  ·cases hs
 | none=>
  have a:E.put st r b=(DH E.nd 96 st.hd%1536,⟨DH E.nd 96 st.hd%1536+1,st.puts++[(r,DH E.nd 96 st.hd%1536)],st.ps++[(DH E.nd 96 st.hd%1536,b)]⟩):=by unfold F3.put;rw[hs]
  have d:=Yc f h;have c:DH E.nd 96 st.hd%1536<1536:=FY _ (by omega);rw[a];generalize DH E.nd 96 st.hd%1536=p at d c
  refine⟨⟨c,?_⟩,c,.inr d⟩;show(p+1)%16=0\/E.nd ((p+1)/16)<=0\/(p+1)/16=E.bt/16/\E.bt<p+1;by_cases e:(p+1)%16=0
  ·exact .inl e
  ·rw[show(p+1)/16=p/16 by omega];exact .inr (d.imp id (fun g=>⟨g.1,by omega⟩))
theorem Ue{E:F3}(a:Lo E)(R:Nat->Nat)(B:NB):∀(st:Pl) (i:Nat) (xs:List Nat),Hx E st.hd->Hx E (E.puts R B st i xs).hd
 | _,_,[],h=>h
 | _,i,x::xs,h=>Ue a R B _ (i+1) xs (UX a h (R i) (B x)).1
theorem SC{E:F3}(a:Lo E)(C:NB)(b:By){st:Pl}(h:Hx E st.hd)(x:It):Hx E (Dt E C b st x).2.hd:=by
 unfold Dt
 split
 ·exact h
 ·split
  ·exact h
  ·exact Ue a _ _ _ _ _ h
theorem Sq{E:F3}(a:Lo E)(C:NB):∀(last:By) (st:Pl) (xs:List It),Hx E st.hd->Hx E (Dr E C last st xs).2.hd
 | _,_,[],h=>h
 | last,_,x::xs,h=>Sq a C _ _ xs (SC a C last h x)
theorem P9(E:F3)(R:Nat->Nat)(B:NB)(st:Pl):∀n,BL (JC E R B st 0 (List.range n))=DR (fun k=>DT (E.put (E.puts R B st 0 (List.range k)) (R k) (B k)).1 (Dl (B k))) n
 | 0=>rfl
 | n+1=>by
  rw[Cu];have a:=Ux E R B st 0 (List.range n) n;rw[Av,A2]at a;rw[a,DO,P9 E R B st n,Ub]
  rfl
def gR(E:F3)(t:By)(st:Pl):Nat->By×Pl
 | 0=>(t,st)
 | b+1=>Dz E (G0 b) (GR b) b (gR E t st b).2 (gR E t st b).1
def gN(E:F3)(t:By)(st:Pl)(b:Nat):Nat:=((gR E t st b).1.size+GR b-1)/GR b
def gB(E:F3)(t:By)(st:Pl)(b k:Nat):By:=Dw (G0 b) (gR E t st b).1 (GR b) k
def gP(E:F3)(t:By)(st:Pl)(b k:Nat):Nat:=(E.put (E.puts (Dd (G0 b).toNat b) (gB E t st b) (gR E t st b).2 0 (List.range k)) (Dd (G0 b).toNat b k) (gB E t st b k)).1
theorem O6(E:F3)(t:By)(st:Pl)(b:Nat):BL (gR E t st (b+1)).1=DR (fun k=>DT (gP E t st b k) (Dl (gB E t st b k))) (gN E t st b):=P9 E _ _ _ _
theorem U8(E:F3)(t:By)(st:Pl)(b:Nat):(gR E t st (b+1)).1.size=10*gN E t st b:=by
 rw[<-DZ,O6,KI (fun k=>JK _ _)]
theorem gR_hx{E:F3}(a:Lo E)(t:By){st:Pl}(h:Hx E st.hd):∀b,Hx E (gR E t st b).2.hd
 | 0=>h
 | b+1=>Ue a _ _ _ _ _ (gR_hx a t h b)
theorem O5{E:F3}(a:Lo E)(t:By){st:Pl}(h:Hx E st.hd)(b k:Nat):gP E t st b k<1536/\(E.D[gP E t st b k]?=some (gB E t st b k)\/Nx E (gP E t st b k)):=
 (UX a (Ue a _ _ _ _ _ (gR_hx a t h b)) _ _).2
theorem idx_gR(E:F3)(t:By)(st:Pl)(d:Nat):∀b,(gR E t st (b+1)).1.size<=10*6 ^ d->1<=gN E t st b->∃B,gN E t st B=1/\DE E d (b+1) (gR E t st (b+1)).2 (gR E t st (b+1)).1=gR E t st (B+1):=by
 induction d with
 | zero=>
  intro b a f;have:=U8 E t st b;rw[Nat.pow_zero]at a;exact⟨b,by omega,rfl⟩
 | succ d ih=>
  intro b a f;have aa:=U8 E t st b;unfold DE;by_cases c:10<(gR E t st (b+1)).1.size
  ·rw[if_pos c];have g:gN E t st (b+1)=((gR E t st (b+1)).1.size+60-1)/60:=by unfold gN;rw[Qi]
   have e:Dz E 2 60 (b+1) (gR E t st (b+1)).2 (gR E t st (b+1)).1=gR E t st (b+2):=by
    show _=Dz E (G0 (b+1)) (GR (b+1)) (b+1) _ _;rw[K7,Qi]
   rw[e];have h:=U8 E t st (b+1);refine ih (b+1) ?_ (by omega);rw[h,g];rw[C1]at a;generalize 6 ^ d=m at a ⊢
   omega
  ·rw[if_neg c];exact⟨b,by omega,rfl⟩
section
variable{D:LY}{R:NB}{N:Nat->Nat}{P X:Nat->Nat->Nat}{B:Nat}
theorem ON(n:Rows D R N P X B)(hX:∀b k,X b k=Dl (Dw (G0 b) (R b) (GR b) k)){E:F3}(M:Lo E){t:By}{st:Pl}(S:Hx E st.hd)
  {j:Nat} (L:∀p,p≠j->E.D[p]?=D[p]?) (ad:∀y y',D[j]?=some y->E.D[j]?=some y'->Dl y'≠Dl y)
  {f b0:Nat} {q0 g:F5} (hg:Jb E.D f (P B 0) q0=some (b0,g)) (hT:∀r p,(r,p)∈g.ins->¬Nx E p)
  {a:Nat} (hB:gN E t st a=1) (Q:gP E t st a 0=P B 0) (hx:Dl (gB E t st a 0)=X B 0):
  ∀d b,b+d=B->d<=a/\∀k,k<N b->k<gN E t st (a-d)/\gP E t st (a-d) k=P b k/\P b k≠j/\gB E t st (a-d) k=Dw (G0 b) (R b) (GR b) k/\∃f q l q',Jb E.D f (P b k) q=some (l,q')/\∀y∈q'.ins,y∈g.ins:=by
 have U:∀b k v,b<=B->k<N b->gP E t st v k=P b k->Dl (gB E t st v k)=X b k->(∃f q l q',Jb E.D f (P b k) q=some (l,q')/\∀y∈q'.ins,y∈g.ins)->P b k≠j/\gB E t st v k=Dw (G0 b) (R b) (GR b) k:=fun b k v hb o s A ⟨z,I,l,J,h3,h4⟩=>by
  obtain⟨r,hr⟩:=(PT z _ I l J h3).2.1;have hn:=hT r _ (h4 _ hr);have C:=n.at hb o;rcases (O5 M t S v k).2 with e|e
  ·rw[s]at e;have O:P b k≠j:=fun ej=>by
    rw[ej]at C e;refine ad _ _ C e ?_;rw[A,hX]
   rw[L _ O,C]at e;exact⟨O,(BV e).symm⟩
  ·rw[s]at e;exact absurd e hn
 intro d
 induction d with
 | zero=>
  intro b e;obtain rfl:b=B:=by omega
  refine⟨Aw _,fun k o=>?_⟩;have ht:=n.top;obtain rfl:k=0:=by omega
  have w:∃f q l q',Jb E.D f (P b 0) q=some (l,q')/\∀y∈q'.ins,y∈g.ins:=⟨f,q0,b0,g,hg,fun _ h=>h⟩;obtain⟨G,H⟩:=U b 0 a (Aa _) o Q hx w;exact⟨by show 0<gN E t st a;omega,Q,G,H,w⟩
 | succ d ih=>
  intro b e;obtain⟨i1,T⟩:=ih (b+1) (by omega);have af:=n.nn b (by omega);have ag:=n.pos (d+1) b e;have hd:d+1<=a:=by
   obtain⟨_,_,_,x,_⟩:=T 0 (by omega);rcases AO d a with h|h
   ·exact h
   ·exfalso;have s:=Qm (G0 (b+1)) (R (b+1)) (GR (b+1)) 0;rw[<-x,show a-d=0 by omega]at s;have A:(gB E t st 0 0).data[0]?=some (G0 0):=Qm _ _ _ _;rw[A,K7]at s
    revert s;decide
  refine⟨hd,fun k o=>?_⟩;obtain⟨Y,c2,Z,x,z,I,l,J,c5,c6⟩:=T (k/6) (by omega);obtain⟨c,hc⟩:=ex (a-(d+1));have ac:a-d=c+1:=by omega
  rw[<-hc];rw[ac]at Y x;have aa:Dw 2 (gR E t st (c+1)).1 60 (k/6)=Dw 2 (R (b+1)) 60 (k/6):=by
   have:=x;unfold gB at this;rw[K7,Qi,K7,Qi]at this;exact this
  have u:=Um (fun i=>Be (O5 M t S c i).1 (by omega)) (fun i=>JS (gB E t st c i)) (O6 E t st c) (k/6) (k%6) (by omega);have V:=fun m (hm:m<6)=>Um (fun i=>(n.px b i).1) (fun i=>(n.px b i).2) (n.rr b (by omega)) (k/6) m hm
  have Lu:=V (k%6) (by omega);rw[aa,Lu.1,Lu.2,show 6*(k/6)+k%6=k by omega,if_pos o,if_pos o]at u;have ae:=(n.pl b k (by omega) o).1;have F:k<gN E t st c:=by
   rcases AO k (gN E t st c) with h|h
   ·exact h
   ·rw[if_neg (by omega)]at u;omega
  rw[if_pos F,if_pos F]at u;have w:∃f q l q',Jb E.D f (P b k) q=some (l,q')/\∀y∈q'.ins,y∈g.ins:=by
   have ab:E.D[P (b+1) (k/6)]?=some (Dw 2 (R (b+1)) 60 (k/6)):=by
    rw[L _ Z,n.at (b:=b+1) (by omega) (by omega),K7,Qi]
   obtain⟨f2,q3,W,q4,K,g2⟩:=(PT z _ I l J c5).2.2 _ ab (Qm _ _ _ _) (k%6) (by omega) (fun i hi=>by
    rw[(V i (by omega)).1,if_pos (by omega)];have:=(n.pl b (6*(k/6)+i) (by omega) (by omega)).1;omega)
   rw[Lu.1,show 6*(k/6)+k%6=k by omega,if_pos o]at K;exact⟨f2,q3,W,q4,K,fun y hy=>c6 y (g2 y hy)⟩
  obtain⟨G,H⟩:=U b k c (by omega) o u.1.symm u.2.symm w;exact⟨F,u.1.symm,G,H,w⟩
end
theorem ST(E:F3)(C:NB)(d:By)(st:Pl){x:It}(hk:x.k=2):BL (Dt E C d st x).1=UInt8.ofNat 2::UInt8.ofNat (Jr d (jn x.ns))::UInt8.ofNat ((jn x.ns).size-Jr d (jn x.ns))::(BL (Dp d (jn x.ns))++UInt8.ofNat x.f::(DC (C x.f).size 2++DR (fun k=>DT (E.put (E.puts (Dd 4 x.f) (Gl (C x.f)) st 0 (List.range k)) (Dd 4 x.f k) (Gl (C x.f) k)).1 (Dl (Gl (C x.f) k))) (Gg (C x.f)))):=by
 have e:=P9 E (Dd 4 x.f) (Gl (C x.f)) st (Gg (C x.f));rw[<-Un]at e;unfold Dt Dx;rw[if_neg (by omega),if_neg (by omega)];show BL (_++_++_++_++_)=_;rw[DO,DO,DO,DO,e];have f:∀a b c:UInt8,BL (⟨#[a,b,c]⟩:By)=[a,b,c]:=fun _ _ _=>rfl
 have g:∀a:UInt8,BL (⟨#[a]⟩:By)=[a]:=fun _=>rfl
 have h:∀n,BL (Je n 2)=DC n 2:=fun n=>Kt _
 rw[f,g,h];simp only[Ar,AI,AA]
theorem ZL(E:F3)(C:NB)(a:By)(st:Pl){x:It}(b:x.k=1\/x.k=2\/x.k=3):∃r,BL (Dt E C a st x).1=UInt8.ofNat x.k::r:=by
 rcases b with e|e|e
 ·unfold Dt Dx;rw[if_pos e,e];exact⟨_,(DO _ _).trans rfl⟩
 ·rw[e];exact⟨_,ST E C a st e⟩
 ·unfold Dt Dx;rw[if_neg (by omega),if_pos e,e];refine⟨[UInt8.ofNat (Jr a (jn x.ns)),UInt8.ofNat ((jn x.ns).size-Jr a (jn x.ns))]++BL (Dp a (jn x.ns))++[UInt8.ofNat x.f],?_⟩;show BL (_++_++_)=_;rw[DO,DO]
  rfl
theorem Tr{c E:F3}{a C:NB}(p:∀r,F9 c r<65536)(g:Lo E):∀(L1 L:List It) (l1 l:By) (st:Pl) (r:List UInt8) (z:Nat),Hx E st.hd->OB a L1->(∀x∈L,(jn x.ns).size<=100/\x.f<60/\(x.k=2->(C x.f).size<=1280)/\(x.k=1\/x.k=2\/x.k=3))->BL (DW c a l1 L1)++0::r=BL (Dr E C l st L).1++0::List.replicate z 0->
  ∀x∈L1,∀k,k<Gg (a x.f)->∃st r b,Hx E st.hd/\(E.put st r b).1=F9 c (Dd 4 x.f k)/\Dl b=Dl (Gl (a x.f) k)
 | [],_,_,_,_,_,_,_,_,_,_=>fun x n=>by cases n
 | x::xs,[],l1,l,st,r,z,_,_,_,h=>by
  have j:BL (DW c a l1 (x::xs))=BL (Kb c a l1 x)++BL (DW c a (jn x.ns) xs):=DO _ _;rw[j,Qz]at h;have M:UInt8.ofNat 2::_=(0:UInt8)::List.replicate z 0:=h;exact absurd (Cx M).1 (by decide)
 | x::xs,y::ys,l1,l,st,r,z,hst,b1,b0,h=>by
  have H:BL (DW c a l1 (x::xs))=BL (Kb c a l1 x)++BL (DW c a (jn x.ns) xs):=DO _ _;have j:BL (Dr E C l st (y::ys)).1=BL (Dt E C l st y).1++BL (Dr E C (jn y.ns) (Dt E C l st y).2 ys).1:=DO _ _;obtain⟨p1,p2,p3⟩:=b1 x (by simp);obtain⟨q1,q2,T,v⟩:=b0 y (by simp);have n:=Qz c a l1 x;rw[H,j,n]at h;have q:y.k=2:=by
   obtain⟨r',Q⟩:=ZL E C l st v;rw[Q]at h;simp only[Ar,AI]at h;have:=(Cx h).1;rcases v with e|e|e
   ·rw[e]at this;exact absurd this (by decide)
   ·exact e
   ·rw[e]at this;exact absurd this (by decide)
  rw[ST E C l st q]at h;simp only[Ar,AI]at h;replace h:=(Cx h).2;obtain⟨g1,h⟩:=Cx h;obtain⟨I,h⟩:=Cx h;have A:(Dp l1 (jn x.ns)).size=(jn x.ns).size-Jr l1 (jn x.ns):=by unfold Dp;rw[Af];omega
  have w:(Dp l (jn y.ns)).size=(jn y.ns).size-Jr l (jn y.ns):=by unfold Dp;rw[Af];omega
  have o:=Ca UInt8.toNat I;rw[KF (by omega),KF (by omega)]at o;obtain⟨g3,h⟩:=Eb h (by rw[DZ,DZ,A,w,o]);obtain⟨g4,h⟩:=Cx h;obtain⟨J,h⟩:=Eb h (by rw[D4,D4]);have ab:=T q;have S:(a x.f).size=(C y.f).size:=QE (m:=2) (by omega) (by omega) J;have O:Gg (a x.f)=Gg (C y.f):=by unfold Gg;rw[S]
  obtain⟨K,h⟩:=Eb h (by rw[KI (fun k=>JK _ _),KI (fun k=>JK _ _),O]);intro u d k s;rcases AE.1 d with e|d
  ·subst e;have i:=Qn (f:=fun k=>DT (F9 c (Dd 4 u.f k)) (Dl (Gl (a u.f) k))) (fun k=>JK _ _) (Gg (a u.f)) k s;have F:=Qn (f:=fun k=>DT (E.put (E.puts (Dd 4 y.f) (Gl (C y.f)) st 0 (List.range k)) (Dd 4 y.f k) (Gl (C y.f) k)).1 (Dl (Gl (C y.f) k))) (fun k=>JK _ _) (Gg (C y.f)) k (by omega);rw[K,F]at i;unfold DT at i;obtain⟨G,d3⟩:=Eb i (by rw[D4,D4]);have t:=Ue g (Dd 4 y.f) (Gl (C y.f)) st 0 (List.range k) hst;have aa:=(UX g t (Dd 4 y.f k) (Gl (C y.f) k)).2.1;exact⟨_,_,_,t,QE (m:=2) (by omega) (p _) G,QE (m:=8) (JS _) (JS _) d3⟩
  ·exact Tr p g xs ys _ _ _ r z (SC g C l hst y) (fun u d=>b1 u (AF _ d)) (fun u d=>b0 u (AF _ d)) h u d k s
theorem Yp(w:World)(tb:Nat)(p:By)(d f:Nat)(g:OA)(i h:Nat)(R:Ending->World->Prop)
  (v:d=1->∀W,Bw w W->Cl 122 #[.pointer (some ⟨tb,0,none⟩),.string p] W fun e X=>∃x:Int,e = .returned (.int .i64 x)/\R (.returned (.bool (x==0))) X)
  (y:d=2->∀W,Bw w W->Cl 157 #[.pointer (some ⟨tb,0,none⟩),.agg #[.string p,.int .u8 2,.int .i64 (f:Nat),.slice g i h]] W fun e X=>∃b:Bool,e = .returned (.bool b)/\R e X)
  (z:d=3->∀W,Bw w W->Cl 158 #[.pointer (some ⟨tb,0,none⟩),.agg #[.string p,.int .u8 3,.int .i64 (f:Nat),.slice g i h]] W fun e X=>∃b:Bool,e = .returned (.bool b)/\R e X)
  (A:d≠1->d≠2->d≠3->∀W,Bw w W->R (.returned (.bool false)) W):
  Cl 97 #[.pointer (some ⟨tb,0,none⟩),.agg #[.string p,.int .u8 (d:Nat),.int .i64 (f:Nat),.slice g i h]] w R:=by
 obtain⟨q,u,s,t,G,r⟩:=De w [.string p,.int .u8 (d:Nat),.int .i64 (f:Nat),.slice g i h] 141;have E:=Db u;have c0:=(s.cell 0).trans (show _=some (Value.string p) from rfl);have c1:=(s.cell 1).trans (show _=some (Value.int .u8 (d:Nat)) from rfl);have c2:=(s.cell 2).trans (show _=some (Value.int .i64 (f:Nat)) from rfl);have c3:=(s.cell 3).trans (show _=some (Value.slice g i h) from rfl);have j:=Db (fun e=>v e q r);have k:=Db (fun e=>y e q r);have l:=Db (fun e=>z e q r);have m:=Db (fun a b c=>A a b c q r);clear u s t G r v y z A;go_enter Tryz.func97,Tryz.ntmps97;go_upto_region 1 with fail;rw[show w.alloc (.cells #[.string p,.int .u8 (d:Nat),.int .i64 (f:Nat),.slice g i h] 141)=q from Da E];by_cases t:d=1
 ·have n:=Db (Da j t);have B:(d:Int)=1:=by omega
  clear j k l m;go_wp2_with (go_at_call 122;refine(Da n).mono ?_;rintro e X ⟨x,rfl,o⟩);exact o
 have aa:¬(d:Int)=1:=by omega
 by_cases C:d=2
 ·have n:=Db (Da k C);have B:(d:Int)=2:=by omega
  clear j k l m;go_wp2_with (go_at_call 157;refine(Da n).mono ?_;rintro e X ⟨x,rfl,o⟩);exact o
 have ab:¬(d:Int)=2:=by omega
 by_cases D:d=3
 ·have n:=Db (Da l D);have B:(d:Int)=3:=by omega
  clear j k l m;go_wp2_with (go_at_call 158;refine(Da n).mono ?_;rintro e X ⟨x,rfl,o⟩);exact o
 have ac:¬(d:Int)=3:=by omega
 have F:=Da m t C D;clear j k l m;go_wp2;exact F
end Go.Proofs.YtaieidcohdhgpaaGreatDoor
