/- Dumps. -/
import Derived.Test.YtaieidcohdhgpaaGreatDoorZAW
import Derived.Lib.SlBytesRow
import Derived.Lib.BufferRead
import Derived.Laws.CopyOwn
namespace Go.Proofs.YtaieidcohdhgpaaGreatDoor
set_option maxHeartbeats 40000000
set_option maxRecDepth 100000
open Go.RowKit
structure KS where
 es:LI
 tp:Nat
 tx:Nat
 tn:Nat
 D:LY
def Jg(s:KS)(cl:Bool)(C:NB)(L:List It):By×Pl:=Ku (Je s.es cl s.tp s.D) C ⟨s.tp+1,[],[]⟩ L
def DO(mf:Nat)(s:KS)(C:NB)(L:List It):By×Pl:=if Ky (Mg (Jg s false C L).2.puts) 96<mf then Jg s true C L else Jg s false C L
def Hw(mf:Nat)(C:NB)(L:List It)(s s':KS):Prop:=
 ((DO mf s C L).2.ps=[]/\s'=s)\/((DO mf s C L).2.ps≠[]/\Hm (DO mf s C L).2.puts s'.es/\s'.tp=GK (DO mf s C L).1/\s'.tx=Hi (DO mf s C L).1/\s'.tn=s.tn+1/\s'.D=(KP s.D (DO mf s C L).2.ps).set ((s.tn+1)%2) (GQ (s.tn+1) s'.tp s'.tx))
structure Hv(s:KS):Prop where
 srt:Gi s.es
 len:s.es.length<=10000
 tp:s.tp<1536
 dl:s.D.length=1536
 pl:∀x∈s.es,∃q:Nat,x.2=(q:Int)/\q<1536
theorem Hv.env{s:KS}(h:Hv s)(cl:Bool):F4 (Je s.es cl s.tp s.D):=⟨h.srt,h.len,h.tp,h.dl,h.pl⟩
structure Ia(w:World)(stb db:Nat)(vk:Value)(s:KS)(vf vn vw ve:Value)(ps:LB)(ep:List Int):Prop where
 st:GN w stb db vk (s.tp:Nat) (s.tx:Nat) (s.tn:Nat) vf vn vw ve s.D ps ep
 sk:Sl w 350 2 vk s.es.length (Dq s.es)
 ok:∀k,Own vk k->¬GY stb db vn vw ve k
theorem Ia.below{w w':World}{stb db:Nat}{vk:Value}{s:KS}{vf vn vw ve:Value}{ps:LB}{ep:List Int}(h:Ia w stb db vk s vf vn vw ve ps ep)(a:Bw w w'):Ia w' stb db vk s vf vn vw ve ps ep:=
 ⟨h.st.below a,h.sk.kept (fun k b _=>a.block k b),h.ok⟩
theorem Ia.lo{w:World}{stb db:Nat}{vk:Value}{s:KS}{vf vn vw ve:Value}{ps:LB}{ep:List Int}(h:Ia w stb db vk s vf vn vw ve ps ep):∀k,GY stb db vn vw ve k->k<w.heap.size:=fun k e=>by
 rcases e with rfl|rfl|e|e|e
 ·exact h.st.row.lt
 ·exact h.st.disk.1.lt
 ·exact h.st.disk.2.1.1.lt e
 ·exact Sl.lt h.st.sw e
 ·exact h.st.se.lt e
theorem Ia.env{w:World}{stb db:Nat}{vk:Value}{s:KS}{vf vn vw ve:Value}{ps:LB}{ep:List Int}(h:Ia w stb db vk s vf vn vw ve ps ep)(cl:Bool):Hy w w.heap.size db stb 1 (Je s.es cl s.tp s.D):=by
 obtain⟨b,d,c,rfl⟩:=h.st.disk.2.1.1.shape;exact⟨⟨vk,(h.st.row.cell 1).trans rfl,h.sk,fun k a=>h.sk.lt a⟩,(h.st.row.cell 2).trans rfl,⟨vf,b,d,c,vw,ve,h.st.disk,fun k a=>h.st.disk.2.1.1.lt a⟩,h.st.row.lt,h.st.disk.1.lt⟩
structure I6(w:World)(tb rd:Nat)(V:NV)(Ed:NS)(vi:Value)(G:Gh)(I:LF)(CI:IB)(ch:LY->List Ek)(dv:NV)(C:NB):Prop where
 wk:I4 w tb rd V Ed vi G I CI ch dv
 ok:G0 C (Dg ch)
 dat:∀y∈Dg ch,y.k=2->∃a2 l2 c2,dv y.f = .slice a2 l2 c2/\Sl w 5 1 (.slice a2 l2 c2) l2 (Dd (C y.f))
theorem I6.below{w w':World}{tb rd:Nat}{V:NV}{Ed:NS}{vi:Value}{G:Gh}{I:LF}{CI:IB}{ch:LY->List Ek}{dv:NV}{C:NB}(h:I6 w tb rd V Ed vi G I CI ch dv C)(d:Bw w w'):I6 w' tb rd V Ed vi G I CI ch dv C:=
 ⟨⟨h.wk.tw.below d (Aa _),h.wk.ok,h.wk.gl,h.wk.il,h.wk.ch,h.wk.num⟩,h.ok,fun y f b=>by
  obtain⟨a,l,c,e,q⟩:=h.dat y f b;exact⟨a,l,c,e,q.kept (fun k b _=>d.block k b)⟩⟩
theorem RV(s:By):Hi s<18446744073709551616:=by
 have:=MY (Dt (s.extract 2 s.size) 8).data.toList;rw[Az,show(Dt (s.extract 2 s.size) 8).data.size=8 from J6 _ _]at this;exact this
section
variable{mf:Nat}{w:World}{stb db:Nat}{vk:Value}{s:KS}{vf vn vw ve:Value}{ps:LB}{ep:List Int}{tb rd:Nat}{V:NV}{Ed:NS}{vi:Value}{G:Gh}{I:LF}{CI:IB}{ch:LY->List Ek}{dv:NV}{C:NB}
theorem Ia.newPlan(h:Ia w stb db vk s vf vn vw ve ps ep)(k:Hv s)(f:∃j,j<96/\Dw s.es j<=0)(b:I6 w tb rd V Ed vi G I CI ch dv C)(cl:Bool):
  Cl 131 #[.pointer (some ⟨db,0,none⟩),.pointer (some ⟨stb,1,none⟩),.pointer (some ⟨tb,0,none⟩),.bool cl] w (OT w db stb 1 (Je s.es cl s.tp s.D) (Jg s cl C (Dg ch))):=
 ZhG w db stb 1 tb rd s.tp cl s.es s.D (k.env cl) (h.env cl) f V Ed vi G I CI ch dv b.wk C b.ok (fun y m i=>by
  obtain⟨a,l,c,e,q⟩:=b.dat y m i;exact⟨a,l,c,e,q,fun g d=>q.lt d⟩)
def MN(mf:Nat)(C:NB)(L:List It)(s s':KS)(ps ps':LB)(ep ep':List Int):Prop:=
 ((DO mf s C L).2.ps=[]/\ps'=ps/\ep'=ep++[((ps.length:Nat):Int)])\/((DO mf s C L).2.ps≠[]/\ps'=ps++(DO mf s C L).2.ps++[((s.tn+1)%2,GQ (s.tn+1) s'.tp s'.tx)]/\ep'=ep++[((ps.length+(DO mf s C L).2.ps.length:Nat):Int)]++[((ps.length+(DO mf s C L).2.ps.length+1:Nat):Int)])
def UL(mf:Nat)(w:World)(stb db:Nat)(vk:Value)(s:KS)(vf vn vw ve:Value)(ps:LB)(ep:List Int)(C:NB)(L:List It)(e:Ending)(w':World):Prop:=
 e = .returned (.tuple #[])/\∃s' vk' vw' ve' ps' ep',Ia w' stb db vk' s' vf vn vw' ve' ps' ep'/\Hw mf C L s s'/\ps'.length<=ps.length+(DO mf s C L).2.ps.length+1/\ep'.length<=ep.length+2/\Dh w vw vw'/\Dh w ve ve'/\Dh w vk vk'/\Fr (GY stb db vn vw ve) w w'/\MN mf C L s s' ps ps' ep ep'
theorem Ia.carry(h:Ia w stb db vk s vf vn vw ve ps ep)(P:Hv s)(hT:G0 C (Dg ch))(al:ps.length<=999990000)(ak:ep.length<=999999990)(Q:s.tn+1<18446744073709551616){cl:Bool}(hF:DO mf s C (Dg ch)=Jg s cl C (Dg ch))
  {X:World} (A:Bw w X) {pb:Nat} {O':Nat->Prop} (M:QE X pb db stb 1 (Je s.es cl s.tp s.D) (Jg s cl C (Dg ch)).2 (GK (Jg s cl C (Dg ch)).1:Nat) (Hi (Jg s cl C (Dg ch)).1:Nat) O') (L:∀j,O' j->w.heap.size<=j):
  Cl 133 #[.pointer (some ⟨stb,0,none⟩),.pointer (some ⟨pb,0,none⟩)] X (UL mf w stb db vk s vf vn vw ve ps ep C (Dg ch)):=by
 have m:=MV hT (Je s.es cl s.tp s.D) (P.env cl) (s.tp+1) (by have:=P.tp;omega);change IH (Jg s cl C (Dg ch)) at m;rw[<-hF]at M m;obtain⟨q,t,J,o,q2,U,W,q5⟩:=M;have u:=h.below A;have ag:=h.lo;have hw:=A.size;have N:∀k,k=pb\/Own J k\/Own q k->¬GY stb db vn vw ve k:=fun k f e=>by
  have h1:=ag k e;have h2:=L k ((q5 k).2 (by rcases f with e|e|e;exact .inl e;exact .inr (.inr e);exact .inr (.inl e)));omega
 have S:∀{Z:Nat->Prop} {w':World},Fr Z X w'->(∀k,Z k->GY stb db vn vw ve k)->Fr (GY stb db vn vw ve) w w':=fun hf d=>(Fr.of_below A).then (hf.mono (Y:=GY stb db vn vw ve) (fun k _ e=>d k e)) (fun _ _ e=>e)
 have H:∀{a b:Value},Dh X a b->Dh w a b:=fun hn g c=>(hn g c).imp id (fun e=>by omega)
 by_cases d:(DO mf s C (Dg ch)).2.ps=[]
 ·rw[d]at o;refine(ZkO X stb db pb vk _ _ _ vf vn vw ve s.D ps ep u.st db stb 1 _ cl _ q t _ _ J o (by omega) (N pb (.inl rfl))).mono ?_;rintro e w' ⟨rfl,l,v,y,z⟩;have R:∀k,(k=db\/Own ve k)->GY stb db vn vw ve k:=fun k e=>by
   rcases e with e|e
   ·exact .inr (.inl e)
   ·exact .inr (.inr (.inr (.inr e)))
  have ab:=S z R;have aj:Sl w' 350 2 vk s.es.length (Dq s.es):=u.sk.fr z (fun g c e=>h.ok g c (R g e));have ai:∀k,Own vk k->¬GY stb db vn vw l k:=fun k f e=>by
   rcases e with e|e|e|e|e
   ·exact h.ok k f (.inl e)
   ·exact h.ok k f (.inr (.inl e))
   ·exact h.ok k f (.inr (.inr (.inl e)))
   ·exact h.ok k f (.inr (.inr (.inr (.inl e))))
   ·rcases y k e with e|e
    ·exact h.ok k f (.inr (.inr (.inr (.inr e))))
    ·have:=u.sk.lt f;omega
  have af:(ep++[((ps.length:Nat):Int)]).length<=ep.length+2:=by rw[Ab];simp
  have D:Ia w' stb db vk s vf vn vw l ps (ep++[((ps.length:Nat):Int)]):=⟨v,aj,ai⟩;exact⟨rfl,s,vk,vw,l,ps,_,D,.inl ⟨d,rfl⟩,by omega,af,fun g c => .inl c,H y,fun g c => .inl c,ab,.inl ⟨d,rfl,rfl⟩⟩
 ·have ah:=m.n2;have O:0<(DO mf s C (Dg ch)).2.ps.length:=ET.2 d;obtain⟨F,i⟩:=ex (DO mf s C (Dg ch));rw[<-i]at o U W m O ah d;obtain⟨p,B⟩:=ex (GK F.1);obtain⟨x,E⟩:=ex (Hi F.1);rw[<-B,<-E]at o;obtain⟨T,n⟩:∃T,s.tn+1=T:=⟨_,rfl⟩;rw[n]at Q;refine(ZkP X stb db pb vk _ _ s.tn vf vn vw ve s.D ps ep u.st db stb 1 _ cl _ q t p x J F.2.ps o m.pl.2 O (by omega) (by omega) T n Q (by rw[B];exact Oj _) (by rw[E];exact RV _) N).mono ?_;rintro e w' ⟨rfl,aa,l,v,y,z,r4,r5,r6⟩;obtain⟨r,K⟩:=ex ((KP s.D F.2.ps).set (T%2) (GQ T p x));rw[<-K]at v;have D:Ia w' stb db q ⟨t,p,x,T,r⟩ vf vn aa l _ _:=⟨v,r5,r6⟩;have ac:Hw mf C (Dg ch) s ⟨t,p,x,T,r⟩:=by
   unfold Hw;rw[<-i];refine .inr ⟨d,⟨q2,U,W⟩,B,E,n.symm,?_⟩;rw[n];exact K
  have ad:(ps++F.2.ps++[(T%2,GQ T p x)]).length<=ps.length+(DO mf s C (Dg ch)).2.ps.length+1:=by rw[<-i];simp only[Ab,Af,Ay];omega
  have ae:(ep++[((ps.length+F.2.ps.length:Nat):Int)]++[((ps.length+F.2.ps.length+1:Nat):Int)]).length<=ep.length+2:=by simp only[Ab,Af,Ay];omega
  exact⟨rfl,_,q,aa,l,_,_,D,ac,ad,ae,H y,H z,fun g c => .inr (L g ((q5 g).2 (.inr (.inl c)))),S r4 (fun _ e=>e),.inr ⟨by rw[<-i];exact d,by rw[<-i,n],by rw[<-i]⟩⟩
theorem ZhQ(h:Ia w stb db vk s vf vn vw ve ps ep)(c:Hv s)(l:∃j,j<96/\Dw s.es j<=0)(f:I6 w tb rd V Ed vi G I CI ch dv C)(x:ps.length<=999990000)(v:ep.length<=999999990)(y:s.tn+1<18446744073709551616):
  Cl 74 #[.pointer (some ⟨stb,0,none⟩),.pointer (some ⟨tb,0,none⟩)] w (UL 512 w stb db vk s vf vn vw ve ps ep C (Dg ch)):=by
 have J:w.cell? ⟨stb,0,none⟩=some (.pointer (some ⟨db,0,none⟩)):=(h.st.row.cell 0).trans rfl;obtain⟨N,i⟩:=ex (Ky (Mg (Jg s false C (Dg ch)).2.puts) 96);have aj:N<=1536:=by rw[i];exact O4 _ _
 have B:Hid (Cl 131 #[.pointer (some ⟨db,0,none⟩),.pointer (some ⟨stb,1,none⟩),.pointer (some ⟨tb,0,none⟩),.bool false] w.drew fun e X=>∃pb,e = .returned (.pointer (some ⟨pb,0,none⟩))/\X.cell? ⟨stb,0,none⟩=some (.pointer (some ⟨db,0,none⟩))/\Hid (Cl 132 #[.pointer (some ⟨pb,100,none⟩)] X fun e Y=>e = .returned (.int .i64 (N:Nat))/\Y.cell? ⟨stb,0,none⟩=some (.pointer (some ⟨db,0,none⟩))/\
   Hid (¬N<512->Cl 133 #[.pointer (some ⟨stb,0,none⟩),.pointer (some ⟨pb,0,none⟩)] Y (UL 512 w stb db vk s vf vn vw ve ps ep C (Dg ch)))/\
   Hid (N<512->Cl 131 #[.pointer (some ⟨db,0,none⟩),.pointer (some ⟨stb,1,none⟩),.pointer (some ⟨tb,0,none⟩),.bool true] Y.drew fun e Z=>∃n,e = .returned (.pointer (some ⟨n,0,none⟩))/\Z.cell? ⟨stb,0,none⟩=some (.pointer (some ⟨db,0,none⟩))/\Hid (Cl 133 #[.pointer (some ⟨stb,0,none⟩),.pointer (some ⟨n,0,none⟩)] Z (UL 512 w stb db vk s vf vn vw ve ps ep C (Dg ch)))))):=by
  have P:Bw w w.drew:=(Ag _ _).drew;refine((h.below P).newPlan c l (f.below P) false).mono ?_;rintro e X ⟨pb,O',rfl,am,ah,F,k,hO⟩;have z:Bw w X:=⟨k.os,k.tape,k.output,k.size,k.block⟩;have a:=MV f.ok (Je s.es false s.tp s.D) (c.env false) (s.tp+1) (by have:=c.tp;omega);change IH (Jg s false C (Dg ch)) at a;refine⟨pb,rfl,((h.below z).st.row.cell 0).trans rfl,?_⟩;have ak:=F;obtain⟨U,u,vp,A,Q,R,T,q5⟩:=F;have M:Hm (Jg s false C (Dg ch)).2.puts u:=⟨Q,R,T⟩;refine(Zh1 X pb 100 U u A.cells.2.2.2.2.2.1 A.sa (M.places (by have:=a.n1;omega) a.pl.1)).mono ?_;rintro e Y ⟨rfl,H⟩;have d:Bw w Y:=z.trans (H.mono z.size);refine⟨by rw[i,M.nd],((h.below d).st.row.cell 0).trans rfl,fun g=>?_,fun g=>?_⟩
  ·refine h.carry c f.ok x v y (cl:=false) (by unfold DO;rw[<-i,if_neg g]) d (pb:=pb) (O':=O') ?_ hO;exact⟨U,u,vp,A.below H,Q,R,T,q5⟩
  ·have m:Bw w Y.drew:=⟨d.os,d.tape,d.output,d.size,d.block⟩;refine((h.below m).newPlan c l (f.below m) true).mono ?_;rintro e Z ⟨n,O2,rfl,al,ai,ac,ad,ab⟩;have O:Bw w Z:=m.trans (ad.mono m.size);refine⟨n,rfl,((h.below O).st.row.cell 0).trans rfl,?_⟩;exact h.carry c f.ok x v y (cl:=true) (by unfold DO;rw[<-i,if_pos g]) O ac (fun j l=>Ae m.size (ab j l))
 clear h c l f x v y i;go_enter Tryz.func74,Tryz.ntmps74;go_upto_region 0 with fail;refine AN (S:=fun X=>X.cell? ⟨stb,0,none⟩=some (.pointer (some ⟨db,0,none⟩))) (by kernel_rfl) J (fun E=>?_);refine tk 0 ?_;try simp only[pE];refine tk 1 ?_;try simp only[pE];refine tk 2 ?_;try simp only[pE];refine tk 3 ?_;try simp only[pE];refine tk 4 ?_;try simp only[pE];refine tk 5 ?_;try simp only[pE];refine tk 6 ?_;try simp only[pE];refine tk 7 ?_;try simp only[pE];refine rk 8 (fun K a=>?_);go_simp;go_at_call 131;refine(Da B).mono ?_;rintro e X ⟨pb,rfl,ae,q⟩;go_wp2_with fail;refine a.out _ _ ae (fun D=>?_);clear a K
 (try simp only[pE])
 refine tk 9 ?_;try simp only[pE];refine AS (by kernel_rfl) ?_ _;clear E D B J;by_cases g:N<512
 ·have ag:(N:Int)<512:=by omega
  go_upto_region 2 with(go_at_call 132;refine(Da q).mono ?_;rintro e Y ⟨rfl,L,o,p⟩);have r:=Db (Da p g);clear o p q;refine AN (S:=fun X=>X.cell? ⟨stb,0,none⟩=some (.pointer (some ⟨db,0,none⟩))) (by kernel_rfl) L (fun E=>?_);refine tk 0 ?_;try simp only[pE];refine tk 1 ?_;try simp only[pE];refine tk 2 ?_;try simp only[pE];refine tk 3 ?_;try simp only[pE];refine tk 4 ?_;try simp only[pE];refine tk 5 ?_;try simp only[pE];refine tk 6 ?_;try simp only[pE];refine tk 7 ?_;try simp only[pE];refine rk 8 (fun K a=>?_);go_simp;go_at_call 131;refine(Da r).mono ?_;rintro e Z ⟨n,rfl,af,aa⟩;go_wp2_with fail;refine a.out _ _ af (fun D=>?_);clear a K
  (try simp only[pE])
  refine tk 9 ?_;try simp only[pE];refine AS (by kernel_rfl) ?_ _;go_wp2_with (go_at_call 133;refine(Da aa).mono ?_;intro e W b;obtain rfl:=b.1;have t:=Db b;clear b)
  go_end0
  exact Da t
 ·have ag:¬(N:Int)<512:=by omega
  go_wp2_with (first|(go_at_call 132;refine(Da q).mono ?_;rintro e Y ⟨rfl,L,o,p⟩;have r:=Db (Da o g);clear o p q)|(go_at_call 133;refine(Da r).mono ?_;intro e W b;obtain rfl:=b.1;have t:=Db b;clear b))
  go_end0
  exact Da t
end
def Hr(D:LY):KS:=⟨[],15,0,0,D⟩
def FY(w:World)(vb tb:Nat):Prop:=∃d s:Nat,FH w vb 41 [.pointer (some ⟨vb,0,none⟩),.pointer (some ⟨tb,0,none⟩),.pointer (some ⟨d,0,none⟩),.pointer (some ⟨s,0,none⟩)]
theorem FY.c0{w:World}{vb tb:Nat}(h:FY w vb tb):w.cell? ⟨vb,0,none⟩=some (.pointer (some ⟨vb,0,none⟩)):=by
 obtain⟨d,s,h⟩:=h;exact(FH.cell h 0).trans rfl
theorem FY.c1{w:World}{vb tb:Nat}(h:FY w vb tb):w.cell? ⟨vb,1,none⟩=some (.pointer (some ⟨tb,0,none⟩)):=by
 obtain⟨d,s,h⟩:=h;exact(FH.cell h 1).trans rfl
theorem FY.alloc{w:World}{vb tb:Nat}(h:FY w vb tb)(o:Obj):FY (w.alloc o) vb tb:=by
 obtain⟨d,s,h⟩:=h;exact⟨d,s,FH.alloc h o⟩
theorem FY.row{w:World}{vb tb:Nat}(h:FY w vb tb):∃R,FH w vb 41 R:=by
 obtain⟨d,s,h⟩:=h;exact⟨_,h⟩
theorem FY.fr{w w':World}{vb tb:Nat}{X:Nat->Prop}(h:FY w vb tb)(b:Fr X w w')(a:¬X vb):FY w' vb tb:=by
 obtain⟨d,s,h⟩:=h;exact⟨d,s,FH.fr h b a⟩
theorem XU(a:Addr)(w:World):(binOp .eql 25 (.pointer (some a)) (.pointer (some a))).run Tryz.prog w = .ok (.bool true) w:=by
 obtain⟨j,b⟩:∃j,Tryz.prog.info? 41=some j:=Option.isSome_iff_exists.1 (by kernel_rfl);exact run_eql_ptr_same w a Tryz.underlying25 b
theorem Um(w:World)(vb tb:Nat)(h:FY w vb tb):Cl 53 #[.pointer (some ⟨vb,0,none⟩)] w fun e w'=>e = .returned (.bool true)/\w'=w:=by
 have h0:w.cell? ⟨vb,0,none⟩=some (.pointer (some ⟨vb,0,none⟩)):=FY.c0 h;have hq:=XU;go_enter Tryz.func53,Tryz.ntmps53;go_wp2;go_ret;exact⟨rfl,rfl⟩
theorem Lr(w:World)(vb tb:Nat)(h:FY w vb tb)(Q:Ending->World->Prop)(a:∀e w',Q e w'->∃n:Int,e = .returned (.int .i64 n))
  (d:Cl 82 #[.pointer (some ⟨tb,0,none⟩)] w Q):Cl 34 #[.pointer (some ⟨vb,0,none⟩)] w Q:=by
 have f:=Um w vb tb h;have h1:w.cell? ⟨vb,1,none⟩=some (.pointer (some ⟨tb,0,none⟩)):=FY.c1 h;have c:=Db a;clear a h;go_enter Tryz.func34,Tryz.ntmps34;go_wp2_with (go_at_call 53;refine f.mono ?_;rintro e w' ⟨rfl,rfl⟩);refine d.mono ?_;intro e w1 b;obtain⟨n,rfl⟩:=Da c e w1 b;go_wp2;exact b
theorem L8(w:World)(vb tb:Nat)(h:FY w vb tb)(p:By)(i n:Int)(Q:Ending->World->Prop)(b:∀e w',Q e w'->∃a n c k,e = .returned (.tuple #[.slice a n c,.int .i64 k]))
  (g:Cl 119 #[.pointer (some ⟨tb,0,none⟩),.string p,.int .i64 i,.int .i64 n] w Q):Cl 55 #[.pointer (some ⟨vb,0,none⟩),.string p,.int .i64 i,.int .i64 n] w Q:=by
 have j:=Um w vb tb h;have h1:w.cell? ⟨vb,1,none⟩=some (.pointer (some ⟨tb,0,none⟩)):=FY.c1 h;have f:=Db b;clear b h;go_enter Tryz.func55,Tryz.ntmps55;go_wp2_with (go_at_call 53;refine j.mono ?_;rintro e w' ⟨rfl,rfl⟩);refine g.mono ?_;intro e w1 d;obtain⟨a,n,c,k,rfl⟩:=Da f e w1 d;go_wp2;exact d
theorem Lj(w:World)(vb tb:Nat)(h:FY w vb tb)(p:By)(Q:Ending->World->Prop)(b:∀e w',Q e w'->∃a n c k,e = .returned (.tuple #[.slice a n c,.int .i64 k]))
  (g:Cl 120 #[.pointer (some ⟨tb,0,none⟩),.string p] w Q):Cl 56 #[.pointer (some ⟨vb,0,none⟩),.string p] w Q:=by
 have i:=Um w vb tb h;have h1:w.cell? ⟨vb,1,none⟩=some (.pointer (some ⟨tb,0,none⟩)):=FY.c1 h;have f:=Db b;clear b h;go_enter Tryz.func56,Tryz.ntmps56;go_wp2_with (go_at_call 53;refine i.mono ?_;rintro e w' ⟨rfl,rfl⟩);refine g.mono ?_;intro e w1 d;obtain⟨a,n,c,k,rfl⟩:=Da f e w1 d;go_wp2;exact d
theorem L3(w:World)(vb tb:Nat)(h:FY w vb tb)(p:By)(Q:Ending->Prop)(m:∀e,Q e->∃a b c d k,e = .returned (.tuple #[.agg #[.string a,.bool b,.int .i64 c,.int .i64 d],.int .i64 k]))
  (n:∀W,Bw w W->Cl 121 #[.pointer (some ⟨tb,0,none⟩),.string p] W fun e w'=>Q e/\Bw W w'):
  Cl 57 #[.pointer (some ⟨vb,0,none⟩),.string p] w fun e w'=>Q e/\Bw w w':=by
 have i:∀o,Bw w (w.alloc o):=fun o=>(Ag _ _).alloc (Aa _) o
 have r:=fun o=>Um (w.alloc o) vb tb (FY.alloc h o)
 have u:=fun o=>(FY.c1 (FY.alloc h o):(w.alloc o).cell? ⟨vb,1,none⟩=some (.pointer (some ⟨tb,0,none⟩)))
 have l:=Db (Jj w [.string ⟨#[]⟩,.bool false,.int .i64 0,.int .i64 0] 112);have q:=fun o=>n _ (i o)
 have t:=Db m;clear m h n;go_enter Tryz.func57,Tryz.ntmps57;go_wp2_with (go_at_call 53;refine(r _).mono ?_;rintro e w' ⟨rfl,rfl⟩);refine(q _).mono ?_;rintro e w1 ⟨s,j⟩;obtain⟨a,b,c,d,k,rfl⟩:=Da t e s;have x:Bw w w1:=(i _).trans (j.mono (by simp));have f:FH w1 w.heap.size 112 _:=(j.block _ (by simp)).trans (Da l);clear q i j l r u;have b0:=f.cell 0;have b1:=f.cell 1;have b2:=f.cell 2;have b3:=f.cell 3;have g0:=f.frozen 0;have g1:=f.frozen 1;have g2:=f.frozen 2;have g3:=f.frozen 3;go_wp2;have g:=JQ f (.string a) (.bool b) (.int .i64 c) (.int .i64 d);have y:=g.cell 0;have z:=g.cell 1;have A:=g.cell 2;have B:=g.cell 3;exact Aq (v := .tuple #[.agg #[.string a,.bool b,.int .i64 c,.int .i64 d],.int .i64 k]) (by simp[results,Tryz.results57,go_sem,y,z,A,B]) rfl
   ⟨s,K6 x (Aa _) _ _ _ _⟩
def Wt(w:World)(e:Ending)(w':World):Prop:=
 ∃tb,e = .returned (.pointer (some ⟨tb,0,none⟩))/\w.heap.size<tb/\PS w' tb [] [] (fun _=>⟨#[]⟩)/\Bw w w'/\∃rb vi,FH w' tb 214 [.pointer (some ⟨rb,0,none⟩),vi]/\FH w' rb 229 [.slice none 0 0]
theorem Y8(w:World)(l:Gk w):Cl 95 #[] w (Wt w):=by
 go_enter Tryz.func95,Tryz.ntmps95;go_wp2;go_ret;have i:Bw w ((w.alloc (.cells #[.slice none 0 0] 229)).alloc (.cells #[.pointer (some ⟨w.heap.size,0,none⟩),.slice none 0 0] 214)):=((Ag _ w).alloc (Aa _) _).alloc (by simp) _;refine⟨_,rfl,by simp,⟨w.heap.size,fun _ => .slice none 0 0,fun _=>[],.slice none 0 0,?_,?_,?_,?_,?_,?_,by simp,fun g e=>by simp[Value.ownBlock]at e⟩,i,w.heap.size,.slice none 0 0,?_,(Jj w [.slice none 0 0] 229).alloc _⟩
 ·exact l.fr (X:=fun _=>False) (Fr.of_below i) id
 ·have:=Jj (w.alloc (.cells #[.slice none 0 0] 229)) [.pointer (some ⟨w.heap.size,0,none⟩),.slice none 0 0] 214;rw[show(w.alloc (.cells #[.slice none 0 0] 229)).heap.size=w.heap.size+1 by simp]at this;exact this
 ·have m:FH ((w.alloc (.cells #[.slice none 0 0] 229)).alloc (.cells #[.pointer (some ⟨w.heap.size,0,none⟩),.slice none 0 0] 214)) w.heap.size 229 [.slice none 0 0]:=(Jj w [.slice none 0 0] 229).alloc _;have c:∀ns b,FI [] w.heap.size ns b->ns=[]/\b=w.heap.size:=fun ns b h=>h.elim id (fun h=>by cases h)
  refine⟨fun x f=>(by cases f),fun ns b h=>?_,fun ns b h=>⟨rfl,.inl ⟨rfl,rfl⟩⟩,fun ns b h=>?_,fun ns b h=>?_,fun ns n b h d=>(c _ _ h).1.trans (c _ _ d).1.symm,fun ns n b b' g h d _ _=>(c _ _ h).2.trans (c _ _ d).2.symm,fun ns b h=>⟨Fd (c _ _ h).2.symm,fun g e=>by simp[Value.ownBlock]at e⟩⟩
  ·obtain⟨-,rfl⟩:=c _ _ h;exact m
  ·exact fun j k x y _ h=>by simp at h
  ·intro a s;simp
 ·exact⟨rfl,.inl ⟨rfl,rfl⟩⟩
 ·exact fun j k x y _ h=>by simp at h
 ·intro x f
  cases f
 ·have:=Jj (w.alloc (.cells #[.slice none 0 0] 229)) [.pointer (some ⟨w.heap.size,0,none⟩),.slice none 0 0] 214;rw[show(w.alloc (.cells #[.slice none 0 0] 229)).heap.size=w.heap.size+1 by simp]at this;exact this
def I5(w:World)(vb tb db stb:Nat):Prop:=FH w vb 41 [.pointer (some ⟨vb,0,none⟩),.pointer (some ⟨tb,0,none⟩),.pointer (some ⟨db,0,none⟩),.pointer (some ⟨stb,0,none⟩)]
theorem I5.vol{w:World}{vb tb a b:Nat}(h:I5 w vb tb a b):FY w vb tb:=⟨a,b,h⟩
theorem ZfR(w:World)(tb b c:Nat):Cl 77 #[.pointer (some ⟨tb,0,none⟩),.pointer (some ⟨b,0,none⟩),.pointer (some ⟨c,0,none⟩)] w fun e w'=>e = .returned (.pointer (some ⟨w.heap.size,0,none⟩))/\I5 w' w.heap.size tb b c/\Bw w w'/\w.heap.size<w'.heap.size:=by
 obtain⟨W,j,a,k,f,d⟩:=De w [.pointer none,.pointer (some ⟨tb,0,none⟩),.pointer (some ⟨b,0,none⟩),.pointer (some ⟨c,0,none⟩)] 41;go_enter Tryz.func77,Tryz.ntmps77;go_upto_region 2 with fail;have b0:=a.cell 0;have g0:=a.frozen 0;have i:=Db a;have g:=Db d;have h:=Db f;clear j k d a f;go_wp2;go_ret;exact⟨rfl,(Da i).set 0 _,(Da g).setCell (p:=⟨w.heap.size,0,none⟩) (Aa _) _,by have:=Da h;simp[World.setCell];omega⟩
def JT(tb:Nat)(w:World)(k:Nat):Prop:=(∃t R,FH w k t R/\(t=214\/t=229\/t=310\/t=293\/t=89\/t=103\/t=9))/\tb<=k+1
structure MK(w:World)(tb rb:Nat)(vl vf:Value)(L:List (By×Int))(F:LY):Prop extends FN w rb vl vf L F where
 lo:∀k,Jb rb vl vf k->tb<=k+1
def Md(w:World)(vb tb rb:Nat)(L:List (By×Int))(F:LY)(L':List (By×Int))(F':LY):Prop:=
 ∃G I C ρ vl vf,FY w vb tb/\PS w tb G I C/\MK w tb rb vl vf L F/\Rl G I C ρ L' F'/\cD G []+I.length<=60
section
variable{w w':World}{vb tb rb:Nat}{L L' L1:List (By×Int)}{F F' F1:LY}{G G':Gh}{I I':LF}{C C':IB}{ρ ρ':Int->Nat}{vl vf:Value}
theorem PL(h:FN w rb vl vf L F){k:Nat}(a:Jb rb vl vf k):∃t R,FH w k t R/\(t=89\/t=103\/t=9):=by
 rcases a with rfl|a|a
 ·exact⟨_,_,h.hd,.inl rfl⟩
 ·obtain⟨R,b⟩:=h.sl.type a;exact⟨_,_,b,.inr (.inl rfl)⟩
 ·obtain⟨R,b⟩:=h.sf.type a;exact⟨_,_,b,.inr (.inr rfl)⟩
theorem PS.fr{X:Nat->Prop}(h:PS w tb G I C)(c:Fr X w w')(a:¬X 0)(b:∀k t R,X k->FH w k t R->t≠214/\t≠229/\t≠310/\t≠293/\t≠5):PS w' tb G I C:=by
 obtain⟨d,V,E,e,h⟩:=h;exact⟨d,V,E,e,h.fr c a b⟩
theorem Md.ref(j:FY w vb tb)(g:PS w tb G I C)(d:MK w tb rb vl vf L F)(s:Rl G I C ρ L' F')(q:cD G []+I.length<=60)(r:FK w rb vl vf w' L1 F1):Fr (JT tb w) w w'/\Md w' vb tb rb L1 F1 L' F':=by
 obtain⟨y,x,m,c,n⟩:=r;have i:∀k t R,Jb rb vl vf k->FH w k t R->t=89\/t=103\/t=9:=fun k t R a b=>by
  obtain⟨t',l,o,u⟩:=PL d.toFN a;have:=b.type o;subst this;exact u
 refine⟨⟨c.os,c.tape,c.output,c.size,fun k a p=>c.block k a (fun f=>?_)⟩,G,I,C,ρ,y,x,?_,?_,⟨m,fun k a=>(n k a).elim (d.lo k) (fun h=>by have:=d.hd.lt;have:=d.lo rb (.inl rfl);omega)⟩,s,q⟩
 ·obtain⟨t,R,b,e⟩:=PL d.toFN f;exact p ⟨⟨t,R,b,by rcases e with h|h|h<;>simp[h]⟩,d.lo k f⟩
 ·refine FY.fr j c (fun a=>?_);obtain⟨l,v⟩:=j.row;have:=i _ _ _ a v
  revert this;decide
 ·refine g.fr c (fun a=>?_) (fun k t R a b=>?_)
  ·obtain⟨t,R,b,e⟩:=PL d.toFN a;obtain⟨rd,V,E,vi,h⟩:=g;have:=h.pk.2 t R b;subst this
   revert e;decide
  ·rcases i k t R a b with rfl|rfl|rfl<;>decide
theorem Md.below(h:Md w vb tb rb L F L' F')(b:Bw w w'):Md w' vb tb rb L F L' F':=by
 obtain⟨G,I,C,ρ,vl,vf,f,d,a,e,c⟩:=h;exact(Md.ref f d a e c (FK.same a.toFN b)).2
end
section
variable{w:World}{vb tb rb:Nat}{L:List (By×Int)}{F:LY}
theorem L9(h:Md w vb tb rb L F L F)(p:By)(z:p.size<=2000000)(i n:Int)(t:i<=9223372036854775807)(v:n<=9223372036854775807):
  Cl 55 #[.pointer (some ⟨vb,0,none⟩),.string p,.int .i64 i,.int .i64 n] w fun e w'=>(∃a m c,e = .returned (.tuple #[.slice a m c,.int .i64 (Jw L F p i n).2])/\m=(Jw L F p i n).1.size/\Sl w' 5 1 (.slice a m c) m (Dd (Jw L F p i n).1))/\Bw w w':=by
 obtain⟨G,I,C,ρ,vl,vf,D,⟨H,V,E,J,A⟩,ad,b,ac⟩:=h;have aa:=b.lG;have ab:=b.lI;refine(L8 w vb tb D p i n (N8 w G C p i n) (fun e w' g=>?_) (Zkl w tb H V E J G I C A b.ok (by omega) (by omega) b.flOk b.C_le p z i n t v)).mono ?_
 ·rcases g with⟨⟨_,f⟩|⟨_,u,_,_,x,m,f,_⟩,_⟩
  ·exact⟨_,_,_,_,f⟩
  ·exact⟨_,_,_,_,f⟩
 rintro e w' ⟨g,s⟩;obtain⟨j,o,q⟩:=b.readE p i n;refine⟨?_,s⟩;rcases g with⟨y,rfl⟩|⟨l,u,r,B,x,m,rfl,_,k⟩
 ·rw[o y,<-j];exact⟨none,0,0,rfl,rfl,rfl,.inl ⟨rfl,rfl⟩⟩
 ·rw[<-j,l,q l u r B];refine⟨_,_,_,rfl,?_,k⟩;have d:=k.1;unfold Dd at d;simp at d;exact d.symm
theorem L4(h:Md w vb tb rb L F L F)(p:By)(x:p.size<=2000000):
  Cl 57 #[.pointer (some ⟨vb,0,none⟩),.string p] w fun e w'=>e = .returned (.tuple #[(JR L F p).1,.int .i64 (JR L F p).2])/\Bw w w':=by
 obtain⟨G,I,C,ρ,vl,vf,j,⟨A,V,E,B,z⟩,ad,i,ac⟩:=h;have aa:=i.lG;have ab:=i.lI;obtain⟨m,r,s⟩:=i.statE p;have q:∀e W f,N9 W G I p e f->e = .returned (.tuple #[(JR L F p).1,.int .i64 (JR L F p).2])/\∃a b c d k,e = .returned (.tuple #[.agg #[.string a,.bool b,.int .i64 c,.int .i64 d],.int .i64 k]):=by
  rintro e W f ⟨⟨t,rfl⟩|⟨o,v,j,rfl⟩,_⟩
  ·refine⟨by rw[r t,<-m],?_⟩;unfold Kw;exact⟨_,_,_,_,_,rfl⟩
  ·refine⟨by rw[s o v j,<-m,o],?_⟩;rcases j with⟨_,rfl⟩|⟨ds,n,u,_,_,y⟩
   ·exact⟨_,_,_,_,_,rfl⟩
   ·obtain⟨b,c,d,rfl⟩:=PN y;exact⟨_,_,_,_,_,rfl⟩
 refine(L3 w vb tb j p (fun e=>∃W f,N9 W G I p e f) (fun e ⟨W,f,g⟩=>(q e W f g).2) (fun W l=>(Zkg W tb A V E B G I C (z.below l (Aa _)) i.ok (by omega) (by omega) i.flOk p x).mono (fun e f g=>⟨⟨W,f,g⟩,g.2⟩))).mono ?_;rintro e w' ⟨⟨W,f,g⟩,l⟩;exact⟨(q e W f g).1,l⟩
theorem Ls(h:Md w vb tb rb L F L F):
  Cl 34 #[.pointer (some ⟨vb,0,none⟩)] w fun e w'=>e = .returned (.int .i64 (Kn L F:Nat))/\Bw w w':=by
 obtain⟨G,I,C,ρ,vl,vf,j,⟨rd,V,E,k,b⟩,ac,a,ab⟩:=h;have aa:=a.lI;have f:=a.C_le;have g:∀x∈I,x.2.l<=2000000:=fun x d=>by rw[a.l_eq x d];have:=f x d;omega
 have c:=a.num.usage;rw[<-Ot]at c;rw[<-c];exact Lr w vb tb j _ (fun e w' i=>⟨_,i.1⟩) (VD w tb _ k I b.t b.i (by omega) g)
end
theorem QU(n:Int)(w:World):Cl 16 #[.int .i64 n] w fun e w'=>e = .returned (.int .i64 n)/\w'=w:=by
 go_enter Tryz.func16,Tryz.ntmps16;go_wp2;go_ret;exact⟨rfl,rfl⟩
structure Jf(L:List (By×Int))(F:LY):Prop where
 len:L.length<=100
 fv:∀x∈L,x.2<F.length
 ok:∀x∈L,Df x.1=true
 un:∀(i j:Nat) x y,L[i]?=some x->L[j]?=some y->x.1=y.1->i=j
theorem Rl.jf{G:Gh}{I:LF}{C:IB}{ρ : Int->Nat}{L:List (By×Int)}{F:LY}(h:Rl G I C ρ L F):Jf L F:=by
 refine⟨by rw[h.lL];exact h.lG,fun x c=>?_,fun x c=>?_,fun i j x y c d m=>?_⟩
 ·rw[h.eqL]at c;obtain⟨y,d,rfl⟩:=A2.1 c;show DF ρ y.2<_;unfold DF
  split
  ·omega
  ·rename_i p;obtain⟨r,q⟩:=h.fl y d (by simpa using p);have:=h.num.lt _ q;simp only at this;omega
 ·rw[h.eqL]at c;obtain⟨y,d,rfl⟩:=A2.1 c;exact Xu (h.ok.nms y d) (h.ok.ne y d) (h.ok.le y d)
 ·rw[h.eqL,Be]at c d;obtain⟨a,f,rfl⟩:=BJ.1 c;obtain⟨b,g,rfl⟩:=BJ.1 d;have e:=Ua (h.ok.nms a (An f)) (h.ok.nms b (An g)) m;obtain⟨n,k⟩:=Ad.1 f;obtain⟨o,l⟩:=Ad.1 g;exact(List.getElem_inj (h₀ := by simpa using n) (h₁ := by simpa using o) h.ok.nd).1 (by simp[k,l,e])
theorem Md.jf{w:World}{vb tb rb:Nat}{L L':List (By×Int)}{F F':LY}(h:Md w vb tb rb L F L' F'):Jf L' F':=by
 obtain⟨G,I,C,ρ,vl,vf,hv,aa,ab,a,hn⟩:=h;exact a.jf
def Km(w:World)(xb vb rb:Nat)(kp ep fs:Value):Prop:=FH w xb 55 [.pointer (some ⟨vb,0,none⟩),.pointer (some ⟨rb,0,none⟩),kp,ep,fs]
structure K1(w W:World)(vb tb rb xb:Nat)(kp ep fs:Value)(ob:Nat)(O:LV)(L:List (By×Int))(F:LY)(L':List (By×Int))(F':LY):Prop where
 fr:Fr (JT tb w) w W
 md:Md W vb tb rb L F L' F'
 x:Km W xb vb rb kp ep fs
 o:FH W ob 51 O
section
variable{w W W':World}{vb tb rb xb ob:Nat}{kp ep fs:Value}{O:LV}{L L' L1:List (By×Int)}{F F' F1:LY}
theorem FH.jt{tb:Nat}{t:TypeId}{R:LV}{k:Nat}(h:FH W k t R)(b:Fr (JT tb W) W W')(c:¬(t=214\/t=229\/t=310\/t=293\/t=89\/t=103\/t=9)):FH W' k t R:=
 h.fr b (fun ⟨⟨t',R',a,d⟩,_⟩=>c (by rw[h.type a];exact d))
theorem K1.c0(h:K1 w W vb tb rb xb kp ep fs ob O L F L' F'):W.cell? ⟨xb,0,none⟩=some (.pointer (some ⟨vb,0,none⟩)):=(FH.cell h.x 0).trans rfl
theorem K1.c1(h:K1 w W vb tb rb xb kp ep fs ob O L F L' F'):W.cell? ⟨xb,1,none⟩=some (.pointer (some ⟨rb,0,none⟩)):=(FH.cell h.x 1).trans rfl
theorem K1.begin(c:Km w xb vb rb kp ep fs)(b:Md w vb tb rb L F L F)(O:LV):K1 w (w.alloc (.cells O.toArray 51)) vb tb rb xb kp ep fs w.heap.size O L F L F:=by
 have a:Bw w (w.alloc (.cells O.toArray 51)):=(Ag _ _).alloc (Aa _) _;exact⟨Fr.of_below a,b.below a,FH.jt (tb:=tb) c (Fr.of_below a) (by decide),Jj w O 51⟩
end
abbrev Mc(k kk a b:Int)(s t u:By):LV:=[.int .i64 k,.int .i64 kk,.int .i64 a,.int .i64 b,.string s,.string t,.string u]
theorem Mr(s:By)(b:Bool)(c d:Int)(w:World):(binOp .eql 112 (.agg #[.string s,.bool b,.int .i64 c,.int .i64 d]) (.agg #[.string s,.bool b,.int .i64 c,.int .i64 d])).run Tryz.prog w = .ok (.bool true) w:=by
 go_simp
theorem ZiF(L:List (By×Int))(F:LY)(p:By):∃s b c d,(JR L F p).1 = .agg #[.string s,.bool b,.int .i64 c,.int .i64 d]:=by
 unfold JR Kw KA
 (repeat' split)<;>exact⟨_,_,_,_,rfl⟩
theorem YR(w:World)(vb tb o t:Nat)(kp ep fs:Value)(L:List (By×Int))(F:LY)(O:Km w t vb o kp ep fs)(r:Md w vb tb o L F L F)(s:By)(hs:s.size<=2000000):
  Cl 50 #[.pointer (some ⟨t,0,none⟩),.string s] w fun e w'=>e = .returned (.bool true)/\Bw w w':=by
 have ac:=r.jf;have x0:w.cell? ⟨t,0,none⟩=some (.pointer (some ⟨vb,0,none⟩)):=(FH.cell O 0).trans rfl;have i:=L4 r s (by omega);have P:Hid (∀W,Bw w W->Cl 111 #[.pointer (some ⟨o,0,none⟩),.string s] W fun e w'=>e = .returned (.tuple #[(JR L F s).1,.int .i64 (JR L F s).2])/\Bw W w'):=fun W J=>by
  obtain⟨G,I,C,ρ,vl,vf,hv,al,ai,am,N⟩:=r.below J;exact YS W o vl vf L F ai.toFN ac.fv s (by omega)
 have HX:Hid (∀W,Bw w W->W.cell? ⟨t,1,none⟩=some (.pointer (some ⟨o,0,none⟩))):=fun W J=>((FH.fr O (X:=fun _=>False) (Fr.of_below J) id).cell 1).trans rfl
 obtain⟨d,f,g,h,af⟩:=ZiF L F s;obtain⟨n,N⟩:=ex ((JR L F s).2);rw[af,<-N]at i P;clear af N O r ac;go_enter Tryz.func50,Tryz.ntmps50;go_wp2_with fail;refine i.mono ?_;rintro e w1 ⟨rfl,K⟩;clear i;obtain⟨W,hW,b,hk,aj,aa⟩:=De w1 [.string ⟨#[]⟩,.bool false,.int .i64 0,.int .i64 0] 112;have U:Bw w W:=K.trans (aa.mono K.size);have A:=b.cell 0;have B:=b.cell 1;have D:=b.cell 2;have E:=b.cell 3;have v:=b.frozen 0;have x:=b.frozen 1;have y:=b.frozen 2;have z:=b.frozen 3;go_upto_region 2 with fail;have q:=JQ b (.string d) (.bool f) (.int .i64 g) (.int .i64 h);have l:=K6 U K.size (.string d) (.bool f) (.int .i64 g) (.int .i64 h);obtain⟨p,S⟩:=ex (((((W.setCell ⟨w1.heap.size,0,none⟩ (.string d)).setCell ⟨w1.heap.size,1,none⟩ (.bool f)).setCell ⟨w1.heap.size,2,none⟩ (.int .i64 g)).setCell ⟨w1.heap.size,3,none⟩ (.int .i64 h)));rw[<-S]at q l ⊢;have ae:=q.lt;clear S hW b hk aj aa U A B D E v x y z x0;have x1:=Da HX p l;have i:=Da P p l;go_wp2_with fail;refine i.mono ?_;rintro e a ⟨rfl,V⟩;clear i;have M:Bw w a:=l.trans (V.mono l.size);have H:FH a w1.heap.size 112 _:=(V.block _ ae).trans q;obtain⟨u,ag,c,ad,ak,ab⟩:=De a [.string ⟨#[]⟩,.bool false,.int .i64 0,.int .i64 0] 112;have R:=ad _ _ _ H;have Y:Bw w u:=M.trans (ab.mono M.size);have ah:=H.lt;have A:=c.cell 0;have B:=c.cell 1;have D:=c.cell 2;have E:=c.cell 3;have v:=c.frozen 0;have x:=c.frozen 1;have y:=c.frozen 2;have z:=c.frozen 3;go_upto_region 3 with fail;have j:=JQ c (.string d) (.bool f) (.int .i64 g) (.int .i64 h);have Z:=K6 Y M.size (.string d) (.bool f) (.int .i64 g) (.int .i64 h);have m:a.heap.size≠w1.heap.size:=by omega
 have k:FH ((((u.setCell ⟨a.heap.size,0,none⟩ (.string d)).setCell ⟨a.heap.size,1,none⟩ (.bool f)).setCell ⟨a.heap.size,2,none⟩ (.int .i64 g)).setCell ⟨a.heap.size,3,none⟩ (.int .i64 h)) w1.heap.size 112 [.string d,.bool f,.int .i64 g,.int .i64 h]:=
  (((R.setOther _ _ m).setOther _ _ m).setOther _ _ m).setOther _ _ m
 obtain⟨Q,T⟩:=ex (((((u.setCell ⟨a.heap.size,0,none⟩ (.string d)).setCell ⟨a.heap.size,1,none⟩ (.bool f)).setCell ⟨a.heap.size,2,none⟩ (.int .i64 g)).setCell ⟨a.heap.size,3,none⟩ (.int .i64 h)));rw[<-T]at j Z k ⊢;clear T ag c ad ak ab Y A B D E v x y z x1 R H q m ae ah;have a0:=j.cell 0;have a1:=j.cell 1;have a2:=j.cell 2;have a3:=j.cell 3;have c0:=k.cell 0;have c1:=k.cell 1;have c2:=k.cell 2;have c3:=k.cell 3;have hq:=Mr d f g h;go_wp2_with (go_at_call 16;refine(QU _ _).mono ?_;rintro e w2 ⟨rfl,rfl⟩);go_ret;exact⟨rfl,Z⟩
theorem OC{W:World}{a:OA}{m c:Nat}{s:By}(h:Sl W 5 1 (.slice a m c) m (Dd s))(d:m=s.size):(convert 59 9 (.slice a m c)).run Tryz.prog W = .ok (.string s) W:=by
 rcases h.2 with⟨e,h0⟩|⟨g,aa,R,e,j,ac,ab,hl,k⟩
 ·simp only[BI]at e;obtain⟨rfl,rfl,rfl⟩:=e;rw[Go.Lib.run_convert_nil_bytes W 59 9 5 0 Tryz.underlying59 Tryz.underlying5 Tryz.underlying9]
  congr 2
  apply ByteArray.ext;exact(Array.size_eq_zero_iff.1 d.symm).symm
 ·simp only[BI]at e;obtain⟨rfl,-,rfl⟩:=e;subst d;refine Go.Lib.run_convert_whole W 59 5 9 Tryz.underlying59 Tryz.underlying5 Tryz.underlying9 g 0 s (fun i f=>?_) c;rw[Au,j.cell];have b:(R.take (s.size*1))[i]?=(Dd s)[i]? := by rw[k]
  rw[List.getElem?_take_of_lt (by omega)]at b;rw[b];unfold Dd;rw[Be,Array.getElem?_toList,Array.getElem?_eq_getElem f]
  rfl
def MS(w:World)(e:Ending)(w':World):Prop:=(∃a n c,e = .returned (.tuple #[.slice a n c,.bool true]))/\Bw w w'
theorem YH(w:World)(vb tb l d:Nat)(kp ep fs:Value)(L:List (By×Int))(F:LY)(y:Km w d vb l kp ep fs)(j:Md w vb tb l L F L F)(k o a b:Int)(J:a<=9223372036854775807)(K:b<=9223372036854775807)(s t u:By)(hs:s.size<=2000000):
  Cl 51 #[.pointer (some ⟨d,0,none⟩),.agg (Mc k o a b s t u).toArray] w (MS w):=by
 have Q:=j.jf;have r:Bw w (w.alloc (.cells (Mc k o a b s t u).toArray 51)):=(Ag _ _).alloc (Aa _) _;have i:=K1.begin y j (Mc k o a b s t u);have z:Hid (∀W,Bw w W->Cl 55 #[.pointer (some ⟨vb,0,none⟩),.string s,.int .i64 a,.int .i64 b] W fun e w'=>(∃x m c,e = .returned (.tuple #[.slice x m c,.int .i64 (Jw L F s a b).2])/\m=(Jw L F s a b).1.size/\Sl w' 5 1 (.slice x m c) m (Dd (Jw L F s a b).1))/\Bw W w'):=fun W v=>
  L9 (j.below v) s (by omega) a b J K
 have B:Hid (∀W,Bw w W->Cl 112 #[.pointer (some ⟨l,0,none⟩),.string s,.int .i64 a,.int .i64 b] W fun e w'=>e = .returned (.tuple #[.string (Jw L F s a b).1,.int .i64 (Jw L F s a b).2])/\Bw W w'):=fun W v=>by
  obtain⟨G,I,C,ρ,vl,vf,hv,ae,ab,af,hn⟩:=j.below v;exact YI W l vl vf L F ab.toFN Q.fv s (by omega) a b J K
 have ad:=FH.lt y;obtain⟨R,D⟩:=ex (Jw L F s a b);rw[<-D]at z B;clear D y j Q;go_enter Tryz.func51,Tryz.ntmps51;obtain⟨W,H,-,-,T,-⟩:=De w (Mc k o a b s t u) 51;rw[H]at i r;have V:=i.o.cell 2;have X:=i.o.cell 3;have Y:=i.o.cell 4;have x0:=i.c0;have x1:=i.c1;have g:=Db T;have A:=Db r;clear i r T;go_upto_region 1 with fail;clear H
 go_region_held3 (fun W=>W.cell? ⟨d,0,none⟩=some (.pointer (some ⟨vb,0,none⟩))/\W.cell? ⟨w.heap.size,4,none⟩=some (.string s)/\W.cell? ⟨w.heap.size,2,none⟩=some (.int .i64 a)/\W.cell? ⟨w.heap.size,3,none⟩=some (.int .i64 b)) (go_keep)
  (first|(go_at_call 55;refine(Da z _ (Da A).drew).mono ?_;rintro e w1 ⟨⟨x,m,c,rfl,S,E⟩,M⟩;have f:Bw W w1:=(Ag _ _).drew.trans M;have HS:=Db E;have HM:=Db S;have y2:=(f.cell (p:=⟨w.heap.size,2,none⟩) (by rw[Da g];simp)).trans V;have y3:=(f.cell (p:=⟨w.heap.size,3,none⟩) (by rw[Da g];simp)).trans X;have y4:=(f.cell (p:=⟨w.heap.size,4,none⟩) (by rw[Da g];simp)).trans Y;have z0:=(f.cell (p:=⟨d,0,none⟩) (by rw[Da g];show d<_;omega)).trans x0;have z1:=(f.cell (p:=⟨d,1,none⟩) (by rw[Da g];show d<_;omega)).trans x1;have N:Bw w w1:=(Da A).trans (f.mono (by rw[Da g];omega));have q:=Db N;have U:w.heap.size+1<=w1.heap.size:=(by rw[<-Da g];exact f.size);have n:=Db U;clear U E S M f N))
 clear x0 x1 V X Y;go_upto_region 2 with fail
 go_region_held3 (fun W=>W.cell? ⟨d,1,none⟩=some (.pointer (some ⟨l,0,none⟩))/\W.cell? ⟨w.heap.size,4,none⟩=some (.string s)/\W.cell? ⟨w.heap.size,2,none⟩=some (.int .i64 a)/\W.cell? ⟨w.heap.size,3,none⟩=some (.int .i64 b)) (go_keep)
  (first|(go_at_call 112;refine(Da B _ (Da q).drew).mono ?_;rintro e Z ⟨rfl,O⟩;have h:Bw w1 Z:=(Ag _ _).drew.trans O;have ac:=OC ((Da HS).kept (fun k hk _=>h.block k hk)) (Da HM);have P:Bw w Z:=(Da q).trans (h.mono (Da q).size);have aa:=Db P;have q1:=(h.cell (p:=⟨d,1,none⟩) (by have:=Da n;show d<_;omega)).trans z1;have q2:=(h.cell (p:=⟨w.heap.size,2,none⟩) (by have:=Da n;show w.heap.size<_;omega)).trans y2;have q3:=(h.cell (p:=⟨w.heap.size,3,none⟩) (by have:=Da n;show w.heap.size<_;omega)).trans y3;have q4:=(h.cell (p:=⟨w.heap.size,4,none⟩) (by have:=Da n;show w.heap.size<_;omega)).trans y4;clear O h P))
 clear z0 z1 y2 y3 y4;go_wp2_with (go_at_call 16;refine(QU _ _).mono ?_;rintro e w4 ⟨rfl,rfl⟩)
 go_ret2
 exact⟨⟨_,_,_,rfl⟩,Da aa⟩

section
variable{w w':World}{vb tb rb B:Nat}{L L' L1:List (By×Int)}{F F' F1:LY}{G G':Gh}{I I':LF}{C C':IB}{ρ ρ':Int->Nat}{vl vf:Value}
end
section
variable{w:World}{vb tb rb:Nat}{L:List (By×Int)}{F:LY}
end

def Rs:Prop:=∀(w:World) (vb tb rb xb:Nat) (kp ep fs:Value) (L:List (By×Int)) (F:LY),Km w xb vb rb kp ep fs->Md w vb tb rb L F L F->∀s:By,s.size<=2000000->
 Cl 49 #[.pointer (some ⟨xb,0,none⟩),.string s] w (MS w)
theorem Zc(hl:Rs)(w:World)(vb tb b:Nat)(L:List (By×Int))(F:LY)(j:Md w vb tb b L F L F):
  Cl 18 #[.pointer (some ⟨vb,0,none⟩),.pointer (some ⟨b,0,none⟩)] w fun e w'=>e = .returned (.bool true)/\Bw w w':=by
 obtain⟨y,r,n⟩:∃y r,FN w b y r L F:=by obtain⟨G,I,C,ρ,y,r,hv,ah,n,ai,hn⟩:=j;exact⟨y,r,n.toFN⟩
 have af:=j.jf.len;obtain⟨K,cv,rfl,ac⟩:=n.sl.rdL;have A:Hid (∀a,Bw w a->a.cell? ⟨b,0,none⟩=some (.slice K L.length cv)/\∀m x,L[m]?=some x->∃g,K=some ⟨g,0,none⟩/\a.cell? ⟨g,m*2,none⟩=some (.string x.1)/\a.cell? ⟨g,m*2+1,none⟩=some (.int .i64 x.2)/\x.1.size<=2000000):=fun a c=>by
  have o:=n.fr (X:=fun _=>False) (Fr.of_below c) (fun _ _=>id);refine⟨o.c.c0,fun m x S=>?_⟩;obtain⟨a',c',M,ad⟩:=o.sl.rdL;simp only[BI,true_and]at M;obtain⟨rfl,rfl⟩:=M;obtain⟨g,z,h3,h4⟩:=ad m x S;exact⟨g,z,h3,h4,(n.ok x (An S)).1⟩
 obtain⟨W,hW,f,-,-,Q⟩:=De w [.pointer (some ⟨vb,0,none⟩),.pointer (some ⟨b,0,none⟩),.slice none 0 0,.slice none 0 0,.string ⟨#[]⟩] 55;have hq:∀a,Bw w a->FH a w.heap.size 55 [.pointer (some ⟨vb,0,none⟩),.pointer (some ⟨b,0,none⟩),.slice none 0 0,.slice none 0 0,.string ⟨#[]⟩]->Km a w.heap.size vb b (.slice none 0 0) (.slice none 0 0) (.string ⟨#[]⟩)/\Md a vb tb b L F L F:=fun a c f=>⟨f,j.below c⟩
 have D:Hid (∀a s,s.size<=2000000->Bw w a->Km a w.heap.size vb b (.slice none 0 0) (.slice none 0 0) (.string ⟨#[]⟩)->Cl 49 #[.pointer (some ⟨w.heap.size,0,none⟩),.string s] a (MS a)):=fun a s p c f=>hl a vb tb b _ _ _ _ L F f (j.below c) s p
 have HS:Hid (∀a s,s.size<=2000000->Bw w a->Km a w.heap.size vb b (.slice none 0 0) (.slice none 0 0) (.string ⟨#[]⟩)->Cl 50 #[.pointer (some ⟨w.heap.size,0,none⟩),.string s] a fun e w'=>e = .returned (.bool true)/\Bw a w'):=fun a s p c f=>YR a vb tb b _ _ _ _ L F f (j.below c) s p
 have Z:Hid (∀a s,s.size<=2000000->Bw w a->Km a w.heap.size vb b (.slice none 0 0) (.slice none 0 0) (.string ⟨#[]⟩)->Cl 51 #[.pointer (some ⟨w.heap.size,0,none⟩),.agg (Mc 0 0 0 1281 s ⟨#[]⟩ ⟨#[]⟩).toArray] a (MS a)):=fun a s p c f=>YH a vb tb b _ _ _ _ L F f (j.below c) 0 0 0 1281 (by omega) (by omega) s _ _ p
 have E:Hid (∀a,Bw w a->Cl 34 #[.pointer (some ⟨vb,0,none⟩)] a fun e w'=>e = .returned (.int .i64 (Kn L F:Nat))/\Bw w w'):=fun a c=>(Ls (j.below c)).mono (fun e w' h=>⟨h.1,c.trans (h.2.mono c.size)⟩)
 have H:Hid (∀a,Bw w a->Cl 52 #[.pointer (some ⟨b,0,none⟩)] a fun e w'=>e = .returned (.int .i64 (Kn L F:Nat))/\w'=a):=fun a c=>TE a b _ r L F (n.fr (X:=fun _=>False) (Fr.of_below c) (fun _ _=>id)).c
 have t:Hid (∀a v,Bw a v->Bw w a->Km a w.heap.size vb b (.slice none 0 0) (.slice none 0 0) (.string ⟨#[]⟩)->Bw w v/\Km v w.heap.size vb b (.slice none 0 0) (.slice none 0 0) (.string ⟨#[]⟩)):=fun a v c o z=>⟨o.trans (c.mono o.size),FH.fr z (X:=fun _=>False) (Fr.of_below c) id⟩
 have u:Hid (Bw w W/\Km W w.heap.size vb b (.slice none 0 0) (.slice none 0 0) (.string ⟨#[]⟩)):=⟨Q,f⟩;obtain⟨U,N⟩:=ex (Kn L F);rw[<-N]at E H;clear N j n ac hq f Q;go_enter Tryz.func18,Tryz.ntmps18;go_upto_region 2 with fail;clear hW;go_wp2_with (go_at_call 49;refine(Da D _ _ (by simp[ByteArray.size]) (Da u).1 (Da u).2).mono ?_;rintro e w1 ⟨⟨xa,xn,xc,rfl⟩,O⟩;have aa:=Db (Da t _ _ O (Da u).1 (Da u).2);clear O)
 go_loopw [7,8] (fun ok i wr=>∃m:Nat,m<=L.length/\ok = .bool true/\i = .int .i64 m/\Hid (Bw w wr/\Km wr w.heap.size vb b (.slice none 0 0) (.slice none 0 0) (.string ⟨#[]⟩))) (fun _ i _=>L.length-(intOf i).toNat)
 case atStart=>exact⟨0,Aw _,rfl,rfl,aa⟩
 case round=>
  obtain⟨m,j,rfl,rfl,d⟩:=hrel;have ae:=(Da A wr (Da d).1).1;by_cases ab:m<L.length
  ·obtain⟨g,rfl,T,V,q⟩:=(Da A wr (Da d).1).2 m L[m] (Ac ab);obtain⟨⟨ps,pf⟩,R⟩:∃x,x=L[m]:=⟨_,rfl⟩;rw[<-R]at T V q;simp only at T V q;clear R;by_cases ag:pf<0
   ·go_wp2_with (go_at_call 49;refine(Da D _ _ q (Da d).1 (Da d).2).mono ?_;rintro e Y ⟨⟨ya,yn,yc,rfl⟩,k⟩;have l:=Db (Da t _ _ k (Da d).1 (Da d).2);clear k)
    go_roundw
    case rel=>first|exact⟨m+1,by omega,rfl,by go_num,l⟩|((repeat apply Exists.intro);exact⟨⟨m+1,by omega,rfl,by go_num,l⟩,rfl⟩)
    case measure=>simp[intOf];omega
   ·go_wp2_with (first|(go_at_call 50;refine(Da HS _ _ q (Da d).1 (Da d).2).mono ?_;rintro e Y ⟨rfl,k⟩;have l:=Db (Da t _ _ k (Da d).1 (Da d).2);clear k)|(go_at_call 51;refine(Da Z _ _ q (Da l).1 (Da l).2).mono ?_;rintro e w3 ⟨⟨ya,yn,yc,rfl⟩,P⟩;have J:=Db (Da t _ _ P (Da l).1 (Da l).2);clear P))
    go_roundw
    case rel=>first|exact⟨m+1,by omega,rfl,by go_num,J⟩|((repeat apply Exists.intro);exact⟨⟨m+1,by omega,rfl,by go_num,J⟩,rfl⟩)
    case measure=>simp[intOf];omega
  ·obtain rfl:m=L.length:=by omega
   go_wp2_with (first|(go_at_call 34;refine(Da E _ (Da d).1).mono ?_;rintro e Y ⟨rfl,k⟩;have B:=Db k;clear k)|(go_at_call 52;refine(Da H _ (Da B)).mono ?_;rintro e w3 ⟨rfl,rfl⟩));go_ret;exact⟨rfl,Da B⟩

theorem Rl.none(C:IB)(ρ : Int->Nat):Rl [] [] C ρ [] []:=by
 refine⟨rfl,⟨fun x a=>(by cases a),fun x a=>(by cases a),fun x a=>(by cases a),EK,fun ns n u a=>(by cases a)⟩,⟨EK,fun x a=>(by cases a),fun x a=>(by cases a),fun x a=>(by cases a),fun f b=>(by simp at b),fun x a=>(by cases a),fun x a=>(by cases a)⟩,fun x a=>(by cases a),fun x a=>(by cases a),fun x a=>(by cases a),by simp,by simp,fun x a=>(by cases a)⟩
structure En where
 n:By
 d:Bool
 s:Int
 l:Int
def IC(x:En):LV:=[.string x.n,.bool x.d,.int .i64 x.s,.int .i64 x.l]
def D8(es:List En):LV:=es.flatMap IC
theorem Zg0(a b:List En):D8 (a++b)=D8 a++D8 b:=by simp[D8]
theorem ZkL(b:List En):∀u∈D8 b,u.oneCell'=true:=by
 intro u a;simp only[D8,Cz,IC,AG,EO,or_false]at a;obtain⟨x,_,rfl|rfl|rfl|rfl⟩:=a<;>simp[Value.oneCell']
theorem Zo(b:List En)(k:Nat)(x:En)(h:b[k]?=some x):(D8 b)[k*4]?=some (.string x.n)/\(D8 b)[k*4+1]?=some (.bool x.d)/\(D8 b)[k*4+2]?=some (.int .i64 x.s)/\(D8 b)[k*4+3]?=some (.int .i64 x.l):=by
 induction b generalizing k with
 | nil=>simp at h
 | cons a l ih=>
  cases k with
  | zero=>simp at h;subst h;simp[D8,IC]
  | succ k=>
   simp at h;have:=ih k h;simp only[D8,AW]at this ⊢;have e:∀r,(IC a++List.flatMap IC l)[(k+1)*4+r]?=(List.flatMap IC l)[k*4+r]? := fun r=>by
    rw[AD (by simp[IC];omega)];congr 1;simp[IC];omega
   have c:=e 0;simp only[Ct]at c;rw[c,e 1,e 2,e 3];exact this
def PX(w:World)(a:OA)(L:List En):Prop:=∀(k:Nat) (x:En),L[k]?=some x->∃g,a=some ⟨g,0,none⟩/\w.cell? ⟨g,k*4,none⟩=some (.string x.n)/\w.cell? ⟨g,k*4+1,none⟩=some (.bool x.d)/\w.cell? ⟨g,k*4+2,none⟩=some (.int .i64 x.s)/\w.cell? ⟨g,k*4+3,none⟩=some (.int .i64 x.l)
theorem Sl.rdE{w:World}{v:Value}{L:List En}(h:Sl w 112 4 v L.length (D8 L)):∃a c,v = .slice a L.length c/\PX w a L:=by
 rcases h.2 with⟨rfl,f⟩|⟨g,e,R,rfl,o,hc,aa,hL,p⟩
 ·have:L=[]:=Ak f;subst this;exact⟨none,0,rfl,fun k x h=>by simp at h⟩
 ·have d:∀j u,(D8 L)[j]?=some u->w.cell? ⟨g,j,none⟩=some u:=fun j u b=>by
   rw[o.cell];rw[<-p,Ap]at b
   split at b
   ·exact b
   ·cases b
  refine⟨_,e,rfl,fun k x q=>?_⟩;obtain⟨i,l,m,n⟩:=Zo L k x q;exact⟨g,rfl,d _ _ i,d _ _ l,d _ _ m,d _ _ n⟩
theorem Mf(s:By)(b:Bool)(c d:Int)(w:World):(binOp .neq 112 (.agg #[.string s,.bool b,.int .i64 c,.int .i64 d]) (.agg #[.string s,.bool b,.int .i64 c,.int .i64 d])).run Tryz.prog w = .ok (.bool false) w:=by
 go_simp
theorem ZJ(w:World)(n vb:Value)(L:List En)(hn:L.length<=2000000)(g:Sl w 112 4 n L.length (D8 L))(j:Sl w 112 4 vb L.length (D8 L)):
  Cl 110 #[n,vb] w fun e w'=>e = .returned (.bool true)/\Bw w w':=by
 have v:Hid (∀W,Bw w W->∃a c,n = .slice a L.length c/\PX W a L):=fun W h=>(g.kept (fun k l _=>h.block k l)).rdE
 have y:Hid (∀W,Bw w W->∃a c,vb = .slice a L.length c/\PX W a L):=fun W h=>(j.kept (fun k l _=>h.block k l)).rdE
 obtain⟨a1,c1,rfl,-⟩:=g.rdE;obtain⟨a2,c2,rfl,-⟩:=j.rdE;clear g j;go_enter Tryz.func110,Tryz.ntmps110;go_wp2_with fail
 go_loopw [5] (fun i wr=>∃m:Nat,m<=L.length/\i = .int .i64 m/\Hid (Bw w wr)) (fun i _=>L.length-(intOf i).toNat)
 case atStart=>exact⟨0,Aw _,rfl,Ag _ _⟩
 case round=>
  obtain⟨m,hm,rfl,b⟩:=hrel;by_cases r:m<L.length
  ·obtain⟨y1,z1,p,t⟩:=Da v wr (Da b);obtain⟨y2,z2,q,u⟩:=Da y wr (Da b);simp only[BI,true_and]at p q;obtain⟨rfl,rfl⟩:=p;obtain⟨rfl,rfl⟩:=q;obtain⟨d,rfl,z,A,B,C⟩:=t m L[m] (Ac r);obtain⟨f,rfl,D,E,F,G⟩:=u m L[m] (Ac r);obtain⟨x,s⟩:=ex (L[m]);rw[<-s]at z A B C D E F G;have hq:=Mf x.n x.d x.s x.l;have o:Hid (∀W,Bw wr W->Bw w W):=fun W h=>(Da b).trans (h.mono (Da b).size)
   clear s t u;go_upto_region 6 with fail
   go_region_held3 (fun W=>W.cell? ⟨d,m*4,none⟩=some (.string x.n)/\W.cell? ⟨d,m*4+1,none⟩=some (.bool x.d)/\W.cell? ⟨d,m*4+2,none⟩=some (.int .i64 x.s)/\W.cell? ⟨d,m*4+3,none⟩=some (.int .i64 x.l)/\W.cell? ⟨f,m*4,none⟩=some (.string x.n)/\W.cell? ⟨f,m*4+1,none⟩=some (.bool x.d)/\W.cell? ⟨f,m*4+2,none⟩=some (.int .i64 x.s)/\W.cell? ⟨f,m*4+3,none⟩=some (.int .i64 x.l)) (go_keep) (first|fail)
   all_goals
    go_wp2
    go_roundw
    case rel=>first|exact⟨m+1,by omega,by go_num,Da o _ (Ag _ _).drew⟩|((repeat apply Exists.intro);exact⟨⟨m+1,by omega,by go_num,Da o _ (Ag _ _).drew⟩,rfl⟩)
    case measure=>simp[intOf];omega
  ·obtain rfl:m=L.length:=by omega
   go_wp2;go_ret;exact⟨rfl,Da b⟩
end Go.Proofs.YtaieidcohdhgpaaGreatDoor
