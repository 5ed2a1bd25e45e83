/- Failed. -/
import Derived.Test.YtaieidcohdhgpaaGreatDoorSBB
namespace Go.Proofs.YtaieidcohdhgpaaGreatDoor
set_option maxHeartbeats 40000000
set_option maxRecDepth 100000
open Go.RowKit
structure KS where
 es:LI
 tp:Nat
 tx:Nat
 tn:Nat
 D:LY
def Dq(s:KS)(cl:Bool)(C:NB)(L:List It):By×Pl:=Jr (Dh s.es cl s.tp s.D) C ⟨s.tp+1,[],[]⟩ L
def DE(mf:Nat)(s:KS)(C:NB)(L:List It):By×Pl:=if DY (ndP (Dq s false C L).2.puts) 96<mf then Dq s true C L else Dq s false C L
def KNext(mf:Nat)(C:NB)(L:List It)(s s':KS):Prop:=
 ((DE mf s C L).2.ps=[]/\s'=s)\/((DE mf s C L).2.ps≠[]/\EsOf (DE mf s C L).2.puts s'.es/\s'.tp=rdP (DE mf s C L).1/\s'.tx=rdX (DE mf s C L).1/\s'.tn=s.tn+1/\s'.D=(D9 s.D (DE mf s C L).2.ps).set ((s.tn+1)%2) (ckB (s.tn+1) s'.tp s'.tx))
structure KsOk(s:KS):Prop where
 srt:SrtR s.es
 len:s.es.length<=10000
 tp:s.tp<1536
 dl:s.D.length=1536
 pl:∀x∈s.es,∃q:Nat,x.2=(q:Int)/\q<1536
theorem KsOk.env{s:KS}(h:KsOk s)(cl:Bool):EnvOk (Dh s.es cl s.tp s.D):=⟨h.srt,h.len,h.tp,h.dl,h.pl⟩
structure StK(w:World)(stb db:Nat)(vk:Value)(s:KS)(vf vn vw ve:Value)(ps:LB)(ep:List Int):Prop where
 st:StW w stb db vk (s.tp:Nat) (s.tx:Nat) (s.tn:Nat) vf vn vw ve s.D ps ep
 sk:Sl w 350 2 vk s.es.length (Du s.es)
 ok:∀k,Own vk k->¬StO stb db vn vw ve k
theorem StK.below{w w':World}{stb db:Nat}{vk:Value}{s:KS}{vf vn vw ve:Value}{ps:LB}{ep:List Int}(h:StK w stb db vk s vf vn vw ve ps ep)(a:Below w.heap.size w w'):StK w' stb db vk s vf vn vw ve ps ep:=
 ⟨h.st.below a,h.sk.kept (fun k b _=>a.block k b),h.ok⟩
theorem StK.lo{w:World}{stb db:Nat}{vk:Value}{s:KS}{vf vn vw ve:Value}{ps:LB}{ep:List Int}(h:StK w stb db vk s vf vn vw ve ps ep):∀k,StO stb db vn vw ve k->k<w.heap.size:=fun k e=>by
 rcases e with rfl|rfl|e|e|e
 ·exact h.st.row.lt
 ·exact h.st.disk.1.lt
 ·exact h.st.disk.2.1.1.lt e
 ·exact Sl.lt h.st.sw e
 ·exact h.st.se.lt e
theorem StK.env{w:World}{stb db:Nat}{vk:Value}{s:KS}{vf vn vw ve:Value}{ps:LB}{ep:List Int}(h:StK w stb db vk s vf vn vw ve ps ep)(cl:Bool):EnvW w w.heap.size db stb 1 (Dh s.es cl s.tp s.D):=by
 obtain⟨b,d,c,rfl⟩:=h.st.disk.2.1.1.shape;exact⟨⟨vk,(h.st.row.cell 1).trans rfl,h.sk,fun k a=>h.sk.lt a⟩,(h.st.row.cell 2).trans rfl,⟨vf,b,d,c,vw,ve,h.st.disk,fun k a=>h.st.disk.2.1.1.lt a⟩,h.st.row.lt,h.st.disk.1.lt⟩
structure TrW(w:World)(tb rd:Nat)(V:NV)(Ed:NS)(vi:Value)(G:Gh)(I:LF)(CI:IB)(ch:LY->List Ek)(dv:NV)(C:NB):Prop where
 wk:WkT w tb rd V Ed vi G I CI ch dv
 ok:ItOk C (DI ch)
 dat:∀y∈DI ch,y.k=2->∃a2 l2 c2,dv y.f = .slice a2 l2 c2/\Sl w 5 1 (.slice a2 l2 c2) l2 (Dc (C y.f))
theorem TrW.below{w w':World}{tb rd:Nat}{V:NV}{Ed:NS}{vi:Value}{G:Gh}{I:LF}{CI:IB}{ch:LY->List Ek}{dv:NV}{C:NB}(h:TrW w tb rd V Ed vi G I CI ch dv C)(d:Below w.heap.size w w'):TrW w' tb rd V Ed vi G I CI ch dv C:=
 ⟨⟨h.wk.tw.below d (Nat.le_refl _),h.wk.ok,h.wk.gl,h.wk.il,h.wk.ch,h.wk.num⟩,h.ok,fun y f b=>by
  obtain⟨a,l,c,e,q⟩:=h.dat y f b;exact⟨a,l,c,e,q.kept (fun k b _=>d.block k b)⟩⟩
theorem Zn8(s:By):rdX s<18446744073709551616:=by
 have:=QB (Di (s.extract 2 s.size) 8).data.toList;rw[Array.length_toList,show(Di (s.extract 2 s.size) 8).data.size=8 from Jc _ _]at this;exact this
section
variable{mf:Nat}{w:World}{stb db:Nat}{vk:Value}{s:KS}{vf vn vw ve:Value}{ps:LB}{ep:List Int}{tb rd:Nat}{V:NV}{Ed:NS}{vi:Value}{G:Gh}{I:LF}{CI:IB}{ch:LY->List Ek}{dv:NV}{C:NB}
theorem StK.newPlan(h:StK w stb db vk s vf vn vw ve ps ep)(k:KsOk s)(f:∃j,j<96/\Dj s.es j<=0)(b:TrW w tb rd V Ed vi G I CI ch dv C)(cl:Bool):
  Calls Tryz.prog 131 #[.pointer (some ⟨db,0,none⟩),.pointer (some ⟨stb,1,none⟩),.pointer (some ⟨tb,0,none⟩),.bool cl] w (Zhn w db stb 1 (Dh s.es cl s.tp s.D) (Dq s cl C (DI ch))):=
 ZhR w db stb 1 tb rd s.tp cl s.es s.D (k.env cl) (h.env cl) f V Ed vi G I CI ch dv b.wk C b.ok (fun y m i=>by
  obtain⟨a,l,c,e,q⟩:=b.dat y m i;exact⟨a,l,c,e,q,fun g d=>q.lt d⟩)
def KHist(mf:Nat)(C:NB)(L:List It)(s s':KS)(ps ps':LB)(ep ep':List Int):Prop:=
 ((DE mf s C L).2.ps=[]/\ps'=ps/\ep'=ep++[((ps.length:Nat):Int)])\/((DE mf s C L).2.ps≠[]/\ps'=ps++(DE mf s C L).2.ps++[((s.tn+1)%2,ckB (s.tn+1) s'.tp s'.tx)]/\ep'=ep++[((ps.length+(DE mf s C L).2.ps.length:Nat):Int)]++[((ps.length+(DE mf s C L).2.ps.length+1:Nat):Int)])
def QP(mf:Nat)(w:World)(stb db:Nat)(vk:Value)(s:KS)(vf vn vw ve:Value)(ps:LB)(ep:List Int)(C:NB)(L:List It)(e:Ending)(w':World):Prop:=
 e = .returned (.tuple #[])/\∃s' vk' vw' ve' ps' ep',StK w' stb db vk' s' vf vn vw' ve' ps' ep'/\KNext mf C L s s'/\ps'.length<=ps.length+(DE mf s C L).2.ps.length+1/\ep'.length<=ep.length+2/\Dk w vw vw'/\Dk w ve ve'/\Dk w vk vk'/\Fr (StO stb db vn vw ve) w w'/\KHist mf C L s s' ps ps' ep ep'
theorem StK.carry(h:StK w stb db vk s vf vn vw ve ps ep)(O:KsOk s)(hT:ItOk C (DI ch))(al:ps.length<=999990000)(ak:ep.length<=999999990)(P:s.tn+1<18446744073709551616){cl:Bool}(hF:DE mf s C (DI ch)=Dq s cl C (DI ch))
  {X:World} (z:Below w.heap.size w X) {pb:Nat} {O':Nat->Prop} (L:Ql X pb db stb 1 (Dh s.es cl s.tp s.D) (Dq s cl C (DI ch)).2 (rdP (Dq s cl C (DI ch)).1:Nat) (rdX (Dq s cl C (DI ch)).1:Nat) O') (K:∀j,O' j->w.heap.size<=j):
  Calls Tryz.prog 133 #[.pointer (some ⟨stb,0,none⟩),.pointer (some ⟨pb,0,none⟩)] X (QP mf w stb db vk s vf vn vw ve ps ep C (DI ch)):=by
 have m:=Qz hT (Dh s.es cl s.tp s.D) (O.env cl) (s.tp+1) (by have:=O.tp;omega);change ZoW (Dq s cl C (DI ch)) at m;rw[<-hF]at L m;obtain⟨q,es,H,o,q2,S,U,W⟩:=L;have t:=h.below z;have ag:=h.lo;have hw:=z.size;have M:∀k,k=pb\/Own H k\/Own q k->¬StO stb db vn vw ve k:=fun k f e=>by
  have h1:=ag k e;have h2:=K k ((W k).2 (by rcases f with e|e|e;exact .inl e;exact .inr (.inr e);exact .inr (.inl e)));omega
 have R:∀{Z:Nat->Prop} {w':World},Fr Z X w'->(∀k,Z k->StO stb db vn vw ve k)->Fr (StO stb db vn vw ve) w w':=fun hf d=>(Fr.of_below z).then (hf.mono (Y:=StO stb db vn vw ve) (fun k _ e=>d k e)) (fun _ _ e=>e)
 have E:∀{a b:Value},Dk X a b->Dk w a b:=fun hn g c=>(hn g c).imp id (fun e=>by omega)
 by_cases d:(DE mf s C (DI ch)).2.ps=[]
 ·rw[d]at o;refine(Zkw X stb db pb vk _ _ _ vf vn vw ve s.D ps ep t.st db stb 1 _ cl _ q es _ _ H o (by omega) (M pb (.inl rfl))).mono ?_;rintro e w' ⟨rfl,l,u,v,y⟩;have Q:∀k,(k=db\/Own ve k)->StO stb db vn vw ve k:=fun k e=>by
   rcases e with e|e
   ·exact .inr (.inl e)
   ·exact .inr (.inr (.inr (.inr e)))
  have ab:=R y Q;have aj:Sl w' 350 2 vk s.es.length (Du s.es):=t.sk.fr y (fun g c e=>h.ok g c (Q g e));have ai:∀k,Own vk k->¬StO stb db vn vw l k:=fun k f e=>by
   rcases e with e|e|e|e|e
   ·exact h.ok k f (.inl e)
   ·exact h.ok k f (.inr (.inl e))
   ·exact h.ok k f (.inr (.inr (.inl e)))
   ·exact h.ok k f (.inr (.inr (.inr (.inl e))))
   ·rcases v k e with e|e
    ·exact h.ok k f (.inr (.inr (.inr (.inr e))))
    ·have:=t.sk.lt f;omega
  have af:(ep++[((ps.length:Nat):Int)]).length<=ep.length+2:=by rw[List.length_append];simp
  have B:StK w' stb db vk s vf vn vw l ps (ep++[((ps.length:Nat):Int)]):=⟨u,aj,ai⟩;exact⟨rfl,s,vk,vw,l,ps,_,B,.inl ⟨d,rfl⟩,by omega,af,fun g c => .inl c,E v,fun g c => .inl c,ab,.inl ⟨d,rfl,rfl⟩⟩
 ·have ah:=m.n2;have N:0<(DE mf s C (DI ch)).2.ps.length:=List.length_pos_iff.2 d;obtain⟨F,i⟩:∃F,F=DE mf s C (DI ch):=⟨_,rfl⟩;rw[<-i]at o S U m N ah d;obtain⟨p,A⟩:∃p,p=rdP F.1:=⟨_,rfl⟩;obtain⟨x,D⟩:∃x,x=rdX F.1:=⟨_,rfl⟩;rw[<-A,<-D]at o;obtain⟨T,n⟩:∃T,s.tn+1=T:=⟨_,rfl⟩;rw[n]at P;refine(Zkx X stb db pb vk _ _ s.tn vf vn vw ve s.D ps ep t.st db stb 1 _ cl _ q es p x H F.2.ps o m.pl.2 N (by omega) (by omega) T n P (by rw[A];exact Zk4 _) (by rw[D];exact Zn8 _) M).mono ?_;rintro e w' ⟨rfl,aa,l,u,v,y,r4,r5,r6⟩;obtain⟨r,J⟩:∃r,r=(D9 s.D F.2.ps).set (T%2) (ckB T p x):=⟨_,rfl⟩;rw[<-J]at u;have B:StK w' stb db q ⟨es,p,x,T,r⟩ vf vn aa l _ _:=⟨u,r5,r6⟩;have ac:KNext mf C (DI ch) s ⟨es,p,x,T,r⟩:=by
   unfold KNext;rw[<-i];refine .inr ⟨d,⟨q2,S,U⟩,A,D,n.symm,?_⟩;rw[n];exact J
  have ad:(ps++F.2.ps++[(T%2,ckB T p x)]).length<=ps.length+(DE mf s C (DI ch)).2.ps.length+1:=by rw[<-i];simp only[List.length_append,List.length_cons,List.length_nil];omega
  have ae:(ep++[((ps.length+F.2.ps.length:Nat):Int)]++[((ps.length+F.2.ps.length+1:Nat):Int)]).length<=ep.length+2:=by simp only[List.length_append,List.length_cons,List.length_nil];omega
  exact⟨rfl,_,q,aa,l,_,_,B,ac,ad,ae,E v,E y,fun g c => .inr (K g ((W g).2 (.inr (.inl c)))),R r4 (fun _ e=>e),.inr ⟨by rw[<-i];exact d,by rw[<-i,n],by rw[<-i]⟩⟩
theorem ZbX(h:StK w stb db vk s vf vn vw ve ps ep)(c:KsOk s)(l:∃j,j<96/\Dj s.es j<=0)(f:TrW w tb rd V Ed vi G I CI ch dv C)(v:ps.length<=999990000)(u:ep.length<=999999990)(x:s.tn+1<18446744073709551616):
  Calls Tryz.prog 74 #[.pointer (some ⟨stb,0,none⟩),.pointer (some ⟨tb,0,none⟩)] w (QP 512 w stb db vk s vf vn vw ve ps ep C (DI ch)):=by
 have H:w.cell? ⟨stb,0,none⟩=some (.pointer (some ⟨db,0,none⟩)):=(h.st.row.cell 0).trans rfl;obtain⟨N,i⟩:∃N,N=DY (ndP (Dq s false C (DI ch)).2.puts) 96:=⟨_,rfl⟩;have ai:N<=1536:=by rw[i];exact U0 _ _
 have A:Hid (Calls Tryz.prog 131 #[.pointer (some ⟨db,0,none⟩),.pointer (some ⟨stb,1,none⟩),.pointer (some ⟨tb,0,none⟩),.bool false] w.drew fun e X=>∃pb,e = .returned (.pointer (some ⟨pb,0,none⟩))/\X.cell? ⟨stb,0,none⟩=some (.pointer (some ⟨db,0,none⟩))/\Hid (Calls Tryz.prog 132 #[.pointer (some ⟨pb,100,none⟩)] X fun e Y=>e = .returned (.int .i64 (N:Nat))/\Y.cell? ⟨stb,0,none⟩=some (.pointer (some ⟨db,0,none⟩))/\
   Hid (¬N<512->Calls Tryz.prog 133 #[.pointer (some ⟨stb,0,none⟩),.pointer (some ⟨pb,0,none⟩)] Y (QP 512 w stb db vk s vf vn vw ve ps ep C (DI ch)))/\
   Hid (N<512->Calls Tryz.prog 131 #[.pointer (some ⟨db,0,none⟩),.pointer (some ⟨stb,1,none⟩),.pointer (some ⟨tb,0,none⟩),.bool true] Y.drew fun e Z=>∃n,e = .returned (.pointer (some ⟨n,0,none⟩))/\Z.cell? ⟨stb,0,none⟩=some (.pointer (some ⟨db,0,none⟩))/\Hid (Calls Tryz.prog 133 #[.pointer (some ⟨stb,0,none⟩),.pointer (some ⟨n,0,none⟩)] Z (QP 512 w stb db vk s vf vn vw ve ps ep C (DI ch)))))):=by
  have O:Below w.heap.size w w.drew:=(Below.refl _ _).drew;refine((h.below O).newPlan c l (f.below O) false).mono ?_;rintro e X ⟨pb,O',rfl,al,ag,E,k,hO⟩;have y:Below w.heap.size w X:=⟨k.os,k.tape,k.output,k.size,k.block⟩;have a:=Qz f.ok (Dh s.es false s.tp s.D) (c.env false) (s.tp+1) (by have:=c.tp;omega);change ZoW (Dq s false C (DI ch)) at a;refine⟨pb,rfl,((h.below y).st.row.cell 0).trans rfl,?_⟩;have aj:=E;obtain⟨T,es,vp,z,P,Q,R,q5⟩:=E;have L:EsOf (Dq s false C (DI ch)).2.puts es:=⟨P,Q,R⟩;refine(ZeH X pb 100 T es z.cells.2.2.2.2.2.1 z.sa (L.places (by have:=a.n1;omega) a.pl.1)).mono ?_;rintro e Y ⟨rfl,F⟩;have d:Below w.heap.size w Y:=y.trans (F.mono y.size);refine⟨by rw[i,L.nd],((h.below d).st.row.cell 0).trans rfl,fun g=>?_,fun g=>?_⟩
  ·refine h.carry c f.ok v u x (cl:=false) (by unfold DE;rw[<-i,if_neg g]) d (pb:=pb) (O':=O') ?_ hO;exact⟨T,es,vp,z.below F,P,Q,R,q5⟩
  ·have m:Below w.heap.size w Y.drew:=⟨d.os,d.tape,d.output,d.size,d.block⟩;refine((h.below m).newPlan c l (f.below m) true).mono ?_;rintro e Z ⟨n,O2,rfl,ak,ah,ab,ac,aa⟩;have M:Below w.heap.size w Z:=m.trans (ac.mono m.size);refine⟨n,rfl,((h.below M).st.row.cell 0).trans rfl,?_⟩;exact h.carry c f.ok v u x (cl:=true) (by unfold DE;rw[<-i,if_pos g]) M ab (fun j l=>Nat.le_trans m.size (aa j l))
 clear h c l f v u x i;go_enter Tryz.func74,Tryz.ntmps74;go_upto_region 0 with fail;refine wp_region_held_drew (S:=fun X=>X.cell? ⟨stb,0,none⟩=some (.pointer (some ⟨db,0,none⟩))) (by kernel_rfl) H (fun D=>?_);refine tk 0 ?_;try simp only[pE];refine tk 1 ?_;try simp only[pE];refine tk 2 ?_;try simp only[pE];refine tk 3 ?_;try simp only[pE];refine tk 4 ?_;try simp only[pE];refine tk 5 ?_;try simp only[pE];refine tk 6 ?_;try simp only[pE];refine tk 7 ?_;try simp only[pE];refine rk 8 (fun K a=>?_);go_simp;go_at_call 131;refine(Da A).mono ?_;rintro e X ⟨pb,rfl,ad,q⟩;go_wp2_with fail;refine a.out _ _ ad (fun B=>?_);clear a K
 (try simp only[pE])
 refine tk 9 ?_;try simp only[pE];refine wpAnyH_done (by kernel_rfl) ?_ _;clear D B A H;by_cases g:N<512
 ·have af:(N:Int)<512:=by omega
  go_upto_region 2 with(go_at_call 132;refine(Da q).mono ?_;rintro e Y ⟨rfl,J,o,p⟩);have r:=Db (Da p g);clear o p q;refine wp_region_held_drew (S:=fun X=>X.cell? ⟨stb,0,none⟩=some (.pointer (some ⟨db,0,none⟩))) (by kernel_rfl) J (fun D=>?_);refine tk 0 ?_;try simp only[pE];refine tk 1 ?_;try simp only[pE];refine tk 2 ?_;try simp only[pE];refine tk 3 ?_;try simp only[pE];refine tk 4 ?_;try simp only[pE];refine tk 5 ?_;try simp only[pE];refine tk 6 ?_;try simp only[pE];refine tk 7 ?_;try simp only[pE];refine rk 8 (fun K a=>?_);go_simp;go_at_call 131;refine(Da r).mono ?_;rintro e Z ⟨n,rfl,ae,U⟩;go_wp2_with fail;refine a.out _ _ ae (fun B=>?_);clear a K
  (try simp only[pE])
  refine tk 9 ?_;try simp only[pE];refine wpAnyH_done (by kernel_rfl) ?_ _;go_wp2_with (go_at_call 133;refine(Da U).mono ?_;intro e W b;obtain rfl:=b.1;have t:=Db b;clear b)
  go_end0
  exact Da t
 ·have af:¬(N:Int)<512:=by omega
  go_wp2_with (first|(go_at_call 132;refine(Da q).mono ?_;rintro e Y ⟨rfl,J,o,p⟩;have r:=Db (Da o g);clear o p q)|(go_at_call 133;refine(Da r).mono ?_;intro e W b;obtain rfl:=b.1;have t:=Db b;clear b))
  go_end0
  exact Da t
end
def Jk:LI:=[(((Dd 3 0 0:Nat):Int),((16:Nat):Int))]
def s00(D:LY):KS:=⟨[],15,0,0,D⟩
theorem Zn2(D:LY):(Dh [] false 15 D).put ⟨16,[],[]⟩ (Dd 3 0 0) DB=(16,⟨17,[(Dd 3 0 0,16)],[(16,DB)]⟩):=by
 have a:(Dh [] false 15 D).stay (Dd 3 0 0) DB=none:=rfl;unfold Env.put;rw[a];show(DK (Dj []) 96 16%1536,(⟨DK (Dj []) 96 16%1536+1,[]++[(Dd 3 0 0,DK (Dj []) 96 16%1536)],[]++[(DK (Dj []) 96 16%1536,DB)]⟩:Pl))=_;rw[place0]
 rfl
theorem ZmD(C:NB)(D:LY):Dq (s00 D) false C []=(DG 16 (Dp DB),⟨17,[(Dd 3 0 0,16)],[(16,DB)]⟩):=by
 have a:Dy (Dh [] false 15 D) 3 63 0 ⟨16,[],[]⟩ (⟨#[]⟩++⟨#[0]⟩)=(DG 16 (Dp DB),⟨17,[(Dd 3 0 0,16)],[(16,DB)]⟩):=by
  rw[Q2];unfold Dy;rw[show((⟨#[0]⟩:By).size+63-1)/63=1 from rfl];show(DG ((Dh [] false 15 D).put ⟨16,[],[]⟩ (Dd 3 0 0) DB).1 (Dp DB)++⟨#[]⟩,((Dh [] false 15 D).put ⟨16,[],[]⟩ (Dd 3 0 0) DB).2)=_;rw[Ky,Zn2]
 show DF (Dh [] false 15 D) 8 1 (Dy (Dh [] false 15 D) 3 63 0 ⟨16,[],[]⟩ (⟨#[]⟩++⟨#[0]⟩)).2 (Dy (Dh [] false 15 D) 3 63 0 ⟨16,[],[]⟩ (⟨#[]⟩++⟨#[0]⟩)).1=_;rw[a];unfold DF;rw[if_neg (by rw[K3];omega)]
theorem s00_nd:ndP [(Dd 3 0 0,16)]=Dj Jk:=by
 funext j
 unfold ndP Dj Jk
 rfl
theorem ZmE(C:NB)(D:LY):DE 512 (s00 D) C []=(DG 16 (Dp DB),⟨17,[(Dd 3 0 0,16)],[(16,DB)]⟩):=by
 unfold DE;rw[ZmD];rw[if_neg (by show ¬DY (ndP [(Dd 3 0 0,16)]) 96<512;rw[s00_nd,show DY (Dj Jk) 96=1504 from free0];omega)]
theorem TW.empty{w:World}{tb c:Nat}{V:NV}{E:NS}{e:Value}{C:IB}(h:TW w tb c V E e [] [] C):TrW w tb c V E e [] [] C (fun _=>[]) (fun _ => .slice none 0 0) (fun _=>⟨#[]⟩):=by
 have f:E c=[]:=by
  cases hl:E c with
  | nil=>rfl
  | cons x l=>
   have:=(h.d.en [] c (.inl ⟨rfl,rfl⟩) x.1 x.2).1 (by rw[hl];exact List.mem_cons_self)
   cases this
 refine⟨⟨h,⟨fun x a=>(by cases a),fun x a=>(by cases a),fun x a=>(by cases a),List.nodup_nil,fun _ _ _ a=>(by cases a)⟩,Nat.zero_le _,Nat.zero_le _,fun ns b d=>?_,fun x a=>(by cases a)⟩,?_,fun y k=>(by cases k)⟩
 ·rcases d with⟨rfl,rfl⟩|d
  ·rw[f];rfl
  ·cases d
 ·exact⟨Nat.zero_le _,fun x a=>(by cases a),fun x a=>(by cases a),fun x a=>(by cases a),fun x a=>(by cases a),fun i j x y _ g=>(by cases g)⟩
def Zms(w:World)(stb db:Nat)(vf vn:Value)(D:LY)(e:Ending)(w':World):Prop:=
 ∃va vw ve ps ep,e = .returned (.tuple #[])/\StW w' stb db va ((16:Nat):Int) (Dp DB:Nat) ((1:Nat):Int) vf vn vw ve ((D9 D [(16,DB)]).set 1 (ckB 1 16 (Dp DB))) ps ep/\ps.length<=100/\Dk w (.slice none 0 0) vw/\Fr (StO stb db vn (.slice none 0 0) (.slice none 0 0)) w w'/\Sl w' 350 2 va 1 (Du Jk)/\(∀k,Own va k->¬StO stb db vn vw ve k)/\∀k,Own va k->w.heap.size<=k
theorem Zkc(w:World)(i l tb:Nat)(p q:Value)(D:LY)(H:D.length=1536)(h:StW w i l (.slice none 0 0) ((15:Nat):Int) 0 ((0:Nat):Int) p q (.slice none 0 0) (.slice none 0 0) D [] []){C:IB}(N:PS w tb [] [] C):
  Calls Tryz.prog 74 #[.pointer (some ⟨i,0,none⟩),.pointer (some ⟨tb,0,none⟩)] w (Zms w i l p q D):=by
 obtain⟨rd,V,E,vi,I⟩:=N;have u:∀k,¬Own (.slice none 0 0) k:=fun k e=>by simp[Own,Value.ownBlock]at e
 have O:StK w i l (.slice none 0 0) (s00 D) p q (.slice none 0 0) (.slice none 0 0) [] []:=⟨h,⟨rfl,.inl ⟨rfl,rfl⟩⟩,fun k a=>absurd a (u k)⟩;have M:KsOk (s00 D):=⟨fun j k x y _ K=>(by cases K),Nat.zero_le _,by show 15<1536;omega,H,fun x c=>(by cases c)⟩;refine(ZbX O M ⟨1,by omega,by show Dj [] 1<=0;decide⟩ I.empty (Nat.zero_le _) (Nat.zero_le _) (by show 0+1<_;omega)).mono ?_;rintro e w' ⟨rfl,b,vk',R,Q,z,A,m,r,n,g4,B,g6,F,G,_⟩;have a:=ZmE (fun _=>⟨#[]⟩) D;have J:DI (fun _=>([]:List Ek))=[]:=rfl;rw[J]at r n;rw[a]at n;rcases r with⟨s,_⟩|⟨_,o,d,f,v,g⟩
 ·rw[a]at s;cases s
 ·rw[a]at o d f g;rw[UO _ _ (by omega)]at d;rw[ZiE _ _ (KA _)]at f;have t:b.es=Jk:=by
   have L:b.es.length=1:=o.2.1;obtain⟨x,c⟩:∃x,b.es=[x]:=by
    match b.es,L with
    | [x],_=>exact⟨x,rfl⟩
   obtain⟨y,P,e⟩:=(o.2.2 x).1 (by rw[c];exact List.mem_singleton.2 rfl);rw[c,e,List.mem_singleton.1 P];rfl
  obtain⟨aa,tp',tx',tn',D'⟩:=b;dsimp only at t d f v g;subst t d f v;rw[show(s00 D).tn+1=1 from rfl]at g;subst g;have h2:z.length<=2:=by simpa using n
  exact⟨vk',R,Q,z,A,rfl,m.st,by omega,B,G,m.sk,m.ok,fun k a=>(F k a).elim (fun e=>absurd e (u k)) id⟩
def Jf:LY:=(((D9 J1 [(16,DB)]).set 1 (ckB 1 16 (Dp DB))).set 0 (ckB 0 16 (Dp DB)))
def ZfS(w:World)(db:Nat)(vn:Value)(e:Ending)(w':World):Prop:=
 ∃stb vf' va,e = .returned (.pointer (some ⟨stb,0,none⟩))/\w.heap.size<=stb/\StW w' stb db va ((16:Nat):Int) (Dp DB:Nat) ((1:Nat):Int) vf' vn (.slice none 0 0) (.slice none 0 0) Jf [] []/\SlD w' vf' Jf/\Sl w' 350 2 va 1 (Du Jk)/\(∀k,Own vf' k->w.heap.size<=k/\k≠stb/\¬Own va k/\k≠db/\¬Own vn k)/\(∀k,Own va k->w.heap.size<=k/\k≠stb/\k≠db/\¬Own vn k)/\Fr (fun k=>k=db\/Own vn k) w w'
theorem Zh4(w:World)(c tb:Nat)(u f:Value)(h:DS w c u f (.slice none 0 0) (.slice none 0 0) J1)(A:¬Own f c){C:IB}(B:PS w tb [] [] C):
  Calls Tryz.prog 99 #[.pointer (some ⟨c,0,none⟩),.pointer (some ⟨tb,0,none⟩)] w (ZfS w c f):=by
 obtain⟨W,z,I,G,sW,g⟩:=De w [.pointer (some ⟨c,0,none⟩),.slice none 0 0,.int .i64 15,.int .u64 0,.int .u64 0] 179;have b:∀k,¬Own (.slice none 0 0) k:=fun k e=>by simp[Own,Value.ownBlock]at e
 have ac:=h.1.lt;have D:StW W w.heap.size c (.slice none 0 0) ((15:Nat):Int) 0 ((0:Nat):Int) u f (.slice none 0 0) (.slice none 0 0) J1 [] []:=by
  refine⟨I,⟨G _ _ _ h.1,⟨h.2.1.1.kept (fun k a _=>g.block k a),h.2.1.2⟩,h.2.2⟩,SlP.nil _,⟨rfl,.inl ⟨rfl,rfl⟩⟩,by omega,⟨fun e=>?_,b _,b _⟩,⟨A,b _,b _⟩,fun k _=>b k,fun k _=>b k,fun k _=>b k⟩;have:=h.2.1.1.lt e;omega
 obtain⟨y,x⟩:∃V,V=pcV 0 (ckB 0 16 (Dp DB)):=⟨_,rfl⟩;have O:Hid (Calls Tryz.prog 74 #[.pointer (some ⟨w.heap.size,0,none⟩),.pointer (some ⟨tb,0,none⟩)] W fun e X=>e = .returned (.tuple #[])/\(X.cell? ⟨w.heap.size,4,none⟩=some (.int .u64 1)/\X.cell? ⟨w.heap.size,2,none⟩=some (.int .i64 16)/\X.cell? ⟨w.heap.size,3,none⟩=some (.int .u64 (Dp DB:Nat)))/\
   Hid (Calls Tryz.prog 160 #[.agg #[.int .u64 0,.int .i64 16,.int .u64 (Dp DB:Nat)]] X.drew fun e Y=>e = .returned y/\(Y.cell? ⟨w.heap.size,4,none⟩=some (.int .u64 1)/\Y.cell? ⟨w.heap.size,2,none⟩=some (.int .i64 16)/\Y.cell? ⟨w.heap.size,3,none⟩=some (.int .u64 (Dp DB:Nat)))/\
    Hid (Calls Tryz.prog 159 #[.pointer (some ⟨c,0,none⟩),y] Y fun e Z=>e = .returned (.tuple #[])/\(Z.cell? ⟨w.heap.size,4,none⟩=some (.int .u64 1)/\Z.cell? ⟨w.heap.size,2,none⟩=some (.int .i64 16)/\Z.cell? ⟨w.heap.size,3,none⟩=some (.int .u64 (Dp DB:Nat)))/\
     Hid (Calls Tryz.prog 161 #[.pointer (some ⟨c,0,none⟩)] Z fun e V=>e = .returned (.tuple #[])/\Hid (ZfS w c f (.returned (.pointer (some ⟨w.heap.size,0,none⟩))) V))))):=by
  have ae:PS W tb [] [] C:=by
   obtain⟨rd,V,E,vi,T⟩:=B;exact⟨rd,V,E,vi,T.below g (Nat.le_refl _)⟩
  refine(Zkc W w.heap.size c tb u f J1 Ks D ae).mono ?_;rintro e X ⟨t,al,aj,ay,an,rfl,s,ar,s2,r,s5,s6,s7⟩;have ah:=s;refine⟨rfl,⟨(s.row.cell 4).trans rfl,(s.row.cell 2).trans rfl,(s.row.cell 3).trans rfl⟩,?_⟩;refine(Zef X.drew 0 16 (Dp DB) (by omega) (by omega) (KA _)).mono ?_;rintro e Y ⟨rfl,p⟩;have j:Below X.heap.size X Y:=⟨p.os,p.tape,p.output,p.size,p.block⟩;have q:=ah.below j;have H:Sl Y 350 2 t 1 (Du Jk):=s5.kept (fun k a _=>j.block k a);refine⟨by rw[x],⟨(q.row.cell 4).trans rfl,(q.row.cell 2).trans rfl,(q.row.cell 3).trans rfl⟩,?_⟩;rw[x];refine(q.write_call (by omega) 0 (by omega) _ (Q8 _ _ _)).mono ?_;intro e Z F;obtain⟨am,d,u2,n⟩:=q.write F;have af:∀k,Own t k->k<Y.heap.size:=fun k a=>H.lt a
  have ai:Sl Z 350 2 t 1 (Du Jk):=H.fr n (fun k a e=>s6 k a (by rcases e with e|e|e;exact .inr (.inl e);exact .inr (.inr (.inl e));exact .inr (.inr (.inr (.inl e)))));refine⟨F.1,⟨(d.row.cell 4).trans rfl,(d.row.cell 2).trans rfl,(d.row.cell 3).trans rfl⟩,?_⟩;refine(Zgw Z c u f am aj _ d.disk d.nd.1).mono ?_;rintro e V ⟨rfl,ak,v1,v2,m,v4⟩;have au:w.heap.size+1<=X.heap.size:=by have:=r.size;omega
  have av:=j.size;have aw:=n.size;have ad:∀k,k<w.heap.size->¬(k=c\/Own f k)->¬StO w.heap.size c f (.slice none 0 0) (.slice none 0 0) k:=fun k a l e=>by
   rcases e with e|e|e|e|e
   ·omega
   ·exact l (.inl e)
   ·exact l (.inr e)
   ·exact b _ e
   ·exact b _ e
  refine⟨rfl,w.heap.size,ak,t,rfl,Nat.le_refl _,⟨d.row.fr m (fun e=>d.ne e),v1,SlP.nil _,⟨rfl,.inl ⟨rfl,rfl⟩⟩,d.ne,⟨d.ns.1,b _,b _⟩,⟨d.nd.1,b _,b _⟩,fun k _=>b k,fun k _=>b k,fun k _=>b k⟩,v2,ai.fr m (fun k a e=>s6 k a (.inr (.inl e))),fun k a=>?_,fun k a=>?_,?_⟩
  ·have h1:=v4 k a;refine⟨by omega,by omega,fun e=>(by have:=af k e;omega),fun e=>(by have:=d.disk.1.lt;omega),fun e=>(by have:=d.disk.2.1.1.lt e;omega)⟩
  ·exact⟨(by have:=s7 k a;omega),fun e=>s6 k a (.inl e),fun e=>s6 k a (.inr (.inl e)),fun e=>s6 k a (.inr (.inr (.inl e)))⟩
  ·refine⟨m.os.trans (n.os.trans (j.os.trans (r.os.trans g.os))),m.tape.trans (n.tape.trans (j.tape.trans (r.tape.trans g.tape))),m.output.trans (n.output.trans (j.output.trans (r.output.trans g.output))),by have:=m.size;omega,fun k a l=>?_⟩;have ag:¬Own al k:=fun e=>(s2 k e).elim (b _) (fun e=>by omega)
   rw[m.block k (by omega) (fun e=>l (.inl e)),n.block k (by omega) (fun e=>by rcases e with e|e|e;exact l (.inl e);exact l (.inr e);exact ag e),j.block k (by omega),r.block k (by omega) (ad k a l),g.block k a]
 have Q:=Db z;have J:=Db (Zhc 0 16 (Dp DB:Nat));have ax:IntKind.u64.wrap (1-1)=0:=by decide
 clear h A B z I G sW g D b ac x;go_enter Tryz.func99,Tryz.ntmps99;go_upto_region 2 with fail;rw[show w.alloc (.cells #[.pointer (some ⟨c,0,none⟩),.slice none 0 0,.int .i64 15,.int .u64 0,.int .u64 0] 179)=W from Da Q];go_upto_region 3 with(go_at_call 74;refine(Da O).mono ?_;rintro e X ⟨rfl,U,L⟩);refine wp_region_held_drew (S:=fun X=>X.cell? ⟨w.heap.size,4,none⟩=some (.int .u64 1)/\X.cell? ⟨w.heap.size,2,none⟩=some (.int .i64 16)/\X.cell? ⟨w.heap.size,3,none⟩=some (.int .u64 (Dp DB:Nat))) (by kernel_rfl) U (fun aq=>?_);refine tk 0 ?_;try simp only[pE];refine tk 1 ?_;try simp only[pE];refine tk 2 ?_;try simp only[pE];refine tk 3 ?_;try simp only[pE];refine tk 4 ?_;try simp only[pE];refine wpAnyH_take (i:=5) (v := .int .u64 0) rfl (by kernel_rfl) (by kernel_rfl) (by kernel_rfl) (fun _ _ _ h=>h) (Or.inl ⟨by rfl,?_⟩) (by assumption) ?_
 ·intro w R;(try dsimp only at R);go_simp
  rfl
 (try simp only[pE])
 refine tk 6 ?_;try simp only[pE];refine tk 7 ?_;try simp only[pE];refine tk 8 ?_;try simp only[pE];refine tk 9 ?_;try simp only[pE];refine tk 10 ?_;try simp only[pE];refine wpAnyH_take (i:=11) (v := .agg #[.int .u64 0,.int .i64 16,.int .u64 (Dp DB:Nat)]) rfl (by kernel_rfl) (by kernel_rfl) (by kernel_rfl) (fun _ _ _ h=>h) (Or.inl ⟨by rfl,fun V _=>Zeo V 191 _ rfl (vs := #[(0,.int .u64 0),(1,.agg #[.int .i64 16,.int .u64 (Dp DB:Nat)])]) (by simp[Act.eval]) (Da J)⟩) (by assumption) ?_
 (try simp only[pE])
 refine rk 12 (fun K o=>?_);go_simp;go_at_call 160;refine(Da L).mono ?_;rintro e Y ⟨rfl,aa,M⟩;go_wp2_with fail;refine o.out _ _ aa (fun ao=>?_);clear o K
 (try simp only[pE])
 refine rk 13 (fun K o=>?_);go_simp;go_at_call 159;refine(Da M).mono ?_;rintro e Z ⟨rfl,ab,N⟩;go_wp2_with fail;refine o.out _ _ ab (fun ap=>?_);clear o K
 (try simp only[pE])
 refine wpAnyH_done (by kernel_rfl) ?_ _;go_wp2_with (go_at_call 161;refine(Da N).mono ?_;rintro e V ⟨rfl,P⟩);go_ret;exact Da P
def VolW(w:World)(vb tb:Nat):Prop:=∃d s:Nat,RowIs w vb 41 [.pointer (some ⟨vb,0,none⟩),.pointer (some ⟨tb,0,none⟩),.pointer (some ⟨d,0,none⟩),.pointer (some ⟨s,0,none⟩)]
theorem VolW.c0{w:World}{a tb:Nat}(h:VolW w a tb):w.cell? ⟨a,0,none⟩=some (.pointer (some ⟨a,0,none⟩)):=by
 obtain⟨d,s,h⟩:=h;exact(RowIs.cell h 0).trans rfl
theorem VolW.c1{w:World}{a tb:Nat}(h:VolW w a tb):w.cell? ⟨a,1,none⟩=some (.pointer (some ⟨tb,0,none⟩)):=by
 obtain⟨d,s,h⟩:=h;exact(RowIs.cell h 1).trans rfl
theorem VolW.alloc{w:World}{a tb:Nat}(h:VolW w a tb)(o:Obj):VolW (w.alloc o) a tb:=by
 obtain⟨d,s,h⟩:=h;exact⟨d,s,RowIs.alloc h o⟩
theorem Zm6(a:Addr)(w:World):(binOp .eql 25 (.pointer (some a)) (.pointer (some a))).run Tryz.prog w = .ok (.bool true) w:=by
 obtain⟨j,b⟩:∃j,Tryz.prog.info? 41=some j:=Option.isSome_iff_exists.1 (by kernel_rfl);exact run_eql_ptr_same w a Tryz.underlying25 b
theorem Ka(w:World)(a tb:Nat)(h:VolW w a tb):Calls Tryz.prog 53 #[.pointer (some ⟨a,0,none⟩)] w fun e w'=>e = .returned (.bool true)/\w'=w:=by
 have h0:w.cell? ⟨a,0,none⟩=some (.pointer (some ⟨a,0,none⟩)):=VolW.c0 h;have hq:=Zm6;go_enter Tryz.func53,Tryz.ntmps53;go_wp2;go_ret;exact⟨rfl,rfl⟩
theorem mkdirV(w:World)(a tb:Nat)(h:VolW w a tb)(p:By)(Q:Ending->World->Prop)(b:∀e w',Q e w'->∃n:Int,e = .returned (.int .i64 n))
  (f:Calls Tryz.prog 122 #[.pointer (some ⟨tb,0,none⟩),.string p] w Q):Calls Tryz.prog 58 #[.pointer (some ⟨a,0,none⟩),.string p] w Q:=by
 have g:=Ka w a tb h;have h1:w.cell? ⟨a,1,none⟩=some (.pointer (some ⟨tb,0,none⟩)):=VolW.c1 h;have d:=Db b;clear b h;go_enter Tryz.func58,Tryz.ntmps58;go_wp2_with (go_at_call 53;refine g.mono ?_;rintro e w' ⟨rfl,rfl⟩);refine f.mono ?_;intro e w1 c;obtain⟨n,rfl⟩:=Da d e w1 c;go_wp2;exact c
theorem Znv(w:World)(a tb:Nat)(h:VolW w a tb)(p:By)(i:Int)(x:Value)(Q:Ending->World->Prop)(b:∀e w',Q e w'->∃n:Int,e = .returned (.int .i64 n))
  (f:Calls Tryz.prog 123 #[.pointer (some ⟨tb,0,none⟩),.string p,.int .i64 i,x] w Q):Calls Tryz.prog 59 #[.pointer (some ⟨a,0,none⟩),.string p,.int .i64 i,x] w Q:=by
 have g:=Ka w a tb h;have h1:w.cell? ⟨a,1,none⟩=some (.pointer (some ⟨tb,0,none⟩)):=VolW.c1 h;have d:=Db b;clear b h;go_enter Tryz.func59,Tryz.ntmps59;go_wp2_with (go_at_call 53;refine g.mono ?_;rintro e w' ⟨rfl,rfl⟩);refine f.mono ?_;intro e w1 c;obtain⟨n,rfl⟩:=Da d e w1 c;go_wp2;exact c
theorem cutV(w:World)(a tb:Nat)(h:VolW w a tb)(p:By)(i:Int)(Q:Ending->World->Prop)(b:∀e w',Q e w'->∃n:Int,e = .returned (.int .i64 n))
  (f:Calls Tryz.prog 124 #[.pointer (some ⟨tb,0,none⟩),.string p,.int .i64 i] w Q):Calls Tryz.prog 60 #[.pointer (some ⟨a,0,none⟩),.string p,.int .i64 i] w Q:=by
 have g:=Ka w a tb h;have h1:w.cell? ⟨a,1,none⟩=some (.pointer (some ⟨tb,0,none⟩)):=VolW.c1 h;have d:=Db b;clear b h;go_enter Tryz.func60,Tryz.ntmps60;go_wp2_with (go_at_call 53;refine g.mono ?_;rintro e w' ⟨rfl,rfl⟩);refine f.mono ?_;intro e w1 c;obtain⟨n,rfl⟩:=Da d e w1 c;go_wp2;exact c
theorem linkV(w:World)(a tb:Nat)(h:VolW w a tb)(p q:By)(Q:Ending->World->Prop)(b:∀e w',Q e w'->∃n:Int,e = .returned (.int .i64 n))
  (f:Calls Tryz.prog 125 #[.pointer (some ⟨tb,0,none⟩),.string p,.string q] w Q):Calls Tryz.prog 61 #[.pointer (some ⟨a,0,none⟩),.string p,.string q] w Q:=by
 have g:=Ka w a tb h;have h1:w.cell? ⟨a,1,none⟩=some (.pointer (some ⟨tb,0,none⟩)):=VolW.c1 h;have d:=Db b;clear b h;go_enter Tryz.func61,Tryz.ntmps61;go_wp2_with (go_at_call 53;refine g.mono ?_;rintro e w' ⟨rfl,rfl⟩);refine f.mono ?_;intro e w1 c;obtain⟨n,rfl⟩:=Da d e w1 c;go_wp2;exact c
theorem Zk1(w:World)(a tb:Nat)(h:VolW w a tb)(p:By)(Q:Ending->World->Prop)(b:∀e w',Q e w'->∃n:Int,e = .returned (.int .i64 n))
  (f:Calls Tryz.prog 127 #[.pointer (some ⟨tb,0,none⟩),.string p] w Q):Calls Tryz.prog 63 #[.pointer (some ⟨a,0,none⟩),.string p] w Q:=by
 have g:=Ka w a tb h;have h1:w.cell? ⟨a,1,none⟩=some (.pointer (some ⟨tb,0,none⟩)):=VolW.c1 h;have d:=Db b;clear b h;go_enter Tryz.func63,Tryz.ntmps63;go_wp2_with (go_at_call 53;refine g.mono ?_;rintro e w' ⟨rfl,rfl⟩);refine f.mono ?_;intro e w1 c;obtain⟨n,rfl⟩:=Da d e w1 c;go_wp2;exact c
theorem Znw(w:World)(a tb:Nat)(h:VolW w a tb)(Q:Ending->World->Prop)(b:∀e w',Q e w'->∃n:Int,e = .returned (.int .i64 n))
  (f:Calls Tryz.prog 82 #[.pointer (some ⟨tb,0,none⟩)] w Q):Calls Tryz.prog 34 #[.pointer (some ⟨a,0,none⟩)] w Q:=by
 have g:=Ka w a tb h;have h1:w.cell? ⟨a,1,none⟩=some (.pointer (some ⟨tb,0,none⟩)):=VolW.c1 h;have d:=Db b;clear b h;go_enter Tryz.func34,Tryz.ntmps34;go_wp2_with (go_at_call 53;refine g.mono ?_;rintro e w' ⟨rfl,rfl⟩);refine f.mono ?_;intro e w1 c;obtain⟨n,rfl⟩:=Da d e w1 c;go_wp2;exact c
theorem readV(w:World)(b tb:Nat)(h:VolW w b tb)(p:By)(i n:Int)(Q:Ending->World->Prop)(d:∀e w',Q e w'->∃a n c k,e = .returned (.tuple #[.slice a n c,.int .i64 k]))
  (j:Calls Tryz.prog 119 #[.pointer (some ⟨tb,0,none⟩),.string p,.int .i64 i,.int .i64 n] w Q):Calls Tryz.prog 55 #[.pointer (some ⟨b,0,none⟩),.string p,.int .i64 i,.int .i64 n] w Q:=by
 have l:=Ka w b tb h;have h1:w.cell? ⟨b,1,none⟩=some (.pointer (some ⟨tb,0,none⟩)):=VolW.c1 h;have g:=Db d;clear d h;go_enter Tryz.func55,Tryz.ntmps55;go_wp2_with (go_at_call 53;refine l.mono ?_;rintro e w' ⟨rfl,rfl⟩);refine j.mono ?_;intro e w1 f;obtain⟨a,n,c,k,rfl⟩:=Da g e w1 f;go_wp2;exact f
theorem listV(w:World)(b tb:Nat)(h:VolW w b tb)(p:By)(Q:Ending->World->Prop)(d:∀e w',Q e w'->∃a n c k,e = .returned (.tuple #[.slice a n c,.int .i64 k]))
  (i:Calls Tryz.prog 120 #[.pointer (some ⟨tb,0,none⟩),.string p] w Q):Calls Tryz.prog 56 #[.pointer (some ⟨b,0,none⟩),.string p] w Q:=by
 have j:=Ka w b tb h;have h1:w.cell? ⟨b,1,none⟩=some (.pointer (some ⟨tb,0,none⟩)):=VolW.c1 h;have g:=Db d;clear d h;go_enter Tryz.func56,Tryz.ntmps56;go_wp2_with (go_at_call 53;refine j.mono ?_;rintro e w' ⟨rfl,rfl⟩);refine i.mono ?_;intro e w1 f;obtain⟨a,n,c,k,rfl⟩:=Da g e w1 f;go_wp2;exact f
theorem statV(w:World)(i tb:Nat)(h:VolW w i tb)(p:By)(Q:Ending->Prop)(n:∀e,Q e->∃a b c d k,e = .returned (.tuple #[.agg #[.string a,.bool b,.int .i64 c,.int .i64 d],.int .i64 k]))
  (q:∀W,Below w.heap.size w W->Calls Tryz.prog 121 #[.pointer (some ⟨tb,0,none⟩),.string p] W fun e w'=>Q e/\Below W.heap.size W w'):
  Calls Tryz.prog 57 #[.pointer (some ⟨i,0,none⟩),.string p] w fun e w'=>Q e/\Below w.heap.size w w':=by
 have j:∀o,Below w.heap.size w (w.alloc o):=fun o=>(Below.refl _ _).alloc (Nat.le_refl _) o
 have s:=fun o=>Ka (w.alloc o) i tb (VolW.alloc h o)
 have x:=fun o=>(VolW.c1 (VolW.alloc h o):(w.alloc o).cell? ⟨i,1,none⟩=some (.pointer (some ⟨tb,0,none⟩)))
 have m:=Db (Jd w [.string ⟨#[]⟩,.bool false,.int .i64 0,.int .i64 0] 112);have r:=fun o=>q _ (j o)
 have u:=Db n;clear n h q;go_enter Tryz.func57,Tryz.ntmps57;go_wp2_with (go_at_call 53;refine(s _).mono ?_;rintro e w' ⟨rfl,rfl⟩);refine(r _).mono ?_;rintro e w1 ⟨t,l⟩;obtain⟨a,b,c,d,k,rfl⟩:=Da u e t;have y:Below w.heap.size w w1:=(j _).trans (l.mono (by simp));have f:RowIs w1 w.heap.size 112 _:=(l.block _ (by simp)).trans (Da m);clear r j l m s x;have b0:=f.cell 0;have b1:=f.cell 1;have b2:=f.cell 2;have b3:=f.cell 3;have g0:=f.frozen 0;have g1:=f.frozen 1;have g2:=f.frozen 2;have g3:=f.frozen 3;go_wp2;have g:=Kl f (.string a) (.bool b) (.int .i64 c) (.int .i64 d);have z:=g.cell 0;have A:=g.cell 1;have B:=g.cell 2;have C:=g.cell 3;exact bodyPost_ret (v := .tuple #[.agg #[.string a,.bool b,.int .i64 c,.int .i64 d],.int .i64 k]) (by simp[results,Tryz.results57,go_sem,z,A,B,C]) rfl
   ⟨t,Qj y (Nat.le_refl _) _ _ _ _⟩
def ZoU(w:World)(e:Ending)(w':World):Prop:=
 ∃tb,e = .returned (.pointer (some ⟨tb,0,none⟩))/\w.heap.size<tb/\PS w' tb [] [] (fun _=>⟨#[]⟩)/\Below w.heap.size w w'/\∃rb vi,RowIs w' tb 214 [.pointer (some ⟨rb,0,none⟩),vi]/\RowIs w' rb 229 [.slice none 0 0]
theorem Zjs(w:World)(l:PkgOk w):Calls Tryz.prog 95 #[] w (ZoU w):=by
 go_enter Tryz.func95,Tryz.ntmps95;go_wp2;go_ret;have i:Below w.heap.size w ((w.alloc (.cells #[.slice none 0 0] 229)).alloc (.cells #[.pointer (some ⟨w.heap.size,0,none⟩),.slice none 0 0] 214)):=((Below.refl _ w).alloc (Nat.le_refl _) _).alloc (by simp) _;refine⟨_,rfl,by simp,⟨w.heap.size,fun _ => .slice none 0 0,fun _=>[],.slice none 0 0,?_,?_,?_,?_,?_,?_,by simp,fun g e=>by simp[Value.ownBlock]at e⟩,i,w.heap.size,.slice none 0 0,?_,(Jd w [.slice none 0 0] 229).alloc _⟩
 ·exact l.fr (X:=fun _=>False) (Fr.of_below i) id
 ·have:=Jd (w.alloc (.cells #[.slice none 0 0] 229)) [.pointer (some ⟨w.heap.size,0,none⟩),.slice none 0 0] 214;rw[show(w.alloc (.cells #[.slice none 0 0] 229)).heap.size=w.heap.size+1 by simp]at this;exact this
 ·have m:RowIs ((w.alloc (.cells #[.slice none 0 0] 229)).alloc (.cells #[.pointer (some ⟨w.heap.size,0,none⟩),.slice none 0 0] 214)) w.heap.size 229 [.slice none 0 0]:=(Jd w [.slice none 0 0] 229).alloc _;have c:∀ns b,IsDir [] w.heap.size ns b->ns=[]/\b=w.heap.size:=fun ns b h=>h.elim id (fun h=>by cases h)
  refine⟨fun x f=>(by cases f),fun ns b h=>?_,fun ns b h=>⟨rfl,.inl ⟨rfl,rfl⟩⟩,fun ns b h=>?_,fun ns b h=>?_,fun ns n b h d=>(c _ _ h).1.trans (c _ _ d).1.symm,fun ns n b b' g h d _ _=>(c _ _ h).2.trans (c _ _ d).2.symm,fun ns b h=>⟨Nat.le_of_eq (c _ _ h).2.symm,fun g e=>by simp[Value.ownBlock]at e⟩⟩
  ·obtain⟨-,rfl⟩:=c _ _ h;exact m
  ·exact fun j k x y _ h=>by simp at h
  ·intro a s;simp
 ·exact⟨rfl,.inl ⟨rfl,rfl⟩⟩
 ·exact fun j k x y _ h=>by simp at h
 ·intro x f
  cases f
 ·have:=Jd (w.alloc (.cells #[.slice none 0 0] 229)) [.pointer (some ⟨w.heap.size,0,none⟩),.slice none 0 0] 214;rw[show(w.alloc (.cells #[.slice none 0 0] 229)).heap.size=w.heap.size+1 by simp]at this;exact this
end Go.Proofs.YtaieidcohdhgpaaGreatDoor
