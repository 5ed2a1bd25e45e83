/- Told. -/
import Derived.Test.YtaieidcohdhgpaaGreatDoorYAN
import Derived.Lib.SlBytesRow
import Derived.Lib.BufferRead
import Derived.Laws.CopyOwn
import Derived.Sort.CutIn
namespace Go.Proofs.YtaieidcohdhgpaaGreatDoor
set_option maxHeartbeats 40000000
set_option maxRecDepth 100000
open Tryz
open Go.RowKit
structure KS where
 es:LI
 tp:Nat
 tx:Nat
 tn:Nat
 D:LY
def Dv(s:KS)(cl:Bool)(C:NB)(L:List It):By×Pl:=Jv (Dl s.es cl s.tp s.D) C ⟨s.tp+1,[],[]⟩ L
def DF(mf:Nat)(s:KS)(C:NB)(L:List It):By×Pl:=if DY (I6 (Dv s false C L).2.puts) 96<mf then Dv s true C L else Dv s false C L
def IH(mf:Nat)(C:NB)(L:List It)(s s':KS):Prop:=
 ((DF mf s C L).2.ps=[]/\s'=s)\/((DF mf s C L).2.ps≠[]/\Hk (DF mf s C L).2.puts s'.es/\s'.tp=GA (DF mf s C L).1/\s'.tx=GE (DF mf s C L).1/\s'.tn=s.tn+1/\s'.D=(Jw s.D (DF mf s C L).2.ps).set ((s.tn+1)%2) (Gv (s.tn+1) s'.tp s'.tx))
structure Hr(s:KS):Prop where
 srt:Gy s.es
 len:s.es.length<=10000
 tp:s.tp<1536
 dl:s.D.length=1536
 pl:∀x∈s.es,∃q:Nat,x.2=(q:Int)/\q<1536
theorem Hr.env{s:KS}(h:Hr s)(cl:Bool):Gt (Dl s.es cl s.tp s.D):=⟨h.srt,h.len,h.tp,h.dl,h.pl⟩
structure Hc(w:World)(stb db:Nat)(vk:Value)(s:KS)(vf vn vw ve:Value)(ps:LB)(ep:List Int):Prop where
 st:GW w stb db vk (s.tp:Nat) (s.tx:Nat) (s.tn:Nat) vf vn vw ve s.D ps ep
 sk:Sl w 350 2 vk s.es.length (Dr s.es)
 ok:∀k,Own vk k->¬GY stb db vn vw ve k
theorem Hc.below{w w':World}{stb db:Nat}{vk:Value}{s:KS}{vf vn vw ve:Value}{ps:LB}{ep:List Int}(h:Hc w stb db vk s vf vn vw ve ps ep)(a:Bw w w'):Hc w' stb db vk s vf vn vw ve ps ep:=
 ⟨h.st.below a,h.sk.kept (λk b _=>a.block k b),h.ok⟩
theorem Hc.lo{w:World}{stb db:Nat}{vk:Value}{s:KS}{vf vn vw ve:Value}{ps:LB}{ep:List Int}(h:Hc w stb db vk s vf vn vw ve ps ep):∀k,GY stb db vn vw ve k->k<w.heap.size:=λk e=>by
 rcases e with rfl|rfl|e|e|e
 ·exact h.st.row.lt
 ·exact h.st.disk.1.lt
 ·exact h.st.disk.2.1.1.lt e
 ·exact Sl.lt h.st.sw e
 ·exact h.st.se.lt e
theorem Hc.env{w:World}{stb db:Nat}{vk:Value}{s:KS}{vf vn vw ve:Value}{ps:LB}{ep:List Int}(h:Hc w stb db vk s vf vn vw ve ps ep)(cl:Bool):II w w.heap.size db stb 1 (Dl s.es cl s.tp s.D):=by
 obtain⟨b,d,c,rfl⟩:=h.st.disk.2.1.1.shape;exact⟨⟨vk,(h.st.row.cell 1).trans rfl,h.sk,λk a=>h.sk.lt a⟩,(h.st.row.cell 2).trans rfl,⟨vf,b,d,c,vw,ve,h.st.disk,λk a=>h.st.disk.2.1.1.lt a⟩,h.st.row.lt,h.st.disk.1.lt⟩
structure IP(w:World)(tb rd:Nat)(V:NV)(Ed:NS)(vi:Value)(G:Gh)(I:LF)(CI:IB)(ch:LY->List Ek)(dv:NV)(C:NB):Prop where
 wk:LP w tb rd V Ed vi G I CI ch dv
 ok:GD C (Dt ch)
 dat:∀y∈Dt ch,y.k=2->∃a2 l2 c2,dv y.f=.slice a2 l2 c2/\Sl w 5 1 (.slice a2 l2 c2) l2 (Dc (C y.f))
theorem IP.below{w w':World}{tb rd:Nat}{V:NV}{Ed:NS}{vi:Value}{G:Gh}{I:LF}{CI:IB}{ch:LY->List Ek}{dv:NV}{C:NB}(h:IP w tb rd V Ed vi G I CI ch dv C)(d:Bw w w'):IP w' tb rd V Ed vi G I CI ch dv C:=
 ⟨⟨h.wk.tw.below d (Aa _),h.wk.ok,h.wk.gl,h.wk.il,h.wk.ch,h.wk.num⟩,h.ok,λy f b=>by
  obtain⟨a,l,c,e,q⟩:=h.dat y f b;exact⟨a,l,c,e,q.kept (λk b _=>d.block k b)⟩⟩
theorem PO(s:By):GE s<18446744073709551616:=by
 have:=QV (Di (s.extract 2 s.size) 8).data.toList;rw[AG,show(Di (s.extract 2 s.size) 8).data.size=8 from Jc _ _]at this;exact this
section
variable{mf:Nat}{w:World}{stb db:Nat}{vk:Value}{s:KS}{vf vn vw ve:Value}{ps:LB}{ep:List Int}{tb rd:Nat}{V:NV}{Ed:NS}{vi:Value}{G:Gh}{I:LF}{CI:IB}{ch:LY->List Ek}{dv:NV}{C:NB}
theorem Hc.newPlan(h:Hc w stb db vk s vf vn vw ve ps ep)(k:Hr s)(f:∃j,j<96/\Dh s.es j<=0)(b:IP w tb rd V Ed vi G I CI ch dv C)(cl:Bool):
  Cl 131 #[.pointer (some ⟨db,0,none⟩),.pointer (some ⟨stb,1,none⟩),.pointer (some ⟨tb,0,none⟩),.bool cl] w (PY w db stb 1 (Dl s.es cl s.tp s.D) (Dv s cl C (Dt ch))):=
 ZhW w db stb 1 tb rd s.tp cl s.es s.D (k.env cl) (h.env cl) f V Ed vi G I CI ch dv b.wk C b.ok (λy m i=>by
  obtain⟨a,l,c,e,q⟩:=b.dat y m i;exact⟨a,l,c,e,q,λg d=>q.lt d⟩)
def NH(mf:Nat)(C:NB)(L:List It)(s s':KS)(ps ps':LB)(ep ep':List Int):Prop:=
 ((DF mf s C L).2.ps=[]/\ps'=ps/\ep'=ep++[((ps.length:Nat):Int)])\/((DF mf s C L).2.ps≠[]/\ps'=ps++(DF mf s C L).2.ps++[((s.tn+1)%2,Gv (s.tn+1) s'.tp s'.tx)]/\ep'=ep++[((ps.length+(DF mf s C L).2.ps.length:Nat):Int)]++[((ps.length+(DF mf s C L).2.ps.length+1:Nat):Int)])
def UG(mf:Nat)(w:World)(stb db:Nat)(vk:Value)(s:KS)(vf vn vw ve:Value)(ps:LB)(ep:List Int)(C:NB)(L:List It)(e:Ending)(w':World):Prop:=
 e=.returned (.tuple #[])/\∃s' vk' vw' ve' ps' ep',Hc w' stb db vk' s' vf vn vw' ve' ps' ep'/\IH mf C L s s'/\ps'.length<=ps.length+(DF mf s C L).2.ps.length+1/\ep'.length<=ep.length+2/\Dk w vw vw'/\Dk w ve ve'/\Dk w vk vk'/\Fr (GY stb db vn vw ve) w w'/\NH mf C L s s' ps ps' ep ep'
theorem Hc.carry(h:Hc w stb db vk s vf vn vw ve ps ep)(O:Hr s)(hT:GD C (Dt ch))(al:ps.length<=999990000)(ak:ep.length<=999999990)(P:s.tn+1<18446744073709551616){cl:Bool}(hF:DF mf s C (Dt ch)=Dv s cl C (Dt ch)){X:World}(z:Bw w X){pb:Nat}{O':Nat->Prop}(L:Qx X pb db stb 1 (Dl s.es cl s.tp s.D) (Dv s cl C (Dt ch)).2 (GA (Dv s cl C (Dt ch)).1:Nat) (GE (Dv s cl C (Dt ch)).1:Nat) O')(K:∀j,O' j->w.heap.size<=j):
  Cl 133 #[.pointer (some ⟨stb,0,none⟩),.pointer (some ⟨pb,0,none⟩)] X (UG mf w stb db vk s vf vn vw ve ps ep C (Dt ch)):=by
 have m:=QU hT (Dl s.es cl s.tp s.D) (O.env cl) (s.tp+1) (by have:=O.tp;omega);change MA (Dv s cl C (Dt ch)) at m;rw[<-hF]at L m;obtain⟨q,es,H,o,q2,S,U,W⟩:=L;have t:=h.below z;have ag:=h.lo;have hw:=z.size;have M:∀k,k=pb\/Own H k\/Own q k->¬GY stb db vn vw ve k:=λk f e=>by
  have h1:=ag k e;have h2:=K k ((W k).2 (by rcases f with e|e|e;exact .inl e;exact .inr (.inr e);exact .inr (.inl e)));omega
 have R:∀{Z:Nat->Prop} {w':World},Fr Z X w'->(∀k,Z k->GY stb db vn vw ve k)->Fr (GY stb db vn vw ve) w w':=λhf d=>(Fr.of_below z).then (hf.mono (Y:=GY stb db vn vw ve) (λk _ e=>d k e)) (λ_ _ e=>e)
 have E:∀{a b:Value},Dk X a b->Dk w a b:=λhn g c=>(hn g c).imp id (λe=>by omega)
 by_cases d:(DF mf s C (Dt ch)).2.ps=[]
 ·rw[d]at o;refine(ZkR X stb db pb vk _ _ _ vf vn vw ve s.D ps ep t.st db stb 1 _ cl _ q es _ _ H o (by omega) (M pb (.inl rfl))).mono ?_;rintro e w'⟨rfl,l,u,v,y⟩;have Q:∀k,(k=db\/Own ve k)->GY stb db vn vw ve k:=λk e=>by
   rcases e with e|e
   ·exact .inr (.inl e)
   ·exact .inr (.inr (.inr (.inr e)))
  have ab:=R y Q;have aj:Sl w' 350 2 vk s.es.length (Dr s.es):=t.sk.fr y (λg c e=>h.ok g c (Q g e));have ai:∀k,Own vk k->¬GY stb db vn vw l k:=λk f e=>by
   rcases e with e|e|e|e|e
   ·exact h.ok k f (.inl e)
   ·exact h.ok k f (.inr (.inl e))
   ·exact h.ok k f (.inr (.inr (.inl e)))
   ·exact h.ok k f (.inr (.inr (.inr (.inl e))))
   ·rcases v k e with e|e
    ·exact h.ok k f (.inr (.inr (.inr (.inr e))))
    ·have:=t.sk.lt f;omega
  have af:(ep++[((ps.length:Nat):Int)]).length<=ep.length+2:=by rw[Ab];simp
  have B:Hc w' stb db vk s vf vn vw l ps (ep++[((ps.length:Nat):Int)]):=⟨u,aj,ai⟩;exact⟨rfl,s,vk,vw,l,ps,_,B,.inl ⟨d,rfl⟩,by omega,af,λg c => .inl c,E v,λg c => .inl c,ab,.inl ⟨d,rfl,rfl⟩⟩
 ·have ah:=m.n2;have N:0<(DF mf s C (Dt ch)).2.ps.length:=List.length_pos_iff.2 d;obtain⟨F,i⟩:=ex (DF mf s C (Dt ch));rw[<-i]at o S U m N ah d;obtain⟨p,A⟩:=ex (GA F.1);obtain⟨x,D⟩:=ex (GE F.1);rw[<-A,<-D]at o;obtain⟨T,n⟩:∃T,s.tn+1=T:=⟨_,rfl⟩;rw[n]at P;refine(ZkS X stb db pb vk _ _ s.tn vf vn vw ve s.D ps ep t.st db stb 1 _ cl _ q es p x H F.2.ps o m.pl.2 N (by omega) (by omega) T n P (by rw[A];exact UR _) (by rw[D];exact PO _) M).mono ?_;rintro e w'⟨rfl,aa,l,u,v,y,r4,r5,r6⟩;obtain⟨r,J⟩:=ex ((Jw s.D F.2.ps).set (T%2) (Gv T p x));rw[<-J]at u;have B:Hc w' stb db q ⟨es,p,x,T,r⟩ vf vn aa l _ _:=⟨u,r5,r6⟩;have ac:IH mf C (Dt ch) s ⟨es,p,x,T,r⟩:=by
   unfold IH;rw[<-i];refine .inr ⟨d,⟨q2,S,U⟩,A,D,n.symm,?_⟩;rw[n];exact J
  have ad:(ps++F.2.ps++[(T%2,Gv T p x)]).length<=ps.length+(DF mf s C (Dt ch)).2.ps.length+1:=by rw[<-i];simp only[Ab,Al,AK];omega
  have ae:(ep++[((ps.length+F.2.ps.length:Nat):Int)]++[((ps.length+F.2.ps.length+1:Nat):Int)]).length<=ep.length+2:=by simp only[Ab,Al,AK];omega
  exact⟨rfl,_,q,aa,l,_,_,B,ac,ad,ae,E v,E y,λg c => .inr (K g ((W g).2 (.inr (.inl c)))),R r4 (λ_ e=>e),.inr ⟨by rw[<-i];exact d,by rw[<-i,n],by rw[<-i]⟩⟩
theorem RY(h:Hc w stb db vk s vf vn vw ve ps ep)(c:Hr s)(l:∃j,j<96/\Dh s.es j<=0)(f:IP w tb rd V Ed vi G I CI ch dv C)(v:ps.length<=999990000)(u:ep.length<=999999990)(x:s.tn+1<18446744073709551616):
  Cl 74 #[.pointer (some ⟨stb,0,none⟩),.pointer (some ⟨tb,0,none⟩)] w (UG 512 w stb db vk s vf vn vw ve ps ep C (Dt ch)):=by
 have H:w.cell? ⟨stb,0,none⟩=some (.pointer (some ⟨db,0,none⟩)):=(h.st.row.cell 0).trans rfl;obtain⟨N,i⟩:=ex (DY (I6 (Dv s false C (Dt ch)).2.puts) 96);have ai:N<=1536:=by rw[i];exact NT _ _
 have A:Hid (Cl 131 #[.pointer (some ⟨db,0,none⟩),.pointer (some ⟨stb,1,none⟩),.pointer (some ⟨tb,0,none⟩),.bool false] w.drew λe X=>∃pb,e=.returned (.pointer (some ⟨pb,0,none⟩))/\X.cell? ⟨stb,0,none⟩=some (.pointer (some ⟨db,0,none⟩))/\Hid (Cl 132 #[.pointer (some ⟨pb,100,none⟩)] X λe Y=>e=.returned (.int .i64 (N:Nat))/\Y.cell? ⟨stb,0,none⟩=some (.pointer (some ⟨db,0,none⟩))/\
   Hid (¬N<512->Cl 133 #[.pointer (some ⟨stb,0,none⟩),.pointer (some ⟨pb,0,none⟩)] Y (UG 512 w stb db vk s vf vn vw ve ps ep C (Dt ch)))/\
   Hid (N<512->Cl 131 #[.pointer (some ⟨db,0,none⟩),.pointer (some ⟨stb,1,none⟩),.pointer (some ⟨tb,0,none⟩),.bool true] Y.drew λe Z=>∃n,e=.returned (.pointer (some ⟨n,0,none⟩))/\Z.cell? ⟨stb,0,none⟩=some (.pointer (some ⟨db,0,none⟩))/\Hid (Cl 133 #[.pointer (some ⟨stb,0,none⟩),.pointer (some ⟨n,0,none⟩)] Z (UG 512 w stb db vk s vf vn vw ve ps ep C (Dt ch)))))):=by
  have O:Bw w w.drew:=(Ak _ _).drew;refine((h.below O).newPlan c l (f.below O) false).mono ?_;rintro e X⟨pb,O',rfl,al,ag,E,k,hO⟩;have y:Bw w X:=⟨k.os,k.tape,k.output,k.size,k.block⟩;have a:=QU f.ok (Dl s.es false s.tp s.D) (c.env false) (s.tp+1) (by have:=c.tp;omega);change MA (Dv s false C (Dt ch)) at a;refine⟨pb,rfl,((h.below y).st.row.cell 0).trans rfl,?_⟩;have aj:=E;obtain⟨T,es,vp,z,P,Q,R,q5⟩:=E;have L:Hk (Dv s false C (Dt ch)).2.puts es:=⟨P,Q,R⟩;refine(Xl X pb 100 T es z.cells.2.2.2.2.2.1 z.sa (L.places (by have:=a.n1;omega) a.pl.1)).mono ?_;rintro e Y⟨rfl,F⟩;have d:Bw w Y:=y.trans (F.mono y.size);refine⟨by rw[i,L.nd],((h.below d).st.row.cell 0).trans rfl,λg=>?_,λg=>?_⟩
  ·refine h.carry c f.ok v u x (cl:=false) (by unfold DF;rw[<-i,if_neg g]) d (pb:=pb) (O':=O') ?_ hO;exact⟨T,es,vp,z.below F,P,Q,R,q5⟩
  ·have m:Bw w Y.drew:=⟨d.os,d.tape,d.output,d.size,d.block⟩;refine((h.below m).newPlan c l (f.below m) true).mono ?_;rintro e Z⟨n,O2,rfl,ak,ah,ab,ac,aa⟩;have M:Bw w Z:=m.trans (ac.mono m.size);refine⟨n,rfl,((h.below M).st.row.cell 0).trans rfl,?_⟩;exact h.carry c f.ok v u x (cl:=true) (by unfold DF;rw[<-i,if_pos g]) M ab (λj l=>Af m.size (aa j l))
 clear h c l f v u x i;go_enter func74,ntmps74;go_upto_region 0 with fail;refine AE (S:=λX=>X.cell? ⟨stb,0,none⟩=some (.pointer (some ⟨db,0,none⟩))) (by kernel_rfl) H (λD=>?_);refine tk 0 ?_;refine tk 1 ?_;refine tk 2 ?_;refine tk 3 ?_;refine tk 4 ?_;refine tk 5 ?_;refine tk 6 ?_;refine tk 7 ?_;refine rk 8 (λK a=>?_);go_simp;go_at_call 131;refine(Da A).mono ?_;rintro e X⟨pb,rfl,ad,q⟩;go_wp2_with fail;refine a.out _ _ ad (λB=>?_);clear a K
 try simp only[pE]
 refine tk 9 ?_;refine AO (by kernel_rfl) ?_ _;clear D B A H;by_cases g:N<512
 ·have af:(N:Int)<512:=by omega
  go_upto_region 2 with(go_at_call 132;refine(Da q).mono ?_;rintro e Y⟨rfl,J,o,p⟩);have r:=Db (Da p g);clear o p q;refine AE (S:=λX=>X.cell? ⟨stb,0,none⟩=some (.pointer (some ⟨db,0,none⟩))) (by kernel_rfl) J (λD=>?_);refine tk 0 ?_;refine tk 1 ?_;refine tk 2 ?_;refine tk 3 ?_;refine tk 4 ?_;refine tk 5 ?_;refine tk 6 ?_;refine tk 7 ?_;refine rk 8 (λK a=>?_);go_simp;go_at_call 131;refine(Da r).mono ?_;rintro e Z⟨n,rfl,ae,U⟩;go_wp2_with fail;refine a.out _ _ ae (λB=>?_);clear a K
  try simp only[pE]
  refine tk 9 ?_;refine AO (by kernel_rfl) ?_ _;go_wp2_with(go_at_call 133;refine(Da U).mono ?_;intro e W b;obtain rfl:=b.1;have t:=Db b;clear b)
  go_end0
  exact Da t
 ·have af:¬(N:Int)<512:=by omega
  go_wp2_with(first|(go_at_call 132;refine(Da q).mono ?_;rintro e Y⟨rfl,J,o,p⟩;have r:=Db (Da o g);clear o p q)|(go_at_call 133;refine(Da r).mono ?_;intro e W b;obtain rfl:=b.1;have t:=Db b;clear b))
  go_end0
  exact Da t
end
def Jn:LI:=[(((Dd 3 0 0:Nat):Int),((16:Nat):Int))]
def Hp(D:LY):KS:=⟨[],15,0,0,D⟩
theorem YD(D:LY):(Dl [] false 15 D).put ⟨16,[],[]⟩ (Dd 3 0 0) DC=(16,⟨17,[(Dd 3 0 0,16)],[(16,DC)]⟩):=by
 have a:(Dl [] false 15 D).stay (Dd 3 0 0) DC=none:=rfl;unfold FZ.put;rw[a];show(DP (Dh []) 96 16%1536,(⟨DP (Dh []) 96 16%1536+1,[]++[(Dd 3 0 0,DP (Dh []) 96 16%1536)],[]++[(DP (Dh []) 96 16%1536,DC)]⟩:Pl))=_;rw[Mk]
 rfl
theorem ZQ(C:NB)(D:LY):Dv (Hp D) false C []=(DI 16 (Dp DC),⟨17,[(Dd 3 0 0,16)],[(16,DC)]⟩):=by
 have a:Dy (Dl [] false 15 D) 3 63 0 ⟨16,[],[]⟩ (⟨#[]⟩++⟨#[0]⟩)=(DI 16 (Dp DC),⟨17,[(Dd 3 0 0,16)],[(16,DC)]⟩):=by
  rw[Ud];unfold Dy;rw[show((⟨#[0]⟩:By).size+63-1)/63=1 from rfl];show(DI ((Dl [] false 15 D).put ⟨16,[],[]⟩ (Dd 3 0 0) DC).1 (Dp DC)++⟨#[]⟩,((Dl [] false 15 D).put ⟨16,[],[]⟩ (Dd 3 0 0) DC).2)=_;rw[Kv,YD]
 show DH (Dl [] false 15 D) 8 1 (Dy (Dl [] false 15 D) 3 63 0 ⟨16,[],[]⟩ (⟨#[]⟩++⟨#[0]⟩)).2 (Dy (Dl [] false 15 D) 3 63 0 ⟨16,[],[]⟩ (⟨#[]⟩++⟨#[0]⟩)).1=_;rw[a];unfold DH;rw[if_neg (by rw[Qf];omega)]
theorem s00_nd:I6 [(Dd 3 0 0,16)]=Dh Jn:=by
 funext j
 unfold I6 Dh Jn
 rfl
theorem ZP(C:NB)(D:LY):DF 512 (Hp D) C []=(DI 16 (Dp DC),⟨17,[(Dd 3 0 0,16)],[(16,DC)]⟩):=by
 unfold DF;rw[ZQ];rw[if_neg (by show ¬DY (I6 [(Dd 3 0 0,16)]) 96<512;rw[s00_nd,show DY (Dh Jn) 96=1504 from Ma];omega)]
theorem TW.empty{w:World}{tb c:Nat}{V:NV}{E:NS}{e:Value}{C:IB}(h:TW w tb c V E e [] [] C):IP w tb c V E e [] [] C (λ_=>[]) (λ_ => .slice none 0 0) (λ_=>⟨#[]⟩):=by
 have f:E c=[]:=by
  cases hl:E c with
  |nil=>rfl
  |cons x l=>
   have:=(h.d.en [] c (.inl ⟨rfl,rfl⟩) x.1 x.2).1 (by rw[hl];exact Ba)
   cases this
 refine⟨⟨h,⟨λx a=>(by cases a),λx a=>(by cases a),λx a=>(by cases a),CG,λ_ _ _ a=>(by cases a)⟩,Au _,Au _,λns b d=>?_,λx a=>(by cases a)⟩,?_,λy k=>(by cases k)⟩
 ·rcases d with⟨rfl,rfl⟩|d
  ·rw[f];rfl
  ·cases d
 ·exact⟨Au _,λx a=>(by cases a),λx a=>(by cases a),λx a=>(by cases a),λx a=>(by cases a),λi j x y _ g=>(by cases g)⟩
def Zm5(w:World)(stb db:Nat)(vf vn:Value)(D:LY)(e:Ending)(w':World):Prop:=
 ∃va vw ve ps ep,e=.returned (.tuple #[])/\GW w' stb db va ((16:Nat):Int) (Dp DC:Nat) ((1:Nat):Int) vf vn vw ve ((Jw D [(16,DC)]).set 1 (Gv 1 16 (Dp DC))) ps ep/\ps.length<=100/\Dk w (.slice none 0 0) vw/\Fr (GY stb db vn (.slice none 0 0) (.slice none 0 0)) w w'/\Sl w' 350 2 va 1 (Dr Jn)/\(∀k,Own va k->¬GY stb db vn vw ve k)/\∀k,Own va k->w.heap.size<=k
theorem Zky(w:World)(i l tb:Nat)(p q:Value)(D:LY)(H:D.length=1536)(h:GW w i l (.slice none 0 0) ((15:Nat):Int) 0 ((0:Nat):Int) p q (.slice none 0 0) (.slice none 0 0) D [] []){C:IB}(N:PS w tb [] [] C):
  Cl 74 #[.pointer (some ⟨i,0,none⟩),.pointer (some ⟨tb,0,none⟩)] w (Zm5 w i l p q D):=by
 obtain⟨rd,V,E,vi,I⟩:=N;have u:∀k,¬Own (.slice none 0 0) k:=λk e=>by simp[Own,Value.ownBlock]at e
 have O:Hc w i l (.slice none 0 0) (Hp D) p q (.slice none 0 0) (.slice none 0 0) [] []:=⟨h,⟨rfl,.inl ⟨rfl,rfl⟩⟩,λk a=>absurd a (u k)⟩;have M:Hr (Hp D):=⟨λj k x y _ K=>(by cases K),Au _,by show 15<1536;omega,H,λx c=>(by cases c)⟩;refine(RY O M ⟨1,by omega,by show Dh [] 1<=0;decide⟩ I.empty (Au _) (Au _) (by show 0+1<_;omega)).mono ?_;rintro e w'⟨rfl,b,vk',R,Q,z,A,m,r,n,g4,B,g6,F,G,_⟩;have a:=ZP (λ_=>⟨#[]⟩) D;have J:Dt (λ_=>([]:List Ek))=[]:=rfl;rw[J]at r n;rw[a]at n;rcases r with⟨s,_⟩|⟨_,o,d,f,v,g⟩
 ·rw[a]at s;cases s
 ·rw[a]at o d f g;rw[UZ _ _ (by omega)]at d;rw[PP _ _ (KJ _)]at f;have t:b.es=Jn:=by
   have L:b.es.length=1:=o.2.1;obtain⟨x,c⟩:∃x,b.es=[x]:=by
    match b.es,L with
    |[x],_=>exact⟨x,rfl⟩
   obtain⟨y,P,e⟩:=(o.2.2 x).1 (by rw[c];exact Ad.2 rfl);rw[c,e,Ad.1 P];rfl
  obtain⟨aa,tp',tx',tn',D'⟩:=b;dsimp only at t d f v g;subst t d f v;rw[show(Hp D).tn+1=1 from rfl]at g;subst g;have h2:z.length<=2:=by simpa using n
  exact⟨vk',R,Q,z,A,rfl,m.st,by omega,B,G,m.sk,m.ok,λk a=>(F k a).elim (λe=>absurd e (u k)) id⟩
def Jj:LY:=(((Jw DR [(16,DC)]).set 1 (Gv 1 16 (Dp DC))).set 0 (Gv 0 16 (Dp DC)))
def WV(w:World)(db:Nat)(vn:Value)(e:Ending)(w':World):Prop:=
 ∃stb vf' va,e=.returned (.pointer (some ⟨stb,0,none⟩))/\w.heap.size<=stb/\GW w' stb db va ((16:Nat):Int) (Dp DC:Nat) ((1:Nat):Int) vf' vn (.slice none 0 0) (.slice none 0 0) Jj [] []/\Hd w' vf' Jj/\Sl w' 350 2 va 1 (Dr Jn)/\(∀k,Own vf' k->w.heap.size<=k/\k≠stb/\¬Own va k/\k≠db/\¬Own vn k)/\(∀k,Own va k->w.heap.size<=k/\k≠stb/\k≠db/\¬Own vn k)/\Fr (λk=>k=db\/Own vn k) w w'
theorem Zif(w:World)(c tb:Nat)(u f:Value)(h:DU w c u f (.slice none 0 0) (.slice none 0 0) DR)(A:¬Own f c){C:IB}(B:PS w tb [] [] C):
  Cl 99 #[.pointer (some ⟨c,0,none⟩),.pointer (some ⟨tb,0,none⟩)] w (WV w c f):=by
 obtain⟨W,z,I,G,sW,g⟩:=De w [.pointer (some ⟨c,0,none⟩),.slice none 0 0,.int .i64 15,.int .u64 0,.int .u64 0] 179;have b:∀k,¬Own (.slice none 0 0) k:=λk e=>by simp[Own,Value.ownBlock]at e
 have ac:=h.1.lt;have D:GW W w.heap.size c (.slice none 0 0) ((15:Nat):Int) 0 ((0:Nat):Int) u f (.slice none 0 0) (.slice none 0 0) DR [] []:=by
  refine⟨I,⟨G _ _ _ h.1,⟨h.2.1.1.kept (λk a _=>g.block k a),h.2.1.2⟩,h.2.2⟩,Hw.nil _,⟨rfl,.inl ⟨rfl,rfl⟩⟩,by omega,⟨λe=>?_,b _,b _⟩,⟨A,b _,b _⟩,λk _=>b k,λk _=>b k,λk _=>b k⟩;have:=h.2.1.1.lt e;omega
 obtain⟨y,x⟩:∃V,V=Ic 0 (Gv 0 16 (Dp DC)):=⟨_,rfl⟩;have O:Hid (Cl 74 #[.pointer (some ⟨w.heap.size,0,none⟩),.pointer (some ⟨tb,0,none⟩)] W λe X=>e=.returned (.tuple #[])/\(X.cell? ⟨w.heap.size,4,none⟩=some (.int .u64 1)/\X.cell? ⟨w.heap.size,2,none⟩=some (.int .i64 16)/\X.cell? ⟨w.heap.size,3,none⟩=some (.int .u64 (Dp DC:Nat)))/\
   Hid (Cl 160 #[.agg #[.int .u64 0,.int .i64 16,.int .u64 (Dp DC:Nat)]] X.drew λe Y=>e=.returned y/\(Y.cell? ⟨w.heap.size,4,none⟩=some (.int .u64 1)/\Y.cell? ⟨w.heap.size,2,none⟩=some (.int .i64 16)/\Y.cell? ⟨w.heap.size,3,none⟩=some (.int .u64 (Dp DC:Nat)))/\
    Hid (Cl 159 #[.pointer (some ⟨c,0,none⟩),y] Y λe Z=>e=.returned (.tuple #[])/\(Z.cell? ⟨w.heap.size,4,none⟩=some (.int .u64 1)/\Z.cell? ⟨w.heap.size,2,none⟩=some (.int .i64 16)/\Z.cell? ⟨w.heap.size,3,none⟩=some (.int .u64 (Dp DC:Nat)))/\
     Hid (Cl 161 #[.pointer (some ⟨c,0,none⟩)] Z λe V=>e=.returned (.tuple #[])/\Hid (WV w c f (.returned (.pointer (some ⟨w.heap.size,0,none⟩))) V))))):=by
  have ae:PS W tb [] [] C:=by
   obtain⟨rd,V,E,vi,T⟩:=B;exact⟨rd,V,E,vi,T.below g (Aa _)⟩
  refine(Zky W w.heap.size c tb u f DR J9 D ae).mono ?_;rintro e X⟨t,al,aj,ay,an,rfl,s,ar,s2,r,s5,s6,s7⟩;have ah:=s;refine⟨rfl,⟨(s.row.cell 4).trans rfl,(s.row.cell 2).trans rfl,(s.row.cell 3).trans rfl⟩,?_⟩;refine(Ox X.drew 0 16 (Dp DC) (by omega) (by omega) (KJ _)).mono ?_;rintro e Y⟨rfl,p⟩;have j:Bw X Y:=⟨p.os,p.tape,p.output,p.size,p.block⟩;have q:=ah.below j;have H:Sl Y 350 2 t 1 (Dr Jn):=s5.kept (λk a _=>j.block k a);refine⟨by rw[x],⟨(q.row.cell 4).trans rfl,(q.row.cell 2).trans rfl,(q.row.cell 3).trans rfl⟩,?_⟩;rw[x];refine(q.write_call (by omega) 0 (by omega) _ (Ul _ _ _)).mono ?_;intro e Z F;obtain⟨am,d,u2,n⟩:=q.write F;have af:∀k,Own t k->k<Y.heap.size:=λk a=>H.lt a
  have ai:Sl Z 350 2 t 1 (Dr Jn):=H.fr n (λk a e=>s6 k a (by rcases e with e|e|e;exact .inr (.inl e);exact .inr (.inr (.inl e));exact .inr (.inr (.inr (.inl e)))));refine⟨F.1,⟨(d.row.cell 4).trans rfl,(d.row.cell 2).trans rfl,(d.row.cell 3).trans rfl⟩,?_⟩;refine(Ry Z c u f am aj _ d.disk d.nd.1).mono ?_;rintro e V⟨rfl,ak,v1,v2,m,v4⟩;have au:w.heap.size+1<=X.heap.size:=by have:=r.size;omega
  have av:=j.size;have aw:=n.size;have ad:∀k,k<w.heap.size->¬(k=c\/Own f k)->¬GY w.heap.size c f (.slice none 0 0) (.slice none 0 0) k:=λk a l e=>by
   rcases e with e|e|e|e|e
   ·omega
   ·exact l (.inl e)
   ·exact l (.inr e)
   ·exact b _ e
   ·exact b _ e
  refine⟨rfl,w.heap.size,ak,t,rfl,Aa _,⟨d.row.fr m (λe=>d.ne e),v1,Hw.nil _,⟨rfl,.inl ⟨rfl,rfl⟩⟩,d.ne,⟨d.ns.1,b _,b _⟩,⟨d.nd.1,b _,b _⟩,λk _=>b k,λk _=>b k,λk _=>b k⟩,v2,ai.fr m (λk a e=>s6 k a (.inr (.inl e))),λk a=>?_,λk a=>?_,?_⟩
  ·have h1:=v4 k a;refine⟨by omega,by omega,λe=>(by have:=af k e;omega),λe=>(by have:=d.disk.1.lt;omega),λe=>(by have:=d.disk.2.1.1.lt e;omega)⟩
  ·exact⟨(by have:=s7 k a;omega),λe=>s6 k a (.inl e),λe=>s6 k a (.inr (.inl e)),λe=>s6 k a (.inr (.inr (.inl e)))⟩
  ·refine⟨m.os.trans (n.os.trans (j.os.trans (r.os.trans g.os))),m.tape.trans (n.tape.trans (j.tape.trans (r.tape.trans g.tape))),m.output.trans (n.output.trans (j.output.trans (r.output.trans g.output))),by have:=m.size;omega,λk a l=>?_⟩;have ag:¬Own al k:=λe=>(s2 k e).elim (b _) (λe=>by omega)
   rw[m.block k (by omega) (λe=>l (.inl e)),n.block k (by omega) (λe=>by rcases e with e|e|e;exact l (.inl e);exact l (.inr e);exact ag e),j.block k (by omega),r.block k (by omega) (ad k a l),g.block k a]
 have Q:=Db z;have J:=Db (NQ 0 16 (Dp DC:Nat));have ax:IntKind.u64.wrap (1-1)=0:=by decide
 clear h A B z I G sW g D b ac x;go_enter func99,ntmps99;go_upto_region 2 with fail;rw[show w.alloc (.cells #[.pointer (some ⟨c,0,none⟩),.slice none 0 0,.int .i64 15,.int .u64 0,.int .u64 0] 179)=W from Da Q];go_upto_region 3 with(go_at_call 74;refine(Da O).mono ?_;rintro e X⟨rfl,U,L⟩);refine AE (S:=λX=>X.cell? ⟨w.heap.size,4,none⟩=some (.int .u64 1)/\X.cell? ⟨w.heap.size,2,none⟩=some (.int .i64 16)/\X.cell? ⟨w.heap.size,3,none⟩=some (.int .u64 (Dp DC:Nat))) (by kernel_rfl) U (λaq=>?_);refine tk 0 ?_;refine tk 1 ?_;refine tk 2 ?_;refine tk 3 ?_;refine tk 4 ?_;refine A5 (i:=5) (v:=.int .u64 0) rfl (by kernel_rfl) (by kernel_rfl) (by kernel_rfl) (λ_ _ _ h=>h) (Or.inl ⟨by rfl,?_⟩) (by assumption) ?_
 ·intro w R;(try dsimp only at R);go_simp
  rfl
 try simp only[pE]
 refine tk 6 ?_;refine tk 7 ?_;refine tk 8 ?_;refine tk 9 ?_;refine tk 10 ?_;refine A5 (i:=11) (v:=.agg #[.int .u64 0,.int .i64 16,.int .u64 (Dp DC:Nat)]) rfl (by kernel_rfl) (by kernel_rfl) (by kernel_rfl) (λ_ _ _ h=>h) (Or.inl ⟨by rfl,λV _=>Ow V 191 _ rfl (vs:=#[(0,.int .u64 0),(1,.agg #[.int .i64 16,.int .u64 (Dp DC:Nat)])]) (by simp[Act.eval]) (Da J)⟩) (by assumption) ?_
 try simp only[pE]
 refine rk 12 (λK o=>?_);go_simp;go_at_call 160;refine(Da L).mono ?_;rintro e Y⟨rfl,aa,M⟩;go_wp2_with fail;refine o.out _ _ aa (λao=>?_);clear o K
 try simp only[pE]
 refine rk 13 (λK o=>?_);go_simp;go_at_call 159;refine(Da M).mono ?_;rintro e Z⟨rfl,ab,N⟩;go_wp2_with fail;refine o.out _ _ ab (λap=>?_);clear o K
 try simp only[pE]
 refine AO (by kernel_rfl) ?_ _;go_wp2_with(go_at_call 161;refine(Da N).mono ?_;rintro e V⟨rfl,P⟩);go_ret;exact Da P
def Gq(w:World)(vb tb:Nat):Prop:=∃d s:Nat,FX w vb 41 [.pointer (some ⟨vb,0,none⟩),.pointer (some ⟨tb,0,none⟩),.pointer (some ⟨d,0,none⟩),.pointer (some ⟨s,0,none⟩)]
theorem Gq.c0{w:World}{a tb:Nat}(h:Gq w a tb):w.cell? ⟨a,0,none⟩=some (.pointer (some ⟨a,0,none⟩)):=by
 obtain⟨d,s,h⟩:=h;exact(FX.cell h 0).trans rfl
theorem Gq.c1{w:World}{a tb:Nat}(h:Gq w a tb):w.cell? ⟨a,1,none⟩=some (.pointer (some ⟨tb,0,none⟩)):=by
 obtain⟨d,s,h⟩:=h;exact(FX.cell h 1).trans rfl
theorem Gq.alloc{w:World}{a tb:Nat}(h:Gq w a tb)(o:Obj):Gq (w.alloc o) a tb:=by
 obtain⟨d,s,h⟩:=h;exact⟨d,s,FX.alloc h o⟩
theorem Z3(a:Addr)(w:World):(binOp .eql 25 (.pointer (some a)) (.pointer (some a))).run prog w=.ok (.bool true) w:=by
 obtain⟨j,b⟩:∃j,prog.info? 41=some j:=E8.1 (by kernel_rfl);exact run_eql_ptr_same w a underlying25 b
theorem Kn(w:World)(a tb:Nat)(h:Gq w a tb):Cl 53 #[.pointer (some ⟨a,0,none⟩)] w λe w'=>e=.returned (.bool true)/\w'=w:=by
 have h0:w.cell? ⟨a,0,none⟩=some (.pointer (some ⟨a,0,none⟩)):=Gq.c0 h;have hq:=Z3;go_enter func53,ntmps53;go_wp2;go_ret;exact⟨rfl,rfl⟩
theorem Mn(w:World)(a tb:Nat)(h:Gq w a tb)(p:By)(Q:Ending->World->Prop)(b:∀e w',Q e w'->∃n:Int,e=.returned (.int .i64 n))(f:Cl 122 #[.pointer (some ⟨tb,0,none⟩),.string p] w Q):Cl 58 #[.pointer (some ⟨a,0,none⟩),.string p] w Q:=by
 have g:=Kn w a tb h;have h1:w.cell? ⟨a,1,none⟩=some (.pointer (some ⟨tb,0,none⟩)):=Gq.c1 h;have d:=Db b;clear b h;go_enter func58,ntmps58;go_wp2_with(go_at_call 53;refine g.mono ?_;rintro e w'⟨rfl,rfl⟩);refine f.mono ?_;intro e w1 c;obtain⟨n,rfl⟩:=Da d e w1 c;go_wp2;exact c
theorem So(w:World)(a tb:Nat)(h:Gq w a tb)(p:By)(i:Int)(x:Value)(Q:Ending->World->Prop)(b:∀e w',Q e w'->∃n:Int,e=.returned (.int .i64 n))(f:Cl 123 #[.pointer (some ⟨tb,0,none⟩),.string p,.int .i64 i,x] w Q):Cl 59 #[.pointer (some ⟨a,0,none⟩),.string p,.int .i64 i,x] w Q:=by
 have g:=Kn w a tb h;have h1:w.cell? ⟨a,1,none⟩=some (.pointer (some ⟨tb,0,none⟩)):=Gq.c1 h;have d:=Db b;clear b h;go_enter func59,ntmps59;go_wp2_with(go_at_call 53;refine g.mono ?_;rintro e w'⟨rfl,rfl⟩);refine f.mono ?_;intro e w1 c;obtain⟨n,rfl⟩:=Da d e w1 c;go_wp2;exact c
theorem OX(w:World)(a tb:Nat)(h:Gq w a tb)(p:By)(i:Int)(Q:Ending->World->Prop)(b:∀e w',Q e w'->∃n:Int,e=.returned (.int .i64 n))(f:Cl 124 #[.pointer (some ⟨tb,0,none⟩),.string p,.int .i64 i] w Q):Cl 60 #[.pointer (some ⟨a,0,none⟩),.string p,.int .i64 i] w Q:=by
 have g:=Kn w a tb h;have h1:w.cell? ⟨a,1,none⟩=some (.pointer (some ⟨tb,0,none⟩)):=Gq.c1 h;have d:=Db b;clear b h;go_enter func60,ntmps60;go_wp2_with(go_at_call 53;refine g.mono ?_;rintro e w'⟨rfl,rfl⟩);refine f.mono ?_;intro e w1 c;obtain⟨n,rfl⟩:=Da d e w1 c;go_wp2;exact c
theorem Nc(w:World)(a tb:Nat)(h:Gq w a tb)(p q:By)(Q:Ending->World->Prop)(b:∀e w',Q e w'->∃n:Int,e=.returned (.int .i64 n))(f:Cl 125 #[.pointer (some ⟨tb,0,none⟩),.string p,.string q] w Q):Cl 61 #[.pointer (some ⟨a,0,none⟩),.string p,.string q] w Q:=by
 have g:=Kn w a tb h;have h1:w.cell? ⟨a,1,none⟩=some (.pointer (some ⟨tb,0,none⟩)):=Gq.c1 h;have d:=Db b;clear b h;go_enter func61,ntmps61;go_wp2_with(go_at_call 53;refine g.mono ?_;rintro e w'⟨rfl,rfl⟩);refine f.mono ?_;intro e w1 c;obtain⟨n,rfl⟩:=Da d e w1 c;go_wp2;exact c
theorem SZ(w:World)(a tb:Nat)(h:Gq w a tb)(p:By)(Q:Ending->World->Prop)(b:∀e w',Q e w'->∃n:Int,e=.returned (.int .i64 n))(f:Cl 127 #[.pointer (some ⟨tb,0,none⟩),.string p] w Q):Cl 63 #[.pointer (some ⟨a,0,none⟩),.string p] w Q:=by
 have g:=Kn w a tb h;have h1:w.cell? ⟨a,1,none⟩=some (.pointer (some ⟨tb,0,none⟩)):=Gq.c1 h;have d:=Db b;clear b h;go_enter func63,ntmps63;go_wp2_with(go_at_call 53;refine g.mono ?_;rintro e w'⟨rfl,rfl⟩);refine f.mono ?_;intro e w1 c;obtain⟨n,rfl⟩:=Da d e w1 c;go_wp2;exact c
theorem Sn(w:World)(a tb:Nat)(h:Gq w a tb)(Q:Ending->World->Prop)(b:∀e w',Q e w'->∃n:Int,e=.returned (.int .i64 n))(f:Cl 82 #[.pointer (some ⟨tb,0,none⟩)] w Q):Cl 34 #[.pointer (some ⟨a,0,none⟩)] w Q:=by
 have g:=Kn w a tb h;have h1:w.cell? ⟨a,1,none⟩=some (.pointer (some ⟨tb,0,none⟩)):=Gq.c1 h;have d:=Db b;clear b h;go_enter func34,ntmps34;go_wp2_with(go_at_call 53;refine g.mono ?_;rintro e w'⟨rfl,rfl⟩);refine f.mono ?_;intro e w1 c;obtain⟨n,rfl⟩:=Da d e w1 c;go_wp2;exact c
theorem L6(w:World)(b tb:Nat)(h:Gq w b tb)(p:By)(i n:Int)(Q:Ending->World->Prop)(d:∀e w',Q e w'->∃a n c k,e=.returned (.tuple #[.slice a n c,.int .i64 k]))(j:Cl 119 #[.pointer (some ⟨tb,0,none⟩),.string p,.int .i64 i,.int .i64 n] w Q):Cl 55 #[.pointer (some ⟨b,0,none⟩),.string p,.int .i64 i,.int .i64 n] w Q:=by
 have l:=Kn w b tb h;have h1:w.cell? ⟨b,1,none⟩=some (.pointer (some ⟨tb,0,none⟩)):=Gq.c1 h;have g:=Db d;clear d h;go_enter func55,ntmps55;go_wp2_with(go_at_call 53;refine l.mono ?_;rintro e w'⟨rfl,rfl⟩);refine j.mono ?_;intro e w1 f;obtain⟨a,n,c,k,rfl⟩:=Da g e w1 f;go_wp2;exact f
theorem M8(w:World)(b tb:Nat)(h:Gq w b tb)(p:By)(Q:Ending->World->Prop)(d:∀e w',Q e w'->∃a n c k,e=.returned (.tuple #[.slice a n c,.int .i64 k]))(i:Cl 120 #[.pointer (some ⟨tb,0,none⟩),.string p] w Q):Cl 56 #[.pointer (some ⟨b,0,none⟩),.string p] w Q:=by
 have j:=Kn w b tb h;have h1:w.cell? ⟨b,1,none⟩=some (.pointer (some ⟨tb,0,none⟩)):=Gq.c1 h;have g:=Db d;clear d h;go_enter func56,ntmps56;go_wp2_with(go_at_call 53;refine j.mono ?_;rintro e w'⟨rfl,rfl⟩);refine i.mono ?_;intro e w1 f;obtain⟨a,n,c,k,rfl⟩:=Da g e w1 f;go_wp2;exact f
theorem MW(w:World)(i tb:Nat)(h:Gq w i tb)(p:By)(Q:Ending->Prop)(n:∀e,Q e->∃a b c d k,e=.returned (.tuple #[.agg #[.string a,.bool b,.int .i64 c,.int .i64 d],.int .i64 k]))(q:∀W,Bw w W->Cl 121 #[.pointer (some ⟨tb,0,none⟩),.string p] W λe w'=>Q e/\Bw W w'):
  Cl 57 #[.pointer (some ⟨i,0,none⟩),.string p] w λe w'=>Q e/\Bw w w':=by
 have j:∀o,Bw w (w.alloc o):=λo=>(Ak _ _).alloc (Aa _) o
 have s:=λo=>Kn (w.alloc o) i tb (Gq.alloc h o)
 have x:=λo=>(Gq.c1 (Gq.alloc h o):(w.alloc o).cell? ⟨i,1,none⟩=some (.pointer (some ⟨tb,0,none⟩)))
 have m:=Db (Je w [.string ⟨#[]⟩,.bool false,.int .i64 0,.int .i64 0] 112);have r:=λo=>q _ (j o)
 have u:=Db n;clear n h q;go_enter func57,ntmps57;go_wp2_with(go_at_call 53;refine(s _).mono ?_;rintro e w'⟨rfl,rfl⟩);refine(r _).mono ?_;rintro e w1⟨t,l⟩;obtain⟨a,b,c,d,k,rfl⟩:=Da u e t;have y:Bw w w1:=(j _).trans (l.mono (by simp));have f:FX w1 w.heap.size 112 _:=(l.block _ (by simp)).trans (Da m);clear r j l m s x;have b0:=f.cell 0;have b1:=f.cell 1;have b2:=f.cell 2;have b3:=f.cell 3;have g0:=f.frozen 0;have g1:=f.frozen 1;have g2:=f.frozen 2;have g3:=f.frozen 3;go_wp2;have g:=JL f (.string a) (.bool b) (.int .i64 c) (.int .i64 d);have z:=g.cell 0;have A:=g.cell 1;have B:=g.cell 2;have C:=g.cell 3;exact Ap (v:=.tuple #[.agg #[.string a,.bool b,.int .i64 c,.int .i64 d],.int .i64 k]) (by simp[results,results57,go_sem,z,A,B,C]) rfl
   ⟨t,Qu y (Aa _) _ _ _ _⟩
def Ye(w:World)(e:Ending)(w':World):Prop:=
 ∃tb,e=.returned (.pointer (some ⟨tb,0,none⟩))/\w.heap.size<tb/\PS w' tb [] [] (λ_=>⟨#[]⟩)/\Bw w w'/\∃rb vi,FX w' tb 214 [.pointer (some ⟨rb,0,none⟩),vi]/\FX w' rb 229 [.slice none 0 0]
theorem Rb(w:World)(l:Gd w):Cl 95 #[] w (Ye w):=by
 go_enter func95,ntmps95;go_wp2;go_ret;have i:Bw w ((w.alloc (.cells #[.slice none 0 0] 229)).alloc (.cells #[.pointer (some ⟨w.heap.size,0,none⟩),.slice none 0 0] 214)):=((Ak _ w).alloc (Aa _) _).alloc (by simp) _;refine⟨_,rfl,by simp,⟨w.heap.size,λ_ => .slice none 0 0,λ_=>[],.slice none 0 0,?_,?_,?_,?_,?_,?_,by simp,λg e=>by simp[Value.ownBlock]at e⟩,i,w.heap.size,.slice none 0 0,?_,(Je w [.slice none 0 0] 229).alloc _⟩
 ·exact l.fr (X:=λ_=>False) (Fr.of_below i) id
 ·have:=Je (w.alloc (.cells #[.slice none 0 0] 229)) [.pointer (some ⟨w.heap.size,0,none⟩),.slice none 0 0] 214;rw[show(w.alloc (.cells #[.slice none 0 0] 229)).heap.size=w.heap.size+1 by simp]at this;exact this
 ·have m:FX ((w.alloc (.cells #[.slice none 0 0] 229)).alloc (.cells #[.pointer (some ⟨w.heap.size,0,none⟩),.slice none 0 0] 214)) w.heap.size 229 [.slice none 0 0]:=(Je w [.slice none 0 0] 229).alloc _;have c:∀ns b,FY [] w.heap.size ns b->ns=[]/\b=w.heap.size:=λns b h=>h.elim id (λh=>by cases h)
  refine⟨λx f=>(by cases f),λns b h=>?_,λns b h=>⟨rfl,.inl ⟨rfl,rfl⟩⟩,λns b h=>?_,λns b h=>?_,λns n b h d=>(c _ _ h).1.trans (c _ _ d).1.symm,λns n b b' g h d _ _=>(c _ _ h).2.trans (c _ _ d).2.symm,λns b h=>⟨Ee (c _ _ h).2.symm,λg e=>by simp[Value.ownBlock]at e⟩⟩
  ·obtain⟨-,rfl⟩:=c _ _ h;exact m
  ·exact λj k x y _ h=>by simp at h
  ·intro a s;simp
 ·exact⟨rfl,.inl ⟨rfl,rfl⟩⟩
 ·exact λj k x y _ h=>by simp at h
 ·intro x f
  cases f
 ·have:=Je (w.alloc (.cells #[.slice none 0 0] 229)) [.pointer (some ⟨w.heap.size,0,none⟩),.slice none 0 0] 214;rw[show(w.alloc (.cells #[.slice none 0 0] 229)).heap.size=w.heap.size+1 by simp]at this;exact this
def Hg(w:World)(vb tb db stb:Nat):Prop:=FX w vb 41 [.pointer (some ⟨vb,0,none⟩),.pointer (some ⟨tb,0,none⟩),.pointer (some ⟨db,0,none⟩),.pointer (some ⟨stb,0,none⟩)]
theorem Hg.vol{w:World}{c tb a b:Nat}(h:Hg w c tb a b):Gq w c tb:=⟨a,b,h⟩
theorem R6(w:World)(tb b c:Nat):Cl 77 #[.pointer (some ⟨tb,0,none⟩),.pointer (some ⟨b,0,none⟩),.pointer (some ⟨c,0,none⟩)] w λe w'=>e=.returned (.pointer (some ⟨w.heap.size,0,none⟩))/\Hg w' w.heap.size tb b c/\Bw w w'/\w.heap.size<w'.heap.size:=by
 obtain⟨W,j,a,k,f,d⟩:=De w [.pointer none,.pointer (some ⟨tb,0,none⟩),.pointer (some ⟨b,0,none⟩),.pointer (some ⟨c,0,none⟩)] 41;go_enter func77,ntmps77;go_upto_region 2 with fail;have b0:=a.cell 0;have g0:=a.frozen 0;have i:=Db a;have g:=Db d;have h:=Db f;clear j k d a f;go_wp2;go_ret;exact⟨rfl,(Da i).set 0 _,(Da g).setCell (p:=⟨w.heap.size,0,none⟩) (Aa _) _,by have:=Da h;simp[World.setCell];omega⟩
def Ph(w:World)(tb:Nat)(e:Ending)(w':World):Prop:=
 ∃vb db stb vf vn va,e=.returned (.pointer (some ⟨vb,0,none⟩))/\Hg w' vb tb db stb/\GW w' stb db va ((16:Nat):Int) (Dp DC:Nat) ((1:Nat):Int) vf vn (.slice none 0 0) (.slice none 0 0) Jj [] []/\Hd w' vf Jj/\Sl w' 350 2 va 1 (Dr Jn)/\Bw w w'/\w.heap.size<=vb/\w.heap.size<=db/\w.heap.size<=stb/\vb≠db/\vb≠stb/\(∀k,Own vf k->w.heap.size<=k/\k≠stb/\k≠db/\¬Own va k/\¬Own vn k/\k≠vb)/\(∀k,Own va k->w.heap.size<=k/\k≠stb/\k≠db/\¬Own vn k/\k≠vb)/\(∀k,Own vn k->w.heap.size<=k/\k≠vb)
theorem Zf2(w:World)(tb:Nat){C:IB}(q:PS w tb [] [] C):
  Cl 40 #[.pointer (some ⟨tb,0,none⟩)] w (Ph w tb):=by
 have v:Hid (Cl 98 #[] w λe X=>∃c,e=.returned (.pointer (some ⟨c,0,none⟩))/\Hid (Cl 99 #[.pointer (some ⟨c,0,none⟩),.pointer (some ⟨tb,0,none⟩)] X λe Y=>∃d,e=.returned (.pointer (some ⟨d,0,none⟩))/\Hid (Cl 77 #[.pointer (some ⟨tb,0,none⟩),.pointer (some ⟨c,0,none⟩),.pointer (some ⟨d,0,none⟩)] Y λe Z=>∃m,e=.returned (.pointer (some ⟨m,0,none⟩))/\Hid (Ph w tb (.returned (.pointer (some ⟨m,0,none⟩))) Z)))):=by
  refine(VJ w).mono ?_;rintro e X⟨c,L,s,rfl,F,y,-,f,-,l,-⟩;refine⟨c,rfl,?_⟩;have p:=f.size;have I:PS X tb [] [] C:=by
   obtain⟨J,V,E,M,z⟩:=q;exact⟨J,V,E,M,z.below f (Aa _)⟩
  refine(Zif X c tb L s y (λe=>(l _ e).2 rfl) I).mono ?_;rintro e Y⟨d,K,r,rfl,ab,h,j,o,H,G,g⟩;refine⟨d,rfl,?_⟩;have B:=g.size;refine(R6 Y tb c d).mono ?_;rintro e Z⟨rfl,A,i,aa⟩;have D:Bw w Y:=⟨g.os.trans f.os,g.tape.trans f.tape,g.output.trans f.output,Af p B,λk a=>(g.block k (by omega) (λe=>by
   rcases e with e|e
   ·omega
   ·have:=(l _ e).1;omega)).trans (f.block k a)⟩
  have l1:=h.disk.1.lt;have l2:=h.row.lt;have ac:∀k,Own r k->w.heap.size<=k\/k<w.heap.size:=λk _=>by omega
  refine⟨Y.heap.size,rfl,Y.heap.size,c,d,K,s,r,rfl,A,h.below i,⟨j.1.kept (λk a _=>i.block k a),j.2⟩,o.kept (λk a _=>i.block k a),D.trans (i.mono (by omega)),by omega,F,by omega,by omega,by omega,λk a=>?_,λk a=>?_,λk a=>?_⟩
  ·have b:=H k a;have n:=j.1.lt a;exact⟨by omega,b.2.1,b.2.2.2.1,b.2.2.1,b.2.2.2.2,by omega⟩
  ·have b:=G k a;have n:=o.lt a;exact⟨Af p b.1,b.2.1,b.2.2.1,b.2.2.2,by omega⟩
  ·have b:=l k a;have n:=h.disk.2.1.1.lt a;exact⟨b.1,by omega⟩
 clear q;go_enter func40,ntmps40;go_wp2_with(first|(go_at_call 98;refine(Da v).mono ?_;rintro e X⟨c,rfl,t⟩)|(go_at_call 99;refine(Da t).mono ?_;rintro e Y⟨d,rfl,u⟩)|(go_at_call 77;refine(Da u).mono ?_;rintro e Z⟨m,rfl,x⟩));go_ret;exact Da x
def Rv(w:World)(e:Ending)(w':World):Prop:=
 ∃tb w1,w.heap.size<tb/\Bw w w1/\tb<w1.heap.size/\PS w' tb [] [] (λ_=>⟨#[]⟩)/\Ph w1 tb e w'
theorem Xb(w:World)(b:Gd w):Cl 71 #[] w (Rv w):=by
 have g:Hid (Cl 95 #[] w λe X=>∃tb,e=.returned (.pointer (some ⟨tb,0,none⟩))/\Hid (Cl 40 #[.pointer (some ⟨tb,0,none⟩)] X λe Y=>∃a,e=.returned (.pointer (some ⟨a,0,none⟩))/\Hid (Rv w (.returned (.pointer (some ⟨a,0,none⟩))) Y))):=by
  refine(Rb w b).mono ?_;rintro e X⟨tb,rfl,l,c,k,rb,vi,n,hr⟩;refine⟨tb,rfl,?_⟩;refine(Zf2 X tb c).mono ?_;intro e Y d;have m:=d;obtain⟨a,db,aa,vf,vn,va,rfl,h1,h2,h3,h4,j,h6⟩:=d;refine⟨a,rfl,tb,X,l,k,n.lt,?_,m⟩;obtain⟨o,V,E,p,h⟩:=c;exact⟨o,V,E,p,h.below j (Aa _)⟩
 clear b;go_enter func71,ntmps71;go_wp2_with(first|(go_at_call 95;refine(Da g).mono ?_;rintro e X⟨tb,rfl,f⟩)|(go_at_call 40;refine(Da f).mono ?_;rintro e Y⟨a,rfl,i⟩));go_ret;exact Da i
theorem Mp(w:World)(b tb a p:Nat)(h:Hg w b tb a p)(g i vw f:Value)(D:LY)(d:DU w a g i vw f D):Cl 28 #[.pointer (some ⟨b,0,none⟩)] w (PX w D):=by
 have n:=Kn w b tb h.vol;have j:=Db (ZkC w a g i vw f D d);have c2:w.cell? ⟨b,2,none⟩=some (.pointer (some ⟨a,0,none⟩)):=(FX.cell h 2).trans rfl;clear h d;go_enter func28,ntmps28;go_wp2_with(first|(go_at_call 53;refine n.mono ?_;rintro e w'⟨rfl,rfl⟩)|(go_at_call 78;refine(Da j).mono ?_;rintro e w'⟨l,o,m,rfl,c⟩;have k:=Db c;clear c));go_ret;exact⟨l,o,m,rfl,Da k⟩
def JT(tb:Nat)(w:World)(k:Nat):Prop:=(∃t R,FX w k t R/\(t=214\/t=229\/t=310\/t=293\/t=89\/t=103\/t=9))/\tb<=k+1
structure R9(w:World)(tb rb:Nat)(vl vf:Value)(L:List (By×Int))(F:LY):Prop extends R8 w rb vl vf L F where
 lo:∀k,MF rb vl vf k->tb<=k+1
def Md(w:World)(vb tb rb:Nat)(L:List (By×Int))(F:LY)(L':List (By×Int))(F':LY):Prop:=
 ∃G I C ρ vl vf,Gq w vb tb/\PS w tb G I C/\R9 w tb rb vl vf L F/\Rl G I C ρ L' F'/\cD G []+I.length<=60
section
variable{w w':World}{vb tb rb:Nat}{L L' L1:List (By×Int)}{F F' F1:LY}{G G':Gh}{I I':LF}{C C':IB}{ρ ρ':Int->Nat}{vl vf:Value}
end
section
variable{w:World}{vb tb rb:Nat}{L:List (By×Int)}{F:LY}
end
def NN(w:World)(xb vb rb:Nat)(kp ep fs:Value):Prop:=FX w xb 55 [.pointer (some ⟨vb,0,none⟩),.pointer (some ⟨rb,0,none⟩),kp,ep,fs]
structure K1(w W:World)(vb tb rb xb:Nat)(kp ep fs:Value)(ob:Nat)(O:F0)(L:List (By×Int))(F:LY)(L':List (By×Int))(F':LY):Prop where
 fr:Fr (JT tb w) w W
 md:Md W vb tb rb L F L' F'
 x:NN W xb vb rb kp ep fs
 o:FX W ob 51 O
section
variable{w W W':World}{vb tb rb xb ob:Nat}{kp ep fs:Value}{O:F0}{L L' L1:List (By×Int)}{F F' F1:LY}
end



section
variable{w w':World}{vb tb rb B:Nat}{L L' L1:List (By×Int)}{F F' F1:LY}{G G':Gh}{I I':LF}{C C':IB}{ρ ρ':Int->Nat}{vl vf:Value}
end
section
variable{w:World}{vb tb rb:Nat}{L:List (By×Int)}{F:LY}
end





structure En where
 n:By
 d:Bool
 s:Int
 l:Int
def Nr(x:En):F0:=[.string x.n,.bool x.d,.int .i64 x.s,.int .i64 x.l]
def J1(es:List En):F0:=es.flatMap Nr
theorem Zhc(a b:List En):J1 (a++b)=J1 a++J1 b:=by simp[J1]
theorem ZkO(es:List En):∀u∈J1 es,u.oneCell'=true:=by
 intro u a;simp only[J1,EC,Nr,AC,Fw,or_false]at a;obtain⟨x,_,rfl|rfl|rfl|rfl⟩:=a<;>simp[Value.oneCell']

theorem SD:(prog.info? 112).map (λi=>(i.zero,i.size,i.bytes))=some (some (.agg #[.string ⟨#[]⟩,.bool false,.int .i64 0,.int .i64 0]),4,40):=by kernel_rfl
theorem L4:prog.underlying 99=some (.slice 112):=by kernel_rfl
theorem O4(w:World)(v:Value)(es:List En)(f:Sl w 112 4 v es.length (J1 es))(hl:es.length+1<=2000000)(x:En)(nb:Nat)(h:FX w nb 112 (Nr x)):
  ∃d w2,(Builtin.append_ #[99,99] 99 #[v,.slice (some ⟨nb,0,none⟩) 1 1]).run prog w=.ok d w2/\∃a n c,d=.slice a n c/\Sl w2 112 4 (.slice a n c) (es++[x]).length (J1 (es++[x]))/\w.grownBy w2 v.ownBlock/\Dk w v (.slice a n c):=by
 obtain⟨m,g,i,k,l⟩:=BT SD;obtain⟨d,w2,o,e,p,q⟩:=Qa (P:=prog) w 99 99 112 m _ 4 40 L4 g i k l rfl (by decide) v es.length (J1 es) f ⟨nb,0,none⟩ 1 1 (Nr x) rfl
  (λj u b=>by rw[AI,Av,h.cell];exact b) (λu b=>ZkO [x] u (by simpa [J1] using b)) (by unfold maxLen;omega) (by omega)
 obtain⟨a,n,c,rfl⟩:=e.shape;refine⟨_,w2,o,a,n,c,rfl,?_,p,q⟩;rw[Ab,Zhc]
 simpa [J1] using e
section
open Go.RowKit Go.Shelf
attribute [local go_sem] Oper.semAt_some
theorem Zdx{F:Fence}{n:Nat}{P:Program}{h:Array Oper}{o:Oper}{a:Act}{w:World}{K:Act->World->Prop}{Q:Exit->Act->World->Prop}{E:Prop}(q:o.guard=none)(d x:Operand)(g i:TypeId)(e:o.op=Op.call { callee:=Callee.builtin Builtin.append,args:=#[d,x],argTypes:=#[g,i] })(v u:Value)(p:a.eval d=v)(t:a.eval x=u){f:Value->World->Prop}(r:∃b w',(Builtin.append_ #[g,i] o.type #[v,u]).run P w=.ok b w'/\f b w')(l:∀b w',f b w'->K (a.put o.dst b) w'):
  if Region.wanted o (yielded h a.tmps)=true then Oper.wpIn F n P o a w K Q else E:=by
 obtain⟨b,w',j,k⟩:=r;have s:Region.wanted o (yielded h a.tmps)=true:=by simp[Region.wanted,q]
 rw[if_pos s];unfold Oper.wpIn;refine⟨?_,?_⟩
 ·simp[Oper.about,e,resolve,Target.leads,Sem.run_pure]
 ·rw[Ft F _ _ (by rw[e];intro c m;cases m)];simp[execOp,e,resolve,invoke,builtin,p,t,j,Result.andThen];exact l _ _ k
theorem ZhH{l n:Nat}{P:Program}{k:Array Oper}{o:Oper}{a:Act}{w:World}{K:Act->World->Prop}{Q:Exit->Act->World->Prop}{E:Prop}(C:o.guard=none)(f:FuncId)(m p q:Operand)(H:Array TypeId)(j:o.op=Op.call { callee:=Callee.value (.func f),args:=#[m,p,q],argTypes:=H })(b d g:Value)(r:a.eval m=b)(s:a.eval p=d)(t:a.eval q=g)(z:(callFunc f #[b,d,g]).run P w=.ok (.enter f #[b,d,g]) w){i:Ending->World->Prop}(x:Calls P f #[b,d,g] w i)(u:∀e w',i e w'->∃v,e=.returned v/\K (a.put o.dst v) w'):
  if Region.wanted o (yielded k a.tmps)=true then Oper.wpIn (Fence.wide.inRound l) n P o a w K Q else E:=by
 have G:Region.wanted o (yielded k a.tmps)=true:=by simp[Region.wanted,C]
 rw[if_pos G];unfold Oper.wpIn;have B:a.eval (.func f)=.func (.func f) #[] #[]:=rfl;have A:(execOp a.eval o).run P w=.ok (.enter f #[b,d,g]) w:=by
  simp[execOp,j,resolve,r,s,t,B,Deferred.ofValue,invoke,z]
 refine⟨λ_ _=>trivial,?_⟩;rw[Ft _ _ _ (by rw[j];intro c y;cases y),A,Oper.uponIn_enter];refine⟨λh=>by simp[Fence.inRound,Fence.wide]at h,(Cx l (A2.2 x)).mono (λe w' F=>?_)⟩;obtain⟨v,rfl,D⟩:=u e w' F;exact D
def IE(G:Gh)(I:LF)(ns:LY)(xs:LS)(es:List En):Prop:=
 es.length=xs.length/\∀(j:Nat) x y,xs[j]?=some x->es[j]?=some y->Qm G I (ns++[x.1]) x.1 x.2 (.agg #[.string y.n,.bool y.d,.int .i64 y.s,.int .i64 y.l])
theorem IE.snoc{G:Gh}{I:LF}{ns:LY}{xs:LS}{es:List En}(h:IE G I ns xs es){x:By×VS}{y:En}(d:Qm G I (ns++[x.1]) x.1 x.2 (.agg #[.string y.n,.bool y.d,.int .i64 y.s,.int .i64 y.l])):IE G I ns (xs++[x]) (es++[y]):=by
 refine⟨by simp[h.1],λj e f a c=>?_⟩;rcases CB j xs.length with b|b|b
 ·rw[AW b]at a;rw[AW (by rw[h.1];exact b)]at c;exact h.2 j e f a c
 ·subst b;rw[FF]at a;rw[<-h.1,FF]at c
  cases a;cases c;exact d
 ·rw[BA (by simp;omega)]at a;cases a
def MH(w:World)(tb BL:Nat)(G:Gh)(I:LF)(ns:LY)(xs:LS)(W:World):Prop:=
 ∃v es,FX W BL 99 [v]/\FX W w.heap.size 37 [.pointer (some ⟨tb,0,none⟩)]/\Sl W 112 4 v es.length (J1 es)/\IE G I ns xs es/\Bw w W/\(∀g,v.ownBlock=some g->w.heap.size<=g)
theorem OI{W:World}{k:Nat}{t:TypeId}{R:F0}(h:FX W k t R){o:Obj}(ho:W.heap[k]?=some o):o.isCells=true:=by
 unfold FX at h;rw[h]at ho;cases ho;rfl
theorem MH.own{α : Type}(u : α -> By×VS)(w:World)(tb BL:Nat)(G:Gh)(I:LF)(ns:LY)(B:Nat)(q:w.heap.size<=B):OwnFrom B (λ(j:List α) W=>MH w tb BL G I ns (j.map u) W):=by
 rintro j X Y row⟨v,es,l,m,f,n,g,p⟩ c d;have i:∀k t R,FX X k t R->FX Y k t R:=λk t R h=>h.kept c (λb=>by
  obtain⟨_,o,ho,a⟩:=d k b.symm;rw[OI h ho]at a;cases a)
 refine⟨v,es,i _ _ _ l,i _ _ _ m,f.kept (λk s e=>c.block k s (λb=>?_)),n,g.grown c g.size (λk e=>Af q (d k e).1),p⟩;obtain⟨R,r⟩:=f.type e;obtain⟨_,o,ho,a⟩:=d k b.symm;rw[OI r ho]at a;cases a
end
section
variable{G:Gh}{I:LF}{C:IB}{ρ : Int->Nat}{L:List (By×Int)}{F:LY}
end
section
open Go.RowKit Go.Shelf
attribute [local go_sem] Oper.semAt_some
def Pj(w:World)(G:Gh)(I:LF)(ns:LY)(xs:LS)(e:Ending)(w':World):Prop:=
 (∃a n c es,e=.returned (.tuple #[.slice a n c,.int .i64 0])/\Sl w' 112 4 (.slice a n c) es.length (J1 es)/\IE G I ns xs es)/\Bw w w'
theorem Zks(w:World)(tb rd:Nat)(V:NV)(E:NS)(vi:Value)(G:Gh)(I:LF)(C:IB)(h:TW w tb rd V E vi G I C)(hG:Gk G)(am:G.length<=10000)(aZ:I.length<=10000)(aB:GQ G I)(p:By)(hp:p.size<=2000000)(aR:Hx G p=0)(b:Nat)(hd:FY G rd (Df p) b)(an:Df p=[]\/Gl G (Df p)=some ⟨some ⟨b,0,none⟩,0⟩):
  Cl 120 #[.pointer (some ⟨tb,0,none⟩),.string p] w (Pj w G I (Df p) (E b)):=by
 have aG:∀o,Bw w (w.alloc o):=λo=>(Ak _ _).alloc (Aa _) o
 have az:Hid (∀o,Cl 177 #[.pointer (some ⟨tb,0,none⟩),.string p] (w.alloc o) λe w'=>∃d n,e=.returned (.tuple #[Dj d n true ⟨some ⟨b,0,none⟩,0⟩,.int .i64 0])/\Below (w.alloc o).heap.size (w.alloc o) w'):=λo=>
  (RM (w.alloc o) tb rd V E vi G I C (h.below (aG o) (Aa _)) hG am p hp).mono (λe w' ⟨bg,H⟩=>by
   rcases bg with⟨bc,_⟩|⟨_,bs,d,n,u,bi,rfl⟩
   ·exact absurd aR bc
   ·refine⟨d,n,?_,H⟩;rcases Ot h.d bi with⟨e,_⟩|⟨_,S,M,U⟩|⟨_,b',M,U,_⟩
    ·cases e
    ·rcases an with h4|h4
     ·exact absurd h4 S
     ·rw[h4]at M;cases M;cases U
    ·have:=U.func hG hd;subst this;rw[M])
 have hS:=h.d.sl (Df p) b hd;have a9:=h.d.le hG hd;have aO:=h.d.row (Df p) b hd;have hc:=aO.cell 0;have aK:b<w.heap.size:=aO.lt;have ay:Hid (∀W,Bw w W->Cl 178 #[.pointer (some ⟨b,0,none⟩)] W λe w'=>e=.returned (.int .i64 (E b).length)/\w'=W):=λW H=>Lp W b 0 (V b) (E b).length (Dm (E b)) ((H.cell (p:=⟨b,0,none⟩) aK).trans hc) (hS.kept (λk s _=>H.block k s))
 obtain⟨i0,a8,bl,bm,bn⟩:=BT SD;have HH:=Db h;have aW:=Db aB;have bo:=Db an;clear h aB aR aG an;refine(A2 (n:=3)).1 ?_;refine Br func120 rfl trivial ?_ rfl;simp only[ntmps120,AM,Al,AK,Nat.reduceAdd,Nat.reduceSub,AQ,AP,AZ,AT,AD,AN]
 gi_wp2_with fail
 refine⟨trivial,?_⟩;refine(A2.2 (Da az _)).mono ?_;rintro e w1⟨d,n,rfl,ao⟩;have H:Bw w w1:=((Ak _ w).alloc (Aa _) _).trans (ao.mono (by simp));have aN:FX w1 w.heap.size 37 [.pointer (some ⟨tb,0,none⟩)]:=(ao.block _ (by simp)).trans (Je w [.pointer (some ⟨tb,0,none⟩)] 37);unfold Dj;clear az ao;obtain⟨T,aD,aT,aL,aQ,aI⟩:=De w1 (DG d n true ⟨some ⟨b,0,none⟩,0⟩) 262;have aj:=aL _ _ _ aN;have ac:Bw w T:=H.trans (aI.mono H.size);have aA:=Db aD;have aY:=Db aQ;clear aD aL aN aQ aI
 gi_upto_region 4 with fail
 rw[Da aA];have a3:=aT.cell 3;clear aA
 gi_wp2_with fail
 refine⟨trivial,?_⟩;refine(A2.2 (Da ay T ac)).mono ?_;rintro e w'⟨rfl,hw⟩;rw[hw];clear hw
 gi_wp2_with (first|(gi_at_make;refine wpListIn_make_own _ rfl _ _ 99 rfl w.heap.size 112 i0 _ 4 L4 a8 bl bm _ _ _ (E b).length rfl rfl rfl (by rw[bn];omega) (by unfold maxLen;omega) ac.size ?_;intro f aM ah)|(refine⟨trivial,?_⟩;gi_at_call 179;refine(PA _ _ trivial rfl _ _).mono ?_;rintro e w'⟨rfl,rfl⟩))
 obtain⟨q,ab⟩:∃q,(f.alloc (Obj.cells #[Value.slice (some { block:=T.heap.size,off:=0 }) 0 (E b).length] 99)).alloc (Obj.cells #[Value.pointer (some { block:=b,off:=0 })] 307)=q:=⟨_,rfl⟩;rw[ab];have bt:q.heap.size=f.heap.size+2:=by rw[<-ab];simp
 have ap:Bw w f:=ac.grown ah ac.size (λk e=>by cases e);have af:Bw f q:=by rw[<-ab];exact((Ak _ f).alloc (Aa _) _).alloc (by simp) _
 have al:Bw w q:=ap.trans (af.mono ap.size);have aF:FX q f.heap.size 99 [.slice (some ⟨T.heap.size,0,none⟩) 0 (E b).length]:=by rw[<-ab];exact(Je f _ 99).alloc _
 have a4:Boxed q (f.heap.size+1) 307 (.pointer (some ⟨b,0,none⟩)):=by rw[<-ab];have:=FL (f.alloc (Obj.cells #[Value.slice (some { block:=T.heap.size,off:=0 }) 0 (E b).length] 99)) 307 (.pointer (some ⟨b,0,none⟩));simpa using this
 have aE:FX q w.heap.size 37 [.pointer (some ⟨tb,0,none⟩)]:=(af.block _ (AY aj.lt ah.size)).trans ((ah.block _ aj.lt (by simp)).trans aj);have a2:Sl q 310 3 (V b) (E b).length (Dm (E b)):=hS.kept (λk s _=>al.block k s);have a7:q.cell? ⟨b,0,none⟩=some (V b):=(al.cell (p:=⟨b,0,none⟩) aK).trans hc;have aC:Sl q 112 4 (.slice (some ⟨T.heap.size,0,none⟩) 0 (E b).length) ([]:List En).length (J1 []):=(Sl.of_owns aM).kept (λk s _=>af.block k s);have a1:MH w tb f.heap.size G I (Df p) [] q:=⟨_,[],aF,aE,aC,⟨rfl,λj x y hx=>by simp at hx⟩,al,λg J=>by simp[Value.ownBlock]at J;subst J;exact ac.size⟩;have aH:(E b).attach.map (λx=>x.1)=E b:=C7 _;have aP:=ap.size;clear ab ay aF aE aC af aM ah aj aT a3 aY;refine FB (α:={ x // x∈E b }) rfl (by omega) (gf:=222) (lb:=#[.pointer (some ⟨f.heap.size+1,0,none⟩)]) rfl trivial (EB func222 (by kernel_rfl) rfl)
  (WJ Fence.wide 2 trivial rfl (by omega) (f.heap.size+1) w.heap.size b 0 (V b) (λx=>x.1) (E b).attach (by simpa using Af a9 am) q (by omega) (by omega) (by omega) a4.cell a7 (by rw[aH];simpa using a2) (λg J=>hS.lt J))
  belowK_t (Fc (by omega)) (Ak _ _) (λ_=>rfl)
  (λad W=>MH w tb f.heap.size G I (Df p) (ad.map (λx=>x.1)) W)
  (λ_ _ _=>False)
  (MH.own (λx:{ x // x∈E b }=>x.1) w tb f.heap.size G I (Df p) _ (by omega))
  (λ_ _ _ _ _ hs _ _=>hs)
  a1
  (λx a' W=>∃L,f.heap.size<L/\FX W L 260 [.pointer x.1.2.p,.int .i64 x.1.2.f]/\a'={ tmps:=#[.pointer (some ⟨tb,0,none⟩),.string p,.pointer (some ⟨w.heap.size,0,none⟩),undef,.slice none 0 0,.int .i64 0,.pointer (some ⟨w1.heap.size,0,none⟩),.int .i64 0,.pointer (some ⟨b,0,none⟩),.pointer (some ⟨f.heap.size,0,none⟩),.string x.1.1,.pointer (some ⟨L,0,none⟩),.tuple #[.agg #[.pointer d,.string n,.bool true,.pointer (some ⟨b,0,none⟩),.int .i64 0],.int .i64 0],.pointer (some ⟨tb,0,none⟩),.string p,.tuple #[.agg #[.pointer d,.string n,.bool true,.pointer (some ⟨b,0,none⟩),.int .i64 0],.int .i64 0],.agg #[.pointer d,.string n,.bool true,.pointer (some ⟨b,0,none⟩),.int .i64 0],.int .i64 0,.int .i64 0,.bool false,undef,.pointer (some ⟨w1.heap.size,3,none⟩),.pointer (some ⟨w1.heap.size,3,none⟩),.pointer (some ⟨b,0,none⟩),.pointer (some ⟨b,0,none⟩),.bool false,.pointer (some ⟨b,0,none⟩),.pointer (some ⟨b,0,none⟩),.pointer (some ⟨b,0,none⟩),.int .i64 ((E b).length:Nat),.slice (some ⟨T.heap.size,0,none⟩) 0 (E b).length,.pointer (some ⟨b,0,none⟩),.pointer (some ⟨b,0,none⟩),.pointer (some ⟨b,0,none⟩),.func (.func 222) #[] #[.pointer (some ⟨f.heap.size+1,0,none⟩)],.string x.1.1,.agg #[.pointer x.1.2.p,.int .i64 x.1.2.f],undef,undef,undef,undef,undef,undef,undef,undef],defers:=[] })
  (λx a' _ X Y row hs J hr=>by
   obtain⟨L,S,M,U⟩:=hs;exact⟨L,S,(Uy (β:=Unit) L 260 (λ_=>_)).from _ () X Y row M J hr,U⟩)
  ?assign ?body ?done ?stop
 case assign=>
  rintro l ad x W K hJ z;have a0:=hJ;obtain⟨v,es,A,O,P,Q,B,j6⟩:=hJ;have ai:=A.lt;clear A O P Q j6
  gi_wp2
  exact z _ _ ((Es _ _).from _) ((Ak _ W).alloc B.size _) ((MH.own (λx:{ x // x∈E b }=>x.1) w tb f.heap.size G I (Df p) w.heap.size (Aa _)).alloc _ a0) ⟨W.heap.size,ai,Je W _ _,rfl⟩
 case body=>
  rintro l ad x a' W br⟨r,hr⟩ ⟨v,es,A,O,P,Q,B,j6⟩ ⟨L,bq,bX,rfl⟩ ai;have bb:prog.follows .mixedOrders=true:=by kernel_rfl
  have bf:es.length<(E b).length:=by rw[Q.1,AL];simpa using ai
  have ar:=(Da HH).d;have au:=(ar.en (Df p) b hd x.1.1 x.1.2).1 x.2;have aU:x.1.1.size<=2000000:=by
   have S:=hG.nms _ au x.1.1 (by simp);simp only[DL,A6,AH]at S;have:=S.1.2;omega
  have HT:Hid (Cl 180 #[.pointer (some ⟨tb,0,none⟩),.string x.1.1,.agg #[.pointer x.1.2.p,.int .i64 x.1.2.f]] W.drew λe w'=>∃y:En,e=.returned (.agg #[.string y.n,.bool y.d,.int .i64 y.s,.int .i64 y.l])/\Qm G I (Df p++[x.1.1]) x.1.1 x.1.2 (.agg #[.string y.n,.bool y.d,.int .i64 y.s,.int .i64 y.l])/\Bw W w'):=
   (Wa W.drew tb rd V E vi G I C ((Da HH).below (B.trans ((Ak _ W).drew.mono B.size)) (Aa _)) hG am aZ (Da aW) x.1.1 aU (Df p++[x.1.1]) x.1.2 (by
    rcases ar.sub hd x.2 with be|⟨b',bk,bj⟩
    ·exact .inr ⟨be,_,au,rfl⟩
    ·exact .inl ⟨b',bk,bj⟩)).mono (λe w' ⟨v,S,M,U⟩=>by
     obtain⟨yb,yc,yd,rfl⟩:=WR M;exact⟨⟨x.1.1,yb,yc,yd⟩,S,M,(Ak _ W).drew.trans U⟩)
  have ag:=A.lt;have aq:∀g,v.ownBlock=some g->∃R,FX W g 112 R:=λg J=>P.type J
  have aS:v.ownBlock≠some f.heap.size:=λe=>by
   obtain⟨R,N⟩:=aq _ e;have:=N.type A;revert this;decide
  have aV:Hid (∀(i:World) (y:En),Bw W i->Qm G I (Df p++[x.1.1]) x.1.1 x.1.2 (.agg #[.string y.n,.bool y.d,.int .i64 y.s,.int .i64 y.l])->
    ∃v' t,(Builtin.append_ #[99,99] 99 #[v,.slice (some ⟨i.heap.size,0,none⟩) 1 1]).run prog (i.alloc (.cells #[.string y.n,.bool y.d,.int .i64 y.s,.int .i64 y.l] 112))=.ok v' t/\∃a m c,v'=.slice a m c/\t.cell? ⟨f.heap.size,0,none⟩=some v/\t.frozen? ⟨f.heap.size,0,none⟩=false/\
     Hid (KeepsFrom q.heap.size W (t.setCell ⟨f.heap.size,0,none⟩ (.slice a m c))/\Below w.heap.size W (t.setCell ⟨f.heap.size,0,none⟩ (.slice a m c))/\MH w tb f.heap.size G I (Df p) ((ad++[x]).map (λx=>x.1)) (t.setCell ⟨f.heap.size,0,none⟩ (.slice a m c)))):=λi y Z ak=>by
   obtain⟨F,ae⟩:=ex (i.alloc (.cells #[.string y.n,.bool y.d,.int .i64 y.s,.int .i64 y.l] 112));have bh:FX F i.heap.size 112 (Nr y):=by rw[ae];exact Je i _ 112
   have aa:Bw W F:=by rw[ae];exact Z.alloc Z.size _
   rw[<-ae];clear ae;have k1:FX F f.heap.size 99 [v]:=(aa.block _ ag).trans A;have k2:FX F w.heap.size 37 [.pointer (some ⟨tb,0,none⟩)]:=(aa.block _ O.lt).trans O;have k3:Sl F 112 4 v es.length (J1 es):=P.kept (λk s _=>aa.block k s);obtain⟨v',t,r1,a,m,c,rfl,r2,r3,r4⟩:=O4 F v es k3 (by omega) y i.heap.size bh;have q1:FX t f.heap.size 99 [v]:=(r3.block _ k1.lt (λe=>aS e.symm)).trans k1;have q2:FX t w.heap.size 37 [.pointer (some ⟨tb,0,none⟩)]:=(r3.block _ k2.lt (λe=>by
    obtain⟨R,N⟩:=aq _ e.symm;have:=N.type O;revert this;decide)).trans k2
   have a6:Below w.heap.size W F:=aa.mono B.size;have aJ:Below w.heap.size W t:=a6.grown r3 (Af B.size aa.size) (λk e=>j6 k e);have bd:(Value.slice a m c).ownBlock≠some f.heap.size:=λe=>by
    obtain⟨R,N⟩:=r2.type e;have:=N.type q1;revert this;decide
   refine⟨_,t,r1,a,m,c,rfl,(q1.cell 0).trans rfl,q1.frozen 0,?_,aJ.setCell (p:=⟨f.heap.size,0,none⟩) aP _,.slice a m c,es++[y],q1.set 0 _,q2.setOther _ _ (λe=>by
     have e':f.heap.size=w.heap.size:=e;rw[e']at q1;have:=q1.type q2;revert this;decide),r2.setCell _ _ bd,?_,(B.trans aJ).setCell (p:=⟨f.heap.size,0,none⟩) aP _,λg J=>(r4 g J).elim (j6 g) (λh=>Af (Af B.size aa.size) h)⟩
   ·have kk:KeepsOthers F t:=⟨r3.size,λk o s ho=>(r3.block k (Aj.1 s).1 (λe=>by
     obtain⟨R,N⟩:=k3.type e.symm;rw[OI N s]at ho;cases ho)).trans s⟩
    exact(((Xv aa).trans kk).trans (CA _ _ _)).from _
   ·rw[Bq];exact Q.snoc ak
  have c9:W.cell? ⟨f.heap.size,0,none⟩=some v:=(A.cell 0).trans rfl;have c2:W.cell? ⟨w.heap.size,0,none⟩=some (.pointer (some ⟨tb,0,none⟩)):=(O.cell 0).trans rfl;have x0:W.cell? ⟨L,0,none⟩=some (.pointer x.1.2.p):=(bX.cell 0).trans rfl;have x1:W.cell? ⟨L,1,none⟩=some (.int .i64 x.1.2.f):=(bX.cell 1).trans rfl;have aw:Hid (∀i,Bw W i->i.cell? ⟨f.heap.size,0,none⟩=some v/\f.heap.size<i.heap.size):=λi H=>⟨(H.cell (p:=⟨f.heap.size,0,none⟩) ag).trans c9,AY ag H.size⟩
  have bp:=Db A;clear A O P Q B j6 bX aq aS ag ar au aU bf hr ai
  gi_wp2
  refine wpIn_region_any bb ?_
  (try(change wpAnyIn _ _ _ _ _ _ _ _ _ (World.drew _)))
  repeat(first|exact AllReadyIn.nil|refine AllReadyIn.cons rfl (λK z=>?_) ?_|(refine ZhH rfl 180 _ _ _ _ rfl _ _ _ ?_ ?_ ?_ ?_ (Da HT) ?_;(first|rfl|simp[Act.eval]);(first|rfl|simp[Act.eval]);(first|rfl|simp[Act.eval]);go_simp;rintro e i⟨y,rfl,ak,Z⟩;refine⟨_,rfl,z _ _ ?_⟩;clear z K;have m9:=(Da aw i Z).1;have ml:=(Da aw i Z).2;have bu:¬f.heap.size=i.heap.size:=(by omega);have bv:¬i.heap.size=f.heap.size:=(by omega);have av:=Db (Da aV i y Z ak);clear Z ak)|(refine Zdx rfl _ _ 99 99 rfl _ _ ?_ ?_ (Da av) ?_;(first|rfl|simp[Act.eval]);(first|rfl|simp[Act.eval]);rintro v5 t⟨a5,m5,c5,rfl,z9,zf,HF⟩;refine z _ _ ?_;clear z K av)|refine BJ (rs:=[4]) (by decide +kernel) (by simp) ?_|refine BJ (rs:=[5]) (by decide +kernel) (by simp) ?_|refine BJ (rs:=[6]) (by decide +kernel) (by simp) ?_|refine BJ (rs:=[7]) (by decide +kernel) (by simp) ?_|refine BJ (rs:=[0,4]) (by decide +kernel) (by simp) ?_|refine BJ (rs:=[0,5]) (by decide +kernel) (by simp) ?_|refine BJ (rs:=[0]) (by decide +kernel) (by simp) ?_|refine BJ (rs:=[1]) (by decide +kernel) (by simp) ?_|refine BJ (rs:=[2]) (by decide +kernel) (by simp) ?_|refine BJ (rs:=[3]) (by decide +kernel) (by simp) ?_|refine BJ (rs:=[0,1]) (by decide +kernel) (by simp) ?_|refine BJ (rs:=[0,2]) (by decide +kernel) (by simp) ?_|refine BJ (rs:=[0,3]) (by decide +kernel) (by simp) ?_|refine BJ (rs:=[1,2]) (by decide +kernel) (by simp) ?_|refine BJ (rs:=[1,3]) (by decide +kernel) (by simp) ?_|refine BJ (rs:=[2,3]) (by decide +kernel) (by simp) ?_|refine BJ (rs:=[0,1,2]) (by decide +kernel) (by simp) ?_|refine BJ (rs:=[0,1,3]) (by decide +kernel) (by simp) ?_|refine BJ (rs:=[0,2,3]) (by decide +kernel) (by simp) ?_|refine BJ (rs:=[1,2,3]) (by decide +kernel) (by simp) ?_|refine BJ (rs:=[0,1,2,3]) (by decide +kernel) (by simp) ?_|(refine wpAnyIn_done (by decide +kernel) ?_ _;exact Da HF)|(go_simp;refine z _ _ ?_;clear z K))
 case done=>
  rintro D ys W hD rfl⟨v,es,A,O,P,Q,B,j6⟩ z;have c9:W.cell? ⟨f.heap.size,0,none⟩=some v:=(A.cell 0).trans rfl;rw[aH]at Q;obtain⟨a,m,c,rfl⟩:=P.shape;have ax:=Db P;have aX:=Db Q;clear A O P Q j6
  gi_wp2
  refine⟨by simp,.inl ⟨_,_,rfl,BP z,?_⟩⟩;refine⟨.tuple #[.slice a m c,.int .i64 0],?_,⟨a,m,c,es,rfl,(Da ax).kept (λk s e=>?_),Da aX⟩,B.trans (Fc (w:=w) (Aa _) W D _ _ (by omega) z rfl rfl)⟩
  ·simp[results,results120,go_sem]
  ·refine(FD W D (.deferred none)).block k s (λe'=>?_);obtain⟨R,N⟩:=(Da ax).type e
   cases e'
   have:=OI N z
   cases this
 case stop=>
  rintro D c ad W _ _ h _;exact h.elim
end
end Go.Proofs.YtaieidcohdhgpaaGreatDoor
