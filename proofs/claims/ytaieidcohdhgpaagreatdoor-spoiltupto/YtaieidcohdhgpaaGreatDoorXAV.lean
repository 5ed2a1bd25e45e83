/- Spoilt. -/
import Derived.Test.YtaieidcohdhgpaaGreatDoorXAU
import Derived.Lib.SlBytesRow
import Derived.Lib.BufferRead
import Derived.Laws.CopyOwn
import Derived.Sort.CutIn
namespace Go.Proofs.YtaieidcohdhgpaaGreatDoor
set_option maxHeartbeats 40000000
set_option maxRecDepth 100000
open Go.RowKit
structure KS where
 es:LI
 tp:Nat
 tx:Nat
 tn:Nat
 D:LY
def Do(s:KS)(cl:Bool)(C:NB)(L:List It):By×Pl:=Js (Dk s.es cl s.tp s.D) C ⟨s.tp+1,[],[]⟩ L
def DK(mf:Nat)(s:KS)(C:NB)(L:List It):By×Pl:=if DS (IM (Do s false C L).2.puts) 96<mf then Do s true C L else Do s false C L
def Hd(mf:Nat)(C:NB)(L:List It)(s s':KS):Prop:=
 ((DK mf s C L).2.ps=[]/\s'=s)\/((DK mf s C L).2.ps≠[]/\Hb (DK mf s C L).2.puts s'.es/\s'.tp=Gu (DK mf s C L).1/\s'.tx=GD (DK mf s C L).1/\s'.tn=s.tn+1/\s'.D=(JD s.D (DK mf s C L).2.ps).set ((s.tn+1)%2) (GO (s.tn+1) s'.tp s'.tx))
structure Hh(s:KS):Prop where
 srt:Gz s.es
 len:s.es.length<=10000
 tp:s.tp<1536
 dl:s.D.length=1536
 pl:∀x∈s.es,∃q:Nat,x.2=(q:Int)/\q<1536
theorem Hh.env{s:KS}(h:Hh s)(cl:Bool):Gv (Dk s.es cl s.tp s.D):=⟨h.srt,h.len,h.tp,h.dl,h.pl⟩
structure GZ(w:World)(stb db:Nat)(vk:Value)(s:KS)(vf vn vw ve:Value)(ps:LB)(ep:List Int):Prop where
 st:Ho w stb db vk (s.tp:Nat) (s.tx:Nat) (s.tn:Nat) vf vn vw ve s.D ps ep
 sk:Sl w 350 2 vk s.es.length (Ds s.es)
 ok:∀k,F2 vk k->¬Ha stb db vn vw ve k
theorem GZ.below{w w':World}{stb db:Nat}{vk:Value}{s:KS}{vf vn vw ve:Value}{ps:LB}{ep:List Int}(h:GZ w stb db vk s vf vn vw ve ps ep)(a:Bw w w'):GZ w' stb db vk s vf vn vw ve ps ep:=
 ⟨h.st.below a,h.sk.kept (fun k b _=>a.block k b),h.ok⟩
theorem GZ.lo{w:World}{stb db:Nat}{vk:Value}{s:KS}{vf vn vw ve:Value}{ps:LB}{ep:List Int}(h:GZ w stb db vk s vf vn vw ve ps ep):∀k,Ha stb db vn vw ve k->k<w.heap.size:=fun k e=>by
 rcases e with rfl|rfl|e|e|e
 ·exact h.st.row.lt
 ·exact h.st.disk.1.lt
 ·exact h.st.disk.2.1.1.lt e
 ·exact Sl.lt h.st.sw e
 ·exact h.st.se.lt e
theorem GZ.env{w:World}{stb db:Nat}{vk:Value}{s:KS}{vf vn vw ve:Value}{ps:LB}{ep:List Int}(h:GZ w stb db vk s vf vn vw ve ps ep)(cl:Bool):Iz w w.heap.size db stb 1 (Dk s.es cl s.tp s.D):=by
 obtain⟨b,d,c,rfl⟩:=h.st.disk.2.1.1.shape;exact⟨⟨vk,(h.st.row.cell 1).trans rfl,h.sk,fun k a=>h.sk.lt a⟩,(h.st.row.cell 2).trans rfl,⟨vf,b,d,c,vw,ve,h.st.disk,fun k a=>h.st.disk.2.1.1.lt a⟩,h.st.row.lt,h.st.disk.1.lt⟩
structure Lp(w:World)(tb rd:Nat)(V:NV)(Ed:NS)(vi:Value)(G:Gh)(I:LF)(CI:IB)(ch:LY->List Ek)(dv:NV)(C:NB):Prop where
 wk:Lz w tb rd V Ed vi G I CI ch dv
 ok:GQ C (DD ch)
 dat:∀y∈DD ch,y.k=2->∃a2 l2 c2,dv y.f = .slice a2 l2 c2/\Sl w 5 1 (.slice a2 l2 c2) l2 (Dc (C y.f))
theorem Lp.below{w w':World}{tb rd:Nat}{V:NV}{Ed:NS}{vi:Value}{G:Gh}{I:LF}{CI:IB}{ch:LY->List Ek}{dv:NV}{C:NB}(h:Lp w tb rd V Ed vi G I CI ch dv C)(d:Bw w w'):Lp w' tb rd V Ed vi G I CI ch dv C:=
 ⟨⟨h.wk.tw.below d (Aa _),h.wk.ok,h.wk.gl,h.wk.il,h.wk.ch,h.wk.num⟩,h.ok,fun y f b=>by
  obtain⟨a,l,c,e,q⟩:=h.dat y f b;exact⟨a,l,c,e,q.kept (fun k b _=>d.block k b)⟩⟩
theorem Y0(s:By):GD s<18446744073709551616:=by
 have:=Qg (Dg (s.extract 2 s.size) 8).data.toList;rw[AG,show(Dg (s.extract 2 s.size) 8).data.size=8 from Jc _ _]at this;exact this
section
variable{mf:Nat}{w:World}{stb db:Nat}{vk:Value}{s:KS}{vf vn vw ve:Value}{ps:LB}{ep:List Int}{tb rd:Nat}{V:NV}{Ed:NS}{vi:Value}{G:Gh}{I:LF}{CI:IB}{ch:LY->List Ek}{dv:NV}{C:NB}
theorem GZ.newPlan(h:GZ w stb db vk s vf vn vw ve ps ep)(k:Hh s)(f:∃j,j<96/\Dj s.es j<=0)(b:Lp w tb rd V Ed vi G I CI ch dv C)(cl:Bool):
  Cl 131 #[.pointer (some ⟨db,0,none⟩),.pointer (some ⟨stb,1,none⟩),.pointer (some ⟨tb,0,none⟩),.bool cl] w (PZ w db stb 1 (Dk s.es cl s.tp s.D) (Do s cl C (DD ch))):=
 Zia w db stb 1 tb rd s.tp cl s.es s.D (k.env cl) (h.env cl) f V Ed vi G I CI ch dv b.wk C b.ok (fun y m i=>by
  obtain⟨a,l,c,e,q⟩:=b.dat y m i;exact⟨a,l,c,e,q,fun g d=>q.lt d⟩)
def Nr(mf:Nat)(C:NB)(L:List It)(s s':KS)(ps ps':LB)(ep ep':List Int):Prop:=
 ((DK mf s C L).2.ps=[]/\ps'=ps/\ep'=ep++[((ps.length:Nat):Int)])\/((DK mf s C L).2.ps≠[]/\ps'=ps++(DK mf s C L).2.ps++[((s.tn+1)%2,GO (s.tn+1) s'.tp s'.tx)]/\ep'=ep++[((ps.length+(DK mf s C L).2.ps.length:Nat):Int)]++[((ps.length+(DK mf s C L).2.ps.length+1:Nat):Int)])
def QZ(mf:Nat)(w:World)(stb db:Nat)(vk:Value)(s:KS)(vf vn vw ve:Value)(ps:LB)(ep:List Int)(C:NB)(L:List It)(e:Ending)(w':World):Prop:=
 e = .returned (.tuple #[])/\∃s' vk' vw' ve' ps' ep',GZ w' stb db vk' s' vf vn vw' ve' ps' ep'/\Hd mf C L s s'/\ps'.length<=ps.length+(DK mf s C L).2.ps.length+1/\ep'.length<=ep.length+2/\Dm w vw vw'/\Dm w ve ve'/\Dm w vk vk'/\Fr (Ha stb db vn vw ve) w w'/\Nr mf C L s s' ps ps' ep ep'
theorem GZ.carry(h:GZ w stb db vk s vf vn vw ve ps ep)(O:Hh s)(hT:GQ C (DD ch))(al:ps.length<=999990000)(ak:ep.length<=999999990)(P:s.tn+1<18446744073709551616){cl:Bool}(hF:DK mf s C (DD ch)=Do s cl C (DD ch))
  {X:World} (z:Bw w X) {pb:Nat} {O':Nat->Prop} (L:Qq X pb db stb 1 (Dk s.es cl s.tp s.D) (Do s cl C (DD ch)).2 (Gu (Do s cl C (DD ch)).1:Nat) (GD (Do s cl C (DD ch)).1:Nat) O') (K:∀j,O' j->w.heap.size<=j):
  Cl 133 #[.pointer (some ⟨stb,0,none⟩),.pointer (some ⟨pb,0,none⟩)] X (QZ mf w stb db vk s vf vn vw ve ps ep C (DD ch)):=by
 have m:=Ul hT (Dk s.es cl s.tp s.D) (O.env cl) (s.tp+1) (by have:=O.tp;omega);change IY (Do s cl C (DD ch)) at m;rw[<-hF]at L m;obtain⟨q,es,H,o,q2,S,U,W⟩:=L;have t:=h.below z;have ag:=h.lo;have hw:=z.size;have M:∀k,k=pb\/F2 H k\/F2 q k->¬Ha stb db vn vw ve k:=fun k f e=>by
  have h1:=ag k e;have h2:=K k ((W k).2 (by rcases f with e|e|e;exact .inl e;exact .inr (.inr e);exact .inr (.inl e)));omega
 have R:∀{Z:Nat->Prop} {w':World},Fr Z X w'->(∀k,Z k->Ha stb db vn vw ve k)->Fr (Ha stb db vn vw ve) w w':=fun hf d=>(Fr.of_below z).then (hf.mono (Y:=Ha stb db vn vw ve) (fun k _ e=>d k e)) (fun _ _ e=>e)
 have E:∀{a b:Value},Dm X a b->Dm w a b:=fun hn g c=>(hn g c).imp id (fun e=>by omega)
 by_cases d:(DK mf s C (DD ch)).2.ps=[]
 ·rw[d]at o;refine(ZkL X stb db pb vk _ _ _ vf vn vw ve s.D ps ep t.st db stb 1 _ cl _ q es _ _ H o (by omega) (M pb (.inl rfl))).mono ?_;rintro e w' ⟨rfl,l,u,v,y⟩;have Q:∀k,(k=db\/F2 ve k)->Ha stb db vn vw ve k:=fun k e=>by
   rcases e with e|e
   ·exact .inr (.inl e)
   ·exact .inr (.inr (.inr (.inr e)))
  have ab:=R y Q;have aj:Sl w' 350 2 vk s.es.length (Ds s.es):=t.sk.fr y (fun g c e=>h.ok g c (Q g e));have ai:∀k,F2 vk k->¬Ha stb db vn vw l k:=fun k f e=>by
   rcases e with e|e|e|e|e
   ·exact h.ok k f (.inl e)
   ·exact h.ok k f (.inr (.inl e))
   ·exact h.ok k f (.inr (.inr (.inl e)))
   ·exact h.ok k f (.inr (.inr (.inr (.inl e))))
   ·rcases v k e with e|e
    ·exact h.ok k f (.inr (.inr (.inr (.inr e))))
    ·have:=t.sk.lt f;omega
  have af:(ep++[((ps.length:Nat):Int)]).length<=ep.length+2:=by rw[Ad];simp
  have B:GZ w' stb db vk s vf vn vw l ps (ep++[((ps.length:Nat):Int)]):=⟨u,aj,ai⟩;exact⟨rfl,s,vk,vw,l,ps,_,B,.inl ⟨d,rfl⟩,by omega,af,fun g c => .inl c,E v,fun g c => .inl c,ab,.inl ⟨d,rfl,rfl⟩⟩
 ·have ah:=m.n2;have N:0<(DK mf s C (DD ch)).2.ps.length:=List.length_pos_iff.2 d;obtain⟨F,i⟩:=ex (DK mf s C (DD ch));rw[<-i]at o S U m N ah d;obtain⟨p,A⟩:=ex (Gu F.1);obtain⟨x,D⟩:=ex (GD F.1);rw[<-A,<-D]at o;obtain⟨T,n⟩:∃T,s.tn+1=T:=⟨_,rfl⟩;rw[n]at P;refine(ZkM X stb db pb vk _ _ s.tn vf vn vw ve s.D ps ep t.st db stb 1 _ cl _ q es p x H F.2.ps o m.pl.2 N (by omega) (by omega) T n P (by rw[A];exact Pi _) (by rw[D];exact Y0 _) M).mono ?_;rintro e w' ⟨rfl,aa,l,u,v,y,r4,r5,r6⟩;obtain⟨r,J⟩:=ex ((JD s.D F.2.ps).set (T%2) (GO T p x));rw[<-J]at u;have B:GZ w' stb db q ⟨es,p,x,T,r⟩ vf vn aa l _ _:=⟨u,r5,r6⟩;have ac:Hd mf C (DD ch) s ⟨es,p,x,T,r⟩:=by
   unfold Hd;rw[<-i];refine .inr ⟨d,⟨q2,S,U⟩,A,D,n.symm,?_⟩;rw[n];exact J
  have ad:(ps++F.2.ps++[(T%2,GO T p x)]).length<=ps.length+(DK mf s C (DD ch)).2.ps.length+1:=by rw[<-i];simp only[Ad,Aq,AS];omega
  have ae:(ep++[((ps.length+F.2.ps.length:Nat):Int)]++[((ps.length+F.2.ps.length+1:Nat):Int)]).length<=ep.length+2:=by simp only[Ad,Aq,AS];omega
  exact⟨rfl,_,q,aa,l,_,_,B,ac,ad,ae,E v,E y,fun g c => .inr (K g ((W g).2 (.inr (.inl c)))),R r4 (fun _ e=>e),.inr ⟨by rw[<-i];exact d,by rw[<-i,n],by rw[<-i]⟩⟩
theorem RV(h:GZ w stb db vk s vf vn vw ve ps ep)(c:Hh s)(l:∃j,j<96/\Dj s.es j<=0)(f:Lp w tb rd V Ed vi G I CI ch dv C)(v:ps.length<=999990000)(u:ep.length<=999999990)(x:s.tn+1<18446744073709551616):
  Cl 74 #[.pointer (some ⟨stb,0,none⟩),.pointer (some ⟨tb,0,none⟩)] w (QZ 512 w stb db vk s vf vn vw ve ps ep C (DD ch)):=by
 have H:w.cell? ⟨stb,0,none⟩=some (.pointer (some ⟨db,0,none⟩)):=(h.st.row.cell 0).trans rfl;obtain⟨N,i⟩:=ex (DS (IM (Do s false C (DD ch)).2.puts) 96);have ai:N<=1536:=by rw[i];exact NK _ _
 have A:Hid (Cl 131 #[.pointer (some ⟨db,0,none⟩),.pointer (some ⟨stb,1,none⟩),.pointer (some ⟨tb,0,none⟩),.bool false] w.drew fun e X=>∃pb,e = .returned (.pointer (some ⟨pb,0,none⟩))/\X.cell? ⟨stb,0,none⟩=some (.pointer (some ⟨db,0,none⟩))/\Hid (Cl 132 #[.pointer (some ⟨pb,100,none⟩)] X fun e Y=>e = .returned (.int .i64 (N:Nat))/\Y.cell? ⟨stb,0,none⟩=some (.pointer (some ⟨db,0,none⟩))/\
   Hid (¬N<512->Cl 133 #[.pointer (some ⟨stb,0,none⟩),.pointer (some ⟨pb,0,none⟩)] Y (QZ 512 w stb db vk s vf vn vw ve ps ep C (DD ch)))/\
   Hid (N<512->Cl 131 #[.pointer (some ⟨db,0,none⟩),.pointer (some ⟨stb,1,none⟩),.pointer (some ⟨tb,0,none⟩),.bool true] Y.drew fun e Z=>∃n,e = .returned (.pointer (some ⟨n,0,none⟩))/\Z.cell? ⟨stb,0,none⟩=some (.pointer (some ⟨db,0,none⟩))/\Hid (Cl 133 #[.pointer (some ⟨stb,0,none⟩),.pointer (some ⟨n,0,none⟩)] Z (QZ 512 w stb db vk s vf vn vw ve ps ep C (DD ch)))))):=by
  have O:Bw w w.drew:=(Al _ _).drew;refine((h.below O).newPlan c l (f.below O) false).mono ?_;rintro e X ⟨pb,O',rfl,al,ag,E,k,hO⟩;have y:Bw w X:=⟨k.os,k.tape,k.output,k.size,k.block⟩;have a:=Ul f.ok (Dk s.es false s.tp s.D) (c.env false) (s.tp+1) (by have:=c.tp;omega);change IY (Do s false C (DD ch)) at a;refine⟨pb,rfl,((h.below y).st.row.cell 0).trans rfl,?_⟩;have aj:=E;obtain⟨T,es,vp,z,P,Q,R,q5⟩:=E;have L:Hb (Do s false C (DD ch)).2.puts es:=⟨P,Q,R⟩;refine(RU X pb 100 T es z.cells.2.2.2.2.2.1 z.sa (L.places (by have:=a.n1;omega) a.pl.1)).mono ?_;rintro e Y ⟨rfl,F⟩;have d:Bw w Y:=y.trans (F.mono y.size);refine⟨by rw[i,L.nd],((h.below d).st.row.cell 0).trans rfl,fun g=>?_,fun g=>?_⟩
  ·refine h.carry c f.ok v u x (cl:=false) (by unfold DK;rw[<-i,if_neg g]) d (pb:=pb) (O':=O') ?_ hO;exact⟨T,es,vp,z.below F,P,Q,R,q5⟩
  ·have m:Bw w Y.drew:=⟨d.os,d.tape,d.output,d.size,d.block⟩;refine((h.below m).newPlan c l (f.below m) true).mono ?_;rintro e Z ⟨n,O2,rfl,ak,ah,ab,ac,aa⟩;have M:Bw w Z:=m.trans (ac.mono m.size);refine⟨n,rfl,((h.below M).st.row.cell 0).trans rfl,?_⟩;exact h.carry c f.ok v u x (cl:=true) (by unfold DK;rw[<-i,if_pos g]) M ab (fun j l=>Ag m.size (aa j l))
 clear h c l f v u x i;go_enter Tryz.func74,Tryz.ntmps74;go_upto_region 0 with fail;refine AD (S:=fun X=>X.cell? ⟨stb,0,none⟩=some (.pointer (some ⟨db,0,none⟩))) (by kernel_rfl) H (fun D=>?_);refine tk 0 ?_;try simp only[pE];refine tk 1 ?_;try simp only[pE];refine tk 2 ?_;try simp only[pE];refine tk 3 ?_;try simp only[pE];refine tk 4 ?_;try simp only[pE];refine tk 5 ?_;try simp only[pE];refine tk 6 ?_;try simp only[pE];refine tk 7 ?_;try simp only[pE];refine rk 8 (fun K a=>?_);go_simp;go_at_call 131;refine(Da A).mono ?_;rintro e X ⟨pb,rfl,ad,q⟩;go_wp2_with fail;refine a.out _ _ ad (fun B=>?_);clear a K
 (try simp only[pE])
 refine tk 9 ?_;try simp only[pE];refine AW (by kernel_rfl) ?_ _;clear D B A H;by_cases g:N<512
 ·have af:(N:Int)<512:=by omega
  go_upto_region 2 with(go_at_call 132;refine(Da q).mono ?_;rintro e Y ⟨rfl,J,o,p⟩);have r:=Db (Da p g);clear o p q;refine AD (S:=fun X=>X.cell? ⟨stb,0,none⟩=some (.pointer (some ⟨db,0,none⟩))) (by kernel_rfl) J (fun D=>?_);refine tk 0 ?_;try simp only[pE];refine tk 1 ?_;try simp only[pE];refine tk 2 ?_;try simp only[pE];refine tk 3 ?_;try simp only[pE];refine tk 4 ?_;try simp only[pE];refine tk 5 ?_;try simp only[pE];refine tk 6 ?_;try simp only[pE];refine tk 7 ?_;try simp only[pE];refine rk 8 (fun K a=>?_);go_simp;go_at_call 131;refine(Da r).mono ?_;rintro e Z ⟨n,rfl,ae,U⟩;go_wp2_with fail;refine a.out _ _ ae (fun B=>?_);clear a K
  (try simp only[pE])
  refine tk 9 ?_;try simp only[pE];refine AW (by kernel_rfl) ?_ _;go_wp2_with (go_at_call 133;refine(Da U).mono ?_;intro e W b;obtain rfl:=b.1;have t:=Db b;clear b)
  go_end0
  exact Da t
 ·have af:¬(N:Int)<512:=by omega
  go_wp2_with (first|(go_at_call 132;refine(Da q).mono ?_;rintro e Y ⟨rfl,J,o,p⟩;have r:=Db (Da o g);clear o p q)|(go_at_call 133;refine(Da r).mono ?_;intro e W b;obtain rfl:=b.1;have t:=Db b;clear b))
  go_end0
  exact Da t
end
def Jq:LI:=[(((Dd 3 0 0:Nat):Int),((16:Nat):Int))]
def Lu(D:LY):KS:=⟨[],15,0,0,D⟩
theorem Zd(D:LY):(Dk [] false 15 D).put ⟨16,[],[]⟩ (Dd 3 0 0) DG=(16,⟨17,[(Dd 3 0 0,16)],[(16,DG)]⟩):=by
 have a:(Dk [] false 15 D).stay (Dd 3 0 0) DG=none:=rfl;unfold F3.put;rw[a];show(DH (Dj []) 96 16%1536,(⟨DH (Dj []) 96 16%1536+1,[]++[(Dd 3 0 0,DH (Dj []) 96 16%1536)],[]++[(DH (Dj []) 96 16%1536,DG)]⟩:Pl))=_;rw[Mb]
 rfl
theorem Zy(C:NB)(D:LY):Do (Lu D) false C []=(DI 16 (Dl DG),⟨17,[(Dd 3 0 0,16)],[(16,DG)]⟩):=by
 have a:Dz (Dk [] false 15 D) 3 63 0 ⟨16,[],[]⟩ (⟨#[]⟩++⟨#[0]⟩)=(DI 16 (Dl DG),⟨17,[(Dd 3 0 0,16)],[(16,DG)]⟩):=by
  rw[Uh];unfold Dz;rw[show((⟨#[0]⟩:By).size+63-1)/63=1 from rfl];show(DI ((Dk [] false 15 D).put ⟨16,[],[]⟩ (Dd 3 0 0) DG).1 (Dl DG)++⟨#[]⟩,((Dk [] false 15 D).put ⟨16,[],[]⟩ (Dd 3 0 0) DG).2)=_;rw[KC,Zd]
 show DE (Dk [] false 15 D) 8 1 (Dz (Dk [] false 15 D) 3 63 0 ⟨16,[],[]⟩ (⟨#[]⟩++⟨#[0]⟩)).2 (Dz (Dk [] false 15 D) 3 63 0 ⟨16,[],[]⟩ (⟨#[]⟩++⟨#[0]⟩)).1=_;rw[a];unfold DE;rw[if_neg (by rw[K5];omega)]
theorem s00_nd:IM [(Dd 3 0 0,16)]=Dj Jq:=by
 funext j
 unfold IM Dj Jq
 rfl
theorem Zx(C:NB)(D:LY):DK 512 (Lu D) C []=(DI 16 (Dl DG),⟨17,[(Dd 3 0 0,16)],[(16,DG)]⟩):=by
 unfold DK;rw[Zy];rw[if_neg (by show ¬DS (IM [(Dd 3 0 0,16)]) 96<512;rw[s00_nd,show DS (Dj Jq) 96=1504 from LQ];omega)]
theorem TW.empty{w:World}{tb c:Nat}{V:NV}{E:NS}{e:Value}{C:IB}(h:TW w tb c V E e [] [] C):Lp w tb c V E e [] [] C (fun _=>[]) (fun _ => .slice none 0 0) (fun _=>⟨#[]⟩):=by
 have f:E c=[]:=by
  cases hl:E c with
  | nil=>rfl
  | cons x l=>
   have:=(h.d.en [] c (.inl ⟨rfl,rfl⟩) x.1 x.2).1 (by rw[hl];exact A5)
   cases this
 refine⟨⟨h,⟨fun x a=>(by cases a),fun x a=>(by cases a),fun x a=>(by cases a),CC,fun _ _ _ a=>(by cases a)⟩,Aw _,Aw _,fun ns b d=>?_,fun x a=>(by cases a)⟩,?_,fun y k=>(by cases k)⟩
 ·rcases d with⟨rfl,rfl⟩|d
  ·rw[f];rfl
  ·cases d
 ·exact⟨Aw _,fun x a=>(by cases a),fun x a=>(by cases a),fun x a=>(by cases a),fun x a=>(by cases a),fun i j x y _ g=>(by cases g)⟩
def Zm0(w:World)(stb db:Nat)(vf vn:Value)(D:LY)(e:Ending)(w':World):Prop:=
 ∃va vw ve ps ep,e = .returned (.tuple #[])/\Ho w' stb db va ((16:Nat):Int) (Dl DG:Nat) ((1:Nat):Int) vf vn vw ve ((JD D [(16,DG)]).set 1 (GO 1 16 (Dl DG))) ps ep/\ps.length<=100/\Dm w (.slice none 0 0) vw/\Fr (Ha stb db vn (.slice none 0 0) (.slice none 0 0)) w w'/\Sl w' 350 2 va 1 (Ds Jq)/\(∀k,F2 va k->¬Ha stb db vn vw ve k)/\∀k,F2 va k->w.heap.size<=k
theorem Zkr(w:World)(i l tb:Nat)(p q:Value)(D:LY)(H:D.length=1536)(h:Ho w i l (.slice none 0 0) ((15:Nat):Int) 0 ((0:Nat):Int) p q (.slice none 0 0) (.slice none 0 0) D [] []){C:IB}(N:PS w tb [] [] C):
  Cl 74 #[.pointer (some ⟨i,0,none⟩),.pointer (some ⟨tb,0,none⟩)] w (Zm0 w i l p q D):=by
 obtain⟨rd,V,E,vi,I⟩:=N;have u:∀k,¬F2 (.slice none 0 0) k:=fun k e=>by simp[F2,Value.ownBlock]at e
 have O:GZ w i l (.slice none 0 0) (Lu D) p q (.slice none 0 0) (.slice none 0 0) [] []:=⟨h,⟨rfl,.inl ⟨rfl,rfl⟩⟩,fun k a=>absurd a (u k)⟩;have M:Hh (Lu D):=⟨fun j k x y _ K=>(by cases K),Aw _,by show 15<1536;omega,H,fun x c=>(by cases c)⟩;refine(RV O M ⟨1,by omega,by show Dj [] 1<=0;decide⟩ I.empty (Aw _) (Aw _) (by show 0+1<_;omega)).mono ?_;rintro e w' ⟨rfl,b,vk',R,Q,z,A,m,r,n,g4,B,g6,F,G,_⟩;have a:=Zx (fun _=>⟨#[]⟩) D;have J:DD (fun _=>([]:List Ek))=[]:=rfl;rw[J]at r n;rw[a]at n;rcases r with⟨s,_⟩|⟨_,o,d,f,v,g⟩
 ·rw[a]at s;cases s
 ·rw[a]at o d f g;rw[Uc _ _ (by omega)]at d;rw[Vb _ _ (JS _)]at f;have t:b.es=Jq:=by
   have L:b.es.length=1:=o.2.1;obtain⟨x,c⟩:∃x,b.es=[x]:=by
    match b.es,L with
    | [x],_=>exact⟨x,rfl⟩
   obtain⟨y,P,e⟩:=(o.2.2 x).1 (by rw[c];exact Ab.2 rfl);rw[c,e,Ab.1 P];rfl
  obtain⟨aa,tp',tx',tn',D'⟩:=b;dsimp only at t d f v g;subst t d f v;rw[show(Lu D).tn+1=1 from rfl]at g;subst g;have h2:z.length<=2:=by simpa using n
  exact⟨vk',R,Q,z,A,rfl,m.st,by omega,B,G,m.sk,m.ok,fun k a=>(F k a).elim (fun e=>absurd e (u k)) id⟩
def Jn:LY:=(((JD J3 [(16,DG)]).set 1 (GO 1 16 (Dl DG))).set 0 (GO 0 16 (Dl DG)))
def WS(w:World)(db:Nat)(vn:Value)(e:Ending)(w':World):Prop:=
 ∃stb vf' va,e = .returned (.pointer (some ⟨stb,0,none⟩))/\w.heap.size<=stb/\Ho w' stb db va ((16:Nat):Int) (Dl DG:Nat) ((1:Nat):Int) vf' vn (.slice none 0 0) (.slice none 0 0) Jn [] []/\Hp w' vf' Jn/\Sl w' 350 2 va 1 (Ds Jq)/\(∀k,F2 vf' k->w.heap.size<=k/\k≠stb/\¬F2 va k/\k≠db/\¬F2 vn k)/\(∀k,F2 va k->w.heap.size<=k/\k≠stb/\k≠db/\¬F2 vn k)/\Fr (fun k=>k=db\/F2 vn k) w w'
theorem Zio(w:World)(c tb:Nat)(u f:Value)(h:DV w c u f (.slice none 0 0) (.slice none 0 0) J3)(A:¬F2 f c){C:IB}(B:PS w tb [] [] C):
  Cl 99 #[.pointer (some ⟨c,0,none⟩),.pointer (some ⟨tb,0,none⟩)] w (WS w c f):=by
 obtain⟨W,z,I,G,sW,g⟩:=De w [.pointer (some ⟨c,0,none⟩),.slice none 0 0,.int .i64 15,.int .u64 0,.int .u64 0] 179;have b:∀k,¬F2 (.slice none 0 0) k:=fun k e=>by simp[F2,Value.ownBlock]at e
 have ac:=h.1.lt;have D:Ho W w.heap.size c (.slice none 0 0) ((15:Nat):Int) 0 ((0:Nat):Int) u f (.slice none 0 0) (.slice none 0 0) J3 [] []:=by
  refine⟨I,⟨G _ _ _ h.1,⟨h.2.1.1.kept (fun k a _=>g.block k a),h.2.1.2⟩,h.2.2⟩,Ih.nil _,⟨rfl,.inl ⟨rfl,rfl⟩⟩,by omega,⟨fun e=>?_,b _,b _⟩,⟨A,b _,b _⟩,fun k _=>b k,fun k _=>b k,fun k _=>b k⟩;have:=h.2.1.1.lt e;omega
 obtain⟨y,x⟩:∃V,V=Ii 0 (GO 0 16 (Dl DG)):=⟨_,rfl⟩;have O:Hid (Cl 74 #[.pointer (some ⟨w.heap.size,0,none⟩),.pointer (some ⟨tb,0,none⟩)] W fun e X=>e = .returned (.tuple #[])/\(X.cell? ⟨w.heap.size,4,none⟩=some (.int .u64 1)/\X.cell? ⟨w.heap.size,2,none⟩=some (.int .i64 16)/\X.cell? ⟨w.heap.size,3,none⟩=some (.int .u64 (Dl DG:Nat)))/\
   Hid (Cl 160 #[.agg #[.int .u64 0,.int .i64 16,.int .u64 (Dl DG:Nat)]] X.drew fun e Y=>e = .returned y/\(Y.cell? ⟨w.heap.size,4,none⟩=some (.int .u64 1)/\Y.cell? ⟨w.heap.size,2,none⟩=some (.int .i64 16)/\Y.cell? ⟨w.heap.size,3,none⟩=some (.int .u64 (Dl DG:Nat)))/\
    Hid (Cl 159 #[.pointer (some ⟨c,0,none⟩),y] Y fun e Z=>e = .returned (.tuple #[])/\(Z.cell? ⟨w.heap.size,4,none⟩=some (.int .u64 1)/\Z.cell? ⟨w.heap.size,2,none⟩=some (.int .i64 16)/\Z.cell? ⟨w.heap.size,3,none⟩=some (.int .u64 (Dl DG:Nat)))/\
     Hid (Cl 161 #[.pointer (some ⟨c,0,none⟩)] Z fun e V=>e = .returned (.tuple #[])/\Hid (WS w c f (.returned (.pointer (some ⟨w.heap.size,0,none⟩))) V))))):=by
  have ae:PS W tb [] [] C:=by
   obtain⟨rd,V,E,vi,T⟩:=B;exact⟨rd,V,E,vi,T.below g (Aa _)⟩
  refine(Zkr W w.heap.size c tb u f J3 Kx D ae).mono ?_;rintro e X ⟨t,al,aj,ay,an,rfl,s,ar,s2,r,s5,s6,s7⟩;have ah:=s;refine⟨rfl,⟨(s.row.cell 4).trans rfl,(s.row.cell 2).trans rfl,(s.row.cell 3).trans rfl⟩,?_⟩;refine(Rq X.drew 0 16 (Dl DG) (by omega) (by omega) (JS _)).mono ?_;rintro e Y ⟨rfl,p⟩;have j:Bw X Y:=⟨p.os,p.tape,p.output,p.size,p.block⟩;have q:=ah.below j;have H:Sl Y 350 2 t 1 (Ds Jq):=s5.kept (fun k a _=>j.block k a);refine⟨by rw[x],⟨(q.row.cell 4).trans rfl,(q.row.cell 2).trans rfl,(q.row.cell 3).trans rfl⟩,?_⟩;rw[x];refine(q.write_call (by omega) 0 (by omega) _ (NI _ _ _)).mono ?_;intro e Z F;obtain⟨am,d,u2,n⟩:=q.write F;have af:∀k,F2 t k->k<Y.heap.size:=fun k a=>H.lt a
  have ai:Sl Z 350 2 t 1 (Ds Jq):=H.fr n (fun k a e=>s6 k a (by rcases e with e|e|e;exact .inr (.inl e);exact .inr (.inr (.inl e));exact .inr (.inr (.inr (.inl e)))));refine⟨F.1,⟨(d.row.cell 4).trans rfl,(d.row.cell 2).trans rfl,(d.row.cell 3).trans rfl⟩,?_⟩;refine(Wk Z c u f am aj _ d.disk d.nd.1).mono ?_;rintro e V ⟨rfl,ak,v1,v2,m,v4⟩;have au:w.heap.size+1<=X.heap.size:=by have:=r.size;omega
  have av:=j.size;have aw:=n.size;have ad:∀k,k<w.heap.size->¬(k=c\/F2 f k)->¬Ha w.heap.size c f (.slice none 0 0) (.slice none 0 0) k:=fun k a l e=>by
   rcases e with e|e|e|e|e
   ·omega
   ·exact l (.inl e)
   ·exact l (.inr e)
   ·exact b _ e
   ·exact b _ e
  refine⟨rfl,w.heap.size,ak,t,rfl,Aa _,⟨d.row.fr m (fun e=>d.ne e),v1,Ih.nil _,⟨rfl,.inl ⟨rfl,rfl⟩⟩,d.ne,⟨d.ns.1,b _,b _⟩,⟨d.nd.1,b _,b _⟩,fun k _=>b k,fun k _=>b k,fun k _=>b k⟩,v2,ai.fr m (fun k a e=>s6 k a (.inr (.inl e))),fun k a=>?_,fun k a=>?_,?_⟩
  ·have h1:=v4 k a;refine⟨by omega,by omega,fun e=>(by have:=af k e;omega),fun e=>(by have:=d.disk.1.lt;omega),fun e=>(by have:=d.disk.2.1.1.lt e;omega)⟩
  ·exact⟨(by have:=s7 k a;omega),fun e=>s6 k a (.inl e),fun e=>s6 k a (.inr (.inl e)),fun e=>s6 k a (.inr (.inr (.inl e)))⟩
  ·refine⟨m.os.trans (n.os.trans (j.os.trans (r.os.trans g.os))),m.tape.trans (n.tape.trans (j.tape.trans (r.tape.trans g.tape))),m.output.trans (n.output.trans (j.output.trans (r.output.trans g.output))),by have:=m.size;omega,fun k a l=>?_⟩;have ag:¬F2 al k:=fun e=>(s2 k e).elim (b _) (fun e=>by omega)
   rw[m.block k (by omega) (fun e=>l (.inl e)),n.block k (by omega) (fun e=>by rcases e with e|e|e;exact l (.inl e);exact l (.inr e);exact ag e),j.block k (by omega),r.block k (by omega) (ad k a l),g.block k a]
 have Q:=Db z;have J:=Db (PN 0 16 (Dl DG:Nat));have ax:IntKind.u64.wrap (1-1)=0:=by decide
 clear h A B z I G sW g D b ac x;go_enter Tryz.func99,Tryz.ntmps99;go_upto_region 2 with fail;rw[show w.alloc (.cells #[.pointer (some ⟨c,0,none⟩),.slice none 0 0,.int .i64 15,.int .u64 0,.int .u64 0] 179)=W from Da Q];go_upto_region 3 with(go_at_call 74;refine(Da O).mono ?_;rintro e X ⟨rfl,U,L⟩);refine AD (S:=fun X=>X.cell? ⟨w.heap.size,4,none⟩=some (.int .u64 1)/\X.cell? ⟨w.heap.size,2,none⟩=some (.int .i64 16)/\X.cell? ⟨w.heap.size,3,none⟩=some (.int .u64 (Dl DG:Nat))) (by kernel_rfl) U (fun aq=>?_);refine tk 0 ?_;try simp only[pE];refine tk 1 ?_;try simp only[pE];refine tk 2 ?_;try simp only[pE];refine tk 3 ?_;try simp only[pE];refine tk 4 ?_;try simp only[pE];refine A6 (i:=5) (v := .int .u64 0) rfl (by kernel_rfl) (by kernel_rfl) (by kernel_rfl) (fun _ _ _ h=>h) (Or.inl ⟨by rfl,?_⟩) (by assumption) ?_
 ·intro w R;(try dsimp only at R);go_simp
  rfl
 (try simp only[pE])
 refine tk 6 ?_;try simp only[pE];refine tk 7 ?_;try simp only[pE];refine tk 8 ?_;try simp only[pE];refine tk 9 ?_;try simp only[pE];refine tk 10 ?_;try simp only[pE];refine A6 (i:=11) (v := .agg #[.int .u64 0,.int .i64 16,.int .u64 (Dl DG:Nat)]) rfl (by kernel_rfl) (by kernel_rfl) (by kernel_rfl) (fun _ _ _ h=>h) (Or.inl ⟨by rfl,fun V _=>RE V 191 _ rfl (vs := #[(0,.int .u64 0),(1,.agg #[.int .i64 16,.int .u64 (Dl DG:Nat)])]) (by simp[Act.eval]) (Da J)⟩) (by assumption) ?_
 (try simp only[pE])
 refine rk 12 (fun K o=>?_);go_simp;go_at_call 160;refine(Da L).mono ?_;rintro e Y ⟨rfl,aa,M⟩;go_wp2_with fail;refine o.out _ _ aa (fun ao=>?_);clear o K
 (try simp only[pE])
 refine rk 13 (fun K o=>?_);go_simp;go_at_call 159;refine(Da M).mono ?_;rintro e Z ⟨rfl,ab,N⟩;go_wp2_with fail;refine o.out _ _ ab (fun ap=>?_);clear o K
 (try simp only[pE])
 refine AW (by kernel_rfl) ?_ _;go_wp2_with (go_at_call 161;refine(Da N).mono ?_;rintro e V ⟨rfl,P⟩);go_ret;exact Da P
def Gw(w:World)(vb tb:Nat):Prop:=∃d s:Nat,F0 w vb 41 [.pointer (some ⟨vb,0,none⟩),.pointer (some ⟨tb,0,none⟩),.pointer (some ⟨d,0,none⟩),.pointer (some ⟨s,0,none⟩)]
theorem Gw.c0{w:World}{a tb:Nat}(h:Gw w a tb):w.cell? ⟨a,0,none⟩=some (.pointer (some ⟨a,0,none⟩)):=by
 obtain⟨d,s,h⟩:=h;exact(F0.cell h 0).trans rfl
theorem Gw.c1{w:World}{a tb:Nat}(h:Gw w a tb):w.cell? ⟨a,1,none⟩=some (.pointer (some ⟨tb,0,none⟩)):=by
 obtain⟨d,s,h⟩:=h;exact(F0.cell h 1).trans rfl
theorem Gw.alloc{w:World}{a tb:Nat}(h:Gw w a tb)(o:Obj):Gw (w.alloc o) a tb:=by
 obtain⟨d,s,h⟩:=h;exact⟨d,s,F0.alloc h o⟩
theorem ZM(a:Addr)(w:World):(binOp .eql 25 (.pointer (some a)) (.pointer (some a))).run Tryz.prog w = .ok (.bool true) w:=by
 obtain⟨j,b⟩:∃j,Tryz.prog.info? 41=some j:=EZ.1 (by kernel_rfl);exact run_eql_ptr_same w a Tryz.underlying25 b
theorem Kv(w:World)(a tb:Nat)(h:Gw w a tb):Cl 53 #[.pointer (some ⟨a,0,none⟩)] w fun e w'=>e = .returned (.bool true)/\w'=w:=by
 have h0:w.cell? ⟨a,0,none⟩=some (.pointer (some ⟨a,0,none⟩)):=Gw.c0 h;have hq:=ZM;go_enter Tryz.func53,Tryz.ntmps53;go_wp2;go_ret;exact⟨rfl,rfl⟩
theorem Mf(w:World)(a tb:Nat)(h:Gw w a tb)(p:By)(Q:Ending->World->Prop)(b:∀e w',Q e w'->∃n:Int,e = .returned (.int .i64 n))
  (f:Cl 122 #[.pointer (some ⟨tb,0,none⟩),.string p] w Q):Cl 58 #[.pointer (some ⟨a,0,none⟩),.string p] w Q:=by
 have g:=Kv w a tb h;have h1:w.cell? ⟨a,1,none⟩=some (.pointer (some ⟨tb,0,none⟩)):=Gw.c1 h;have d:=Db b;clear b h;go_enter Tryz.func58,Tryz.ntmps58;go_wp2_with (go_at_call 53;refine g.mono ?_;rintro e w' ⟨rfl,rfl⟩);refine f.mono ?_;intro e w1 c;obtain⟨n,rfl⟩:=Da d e w1 c;go_wp2;exact c
theorem Sv(w:World)(a tb:Nat)(h:Gw w a tb)(p:By)(i:Int)(x:Value)(Q:Ending->World->Prop)(b:∀e w',Q e w'->∃n:Int,e = .returned (.int .i64 n))
  (f:Cl 123 #[.pointer (some ⟨tb,0,none⟩),.string p,.int .i64 i,x] w Q):Cl 59 #[.pointer (some ⟨a,0,none⟩),.string p,.int .i64 i,x] w Q:=by
 have g:=Kv w a tb h;have h1:w.cell? ⟨a,1,none⟩=some (.pointer (some ⟨tb,0,none⟩)):=Gw.c1 h;have d:=Db b;clear b h;go_enter Tryz.func59,Tryz.ntmps59;go_wp2_with (go_at_call 53;refine g.mono ?_;rintro e w' ⟨rfl,rfl⟩);refine f.mono ?_;intro e w1 c;obtain⟨n,rfl⟩:=Da d e w1 c;go_wp2;exact c
theorem OO(w:World)(a tb:Nat)(h:Gw w a tb)(p:By)(i:Int)(Q:Ending->World->Prop)(b:∀e w',Q e w'->∃n:Int,e = .returned (.int .i64 n))
  (f:Cl 124 #[.pointer (some ⟨tb,0,none⟩),.string p,.int .i64 i] w Q):Cl 60 #[.pointer (some ⟨a,0,none⟩),.string p,.int .i64 i] w Q:=by
 have g:=Kv w a tb h;have h1:w.cell? ⟨a,1,none⟩=some (.pointer (some ⟨tb,0,none⟩)):=Gw.c1 h;have d:=Db b;clear b h;go_enter Tryz.func60,Tryz.ntmps60;go_wp2_with (go_at_call 53;refine g.mono ?_;rintro e w' ⟨rfl,rfl⟩);refine f.mono ?_;intro e w1 c;obtain⟨n,rfl⟩:=Da d e w1 c;go_wp2;exact c
theorem M0(w:World)(a tb:Nat)(h:Gw w a tb)(p q:By)(Q:Ending->World->Prop)(b:∀e w',Q e w'->∃n:Int,e = .returned (.int .i64 n))
  (f:Cl 125 #[.pointer (some ⟨tb,0,none⟩),.string p,.string q] w Q):Cl 61 #[.pointer (some ⟨a,0,none⟩),.string p,.string q] w Q:=by
 have g:=Kv w a tb h;have h1:w.cell? ⟨a,1,none⟩=some (.pointer (some ⟨tb,0,none⟩)):=Gw.c1 h;have d:=Db b;clear b h;go_enter Tryz.func61,Tryz.ntmps61;go_wp2_with (go_at_call 53;refine g.mono ?_;rintro e w' ⟨rfl,rfl⟩);refine f.mono ?_;intro e w1 c;obtain⟨n,rfl⟩:=Da d e w1 c;go_wp2;exact c
theorem S1(w:World)(a tb:Nat)(h:Gw w a tb)(p:By)(Q:Ending->World->Prop)(b:∀e w',Q e w'->∃n:Int,e = .returned (.int .i64 n))
  (f:Cl 127 #[.pointer (some ⟨tb,0,none⟩),.string p] w Q):Cl 63 #[.pointer (some ⟨a,0,none⟩),.string p] w Q:=by
 have g:=Kv w a tb h;have h1:w.cell? ⟨a,1,none⟩=some (.pointer (some ⟨tb,0,none⟩)):=Gw.c1 h;have d:=Db b;clear b h;go_enter Tryz.func63,Tryz.ntmps63;go_wp2_with (go_at_call 53;refine g.mono ?_;rintro e w' ⟨rfl,rfl⟩);refine f.mono ?_;intro e w1 c;obtain⟨n,rfl⟩:=Da d e w1 c;go_wp2;exact c
theorem Su(w:World)(a tb:Nat)(h:Gw w a tb)(Q:Ending->World->Prop)(b:∀e w',Q e w'->∃n:Int,e = .returned (.int .i64 n))
  (f:Cl 82 #[.pointer (some ⟨tb,0,none⟩)] w Q):Cl 34 #[.pointer (some ⟨a,0,none⟩)] w Q:=by
 have g:=Kv w a tb h;have h1:w.cell? ⟨a,1,none⟩=some (.pointer (some ⟨tb,0,none⟩)):=Gw.c1 h;have d:=Db b;clear b h;go_enter Tryz.func34,Tryz.ntmps34;go_wp2_with (go_at_call 53;refine g.mono ?_;rintro e w' ⟨rfl,rfl⟩);refine f.mono ?_;intro e w1 c;obtain⟨n,rfl⟩:=Da d e w1 c;go_wp2;exact c
theorem LL(w:World)(b tb:Nat)(h:Gw w b tb)(p:By)(i n:Int)(Q:Ending->World->Prop)(d:∀e w',Q e w'->∃a n c k,e = .returned (.tuple #[.slice a n c,.int .i64 k]))
  (j:Cl 119 #[.pointer (some ⟨tb,0,none⟩),.string p,.int .i64 i,.int .i64 n] w Q):Cl 55 #[.pointer (some ⟨b,0,none⟩),.string p,.int .i64 i,.int .i64 n] w Q:=by
 have l:=Kv w b tb h;have h1:w.cell? ⟨b,1,none⟩=some (.pointer (some ⟨tb,0,none⟩)):=Gw.c1 h;have g:=Db d;clear d h;go_enter Tryz.func55,Tryz.ntmps55;go_wp2_with (go_at_call 53;refine l.mono ?_;rintro e w' ⟨rfl,rfl⟩);refine j.mono ?_;intro e w1 f;obtain⟨a,n,c,k,rfl⟩:=Da g e w1 f;go_wp2;exact f
theorem MX(w:World)(b tb:Nat)(h:Gw w b tb)(p:By)(Q:Ending->World->Prop)(d:∀e w',Q e w'->∃a n c k,e = .returned (.tuple #[.slice a n c,.int .i64 k]))
  (i:Cl 120 #[.pointer (some ⟨tb,0,none⟩),.string p] w Q):Cl 56 #[.pointer (some ⟨b,0,none⟩),.string p] w Q:=by
 have j:=Kv w b tb h;have h1:w.cell? ⟨b,1,none⟩=some (.pointer (some ⟨tb,0,none⟩)):=Gw.c1 h;have g:=Db d;clear d h;go_enter Tryz.func56,Tryz.ntmps56;go_wp2_with (go_at_call 53;refine j.mono ?_;rintro e w' ⟨rfl,rfl⟩);refine i.mono ?_;intro e w1 f;obtain⟨a,n,c,k,rfl⟩:=Da g e w1 f;go_wp2;exact f
theorem MM(w:World)(i tb:Nat)(h:Gw w i tb)(p:By)(Q:Ending->Prop)(n:∀e,Q e->∃a b c d k,e = .returned (.tuple #[.agg #[.string a,.bool b,.int .i64 c,.int .i64 d],.int .i64 k]))
  (q:∀W,Bw w W->Cl 121 #[.pointer (some ⟨tb,0,none⟩),.string p] W fun e w'=>Q e/\Bw W w'):
  Cl 57 #[.pointer (some ⟨i,0,none⟩),.string p] w fun e w'=>Q e/\Bw w w':=by
 have j:∀o,Bw w (w.alloc o):=fun o=>(Al _ _).alloc (Aa _) o
 have s:=fun o=>Kv (w.alloc o) i tb (Gw.alloc h o)
 have x:=fun o=>(Gw.c1 (Gw.alloc h o):(w.alloc o).cell? ⟨i,1,none⟩=some (.pointer (some ⟨tb,0,none⟩)))
 have m:=Db (Jh w [.string ⟨#[]⟩,.bool false,.int .i64 0,.int .i64 0] 112);have r:=fun o=>q _ (j o)
 have u:=Db n;clear n h q;go_enter Tryz.func57,Tryz.ntmps57;go_wp2_with (go_at_call 53;refine(s _).mono ?_;rintro e w' ⟨rfl,rfl⟩);refine(r _).mono ?_;rintro e w1 ⟨t,l⟩;obtain⟨a,b,c,d,k,rfl⟩:=Da u e t;have y:Bw w w1:=(j _).trans (l.mono (by simp));have f:F0 w1 w.heap.size 112 _:=(l.block _ (by simp)).trans (Da m);clear r j l m s x;have b0:=f.cell 0;have b1:=f.cell 1;have b2:=f.cell 2;have b3:=f.cell 3;have g0:=f.frozen 0;have g1:=f.frozen 1;have g2:=f.frozen 2;have g3:=f.frozen 3;go_wp2;have g:=JX f (.string a) (.bool b) (.int .i64 c) (.int .i64 d);have z:=g.cell 0;have A:=g.cell 1;have B:=g.cell 2;have C:=g.cell 3;exact Ax (v := .tuple #[.agg #[.string a,.bool b,.int .i64 c,.int .i64 d],.int .i64 k]) (by simp[results,Tryz.results57,go_sem,z,A,B,C]) rfl
   ⟨t,Qj y (Aa _) _ _ _ _⟩
def Yl(w:World)(e:Ending)(w':World):Prop:=
 ∃tb,e = .returned (.pointer (some ⟨tb,0,none⟩))/\w.heap.size<tb/\PS w' tb [] [] (fun _=>⟨#[]⟩)/\Bw w w'/\∃rb vi,F0 w' tb 214 [.pointer (some ⟨rb,0,none⟩),vi]/\F0 w' rb 229 [.slice none 0 0]
theorem TV(w:World)(l:Gs w):Cl 95 #[] w (Yl w):=by
 go_enter Tryz.func95,Tryz.ntmps95;go_wp2;go_ret;have i:Bw w ((w.alloc (.cells #[.slice none 0 0] 229)).alloc (.cells #[.pointer (some ⟨w.heap.size,0,none⟩),.slice none 0 0] 214)):=((Al _ w).alloc (Aa _) _).alloc (by simp) _;refine⟨_,rfl,by simp,⟨w.heap.size,fun _ => .slice none 0 0,fun _=>[],.slice none 0 0,?_,?_,?_,?_,?_,?_,by simp,fun g e=>by simp[Value.ownBlock]at e⟩,i,w.heap.size,.slice none 0 0,?_,(Jh w [.slice none 0 0] 229).alloc _⟩
 ·exact l.fr (X:=fun _=>False) (Fr.of_below i) id
 ·have:=Jh (w.alloc (.cells #[.slice none 0 0] 229)) [.pointer (some ⟨w.heap.size,0,none⟩),.slice none 0 0] 214;rw[show(w.alloc (.cells #[.slice none 0 0] 229)).heap.size=w.heap.size+1 by simp]at this;exact this
 ·have m:F0 ((w.alloc (.cells #[.slice none 0 0] 229)).alloc (.cells #[.pointer (some ⟨w.heap.size,0,none⟩),.slice none 0 0] 214)) w.heap.size 229 [.slice none 0 0]:=(Jh w [.slice none 0 0] 229).alloc _;have c:∀ns b,F4 [] w.heap.size ns b->ns=[]/\b=w.heap.size:=fun ns b h=>h.elim id (fun h=>by cases h)
  refine⟨fun x f=>(by cases f),fun ns b h=>?_,fun ns b h=>⟨rfl,.inl ⟨rfl,rfl⟩⟩,fun ns b h=>?_,fun ns b h=>?_,fun ns n b h d=>(c _ _ h).1.trans (c _ _ d).1.symm,fun ns n b b' g h d _ _=>(c _ _ h).2.trans (c _ _ d).2.symm,fun ns b h=>⟨Ej (c _ _ h).2.symm,fun g e=>by simp[Value.ownBlock]at e⟩⟩
  ·obtain⟨-,rfl⟩:=c _ _ h;exact m
  ·exact fun j k x y _ h=>by simp at h
  ·intro a s;simp
 ·exact⟨rfl,.inl ⟨rfl,rfl⟩⟩
 ·exact fun j k x y _ h=>by simp at h
 ·intro x f
  cases f
 ·have:=Jh (w.alloc (.cells #[.slice none 0 0] 229)) [.pointer (some ⟨w.heap.size,0,none⟩),.slice none 0 0] 214;rw[show(w.alloc (.cells #[.slice none 0 0] 229)).heap.size=w.heap.size+1 by simp]at this;exact this
def Hs(w:World)(vb tb db stb:Nat):Prop:=F0 w vb 41 [.pointer (some ⟨vb,0,none⟩),.pointer (some ⟨tb,0,none⟩),.pointer (some ⟨db,0,none⟩),.pointer (some ⟨stb,0,none⟩)]
theorem Hs.vol{w:World}{c tb a b:Nat}(h:Hs w c tb a b):Gw w c tb:=⟨a,b,h⟩
theorem Xh(w:World)(tb b c:Nat):Cl 77 #[.pointer (some ⟨tb,0,none⟩),.pointer (some ⟨b,0,none⟩),.pointer (some ⟨c,0,none⟩)] w fun e w'=>e = .returned (.pointer (some ⟨w.heap.size,0,none⟩))/\Hs w' w.heap.size tb b c/\Bw w w'/\w.heap.size<w'.heap.size:=by
 obtain⟨W,j,a,k,f,d⟩:=De w [.pointer none,.pointer (some ⟨tb,0,none⟩),.pointer (some ⟨b,0,none⟩),.pointer (some ⟨c,0,none⟩)] 41;go_enter Tryz.func77,Tryz.ntmps77;go_upto_region 2 with fail;have b0:=a.cell 0;have g0:=a.frozen 0;have i:=Db a;have g:=Db d;have h:=Db f;clear j k d a f;go_wp2;go_ret;exact⟨rfl,(Da i).set 0 _,(Da g).setCell (p:=⟨w.heap.size,0,none⟩) (Aa _) _,by have:=Da h;simp[World.setCell];omega⟩
def Pe(w:World)(tb:Nat)(e:Ending)(w':World):Prop:=
 ∃vb db stb vf vn va,e = .returned (.pointer (some ⟨vb,0,none⟩))/\Hs w' vb tb db stb/\Ho w' stb db va ((16:Nat):Int) (Dl DG:Nat) ((1:Nat):Int) vf vn (.slice none 0 0) (.slice none 0 0) Jn [] []/\Hp w' vf Jn/\Sl w' 350 2 va 1 (Ds Jq)/\Bw w w'/\w.heap.size<=vb/\w.heap.size<=db/\w.heap.size<=stb/\vb≠db/\vb≠stb/\(∀k,F2 vf k->w.heap.size<=k/\k≠stb/\k≠db/\¬F2 va k/\¬F2 vn k/\k≠vb)/\(∀k,F2 va k->w.heap.size<=k/\k≠stb/\k≠db/\¬F2 vn k/\k≠vb)/\(∀k,F2 vn k->w.heap.size<=k/\k≠vb)
theorem Zgh(w:World)(tb:Nat){C:IB}(q:PS w tb [] [] C):
  Cl 40 #[.pointer (some ⟨tb,0,none⟩)] w (Pe w tb):=by
 have v:Hid (Cl 98 #[] w fun e X=>∃c,e = .returned (.pointer (some ⟨c,0,none⟩))/\Hid (Cl 99 #[.pointer (some ⟨c,0,none⟩),.pointer (some ⟨tb,0,none⟩)] X fun e Y=>∃d,e = .returned (.pointer (some ⟨d,0,none⟩))/\Hid (Cl 77 #[.pointer (some ⟨tb,0,none⟩),.pointer (some ⟨c,0,none⟩),.pointer (some ⟨d,0,none⟩)] Y fun e Z=>∃m,e = .returned (.pointer (some ⟨m,0,none⟩))/\Hid (Pe w tb (.returned (.pointer (some ⟨m,0,none⟩))) Z)))):=by
  refine(ZlH w).mono ?_;rintro e X ⟨c,L,s,rfl,F,y,-,f,-,l,-⟩;refine⟨c,rfl,?_⟩;have p:=f.size;have I:PS X tb [] [] C:=by
   obtain⟨J,V,E,M,z⟩:=q;exact⟨J,V,E,M,z.below f (Aa _)⟩
  refine(Zio X c tb L s y (fun e=>(l _ e).2 rfl) I).mono ?_;rintro e Y ⟨d,K,r,rfl,ab,h,j,o,H,G,g⟩;refine⟨d,rfl,?_⟩;have B:=g.size;refine(Xh Y tb c d).mono ?_;rintro e Z ⟨rfl,A,i,aa⟩;have D:Bw w Y:=⟨g.os.trans f.os,g.tape.trans f.tape,g.output.trans f.output,Ag p B,fun k a=>(g.block k (by omega) (fun e=>by
   rcases e with e|e
   ·omega
   ·have:=(l _ e).1;omega)).trans (f.block k a)⟩
  have l1:=h.disk.1.lt;have l2:=h.row.lt;have ac:∀k,F2 r k->w.heap.size<=k\/k<w.heap.size:=fun k _=>by omega
  refine⟨Y.heap.size,rfl,Y.heap.size,c,d,K,s,r,rfl,A,h.below i,⟨j.1.kept (fun k a _=>i.block k a),j.2⟩,o.kept (fun k a _=>i.block k a),D.trans (i.mono (by omega)),by omega,F,by omega,by omega,by omega,fun k a=>?_,fun k a=>?_,fun k a=>?_⟩
  ·have b:=H k a;have n:=j.1.lt a;exact⟨by omega,b.2.1,b.2.2.2.1,b.2.2.1,b.2.2.2.2,by omega⟩
  ·have b:=G k a;have n:=o.lt a;exact⟨Ag p b.1,b.2.1,b.2.2.1,b.2.2.2,by omega⟩
  ·have b:=l k a;have n:=h.disk.2.1.1.lt a;exact⟨b.1,by omega⟩
 clear q;go_enter Tryz.func40,Tryz.ntmps40;go_wp2_with (first|(go_at_call 98;refine(Da v).mono ?_;rintro e X ⟨c,rfl,t⟩)|(go_at_call 99;refine(Da t).mono ?_;rintro e Y ⟨d,rfl,u⟩)|(go_at_call 77;refine(Da u).mono ?_;rintro e Z ⟨m,rfl,x⟩));go_ret;exact Da x
def Rw(w:World)(e:Ending)(w':World):Prop:=
 ∃tb w1,w.heap.size<tb/\Bw w w1/\tb<w1.heap.size/\PS w' tb [] [] (fun _=>⟨#[]⟩)/\Pe w1 tb e w'
theorem WO(w:World)(b:Gs w):Cl 71 #[] w (Rw w):=by
 have g:Hid (Cl 95 #[] w fun e X=>∃tb,e = .returned (.pointer (some ⟨tb,0,none⟩))/\Hid (Cl 40 #[.pointer (some ⟨tb,0,none⟩)] X fun e Y=>∃a,e = .returned (.pointer (some ⟨a,0,none⟩))/\Hid (Rw w (.returned (.pointer (some ⟨a,0,none⟩))) Y))):=by
  refine(TV w b).mono ?_;rintro e X ⟨tb,rfl,l,c,k,rb,vi,n,hr⟩;refine⟨tb,rfl,?_⟩;refine(Zgh X tb c).mono ?_;intro e Y d;have m:=d;obtain⟨a,db,aa,vf,vn,va,rfl,h1,h2,h3,h4,j,h6⟩:=d;refine⟨a,rfl,tb,X,l,k,n.lt,?_,m⟩;obtain⟨o,V,E,p,h⟩:=c;exact⟨o,V,E,p,h.below j (Aa _)⟩
 clear b;go_enter Tryz.func71,Tryz.ntmps71;go_wp2_with (first|(go_at_call 95;refine(Da g).mono ?_;rintro e X ⟨tb,rfl,f⟩)|(go_at_call 40;refine(Da f).mono ?_;rintro e Y ⟨a,rfl,i⟩));go_ret;exact Da i
theorem Mh(w:World)(b tb a p:Nat)(h:Hs w b tb a p)(g i vw f:Value)(D:LY)(d:DV w a g i vw f D):Cl 28 #[.pointer (some ⟨b,0,none⟩)] w (PY w D):=by
 have n:=Kv w b tb h.vol;have j:=Db (Zkv w a g i vw f D d);have c2:w.cell? ⟨b,2,none⟩=some (.pointer (some ⟨a,0,none⟩)):=(F0.cell h 2).trans rfl;clear h d;go_enter Tryz.func28,Tryz.ntmps28;go_wp2_with (first|(go_at_call 53;refine n.mono ?_;rintro e w' ⟨rfl,rfl⟩)|(go_at_call 78;refine(Da j).mono ?_;rintro e w' ⟨l,o,m,rfl,c⟩;have k:=Db c;clear c));go_ret;exact⟨l,o,m,rfl,Da k⟩
def JT(tb:Nat)(w:World)(k:Nat):Prop:=(∃t R,F0 w k t R/\(t=214\/t=229\/t=310\/t=293\/t=89\/t=103\/t=9))/\tb<=k+1
structure R3(w:World)(tb rb:Nat)(vl vf:Value)(L:List (By×Int))(F:LY):Prop extends RZ w rb vl vf L F where
 lo:∀k,Mv rb vl vf k->tb<=k+1
def Md(w:World)(vb tb rb:Nat)(L:List (By×Int))(F:LY)(L':List (By×Int))(F':LY):Prop:=
 ∃G I C ρ vl vf,Gw w vb tb/\PS w tb G I C/\R3 w tb rb vl vf L F/\Rl G I C ρ L' F'/\cD G []+I.length<=60
section
variable{w w':World}{vb tb rb:Nat}{L L' L1:List (By×Int)}{F F' F1:LY}{G G':Gh}{I I':LF}{C C':IB}{ρ ρ':Int->Nat}{vl vf:Value}
end
section
variable{w:World}{vb tb rb:Nat}{L:List (By×Int)}{F:LY}
end
def Nz(w:World)(xb vb rb:Nat)(kp ep fs:Value):Prop:=F0 w xb 55 [.pointer (some ⟨vb,0,none⟩),.pointer (some ⟨rb,0,none⟩),kp,ep,fs]
structure K1(w W:World)(vb tb rb xb:Nat)(kp ep fs:Value)(ob:Nat)(O:F6)(L:List (By×Int))(F:LY)(L':List (By×Int))(F':LY):Prop where
 fr:Fr (JT tb w) w W
 md:Md W vb tb rb L F L' F'
 x:Nz W xb vb rb kp ep fs
 o:F0 W ob 51 O
section
variable{w W W':World}{vb tb rb xb ob:Nat}{kp ep fs:Value}{O:F6}{L L' L1:List (By×Int)}{F F' F1:LY}
end



section
variable{w w':World}{vb tb rb B:Nat}{L L' L1:List (By×Int)}{F F' F1:LY}{G G':Gh}{I I':LF}{C C':IB}{ρ ρ':Int->Nat}{vl vf:Value}
end
section
variable{w:World}{vb tb rb:Nat}{L:List (By×Int)}{F:LY}
end





structure En where
 n:By
 d:Bool
 s:Int
 l:Int
def Nd(x:En):F6:=[.string x.n,.bool x.d,.int .i64 x.s,.int .i64 x.l]
def JY(es:List En):F6:=es.flatMap Nd
theorem Zhw(a b:List En):JY (a++b)=JY a++JY b:=by simp[JY]
theorem ZkJ(es:List En):∀u∈JY es,u.oneCell'=true:=by
 intro u a;simp only[JY,ET,Nd,AE,Ft,or_false]at a;obtain⟨x,_,rfl|rfl|rfl|rfl⟩:=a<;>simp[Value.oneCell']

theorem Sh:(Tryz.prog.info? 112).map (fun i=>(i.zero,i.size,i.bytes))=some (some (.agg #[.string ⟨#[]⟩,.bool false,.int .i64 0,.int .i64 0]),4,40):=by kernel_rfl
theorem LJ:Tryz.prog.underlying 99=some (.slice 112):=by kernel_rfl
theorem OU(w:World)(v:Value)(es:List En)(f:Sl w 112 4 v es.length (JY es))(hl:es.length+1<=2000000)(x:En)(nb:Nat)(h:F0 w nb 112 (Nd x)):
  ∃d w2,(Builtin.append_ #[99,99] 99 #[v,.slice (some ⟨nb,0,none⟩) 1 1]).run Tryz.prog w = .ok d w2/\∃a n c,d = .slice a n c/\Sl w2 112 4 (.slice a n c) (es++[x]).length (JY (es++[x]))/\w.grownBy w2 v.ownBlock/\Dm w v (.slice a n c):=by
 obtain⟨m,g,i,k,l⟩:=BU Sh;obtain⟨d,w2,o,e,p,q⟩:=KQ (P:=Tryz.prog) w 99 99 112 m _ 4 40 LJ g i k l rfl (by decide) v es.length (JY es) f ⟨nb,0,none⟩ 1 1 (Nd x) rfl
  (fun j u b=>by rw[AL,Av,h.cell];exact b) (fun u b=>ZkJ [x] u (by simpa [JY] using b)) (by unfold maxLen;omega) (by omega)
 obtain⟨a,n,c,rfl⟩:=e.shape;refine⟨_,w2,o,a,n,c,rfl,?_,p,q⟩;rw[Ad,Zhw]
 simpa [JY] using e
section
open Go.RowKit Go.Shelf
attribute [local go_sem] Oper.semAt_some
theorem ZdF{F:Fence}{n:Nat}{P:Program}{h:Array Oper}{o:Oper}{a:Act}{w:World}{K:Act->World->Prop}{Q:Exit->Act->World->Prop}{E:Prop}
  (q:o.guard=none) (d x:Operand) (g i:TypeId) (e:o.op=Op.call { callee:=Callee.builtin Builtin.append,args := #[d,x],argTypes := #[g,i] })
  (v u:Value) (p:a.eval d=v) (t:a.eval x=u) {f:Value->World->Prop} (r:∃b w',(Builtin.append_ #[g,i] o.type #[v,u]).run P w = .ok b w'/\f b w') (l:∀b w',f b w'->K (a.put o.dst b) w'):
  if Region.wanted o (yielded h a.tmps)=true then Oper.wpIn F n P o a w K Q else E:=by
 obtain⟨b,w',j,k⟩:=r;have s:Region.wanted o (yielded h a.tmps)=true:=by simp[Region.wanted,q]
 rw[if_pos s];unfold Oper.wpIn;refine⟨?_,?_⟩
 ·simp[Oper.about,e,resolve,Target.leads,Sem.run_pure]
 ·rw[Fp F _ _ (by rw[e];intro c m;cases m)];simp[execOp,e,resolve,invoke,builtin,p,t,j,Result.andThen];exact l _ _ k
theorem ZhU{l n:Nat}{P:Program}{k:Array Oper}{o:Oper}{a:Act}{w:World}{K:Act->World->Prop}{Q:Exit->Act->World->Prop}{E:Prop}
  (C:o.guard=none) (f:FuncId) (m p q:Operand) (H:Array TypeId) (j:o.op=Op.call { callee:=Callee.value (.func f),args := #[m,p,q],argTypes:=H })
  (b d g:Value) (r:a.eval m=b) (s:a.eval p=d) (t:a.eval q=g) (z:(callFunc f #[b,d,g]).run P w = .ok (.enter f #[b,d,g]) w) {i:Ending->World->Prop} (x:Calls P f #[b,d,g] w i) (u:∀e w',i e w'->∃v,e = .returned v/\K (a.put o.dst v) w'):
  if Region.wanted o (yielded k a.tmps)=true then Oper.wpIn (Fence.wide.inRound l) n P o a w K Q else E:=by
 have G:Region.wanted o (yielded k a.tmps)=true:=by simp[Region.wanted,C]
 rw[if_pos G];unfold Oper.wpIn;have B:a.eval (.func f) = .func (.func f) #[] #[]:=rfl;have A:(execOp a.eval o).run P w = .ok (.enter f #[b,d,g]) w:=by
  simp[execOp,j,resolve,r,s,t,B,Deferred.ofValue,invoke,z]
 refine⟨fun _ _=>AQ,?_⟩;rw[Fp _ _ _ (by rw[j];intro c y;cases y),A,Oper.uponIn_enter];refine⟨fun h=>by simp[Fence.inRound,Fence.wide]at h,(Ec l (Bj.2 x)).mono (fun e w' F=>?_)⟩;obtain⟨v,rfl,D⟩:=u e w' F;exact D
def Iy(G:Gh)(I:LF)(ns:LY)(xs:LS)(es:List En):Prop:=
 es.length=xs.length/\∀(j:Nat) x y,xs[j]?=some x->es[j]?=some y->Qb G I (ns++[x.1]) x.1 x.2 (.agg #[.string y.n,.bool y.d,.int .i64 y.s,.int .i64 y.l])
theorem Iy.snoc{G:Gh}{I:LF}{ns:LY}{xs:LS}{es:List En}(h:Iy G I ns xs es){x:By×VS}{y:En}(d:Qb G I (ns++[x.1]) x.1 x.2 (.agg #[.string y.n,.bool y.d,.int .i64 y.s,.int .i64 y.l])):Iy G I ns (xs++[x]) (es++[y]):=by
 refine⟨by simp[h.1],fun j e f a c=>?_⟩;rcases Cz j xs.length with b|b|b
 ·rw[AP b]at a;rw[AP (by rw[h.1];exact b)]at c;exact h.2 j e f a c
 ·subst b;rw[FI]at a;rw[<-h.1,FI]at c
  cases a;cases c;exact d
 ·rw[BS (by simp;omega)]at a;cases a
def My(w:World)(tb BL:Nat)(G:Gh)(I:LF)(ns:LY)(xs:LS)(W:World):Prop:=
 ∃v es,F0 W BL 99 [v]/\F0 W w.heap.size 37 [.pointer (some ⟨tb,0,none⟩)]/\Sl W 112 4 v es.length (JY es)/\Iy G I ns xs es/\Bw w W/\(∀g,v.ownBlock=some g->w.heap.size<=g)
theorem Ov{W:World}{k:Nat}{t:TypeId}{R:F6}(h:F0 W k t R){o:Obj}(ho:W.heap[k]?=some o):o.isCells=true:=by
 unfold F0 at h;rw[h]at ho;cases ho;rfl
theorem My.own{α : Type}(u : α -> By×VS)(w:World)(tb BL:Nat)(G:Gh)(I:LF)(ns:LY)(B:Nat)(q:w.heap.size<=B):OwnFrom B (fun (j:List α) W=>My w tb BL G I ns (j.map u) W):=by
 rintro j X Y row ⟨v,es,l,m,f,n,g,p⟩ c d;have i:∀k t R,F0 X k t R->F0 Y k t R:=fun k t R h=>h.kept c (fun b=>by
  obtain⟨_,o,ho,a⟩:=d k b.symm;rw[Ov h ho]at a;cases a)
 refine⟨v,es,i _ _ _ l,i _ _ _ m,f.kept (fun k s e=>c.block k s (fun b=>?_)),n,g.grown c g.size (fun k e=>Ag q (d k e).1),p⟩;obtain⟨R,r⟩:=f.type e;obtain⟨_,o,ho,a⟩:=d k b.symm;rw[Ov r ho]at a;cases a
end
section
variable{G:Gh}{I:LF}{C:IB}{ρ : Int->Nat}{L:List (By×Int)}{F:LY}
end
end Go.Proofs.YtaieidcohdhgpaaGreatDoor
