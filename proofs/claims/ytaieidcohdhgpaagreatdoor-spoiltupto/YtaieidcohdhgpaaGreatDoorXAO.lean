/- Spoilt. -/
import Derived.Test.YtaieidcohdhgpaaGreatDoorXAN
import Derived.Stop.BytesEq
namespace Go.Proofs.YtaieidcohdhgpaaGreatDoor
set_option maxHeartbeats 40000000
set_option maxRecDepth 100000
open Go.RowKit
theorem Sl.len{w:World}{e:TypeId}{b:Nat}{a:OA}{l c n:Nat}{xs:F6}(h:Sl w e b (.slice a l c) n xs):l=n:=by
 rcases h.2 with⟨e,rfl⟩|⟨g,aa,L,e,_⟩
 ·simp only[Bl]at e;exact e.2.1
 ·simp only[Bl]at e;exact e.2.1
theorem U4:∀{ps:LB},(∀x∈ps,x.2.size=64)->∀(i j:Nat) (x:Nat×By),ps[i]?=some x->j<65->(KW ps)[i*65+j]?=(Gi x.1 x.2)[j]?
 | [],_,i,j,s,hi,_=>by simp at hi
 | x::D,h,0,j,s,hi,hj=>by
  simp at hi;subst hi;have a:=h x A5;unfold KW;rw[A9,Fj,Av,AP (by rw[JZ];omega)]
 | x::D,h,i+1,j,s,hi,hj=>by
  have a:=h x A5;have:=U4 (ps:=D) (fun y b=>h y (AF _ b)) i j s (by simpa using hi) hj;unfold KW at this ⊢;rw[A9,AH (by rw[JZ];omega),JZ,<-this]
  congr 1;omega
theorem Ih.range{w:World}{a:OA}{l c:Nat}{ps:LB}(h:Ih w (.slice a l c) ps)(d:∀x∈ps,x.2.size=64)(i:Nat)(x:Nat×By)(b:ps[i]?=some x):∃g,a=some ⟨g,0,none⟩/\l=ps.length/\w.rangeAt g (i*65) (Gi x.1 x.2):=by
 have ab:=(Ae.1 b).1;rcases h.2 with⟨e,h0⟩|⟨g,aa,L,e,m,h1,h2,h3,k⟩
 ·omega
 ·simp only[Bl]at e;obtain⟨rfl,rfl,rfl⟩:=e;refine⟨g,rfl,rfl,fun j v f=>?_⟩;have ac:=d x (An b);have n:j<65:=by have:=(Ae.1 f).1;rw[JZ]at this;omega
  have:=U4 d i j x b n;rw[f,<-k,Ao]at this
  split at this
  ·rw[m.cell];exact this
  ·cases this
def JD(D:LY)(qs:LB):LY:=qs.foldl (fun D x=>D.set x.1 x.2) D
theorem Zj9(D:LY)(a:LB)(p:Nat)(s:By):JD D (a++[(p,s)])=(JD D a).set p s:=by simp[JD]
theorem Ho.head{w w':World}{c d:Nat}{p:Value}{n o m:Int}{i j vw f:Value}{D:LY}{ps:LB}{es:List Int}(h:Ho w c d p n o m i j vw f D ps es)(b:Fr (fun k=>k=c) w w'){vk':Value}{tp' tx' tn':Int}(l:F0 w' c 179 [.pointer (some ⟨d,0,none⟩),vk',.int .i64 tp',.int .u64 tx',.int .u64 tn']):Ho w' c d vk' tp' tx' tn' i j vw f D ps es:=
 ⟨l,⟨h.disk.1.fr b (fun e=>h.ne e.symm),⟨h.disk.2.1.1.fr b (fun g a e=>h.ns.1 (by rw[<-e];exact a)),h.disk.2.1.2⟩,h.disk.2.2⟩,Sl.fr h.sw b (fun g a e=>h.ns.2.1 (by rw[<-e];exact a)),h.se.fr b (fun g a e=>h.ns.2.2 (by rw[<-e];exact a)),h.ne,h.ns,h.nd,h.d1,h.d2,h.d3⟩
def Il(w:World)(stb db:Nat)(vk:Value)(tp tx tn:Int)(vf vn vw ve:Value)(D:LY)(ps:LB)(es:List Int)(qs:LB)(wr:World):Prop:=
 ∃vw',Ho wr stb db vk tp tx tn vf vn vw' ve (JD D qs) (ps++qs) es/\Dm w vw vw'/\Fr (fun k=>k=db\/F2 vn k\/F2 vw k) w wr
theorem Il.start{w:World}{b a:Nat}{j:Value}{d e c:Int}{i k vw f:Value}{D:LY}{ps:LB}{es:List Int}(h:Ho w b a j d e c i k vw f D ps es):Il w b a j d e c i k vw f D ps es [] w:=
 ⟨vw,by rw[CG];exact h,fun g l => .inl l,Fr.refl _ _⟩
theorem Ho.write_call{w:World}{i a:Nat}{m:Value}{k l j:Int}{c d vw b:Value}{D:LY}{ps:LB}{es:List Int}(h:Ho w i a m k l j c d vw b D ps es)(e:ps.length<=1000000000)(p:Nat)(f:p<1536)(s:By)(g:s.size=64):Cl 159 #[.pointer (some ⟨a,0,none⟩),Ii p s] w (NN w a c d vw b D ps p s):=
 Zfn w a c d vw b D ps h.disk h.sw h.nd.1 h.nd.2.1 h.d1 e p f s g
theorem Il.step{w wr X:World}{o b:Nat}{x:Value}{r t q:Int}{v f vw u:Value}{D:LY}{ps:LB}{es:List Int}{i:LB}(h:Il w o b x r t q v f vw u D ps es i wr)(d:Bw wr X)(hl:ps.length+i.length<=1000000000)(p:Nat)(B:p<1536)(s:By)(C:s.size=64):
  Cl 159 #[.pointer (some ⟨b,0,none⟩),Ii p s] X fun e w'=>e = .returned (.tuple #[])/\Il w o b x r t q v f vw u D ps es (i++[(p,s)]) w'/\∀k,wr.heap.size<=k->k<X.heap.size->w'.heap[k]?=X.heap[k]? := by
 obtain⟨G,c,j,l⟩:=h;have A:∀k,k=b\/F2 f k\/F2 G k->k<wr.heap.size:=fun k a=>by
  rcases a with rfl|a|a
  ·exact c.disk.1.lt
  ·exact c.disk.2.1.1.lt a
  ·exact Sl.lt c.sw a
 refine((c.below d).write_call (by rw[Ad];omega) p B s C).mono ?_;intro e w' m;obtain⟨H,E,F,n⟩:=(c.below d).write m;refine⟨m.1,⟨H,by rw[Zj9,<-Ar];exact E,fun g y=>?_,?_⟩,fun k a z=>n.block k z (fun e=>by have:=A k e;omega)⟩
 ·rcases F g y with e|e
  ·exact j g e
  ·exact .inr (by have:=l.size;have:=d.size;omega)
 ·refine(l.then (Fr.of_below (X:=fun k=>k=b\/F2 f k\/F2 vw k) d) (fun _ _ e=>e)).then n (fun k a e=>?_);rcases e with e|e|e
  ·exact .inl e
  ·exact .inr (.inl e)
  ·exact(j k e).elim (fun e => .inr (.inr e)) (fun e=>by omega)
def Ha(stb db:Nat)(vn vw ve:Value)(k:Nat):Prop:=k=stb\/k=db\/F2 vn k\/F2 vw k\/F2 ve k
def Vz(w:World)(stb db T:Nat)(vf vn vw ve:Value)(D:LY)(ps:LB)(es:List Int)(va:Value)(eP:LI)(tp tx:Nat)(qs:LB)(e:Ending)(w':World):Prop:=
 e = .returned (.tuple #[])/\∃vw' ve',Ho w' stb db va (tp:Nat) (tx:Nat) ((T:Nat):Int) vf vn vw' ve' ((JD D qs).set (T%2) (GO T tp tx)) (ps++qs++[(T%2,GO T tp tx)]) (es++[((ps.length+qs.length:Nat):Int)]++[((ps.length+qs.length+1:Nat):Int)])/\Dm w vw vw'/\Dm w ve ve'/\Fr (Ha stb db vn vw ve) w w'/\Sl w' 350 2 va eP.length (Ds eP)/\∀k,F2 va k->¬Ha stb db vn vw' ve' k
theorem RK{w w1:World}{v a b:Value}(c:Dm w v a)(d:Dm w1 a b)(h:w.heap.size<=w1.heap.size):Dm w v b:=fun g f=>(d g f).elim (c g) (fun e => .inr (Ag h e))
theorem PN(t p x:Int):Tryz.prog.built 191 [(0,.int .u64 t),(1,.agg #[.int .i64 p,.int .u64 x])]=some #[.int .u64 t,.int .i64 p,.int .u64 x]:=by kernel_rfl
theorem ZkM(w:World)(a b pb:Nat)(E:Value)(A B:Int)(L:Nat)(q l vw m:Value)(D:LY)(ps:LB)(es:List Int)(h:Ho w a b E A B (L:Nat) q l vw m D ps es)
  (d1 sb so:Nat) (nd:Nat->Int) (cl:Bool) (hd:Nat) (va:Value) (eP:LI) (d f:Nat) (vp:Value) (c:LB) (n:Gb w pb d1 sb so nd cl hd va eP (d:Nat) (f:Nat) vp c)
  (hq:∀x∈c,x.1<1536/\x.2.size=64) (aP:0<c.length) (hl:ps.length+c.length<=999999999) (bf:es.length<=999999998) (T:Nat) (hT:L+1=T) (aS:T<18446744073709551616) (aT:d<65536) (aU:f<18446744073709551616)
  (y:∀k,k=pb\/F2 vp k\/F2 va k->¬Ha a b l vw m k):
  Cl 133 #[.pointer (some ⟨a,0,none⟩),.pointer (some ⟨pb,0,none⟩)] w (Vz w a b T q l vw m D ps es va eP d f c):=by
 obtain⟨N,hN⟩:=ex c.length;have am:∀x∈c,x.2.size=64:=fun x hx=>(hq x hx).2
 obtain⟨ap,t,cp,rfl⟩:=Sl.shape n.sp;obtain⟨O,U,P,rfl⟩:=n.sa.shape;obtain⟨x0,aW⟩:∃x,c[0]?=some x:=⟨_,Ac aP⟩;obtain⟨g,rfl,aJ,-⟩:=Ih.range n.sp am 0 x0 aW;rw[<-hN]at aJ;subst aJ;have bq:=n.cells.2.2.2.2.2.2;have bv:=n.row.lt;have bx:=h.row.lt;have bi:¬a=pb:=fun e=>y pb (.inl rfl) (.inl e.symm)
 have a1:=Db (Il.start h);have az:Hid (∀k,k<t->∀wr,Il w a b E A B (L:Nat) q l vw m D ps es (c.take k) wr->∃p s,s.size=64/\wr.rangeAt g (k*65) (Gi p s)/\∃W o,wr.alloc (.cells (Gi 0 (Di 64)).toArray 207)=W/\F0 W wr.heap.size 207 (Gi 0 (Di 64))/\W.setRow wr.heap.size (Gi p s).toArray=o/\o.cell? ⟨a,0,none⟩=some (.pointer (some ⟨b,0,none⟩))/\o.rangeAt wr.heap.size 0 (Gi p s)/\Hid (Cl 159 #[.pointer (some ⟨b,0,none⟩),Ii p s] o.drew fun e w'=>e = .returned (.tuple #[])/\w'.cell? ⟨a,0,none⟩=some (.pointer (some ⟨b,0,none⟩))/\w'.rangeAt wr.heap.size 0 (Gi p s)/\Hid (Il w a b E A B (L:Nat) q l vw m D ps es (c.take (k+1)) w'))):=fun k r wr G=>by
  obtain⟨⟨p,s⟩,hx⟩:∃x,c[k]?=some x:=⟨_,Ac (by omega)⟩;have ao:=hq _ (An hx);have a8:=G;obtain⟨F,u,q2,q3⟩:=a8;have a9:Ih wr (.slice (some ⟨g,0,none⟩) t cp) c:=Sl.fr n.sp q3 (fun k r e=>y k (.inr (.inl r)) (by rcases e with e|e|e;exact .inr (.inl e);exact .inr (.inr (.inl e));exact .inr (.inr (.inr (.inl e)))));obtain⟨g',be,-,af⟩:=Ih.range a9 am k _ hx
  cases be
  obtain⟨W,Q,xW,kW,sW,bW⟩:=De wr (Gi 0 (Di 64)) 207;obtain⟨o,ab⟩:∃X,W.setRow wr.heap.size (Gi p s).toArray=X:=⟨_,rfl⟩;have an:F0 o wr.heap.size 207 (Gi p s):=by rw[<-ab];exact BQ W _ _ _ 207 _ xW
  have ac:Bw wr o:=by rw[<-ab];exact bW.trans ⟨rfl,rfl,rfl,by simp,fun j hj=>Bn W _ j _ (by omega)⟩
  have ba:Bw wr o.drew:=⟨ac.os,ac.tape,ac.output,ac.size,ac.block⟩;have I:F0 o a 179 _:=(ac.block _ u.row.lt).trans u.row;refine⟨p,s,ao.2,af,W,o,Q,xW,ab,(I.cell 0).trans rfl,fun j v hv=>by rw[an.cell,Av];exact hv,?_⟩;refine(G.step ba (by rw[Am];omega) p ao.1 s ao.2).mono ?_;rintro e w' ⟨rfl,J,r2⟩;have bk:F0 w' wr.heap.size 207 (Gi p s):=(r2 _ (Aa _) an.lt).trans an;have e1:c.take (k+1)=c.take k++[(p,s)]:=by rw[BZ,hx];rfl
  rw[<-e1]at J;obtain⟨bl,t1,-⟩:=id J;exact⟨rfl,(t1.row.cell 0).trans rfl,fun j v hv=>by rw[bk.cell,Av];exact hv,J⟩
 have ay:Hid (∀wr,Il w a b E A B (L:Nat) q l vw m D ps es c wr->wr.cell? ⟨a,0,none⟩=some (.pointer (some ⟨b,0,none⟩))/\Hid (Cl 200 #[.pointer (some ⟨b,0,none⟩)] wr fun e w'=>e = .returned (.tuple #[])/\w'.cell? ⟨pb,103,none⟩=some (.slice (some ⟨g,0,none⟩) t cp)/\w'.cell? ⟨a,4,none⟩=some (.int .u64 (L:Nat))/\w'.frozen? ⟨a,4,none⟩=false/\∃W,w'.setCell ⟨a,4,none⟩ (.int .u64 ((T:Nat):Int))=W/\
   W.cell? ⟨a,0,none⟩=some (.pointer (some ⟨b,0,none⟩))/\W.cell? ⟨a,4,none⟩=some (.int .u64 ((T:Nat):Int))/\W.cell? ⟨pb,101,none⟩=some (.int .i64 (d:Nat))/\W.cell? ⟨pb,102,none⟩=some (.int .u64 (f:Nat))/\
   Hid (∃F C,Ho W a b E A B ((T:Nat):Int) q l F C (JD D c) (ps++c) (es++[((ps.length+c.length:Nat):Int)])/\Dm w vw F/\Dm w m C/\Fr (Ha a b l vw m) w W))):=fun wr G=>by
  obtain⟨F,u,q2,q3⟩:=G;obtain⟨av,lv,cv,rfl⟩:=Sl.shape u.sw;have aj:=Sl.len u.sw;refine⟨(u.row.cell 0).trans rfl,?_⟩;refine(RG wr b q l m av lv cv u.disk.1 es u.se u.nd.2.2 (by omega)).mono ?_;intro e w' hw;obtain⟨C,J,r2,r3⟩:=u.flush hw;have ak:lv=ps.length+c.length:=by rw[aj,Ad]
  subst ak;have bj:=q3.size;have aF:Fr (Ha a b l vw m) w w':=(q3.mono (Y:=Ha a b l vw m) (fun k _ e=>by rcases e with e|e|e;exact .inr (.inl e);exact .inr (.inr (.inl e));exact .inr (.inr (.inr (.inl e))))).then r3 (fun k _ e=>by rcases e with e|e;exact .inr (.inl e);exact .inr (.inr (.inr (.inr e))));have aK:F0 w' pb 184 _:=n.row.fr aF (y pb (.inl rfl));have I:=J.row.set 4 (.int .u64 ((T:Nat):Int));have ad:Fr (fun k=>k=a) w' (w'.setCell ⟨a,4,none⟩ (.int .u64 ((T:Nat):Int))):=(Fr.refl _ _).set _ _ rfl;have aL:F0 (w'.setCell ⟨a,4,none⟩ (.int .u64 ((T:Nat):Int))) pb 184 _:=aK.fr ad (fun e=>bi e.symm);have r4:=J.head ad (vk':=E) (tp':=A) (tx':=B) (tn':=((T:Nat):Int)) I;refine⟨hw.1,(aK.cell 103).trans (JI _ _ _ _ _ _ _ _ _ _ 5),(J.row.cell 4).trans rfl,J.row.frozen 4,_,rfl,(I.cell 0).trans rfl,(I.cell 4).trans rfl,(aL.cell 101).trans (JI _ _ _ _ _ _ _ _ _ _ 3),(aL.cell 102).trans (JI _ _ _ _ _ _ _ _ _ _ 4),_,C,r4,q2,RK (fun g hg => .inl hg) r2 bj,aF.then ad (fun k _ e => .inl e)⟩
 obtain⟨VK,ah⟩:∃V,V=Ii (T%2) (GO T d f):=⟨_,rfl⟩;have ax:Hid (∀W,W.cell? ⟨a,0,none⟩=some (.pointer (some ⟨b,0,none⟩))/\W.cell? ⟨a,4,none⟩=some (.int .u64 ((T:Nat):Int))/\W.cell? ⟨pb,101,none⟩=some (.int .i64 (d:Nat))/\W.cell? ⟨pb,102,none⟩=some (.int .u64 (f:Nat))->Hid (∃F C,Ho W a b E A B ((T:Nat):Int) q l F C (JD D c) (ps++c) (es++[((ps.length+c.length:Nat):Int)])/\Dm w vw F/\Dm w m C/\Fr (Ha a b l vw m) w W)->
   Cl 160 #[.agg #[.int .u64 ((T:Nat):Int),.int .i64 (d:Nat),.int .u64 (f:Nat)]] W.drew fun e X=>e = .returned VK/\(X.cell? ⟨a,0,none⟩=some (.pointer (some ⟨b,0,none⟩))/\X.cell? ⟨a,4,none⟩=some (.int .u64 ((T:Nat):Int))/\X.cell? ⟨pb,101,none⟩=some (.int .i64 (d:Nat))/\X.cell? ⟨pb,102,none⟩=some (.int .u64 (f:Nat)))/\
    Hid (Cl 159 #[.pointer (some ⟨b,0,none⟩),VK] X fun e Y=>e = .returned (.tuple #[])/\(Y.cell? ⟨a,0,none⟩=some (.pointer (some ⟨b,0,none⟩))/\Y.cell? ⟨a,4,none⟩=some (.int .u64 ((T:Nat):Int))/\Y.cell? ⟨pb,101,none⟩=some (.int .i64 (d:Nat))/\Y.cell? ⟨pb,102,none⟩=some (.int .u64 (f:Nat)))/\
     Hid (Cl 200 #[.pointer (some ⟨b,0,none⟩)] Y fun e Z=>e = .returned (.tuple #[])/\F0 Z a 179 [.pointer (some ⟨b,0,none⟩),E,.int .i64 A,.int .u64 B,.int .u64 ((T:Nat):Int)]/\Z.cell? ⟨pb,100,none⟩=some (.slice O U P)/\Z.cell? ⟨pb,101,none⟩=some (.int .i64 (d:Nat))/\Z.cell? ⟨pb,102,none⟩=some (.int .u64 (f:Nat))/\
      Hid (Vz w a b T q l vw m D ps es (.slice O U P) eP d f c (.returned (.tuple #[])) (((Z.setCell ⟨a,1,none⟩ (.slice O U P)).setCell ⟨a,2,none⟩ (.int .i64 (d:Nat))).setCell ⟨a,3,none⟩ (.int .u64 (f:Nat))))))):=fun W hc hh=>by
  obtain⟨F,C,s1,s2,s3,s4⟩:=Da hh;have bc:=NI T d f;refine(Rq W.drew T d f aS aT aU).mono ?_;rintro e X ⟨rfl,R⟩;have ae:Bw W X:=⟨R.os,R.tape,R.output,R.size,R.block⟩;have aM:F0 W pb 184 _:=n.row.fr s4 (y pb (.inl rfl));have bw:=s4.size;have bn:=ae.size;have ag:=s1.below ae;have aN:F0 X pb 184 _:=(ae.block _ aM.lt).trans aM;refine⟨by rw[ah],⟨(ag.row.cell 0).trans rfl,(ag.row.cell 4).trans rfl,(aN.cell 101).trans (JI _ _ _ _ _ _ _ _ _ _ 3),(aN.cell 102).trans (JI _ _ _ _ _ _ _ _ _ _ 4)⟩,?_⟩;rw[ah];refine(ag.write_call (by rw[Ad];omega) (T%2) (by omega) _ bc).mono ?_;intro e Y hw;obtain⟨bl,M,u2,u3⟩:=ag.write hw;have bg:∀k,k<w.heap.size->(k=b\/F2 l k\/F2 F k)->Ha a b l vw m k:=fun k r e=>by
   rcases e with e|e|e
   ·exact .inr (.inl e)
   ·exact .inr (.inr (.inl e))
   ·exact(s2 k e).elim (fun e => .inr (.inr (.inr (.inl e)))) (fun e=>by omega)
  have bd:Fr (Ha a b l vw m) w X:=s4.then (Fr.of_below (X:=fun _=>False) ae) (fun _ _ e=>e.elim);have aG:Fr (Ha a b l vw m) w Y:=bd.then u3 bg;have aO:F0 Y pb 184 _:=n.row.fr aG (y pb (.inl rfl));have bo:=u3.size;refine⟨hw.1,⟨(M.row.cell 0).trans rfl,(M.row.cell 4).trans rfl,(aO.cell 101).trans (JI _ _ _ _ _ _ _ _ _ _ 3),(aO.cell 102).trans (JI _ _ _ _ _ _ _ _ _ _ 4)⟩,?_⟩;obtain⟨av,lv,cv,rfl⟩:=Sl.shape M.sw;have aj:=Sl.len M.sw;have ak:lv=ps.length+c.length+1:=by rw[aj,Ad,Ad];rfl
  subst ak;refine(RG Y b q l C av _ cv M.disk.1 _ M.se M.nd.2.2 (by rw[Ad];simp;omega)).mono ?_;intro e Z hz;obtain⟨aY,v1,v2,v3⟩:=M.flush hz;have aH:Fr (Ha a b l vw m) w Z:=aG.then v3 (fun k r e=>by
   rcases e with e|e
   ·exact .inr (.inl e)
   ·exact(s3 k e).elim (fun e => .inr (.inr (.inr (.inr e)))) (fun e=>by omega))
  have al:F0 Z pb 184 _:=n.row.fr aH (y pb (.inl rfl));have ad:Fr (fun k=>k=a) Z (((Z.setCell ⟨a,1,none⟩ (.slice O U P)).setCell ⟨a,2,none⟩ (.int .i64 (d:Nat))).setCell ⟨a,3,none⟩ (.int .u64 (f:Nat))):=(((Fr.refl (fun k=>k=a) Z).set ⟨a,1,none⟩ (.slice O U P) rfl).set ⟨a,2,none⟩ (.int .i64 (d:Nat)) rfl).set ⟨a,3,none⟩ (.int .u64 (f:Nat)) rfl;have z:=((v1.row.set 1 (.slice O U P)).set 2 (.int .i64 (d:Nat))).set 3 (.int .u64 (f:Nat));have aI:Fr (Ha a b l vw m) w (((Z.setCell ⟨a,1,none⟩ (.slice O U P)).setCell ⟨a,2,none⟩ (.int .i64 (d:Nat))).setCell ⟨a,3,none⟩ (.int .u64 (f:Nat))):=aH.then ad (fun k _ e => .inl e);have n1:Dm w vw (.slice av (ps.length+c.length+1) cv):=RK s2 u2 (by omega);have n2:Dm w m aY:=RK s3 v2 (by omega);refine⟨hz.1,v1.row,(al.cell 100).trans (JI _ _ _ _ _ _ _ _ _ _ 2),(al.cell 101).trans (JI _ _ _ _ _ _ _ _ _ _ 3),(al.cell 102).trans (JI _ _ _ _ _ _ _ _ _ _ 4),rfl,_,aY,v1.head ad z,n1,n2,aI,n.sa.fr aI (fun k r=>y k (.inr (.inr r))),fun k r e=>?_⟩;have bs:=n.sa.lt r;refine y k (.inr (.inr r)) ?_;rcases e with e|e|e|e|e
  ·exact .inl e
  ·exact .inr (.inl e)
  ·exact .inr (.inr (.inl e))
  ·exact(n1 k e).elim (fun e => .inr (.inr (.inr (.inl e)))) (fun e=>by omega)
  ·exact(n2 k e).elim (fun e => .inr (.inr (.inr (.inr e)))) (fun e=>by omega)
 have a3:=Db hN;have bz:IntKind.u64.wrap ((L:Int)+1)=((T:Nat):Int):=by simp[IntKind.wrap,IntKind.bits,IntKind.signed];omega
 have bt:¬(t:Int)=0:=by omega
 have bu:t<=999999999:=by omega
 obtain⟨dd,aV,aQ⟩:=Ps;have aZ:=Db (PN ((T:Nat):Int) (d:Nat) (f:Nat));clear hT h n hq am aP hl bf aS aT aU y aW ah hN;go_enter Tryz.func133,Tryz.ntmps133;go_wp2
 go_loopw [11] (fun i wr=>∃k:Nat,k<=t/\i = .int .i64 k/\Hid (Il w a b E A B (L:Nat) q l vw m D ps es (c.take k) wr)) (fun i _=>t-(intOf i).toNat)
 case atStart=>exact⟨0,Aw _,rfl,by rw[Ct];exact Da a1⟩
 case round=>
  obtain⟨k,r,rfl,HI⟩:=hrel;by_cases bh:k<t
  ·obtain⟨p,s,aR,af,W,o,Q,aX,ab,bb,I,aA⟩:=Da az k bh wr (Da HI);have HR:=Db af;have HW:=Db Q;have HX:=Db aX;have a5:=Db ab;have aC:(Gi p s).length=65:=by rw[JZ,aR]
   have HL:=Db aC;have br:(k:Int)<(t:Int):=by omega
   obtain⟨VP,ai⟩:∃V,V=Ii p s:=⟨_,rfl⟩;have a4:=Db ai;have a0:=Db I;rw[<-ai]at aA;clear af Q aX ab aC ai aR I;go_upto_region 3 with(first|(refine FC rfl 207 _ rfl g (k*65) rfl (Gi p s) _ (Da HR) aV aQ (by rw[Qx,Da HL]) ?_)|(refine Ju rfl 207 rfl PG ?_;rw[show wr.alloc (.cells (Gi 0 (Di 64)).toArray 207)=W from Da HW])|(refine Bs rfl 207 _ _ rfl wr.heap.size (Gi p s).toArray rfl rfl 207 _ (Da HX) (by rw[Qx];simp[Da HL]) (by simp[Da HL,JZ,Jd]) (C6 (PC _ _)) ?_;rw[Da a5]));refine AD (S:=fun X=>X.cell? ⟨a,0,none⟩=some (.pointer (some ⟨b,0,none⟩))/\X.rangeAt wr.heap.size 0 (Gi p s)) (by kernel_rfl) ⟨bb,Da a0⟩ (fun aB=>?_);refine tk 0 ?_;try simp only[pE];refine tk 1 ?_;try simp only[pE];refine tk 2 ?_;try simp only[pE];refine tk 3 ?_;try simp only[pE];refine A6 (i:=4) (v:=VP) rfl (by kernel_rfl) (by kernel_rfl) (by kernel_rfl) (fun _ _ _ h=>h) (by rw[Da a4];exact C4 (by rfl) 207 _ rfl wr.heap.size 0 rfl (Gi p s) _ (fun X R=>R.2) aV aQ (by rw[Qx,Da HL])) (by assumption) ?_
   (try simp only[pE])
   refine rk 5 (fun K H=>?_);go_simp;go_at_call 159;refine(Da aA).mono ?_;rintro e w' ⟨rfl,c3,r3,a2⟩;go_wp2_with fail;refine H.out _ _ ⟨c3,r3⟩ (fun bm=>?_);clear H K
   (try simp only[pE])
   refine AW (by kernel_rfl) ?_ _;go_wp2
   go_roundw
   case rel=>exact⟨k+1,by omega,by go_num,a2⟩
   case measure=>simp[intOf];omega
  ·obtain rfl:k=t:=by omega
   have G:=Da HI;rw[Ah (Ej (Da a3).symm)]at G;obtain⟨bp,HF⟩:=Da ay wr G;clear G HI ay az;go_upto_region 8 with(go_at_call 200;refine(Da HF).mono ?_;rintro e w3 ⟨rfl,m1,m2,m3,W,Q,m4,m5,m6,m7,HS⟩;have HW:=Db Q;clear Q HF);rw[show w3.setCell ⟨a,4,none⟩ (.int .u64 ((T:Nat):Int))=W from Da HW];clear HW m1 m2 m3;have aq:=Da ax W ⟨m4,m5,m6,m7⟩ HS;have ar:=Db aq;clear aq ax HS;refine AD (S:=fun X=>X.cell? ⟨a,0,none⟩=some (.pointer (some ⟨b,0,none⟩))/\X.cell? ⟨a,4,none⟩=some (.int .u64 ((T:Nat):Int))/\X.cell? ⟨pb,101,none⟩=some (.int .i64 (d:Nat))/\X.cell? ⟨pb,102,none⟩=some (.int .u64 (f:Nat))) (by kernel_rfl) ⟨m4,m5,m6,m7⟩ (fun aB=>?_);refine tk 0 ?_;try simp only[pE];refine tk 1 ?_;try simp only[pE];refine tk 2 ?_;try simp only[pE];refine tk 3 ?_;try simp only[pE];refine tk 4 ?_;try simp only[pE];refine tk 5 ?_;try simp only[pE];refine tk 6 ?_;try simp only[pE];refine tk 7 ?_;try simp only[pE];refine tk 8 ?_;try simp only[pE];refine tk 9 ?_;try simp only[pE];refine tk 10 ?_;try simp only[pE];refine tk 11 ?_;try simp only[pE];refine tk 12 ?_;try simp only[pE];refine A6 (i:=13) (v := .agg #[.int .u64 ((T:Nat):Int),.int .i64 (d:Nat),.int .u64 (f:Nat)]) rfl (by kernel_rfl) (by kernel_rfl) (by kernel_rfl) (fun _ _ _ h=>h) (Or.inl ⟨by rfl,fun V _=>RE V 191 _ rfl (vs := #[(0,.int .u64 ((T:Nat):Int)),(1,.agg #[.int .i64 (d:Nat),.int .u64 (f:Nat)])]) (by simp[Act.eval]) (Da aZ)⟩) (by assumption) ?_
   (try simp only[pE])
   refine rk 14 (fun K H=>?_);go_simp;go_at_call 160;refine(Da ar).mono ?_;rintro e X ⟨rfl,aD,au⟩;go_wp2_with fail;refine H.out _ _ aD (fun a6=>?_);clear H K
   (try simp only[pE])
   refine rk 15 (fun K H=>?_);go_simp;go_at_call 159;refine(Da au).mono ?_;rintro e Y ⟨rfl,aE,aw⟩;go_wp2_with fail;refine H.out _ _ aE (fun a7=>?_);clear H K
   (try simp only[pE])
   refine AW (by kernel_rfl) ?_ _;obtain⟨y0,y1,y2,y3⟩:=aE;clear ar au a6 a7 aB aD m4 m5 m6 m7;go_wp2_with (go_at_call 200;refine(Da aw).mono ?_;rintro e Z ⟨rfl,z,z0,z1,z2,HP⟩;have b1:=z.cell 1;have b2:=z.cell 2;have b3:=z.cell 3;have g1:=z.frozen 1;have g2:=z.frozen 2;have g3:=z.frozen 3;clear z aw y0 y1 y2 y3)
   go_end0
   exact Da HP
theorem RD{P:Program}{o:Oper}{a:Act}(X:World)(b:BinOp)(t:TypeId)(x y:Operand)(ty:TypeId)(ho:o.op = .binOp b t x y ty)(u v:Value)(e:a.eval x=u)(f:a.eval y=v)(c:(eqGuard b t x y u v).run P X = .ok () X){r:Value}(d:(binOp b t u v).run P X = .ok r X):(execOp a.eval o).run P X = .ok (.value r) X:=by
 unfold execOp;simp only[ho,Cj,e,f,c,d,Ch]
 rfl
theorem ZU:Tryz.prog.eqGuardType Tryz.prog.depth 188=false:=by kernel_rfl
theorem Ua:Tryz.prog.underlying 188=some (.array 64 5):=by kernel_rfl
theorem NO(s:By):DB s = .agg (s.data.toList.map Extern.Stop.cell).toArray:=rfl
theorem ZN(w:World)(a b:By)(c:a.size=64)(d:b.size=64):(Op.equalIn 10000 188 (DB a) (DB b)).run Tryz.prog w = .ok (decide (a=b)) w:=by
 rw[NO,NO,run_equalIn_bytes w 9998 188 5 64 Ua Tryz.underlying5 (fun w=>by kernel_rfl) a.data.toList b.data.toList (by rw[AG];exact c) (by rw[AG];exact d)]
 congr 1
 rw[EK,Fc,AJ];exact⟨fun h=>A7 h,fun h=>by rw[h]⟩
theorem Me(w:World)(a b:By)(c:a.size=64)(d:b.size=64):(binOp .neq 188 (DB a) (DB b)).run Tryz.prog w = .ok (.bool (!decide (a=b))) w:=by
 have:=run_neq_struct (P:=Tryz.prog) w 188 (Dc a).toArray (Dc b).toArray;have e:=ZN w a b c d;unfold DB at e ⊢;rw[this,e];rfl
theorem Gz.same{es:LI}(h:Gz es){k a b:Int}(f:(k,a)∈es)(g:(k,b)∈es):a=b:=by
 obtain⟨i,d⟩:=Cd.1 f;obtain⟨j,c⟩:=Cd.1 g;rcases Cz i j with e|rfl|e
 ·have:=h i j _ _ e d c;simp[GU]at this
 ·rw[d]at c;cases c;rfl
 ·have:=h j i _ _ e c d;simp[GU]at this
def P4(w:World)(pb db sb so:Nat)(nd:Nat->Int)(cl:Bool)(hd:Nat)(va:Value)(es:LI)(tp tx:Int)(vp:Value)(ps:LB)(r:Nat)(s:By)(q:Nat)(e:Ending)(w':World):Prop:=
 e = .returned (.agg #[.int .i64 (q:Nat),.int .u64 (Dl s:Nat)])/\∃va' es',Gb w' pb db sb so nd cl hd va' es' tp tx vp ps/\Gz es'/\es'.length=es.length+1/\(∀x,x∈es'↔x=((r:Int),(q:Int))\/x∈es)/\Fr (fun k=>k=pb\/F2 va k) w w'/\Dm w va va'
theorem Yk(w:World)(pb z t so:Nat)(o:Nat->Int)(cl:Bool)(hd:Nat)(E:Value)(es:LI)(tp tx:Int)(vp:Value)(ps:LB)(h:Gb w pb z t so o cl hd E es tp tx vp ps)
  (vb:Value) (eb:LI) (aN:w.cell? ⟨t,so,none⟩=some vb) (aY:Sl w 350 2 vb eb.length (Ds eb)) (a8:eb.length<=10000) (aU:Gz eb) (r:Nat) (vf:Value) (an:OA) (ln cn:Nat) (vw ve:Value) (D:LY) (hD:DV w z vf (.slice an ln cn) vw ve D) (s:By) (W:s.size=64)
  (bt:Nat) (a5:bt<1536) (a4:w.cell? ⟨t,so+1,none⟩=some (.int .i64 (bt:Nat))) (hh:hd<=1536) (hz:∃k,k<96/\o ((hd/16+k)%96)<=0) (hl:ps.length<=1000000) (aT:Gz es) (aO:es.length<=10000) (aS:∀x∈es,x.1≠r) (Q:Ending->World->Prop)
  (bz:((∀x∈eb,x.1≠r)/\∀e w',Ug w pb z t so o cl E es tp tx vp ps r s (DH o 96 hd%1536) e w'->Q e w')\/∃(q:Nat) (s0:By),((r:Int),(q:Int))∈eb/\q<1536/\D[q]?=some s0/\
   ((s0≠s/\∀e w',Ug w pb z t so o cl E es tp tx vp ps r s (DH o 96 hd%1536) e w'->Q e w')\/s0=s/\(cl=true->(q/16≠bt/16/\o (q/16)<=8)->∀e w',Ug w pb z t so o cl E es tp tx vp ps r s (DH o 96 hd%1536) e w'->Q e w')/\((cl=true->¬(q/16≠bt/16/\o (q/16)<=8))->∀e w',P4 w pb z t so o cl hd E es tp tx vp ps r s q e w'->Q e w'))):
  Cl 272 #[.pointer (some ⟨pb,0,none⟩),.int .u64 r,DB s] w Q:=by
 obtain⟨a,aZ,bd,bq,bb,a1⟩:=De w (Dc s) 188;obtain⟨f,a0,aH,a7,bc,a2⟩:=De a [.int .i64 0,.int .u64 0] 175;have J:Bw w f:=a1.trans (a2.mono (by omega));have bT:=h.row.lt;have aV:t<w.heap.size:=Aj _ _ aN;obtain⟨p,hp⟩:=ex (DH o 96 hd%1536);rw[<-hp]at bz;have bS:p<1536:=by omega
 have ak:F0 f w.heap.size 188 (Dc s):=a7 _ _ _ bd;obtain⟨R,aa,T,rfl⟩:=Sl.shape h.sp;have aP:=OL f t so vb eb r ((J.cell (p:=⟨t,so,none⟩) aV).trans aN) (aY.kept (fun k m _=>J.block k m)) a8 aU;have HN:Hid (∀X,Bw w X->F0 X w.heap.size 188 (Dc s)->F0 X a.heap.size 175 [.int .i64 0,.int .u64 0]->Cl 302 #[.pointer (some ⟨pb,0,none⟩)] X fun e Y=>e = .returned (.int .i64 p)/\Y.rangeAt w.heap.size 0 (Dc s)/\Y.cell? ⟨pb,103,none⟩=some (.slice R aa T)/\Hid (Gb Y pb z t so o cl (p+1) E es tp tx (.slice R aa T) ps/\Fr (fun k=>k=pb) w Y/\F0 Y w.heap.size 188 (Dc s)/\F0 Y a.heap.size 175 [.int .i64 0,.int .u64 0])):=fun X d q1 q2=>by
  have U:=h.below d;obtain⟨c0,c1,c2,c3,c4,c5,c6⟩:=U.cells;refine(ZlG X pb _ U.row o hd hh c2 c4 (U.row.frozen 99) hz).mono ?_;rintro e Y ⟨p',bH,r0,rfl,r1,r2,r3⟩;have e':p'=p:=by rw[bH,hp]
  subst e';have q3:F0 Y w.heap.size 188 (Dc s):=q1.fr r2 (by omega);have bn:=U.next p' r0 r2;refine⟨rfl,fun j v A=>by rw[q3.cell,Av];exact A,bn.cells.2.2.2.2.2.2,bn,(Fr.of_below d).then r2 (fun _ _ h=>h),q3,q2.fr r2 (by omega)⟩
 have HA:Hid (∀Y,Hid (Gb Y pb z t so o cl (p+1) E es tp tx (.slice R aa T) ps/\Fr (fun k=>k=pb) w Y/\F0 Y w.heap.size 188 (Dc s)/\F0 Y a.heap.size 175 [.int .i64 0,.int .u64 0])->∃Z,Y.drew.alloc (.cells (Gi p s).toArray 207)=Z/\Z.rangeAt w.heap.size 0 (Dc s)/\Z.cell? ⟨pb,103,none⟩=some (.slice R aa T)/\∃H L I u,(Builtin.append_ #[182,182] 182 #[.slice R aa T,.slice (some ⟨Y.heap.size,0,none⟩) 1 1]).run Tryz.prog Z = .ok (.slice H L I) u/\u.rangeAt w.heap.size 0 (Dc s)/\u.cell? ⟨pb,103,none⟩=some (.slice R aa T)/\u.frozen? ⟨pb,103,none⟩=false/\(u.setCell ⟨pb,103,none⟩ (.slice H L I)).rangeAt w.heap.size 0 (Dc s)/\
   Hid (Cl 243 #[.pointer (some ⟨pb,100,none⟩),.int .u64 r,.int .i64 p] (u.setCell ⟨pb,103,none⟩ (.slice H L I)) fun e n=>e = .returned (.tuple #[])/\F0 n w.heap.size 188 (Dc s)/\F0 n a.heap.size 175 [.int .i64 0,.int .u64 0]/\Hid (∀w7,Fr (fun k=>k=a.heap.size) n w7->Ug w pb z t so o cl E es tp tx (.slice R aa T) ps r s p (.returned (.agg #[.int .i64 (p:Nat),.int .u64 (Dl s:Nat)])) w7))):=fun Y hY=>by
  obtain⟨U,hF,q1,q2⟩:=Da hY;obtain⟨Z,hZ,bM,bR,bU,bG⟩:=De Y.drew (Gi p s) 207;have aF:Bw Y Z:=((Al Y.heap.size Y).drew).trans bG;have aD:=U.below aF;have bQ:=hF.size;have z1:F0 Z w.heap.size 188 (Dc s):=(aF.block _ q1.lt).trans q1;have z2:F0 Z a.heap.size 175 [.int .i64 0,.int .u64 0]:=(aF.block _ q2.lt).trans q2;obtain⟨v',u,r1,H,L,I,rfl,r2,r3,r4⟩:=OS Z _ ps aD.sp Y.heap.size p s W bM hl;have a9:∀k,F2 (.slice R aa T) k->k<w.heap.size:=fun k m=>Sl.lt h.sp m
  have y1:F0 u w.heap.size 188 (Dc s):=z1.fr r3 (fun e=>by have:=a9 _ e;omega);have y2:F0 u a.heap.size 175 [.int .i64 0,.int .u64 0]:=z2.fr r3 (fun e=>by have:=a9 _ e;omega);have y3:F0 u pb 184 _:=aD.row.fr r3 aD.op;have ab:=aD.piece r2 r3 r4;have aQ:w.heap.size≠pb:=by omega
  have aR:a.heap.size≠pb:=by omega
  have bV:Z.heap.size<=u.heap.size:=r3.size;have x1:F0 (u.setCell ⟨pb,103,none⟩ (.slice H L I)) w.heap.size 188 (Dc s):=(AB _ _ _ _ aQ).trans y1;have x2:F0 (u.setCell ⟨pb,103,none⟩ (.slice H L I)) a.heap.size 175 [.int .i64 0,.int .u64 0]:=(AB _ _ _ _ aR).trans y2;refine⟨Z,hZ,fun j v A=>by rw[z1.cell,Av];exact A,aD.cells.2.2.2.2.2.2,H,L,I,u,r1,fun j v A=>by rw[y1.cell,Av];exact A,(y3.cell 103).trans (JI _ _ _ _ _ _ _ _ _ _ 5),y3.frozen 103,fun j v A=>by rw[x1.cell,Av];exact A,?_⟩;have bW:(u.setCell ⟨pb,103,none⟩ (.slice H L I)).heap.size=u.heap.size:=by simp[World.setCell]
  have ai:Fr (fun k=>k=pb\/F2 E k\/F2 (.slice R aa T) k) w (u.setCell ⟨pb,103,none⟩ (.slice H L I)):=by
   refine Fr.set ?_ ⟨pb,103,none⟩ _ (.inl rfl);refine Fr.then (Fr.then (w1:=Y) ⟨hF.os,hF.tape,hF.output,hF.size,fun k m d=>hF.block k m (fun e=>d (.inl e))⟩ (Fr.of_below aF (X:=fun _=>False)) (fun _ _ h=>h.elim)) r3 (fun k _ e => .inr (.inr e))
  refine(PD _ pb 100 E es r p ab.cells.2.2.2.2.2.1 (ab.row.frozen 100) ab.oa ab.sa aO aT aS).mono ?_;rintro e n ⟨rfl,aI,aB,m1,m2,m3,m4,m5,m6,G⟩;have al:∀k,F2 E k->k<w.heap.size:=fun k m=>h.sa.lt m
  have am:∀k,k≠pb->¬F2 E k->k<(u.setCell ⟨pb,103,none⟩ (.slice H L I)).heap.size->n.heap[k]?=(u.setCell ⟨pb,103,none⟩ (.slice H L I)).heap[k]? := fun k h1 h2 h3=>G.block k h3 h1 h2
  refine⟨rfl,(am _ aQ (fun e=>by have:=al _ e;omega) x1.lt).trans x1,(am _ aR (fun e=>by have:=al _ e;omega) x2.lt).trans x2,fun w7 h7=>?_⟩;have O:=ab.put m2 m6 G;have aX:Gb w7 pb z t so o cl (p+1) aI aB tp tx (.slice H L I) (ps++[(p,s)]):=by
   have bK:=G.size;have br:∀v,(∀g,F2 v g->g≠a.heap.size)->∀g,F2 v g->¬(fun k=>k=a.heap.size) g:=fun v A g F=>A g F
   refine⟨O.row.fr h7 (show ¬pb=a.heap.size by omega),O.sa.fr h7 (br _ (fun g F e=>?_)),Sl.fr O.sp h7 (br _ (fun g F e=>?_)),O.oa,O.op,O.ap⟩
   ·rcases m6 g F with h8|h8
    ·have:=al g h8;omega
    ·have:=x2.lt;omega
   ·rcases r4 g F with h8|h8
    ·have:=a9 g h8;omega
    ·have:=z2.lt;omega
  refine⟨rfl,aI,aB,.slice H L I,aX,m3,m4,m5,?_,fun g F=>(m6 g F).imp id (fun h8=>by have:=ai.size;omega),fun g F=>(r4 g F).imp id (fun h8=>by have:=aF.size;omega)⟩;refine Fr.then (w1:=n) ⟨G.os.trans ai.os,G.tape.trans ai.tape,G.output.trans ai.output,Ag ai.size G.size,fun k m d=>?_⟩ h7 (fun k m e=>by omega);have aE:k≠pb/\¬F2 E k:=⟨fun e=>d (.inl e),fun e=>d (.inr (.inl e))⟩;rw[am k aE.1 aE.2 (Be m ai.size)];exact ai.block k m d
 have a3:(Dc s).length=64:=by rw[Dh,W]
 have be:=Db a3;have bA:=Db (PO p s W);have ar:=Db aH;have ap:=Db ak;have ao:=Db J;have bP:f.cell? ⟨pb,1,none⟩=some (.pointer (some ⟨t,so,none⟩)):=(h.below J).cells.2.1;have bj:=Db aZ;have bk:=Db a0;have bN:=Db (show a.heap.size=w.heap.size+1 from bb);have bO:=Db (show f.heap.size=a.heap.size+1 from bc);rcases bz with⟨bs,af⟩|⟨q,s0,hq,bJ,ba,bx⟩
 have HG:Hid (Cl 300 #[.pointer (some ⟨t,so,none⟩),.int .u64 r] f fun e X=>e = .returned (.tuple #[.int .i64 0,.bool false])/\Bw f X):=aP.mono fun e X ⟨v,b,he,hF,N⟩=>by
  rcases hF with⟨_,hm⟩|⟨rfl,rfl,_⟩
  ·exact absurd rfl (bs _ hm)
  ·exact⟨he,N⟩
 have HQ:=Db af;clear h aN aY a8 aU aT aO aS hh hz bd bq bb a1 aH a7 bc a2 J ak a3 aZ a0 hp aV hD aP a4 a5 bs af;go_enter Tryz.func272,Tryz.ntmps272;go_upto_region 0 with fail;refine A1 ?_;refine RN rfl 188 _ rfl (Dc s) rfl ?_;rw[show w.alloc (.cells (Dc s).toArray 188)=a from Da bj]
 (try simp only[pE])
 go_upto_region 1 with fail;rw[show a.alloc (.cells #[Value.int .i64 0,.int .u64 0] 175)=f from Da bk];go_upto_region 2 with(go_at_call 300;refine(Da HG).mono ?_;rintro e X ⟨rfl,aC⟩;have ax:=Db aC;clear aC)
 go_quiet (fail)
 have ag:Bw w (X.drewN nq):=by
  have h1:=(Da ao).trans ((Da ax).mono (Da ao).size);exact⟨h1.os,h1.tape,h1.output,h1.size,h1.block⟩
 have aW:=Db (Da HN _ ag (((Da ax).block _ (Da ap).lt).trans (Da ap)) (((Da ax).block _ (Da ar).lt).trans (Da ar)));clear ag HN HG
 rotate_left
 have HG:Hid (Cl 300 #[.pointer (some ⟨t,so,none⟩),.int .u64 r] f fun e X=>e = .returned (.tuple #[.int .i64 (q:Nat),.bool true])/\Bw f X):=aP.mono fun e X ⟨v,b,he,hF,N⟩=>by
  rcases hF with⟨rfl,hm⟩|⟨_,_,hm⟩
  ·rw[aU.same hm hq]at he;exact⟨he,N⟩
  ·exact absurd rfl (hm _ hq)
 obtain⟨V0,aL⟩:∃V,V=DB s0:=⟨_,rfl⟩;obtain⟨VB,aM⟩:∃V,V=DB s:=⟨_,rfl⟩;have bv:s0.size=64:=hD.2.1.2 s0 (An ba);have aq:Hid (∀V x y,(eqGuard .neq 188 x y V0 VB).run Tryz.prog V = .ok () V):=fun V x y=>by
  subst aL aM;exact run_eqGuard_agg (P:=Tryz.prog) V .neq 188 x y _ _ ZU
 have ad:Hid (∀V,(binOp .neq 188 V0 VB).run Tryz.prog V = .ok (.bool (!decide (s0=s))) V):=fun V=>by
  subst aL aM;exact Me V s0 s bv W
 have ay:Hid (∀X,Bw f X->(X.cell? ⟨pb,0,none⟩=some (.pointer (some ⟨z,0,none⟩))/\X.rangeAt w.heap.size 0 (Dc s)/\X.cell? ⟨pb,98,none⟩=some (.bool cl))/\Hid (Cl 239 #[.pointer (some ⟨z,0,none⟩),.int .i64 q] X.drew fun e X2=>e = .returned V0/\(X2.cell? ⟨pb,0,none⟩=some (.pointer (some ⟨z,0,none⟩))/\X2.rangeAt w.heap.size 0 (Dc s)/\X2.cell? ⟨pb,98,none⟩=some (.bool cl))/\Hid (Bw f X2))):=fun X d=>by
  have hS:∀X,Bw f X->(X.cell? ⟨pb,0,none⟩=some (.pointer (some ⟨z,0,none⟩))/\X.rangeAt w.heap.size 0 (Dc s)/\X.cell? ⟨pb,98,none⟩=some (.bool cl)):=fun X d=>by
   have l:Bw w X:=J.trans (d.mono J.size);have U:=h.below l;have hr:F0 X w.heap.size 188 (Dc s):=(d.block _ ak.lt).trans ak;exact⟨U.cells.1,fun j v A=>by rw[hr.cell,Av];exact A,U.cells.2.2.2.1⟩
  refine⟨hS X d,?_⟩;have l:Bw w X:=J.trans (d.mono J.size);have bC:DV X.drew z vf (.slice an ln cn) vw ve D:=⟨(l.block _ hD.1.lt).trans hD.1,⟨hD.2.1.1.kept (fun k m _=>l.block k m),hD.2.1.2⟩,hD.2.2⟩;refine(Pu X.drew z vf vw ve an ln cn D bC q s0 ba).mono ?_;rintro e X2 ⟨rfl,N⟩;have bp:Bw f X2:=d.trans ⟨N.os,N.tape,N.output,N.size,fun k m=>N.block k (by have:=d.size;show k<X.heap.size;omega)⟩;exact⟨by rw[aL],hS X2 bp,bp⟩
 obtain⟨B,N⟩:=ex (decide (q/16≠bt/16/\o (q/16)<=8));have aJ:=Db N;have az:Hid (∀X,Bw f X->Cl 301 #[.pointer (some ⟨pb,0,none⟩),.int .i64 q] X fun e w'=>e = .returned (.bool B)/\w'=X):=fun X d=>by
  rw[N];have l:Bw w X:=J.trans (d.mono J.size);have U:=h.below l;exact Zhh X pb t so o bt q bJ a5 U.cells.2.2.1 U.cells.2.1 ((l.cell (p:=⟨t,so+1,none⟩) aV).trans a4)
 have ac:Hid (∀X,Bw f X->Cl 243 #[.pointer (some ⟨pb,100,none⟩),.int .u64 r,.int .i64 q] X fun e n=>e = .returned (.tuple #[])/\F0 n w.heap.size 188 (Dc s)/\F0 n a.heap.size 175 [.int .i64 0,.int .u64 0]/\Hid (∀w7,Fr (fun k=>k=a.heap.size) n w7->P4 w pb z t so o cl hd E es tp tx (.slice R aa T) ps r s q (.returned (.agg #[.int .i64 (q:Nat),.int .u64 (Dl s:Nat)])) w7)):=fun X d=>by
  have l:Bw w X:=J.trans (d.mono J.size);have ab:=h.below l;have x1:F0 X w.heap.size 188 (Dc s):=(d.block _ ak.lt).trans ak;have x2:F0 X a.heap.size 175 [.int .i64 0,.int .u64 0]:=(d.block _ aH.lt).trans aH;have al:∀k,F2 E k->k<w.heap.size:=fun k m=>h.sa.lt m
  have bI:∀k,F2 (.slice R aa T) k->k<w.heap.size:=fun k m=>Sl.lt h.sp m
  have aQ:w.heap.size≠pb:=by omega
  have aR:a.heap.size≠pb:=by omega
  refine(PD X pb 100 E es r q ab.cells.2.2.2.2.2.1 (ab.row.frozen 100) ab.oa ab.sa aO aT aS).mono ?_;rintro e n ⟨rfl,aI,aB,m1,m2,m3,m4,m5,m6,G⟩;have am:∀k,k≠pb->¬F2 E k->k<X.heap.size->n.heap[k]?=X.heap[k]? := fun k h1 h2 h3=>G.block k h3 h1 h2
  refine⟨rfl,(am _ aQ (fun e=>by have:=al _ e;omega) x1.lt).trans x1,(am _ aR (fun e=>by have:=al _ e;omega) x2.lt).trans x2,fun w7 h7=>?_⟩;have O:=ab.put m2 m6 G;have aX:Gb w7 pb z t so o cl hd aI aB tp tx (.slice R aa T) ps:=by
   have bK:=G.size;refine⟨O.row.fr h7 (show ¬pb=a.heap.size by omega),O.sa.fr h7 (fun g F e=>?_),Sl.fr O.sp h7 (fun g F e=>?_),O.oa,O.op,O.ap⟩
   ·rcases m6 g F with h8|h8
    ·have:=al g h8;omega
    ·have:=x2.lt;omega
   ·have:=bI g F;omega
  refine⟨rfl,aI,aB,aX,m3,m4,m5,?_,fun g F=>(m6 g F).imp id (fun h8=>by have:=l.size;omega)⟩;refine Fr.then (w1:=n) ⟨G.os.trans l.os,G.tape.trans l.tape,G.output.trans l.output,Ag l.size G.size,fun k m aE=>?_⟩ h7 (fun k m e=>by omega);rw[am k (fun e=>aE (.inl e)) (fun e=>aE (.inr e)) (Be m l.size)];exact l.block k m
 have bB:=Db aM;have bl:=Db bx;clear h aN aY a8 aU aT aO aS hh hz bd bq bb a1 aH a7 bc a2 J ak a3 aZ a0 hp aV hD aP a4 a5 hq ba aL aM bv bx N;go_enter Tryz.func272,Tryz.ntmps272;go_upto_region 0 with fail;refine A1 ?_;refine RN rfl 188 _ rfl (Dc s) rfl ?_;rw[show w.alloc (.cells (Dc s).toArray 188)=a from Da bj]
 (try simp only[pE])
 go_upto_region 1 with fail;rw[show a.alloc (.cells #[Value.int .i64 0,.int .u64 0] 175)=f from Da bk];go_upto_region 2 with(go_at_call 300;refine(Da HG).mono ?_;rintro e X ⟨rfl,aC⟩;have ax:=Db aC;clear aC);obtain⟨aG,aw⟩:=Da ay X (Da ax);refine AD (S:=fun X=>(X.cell? ⟨pb,0,none⟩=some (.pointer (some ⟨z,0,none⟩))/\X.rangeAt w.heap.size 0 (Dc s)/\X.cell? ⟨pb,98,none⟩=some (.bool cl))) (by kernel_rfl) aG (fun au=>?_);refine tk 0 ?_;try simp only[pE];refine tk 1 ?_;try simp only[pE];refine tk 2 ?_;try simp only[pE];refine tk 3 ?_;try simp only[pE];refine tk 4 ?_;try simp only[pE];refine tk 5 ?_;try simp only[pE];refine tk 6 ?_;try simp only[pE];refine tk 7 ?_;try simp only[pE];refine A6 (i:=9) (v:=VB) rfl (by kernel_rfl) (by kernel_rfl) (by kernel_rfl) (fun _ _ _ h=>h) (by rw[Da bB];exact C4 (by rfl) 188 _ rfl w.heap.size 0 rfl (Dc s) _ (fun X d=>d.2.1) Kg rfl (by rw[D7,Da be])) (by assumption) ?_
 (try simp only[pE])
 refine rk 8 (fun K c=>?_);go_simp;go_at_call 239;refine(Da aw).mono ?_;rintro e X2 ⟨rfl,av,M⟩;go_wp2_with fail;refine c.out _ _ av (fun aj=>?_);clear c K
 (try simp only[pE])
 have bL:=Da bl;clear bl;rcases bL with⟨a6,af⟩|⟨a6,af,bo⟩
 simp only[a6,decide_false,Bool.not_false]at ad;have HQ:=Db af;refine A6 (i:=10) (v := .bool true) rfl (by kernel_rfl) (by kernel_rfl) (by kernel_rfl) (fun _ _ _ h=>h) (Or.inl ⟨by rfl,fun V _=>RD V .neq 188 _ _ _ rfl V0 VB rfl rfl (Da aq V _ _) (Da ad V)⟩) (by assumption) ?_
 (try simp only[pE])
 refine tk 11 ?_;try simp only[pE];refine tk 12 ?_;try simp only[pE];refine tu 13 ?_
 (try simp only[pE])
 refine tu 14 ?_
 (try simp only[pE])
 refine tu 15 ?_
 (try simp only[pE])
 refine tu 16 ?_
 (try simp only[pE])
 refine tu 17 ?_
 (try simp only[pE])
 refine tu 18 ?_
 (try simp only[pE])
 refine tu 19 ?_
 (try simp only[pE])
 refine tu 20 ?_
 (try simp only[pE])
 refine tu 21 ?_
 (try simp only[pE])
 refine tk 22 ?_;try simp only[pE];refine AW (by kernel_rfl) ?_ _;have ag:Bw w X2:=(Da ao).trans ((Da M).mono (Da ao).size);have aW:=Db (Da HN _ ag (((Da M).block _ (Da ap).lt).trans (Da ap)) (((Da M).block _ (Da ar).lt).trans (Da ar)));clear ag HN HG aw ay ad aq aG av au aj M az ac af
 rotate_left
 simp only[a6,decide_true,Bool.not_true]at ad;have aK:=Db af;have aA:=Db bo;clear af bo;refine A6 (i:=10) (v := .bool false) rfl (by kernel_rfl) (by kernel_rfl) (by kernel_rfl) (fun _ _ _ h=>h) (Or.inl ⟨by rfl,fun V _=>RD V .neq 188 _ _ _ rfl V0 VB rfl rfl (Da aq V _ _) (Da ad V)⟩) (by assumption) ?_
 (try simp only[pE])
 refine tk 11 ?_;try simp only[pE];refine tk 12 ?_;try simp only[pE];refine tk 13 ?_;try simp only[pE];refine tk 14 ?_;try simp only[pE]
 cases cl
 refine tk 15 ?_;try simp only[pE];refine tk 16 ?_;try simp only[pE];refine tk 17 ?_;try simp only[pE];refine tu 18 ?_
 (try simp only[pE])
 refine tu 19 ?_
 (try simp only[pE])
 refine tu 20 ?_
 (try simp only[pE])
 refine tk 21 ?_;try simp only[pE];refine tk 22 ?_;try simp only[pE];refine AW (by kernel_rfl) ?_ _;have bf:=Db (Da ac _ (Da M));have HQ:=Db (Da aA (fun e=>by cases e));clear ac HG aw ay ad aq aG av au aj M az HN HA aK aA
 rotate_left
 refine tk 15 ?_;try simp only[pE];refine tk 16 ?_;try simp only[pE];refine tk 17 ?_;try simp only[pE];refine tk 18 ?_;try simp only[pE];refine tk 19 ?_;try simp only[pE];refine rk 20 (fun K c=>?_);go_simp;go_at_call 301;refine(Da az X2 (Da M)).mono ?_;rintro e w' ⟨rfl,bw⟩;rw[bw];clear bw;go_wp2_with fail;refine c.out _ _ av (fun bm=>?_);clear c K
 (try simp only[pE])
 refine tk 21 ?_;try simp only[pE];refine tk 22 ?_;try simp only[pE];refine AW (by kernel_rfl) ?_ _
 cases B
 have bf:=Db (Da ac _ (Da M));have HQ:=Db (Da aA (fun _=>of_decide_eq_false (Da aJ).symm));clear ac HG aw ay ad aq aG av au aj M az HN HA bm aK aA aJ
 rotate_left
 have ag:Bw w X2:=(Da ao).trans ((Da M).mono (Da ao).size);have aW:=Db (Da HN _ ag (((Da M).block _ (Da ap).lt).trans (Da ap)) (((Da M).block _ (Da ar).lt).trans (Da ar)));have HQ:=Db (Da aK (by first|rfl|trivial) (Cg (Da aJ).symm));clear ag HN HG aw ay ad aq aG av au aj M az ac bm aK aA aJ
 rotate_left
 all_goals try
  go_wp2_with (first|(go_at_call 243;refine(Da bf).mono ?_;rintro e n ⟨rfl,ah,C,HF⟩;have ae:=Db (NQ n (some ⟨w.heap.size,0,none⟩) 64 64 s ⟨W.symm,fun e=>(by cases e),fun j v A=>⟨_,rfl,by rw[AL,Av,ah.cell];exact A⟩⟩ (by rw[W];decide));rw[QB]at ae;have n0:=C.cell 0;have n1:=C.cell 1;have g0:=C.frozen 0;have g1:=C.frozen 1;clear ah C)|(go_at_call 215;refine(Da ae).mono ?_;rintro e w' ⟨rfl,l⟩;rw[l];clear l));exact Ax (v := .agg #[.int .i64 (q:Nat),.int .u64 (Dl s:Nat)]) (by simp[results,Tryz.results272,go_sem,n0,n1]) rfl (Da HQ _ _ (Da HF _ (((Fr.refl (fun k=>k=a.heap.size) n).set ⟨a.heap.size,0,none⟩ _ rfl).set ⟨a.heap.size,1,none⟩ _ rfl)))
 all_goals
  go_upto_region 4 with(go_at_call 302;refine(Da aW).mono ?_;rintro e Y ⟨rfl,e2,m3,HY⟩);obtain⟨Z,hZ,sZ,mZ,H,L,I,u,bu,s5,m5,f5,s6,ac⟩:=Da HA Y HY;have HZ:=Db hZ;have bi:=Db sZ;have bg:=Db s5;have bh:=Db s6;clear hZ sZ s5 s6 HA HY;refine AD (S:=fun X=>X.rangeAt w.heap.size 0 (Dc s)) (by kernel_rfl) e2 (fun au=>?_);refine tk 0 ?_;try simp only[pE];refine tk 1 ?_;try simp only[pE];refine tk 2 ?_;try simp only[pE];refine tk 3 ?_;try simp only[pE];refine tk 5 ?_;try simp only[pE];refine A6 (i:=6) (v:=DB s) rfl (by kernel_rfl) (by kernel_rfl) (by kernel_rfl) (fun _ _ _ h=>h) (C4 (by rfl) 188 _ rfl w.heap.size 0 rfl (Dc s) _ (fun X d=>d) Kg rfl (by rw[D7,Da be])) (by assumption) ?_
  (try simp only[pE])
  refine A6 (i:=7) (v:=Ii p s) rfl (by kernel_rfl) (by kernel_rfl) (by kernel_rfl) (fun _ _ _ h=>h) (Or.inl ⟨by rfl,fun X _=>?_⟩) (by assumption) ?_
  ·exact WL X 207 0 1 _ _ rfl (.int .i64 (p:Nat)) (DB s) rfl rfl (Da bA)
  (try simp only[pE])
  refine Bh (rs:=[4,8]) (by kernel_rfl) (by simp) ?_;refine AN (i:=4) rfl ?_ (AN (i:=8) rfl ?_ A8)
  ·intro K c;go_simp;refine c.out _ _ au (fun bE=>?_);clear c K
   (try simp only[pE])
   refine rk 8 (fun K c=>?_);refine Ou rfl _ rfl p s W rfl ?_;rw[show Y.drew.alloc (.cells (Gi p s).toArray 207)=Z from Da HZ];refine c.out _ _ (Da bi) (fun aj=>?_);clear c K
   (try simp only[pE])
   refine rk 9 (fun K c=>?_);refine JO rfl _ _ 182 182 rfl _ _ rfl rfl bu ?_;refine c.out _ _ (Da bg) (fun bF=>?_);clear c K
   (try simp only[pE])
   refine tk 10 ?_;try simp only[pE];refine tk 11 ?_;try simp only[pE];refine rk 12 (fun K c=>?_);go_simp;refine c.out _ _ (Da bh) (fun bD=>?_);clear c K
   (try simp only[pE])
   refine AW (by kernel_rfl) ?_ _;go_wp2_with (first|(go_at_call 243;refine(Da ac).mono ?_;rintro e n ⟨rfl,ah,C,HF⟩;have ae:=Db (NQ n (some ⟨w.heap.size,0,none⟩) 64 64 s ⟨W.symm,fun e=>(by cases e),fun j v A=>⟨_,rfl,by rw[AL,Av,ah.cell];exact A⟩⟩ (by rw[W];decide));rw[QB]at ae;have n0:=C.cell 0;have n1:=C.cell 1;have g0:=C.frozen 0;have g1:=C.frozen 1;clear ah C)|(go_at_call 215;refine(Da ae).mono ?_;rintro e w' ⟨rfl,l⟩;rw[l];clear l));exact Ax (v := .agg #[.int .i64 (p:Nat),.int .u64 (Dl s:Nat)]) (by simp[results,Tryz.results272,go_sem,n0,n1]) rfl (Da HQ _ _ (Da HF _ (((Fr.refl (fun k=>k=a.heap.size) n).set ⟨a.heap.size,0,none⟩ _ rfl).set ⟨a.heap.size,1,none⟩ _ rfl)))
  ·intro K c;refine Ou rfl _ rfl p s W rfl ?_;rw[show Y.drew.alloc (.cells (Gi p s).toArray 207)=Z from Da HZ];refine c.out _ _ (Da bi) (fun aj=>?_);clear c K
   (try simp only[pE])
   refine rk 4 (fun K c=>?_);go_simp;refine c.out _ _ aj (fun bE=>?_);clear c K
   (try simp only[pE])
   refine rk 9 (fun K c=>?_);refine JO rfl _ _ 182 182 rfl _ _ rfl rfl bu ?_;refine c.out _ _ (Da bg) (fun bF=>?_);clear c K
   (try simp only[pE])
   refine tk 10 ?_;try simp only[pE];refine tk 11 ?_;try simp only[pE];refine rk 12 (fun K c=>?_);go_simp;refine c.out _ _ (Da bh) (fun bD=>?_);clear c K
   (try simp only[pE])
   refine AW (by kernel_rfl) ?_ _;go_wp2_with (first|(go_at_call 243;refine(Da ac).mono ?_;rintro e n ⟨rfl,ah,C,HF⟩;have ae:=Db (NQ n (some ⟨w.heap.size,0,none⟩) 64 64 s ⟨W.symm,fun e=>(by cases e),fun j v A=>⟨_,rfl,by rw[AL,Av,ah.cell];exact A⟩⟩ (by rw[W];decide));rw[QB]at ae;have n0:=C.cell 0;have n1:=C.cell 1;have g0:=C.frozen 0;have g1:=C.frozen 1;clear ah C)|(go_at_call 215;refine(Da ae).mono ?_;rintro e w' ⟨rfl,l⟩;rw[l];clear l));exact Ax (v := .agg #[.int .i64 (p:Nat),.int .u64 (Dl s:Nat)]) (by simp[results,Tryz.results272,go_sem,n0,n1]) rfl (Da HQ _ _ (Da HF _ (((Fr.refl (fun k=>k=a.heap.size) n).set ⟨a.heap.size,0,none⟩ _ rfl).set ⟨a.heap.size,1,none⟩ _ rfl)))
structure F3 where
 nd:Nat->Int
 cl:Bool
 eb:LI
 bt:Nat
 D:LY
structure Pl where
 hd:Nat
 puts:List (Nat×Nat)
 ps:LB
def F3.at(E:F3)(r:Nat):Option Nat:=(E.eb.find? (fun x=>x.1==(r:Int))).map (fun x=>x.2.toNat)
def F3.stay(E:F3)(r:Nat)(s:By):Option Nat:=
 match E.at r with
 | some q=>if E.D[q]?=some s/\¬(E.cl=true/\q/16≠E.bt/16/\E.nd (q/16)<=8) then some q else none
 | none=>none
def F3.put(E:F3)(st:Pl)(r:Nat)(s:By):Nat×Pl:=
 match E.stay r s with
 | some q=>(q,⟨st.hd,st.puts++[(r,q)],st.ps⟩)
 | none=>(DH E.nd 96 st.hd%1536,⟨DH E.nd 96 st.hd%1536+1,st.puts++[(r,DH E.nd 96 st.hd%1536)],st.ps++[(DH E.nd 96 st.hd%1536,s)]⟩)
structure Gv(E:F3):Prop where
 srt:Gz E.eb
 len:E.eb.length<=10000
 bt:E.bt<1536
 dl:E.D.length=1536
 pl:∀x∈E.eb,∃q:Nat,x.2=(q:Int)/\q<1536
theorem Gv.at_some{E:F3}(h:Gv E){r q:Nat}(e:E.at r=some q):((r:Int),(q:Int))∈E.eb/\q<1536:=by
 unfold F3.at at e;obtain⟨x,g,rfl⟩:=Option.map_eq_some_iff.1 e;have c:=FJ g;have d:=Er g;obtain⟨q,f,i⟩:=h.pl x d;obtain⟨a,b⟩:=x;simp only[Fc]at c;simp only at f;subst c f;exact⟨by simpa using d,by simpa using i⟩
theorem F3.at_none{E:F3}{r:Nat}(e:E.at r=none):∀x∈E.eb,x.1≠r:=fun x a h=>by
 unfold F3.at at e;rw[Ef,CR]at e;exact e x a (by simp[h])
structure Iz(w:World)(n0 db sb so:Nat)(E:F3):Prop where
 cb:∃vb,w.cell? ⟨sb,so,none⟩=some vb/\Sl w 350 2 vb E.eb.length (Ds E.eb)/\∀k,F2 vb k->k<n0
 ct:w.cell? ⟨sb,so+1,none⟩=some (.int .i64 (E.bt:Nat))
 dk:∃vf an ln cn vw ve,DV w db vf (.slice an ln cn) vw ve E.D/\∀k,F2 (.slice an ln cn) k->k<n0
 sbl:sb<n0
 dbl:db<n0
theorem Iz.kept{w w':World}{b g d so:Nat}{E:F3}(h:Iz w b g d so E)(j:∀k f t z,k<b->w.heap[k]?=some (.cells f t z)->w'.heap[k]?=some (.cells f t z)):Iz w' b g d so E:=by
 have s:∀(a:Addr) v,a.block<b->w.cell? a=some v->w'.cell? a=some v:=fun a v l e=>by
  obtain⟨f,t,z,r⟩:=Wp e;exact(AC ((j _ _ _ _ l r).trans r.symm)).trans e
 have q:∀(e:TypeId) (m:Nat) (v:Value) (n:Nat) (xs:F6),Sl w e m v n xs->(∀k,F2 v k->k<b)->Sl w' e m v n xs:=fun e m v n xs x l=>x.kept (fun k _ u=>by
  obtain⟨R,i⟩:=x.type u;unfold F0 at i;rw[i];exact j k _ _ _ (l k u) i)
 obtain⟨F,A,B,o⟩:=h.cb;obtain⟨H,y,D,C,vw,G,c,p⟩:=h.dk;refine⟨⟨F,s ⟨d,so,none⟩ _ h.sbl A,q _ _ _ _ _ B o,o⟩,s ⟨d,so+1,none⟩ _ h.sbl h.ct,⟨H,y,D,C,vw,G,⟨j g _ _ _ h.dbl c.1,⟨q _ _ _ _ _ c.2.1.1 p,c.2.1.2⟩,c.2.2⟩,p⟩,h.sbl,h.dbl⟩
def Qq(w:World)(pb db sb so:Nat)(E:F3)(st:Pl)(tp tx:Int)(O:Nat->Prop):Prop:=
 ∃va es vp,Gb w pb db sb so E.nd E.cl st.hd va es tp tx vp st.ps/\Gz es/\es.length=st.puts.length/\(∀x,x∈es↔∃y∈st.puts,x=((y.1:Int),(y.2:Int)))/\∀k,O k↔(k=pb\/F2 va k\/F2 vp k)
def Lh(w:World)(pb db sb so:Nat)(E:F3)(st:Pl)(tp tx:Int)(O:Nat->Prop)(r:Nat)(s:By)(e:Ending)(w':World):Prop:=
 e = .returned (.agg #[.int .i64 ((E.put st r s).1:Nat),.int .u64 (Dl s:Nat)])/\∃O',Qq w' pb db sb so E (E.put st r s).2 tp tx O'/\Fr O w w'/\∀k,O' k->O k\/w.heap.size<=k
theorem Zs(w:World)(n0 pb b d so:Nat)(E:F3)(i:Gv E)(st:Pl)(f g:Int)(O:Nat->Prop)(h:Qq w pb b d so E st f g O)(z:Iz w n0 b d so E)(r:Nat)(s:By)(hs:s.size=64)(aa:∀y∈st.puts,y.1≠r)(ad:st.puts.length<=10000)(ab:st.ps.length<=1000000)(X:st.hd<=1536)(hz:∃k,k<96/\E.nd ((st.hd/16+k)%96)<=0):
  Cl 272 #[.pointer (some ⟨pb,0,none⟩),.int .u64 r,DB s] w (Lh w pb b d so E st f g O r s):=by
 obtain⟨I,es,m,V,U,J,K,c⟩:=h;obtain⟨vb,Q,R,c3⟩:=z.cb;obtain⟨vf,P,ln,S,vw,ve,T,d2⟩:=z.dk;have hn:∀x∈es,x.1≠r:=fun x hx e=>by
  obtain⟨y,j,rfl⟩:=(K x).1 hx;exact aa y j (by have e':(y.1:Int)=(r:Int):=e;omega)
 have L:∀(a:LI) (q:Nat),(∀x,x∈a↔x=((r:Int),(q:Int))\/x∈es)->∀x,x∈a↔∃y∈st.puts++[(r,q)],x=((y.1:Int),(y.2:Int)):=fun a q Y x=>by
  rw[Y x,K x];simp only[Ap,Ab];constructor
  ·rintro(rfl|⟨y,j,rfl⟩)
   ·exact⟨_,.inr rfl,rfl⟩
   ·exact⟨y,.inl j,rfl⟩
  ·rintro⟨y,j|rfl,rfl⟩
   ·exact .inr ⟨y,j,rfl⟩
   ·exact .inl rfl
 have ac:∀q,E.stay r s=some q->∀e w',P4 w pb b d so E.nd E.cl st.hd I es f g m st.ps r s q e w'->Lh w pb b d so E st f g O r s e w':=fun q t e w' ⟨p,l,a,B,C,D,F,G,H⟩=>by
  unfold Lh F3.put;rw[t];refine⟨p,fun k=>k=pb\/F2 l k\/F2 m k,⟨l,a,m,B,C,by rw[D,J,Ad];rfl,L a q F,fun k=>Iff.rfl⟩,G.mono (fun k _ e=>(c k).2 (by rcases e with e|e;exact .inl e;exact .inr (.inl e))),fun k e=>?_⟩;rcases e with e|e|e
  ·exact .inl ((c k).2 (.inl e))
  ·exact(H k e).imp (fun e=>(c k).2 (.inr (.inl e))) id
  ·exact .inl ((c k).2 (.inr (.inr e)))
 have A:E.stay r s=none->∀e w',Ug w pb b d so E.nd E.cl I es f g m st.ps r s (DH E.nd 96 st.hd%1536) e w'->Lh w pb b d so E st f g O r s e w':=fun t e w' ⟨p,l,a,N,B,C,D,F,G,H,p7⟩=>by
  unfold Lh F3.put;rw[t];refine⟨p,fun k=>k=pb\/F2 l k\/F2 N k,⟨l,a,N,B,C,by rw[D,J,Ad];rfl,L a _ F,fun k=>Iff.rfl⟩,G.mono (fun k _ e=>(c k).2 e),fun k e=>?_⟩;rcases e with e|e|e
  ·exact .inl ((c k).2 (.inl e))
  ·exact(H k e).imp (fun e=>(c k).2 (.inr (.inl e))) id
  ·exact(p7 k e).imp (fun e=>(c k).2 (.inr (.inr e))) id
 refine Yk w pb b d so E.nd E.cl st.hd I es f g m st.ps V vb E.eb Q R i.len i.srt r vf P ln S vw ve E.D T s hs E.bt i.bt z.ct X hz ab U (by omega) hn _ ?_
 cases ha:E.at r with
 | none=>exact .inl ⟨F3.at_none ha,A (by unfold F3.stay;rw[ha])⟩
 | some q=>
  obtain⟨Z,M⟩:=i.at_some ha;obtain⟨o,u⟩:∃o,E.D[q]?=some o:=⟨_,Ac (by rw[i.dl];exact M)⟩;refine .inr ⟨q,o,Z,M,u,?_⟩;by_cases n:o=s
  ·refine .inr ⟨n,fun W v=>A (by unfold F3.stay;rw[ha];simp[W,v]),fun v=>ac q (by unfold F3.stay;rw[ha];simp only[u,n,true_and];rw[if_pos (fun e=>v e.1 e.2)])⟩
  ·exact .inl ⟨n,A (by unfold F3.stay;rw[ha];simp[u,n])⟩
end Go.Proofs.YtaieidcohdhgpaaGreatDoor
