/- Dumps. -/
import Derived.Test.YtaieidcohdhgpaaGreatDoorZAP
import Derived.Stop.BytesEq
namespace Go.Proofs.YtaieidcohdhgpaaGreatDoor
set_option maxHeartbeats 40000000
set_option maxRecDepth 100000
open Go.RowKit
theorem Sl.len{w:World}{e:TypeId}{b:Nat}{a:OA}{l c n:Nat}{xs:LV}(h:Sl w e b (.slice a l c) n xs):l=n:=by
 rcases h.2 with⟨e,rfl⟩|⟨g,aa,L,e,_⟩
 ·simp only[BI]at e;exact e.2.1
 ·simp only[BI]at e;exact e.2.1
theorem Tr:∀{ps:LB},(∀x∈ps,x.2.size=64)->∀(i j:Nat) (x:Nat×By),ps[i]?=some x->j<65->(Qd ps)[i*65+j]?=(FW x.1 x.2)[j]?
 | [],_,i,j,s,hi,_=>by simp at hi
 | x::D,h,0,j,s,hi,hj=>by
  simp at hi;subst hi;have a:=h x Bp;unfold Qd;rw[AW,Nat.zero_mul,Au,AU (by rw[J7];omega)]
 | x::D,h,i+1,j,s,hi,hj=>by
  have a:=h x Bp;have:=Tr (ps:=D) (fun y b=>h y (AA _ b)) i j s (by simpa using hi) hj;unfold Qd at this ⊢;rw[AW,AD (by rw[J7];omega),J7,<-this]
  congr 1;omega
theorem Hb.range{w:World}{a:OA}{l c:Nat}{ps:LB}(h:Hb w (.slice a l c) ps)(d:∀x∈ps,x.2.size=64)(i:Nat)(x:Nat×By)(b:ps[i]?=some x):∃g,a=some ⟨g,0,none⟩/\l=ps.length/\w.rangeAt g (i*65) (FW x.1 x.2):=by
 have ab:=(Ad.1 b).1;rcases h.2 with⟨e,h0⟩|⟨g,aa,L,e,m,h1,h2,h3,k⟩
 ·omega
 ·simp only[BI]at e;obtain⟨rfl,rfl,rfl⟩:=e;refine⟨g,rfl,rfl,fun j v f=>?_⟩;have ac:=d x (An b);have n:j<65:=by have:=(Ad.1 f).1;rw[J7]at this;omega
  have:=Tr d i j x b n;rw[f,<-k,Ap]at this
  split at this
  ·rw[m.cell];exact this
  ·cases this
def KP(D:LY)(qs:LB):LY:=qs.foldl (fun D x=>D.set x.1 x.2) D
theorem Zka(D:LY)(a:LB)(p:Nat)(s:By):KP D (a++[(p,s)])=(KP D a).set p s:=by simp[KP]
theorem GN.head{w w':World}{c d:Nat}{q:Value}{o p n:Int}{j l vw i:Value}{D:LY}{ps:LB}{f:List Int}(h:GN w c d q o p n j l vw i D ps f)(b:Fr (fun k=>k=c) w w'){vk':Value}{tp' tx' tn':Int}(m:FH w' c 179 [.pointer (some ⟨d,0,none⟩),vk',.int .i64 tp',.int .u64 tx',.int .u64 tn']):GN w' c d vk' tp' tx' tn' j l vw i D ps f:=
 ⟨m,⟨h.disk.1.fr b (fun e=>h.ne e.symm),⟨h.disk.2.1.1.fr b (fun g a e=>h.ns.1 (by rw[<-e];exact a)),h.disk.2.1.2⟩,h.disk.2.2⟩,Sl.fr h.sw b (fun g a e=>h.ns.2.1 (by rw[<-e];exact a)),h.se.fr b (fun g a e=>h.ns.2.2 (by rw[<-e];exact a)),h.ne,h.ns,h.nd,h.d1,h.d2,h.d3⟩
def Hg(w:World)(stb db:Nat)(vk:Value)(tp tx tn:Int)(vf vn vw ve:Value)(D:LY)(ps:LB)(es:List Int)(qs:LB)(wr:World):Prop:=
 ∃vw',GN wr stb db vk tp tx tn vf vn vw' ve (KP D qs) (ps++qs) es/\Dh w vw vw'/\Fr (fun k=>k=db\/Own vn k\/Own vw k) w wr
theorem Hg.start{w:World}{c a:Nat}{k:Value}{e f d:Int}{j l vw i:Value}{D:LY}{ps:LB}{b:List Int}(h:GN w c a k e f d j l vw i D ps b):Hg w c a k e f d j l vw i D ps b [] w:=
 ⟨vw,by rw[AZ];exact h,fun g m => .inl m,Fr.refl _ _⟩
theorem GN.write_call{w:World}{j a:Nat}{n:Value}{l m k:Int}{c d vw b:Value}{D:LY}{ps:LB}{e:List Int}(h:GN w j a n l m k c d vw b D ps e)(f:ps.length<=1000000000)(p:Nat)(g:p<1536)(s:By)(i:s.size=64):Cl 159 #[.pointer (some ⟨a,0,none⟩),H0 p s] w (Nh w a c d vw b D ps p s):=
 Ze7 w a c d vw b D ps h.disk h.sw h.nd.1 h.nd.2.1 h.d1 f p g s i
theorem Hg.step{w wr X:World}{q b:Nat}{y:Value}{t u r:Int}{x f vw v:Value}{D:LY}{ps:LB}{j:List Int}{i:LB}(h:Hg w q b y t u r x f vw v D ps j i wr)(d:Bw wr X)(hl:ps.length+i.length<=1000000000)(p:Nat)(C:p<1536)(s:By)(E:s.size=64):
  Cl 159 #[.pointer (some ⟨b,0,none⟩),H0 p s] X fun e w'=>e = .returned (.tuple #[])/\Hg w q b y t u r x f vw v D ps j (i++[(p,s)]) w'/\∀k,wr.heap.size<=k->k<X.heap.size->w'.heap[k]?=X.heap[k]? := by
 obtain⟨H,c,l,m⟩:=h;have B:∀k,k=b\/Own f k\/Own H k->k<wr.heap.size:=fun k a=>by
  rcases a with rfl|a|a
  ·exact c.disk.1.lt
  ·exact c.disk.2.1.1.lt a
  ·exact Sl.lt c.sw a
 refine((c.below d).write_call (by rw[Ab];omega) p C s E).mono ?_;intro e w' n;obtain⟨I,F,G,o⟩:=(c.below d).write n;refine⟨n.1,⟨I,by rw[Zka,<-AC];exact F,fun g z=>?_,?_⟩,fun k a A=>o.block k A (fun e=>by have:=B k e;omega)⟩
 ·rcases G g z with e|e
  ·exact l g e
  ·exact .inr (by have:=m.size;have:=d.size;omega)
 ·refine(m.then (Fr.of_below (X:=fun k=>k=b\/Own f k\/Own vw k) d) (fun _ _ e=>e)).then o (fun k a e=>?_);rcases e with e|e|e
  ·exact .inl e
  ·exact .inr (.inl e)
  ·exact(l k e).elim (fun e => .inr (.inr e)) (fun e=>by omega)
def GY(stb db:Nat)(vn vw ve:Value)(k:Nat):Prop:=k=stb\/k=db\/Own vn k\/Own vw k\/Own ve k
def Tg(w:World)(stb db T:Nat)(vf vn vw ve:Value)(D:LY)(ps:LB)(es:List Int)(va:Value)(eP:LI)(tp tx:Nat)(qs:LB)(e:Ending)(w':World):Prop:=
 e = .returned (.tuple #[])/\∃vw' ve',GN w' stb db va (tp:Nat) (tx:Nat) ((T:Nat):Int) vf vn vw' ve' ((KP D qs).set (T%2) (GQ T tp tx)) (ps++qs++[(T%2,GQ T tp tx)]) (es++[((ps.length+qs.length:Nat):Int)]++[((ps.length+qs.length+1:Nat):Int)])/\Dh w vw vw'/\Dh w ve ve'/\Fr (GY stb db vn vw ve) w w'/\Sl w' 350 2 va eP.length (Dq eP)/\∀k,Own va k->¬GY stb db vn vw' ve' k
theorem PJ{w w1:World}{v a b:Value}(c:Dh w v a)(d:Dh w1 a b)(h:w.heap.size<=w1.heap.size):Dh w v b:=fun g f=>(d g f).elim (c g) (fun e => .inr (Ae h e))
theorem SN(t p x:Int):Tryz.prog.built 191 [(0,.int .u64 t),(1,.agg #[.int .i64 p,.int .u64 x])]=some #[.int .u64 t,.int .i64 p,.int .u64 x]:=by kernel_rfl
theorem ZkP(w:World)(a b pb:Nat)(F:Value)(B C:Int)(M:Nat)(r l vw m:Value)(D:LY)(ps:LB)(q:List Int)(h:GN w a b F B C (M:Nat) r l vw m D ps q)
  (d1 sb so:Nat) (nd:Nat->Int) (cl:Bool) (hd:Nat) (va:Value) (eP:LI) (d f:Nat) (vp:Value) (c:LB) (n:FO w pb d1 sb so nd cl hd va eP (d:Nat) (f:Nat) vp c)
  (hq:∀x∈c,x.1<1536/\x.2.size=64) (aP:0<c.length) (hl:ps.length+c.length<=999999999) (bg:q.length<=999999998) (T:Nat) (hT:M+1=T) (aS:T<18446744073709551616) (aT:d<65536) (aU:f<18446744073709551616)
  (z:∀k,k=pb\/Own vp k\/Own va k->¬GY a b l vw m k):
  Cl 133 #[.pointer (some ⟨a,0,none⟩),.pointer (some ⟨pb,0,none⟩)] w (Tg w a b T r l vw m D ps q va eP d f c):=by
 obtain⟨N,hN⟩:=ex c.length;have am:∀x∈c,x.2.size=64:=fun x hx=>(hq x hx).2
 obtain⟨ap,u,cp,rfl⟩:=Sl.shape n.sp;obtain⟨P,la,Q,rfl⟩:=n.sa.shape;obtain⟨x0,aW⟩:∃x,c[0]?=some x:=⟨_,Ac aP⟩;obtain⟨g,rfl,aJ,-⟩:=Hb.range n.sp am 0 x0 aW;rw[<-hN]at aJ;subst aJ;have br:=n.cells.2.2.2.2.2.2;have bw:=n.row.lt;have bz:=h.row.lt;have bj:¬a=pb:=fun e=>z pb (.inl rfl) (.inl e.symm)
 have a1:=Db (Hg.start h);have az:Hid (∀k,k<u->∀wr,Hg w a b F B C (M:Nat) r l vw m D ps q (c.take k) wr->∃p s,s.size=64/\wr.rangeAt g (k*65) (FW p s)/\∃W o,wr.alloc (.cells (FW 0 (Du 64)).toArray 207)=W/\FH W wr.heap.size 207 (FW 0 (Du 64))/\W.setRow wr.heap.size (FW p s).toArray=o/\o.cell? ⟨a,0,none⟩=some (.pointer (some ⟨b,0,none⟩))/\o.rangeAt wr.heap.size 0 (FW p s)/\Hid (Cl 159 #[.pointer (some ⟨b,0,none⟩),H0 p s] o.drew fun e w'=>e = .returned (.tuple #[])/\w'.cell? ⟨a,0,none⟩=some (.pointer (some ⟨b,0,none⟩))/\w'.rangeAt wr.heap.size 0 (FW p s)/\Hid (Hg w a b F B C (M:Nat) r l vw m D ps q (c.take (k+1)) w'))):=fun k t wr H=>by
  obtain⟨⟨p,s⟩,hx⟩:∃x,c[k]?=some x:=⟨_,Ac (by omega)⟩;have ao:=hq _ (An hx);have a8:=H;obtain⟨G,y,q2,q3⟩:=a8;have a9:Hb wr (.slice (some ⟨g,0,none⟩) u cp) c:=Sl.fr n.sp q3 (fun k t e=>z k (.inr (.inl t)) (by rcases e with e|e|e;exact .inr (.inl e);exact .inr (.inr (.inl e));exact .inr (.inr (.inr (.inl e)))));obtain⟨g',bf,-,af⟩:=Hb.range a9 am k _ hx
  cases bf
  obtain⟨W,R,xW,kW,sW,bW⟩:=De wr (FW 0 (Du 64)) 207;obtain⟨o,ab⟩:∃X,W.setRow wr.heap.size (FW p s).toArray=X:=⟨_,rfl⟩;have an:FH o wr.heap.size 207 (FW p s):=by rw[<-ab];exact Cu W _ _ _ 207 _ xW
  have ac:Bw wr o:=by rw[<-ab];exact bW.trans ⟨rfl,rfl,rfl,by simp,fun j hj=>BZ W _ j _ (by omega)⟩
  have bb:Bw wr o.drew:=⟨ac.os,ac.tape,ac.output,ac.size,ac.block⟩;have J:FH o a 179 _:=(ac.block _ y.row.lt).trans y.row;refine⟨p,s,ao.2,af,W,o,R,xW,ab,(J.cell 0).trans rfl,fun j v hv=>by rw[an.cell,Au];exact hv,?_⟩;refine(H.step bb (by rw[Ar];omega) p ao.1 s ao.2).mono ?_;rintro e w' ⟨rfl,L,r2⟩;have bl:FH w' wr.heap.size 207 (FW p s):=(r2 _ (Aa _) an.lt).trans an;have e1:c.take (k+1)=c.take k++[(p,s)]:=by rw[Bg,hx];rfl
  rw[<-e1]at L;obtain⟨bm,t1,-⟩:=id L;exact⟨rfl,(t1.row.cell 0).trans rfl,fun j v hv=>by rw[bl.cell,Au];exact hv,L⟩
 have ay:Hid (∀wr,Hg w a b F B C (M:Nat) r l vw m D ps q c wr->wr.cell? ⟨a,0,none⟩=some (.pointer (some ⟨b,0,none⟩))/\Hid (Cl 200 #[.pointer (some ⟨b,0,none⟩)] wr fun e w'=>e = .returned (.tuple #[])/\w'.cell? ⟨pb,103,none⟩=some (.slice (some ⟨g,0,none⟩) u cp)/\w'.cell? ⟨a,4,none⟩=some (.int .u64 (M:Nat))/\w'.frozen? ⟨a,4,none⟩=false/\∃W,w'.setCell ⟨a,4,none⟩ (.int .u64 ((T:Nat):Int))=W/\
   W.cell? ⟨a,0,none⟩=some (.pointer (some ⟨b,0,none⟩))/\W.cell? ⟨a,4,none⟩=some (.int .u64 ((T:Nat):Int))/\W.cell? ⟨pb,101,none⟩=some (.int .i64 (d:Nat))/\W.cell? ⟨pb,102,none⟩=some (.int .u64 (f:Nat))/\
   Hid (∃G E,GN W a b F B C ((T:Nat):Int) r l G E (KP D c) (ps++c) (q++[((ps.length+c.length:Nat):Int)])/\Dh w vw G/\Dh w m E/\Fr (GY a b l vw m) w W))):=fun wr H=>by
  obtain⟨G,y,q2,q3⟩:=H;obtain⟨av,lv,cv,rfl⟩:=Sl.shape y.sw;have aj:=Sl.len y.sw;refine⟨(y.row.cell 0).trans rfl,?_⟩;refine(Pw wr b r l m av lv cv y.disk.1 q y.se y.nd.2.2 (by omega)).mono ?_;intro e w' hw;obtain⟨E,L,r2,r3⟩:=y.flush hw;have ak:lv=ps.length+c.length:=by rw[aj,Ab]
  subst ak;have bk:=q3.size;have aF:Fr (GY a b l vw m) w w':=(q3.mono (Y:=GY a b l vw m) (fun k _ e=>by rcases e with e|e|e;exact .inr (.inl e);exact .inr (.inr (.inl e));exact .inr (.inr (.inr (.inl e))))).then r3 (fun k _ e=>by rcases e with e|e;exact .inr (.inl e);exact .inr (.inr (.inr (.inr e))));have aK:FH w' pb 184 _:=n.row.fr aF (z pb (.inl rfl));have J:=L.row.set 4 (.int .u64 ((T:Nat):Int));have ad:Fr (fun k=>k=a) w' (w'.setCell ⟨a,4,none⟩ (.int .u64 ((T:Nat):Int))):=(Fr.refl _ _).set _ _ rfl;have aL:FH (w'.setCell ⟨a,4,none⟩ (.int .u64 ((T:Nat):Int))) pb 184 _:=aK.fr ad (fun e=>bj e.symm);have r4:=L.head ad (vk':=F) (tp':=B) (tx':=C) (tn':=((T:Nat):Int)) J;refine⟨hw.1,(aK.cell 103).trans (JL _ _ _ _ _ _ _ _ _ _ 5),(L.row.cell 4).trans rfl,L.row.frozen 4,_,rfl,(J.cell 0).trans rfl,(J.cell 4).trans rfl,(aL.cell 101).trans (JL _ _ _ _ _ _ _ _ _ _ 3),(aL.cell 102).trans (JL _ _ _ _ _ _ _ _ _ _ 4),_,E,r4,q2,PJ (fun g hg => .inl hg) r2 bk,aF.then ad (fun k _ e => .inl e)⟩
 obtain⟨VK,ah⟩:∃V,V=H0 (T%2) (GQ T d f):=⟨_,rfl⟩;have ax:Hid (∀W,W.cell? ⟨a,0,none⟩=some (.pointer (some ⟨b,0,none⟩))/\W.cell? ⟨a,4,none⟩=some (.int .u64 ((T:Nat):Int))/\W.cell? ⟨pb,101,none⟩=some (.int .i64 (d:Nat))/\W.cell? ⟨pb,102,none⟩=some (.int .u64 (f:Nat))->Hid (∃G E,GN W a b F B C ((T:Nat):Int) r l G E (KP D c) (ps++c) (q++[((ps.length+c.length:Nat):Int)])/\Dh w vw G/\Dh w m E/\Fr (GY a b l vw m) w W)->
   Cl 160 #[.agg #[.int .u64 ((T:Nat):Int),.int .i64 (d:Nat),.int .u64 (f:Nat)]] W.drew fun e X=>e = .returned VK/\(X.cell? ⟨a,0,none⟩=some (.pointer (some ⟨b,0,none⟩))/\X.cell? ⟨a,4,none⟩=some (.int .u64 ((T:Nat):Int))/\X.cell? ⟨pb,101,none⟩=some (.int .i64 (d:Nat))/\X.cell? ⟨pb,102,none⟩=some (.int .u64 (f:Nat)))/\
    Hid (Cl 159 #[.pointer (some ⟨b,0,none⟩),VK] X fun e Y=>e = .returned (.tuple #[])/\(Y.cell? ⟨a,0,none⟩=some (.pointer (some ⟨b,0,none⟩))/\Y.cell? ⟨a,4,none⟩=some (.int .u64 ((T:Nat):Int))/\Y.cell? ⟨pb,101,none⟩=some (.int .i64 (d:Nat))/\Y.cell? ⟨pb,102,none⟩=some (.int .u64 (f:Nat)))/\
     Hid (Cl 200 #[.pointer (some ⟨b,0,none⟩)] Y fun e Z=>e = .returned (.tuple #[])/\FH Z a 179 [.pointer (some ⟨b,0,none⟩),F,.int .i64 B,.int .u64 C,.int .u64 ((T:Nat):Int)]/\Z.cell? ⟨pb,100,none⟩=some (.slice P la Q)/\Z.cell? ⟨pb,101,none⟩=some (.int .i64 (d:Nat))/\Z.cell? ⟨pb,102,none⟩=some (.int .u64 (f:Nat))/\
      Hid (Tg w a b T r l vw m D ps q (.slice P la Q) eP d f c (.returned (.tuple #[])) (((Z.setCell ⟨a,1,none⟩ (.slice P la Q)).setCell ⟨a,2,none⟩ (.int .i64 (d:Nat))).setCell ⟨a,3,none⟩ (.int .u64 (f:Nat))))))):=fun W hc hh=>by
  obtain⟨G,E,s1,s2,s3,s4⟩:=Da hh;have bd:=OX T d f;refine(VO W.drew T d f aS aT aU).mono ?_;rintro e X ⟨rfl,U⟩;have ae:Bw W X:=⟨U.os,U.tape,U.output,U.size,U.block⟩;have aM:FH W pb 184 _:=n.row.fr s4 (z pb (.inl rfl));have bx:=s4.size;have bo:=ae.size;have ag:=s1.below ae;have aN:FH X pb 184 _:=(ae.block _ aM.lt).trans aM;refine⟨by rw[ah],⟨(ag.row.cell 0).trans rfl,(ag.row.cell 4).trans rfl,(aN.cell 101).trans (JL _ _ _ _ _ _ _ _ _ _ 3),(aN.cell 102).trans (JL _ _ _ _ _ _ _ _ _ _ 4)⟩,?_⟩;rw[ah];refine(ag.write_call (by rw[Ab];omega) (T%2) (by omega) _ bd).mono ?_;intro e Y hw;obtain⟨bm,O,u2,u3⟩:=ag.write hw;have bh:∀k,k<w.heap.size->(k=b\/Own l k\/Own G k)->GY a b l vw m k:=fun k t e=>by
   rcases e with e|e|e
   ·exact .inr (.inl e)
   ·exact .inr (.inr (.inl e))
   ·exact(s2 k e).elim (fun e => .inr (.inr (.inr (.inl e)))) (fun e=>by omega)
  have be:Fr (GY a b l vw m) w X:=s4.then (Fr.of_below (X:=fun _=>False) ae) (fun _ _ e=>e.elim);have aG:Fr (GY a b l vw m) w Y:=be.then u3 bh;have aO:FH Y pb 184 _:=n.row.fr aG (z pb (.inl rfl));have bp:=u3.size;refine⟨hw.1,⟨(O.row.cell 0).trans rfl,(O.row.cell 4).trans rfl,(aO.cell 101).trans (JL _ _ _ _ _ _ _ _ _ _ 3),(aO.cell 102).trans (JL _ _ _ _ _ _ _ _ _ _ 4)⟩,?_⟩;obtain⟨av,lv,cv,rfl⟩:=Sl.shape O.sw;have aj:=Sl.len O.sw;have ak:lv=ps.length+c.length+1:=by rw[aj,Ab,Ab];rfl
  subst ak;refine(Pw Y b r l E av _ cv O.disk.1 _ O.se O.nd.2.2 (by rw[Ab];simp;omega)).mono ?_;intro e Z hz;obtain⟨aY,v1,v2,v3⟩:=O.flush hz;have aH:Fr (GY a b l vw m) w Z:=aG.then v3 (fun k t e=>by
   rcases e with e|e
   ·exact .inr (.inl e)
   ·exact(s3 k e).elim (fun e => .inr (.inr (.inr (.inr e)))) (fun e=>by omega))
  have al:FH Z pb 184 _:=n.row.fr aH (z pb (.inl rfl));have ad:Fr (fun k=>k=a) Z (((Z.setCell ⟨a,1,none⟩ (.slice P la Q)).setCell ⟨a,2,none⟩ (.int .i64 (d:Nat))).setCell ⟨a,3,none⟩ (.int .u64 (f:Nat))):=(((Fr.refl (fun k=>k=a) Z).set ⟨a,1,none⟩ (.slice P la Q) rfl).set ⟨a,2,none⟩ (.int .i64 (d:Nat)) rfl).set ⟨a,3,none⟩ (.int .u64 (f:Nat)) rfl;have A:=((v1.row.set 1 (.slice P la Q)).set 2 (.int .i64 (d:Nat))).set 3 (.int .u64 (f:Nat));have aI:Fr (GY a b l vw m) w (((Z.setCell ⟨a,1,none⟩ (.slice P la Q)).setCell ⟨a,2,none⟩ (.int .i64 (d:Nat))).setCell ⟨a,3,none⟩ (.int .u64 (f:Nat))):=aH.then ad (fun k _ e => .inl e);have n1:Dh w vw (.slice av (ps.length+c.length+1) cv):=PJ s2 u2 (by omega);have n2:Dh w m aY:=PJ s3 v2 (by omega);refine⟨hz.1,v1.row,(al.cell 100).trans (JL _ _ _ _ _ _ _ _ _ _ 2),(al.cell 101).trans (JL _ _ _ _ _ _ _ _ _ _ 3),(al.cell 102).trans (JL _ _ _ _ _ _ _ _ _ _ 4),rfl,_,aY,v1.head ad A,n1,n2,aI,n.sa.fr aI (fun k t=>z k (.inr (.inr t))),fun k t e=>?_⟩;have bt:=n.sa.lt t;refine z k (.inr (.inr t)) ?_;rcases e with e|e|e|e|e
  ·exact .inl e
  ·exact .inr (.inl e)
  ·exact .inr (.inr (.inl e))
  ·exact(n1 k e).elim (fun e => .inr (.inr (.inr (.inl e)))) (fun e=>by omega)
  ·exact(n2 k e).elim (fun e => .inr (.inr (.inr (.inr e)))) (fun e=>by omega)
 have a3:=Db hN;have bA:IntKind.u64.wrap ((M:Int)+1)=((T:Nat):Int):=by simp[IntKind.wrap,IntKind.bits,IntKind.signed];omega
 have bu:¬(u:Int)=0:=by omega
 have bv:u<=999999999:=by omega
 obtain⟨dd,aV,aQ⟩:=Oq;have aZ:=Db (SN ((T:Nat):Int) (d:Nat) (f:Nat));clear hT h n hq am aP hl bg aS aT aU z aW ah hN;go_enter Tryz.func133,Tryz.ntmps133;go_wp2
 go_loopw [11] (fun i wr=>∃k:Nat,k<=u/\i = .int .i64 k/\Hid (Hg w a b F B C (M:Nat) r l vw m D ps q (c.take k) wr)) (fun i _=>u-(intOf i).toNat)
 case atStart=>exact⟨0,Aw _,rfl,by rw[Co];exact Da a1⟩
 case round=>
  obtain⟨k,t,rfl,HI⟩:=hrel;by_cases bi:k<u
  ·obtain⟨p,s,aR,af,W,o,R,aX,ab,bc,J,aA⟩:=Da az k bi wr (Da HI);have HR:=Db af;have HW:=Db R;have HX:=Db aX;have a5:=Db ab;have aC:(FW p s).length=65:=by rw[J7,aR]
   have HL:=Db aC;have bs:(k:Int)<(u:Int):=by omega
   obtain⟨VP,ai⟩:∃V,V=H0 p s:=⟨_,rfl⟩;have a4:=Db ai;have a0:=Db J;rw[<-ai]at aA;clear af R aX ab aC ai aR J;go_upto_region 3 with(first|(refine wpList_load_mid rfl 207 _ rfl g (k*65) rfl (FW p s) _ (Da HR) aV aQ (by rw[QM,Da HL]) ?_)|(refine KE rfl 207 rfl Oz ?_;rw[show wr.alloc (.cells (FW 0 (Du 64)).toArray 207)=W from Da HW])|(refine CH rfl 207 _ _ rfl wr.heap.size (FW p s).toArray rfl rfl 207 _ (Da HX) (by rw[QM];simp[Da HL]) (by simp[Da HL,J7,Kr]) (Ef (ON _ _)) ?_;rw[Da a5]));refine AN (S:=fun X=>X.cell? ⟨a,0,none⟩=some (.pointer (some ⟨b,0,none⟩))/\X.rangeAt wr.heap.size 0 (FW p s)) (by kernel_rfl) ⟨bc,Da a0⟩ (fun aB=>?_);refine tk 0 ?_;try simp only[pE];refine tk 1 ?_;try simp only[pE];refine tk 2 ?_;try simp only[pE];refine tk 3 ?_;try simp only[pE];refine Bc (i:=4) (v:=VP) rfl (by kernel_rfl) (by kernel_rfl) (by kernel_rfl) (fun _ _ _ h=>h) (by rw[Da a4];exact Ea (by rfl) 207 _ rfl wr.heap.size 0 rfl (FW p s) _ (fun X U=>U.2) aV aQ (by rw[QM,Da HL])) (by assumption) ?_
   (try simp only[pE])
   refine rk 5 (fun K I=>?_);go_simp;go_at_call 159;refine(Da aA).mono ?_;rintro e w' ⟨rfl,c3,r3,a2⟩;go_wp2_with fail;refine I.out _ _ ⟨c3,r3⟩ (fun bn=>?_);clear I K
   (try simp only[pE])
   refine AS (by kernel_rfl) ?_ _;go_wp2
   go_roundw
   case rel=>exact⟨k+1,by omega,by go_num,a2⟩
   case measure=>simp[intOf];omega
  ·obtain rfl:k=u:=by omega
   have H:=Da HI;rw[AI (Fd (Da a3).symm)]at H;obtain⟨bq,HF⟩:=Da ay wr H;clear H HI ay az;go_upto_region 8 with(go_at_call 200;refine(Da HF).mono ?_;rintro e w3 ⟨rfl,m1,m2,m3,W,R,m4,m5,m6,m7,HS⟩;have HW:=Db R;clear R HF);rw[show w3.setCell ⟨a,4,none⟩ (.int .u64 ((T:Nat):Int))=W from Da HW];clear HW m1 m2 m3;have aq:=Da ax W ⟨m4,m5,m6,m7⟩ HS;have ar:=Db aq;clear aq ax HS;refine AN (S:=fun X=>X.cell? ⟨a,0,none⟩=some (.pointer (some ⟨b,0,none⟩))/\X.cell? ⟨a,4,none⟩=some (.int .u64 ((T:Nat):Int))/\X.cell? ⟨pb,101,none⟩=some (.int .i64 (d:Nat))/\X.cell? ⟨pb,102,none⟩=some (.int .u64 (f:Nat))) (by kernel_rfl) ⟨m4,m5,m6,m7⟩ (fun aB=>?_);refine tk 0 ?_;try simp only[pE];refine tk 1 ?_;try simp only[pE];refine tk 2 ?_;try simp only[pE];refine tk 3 ?_;try simp only[pE];refine tk 4 ?_;try simp only[pE];refine tk 5 ?_;try simp only[pE];refine tk 6 ?_;try simp only[pE];refine tk 7 ?_;try simp only[pE];refine tk 8 ?_;try simp only[pE];refine tk 9 ?_;try simp only[pE];refine tk 10 ?_;try simp only[pE];refine tk 11 ?_;try simp only[pE];refine tk 12 ?_;try simp only[pE];refine Bc (i:=13) (v := .agg #[.int .u64 ((T:Nat):Int),.int .i64 (d:Nat),.int .u64 (f:Nat)]) rfl (by kernel_rfl) (by kernel_rfl) (by kernel_rfl) (fun _ _ _ h=>h) (Or.inl ⟨by rfl,fun V _=>Pu V 191 _ rfl (vs := #[(0,.int .u64 ((T:Nat):Int)),(1,.agg #[.int .i64 (d:Nat),.int .u64 (f:Nat)])]) (by simp[Act.eval]) (Da aZ)⟩) (by assumption) ?_
   (try simp only[pE])
   refine rk 14 (fun K I=>?_);go_simp;go_at_call 160;refine(Da ar).mono ?_;rintro e X ⟨rfl,aD,au⟩;go_wp2_with fail;refine I.out _ _ aD (fun a6=>?_);clear I K
   (try simp only[pE])
   refine rk 15 (fun K I=>?_);go_simp;go_at_call 159;refine(Da au).mono ?_;rintro e Y ⟨rfl,aE,aw⟩;go_wp2_with fail;refine I.out _ _ aE (fun a7=>?_);clear I K
   (try simp only[pE])
   refine AS (by kernel_rfl) ?_ _;obtain⟨y0,y1,y2,y3⟩:=aE;clear ar au a6 a7 aB aD m4 m5 m6 m7;go_wp2_with (go_at_call 200;refine(Da aw).mono ?_;rintro e Z ⟨rfl,A,z0,z1,z2,HP⟩;have b1:=A.cell 1;have b2:=A.cell 2;have b3:=A.cell 3;have g1:=A.frozen 1;have g2:=A.frozen 2;have g3:=A.frozen 3;clear A aw y0 y1 y2 y3)
   go_end0
   exact Da HP
theorem Vg{P:Program}{o:Oper}{a:Act}(X:World)(b:BinOp)(t:TypeId)(x y:Operand)(g:TypeId)(ho:o.op = .binOp b t x y g)(u v:Value)(e:a.eval x=u)(f:a.eval y=v)(c:(eqGuard b t x y u v).run P X = .ok () X){r:Value}(d:(binOp b t u v).run P X = .ok r X):(execOp a.eval o).run P X = .ok (.value r) X:=by
 unfold execOp;simp only[ho,Cy,e,f,c,d,Cr]
 rfl
theorem XY:Tryz.prog.eqGuardType Tryz.prog.depth 188=false:=by kernel_rfl
theorem Lt:Tryz.prog.underlying 188=some (.array 64 5):=by kernel_rfl
theorem Tn(s:By):DG s = .agg (s.data.toList.map Extern.Stop.cell).toArray:=rfl
theorem XV(w:World)(a b:By)(c:a.size=64)(d:b.size=64):(Op.equalIn 10000 188 (DG a) (DG b)).run Tryz.prog w = .ok (decide (a=b)) w:=by
 rw[Tn,Tn,run_equalIn_bytes w 9998 188 5 64 Lt Tryz.underlying5 (fun w=>by kernel_rfl) a.data.toList b.data.toList (by rw[Az];exact c) (by rw[Az];exact d)]
 congr 1
 rw[EE,CE,AM];exact⟨fun h=>AY h,fun h=>by rw[h]⟩
theorem Lv(w:World)(a b:By)(c:a.size=64)(d:b.size=64):(binOp .neq 188 (DG a) (DG b)).run Tryz.prog w = .ok (.bool (!decide (a=b))) w:=by
 have:=run_neq_struct (P:=Tryz.prog) w 188 (Dd a).toArray (Dd b).toArray;have e:=XV w a b c d;unfold DG at e ⊢;rw[this,e];rfl
theorem Gi.same{d:LI}(h:Gi d){k a b:Int}(g:(k,a)∈d)(l:(k,b)∈d):a=b:=by
 obtain⟨i,e⟩:=CC.1 g;obtain⟨j,c⟩:=CC.1 l;rcases CQ i j with f|rfl|f
 ·have:=h i j _ _ f e c;simp[Gn]at this
 ·rw[e]at c;cases c;rfl
 ·have:=h j i _ _ f c e;simp[Gn]at this
def Pc(w:World)(pb db sb so:Nat)(nd:Nat->Int)(cl:Bool)(hd:Nat)(va:Value)(es:LI)(tp tx:Int)(vp:Value)(ps:LB)(r:Nat)(s:By)(q:Nat)(e:Ending)(w':World):Prop:=
 e = .returned (.agg #[.int .i64 (q:Nat),.int .u64 (D5 s:Nat)])/\∃va' es',FO w' pb db sb so nd cl hd va' es' tp tx vp ps/\Gi es'/\es'.length=es.length+1/\(∀x,x∈es'↔x=((r:Int),(q:Int))\/x∈es)/\Fr (fun k=>k=pb\/Own va k) w w'/\Dh w va va'
theorem WN(w:World)(pb z t so:Nat)(o:Nat->Int)(cl:Bool)(hd:Nat)(E:Value)(J:LI)(tp tx:Int)(vp:Value)(ps:LB)(h:FO w pb z t so o cl hd E J tp tx vp ps)
  (vb:Value) (eb:LI) (aN:w.cell? ⟨t,so,none⟩=some vb) (aY:Sl w 350 2 vb eb.length (Dq eb)) (a8:eb.length<=10000) (aU:Gi eb) (r:Nat) (vf:Value) (an:OA) (ln cn:Nat) (vw ve:Value) (D:LY) (hD:Kt w z vf (.slice an ln cn) vw ve D) (s:By) (hs:s.size=64)
  (bt:Nat) (a5:bt<1536) (a4:w.cell? ⟨t,so+1,none⟩=some (.int .i64 (bt:Nat))) (hh:hd<=1536) (hz:∃k,k<96/\o ((hd/16+k)%96)<=0) (hl:ps.length<=1000000) (aT:Gi J) (aO:J.length<=10000) (aS:∀x∈J,x.1≠r) (Q:Ending->World->Prop)
  (bA:((∀x∈eb,x.1≠r)/\∀e w',Uf w pb z t so o cl E J tp tx vp ps r s (Jp o 96 hd%1536) e w'->Q e w')\/∃(q:Nat) (s0:By),((r:Int),(q:Int))∈eb/\q<1536/\D[q]?=some s0/\
   ((s0≠s/\∀e w',Uf w pb z t so o cl E J tp tx vp ps r s (Jp o 96 hd%1536) e w'->Q e w')\/s0=s/\(cl=true->(q/16≠bt/16/\o (q/16)<=8)->∀e w',Uf w pb z t so o cl E J tp tx vp ps r s (Jp o 96 hd%1536) e w'->Q e w')/\((cl=true->¬(q/16≠bt/16/\o (q/16)<=8))->∀e w',Pc w pb z t so o cl hd E J tp tx vp ps r s q e w'->Q e w'))):
  Cl 272 #[.pointer (some ⟨pb,0,none⟩),.int .u64 r,DG s] w Q:=by
 obtain⟨a,aZ,be,br,bc,a1⟩:=De w (Dd s) 188;obtain⟨f,a0,aH,a7,bd,a2⟩:=De a [.int .i64 0,.int .u64 0] 175;have L:Bw w f:=a1.trans (a2.mono (by omega));have bU:=h.row.lt;have aV:t<w.heap.size:=Al _ _ aN;obtain⟨p,hp⟩:=ex (Jp o 96 hd%1536);rw[<-hp]at bA;have bT:p<1536:=by omega
 have ak:FH f w.heap.size 188 (Dd s):=a7 _ _ _ be;obtain⟨T,aa,U,rfl⟩:=Sl.shape h.sp;have aP:=NN f t so vb eb r ((L.cell (p:=⟨t,so,none⟩) aV).trans aN) (aY.kept (fun k m _=>L.block k m)) a8 aU;have HN:Hid (∀X,Bw w X->FH X w.heap.size 188 (Dd s)->FH X a.heap.size 175 [.int .i64 0,.int .u64 0]->Cl 302 #[.pointer (some ⟨pb,0,none⟩)] X fun e Y=>e = .returned (.int .i64 p)/\Y.rangeAt w.heap.size 0 (Dd s)/\Y.cell? ⟨pb,103,none⟩=some (.slice T aa U)/\Hid (FO Y pb z t so o cl (p+1) E J tp tx (.slice T aa U) ps/\Fr (fun k=>k=pb) w Y/\FH Y w.heap.size 188 (Dd s)/\FH Y a.heap.size 175 [.int .i64 0,.int .u64 0])):=fun X d q1 q2=>by
  have W:=h.below d;obtain⟨c0,c1,c2,c3,c4,c5,c6⟩:=W.cells;refine(ZW X pb _ W.row o hd hh c2 c4 (W.row.frozen 99) hz).mono ?_;rintro e Y ⟨p',bI,r0,rfl,r1,r2,r3⟩;have e':p'=p:=by rw[bI,hp]
  subst e';have q3:FH Y w.heap.size 188 (Dd s):=q1.fr r2 (by omega);have bo:=W.next p' r0 r2;refine⟨rfl,fun j v A=>by rw[q3.cell,Au];exact A,bo.cells.2.2.2.2.2.2,bo,(Fr.of_below d).then r2 (fun _ _ h=>h),q3,q2.fr r2 (by omega)⟩
 have HA:Hid (∀Y,Hid (FO Y pb z t so o cl (p+1) E J tp tx (.slice T aa U) ps/\Fr (fun k=>k=pb) w Y/\FH Y w.heap.size 188 (Dd s)/\FH Y a.heap.size 175 [.int .i64 0,.int .u64 0])->∃Z,Y.drew.alloc (.cells (FW p s).toArray 207)=Z/\Z.rangeAt w.heap.size 0 (Dd s)/\Z.cell? ⟨pb,103,none⟩=some (.slice T aa U)/\∃H M I u,(Builtin.append_ #[182,182] 182 #[.slice T aa U,.slice (some ⟨Y.heap.size,0,none⟩) 1 1]).run Tryz.prog Z = .ok (.slice H M I) u/\u.rangeAt w.heap.size 0 (Dd s)/\u.cell? ⟨pb,103,none⟩=some (.slice T aa U)/\u.frozen? ⟨pb,103,none⟩=false/\(u.setCell ⟨pb,103,none⟩ (.slice H M I)).rangeAt w.heap.size 0 (Dd s)/\
   Hid (Cl 243 #[.pointer (some ⟨pb,100,none⟩),.int .u64 r,.int .i64 p] (u.setCell ⟨pb,103,none⟩ (.slice H M I)) fun e n=>e = .returned (.tuple #[])/\FH n w.heap.size 188 (Dd s)/\FH n a.heap.size 175 [.int .i64 0,.int .u64 0]/\Hid (∀w7,Fr (fun k=>k=a.heap.size) n w7->Uf w pb z t so o cl E J tp tx (.slice T aa U) ps r s p (.returned (.agg #[.int .i64 (p:Nat),.int .u64 (D5 s:Nat)])) w7))):=fun Y hY=>by
  obtain⟨W,hF,q1,q2⟩:=Da hY;obtain⟨Z,hZ,bN,bS,bV,bH⟩:=De Y.drew (FW p s) 207;have aF:Bw Y Z:=((Ag Y.heap.size Y).drew).trans bH;have aD:=W.below aF;have bR:=hF.size;have z1:FH Z w.heap.size 188 (Dd s):=(aF.block _ q1.lt).trans q1;have z2:FH Z a.heap.size 175 [.int .i64 0,.int .u64 0]:=(aF.block _ q2.lt).trans q2;obtain⟨v',u,r1,H,M,I,rfl,r2,r3,r4⟩:=NP Z _ ps aD.sp Y.heap.size p s hs bN hl;have a9:∀k,Own (.slice T aa U) k->k<w.heap.size:=fun k m=>Sl.lt h.sp m
  have y1:FH u w.heap.size 188 (Dd s):=z1.fr r3 (fun e=>by have:=a9 _ e;omega);have y2:FH u a.heap.size 175 [.int .i64 0,.int .u64 0]:=z2.fr r3 (fun e=>by have:=a9 _ e;omega);have y3:FH u pb 184 _:=aD.row.fr r3 aD.op;have ab:=aD.piece r2 r3 r4;have aQ:w.heap.size≠pb:=by omega
  have aR:a.heap.size≠pb:=by omega
  have bW:Z.heap.size<=u.heap.size:=r3.size;have x1:FH (u.setCell ⟨pb,103,none⟩ (.slice H M I)) w.heap.size 188 (Dd s):=(AB _ _ _ _ aQ).trans y1;have x2:FH (u.setCell ⟨pb,103,none⟩ (.slice H M I)) a.heap.size 175 [.int .i64 0,.int .u64 0]:=(AB _ _ _ _ aR).trans y2;refine⟨Z,hZ,fun j v A=>by rw[z1.cell,Au];exact A,aD.cells.2.2.2.2.2.2,H,M,I,u,r1,fun j v A=>by rw[y1.cell,Au];exact A,(y3.cell 103).trans (JL _ _ _ _ _ _ _ _ _ _ 5),y3.frozen 103,fun j v A=>by rw[x1.cell,Au];exact A,?_⟩;have bX:(u.setCell ⟨pb,103,none⟩ (.slice H M I)).heap.size=u.heap.size:=by simp[World.setCell]
  have ai:Fr (fun k=>k=pb\/Own E k\/Own (.slice T aa U) k) w (u.setCell ⟨pb,103,none⟩ (.slice H M I)):=by
   refine Fr.set ?_ ⟨pb,103,none⟩ _ (.inl rfl);refine Fr.then (Fr.then (w1:=Y) ⟨hF.os,hF.tape,hF.output,hF.size,fun k m d=>hF.block k m (fun e=>d (.inl e))⟩ (Fr.of_below aF (X:=fun _=>False)) (fun _ _ h=>h.elim)) r3 (fun k _ e => .inr (.inr e))
  refine(RT _ pb 100 E J r p ab.cells.2.2.2.2.2.1 (ab.row.frozen 100) ab.oa ab.sa aO aT aS).mono ?_;rintro e n ⟨rfl,aI,aB,m1,m2,m3,m4,m5,m6,G⟩;have al:∀k,Own E k->k<w.heap.size:=fun k m=>h.sa.lt m
  have am:∀k,k≠pb->¬Own E k->k<(u.setCell ⟨pb,103,none⟩ (.slice H M I)).heap.size->n.heap[k]?=(u.setCell ⟨pb,103,none⟩ (.slice H M I)).heap[k]? := fun k h1 h2 h3=>G.block k h3 h1 h2
  refine⟨rfl,(am _ aQ (fun e=>by have:=al _ e;omega) x1.lt).trans x1,(am _ aR (fun e=>by have:=al _ e;omega) x2.lt).trans x2,fun w7 h7=>?_⟩;have R:=ab.put m2 m6 G;have aX:FO w7 pb z t so o cl (p+1) aI aB tp tx (.slice H M I) (ps++[(p,s)]):=by
   have bL:=G.size;have bs:∀v,(∀g,Own v g->g≠a.heap.size)->∀g,Own v g->¬(fun k=>k=a.heap.size) g:=fun v A g F=>A g F
   refine⟨R.row.fr h7 (show ¬pb=a.heap.size by omega),R.sa.fr h7 (bs _ (fun g F e=>?_)),Sl.fr R.sp h7 (bs _ (fun g F e=>?_)),R.oa,R.op,R.ap⟩
   ·rcases m6 g F with h8|h8
    ·have:=al g h8;omega
    ·have:=x2.lt;omega
   ·rcases r4 g F with h8|h8
    ·have:=a9 g h8;omega
    ·have:=z2.lt;omega
  refine⟨rfl,aI,aB,.slice H M I,aX,m3,m4,m5,?_,fun g F=>(m6 g F).imp id (fun h8=>by have:=ai.size;omega),fun g F=>(r4 g F).imp id (fun h8=>by have:=aF.size;omega)⟩;refine Fr.then (w1:=n) ⟨G.os.trans ai.os,G.tape.trans ai.tape,G.output.trans ai.output,Ae ai.size G.size,fun k m d=>?_⟩ h7 (fun k m e=>by omega);have aE:k≠pb/\¬Own E k:=⟨fun e=>d (.inl e),fun e=>d (.inr (.inl e))⟩;rw[am k aE.1 aE.2 (Ao m ai.size)];exact ai.block k m d
 have a3:(Dd s).length=64:=by rw[Dj,hs]
 have bf:=Db a3;have bB:=Db (SO p s hs);have ar:=Db aH;have ap:=Db ak;have ao:=Db L;have bQ:f.cell? ⟨pb,1,none⟩=some (.pointer (some ⟨t,so,none⟩)):=(h.below L).cells.2.1;have bk:=Db aZ;have bl:=Db a0;have bO:=Db (show a.heap.size=w.heap.size+1 from bc);have bP:=Db (show f.heap.size=a.heap.size+1 from bd);rcases bA with⟨bu,af⟩|⟨q,s0,hq,bK,bb,bz⟩
 have HG:Hid (Cl 300 #[.pointer (some ⟨t,so,none⟩),.int .u64 r] f fun e X=>e = .returned (.tuple #[.int .i64 0,.bool false])/\Bw f X):=aP.mono fun e X ⟨v,b,he,hF,O⟩=>by
  rcases hF with⟨_,hm⟩|⟨rfl,rfl,_⟩
  ·exact absurd rfl (bu _ hm)
  ·exact⟨he,O⟩
 have HQ:=Db af;clear h aN aY a8 aU aT aO aS hh hz be br bc a1 aH a7 bd a2 L ak a3 aZ a0 hp aV hD aP a4 a5 bu af;go_enter Tryz.func272,Tryz.ntmps272;go_upto_region 0 with fail;refine AT ?_;refine PU rfl 188 _ rfl (Dd s) rfl ?_;rw[show w.alloc (.cells (Dd s).toArray 188)=a from Da bk]
 (try simp only[pE])
 go_upto_region 1 with fail;rw[show a.alloc (.cells #[Value.int .i64 0,.int .u64 0] 175)=f from Da bl];go_upto_region 2 with(go_at_call 300;refine(Da HG).mono ?_;rintro e X ⟨rfl,aC⟩;have ax:=Db aC;clear aC)
 go_quiet (fail)
 have ag:Bw w (X.drewN nq):=by
  have h1:=(Da ao).trans ((Da ax).mono (Da ao).size);exact⟨h1.os,h1.tape,h1.output,h1.size,h1.block⟩
 have aW:=Db (Da HN _ ag (((Da ax).block _ (Da ap).lt).trans (Da ap)) (((Da ax).block _ (Da ar).lt).trans (Da ar)));clear ag HN HG
 rotate_left
 have HG:Hid (Cl 300 #[.pointer (some ⟨t,so,none⟩),.int .u64 r] f fun e X=>e = .returned (.tuple #[.int .i64 (q:Nat),.bool true])/\Bw f X):=aP.mono fun e X ⟨v,b,he,hF,O⟩=>by
  rcases hF with⟨rfl,hm⟩|⟨_,_,hm⟩
  ·rw[aU.same hm hq]at he;exact⟨he,O⟩
  ·exact absurd rfl (hm _ hq)
 obtain⟨V0,aL⟩:∃V,V=DG s0:=⟨_,rfl⟩;obtain⟨VB,aM⟩:∃V,V=DG s:=⟨_,rfl⟩;have bw:s0.size=64:=hD.2.1.2 s0 (An bb);have aq:Hid (∀V x y,(eqGuard .neq 188 x y V0 VB).run Tryz.prog V = .ok () V):=fun V x y=>by
  subst aL aM;exact run_eqGuard_agg (P:=Tryz.prog) V .neq 188 x y _ _ XY
 have ad:Hid (∀V,(binOp .neq 188 V0 VB).run Tryz.prog V = .ok (.bool (!decide (s0=s))) V):=fun V=>by
  subst aL aM;exact Lv V s0 s bw hs
 have ay:Hid (∀X,Bw f X->(X.cell? ⟨pb,0,none⟩=some (.pointer (some ⟨z,0,none⟩))/\X.rangeAt w.heap.size 0 (Dd s)/\X.cell? ⟨pb,98,none⟩=some (.bool cl))/\Hid (Cl 239 #[.pointer (some ⟨z,0,none⟩),.int .i64 q] X.drew fun e X2=>e = .returned V0/\(X2.cell? ⟨pb,0,none⟩=some (.pointer (some ⟨z,0,none⟩))/\X2.rangeAt w.heap.size 0 (Dd s)/\X2.cell? ⟨pb,98,none⟩=some (.bool cl))/\Hid (Bw f X2))):=fun X d=>by
  have hS:∀X,Bw f X->(X.cell? ⟨pb,0,none⟩=some (.pointer (some ⟨z,0,none⟩))/\X.rangeAt w.heap.size 0 (Dd s)/\X.cell? ⟨pb,98,none⟩=some (.bool cl)):=fun X d=>by
   have l:Bw w X:=L.trans (d.mono L.size);have W:=h.below l;have hr:FH X w.heap.size 188 (Dd s):=(d.block _ ak.lt).trans ak;exact⟨W.cells.1,fun j v A=>by rw[hr.cell,Au];exact A,W.cells.2.2.2.1⟩
  refine⟨hS X d,?_⟩;have l:Bw w X:=L.trans (d.mono L.size);have bD:Kt X.drew z vf (.slice an ln cn) vw ve D:=⟨(l.block _ hD.1.lt).trans hD.1,⟨hD.2.1.1.kept (fun k m _=>l.block k m),hD.2.1.2⟩,hD.2.2⟩;refine(WA X.drew z vf vw ve an ln cn D bD q s0 bb).mono ?_;rintro e X2 ⟨rfl,O⟩;have bq:Bw f X2:=d.trans ⟨O.os,O.tape,O.output,O.size,fun k m=>O.block k (by have:=d.size;show k<X.heap.size;omega)⟩;exact⟨by rw[aL],hS X2 bq,bq⟩
 obtain⟨B,O⟩:=ex (decide (q/16≠bt/16/\o (q/16)<=8));have aJ:=Db O;have az:Hid (∀X,Bw f X->Cl 301 #[.pointer (some ⟨pb,0,none⟩),.int .i64 q] X fun e w'=>e = .returned (.bool B)/\w'=X):=fun X d=>by
  rw[O];have l:Bw w X:=L.trans (d.mono L.size);have W:=h.below l;exact ZgK X pb t so o bt q bK a5 W.cells.2.2.1 W.cells.2.1 ((l.cell (p:=⟨t,so+1,none⟩) aV).trans a4)
 have ac:Hid (∀X,Bw f X->Cl 243 #[.pointer (some ⟨pb,100,none⟩),.int .u64 r,.int .i64 q] X fun e n=>e = .returned (.tuple #[])/\FH n w.heap.size 188 (Dd s)/\FH n a.heap.size 175 [.int .i64 0,.int .u64 0]/\Hid (∀w7,Fr (fun k=>k=a.heap.size) n w7->Pc w pb z t so o cl hd E J tp tx (.slice T aa U) ps r s q (.returned (.agg #[.int .i64 (q:Nat),.int .u64 (D5 s:Nat)])) w7)):=fun X d=>by
  have l:Bw w X:=L.trans (d.mono L.size);have ab:=h.below l;have x1:FH X w.heap.size 188 (Dd s):=(d.block _ ak.lt).trans ak;have x2:FH X a.heap.size 175 [.int .i64 0,.int .u64 0]:=(d.block _ aH.lt).trans aH;have al:∀k,Own E k->k<w.heap.size:=fun k m=>h.sa.lt m
  have bJ:∀k,Own (.slice T aa U) k->k<w.heap.size:=fun k m=>Sl.lt h.sp m
  have aQ:w.heap.size≠pb:=by omega
  have aR:a.heap.size≠pb:=by omega
  refine(RT X pb 100 E J r q ab.cells.2.2.2.2.2.1 (ab.row.frozen 100) ab.oa ab.sa aO aT aS).mono ?_;rintro e n ⟨rfl,aI,aB,m1,m2,m3,m4,m5,m6,G⟩;have am:∀k,k≠pb->¬Own E k->k<X.heap.size->n.heap[k]?=X.heap[k]? := fun k h1 h2 h3=>G.block k h3 h1 h2
  refine⟨rfl,(am _ aQ (fun e=>by have:=al _ e;omega) x1.lt).trans x1,(am _ aR (fun e=>by have:=al _ e;omega) x2.lt).trans x2,fun w7 h7=>?_⟩;have R:=ab.put m2 m6 G;have aX:FO w7 pb z t so o cl hd aI aB tp tx (.slice T aa U) ps:=by
   have bL:=G.size;refine⟨R.row.fr h7 (show ¬pb=a.heap.size by omega),R.sa.fr h7 (fun g F e=>?_),Sl.fr R.sp h7 (fun g F e=>?_),R.oa,R.op,R.ap⟩
   ·rcases m6 g F with h8|h8
    ·have:=al g h8;omega
    ·have:=x2.lt;omega
   ·have:=bJ g F;omega
  refine⟨rfl,aI,aB,aX,m3,m4,m5,?_,fun g F=>(m6 g F).imp id (fun h8=>by have:=l.size;omega)⟩;refine Fr.then (w1:=n) ⟨G.os.trans l.os,G.tape.trans l.tape,G.output.trans l.output,Ae l.size G.size,fun k m aE=>?_⟩ h7 (fun k m e=>by omega);rw[am k (fun e=>aE (.inl e)) (fun e=>aE (.inr e)) (Ao m l.size)];exact l.block k m
 have bC:=Db aM;have bm:=Db bz;clear h aN aY a8 aU aT aO aS hh hz be br bc a1 aH a7 bd a2 L ak a3 aZ a0 hp aV hD aP a4 a5 hq bb aL aM bw bz O;go_enter Tryz.func272,Tryz.ntmps272;go_upto_region 0 with fail;refine AT ?_;refine PU rfl 188 _ rfl (Dd s) rfl ?_;rw[show w.alloc (.cells (Dd s).toArray 188)=a from Da bk]
 (try simp only[pE])
 go_upto_region 1 with fail;rw[show a.alloc (.cells #[Value.int .i64 0,.int .u64 0] 175)=f from Da bl];go_upto_region 2 with(go_at_call 300;refine(Da HG).mono ?_;rintro e X ⟨rfl,aC⟩;have ax:=Db aC;clear aC);obtain⟨aG,aw⟩:=Da ay X (Da ax);refine AN (S:=fun X=>(X.cell? ⟨pb,0,none⟩=some (.pointer (some ⟨z,0,none⟩))/\X.rangeAt w.heap.size 0 (Dd s)/\X.cell? ⟨pb,98,none⟩=some (.bool cl))) (by kernel_rfl) aG (fun au=>?_);refine tk 0 ?_;try simp only[pE];refine tk 1 ?_;try simp only[pE];refine tk 2 ?_;try simp only[pE];refine tk 3 ?_;try simp only[pE];refine tk 4 ?_;try simp only[pE];refine tk 5 ?_;try simp only[pE];refine tk 6 ?_;try simp only[pE];refine tk 7 ?_;try simp only[pE];refine Bc (i:=9) (v:=VB) rfl (by kernel_rfl) (by kernel_rfl) (by kernel_rfl) (fun _ _ _ h=>h) (by rw[Da bC];exact Ea (by rfl) 188 _ rfl w.heap.size 0 rfl (Dd s) _ (fun X d=>d.2.1) KX rfl (by rw[Kf,Da bf])) (by assumption) ?_
 (try simp only[pE])
 refine rk 8 (fun K c=>?_);go_simp;go_at_call 239;refine(Da aw).mono ?_;rintro e X2 ⟨rfl,av,N⟩;go_wp2_with fail;refine c.out _ _ av (fun aj=>?_);clear c K
 (try simp only[pE])
 have bM:=Da bm;clear bm;rcases bM with⟨a6,af⟩|⟨a6,af,bp⟩
 simp only[a6,decide_false,Bool.not_false]at ad;have HQ:=Db af;refine Bc (i:=10) (v := .bool true) rfl (by kernel_rfl) (by kernel_rfl) (by kernel_rfl) (fun _ _ _ h=>h) (Or.inl ⟨by rfl,fun V _=>Vg V .neq 188 _ _ _ rfl V0 VB rfl rfl (Da aq V _ _) (Da ad V)⟩) (by assumption) ?_
 (try simp only[pE])
 refine tk 11 ?_;try simp only[pE];refine tk 12 ?_;try simp only[pE];refine tu 13 ?_
 (try simp only[pE])
 refine tu 14 ?_
 (try simp only[pE])
 refine tu 15 ?_
 (try simp only[pE])
 refine tu 16 ?_
 (try simp only[pE])
 refine tu 17 ?_
 (try simp only[pE])
 refine tu 18 ?_
 (try simp only[pE])
 refine tu 19 ?_
 (try simp only[pE])
 refine tu 20 ?_
 (try simp only[pE])
 refine tu 21 ?_
 (try simp only[pE])
 refine tk 22 ?_;try simp only[pE];refine AS (by kernel_rfl) ?_ _;have ag:Bw w X2:=(Da ao).trans ((Da N).mono (Da ao).size);have aW:=Db (Da HN _ ag (((Da N).block _ (Da ap).lt).trans (Da ap)) (((Da N).block _ (Da ar).lt).trans (Da ar)));clear ag HN HG aw ay ad aq aG av au aj N az ac af
 rotate_left
 simp only[a6,decide_true,Bool.not_true]at ad;have aK:=Db af;have aA:=Db bp;clear af bp;refine Bc (i:=10) (v := .bool false) rfl (by kernel_rfl) (by kernel_rfl) (by kernel_rfl) (fun _ _ _ h=>h) (Or.inl ⟨by rfl,fun V _=>Vg V .neq 188 _ _ _ rfl V0 VB rfl rfl (Da aq V _ _) (Da ad V)⟩) (by assumption) ?_
 (try simp only[pE])
 refine tk 11 ?_;try simp only[pE];refine tk 12 ?_;try simp only[pE];refine tk 13 ?_;try simp only[pE];refine tk 14 ?_;try simp only[pE]
 cases cl
 refine tk 15 ?_;try simp only[pE];refine tk 16 ?_;try simp only[pE];refine tk 17 ?_;try simp only[pE];refine tu 18 ?_
 (try simp only[pE])
 refine tu 19 ?_
 (try simp only[pE])
 refine tu 20 ?_
 (try simp only[pE])
 refine tk 21 ?_;try simp only[pE];refine tk 22 ?_;try simp only[pE];refine AS (by kernel_rfl) ?_ _;have bg:=Db (Da ac _ (Da N));have HQ:=Db (Da aA (fun e=>by cases e));clear ac HG aw ay ad aq aG av au aj N az HN HA aK aA
 rotate_left
 refine tk 15 ?_;try simp only[pE];refine tk 16 ?_;try simp only[pE];refine tk 17 ?_;try simp only[pE];refine tk 18 ?_;try simp only[pE];refine tk 19 ?_;try simp only[pE];refine rk 20 (fun K c=>?_);go_simp;go_at_call 301;refine(Da az X2 (Da N)).mono ?_;rintro e w' ⟨rfl,bx⟩;rw[bx];clear bx;go_wp2_with fail;refine c.out _ _ av (fun bn=>?_);clear c K
 (try simp only[pE])
 refine tk 21 ?_;try simp only[pE];refine tk 22 ?_;try simp only[pE];refine AS (by kernel_rfl) ?_ _
 cases B
 have bg:=Db (Da ac _ (Da N));have HQ:=Db (Da aA (fun _=>of_decide_eq_false (Da aJ).symm));clear ac HG aw ay ad aq aG av au aj N az HN HA bn aK aA aJ
 rotate_left
 have ag:Bw w X2:=(Da ao).trans ((Da N).mono (Da ao).size);have aW:=Db (Da HN _ ag (((Da N).block _ (Da ap).lt).trans (Da ap)) (((Da N).block _ (Da ar).lt).trans (Da ar)));have HQ:=Db (Da aK (by first|rfl|trivial) (Ba (Da aJ).symm));clear ag HN HG aw ay ad aq aG av au aj N az ac bn aK aA aJ
 rotate_left
 all_goals try
  go_wp2_with (first|(go_at_call 243;refine(Da bg).mono ?_;rintro e n ⟨rfl,ah,C,HF⟩;have ae:=Db (M0 n (some ⟨w.heap.size,0,none⟩) 64 64 s ⟨hs.symm,fun e=>(by cases e),fun j v A=>⟨_,rfl,by rw[AF,Au,ah.cell];exact A⟩⟩ (by rw[hs];decide));rw[U9]at ae;have n0:=C.cell 0;have n1:=C.cell 1;have g0:=C.frozen 0;have g1:=C.frozen 1;clear ah C)|(go_at_call 215;refine(Da ae).mono ?_;rintro e w' ⟨rfl,l⟩;rw[l];clear l));exact Aq (v := .agg #[.int .i64 (q:Nat),.int .u64 (D5 s:Nat)]) (by simp[results,Tryz.results272,go_sem,n0,n1]) rfl (Da HQ _ _ (Da HF _ (((Fr.refl (fun k=>k=a.heap.size) n).set ⟨a.heap.size,0,none⟩ _ rfl).set ⟨a.heap.size,1,none⟩ _ rfl)))
 all_goals
  go_upto_region 4 with(go_at_call 302;refine(Da aW).mono ?_;rintro e Y ⟨rfl,e2,m3,HY⟩);obtain⟨Z,hZ,sZ,mZ,H,M,I,u,bv,s5,m5,f5,s6,ac⟩:=Da HA Y HY;have HZ:=Db hZ;have bj:=Db sZ;have bh:=Db s5;have bi:=Db s6;clear hZ sZ s5 s6 HA HY;refine AN (S:=fun X=>X.rangeAt w.heap.size 0 (Dd s)) (by kernel_rfl) e2 (fun au=>?_);refine tk 0 ?_;try simp only[pE];refine tk 1 ?_;try simp only[pE];refine tk 2 ?_;try simp only[pE];refine tk 3 ?_;try simp only[pE];refine tk 5 ?_;try simp only[pE];refine Bc (i:=6) (v:=DG s) rfl (by kernel_rfl) (by kernel_rfl) (by kernel_rfl) (fun _ _ _ h=>h) (Ea (by rfl) 188 _ rfl w.heap.size 0 rfl (Dd s) _ (fun X d=>d) KX rfl (by rw[Kf,Da bf])) (by assumption) ?_
  (try simp only[pE])
  refine Bc (i:=7) (v:=H0 p s) rfl (by kernel_rfl) (by kernel_rfl) (by kernel_rfl) (fun _ _ _ h=>h) (Or.inl ⟨by rfl,fun X _=>?_⟩) (by assumption) ?_
  ·exact ZiS X 207 0 1 _ _ rfl (.int .i64 (p:Nat)) (DG s) rfl rfl (Da bB)
  (try simp only[pE])
  refine A6 (rs:=[4,8]) (by kernel_rfl) (by simp) ?_;refine AE (i:=4) rfl ?_ (AE (i:=8) rfl ?_ AX)
  ·intro K c;go_simp;refine c.out _ _ au (fun bF=>?_);clear c K
   (try simp only[pE])
   refine rk 8 (fun K c=>?_);refine Ny rfl _ rfl p s hs rfl ?_;rw[show Y.drew.alloc (.cells (FW p s).toArray 207)=Z from Da HZ];refine c.out _ _ (Da bj) (fun aj=>?_);clear c K
   (try simp only[pE])
   refine rk 9 (fun K c=>?_);refine JD rfl _ _ 182 182 rfl _ _ rfl rfl bv ?_;refine c.out _ _ (Da bh) (fun bG=>?_);clear c K
   (try simp only[pE])
   refine tk 10 ?_;try simp only[pE];refine tk 11 ?_;try simp only[pE];refine rk 12 (fun K c=>?_);go_simp;refine c.out _ _ (Da bi) (fun bE=>?_);clear c K
   (try simp only[pE])
   refine AS (by kernel_rfl) ?_ _;go_wp2_with (first|(go_at_call 243;refine(Da ac).mono ?_;rintro e n ⟨rfl,ah,C,HF⟩;have ae:=Db (M0 n (some ⟨w.heap.size,0,none⟩) 64 64 s ⟨hs.symm,fun e=>(by cases e),fun j v A=>⟨_,rfl,by rw[AF,Au,ah.cell];exact A⟩⟩ (by rw[hs];decide));rw[U9]at ae;have n0:=C.cell 0;have n1:=C.cell 1;have g0:=C.frozen 0;have g1:=C.frozen 1;clear ah C)|(go_at_call 215;refine(Da ae).mono ?_;rintro e w' ⟨rfl,l⟩;rw[l];clear l));exact Aq (v := .agg #[.int .i64 (p:Nat),.int .u64 (D5 s:Nat)]) (by simp[results,Tryz.results272,go_sem,n0,n1]) rfl (Da HQ _ _ (Da HF _ (((Fr.refl (fun k=>k=a.heap.size) n).set ⟨a.heap.size,0,none⟩ _ rfl).set ⟨a.heap.size,1,none⟩ _ rfl)))
  ·intro K c;refine Ny rfl _ rfl p s hs rfl ?_;rw[show Y.drew.alloc (.cells (FW p s).toArray 207)=Z from Da HZ];refine c.out _ _ (Da bj) (fun aj=>?_);clear c K
   (try simp only[pE])
   refine rk 4 (fun K c=>?_);go_simp;refine c.out _ _ aj (fun bF=>?_);clear c K
   (try simp only[pE])
   refine rk 9 (fun K c=>?_);refine JD rfl _ _ 182 182 rfl _ _ rfl rfl bv ?_;refine c.out _ _ (Da bh) (fun bG=>?_);clear c K
   (try simp only[pE])
   refine tk 10 ?_;try simp only[pE];refine tk 11 ?_;try simp only[pE];refine rk 12 (fun K c=>?_);go_simp;refine c.out _ _ (Da bi) (fun bE=>?_);clear c K
   (try simp only[pE])
   refine AS (by kernel_rfl) ?_ _;go_wp2_with (first|(go_at_call 243;refine(Da ac).mono ?_;rintro e n ⟨rfl,ah,C,HF⟩;have ae:=Db (M0 n (some ⟨w.heap.size,0,none⟩) 64 64 s ⟨hs.symm,fun e=>(by cases e),fun j v A=>⟨_,rfl,by rw[AF,Au,ah.cell];exact A⟩⟩ (by rw[hs];decide));rw[U9]at ae;have n0:=C.cell 0;have n1:=C.cell 1;have g0:=C.frozen 0;have g1:=C.frozen 1;clear ah C)|(go_at_call 215;refine(Da ae).mono ?_;rintro e w' ⟨rfl,l⟩;rw[l];clear l));exact Aq (v := .agg #[.int .i64 (p:Nat),.int .u64 (D5 s:Nat)]) (by simp[results,Tryz.results272,go_sem,n0,n1]) rfl (Da HQ _ _ (Da HF _ (((Fr.refl (fun k=>k=a.heap.size) n).set ⟨a.heap.size,0,none⟩ _ rfl).set ⟨a.heap.size,1,none⟩ _ rfl)))
structure FL where
 nd:Nat->Int
 cl:Bool
 eb:LI
 bt:Nat
 D:LY
structure Pl where
 hd:Nat
 puts:List (Nat×Nat)
 ps:LB
def FL.at(E:FL)(r:Nat):Option Nat:=(E.eb.find? (fun x=>x.1==(r:Int))).map (fun x=>x.2.toNat)
def FL.stay(E:FL)(r:Nat)(s:By):Option Nat:=
 match E.at r with
 | some q=>if E.D[q]?=some s/\¬(E.cl=true/\q/16≠E.bt/16/\E.nd (q/16)<=8) then some q else none
 | none=>none
def FL.put(E:FL)(st:Pl)(r:Nat)(s:By):Nat×Pl:=
 match E.stay r s with
 | some q=>(q,⟨st.hd,st.puts++[(r,q)],st.ps⟩)
 | none=>(Jp E.nd 96 st.hd%1536,⟨Jp E.nd 96 st.hd%1536+1,st.puts++[(r,Jp E.nd 96 st.hd%1536)],st.ps++[(Jp E.nd 96 st.hd%1536,s)]⟩)
structure F4(E:FL):Prop where
 srt:Gi E.eb
 len:E.eb.length<=10000
 bt:E.bt<1536
 dl:E.D.length=1536
 pl:∀x∈E.eb,∃q:Nat,x.2=(q:Int)/\q<1536
theorem F4.at_some{E:FL}(h:F4 E){r q:Nat}(e:E.at r=some q):((r:Int),(q:Int))∈E.eb/\q<1536:=by
 unfold FL.at at e;obtain⟨x,g,rfl⟩:=BJ.1 e;have c:=Fp g;have d:=CB g;obtain⟨q,f,i⟩:=h.pl x d;obtain⟨a,b⟩:=x;simp only[CE]at c;simp only at f;subst c f;exact⟨by simpa using d,by simpa using i⟩
theorem FL.at_none{E:FL}{r:Nat}(e:E.at r=none):∀x∈E.eb,x.1≠r:=fun x a h=>by
 unfold FL.at at e;rw[E8,Ex]at e;exact e x a (by simp[h])
structure Hy(w:World)(n0 db sb so:Nat)(E:FL):Prop where
 cb:∃vb,w.cell? ⟨sb,so,none⟩=some vb/\Sl w 350 2 vb E.eb.length (Dq E.eb)/\∀k,Own vb k->k<n0
 ct:w.cell? ⟨sb,so+1,none⟩=some (.int .i64 (E.bt:Nat))
 dk:∃vf an ln cn vw ve,Kt w db vf (.slice an ln cn) vw ve E.D/\∀k,Own (.slice an ln cn) k->k<n0
 sbl:sb<n0
 dbl:db<n0
theorem Hy.kept{w w':World}{b g d so:Nat}{E:FL}(h:Hy w b g d so E)(j:∀k f t z,k<b->w.heap[k]?=some (.cells f t z)->w'.heap[k]?=some (.cells f t z)):Hy w' b g d so E:=by
 have s:∀(a:Addr) v,a.block<b->w.cell? a=some v->w'.cell? a=some v:=fun a v l e=>by
  obtain⟨f,t,z,r⟩:=ZkN e;exact(Ax ((j _ _ _ _ l r).trans r.symm)).trans e
 have q:∀(e:TypeId) (m:Nat) (v:Value) (n:Nat) (xs:LV),Sl w e m v n xs->(∀k,Own v k->k<b)->Sl w' e m v n xs:=fun e m v n xs x l=>x.kept (fun k _ u=>by
  obtain⟨R,i⟩:=x.type u;unfold FH at i;rw[i];exact j k _ _ _ (l k u) i)
 obtain⟨vb,A,B,o⟩:=h.cb;obtain⟨G,y,D,C,vw,F,c,p⟩:=h.dk;refine⟨⟨vb,s ⟨d,so,none⟩ _ h.sbl A,q _ _ _ _ _ B o,o⟩,s ⟨d,so+1,none⟩ _ h.sbl h.ct,⟨G,y,D,C,vw,F,⟨j g _ _ _ h.dbl c.1,⟨q _ _ _ _ _ c.2.1.1 p,c.2.1.2⟩,c.2.2⟩,p⟩,h.sbl,h.dbl⟩
def QE(w:World)(pb db sb so:Nat)(E:FL)(st:Pl)(tp tx:Int)(O:Nat->Prop):Prop:=
 ∃va es vp,FO w pb db sb so E.nd E.cl st.hd va es tp tx vp st.ps/\Gi es/\es.length=st.puts.length/\(∀x,x∈es↔∃y∈st.puts,x=((y.1:Int),(y.2:Int)))/\∀k,O k↔(k=pb\/Own va k\/Own vp k)
def IF(w:World)(pb db sb so:Nat)(E:FL)(st:Pl)(tp tx:Int)(O:Nat->Prop)(r:Nat)(s:By)(e:Ending)(w':World):Prop:=
 e = .returned (.agg #[.int .i64 ((E.put st r s).1:Nat),.int .u64 (D5 s:Nat)])/\∃O',QE w' pb db sb so E (E.put st r s).2 tp tx O'/\Fr O w w'/\∀k,O' k->O k\/w.heap.size<=k
theorem YE(w:World)(n0 pb c f so:Nat)(E:FL)(l:F4 E)(a:Pl)(g i:Int)(O:Nat->Prop)(h:QE w pb c f so E a g i O)(B:Hy w n0 c f so E)(r:Nat)(s:By)(hs:s.size=64)(ab:∀y∈a.puts,y.1≠r)(ae:a.puts.length<=10000)(ac:a.ps.length<=1000000)(Z:a.hd<=1536)(hz:∃k,k<96/\E.nd ((a.hd/16+k)%96)<=0):
  Cl 272 #[.pointer (some ⟨pb,0,none⟩),.int .u64 r,DG s] w (IF w pb c f so E a g i O r s):=by
 obtain⟨K,j,o,X,W,L,M,d⟩:=h;obtain⟨vb,S,T,c3⟩:=B.cb;obtain⟨vf,R,ln,U,vw,ve,V,d2⟩:=B.dk;have hn:∀x∈j,x.1≠r:=fun x hx e=>by
  obtain⟨y,m,rfl⟩:=(M x).1 hx;exact ab y m (by have e':(y.1:Int)=(r:Int):=e;omega)
 have N:∀(b:LI) (q:Nat),(∀x,x∈b↔x=((r:Int),(q:Int))\/x∈j)->∀x,x∈b↔∃y∈a.puts++[(r,q)],x=((y.1:Int),(y.2:Int)):=fun b q hm x=>by
  rw[hm x,M x];simp only[As,Av];constructor
  ·rintro(rfl|⟨y,m,rfl⟩)
   ·exact⟨_,.inr rfl,rfl⟩
   ·exact⟨y,.inl m,rfl⟩
  ·rintro⟨y,m|rfl,rfl⟩
   ·exact .inr ⟨y,m,rfl⟩
   ·exact .inl rfl
 have ad:∀q,E.stay r s=some q->∀e w',Pc w pb c f so E.nd E.cl a.hd K j g i o a.ps r s q e w'->IF w pb c f so E a g i O r s e w':=fun q v e w' ⟨u,n,b,D,F,G,H,I,J⟩=>by
  unfold IF FL.put;rw[v];refine⟨u,fun k=>k=pb\/Own n k\/Own o k,⟨n,b,o,D,F,by rw[G,L,Ab];rfl,N b q H,fun k=>Iff.rfl⟩,I.mono (fun k _ e=>(d k).2 (by rcases e with e|e;exact .inl e;exact .inr (.inl e))),fun k e=>?_⟩;rcases e with e|e|e
  ·exact .inl ((d k).2 (.inl e))
  ·exact(J k e).imp (fun e=>(d k).2 (.inr (.inl e))) id
  ·exact .inl ((d k).2 (.inr (.inr e)))
 have C:E.stay r s=none->∀e w',Uf w pb c f so E.nd E.cl K j g i o a.ps r s (Jp E.nd 96 a.hd%1536) e w'->IF w pb c f so E a g i O r s e w':=fun v e w' ⟨u,n,b,Q,D,F,G,H,I,J,p7⟩=>by
  unfold IF FL.put;rw[v];refine⟨u,fun k=>k=pb\/Own n k\/Own Q k,⟨n,b,Q,D,F,by rw[G,L,Ab];rfl,N b _ H,fun k=>Iff.rfl⟩,I.mono (fun k _ e=>(d k).2 e),fun k e=>?_⟩;rcases e with e|e|e
  ·exact .inl ((d k).2 (.inl e))
  ·exact(J k e).imp (fun e=>(d k).2 (.inr (.inl e))) id
  ·exact(p7 k e).imp (fun e=>(d k).2 (.inr (.inr e))) id
 refine WN w pb c f so E.nd E.cl a.hd K j g i o a.ps X vb E.eb S T l.len l.srt r vf R ln U vw ve E.D V s hs E.bt l.bt B.ct Z hz ac W (by omega) hn _ ?_
 cases ha:E.at r with
 | none=>exact .inl ⟨FL.at_none ha,C (by unfold FL.stay;rw[ha])⟩
 | some q=>
  obtain⟨aa,P⟩:=l.at_some ha;obtain⟨t,z⟩:∃t,E.D[q]?=some t:=⟨_,Ac (by rw[l.dl];exact P)⟩;refine .inr ⟨q,t,aa,P,z,?_⟩;by_cases p:t=s
  ·refine .inr ⟨p,fun Y A=>C (by unfold FL.stay;rw[ha];simp[Y,A]),fun A=>ad q (by unfold FL.stay;rw[ha];simp only[z,p,true_and];rw[if_pos (fun e=>A e.1 e.2)])⟩
  ·exact .inl ⟨p,C (by unfold FL.stay;rw[ha];simp[z,p])⟩
end Go.Proofs.YtaieidcohdhgpaaGreatDoor
