/- Failed. -/
import Derived.Test.YtaieidcohdhgpaaGreatDoorSAS
import Derived.Stop.BytesEq
namespace Go.Proofs.YtaieidcohdhgpaaGreatDoor
set_option maxHeartbeats 40000000
set_option maxRecDepth 100000
open Go.RowKit
theorem Sl.len{w:World}{e:TypeId}{b:Nat}{a:OA}{l c n:Nat}{xs:LVa}(h:Sl w e b (.slice a l c) n xs):l=n:=by
 rcases h.2 with⟨e,rfl⟩|⟨g,aa,L,e,_⟩
 ·simp only[Value.slice.injEq]at e;exact e.2.1
 ·simp only[Value.slice.injEq]at e;exact e.2.1
theorem Zif:∀{ps:LB},(∀x∈ps,x.2.size=64)->∀(i j:Nat) (x:Nat×By),ps[i]?=some x->j<65->(KR ps)[i*65+j]?=(pcL x.1 x.2)[j]?
 | [],_,i,j,s,hi,_=>by simp at hi
 | x::D,h,0,j,s,hi,hj=>by
  simp at hi;subst hi;have a:=h x List.mem_cons_self;unfold KR;rw[List.flatMap_cons,Nat.zero_mul,Nat.zero_add,List.getElem?_append_left (by rw[JN];omega)]
 | x::D,h,i+1,j,s,hi,hj=>by
  have a:=h x List.mem_cons_self;have:=Zif (ps:=D) (fun y b=>h y (List.mem_cons_of_mem _ b)) i j s (by simpa using hi) hj;unfold KR at this ⊢;rw[List.flatMap_cons,List.getElem?_append_right (by rw[JN];omega),JN,<-this]
  congr 1;omega
theorem SlP.range{w:World}{a:OA}{l c:Nat}{ps:LB}(h:SlP w (.slice a l c) ps)(d:∀x∈ps,x.2.size=64)(i:Nat)(x:Nat×By)(b:ps[i]?=some x):∃g,a=some ⟨g,0,none⟩/\l=ps.length/\w.rangeAt g (i*65) (pcL x.1 x.2):=by
 have ab:=(List.getElem?_eq_some_iff.1 b).1;rcases h.2 with⟨e,h0⟩|⟨g,aa,L,e,m,h1,h2,h3,k⟩
 ·omega
 ·simp only[Value.slice.injEq]at e;obtain⟨rfl,rfl,rfl⟩:=e;refine⟨g,rfl,rfl,fun j v f=>?_⟩;have ac:=d x (List.mem_of_getElem? b);have n:j<65:=by have:=(List.getElem?_eq_some_iff.1 f).1;rw[JN]at this;omega
  have:=Zif d i j x b n;rw[f,<-k,List.getElem?_take]at this
  split at this
  ·rw[m.cell];exact this
  ·cases this
def D9(D:LY)(qs:LB):LY:=qs.foldl (fun D x=>D.set x.1 x.2) D
theorem Zd8(D:LY)(a:LB)(p:Nat)(s:By):D9 D (a++[(p,s)])=(D9 D a).set p s:=by simp[D9]
theorem StW.head{w w':World}{c d:Nat}{p:Value}{n o m:Int}{i j vw f:Value}{D:LY}{ps:LB}{es:List Int}(h:StW w c d p n o m i j vw f D ps es)(b:Fr (fun k=>k=c) w w'){vk':Value}{tp' tx' tn':Int}(l:RowIs w' c 179 [.pointer (some ⟨d,0,none⟩),vk',.int .i64 tp',.int .u64 tx',.int .u64 tn']):StW w' c d vk' tp' tx' tn' i j vw f D ps es:=
 ⟨l,⟨h.disk.1.fr b (fun e=>h.ne e.symm),⟨h.disk.2.1.1.fr b (fun g a e=>h.ns.1 (by rw[<-e];exact a)),h.disk.2.1.2⟩,h.disk.2.2⟩,Sl.fr h.sw b (fun g a e=>h.ns.2.1 (by rw[<-e];exact a)),h.se.fr b (fun g a e=>h.ns.2.2 (by rw[<-e];exact a)),h.ne,h.ns,h.nd,h.d1,h.d2,h.d3⟩
def CarI(w:World)(stb db:Nat)(vk:Value)(tp tx tn:Int)(vf vn vw ve:Value)(D:LY)(ps:LB)(es:List Int)(qs:LB)(wr:World):Prop:=
 ∃vw',StW wr stb db vk tp tx tn vf vn vw' ve (D9 D qs) (ps++qs) es/\Dk w vw vw'/\Fr (fun k=>k=db\/Own vn k\/Own vw k) w wr
theorem CarI.start{w:World}{b a:Nat}{j:Value}{d e c:Int}{i k vw f:Value}{D:LY}{ps:LB}{es:List Int}(h:StW w b a j d e c i k vw f D ps es):CarI w b a j d e c i k vw f D ps es [] w:=
 ⟨vw,by rw[List.append_nil];exact h,fun g l => .inl l,Fr.refl _ _⟩
theorem StW.write_call{w:World}{i a:Nat}{m:Value}{k l j:Int}{c d vw b:Value}{D:LY}{ps:LB}{es:List Int}(h:StW w i a m k l j c d vw b D ps es)(e:ps.length<=1000000000)(p:Nat)(f:p<1536)(s:By)(g:s.size=64):Calls Tryz.prog 159 #[.pointer (some ⟨a,0,none⟩),pcV p s] w (Zd4 w a c d vw b D ps p s):=
 Ze5 w a c d vw b D ps h.disk h.sw h.nd.1 h.nd.2.1 h.d1 e p f s g
theorem CarI.step{w wr X:World}{o b:Nat}{x:Value}{r t q:Int}{v f vw u:Value}{D:LY}{ps:LB}{es:List Int}{i:LB}(h:CarI w o b x r t q v f vw u D ps es i wr)(d:Below wr.heap.size wr X)(hl:ps.length+i.length<=1000000000)(p:Nat)(B:p<1536)(s:By)(C:s.size=64):
  Calls Tryz.prog 159 #[.pointer (some ⟨b,0,none⟩),pcV p s] X fun e w'=>e = .returned (.tuple #[])/\CarI w o b x r t q v f vw u D ps es (i++[(p,s)]) w'/\∀k,wr.heap.size<=k->k<X.heap.size->w'.heap[k]?=X.heap[k]? := by
 obtain⟨G,c,j,l⟩:=h;have A:∀k,k=b\/Own f k\/Own G k->k<wr.heap.size:=fun k a=>by
  rcases a with rfl|a|a
  ·exact c.disk.1.lt
  ·exact c.disk.2.1.1.lt a
  ·exact Sl.lt c.sw a
 refine((c.below d).write_call (by rw[List.length_append];omega) p B s C).mono ?_;intro e w' m;obtain⟨H,E,F,n⟩:=(c.below d).write m;refine⟨m.1,⟨H,by rw[Zd8,<-List.append_assoc];exact E,fun g y=>?_,?_⟩,fun k a z=>n.block k z (fun e=>by have:=A k e;omega)⟩
 ·rcases F g y with e|e
  ·exact j g e
  ·exact .inr (by have:=l.size;have:=d.size;omega)
 ·refine(l.then (Fr.of_below (X:=fun k=>k=b\/Own f k\/Own vw k) d) (fun _ _ e=>e)).then n (fun k a e=>?_);rcases e with e|e|e
  ·exact .inl e
  ·exact .inr (.inl e)
  ·exact(j k e).elim (fun e => .inr (.inr e)) (fun e=>by omega)
def StO(stb db:Nat)(vn vw ve:Value)(k:Nat):Prop:=k=stb\/k=db\/Own vn k\/Own vw k\/Own ve k
def Ziq(w:World)(stb db T:Nat)(vf vn vw ve:Value)(D:LY)(ps:LB)(es:List Int)(va:Value)(eP:LI)(tp tx:Nat)(qs:LB)(e:Ending)(w':World):Prop:=
 e = .returned (.tuple #[])/\∃vw' ve',StW w' stb db va (tp:Nat) (tx:Nat) ((T:Nat):Int) vf vn vw' ve' ((D9 D qs).set (T%2) (ckB T tp tx)) (ps++qs++[(T%2,ckB T tp tx)]) (es++[((ps.length+qs.length:Nat):Int)]++[((ps.length+qs.length+1:Nat):Int)])/\Dk w vw vw'/\Dk w ve ve'/\Fr (StO stb db vn vw ve) w w'/\Sl w' 350 2 va eP.length (Du eP)/\∀k,Own va k->¬StO stb db vn vw' ve' k
theorem Zdp{w w1:World}{v a b:Value}(c:Dk w v a)(d:Dk w1 a b)(h:w.heap.size<=w1.heap.size):Dk w v b:=fun g f=>(d g f).elim (c g) (fun e => .inr (Nat.le_trans h e))
theorem Zhc(t p x:Int):Tryz.prog.built 191 [(0,.int .u64 t),(1,.agg #[.int .i64 p,.int .u64 x])]=some #[.int .u64 t,.int .i64 p,.int .u64 x]:=by kernel_rfl
theorem Zkx(w:World)(a b pb:Nat)(E:Value)(A B:Int)(L:Nat)(q l vw m:Value)(D:LY)(ps:LB)(es:List Int)(h:StW w a b E A B (L:Nat) q l vw m D ps es)
  (d1 sb so:Nat) (nd:Nat->Int) (cl:Bool) (hd:Nat) (va:Value) (eP:LI) (d f:Nat) (vp:Value) (c:LB) (n:PlanW w pb d1 sb so nd cl hd va eP (d:Nat) (f:Nat) vp c)
  (hq:∀x∈c,x.1<1536/\x.2.size=64) (aP:0<c.length) (hl:ps.length+c.length<=999999999) (bf:es.length<=999999998) (T:Nat) (hT:L+1=T) (aS:T<18446744073709551616) (aT:d<65536) (aU:f<18446744073709551616)
  (y:∀k,k=pb\/Own vp k\/Own va k->¬StO a b l vw m k):
  Calls Tryz.prog 133 #[.pointer (some ⟨a,0,none⟩),.pointer (some ⟨pb,0,none⟩)] w (Ziq w a b T q l vw m D ps es va eP d f c):=by
 obtain⟨N,hN⟩:∃N,N=c.length:=⟨_,rfl⟩;have am:∀x∈c,x.2.size=64:=fun x hx=>(hq x hx).2
 obtain⟨ap,t,cp,rfl⟩:=Sl.shape n.sp;obtain⟨O,U,P,rfl⟩:=n.sa.shape;obtain⟨x0,aW⟩:∃x,c[0]?=some x:=⟨_,List.getElem?_eq_getElem aP⟩;obtain⟨g,rfl,aJ,-⟩:=SlP.range n.sp am 0 x0 aW;rw[<-hN]at aJ;subst aJ;have bq:=n.cells.2.2.2.2.2.2;have bv:=n.row.lt;have bx:=h.row.lt;have bi:¬a=pb:=fun e=>y pb (.inl rfl) (.inl e.symm)
 have a1:=Db (CarI.start h);have az:Hid (∀k,k<t->∀wr,CarI w a b E A B (L:Nat) q l vw m D ps es (c.take k) wr->∃p s,s.size=64/\wr.rangeAt g (k*65) (pcL p s)/\∃W o,wr.alloc (.cells (pcL 0 (Dm 64)).toArray 207)=W/\RowIs W wr.heap.size 207 (pcL 0 (Dm 64))/\W.setRow wr.heap.size (pcL p s).toArray=o/\o.cell? ⟨a,0,none⟩=some (.pointer (some ⟨b,0,none⟩))/\o.rangeAt wr.heap.size 0 (pcL p s)/\Hid (Calls Tryz.prog 159 #[.pointer (some ⟨b,0,none⟩),pcV p s] o.drew fun e w'=>e = .returned (.tuple #[])/\w'.cell? ⟨a,0,none⟩=some (.pointer (some ⟨b,0,none⟩))/\w'.rangeAt wr.heap.size 0 (pcL p s)/\Hid (CarI w a b E A B (L:Nat) q l vw m D ps es (c.take (k+1)) w'))):=fun k r wr G=>by
  obtain⟨⟨p,s⟩,hx⟩:∃x,c[k]?=some x:=⟨_,List.getElem?_eq_getElem (by omega)⟩;have ao:=hq _ (List.mem_of_getElem? hx);have a8:=G;obtain⟨F,u,q2,q3⟩:=a8;have a9:SlP wr (.slice (some ⟨g,0,none⟩) t cp) c:=Sl.fr n.sp q3 (fun k r e=>y k (.inr (.inl r)) (by rcases e with e|e|e;exact .inr (.inl e);exact .inr (.inr (.inl e));exact .inr (.inr (.inr (.inl e)))));obtain⟨g',be,-,af⟩:=SlP.range a9 am k _ hx
  cases be
  obtain⟨W,Q,xW,kW,sW,bW⟩:=De wr (pcL 0 (Dm 64)) 207;obtain⟨o,ab⟩:∃X,W.setRow wr.heap.size (pcL p s).toArray=X:=⟨_,rfl⟩;have an:RowIs o wr.heap.size 207 (pcL p s):=by rw[<-ab];exact setRow_heap W _ _ _ 207 _ xW
  have ac:Below wr.heap.size wr o:=by rw[<-ab];exact bW.trans ⟨rfl,rfl,rfl,by simp,fun j hj=>setRow_other W _ j _ (by omega)⟩
  have ba:Below wr.heap.size wr o.drew:=⟨ac.os,ac.tape,ac.output,ac.size,ac.block⟩;have I:RowIs o a 179 _:=(ac.block _ u.row.lt).trans u.row;refine⟨p,s,ao.2,af,W,o,Q,xW,ab,(I.cell 0).trans rfl,fun j v hv=>by rw[an.cell,Nat.zero_add];exact hv,?_⟩;refine(G.step ba (by rw[List.length_take];omega) p ao.1 s ao.2).mono ?_;rintro e w' ⟨rfl,J,r2⟩;have bk:RowIs w' wr.heap.size 207 (pcL p s):=(r2 _ (Nat.le_refl _) an.lt).trans an;have e1:c.take (k+1)=c.take k++[(p,s)]:=by rw[List.take_add_one,hx];rfl
  rw[<-e1]at J;obtain⟨bl,t1,-⟩:=id J;exact⟨rfl,(t1.row.cell 0).trans rfl,fun j v hv=>by rw[bk.cell,Nat.zero_add];exact hv,J⟩
 have ay:Hid (∀wr,CarI w a b E A B (L:Nat) q l vw m D ps es c wr->wr.cell? ⟨a,0,none⟩=some (.pointer (some ⟨b,0,none⟩))/\Hid (Calls Tryz.prog 200 #[.pointer (some ⟨b,0,none⟩)] wr fun e w'=>e = .returned (.tuple #[])/\w'.cell? ⟨pb,103,none⟩=some (.slice (some ⟨g,0,none⟩) t cp)/\w'.cell? ⟨a,4,none⟩=some (.int .u64 (L:Nat))/\w'.frozen? ⟨a,4,none⟩=false/\∃W,w'.setCell ⟨a,4,none⟩ (.int .u64 ((T:Nat):Int))=W/\
   W.cell? ⟨a,0,none⟩=some (.pointer (some ⟨b,0,none⟩))/\W.cell? ⟨a,4,none⟩=some (.int .u64 ((T:Nat):Int))/\W.cell? ⟨pb,101,none⟩=some (.int .i64 (d:Nat))/\W.cell? ⟨pb,102,none⟩=some (.int .u64 (f:Nat))/\
   Hid (∃F C,StW W a b E A B ((T:Nat):Int) q l F C (D9 D c) (ps++c) (es++[((ps.length+c.length:Nat):Int)])/\Dk w vw F/\Dk w m C/\Fr (StO a b l vw m) w W))):=fun wr G=>by
  obtain⟨F,u,q2,q3⟩:=G;obtain⟨av,lv,cv,rfl⟩:=Sl.shape u.sw;have aj:=Sl.len u.sw;refine⟨(u.row.cell 0).trans rfl,?_⟩;refine(Zem wr b q l m av lv cv u.disk.1 es u.se u.nd.2.2 (by omega)).mono ?_;intro e w' hw;obtain⟨C,J,r2,r3⟩:=u.flush hw;have ak:lv=ps.length+c.length:=by rw[aj,List.length_append]
  subst ak;have bj:=q3.size;have aF:Fr (StO a b l vw m) w w':=(q3.mono (Y:=StO a b l vw m) (fun k _ e=>by rcases e with e|e|e;exact .inr (.inl e);exact .inr (.inr (.inl e));exact .inr (.inr (.inr (.inl e))))).then r3 (fun k _ e=>by rcases e with e|e;exact .inr (.inl e);exact .inr (.inr (.inr (.inr e))));have aK:RowIs w' pb 184 _:=n.row.fr aF (y pb (.inl rfl));have I:=J.row.set 4 (.int .u64 ((T:Nat):Int));have ad:Fr (fun k=>k=a) w' (w'.setCell ⟨a,4,none⟩ (.int .u64 ((T:Nat):Int))):=(Fr.refl _ _).set _ _ rfl;have aL:RowIs (w'.setCell ⟨a,4,none⟩ (.int .u64 ((T:Nat):Int))) pb 184 _:=aK.fr ad (fun e=>bi e.symm);have r4:=J.head ad (vk':=E) (tp':=A) (tx':=B) (tn':=((T:Nat):Int)) I;refine⟨hw.1,(aK.cell 103).trans (Jz _ _ _ _ _ _ _ _ _ _ 5),(J.row.cell 4).trans rfl,J.row.frozen 4,_,rfl,(I.cell 0).trans rfl,(I.cell 4).trans rfl,(aL.cell 101).trans (Jz _ _ _ _ _ _ _ _ _ _ 3),(aL.cell 102).trans (Jz _ _ _ _ _ _ _ _ _ _ 4),_,C,r4,q2,Zdp (fun g hg => .inl hg) r2 bj,aF.then ad (fun k _ e => .inl e)⟩
 obtain⟨VK,ah⟩:∃V,V=pcV (T%2) (ckB T d f):=⟨_,rfl⟩;have ax:Hid (∀W,W.cell? ⟨a,0,none⟩=some (.pointer (some ⟨b,0,none⟩))/\W.cell? ⟨a,4,none⟩=some (.int .u64 ((T:Nat):Int))/\W.cell? ⟨pb,101,none⟩=some (.int .i64 (d:Nat))/\W.cell? ⟨pb,102,none⟩=some (.int .u64 (f:Nat))->Hid (∃F C,StW W a b E A B ((T:Nat):Int) q l F C (D9 D c) (ps++c) (es++[((ps.length+c.length:Nat):Int)])/\Dk w vw F/\Dk w m C/\Fr (StO a b l vw m) w W)->
   Calls Tryz.prog 160 #[.agg #[.int .u64 ((T:Nat):Int),.int .i64 (d:Nat),.int .u64 (f:Nat)]] W.drew fun e X=>e = .returned VK/\(X.cell? ⟨a,0,none⟩=some (.pointer (some ⟨b,0,none⟩))/\X.cell? ⟨a,4,none⟩=some (.int .u64 ((T:Nat):Int))/\X.cell? ⟨pb,101,none⟩=some (.int .i64 (d:Nat))/\X.cell? ⟨pb,102,none⟩=some (.int .u64 (f:Nat)))/\
    Hid (Calls Tryz.prog 159 #[.pointer (some ⟨b,0,none⟩),VK] X fun e Y=>e = .returned (.tuple #[])/\(Y.cell? ⟨a,0,none⟩=some (.pointer (some ⟨b,0,none⟩))/\Y.cell? ⟨a,4,none⟩=some (.int .u64 ((T:Nat):Int))/\Y.cell? ⟨pb,101,none⟩=some (.int .i64 (d:Nat))/\Y.cell? ⟨pb,102,none⟩=some (.int .u64 (f:Nat)))/\
     Hid (Calls Tryz.prog 200 #[.pointer (some ⟨b,0,none⟩)] Y fun e Z=>e = .returned (.tuple #[])/\RowIs Z a 179 [.pointer (some ⟨b,0,none⟩),E,.int .i64 A,.int .u64 B,.int .u64 ((T:Nat):Int)]/\Z.cell? ⟨pb,100,none⟩=some (.slice O U P)/\Z.cell? ⟨pb,101,none⟩=some (.int .i64 (d:Nat))/\Z.cell? ⟨pb,102,none⟩=some (.int .u64 (f:Nat))/\
      Hid (Ziq w a b T q l vw m D ps es (.slice O U P) eP d f c (.returned (.tuple #[])) (((Z.setCell ⟨a,1,none⟩ (.slice O U P)).setCell ⟨a,2,none⟩ (.int .i64 (d:Nat))).setCell ⟨a,3,none⟩ (.int .u64 (f:Nat))))))):=fun W hc hh=>by
  obtain⟨F,C,s1,s2,s3,s4⟩:=Da hh;have bc:=Q8 T d f;refine(Zef W.drew T d f aS aT aU).mono ?_;rintro e X ⟨rfl,R⟩;have ae:Below W.heap.size W X:=⟨R.os,R.tape,R.output,R.size,R.block⟩;have aM:RowIs W pb 184 _:=n.row.fr s4 (y pb (.inl rfl));have bw:=s4.size;have bn:=ae.size;have ag:=s1.below ae;have aN:RowIs X pb 184 _:=(ae.block _ aM.lt).trans aM;refine⟨by rw[ah],⟨(ag.row.cell 0).trans rfl,(ag.row.cell 4).trans rfl,(aN.cell 101).trans (Jz _ _ _ _ _ _ _ _ _ _ 3),(aN.cell 102).trans (Jz _ _ _ _ _ _ _ _ _ _ 4)⟩,?_⟩;rw[ah];refine(ag.write_call (by rw[List.length_append];omega) (T%2) (by omega) _ bc).mono ?_;intro e Y hw;obtain⟨bl,M,u2,u3⟩:=ag.write hw;have bg:∀k,k<w.heap.size->(k=b\/Own l k\/Own F k)->StO a b l vw m k:=fun k r e=>by
   rcases e with e|e|e
   ·exact .inr (.inl e)
   ·exact .inr (.inr (.inl e))
   ·exact(s2 k e).elim (fun e => .inr (.inr (.inr (.inl e)))) (fun e=>by omega)
  have bd:Fr (StO a b l vw m) w X:=s4.then (Fr.of_below (X:=fun _=>False) ae) (fun _ _ e=>e.elim);have aG:Fr (StO a b l vw m) w Y:=bd.then u3 bg;have aO:RowIs Y pb 184 _:=n.row.fr aG (y pb (.inl rfl));have bo:=u3.size;refine⟨hw.1,⟨(M.row.cell 0).trans rfl,(M.row.cell 4).trans rfl,(aO.cell 101).trans (Jz _ _ _ _ _ _ _ _ _ _ 3),(aO.cell 102).trans (Jz _ _ _ _ _ _ _ _ _ _ 4)⟩,?_⟩;obtain⟨av,lv,cv,rfl⟩:=Sl.shape M.sw;have aj:=Sl.len M.sw;have ak:lv=ps.length+c.length+1:=by rw[aj,List.length_append,List.length_append];rfl
  subst ak;refine(Zem Y b q l C av _ cv M.disk.1 _ M.se M.nd.2.2 (by rw[List.length_append];simp;omega)).mono ?_;intro e Z hz;obtain⟨aY,v1,v2,v3⟩:=M.flush hz;have aH:Fr (StO a b l vw m) w Z:=aG.then v3 (fun k r e=>by
   rcases e with e|e
   ·exact .inr (.inl e)
   ·exact(s3 k e).elim (fun e => .inr (.inr (.inr (.inr e)))) (fun e=>by omega))
  have al:RowIs Z pb 184 _:=n.row.fr aH (y pb (.inl rfl));have ad:Fr (fun k=>k=a) Z (((Z.setCell ⟨a,1,none⟩ (.slice O U P)).setCell ⟨a,2,none⟩ (.int .i64 (d:Nat))).setCell ⟨a,3,none⟩ (.int .u64 (f:Nat))):=(((Fr.refl (fun k=>k=a) Z).set ⟨a,1,none⟩ (.slice O U P) rfl).set ⟨a,2,none⟩ (.int .i64 (d:Nat)) rfl).set ⟨a,3,none⟩ (.int .u64 (f:Nat)) rfl;have z:=((v1.row.set 1 (.slice O U P)).set 2 (.int .i64 (d:Nat))).set 3 (.int .u64 (f:Nat));have aI:Fr (StO a b l vw m) w (((Z.setCell ⟨a,1,none⟩ (.slice O U P)).setCell ⟨a,2,none⟩ (.int .i64 (d:Nat))).setCell ⟨a,3,none⟩ (.int .u64 (f:Nat))):=aH.then ad (fun k _ e => .inl e);have n1:Dk w vw (.slice av (ps.length+c.length+1) cv):=Zdp s2 u2 (by omega);have n2:Dk w m aY:=Zdp s3 v2 (by omega);refine⟨hz.1,v1.row,(al.cell 100).trans (Jz _ _ _ _ _ _ _ _ _ _ 2),(al.cell 101).trans (Jz _ _ _ _ _ _ _ _ _ _ 3),(al.cell 102).trans (Jz _ _ _ _ _ _ _ _ _ _ 4),rfl,_,aY,v1.head ad z,n1,n2,aI,n.sa.fr aI (fun k r=>y k (.inr (.inr r))),fun k r e=>?_⟩;have bs:=n.sa.lt r;refine y k (.inr (.inr r)) ?_;rcases e with e|e|e|e|e
  ·exact .inl e
  ·exact .inr (.inl e)
  ·exact .inr (.inr (.inl e))
  ·exact(n1 k e).elim (fun e => .inr (.inr (.inr (.inl e)))) (fun e=>by omega)
  ·exact(n2 k e).elim (fun e => .inr (.inr (.inr (.inr e)))) (fun e=>by omega)
 have a3:=Db hN;have bz:IntKind.u64.wrap ((L:Int)+1)=((T:Nat):Int):=by simp[IntKind.wrap,IntKind.bits,IntKind.signed];omega
 have bt:¬(t:Int)=0:=by omega
 have bu:t<=999999999:=by omega
 obtain⟨dd,aV,aQ⟩:=UC;have aZ:=Db (Zhc ((T:Nat):Int) (d:Nat) (f:Nat));clear hT h n hq am aP hl bf aS aT aU y aW ah hN;go_enter Tryz.func133,Tryz.ntmps133;go_wp2
 go_loopw [11] (fun i wr=>∃k:Nat,k<=t/\i = .int .i64 k/\Hid (CarI w a b E A B (L:Nat) q l vw m D ps es (c.take k) wr)) (fun i _=>t-(intOf i).toNat)
 case atStart=>exact⟨0,Nat.zero_le _,rfl,by rw[List.take_zero];exact Da a1⟩
 case round=>
  obtain⟨k,r,rfl,HI⟩:=hrel;by_cases bh:k<t
  ·obtain⟨p,s,aR,af,W,o,Q,aX,ab,bb,I,aA⟩:=Da az k bh wr (Da HI);have HR:=Db af;have HW:=Db Q;have HX:=Db aX;have a5:=Db ab;have aC:(pcL p s).length=65:=by rw[JN,aR]
   have HL:=Db aC;have br:(k:Int)<(t:Int):=by omega
   obtain⟨VP,ai⟩:∃V,V=pcV p s:=⟨_,rfl⟩;have a4:=Db ai;have a0:=Db I;rw[<-ai]at aA;clear af Q aX ab aC ai aR I;go_upto_region 3 with(first|(refine wpList_load_mid rfl 207 _ rfl g (k*65) rfl (pcL p s) _ (Da HR) aV aQ (by rw[KW,Da HL]) ?_)|(refine JF rfl 207 rfl US ?_;rw[show wr.alloc (.cells (pcL 0 (Dm 64)).toArray 207)=W from Da HW])|(refine wpList_store_row rfl 207 _ _ rfl wr.heap.size (pcL p s).toArray rfl rfl 207 _ (Da HX) (by rw[KW];simp[Da HL]) (by simp[Da HL,JN,Jl]) (all_oneCell_toArray (UN _ _)) ?_;rw[Da a5]));refine wp_region_held_drew (S:=fun X=>X.cell? ⟨a,0,none⟩=some (.pointer (some ⟨b,0,none⟩))/\X.rangeAt wr.heap.size 0 (pcL p s)) (by kernel_rfl) ⟨bb,Da a0⟩ (fun aB=>?_);refine tk 0 ?_;try simp only[pE];refine tk 1 ?_;try simp only[pE];refine tk 2 ?_;try simp only[pE];refine tk 3 ?_;try simp only[pE];refine wpAnyH_take (i:=4) (v:=VP) rfl (by kernel_rfl) (by kernel_rfl) (by kernel_rfl) (fun _ _ _ h=>h) (by rw[Da a4];exact yieldsIf_load_mid (by rfl) 207 _ rfl wr.heap.size 0 rfl (pcL p s) _ (fun X R=>R.2) aV aQ (by rw[KW,Da HL])) (by assumption) ?_
   (try simp only[pE])
   refine rk 5 (fun K H=>?_);go_simp;go_at_call 159;refine(Da aA).mono ?_;rintro e w' ⟨rfl,c3,r3,a2⟩;go_wp2_with fail;refine H.out _ _ ⟨c3,r3⟩ (fun bm=>?_);clear H K
   (try simp only[pE])
   refine wpAnyH_done (by kernel_rfl) ?_ _;go_wp2
   go_roundw
   case rel=>exact⟨k+1,by omega,by go_num,a2⟩
   case measure=>simp[intOf];omega
  ·obtain rfl:k=t:=by omega
   have G:=Da HI;rw[List.take_of_length_le (Nat.le_of_eq (Da a3).symm)]at G;obtain⟨bp,HF⟩:=Da ay wr G;clear G HI ay az;go_upto_region 8 with(go_at_call 200;refine(Da HF).mono ?_;rintro e w3 ⟨rfl,m1,m2,m3,W,Q,m4,m5,m6,m7,HS⟩;have HW:=Db Q;clear Q HF);rw[show w3.setCell ⟨a,4,none⟩ (.int .u64 ((T:Nat):Int))=W from Da HW];clear HW m1 m2 m3;have aq:=Da ax W ⟨m4,m5,m6,m7⟩ HS;have ar:=Db aq;clear aq ax HS;refine wp_region_held_drew (S:=fun X=>X.cell? ⟨a,0,none⟩=some (.pointer (some ⟨b,0,none⟩))/\X.cell? ⟨a,4,none⟩=some (.int .u64 ((T:Nat):Int))/\X.cell? ⟨pb,101,none⟩=some (.int .i64 (d:Nat))/\X.cell? ⟨pb,102,none⟩=some (.int .u64 (f:Nat))) (by kernel_rfl) ⟨m4,m5,m6,m7⟩ (fun aB=>?_);refine tk 0 ?_;try simp only[pE];refine tk 1 ?_;try simp only[pE];refine tk 2 ?_;try simp only[pE];refine tk 3 ?_;try simp only[pE];refine tk 4 ?_;try simp only[pE];refine tk 5 ?_;try simp only[pE];refine tk 6 ?_;try simp only[pE];refine tk 7 ?_;try simp only[pE];refine tk 8 ?_;try simp only[pE];refine tk 9 ?_;try simp only[pE];refine tk 10 ?_;try simp only[pE];refine tk 11 ?_;try simp only[pE];refine tk 12 ?_;try simp only[pE];refine wpAnyH_take (i:=13) (v := .agg #[.int .u64 ((T:Nat):Int),.int .i64 (d:Nat),.int .u64 (f:Nat)]) rfl (by kernel_rfl) (by kernel_rfl) (by kernel_rfl) (fun _ _ _ h=>h) (Or.inl ⟨by rfl,fun V _=>Zeo V 191 _ rfl (vs := #[(0,.int .u64 ((T:Nat):Int)),(1,.agg #[.int .i64 (d:Nat),.int .u64 (f:Nat)])]) (by simp[Act.eval]) (Da aZ)⟩) (by assumption) ?_
   (try simp only[pE])
   refine rk 14 (fun K H=>?_);go_simp;go_at_call 160;refine(Da ar).mono ?_;rintro e X ⟨rfl,aD,au⟩;go_wp2_with fail;refine H.out _ _ aD (fun a6=>?_);clear H K
   (try simp only[pE])
   refine rk 15 (fun K H=>?_);go_simp;go_at_call 159;refine(Da au).mono ?_;rintro e Y ⟨rfl,aE,aw⟩;go_wp2_with fail;refine H.out _ _ aE (fun a7=>?_);clear H K
   (try simp only[pE])
   refine wpAnyH_done (by kernel_rfl) ?_ _;obtain⟨y0,y1,y2,y3⟩:=aE;clear ar au a6 a7 aB aD m4 m5 m6 m7;go_wp2_with (go_at_call 200;refine(Da aw).mono ?_;rintro e Z ⟨rfl,z,z0,z1,z2,HP⟩;have b1:=z.cell 1;have b2:=z.cell 2;have b3:=z.cell 3;have g1:=z.frozen 1;have g2:=z.frozen 2;have g3:=z.frozen 3;clear z aw y0 y1 y2 y3)
   go_end0
   exact Da HP
theorem Zep{P:Program}{o:Oper}{a:Act}(X:World)(b:BinOp)(t:TypeId)(x y:Operand)(ty:TypeId)(ho:o.op = .binOp b t x y ty)(u v:Value)(e:a.eval x=u)(f:a.eval y=v)(c:(eqGuard b t x y u v).run P X = .ok () X){r:Value}(d:(binOp b t u v).run P X = .ok r X):(execOp a.eval o).run P X = .ok (.value r) X:=by
 unfold execOp;simp only[ho,Sem.run_bind,e,f,c,d,Result.andThen_ok]
 rfl
theorem Zm0:Tryz.prog.eqGuardType Tryz.prog.depth 188=false:=by kernel_rfl
theorem UB:Tryz.prog.underlying 188=some (.array 64 5):=by kernel_rfl
theorem Zd1(s:By):DA s = .agg (s.data.toList.map Extern.Stop.cell).toArray:=rfl
theorem Zm5(w:World)(a b:By)(c:a.size=64)(d:b.size=64):(Op.equalIn 10000 188 (DA a) (DA b)).run Tryz.prog w = .ok (decide (a=b)) w:=by
 rw[Zd1,Zd1,run_equalIn_bytes w 9998 188 5 64 UB Tryz.underlying5 (fun w=>by kernel_rfl) a.data.toList b.data.toList (by rw[Array.length_toList];exact c) (by rw[Array.length_toList];exact d)]
 congr 1
 rw[Bool.eq_iff_iff,beq_iff_eq,decide_eq_true_eq];exact⟨fun h=>WideShapes.bytes_inj h,fun h=>by rw[h]⟩
theorem neq188(w:World)(a b:By)(c:a.size=64)(d:b.size=64):(binOp .neq 188 (DA a) (DA b)).run Tryz.prog w = .ok (.bool (!decide (a=b))) w:=by
 have:=run_neq_struct (P:=Tryz.prog) w 188 (Dc a).toArray (Dc b).toArray;have e:=Zm5 w a b c d;unfold DA at e ⊢;rw[this,e];rfl
theorem SrtR.same{es:LI}(h:SrtR es){k a b:Int}(f:(k,a)∈es)(g:(k,b)∈es):a=b:=by
 obtain⟨i,d⟩:=List.mem_iff_getElem?.1 f;obtain⟨j,c⟩:=List.mem_iff_getElem?.1 g;rcases Nat.lt_trichotomy i j with e|rfl|e
 ·have:=h i j _ _ e d c;simp[ltI]at this
 ·rw[d]at c;cases c;rfl
 ·have:=h j i _ _ e c d;simp[ltI]at this
def Zhk(w:World)(pb db sb so:Nat)(nd:Nat->Int)(cl:Bool)(hd:Nat)(va:Value)(es:LI)(tp tx:Int)(vp:Value)(ps:LB)(r:Nat)(s:By)(q:Nat)(e:Ending)(w':World):Prop:=
 e = .returned (.agg #[.int .i64 (q:Nat),.int .u64 (Dp s:Nat)])/\∃va' es',PlanW w' pb db sb so nd cl hd va' es' tp tx vp ps/\SrtR es'/\es'.length=es.length+1/\(∀x,x∈es'↔x=((r:Int),(q:Int))\/x∈es)/\Fr (fun k=>k=pb\/Own va k) w w'/\Dk w va va'
end Go.Proofs.YtaieidcohdhgpaaGreatDoor
