/- Failed. -/
import Derived.Test.YtaieidcohdhgpaaGreatDoorSBE
import Derived.Test.YtaieidcohdhgpaaGreatDoorSBF
namespace Go.Proofs.YtaieidcohdhgpaaGreatDoor
set_option maxHeartbeats 40000000
set_option maxRecDepth 100000
open Go.RowKit
structure RdQ where
 ins:List (Nat×Nat)
 tk:Nat->Bool
 tn:Nat->Nat
 t:By
structure RdS(w0:World)(n0 rb db tp tx:Nat)(q:RdQ)(va vt:Value)(W:World):Prop where
 row:∃L,RowIs W rb 197 L/\L[0]?=some (.pointer (some ⟨db,0,none⟩))/\L[1]?=some va/\L[2]?=some (.int .i64 (tp:Nat))/\L[3]?=some (.int .u64 (tx:Nat))/\(∀p,p<1536->L[4+p]?=some (.bool (q.tk p)))/\(∀b,b<8->L[1540+b]?=some (.int .i64 (q.tn b:Nat)))/\L[1548]?=some vt
 es:∃es,EsOf q.ins es/\Sl W 350 2 va es.length (Du es)
 tab:SlB n0 W vt q.t
 oa:∀k,Own va k->n0<=k/\k≠rb/\¬Own vt k
 ot:¬Own vt rb
 bel:Below n0 w0 W
 lo:n0<=rb
 sz:n0<=w0.heap.size
section
variable{w0:World}{n0 rb db tp tx:Nat}{q:RdQ}{va vt:Value}{W W':World}
theorem RdS.fr(h:RdS w0 n0 rb db tp tx q va vt W){Z:Nat->Prop}(a:Fr Z W W')(b:∀k,Z k->n0<=k/\k≠rb/\¬Own va k/\¬Own vt k):RdS w0 n0 rb db tp tx q va vt W':=by
 obtain⟨L,j,i⟩:=h.row;obtain⟨es,d,f⟩:=h.es;have hs:=h.bel.size;have l:=h.sz;exact⟨⟨L,j.fr a (fun e=>(b _ e).2.1 rfl),i⟩,⟨es,d,f.fr a (fun g c e=>(b g e).2.2.1 c)⟩,⟨h.tab.1.fr a (fun g c e=>(b g e).2.2.2 c),h.tab.2⟩,h.oa,h.ot,h.bel.trans ⟨a.os,a.tape,a.output,a.size,fun k hk=>a.block k (by omega) (fun e=>by have:=(b k e).1;omega)⟩,h.lo,l⟩
theorem RdS.below(h:RdS w0 n0 rb db tp tx q va vt W)(a:Below W.heap.size W W'):RdS w0 n0 rb db tp tx q va vt W':=h.fr (Z:=fun _=>False) (Fr.of_below a) (fun _ e=>e.elim)
theorem RdS.lt(h:RdS w0 n0 rb db tp tx q va vt W):rb<W.heap.size/\(∀k,Own va k->k<W.heap.size)/\(∀k,Own vt k->k<W.heap.size):=by
 obtain⟨L,c,_⟩:=h.row;obtain⟨es,_,b⟩:=h.es;exact⟨c.lt,fun k a=>b.lt a,fun k a=>h.tab.1.lt a⟩
theorem RdS.set(h:RdS w0 n0 rb db tp tx q va vt W)(a:Fr (fun k=>k=rb) W W'){L:LVa}{c:RdQ}(n:RowIs W' rb 197 L)(m:L[0]?=some (.pointer (some ⟨db,0,none⟩))/\L[1]?=some va/\L[2]?=some (.int .i64 (tp:Nat))/\L[3]?=some (.int .u64 (tx:Nat))/\(∀p,p<1536->L[4+p]?=some (.bool (c.tk p)))/\(∀b,b<8->L[1540+b]?=some (.int .i64 (c.tn b:Nat)))/\L[1548]?=some vt)(j:c.ins=q.ins)(l:c.t=q.t):RdS w0 n0 rb db tp tx c va vt W':=by
 obtain⟨es,f,i⟩:=h.es;have hs:=h.bel.size;have o:=h.sz;have aa:=h.lo;exact⟨⟨L,n,m⟩,⟨es,by rw[j];exact f,i.fr a (fun g d e=>(h.oa g d).2.1 e)⟩,⟨by rw[l];exact h.tab.1.fr a (fun g d e=>h.ot (by rw[<-e];exact d)),h.tab.2⟩,h.oa,h.ot,h.bel.trans ⟨a.os,a.tape,a.output,a.size,fun k hk=>a.block k (by omega) (fun e=>by omega)⟩,h.lo,o⟩
def RdQ.take(q:RdQ)(p:Nat):RdQ:={ q with tk:=fun k=>if k=p then true else q.tk k }
def RdQ.turn(q:RdQ)(b:Nat):RdQ:={ q with tn:=fun k=>if k=b then q.tn b+1 else q.tn k }
def RdQ.put(q:RdQ)(r p:Nat):RdQ:={ q with ins:=q.ins++[(r,p)] }
def RdQ.say(q:RdQ)(s:By):RdQ:={ q with t:=q.t++s }
theorem RdS.take_call(h:RdS w0 n0 rb db tp tx q va vt W){m vw j:Value}{a:OA}{l c:Nat}{D:LY}(d:DS w0 db m (.slice a l c) vw j D)(g:db<n0/\∀k,Own (.slice a l c) k->k<n0){p x:Nat}(w:16<=p)(r:p<1536)(f:q.tk p=false){s:By}(A:D[p]?=some s):
  Calls Tryz.prog 241 #[.pointer (some ⟨rb,0,none⟩),.agg #[.int .i64 (p:Nat),.int .u64 (x:Nat)]] W fun e w'=>e = .returned (.tuple #[DA s,.bool true])/\RdS w0 n0 rb db tp tx (q.take p) va vt w'/\Fr (fun k=>k=rb) W w':=by
 obtain⟨L,y,t,B,C,E,i,F,G⟩:=h.row;have aa:=h.lo;have u:DS W db m (.slice a l c) vw j D:=⟨(h.bel.block _ g.1).trans d.1,⟨d.2.1.1.kept (fun k _ f=>h.bel.block k (g.2 k f)),d.2.1.2⟩,d.2.2⟩;refine(ZnV W rb db L y t m vw j a l c D u (by omega) (fun e=>by have:=g.2 _ e;omega) p x w r (by rw[i p r,f]) s A).mono ?_;rintro e w' ⟨rfl,z,n⟩;refine⟨rfl,h.set n z ⟨by rw[List.getElem?_set_ne (by omega)];exact t,by rw[List.getElem?_set_ne (by omega)];exact B,by rw[List.getElem?_set_ne (by omega)];exact C,by rw[List.getElem?_set_ne (by omega)];exact E,fun k o=>?_,fun b v=>by rw[List.getElem?_set_ne (by omega)];exact F b v,by rw[List.getElem?_set_ne (by omega)];exact G⟩ rfl rfl,n⟩;show _=some (Value.bool (if k=p then true else q.tk k));by_cases e:k=p
 ·subst e;rw[if_pos rfl,List.getElem?_set_self (List.getElem?_eq_some_iff.1 (i k o)).1]
 ·rw[if_neg e,List.getElem?_set_ne (by omega)];exact i k o
theorem RdS.turn(h:RdS w0 n0 rb db tp tx q va vt W){b:Nat}(hb:b<8):RdS w0 n0 rb db tp tx (q.turn b) va vt (W.setCell ⟨rb,1540+b,none⟩ (.int .i64 ((q.tn b+1:Nat):Int))):=by
 obtain⟨L,d,f,g,i,j,l,c,m⟩:=h.row;refine h.set ((Fr.refl _ _).set _ _ rfl) (d.set (1540+b) (.int .i64 ((q.tn b+1:Nat):Int))) ⟨by rw[List.getElem?_set_ne (by omega)];exact f,by rw[List.getElem?_set_ne (by omega)];exact g,by rw[List.getElem?_set_ne (by omega)];exact i,by rw[List.getElem?_set_ne (by omega)];exact j,fun k a=>by rw[List.getElem?_set_ne (by omega)];exact l k a,fun k a=>?_,by rw[List.getElem?_set_ne (by omega)];exact m⟩ rfl rfl;show _=some (Value.int .i64 ((if k=b then q.tn b+1 else q.tn k:Nat):Int));by_cases e:k=b
 ·subst e;rw[if_pos rfl,List.getElem?_set_self (List.getElem?_eq_some_iff.1 (c k a)).1]
 ·rw[if_neg e,List.getElem?_set_ne (by omega)];exact c k a
theorem RdS.say(h:RdS w0 n0 rb db tp tx q va vt W){s:By}{c:Value}(i:SlB n0 W' c (q.t++s))(b:Fr (Own vt) W W')(j:Dk W vt c):RdS w0 n0 rb db tp tx (q.say s) va c (W'.setCell ⟨rb,1548,none⟩ c):=by
 obtain⟨L,t,w,x,y,z,A,B,C⟩:=h.row;obtain⟨aa,p,ab⟩:=h.lt;obtain⟨es,m,n⟩:=h.es;have v:=h.sz;have hs:=h.bel.size;have u:RowIs W' rb 197 L:=t.fr b h.ot;have ac:=h.lo;have l:¬Own c rb:=fun e=>(j rb e).elim h.ot (fun e=>by omega)
 have r:∀k,Own va k->¬Own c k:=fun k a e=>(j k e).elim (h.oa k a).2.2 (fun e=>by have:=p k a;omega)
 have d:Fr (fun k=>k=rb) W' (W'.setCell ⟨rb,1548,none⟩ c):=(Fr.refl _ _).set _ _ rfl;have o:Sl W' 350 2 va es.length (Du es):=n.fr b (fun g f e=>(h.oa g f).2.2 e);refine⟨⟨_,u.set 1548 c,by rw[List.getElem?_set_ne (by omega)];exact w,by rw[List.getElem?_set_ne (by omega)];exact x,by rw[List.getElem?_set_ne (by omega)];exact y,by rw[List.getElem?_set_ne (by omega)];exact z,fun k a=>by rw[List.getElem?_set_ne (by omega)];exact A k a,fun k a=>by rw[List.getElem?_set_ne (by omega)];exact B k a,by rw[List.getElem?_set_self (List.getElem?_eq_some_iff.1 C).1]⟩,⟨es,m,o.fr d (fun g f e=>(h.oa g f).2.1 e)⟩,⟨i.1.setCell _ _ l,i.2⟩,fun k a=>⟨(h.oa k a).1,(h.oa k a).2.1,r k a⟩,l,?_,h.lo,v⟩;exact h.bel.trans ⟨d.os.trans b.os,d.tape.trans b.tape,d.output.trans b.output,Nat.le_trans b.size d.size,fun k a=>(d.block k (by have:=b.size;omega) (fun e=>by omega)).trans (b.block k (by omega) (fun e=>by have:=h.tab.2 k e;omega))⟩
theorem RdS.put_call(h:RdS w0 n0 rb db tp tx q va vt W){r p:Nat}(z:∀y∈q.ins,y.1≠r)(ac:q.ins.length<=9999):
  Calls Tryz.prog 243 #[.pointer (some ⟨rb,1,none⟩),.int .u64 (r:Nat),.int .i64 (p:Nat)] W fun e w'=>e = .returned (.tuple #[])/\∃c,RdS w0 n0 rb db tp tx (q.put r p) c vt w'/\Fr (fun k=>k=rb\/Own va k) W w'/\Dk W va c:=by
 obtain⟨L,j,D,n,E,F,G,H,I⟩:=h.row;obtain⟨es,f,u⟩:=h.es;obtain⟨aa,ab,v⟩:=h.lt;have C:=h.sz;have hs:=h.bel.size;have ad:=h.lo;refine(ZiG W rb 1 va es (r:Nat) (p:Nat) ((j.cell 1).trans n) (j.frozen 1) (fun e=>(h.oa rb e).2.1 rfl) u (by rw[f.2.1];omega) f.1 (fun x B e=>?_)).mono ?_
 ·obtain⟨y,i,rfl⟩:=(f.2.2 x).1 B;exact z y i (by simp only at e;omega)
 ·rintro e w' ⟨rfl,c,t,m1,J,K,M,N,o,d⟩;have b:Fr (fun k=>k=rb\/Own va k) W w':=⟨d.os,d.tape,d.output,d.size,fun k a l=>d.block k a (fun e=>l (.inl e)) (fun e=>l (.inr e))⟩;have A:RowIs w' rb 197 (L.set 1 c):=by unfold RowIs;rw[d.head];exact j.set 1 c
  have w:∀k,Own c k->n0<=k/\k≠rb/\¬Own vt k:=fun k a=>(o k a).elim (h.oa k) (fun e=>⟨by omega,by omega,fun s=>by have:=v k s;omega⟩)
  refine⟨rfl,c,⟨⟨_,A,by rw[List.getElem?_set_ne (by omega)];exact D,by rw[List.getElem?_set_self (List.getElem?_eq_some_iff.1 n).1],by rw[List.getElem?_set_ne (by omega)];exact E,by rw[List.getElem?_set_ne (by omega)];exact F,fun k a=>by rw[List.getElem?_set_ne (by omega)];exact G k a,fun k a=>by rw[List.getElem?_set_ne (by omega)];exact H k a,by rw[List.getElem?_set_ne (by omega)];exact I⟩,⟨t,⟨K,by rw[M,f.2.1];show _=(q.ins++[(r,p)]).length;rw[List.length_append];rfl,fun x=>?_⟩,J⟩,⟨h.tab.1.fr b (fun g m e=>e.elim (fun e=>h.ot (by rw[<-e];exact m)) (fun e=>(h.oa g e).2.2 m)),h.tab.2⟩,w,h.ot,h.bel.trans ⟨b.os,b.tape,b.output,b.size,fun k a=>b.block k (by omega) (fun e=>e.elim (fun e=>by omega) (fun e=>by have:=(h.oa k e).1;omega))⟩,h.lo,C⟩,b,o⟩;rw[N x,f.2.2 x];show _↔∃y∈q.ins++[(r,p)],_;constructor
  ·rintro(rfl|⟨y,i,rfl⟩)
   ·exact⟨(r,p),by simp,rfl⟩
   ·exact⟨y,List.mem_append_left _ i,rfl⟩
  ·rintro⟨y,i,rfl⟩;rcases List.mem_append.1 i with e|e
   ·exact .inr ⟨y,e,rfl⟩
   ·rw[List.mem_singleton.1 e];exact .inl rfl
theorem RdS.cells(h:RdS w0 n0 rb db tp tx q va vt W):W.cell? ⟨rb,0,none⟩=some (.pointer (some ⟨db,0,none⟩))/\W.cell? ⟨rb,1,none⟩=some va/\W.cell? ⟨rb,1548,none⟩=some vt/\W.frozen? ⟨rb,1548,none⟩=false/\(∀b,b<8->W.cell? ⟨rb,1540+b,none⟩=some (.int .i64 (q.tn b:Nat))/\W.frozen? ⟨rb,1540+b,none⟩=false):=by
 obtain⟨L,a,d,e,l2,l3,l4,f,g⟩:=h.row;exact⟨(a.cell 0).trans d,(a.cell 1).trans e,(a.cell 1548).trans g,a.frozen 1548,fun b c=>⟨(a.cell _).trans (f b c),a.frozen _⟩⟩
end
def Ko(w0:World)(n0 rb db tp tx:Nat)(W:World)(va vt:Value)(b:Nat)(q':RdQ)(e:Ending)(w':World):Prop:=
 e = .returned (.tuple #[.int .i64 (b:Nat),.bool true])/\∃va' vt',RdS w0 n0 rb db tp tx q' va' vt' w'/\Fr (fun k=>k=rb\/Own va k\/Own vt k) W w'/\Dk W va va'/\Dk W vt vt'
def DR(s:By):By:=s.extract 1 64
theorem Zox(w O:World)(B d H tp tx:Nat)(q:RdQ)(J vt:Value)(h:RdS O B d H tp tx q J vt w){vf vw ve:Value}{a:OA}{l c:Nat}{D:LY}(hD:DS O H vf (.slice a l c) vw ve D)(aw:H<B/\∀k,Own (.slice a l c) k->k<B)
  (p x:Nat) (a0:16<=p) (a1:p<1536) (hk:q.tk p=false) (s:By) (hs:D[p]?=some s) (aA:s.data[0]?=some 3) (ht:q.t.size<=1000000) (ax:∀y∈q.ins,y.1≠Dd 3 0 (q.tn 0)) (au:q.ins.length<=9999) (aC:q.tn 0<60000):
  Calls Tryz.prog 202 #[.pointer (some ⟨d,0,none⟩),.agg #[.int .i64 (p:Nat),.int .u64 (x:Nat)]] w (Ko O B d H tp tx w J vt 0 ((((q.take p).say (DR s)).put (Dd 3 0 (q.tn 0)) p).turn 0)):=by
 have ah:s.size=64:=hD.2.1.2 s (List.mem_of_getElem? hs);obtain⟨C,F,E,rfl⟩:=h.tab.1.shape;obtain⟨aY,aq,ar⟩:=h.lt;obtain⟨W1,e1,x1,k1,s1,b1⟩:=De w [.int .i64 (p:Nat),.int .u64 (x:Nat)] 175;have h1:=h.below b1;have bd:B<=w.heap.size:=Nat.le_trans h.sz h.bel.size;obtain⟨m,I⟩:∃T,T=q.tn 0:=⟨_,rfl⟩;have ba:m<60000:=by rw[I];exact aC
 obtain⟨VB,af⟩:∃V,V=DA s:=⟨_,rfl⟩;have ac:Hid (Calls Tryz.prog 241 #[.pointer (some ⟨d,0,none⟩),.agg #[.int .i64 (p:Nat),.int .u64 (x:Nat)]] W1 fun e X=>e = .returned (.tuple #[VB,.bool true])/\∃Y Z,X.alloc (.cells (Dc (Dm 64)).toArray 188)=Y/\RowIs Y X.heap.size 188 (Dc (Dm 64))/\Y.setRow X.heap.size (Dc s).toArray=Z/\Z.cell? ⟨X.heap.size,0,none⟩=some (.int .u8 3)/\Z.cell? ⟨d,1548,none⟩=some (.slice C F E)/\
   ∃o z t n,(Builtin.append_ #[59,59] 59 #[.slice C F E,.slice (some ⟨X.heap.size,1,none⟩) 63 63]).run Tryz.prog Z.drew = .ok (.slice o z t) n/\n.cell? ⟨d,1548,none⟩=some (.slice C F E)/\n.frozen? ⟨d,1548,none⟩=false/\∃M,n.setCell ⟨d,1548,none⟩ (.slice o z t)=M/\M.cell? ⟨d,1540,none⟩=some (.int .i64 (m:Nat))/\M.cell? ⟨w.heap.size,0,none⟩=some (.int .i64 (p:Nat))/\
    Hid (Calls Tryz.prog 243 #[.pointer (some ⟨d,1,none⟩),.int .u64 ((3*4294967296+0*65536+m:Nat):Int),.int .i64 (p:Nat)] M.drew fun e A=>e = .returned (.tuple #[])/\A.cell? ⟨d,1540,none⟩=some (.int .i64 (m:Nat))/\A.cell? ⟨w.heap.size,0,none⟩=some (.int .i64 (p:Nat))/\A.frozen? ⟨d,1540,none⟩=false/\
     Hid (Ko O B d H tp tx w J (.slice C F E) 0 ((((q.take p).say (DR s)).put (Dd 3 0 (q.tn 0)) p).turn 0) (.returned (.tuple #[.int .i64 0,.bool true])) (A.setCell ⟨d,1540,none⟩ (.int .i64 ((m:Int)+1))).drew))):=by
  refine(h1.take_call hD aw (x:=x) a0 a1 hk hs).mono ?_;rintro e X ⟨rfl,hX,ag⟩;have aW:Fr (fun k=>k=d) w X:=(Fr.of_below b1).then ag (fun _ _ e=>e);have bb:=ag.size;obtain⟨Y,eY,xY,kY,sY,bY⟩:=De X (Dc (Dm 64)) 188;have xZ:RowIs (Y.setRow X.heap.size (Dc s).toArray) X.heap.size 188 (Dc s):=setRow_heap Y _ _ _ 188 _ xY;have G:Below X.heap.size X (Y.setRow X.heap.size (Dc s).toArray):=bY.trans ⟨rfl,rfl,rfl,by simp,fun j hj=>setRow_other Y _ j _ (by omega)⟩;obtain⟨Z,U⟩:∃Z,Y.setRow X.heap.size (Dc s).toArray=Z:=⟨_,rfl⟩;rw[U]at xZ G;have aS:=hX.below G;have P:Below X.heap.size X Z.drew:=⟨G.os,G.tape,G.output,G.size,G.block⟩;have ab:=hX.below P;have a7:RowIs Z.drew X.heap.size 188 (Dc s):=xZ;have aU:(DR s).size=63:=by unfold DR;rw[ByteArray.size_extract,ah];rfl
  obtain⟨o,z,t,n,r1,r2,W,r4⟩:=JY Z.drew B (by have:=P.size;omega) (.slice C F E) _ ab.tab ⟨X.heap.size,1,none⟩ 63 63 (DR s) aU (fun j u N=>by
   rw[Addr.add_lit,a7.cell];unfold DR at N;rw[Jn,List.getElem?_take]at N
   split at N
   ·rw[List.getElem?_drop]at N;exact N
   ·cases N) (by show q.t.size+63<=_;omega)
  have aB:=ab.say r2 W r4;have be:=W.size;have bc:=P.size;have b0:RowIs X w.heap.size 175 _:=(ag.block _ x1.lt (show ¬w.heap.size=d by omega)).trans x1;have b5:RowIs n w.heap.size 175 _:=(W.block _ (by omega) (fun e=>by have:=ar _ e;omega)).trans ((P.block _ b0.lt).trans b0);have b6:RowIs (n.setCell ⟨d,1548,none⟩ (.slice o z t)) w.heap.size 175 _:=(Below.heap_setCell _ _ _ _ (show w.heap.size≠d by omega)).trans b5;obtain⟨L,a3,_,_,_,_,_,_,l6⟩:=ab.row;have az:RowIs n d 197 L:=a3.fr W ab.ot;have aV:=aB.cells;refine⟨by rw[af],Y,Z,eY,xY,U,?_,aS.cells.2.2.1,o,z,t,n,r1,(az.cell 1548).trans l6,az.frozen 1548,_,rfl,?_,(b6.cell 0).trans rfl,?_⟩
  ·rw[xZ.cell];have h0:s.data.toList[0]?=some 3:=by rw[Array.getElem?_toList];exact aA
   show(Dc s)[0]? = _;unfold Dc;rw[List.getElem?_map,h0];rfl
  ·rw[I];exact(aV.2.2.2.2 0 (by omega)).1
  ·have a4:RdS O B d H tp tx ((q.take p).say (DR s)) J (.slice o z t) (n.setCell ⟨d,1548,none⟩ (.slice o z t)).drew:=aB.below ⟨rfl,rfl,rfl,Nat.le_refl _,fun _ _=>rfl⟩;have a2:=a4.put_call (r:=Dd 3 0 m) (p:=p) (by rw[I];exact ax) au;refine a2.mono ?_;rintro e A ⟨rfl,aE,al,ao,aZ⟩;have b7:RowIs A w.heap.size 175 _:=(ao.block _ b6.lt (fun e=>e.elim (fun e=>by omega) (fun e=>by have:=aq _ e;omega))).trans b6;have c3:=al.cells.2.2.2.2 0 (by omega);have ap:=al.turn (b:=0) (by omega);have a6:(((q.take p).say (DR s)).put (Dd 3 0 m) p).tn 0=m:=I.symm;rw[a6]at ap;have aM:Fr (fun k=>k=d) A (A.setCell ⟨d,1540,none⟩ (.int .i64 ((m+1:Nat):Int))):=(Fr.refl _ _).set _ _ rfl;have aX:RdS O B d H tp tx (((((q.take p).say (DR s)).put (Dd 3 0 m) p)).turn 0) aE (.slice o z t) (A.setCell ⟨d,1540,none⟩ (.int .i64 ((m+1:Nat):Int))).drew:=ap.below ⟨rfl,rfl,rfl,Nat.le_refl _,fun _ _=>rfl⟩;rw[show((m:Int)+1)=((m+1:Nat):Int) by omega];refine⟨rfl,by rw[I];exact c3.1,(b7.cell 0).trans rfl,c3.2,rfl,aE,.slice o z t,by rw[<-I];exact aX,?_,fun g hg=>(aZ g hg).imp id (fun e=>?_),fun g hg=>(r4 g hg).imp id (fun e=>by omega)⟩
   ·have f1:Fr (fun k=>k=d\/Own J k\/Own (.slice C F E) k) w Z.drew:=(aW.mono (Y:=fun k=>k=d\/Own J k\/Own (.slice C F E) k) (fun k _ e => .inl e)).then (Fr.of_below (X:=fun _=>False) P) (fun _ _ e=>e.elim);have f2:=f1.then W (fun k _ e => .inr (.inr e));have f3:Fr (fun k=>k=d\/Own J k\/Own (.slice C F E) k) w (n.setCell ⟨d,1548,none⟩ (.slice o z t)).drew:=by
     have:=Fr.set f2 ⟨d,1548,none⟩ (.slice o z t) (.inl rfl);exact⟨this.os,this.tape,this.output,this.size,this.block⟩
    have f4:=f3.then ao (fun k _ e=>e.elim .inl (fun e => .inr (.inl e)));have R:=f4.then aM (fun k _ e => .inl e);exact⟨R.os,R.tape,R.output,R.size,R.block⟩
   ·have:(n.setCell ⟨d,1548,none⟩ (.slice o z t)).drew.heap.size=n.heap.size:=by simp[World.setCell,World.drew]
    omega
 have aI:Hid (∀V,Calls Tryz.prog 244 #[.int .u8 3,.int .i64 0,.int .i64 (m:Nat)] V fun e w'=>e = .returned (.int .u64 ((3*4294967296+0*65536+m:Nat):Int))/\w'=V):=fun V=>Up V 3 0 m (by omega) (by omega) (by omega)
 have an:(Dc s).length=64:=by rw[Dg,ah]
 have ai:=Db an;have aJ:=Db af;have aF:=Db e1;have d1:=(x1.cell 0).trans (show _=some (Value.int .i64 (p:Nat)) from rfl);have d2:=(x1.cell 1).trans (show _=some (Value.int .u64 (x:Nat)) from rfl);obtain⟨QF,ak⟩:∃Q,Q=((((q.take p).say (DR s)).put (Dd 3 0 (q.tn 0)) p).turn 0):=⟨_,rfl⟩;rw[<-ak]at ac ⊢;clear I e1 x1 k1 s1 b1 h1 h hD aw hk hs aA ht ax au aC ah af an ak aY aq ar;go_enter Tryz.func202,Tryz.ntmps202;go_upto_region 1 with fail;rw[show w.alloc (.cells #[.int .i64 (p:Nat),.int .u64 (x:Nat)] 175)=W1 from Da aF];go_upto_region 2 with(first|(go_at_call 241;refine(Da ac).mono ?_;rintro e X ⟨rfl,Y,Z,hY,xY,U,z0,z1,o,z,t,n,ay,z5,z6,M,am,ad,ae,aj⟩;have HY:=Db hY;have aK:=Db xY;have HZ:=Db U;have aL:=Db am;have aH:=Db ay;clear hY xY U am ay d1 d2 ac)|(refine JF rfl 188 rfl Kq ?_;rw[show X.alloc (.cells (Dc (Dm 64)).toArray 188)=Y from Da HY])|(refine wpList_store_row rfl 188 _ _ rfl X.heap.size (Dc s).toArray rfl (Da aJ) 188 _ (Da aK) (by rw[D2];simp[Da ai]) (by simp[Da ai,Dg,Jl]) (KG _) ?_;rw[Da HZ]));go_upto_region 8 with fail;refine wp_region_held_drew (S:=fun V=>True) (by kernel_rfl) trivial (fun aa=>?_);refine tk 0 ?_;try simp only[pE];refine tk 1 ?_;try simp only[pE];refine tk 2 ?_;try simp only[pE];refine tk 3 ?_;try simp only[pE];refine tk 5 ?_;try simp only[pE];refine rk 4 (fun K f=>?_);go_simp;refine f.out _ _ trivial (fun aP=>?_);clear f K
 (try simp only[pE])
 refine rk 6 (fun K f=>?_);refine JM rfl _ _ 59 59 rfl _ _ rfl rfl (Da aH) ?_;refine f.out _ _ trivial (fun aQ=>?_);clear f K
 (try simp only[pE])
 refine tk 7 ?_;try simp only[pE];refine tk 8 ?_;try simp only[pE];refine rk 9 (fun K f=>?_);go_simp;rw[show n.setCell ⟨d,1548,none⟩ (.slice o z t)=M from Da aL];refine f.out _ _ trivial (fun aR=>?_);clear f K
 (try simp only[pE])
 refine wpAnyH_done (by kernel_rfl) ?_ _;clear aa aP aQ aR z0 z1 z5 z6;go_upto_region 13 with fail;refine wp_region_held_drew (S:=fun V=>V.cell? ⟨d,1540,none⟩=some (.int .i64 (m:Nat))/\V.cell? ⟨w.heap.size,0,none⟩=some (.int .i64 (p:Nat))) (by kernel_rfl) ⟨ad,ae⟩ (fun aa=>?_);refine tk 0 ?_;try simp only[pE];refine tk 1 ?_;try simp only[pE];refine tk 2 ?_;try simp only[pE];refine tk 3 ?_;try simp only[pE];refine tk 4 ?_;try simp only[pE];refine tk 5 ?_;try simp only[pE];refine tk 6 ?_;try simp only[pE];refine tk 7 ?_;try simp only[pE];refine tk 8 ?_;try simp only[pE];refine tk 9 ?_;try simp only[pE];refine tk 10 ?_;try simp only[pE];refine tk 11 ?_;try simp only[pE];refine tk 13 ?_;try simp only[pE];refine tk 14 ?_;try simp only[pE];refine rk 12 (fun K f=>?_);go_simp;go_at_call 244;refine(Da aI _).mono ?_;rintro e w' ⟨rfl,aD⟩;rw[aD];clear aD;go_wp2_with fail;refine f.out _ _ ⟨ad,ae⟩ (fun aN=>?_);clear f K
 (try simp only[pE])
 refine rk 15 (fun K f=>?_);go_simp;go_at_call 243;refine(Da aj).mono ?_;rintro e A ⟨rfl,y1,y2,y3,aG⟩;go_wp2_with fail;refine f.out _ _ ⟨y1,y2⟩ (fun aO=>?_);clear f K
 (try simp only[pE])
 refine wpAnyH_done (by kernel_rfl) ?_ _;clear aa aN aO ad ae aj;go_upto_region 14 with fail;refine wp_region_held_drew (S:=fun V=>True) (by kernel_rfl) trivial (fun aa=>?_);refine tk 0 ?_;try simp only[pE];refine tk 1 ?_;try simp only[pE];refine tk 2 ?_;try simp only[pE];refine tk 3 ?_;try simp only[pE];refine tk 4 ?_;try simp only[pE];refine tk 7 ?_;try simp only[pE];refine tk 8 ?_;try simp only[pE];refine rk 5 (fun K f=>?_);go_simp;refine f.out _ _ trivial (fun a9=>?_);clear f K
 (try simp only[pE])
 refine wpAnyH_take (i:=6) (v := .int .i64 ((m+1:Nat):Int)) rfl (by kernel_rfl) (by kernel_rfl) (by kernel_rfl) (fun _ _ _ h=>h) (Or.inl ⟨by rfl,by intro w aT;(try dsimp only at aT);go_simp;rw[IntKind.wrap_i64];omega⟩) (by assumption) ?_
 (try simp only[pE])
 refine tk 9 ?_;try simp only[pE];refine rk 10 (fun K f=>?_);go_simp;refine f.out _ _ trivial (fun a8=>?_);clear f K
 (try simp only[pE])
 refine wpAnyH_done (by kernel_rfl) ?_ _;go_wp2;exact bodyPost_ret (v := .tuple #[.int .i64 0,.bool true]) (by simp[results,Tryz.results202,go_sem]) rfl (Da aG)
theorem Zoy(w C:World)(u d z E F:Nat)(q:RdQ)(A B:Value)(h:RdS C u d z E F q A B w){vf vw ve:Value}{a:OA}{l c:Nat}{D:LY}(hD:DS C z vf (.slice a l c) vw ve D)(av:z<u/\∀k,Own (.slice a l c) k->k<u)
  (p x:Nat) (aS:16<=p) (aT:p<1536) (hk:q.tk p=false) (s:By) (hs:D[p]?=some s) (ax:s.data[0]?=some 2) (b:Nat) (hb:b<8) (m:RdQ)
  (ao:∀Z Bb,RdS C u d z E F (q.take p) A B Z->RowIs Z Bb 188 (Dc s)->w.heap.size<Bb->Calls Tryz.prog 242 #[.pointer (some ⟨d,0,none⟩),.agg #[.slice (some ⟨Bb,1,none⟩) 63 63]] Z (Ko C u d z E F Z A B b m))
  (aw:∀y∈m.ins,y.1≠Dd 2 b (m.tn b)) (au:m.ins.length<=9999) (aA:m.tn b<60000):
  Calls Tryz.prog 202 #[.pointer (some ⟨d,0,none⟩),.agg #[.int .i64 (p:Nat),.int .u64 (x:Nat)]] w (Ko C u d z E F w A B b ((m.put (Dd 2 b (m.tn b)) p).turn b)):=by
 have ay:s.size=64:=hD.2.1.2 s (List.mem_of_getElem? hs);obtain⟨aQ,ae,ar⟩:=h.lt;obtain⟨W1,e1,M,k1,s1,P⟩:=De w [.int .i64 (p:Nat),.int .u64 (x:Nat)] 175;have h1:=h.below P;have a6:u<=w.heap.size:=Nat.le_trans h.sz h.bel.size;obtain⟨f,G⟩:∃T,T=m.tn b:=⟨_,rfl⟩;have aZ:f<60000:=by rw[G];exact aA
 obtain⟨VB,aa⟩:∃V,V=DA s:=⟨_,rfl⟩;have O:Hid (Calls Tryz.prog 241 #[.pointer (some ⟨d,0,none⟩),.agg #[.int .i64 (p:Nat),.int .u64 (x:Nat)]] W1 fun e X=>e = .returned (.tuple #[VB,.bool true])/\∃Y Z,X.alloc (.cells (Dc (Dm 64)).toArray 188)=Y/\RowIs Y X.heap.size 188 (Dc (Dm 64))/\Y.setRow X.heap.size (Dc s).toArray=Z/\Z.cell? ⟨X.heap.size,0,none⟩=some (.int .u8 2)/\
   Hid (Calls Tryz.prog 242 #[.pointer (some ⟨d,0,none⟩),.agg #[.slice (some ⟨X.heap.size,1,none⟩) 63 63]] Z fun e t=>e = .returned (.tuple #[.int .i64 (b:Nat),.bool true])/\t.cell? ⟨d,1540+b,none⟩=some (.int .i64 (f:Nat))/\t.cell? ⟨w.heap.size,0,none⟩=some (.int .i64 (p:Nat))/\
    Hid (Calls Tryz.prog 243 #[.pointer (some ⟨d,1,none⟩),.int .u64 ((2*4294967296+b*65536+f:Nat):Int),.int .i64 (p:Nat)] t.drew fun e n=>e = .returned (.tuple #[])/\n.cell? ⟨d,1540+b,none⟩=some (.int .i64 (f:Nat))/\n.cell? ⟨w.heap.size,0,none⟩=some (.int .i64 (p:Nat))/\n.frozen? ⟨d,1540+b,none⟩=false/\
     Hid (Ko C u d z E F w A B b ((m.put (Dd 2 b (m.tn b)) p).turn b) (.returned (.tuple #[.int .i64 (b:Nat),.bool true])) (n.setCell ⟨d,1540+b,none⟩ (.int .i64 ((f:Int)+1))).drew)))):=by
  refine(h1.take_call hD av (x:=x) aS aT hk hs).mono ?_;rintro e X ⟨rfl,hX,ad⟩;have aO:Fr (fun k=>k=d) w X:=(Fr.of_below P).then ad (fun _ _ e=>e);have a0:=ad.size;obtain⟨Y,eY,N,kY,sY,bY⟩:=De X (Dc (Dm 64)) 188;have xZ:RowIs (Y.setRow X.heap.size (Dc s).toArray) X.heap.size 188 (Dc s):=setRow_heap Y _ _ _ 188 _ N;have H:Below X.heap.size X (Y.setRow X.heap.size (Dc s).toArray):=bY.trans ⟨rfl,rfl,rfl,by simp,fun j hj=>setRow_other Y _ j _ (by omega)⟩;obtain⟨Z,L⟩:∃Z,Y.setRow X.heap.size (Dc s).toArray=Z:=⟨_,rfl⟩;rw[L]at xZ H;have aL:=hX.below H;have a3:=H.size;have b0:RowIs X w.heap.size 175 _:=(ad.block _ M.lt (show ¬w.heap.size=d by omega)).trans M;have aj:RowIs Z w.heap.size 175 _:=(H.block _ b0.lt).trans b0;refine⟨by rw[aa],Y,Z,eY,N,L,?_,?_⟩
  ·rw[xZ.cell];have h0:s.data.toList[0]?=some 2:=by rw[Array.getElem?_toList];exact ax
   show(Dc s)[0]? = _;unfold Dc;rw[List.getElem?_map,h0];rfl
  ·refine(ao Z X.heap.size aL xZ (by omega)).mono ?_;rintro e t ⟨rfl,aW,af,am,ab,n1,n2⟩;have R:RowIs t w.heap.size 175 _:=(ab.block _ aj.lt (fun e=>by
    rcases e with e|e|e
    ·omega
    ·have:=ae _ e;omega
    ·have:=ar _ e;omega)).trans aj
   have c2:=am.cells.2.2.2.2 b hb;have a1:=ab.size;refine⟨rfl,by rw[G];exact c2.1,(R.cell 0).trans rfl,?_⟩;have aV:RdS C u d z E F m aW af t.drew:=am.below ⟨rfl,rfl,rfl,Nat.le_refl _,fun _ _=>rfl⟩;have aU:=aV.put_call (r:=Dd 2 b f) (p:=p) (by rw[G];exact aw) au;refine aU.mono ?_;rintro e n ⟨rfl,aC,an,ac,aR⟩;have a2:=ac.size;have b7:RowIs n w.heap.size 175 _:=(ac.block _ R.lt (fun e=>e.elim (fun e=>by omega) (fun e=>(n1 _ e).elim (fun e=>by have:=ae _ e;omega) (fun e=>by omega)))).trans R;have c3:=an.cells.2.2.2.2 b hb;have aq:=an.turn (b:=b) hb;have az:(m.put (Dd 2 b f) p).tn b=f:=G.symm;rw[az]at aq;have aI:Fr (fun k=>k=d) n (n.setCell ⟨d,1540+b,none⟩ (.int .i64 ((f+1:Nat):Int))):=(Fr.refl _ _).set _ _ rfl;have aP:RdS C u d z E F ((m.put (Dd 2 b f) p).turn b) aC af (n.setCell ⟨d,1540+b,none⟩ (.int .i64 ((f+1:Nat):Int))).drew:=aq.below ⟨rfl,rfl,rfl,Nat.le_refl _,fun _ _=>rfl⟩;rw[show((f:Int)+1)=((f+1:Nat):Int) by omega];have a7:t.drew.heap.size=t.heap.size:=rfl;have aN:n.cell? ⟨d,1540+b,none⟩=some (.int .i64 (f:Nat)):=c3.1.trans (by rw[show(m.put (Dd 2 b f) p).tn b=f from az]);refine⟨rfl,aN,(b7.cell 0).trans rfl,c3.2,rfl,aC,af,by rw[<-G];exact aP,?_,fun g hg=>(aR g hg).elim (fun e=>(n1 g e).imp id (fun e=>by omega)) (fun e => .inr (by omega)),fun g hg=>(n2 g hg).imp id (fun e=>by omega)⟩;have f1:Fr (fun k=>k=d\/Own A k\/Own B k) w Z:=(aO.mono (Y:=fun k=>k=d\/Own A k\/Own B k) (fun k _ e => .inl e)).then (Fr.of_below (X:=fun _=>False) H) (fun _ _ e=>e.elim);have I:=f1.then ab (fun k _ e=>e);have f3:Fr (fun k=>k=d\/Own A k\/Own B k) w t.drew:=⟨I.os,I.tape,I.output,I.size,I.block⟩;have f4:=f3.then ac (fun k hk e=>e.elim .inl (fun e=>(n1 k e).elim (fun e => .inr (.inl e)) (fun e=>by omega)));have J:=f4.then aI (fun k _ e => .inl e);exact⟨J.os,J.tape,J.output,J.size,J.block⟩
 have aF:Hid (∀V,Calls Tryz.prog 244 #[.int .u8 2,.int .i64 (b:Nat),.int .i64 (f:Nat)] V fun e w'=>e = .returned (.int .u64 ((2*4294967296+b*65536+f:Nat):Int))/\w'=V):=fun V=>Up V 2 b f (by omega) (by omega) (by omega)
 have ap:(Dc s).length=64:=by rw[Dg,ay]
 have ah:=Db ap;have aG:=Db aa;have aD:=Db e1;have d1:=(M.cell 0).trans (show _=some (Value.int .i64 (p:Nat)) from rfl);have d2:=(M.cell 1).trans (show _=some (Value.int .u64 (x:Nat)) from rfl);obtain⟨QF,al⟩:∃Q,Q=((m.put (Dd 2 b (m.tn b)) p).turn b):=⟨_,rfl⟩;rw[<-al]at O ⊢;have a4:¬(8:Int)<=(b:Int):=by omega
 have a5:(b:Int)<8:=by omega
 clear G e1 M k1 s1 P h1 h hD av hk hs ax aw au aA ay aa ap al aQ ae ar ao;go_enter Tryz.func202,Tryz.ntmps202;go_upto_region 1 with fail;rw[show w.alloc (.cells #[.int .i64 (p:Nat),.int .u64 (x:Nat)] 175)=W1 from Da aD];go_upto_region 2 with(first|(go_at_call 241;refine(Da O).mono ?_;rintro e X ⟨rfl,Y,Z,hY,N,L,z0,ag⟩;have HY:=Db hY;have aH:=Db N;have HZ:=Db L;clear hY N L d1 d2 O)|(refine JF rfl 188 rfl Kq ?_;rw[show X.alloc (.cells (Dc (Dm 64)).toArray 188)=Y from Da HY])|(refine wpList_store_row rfl 188 _ _ rfl X.heap.size (Dc s).toArray rfl (Da aG) 188 _ (Da aH) (by rw[D2];simp[Da ah]) (by simp[Da ah,Dg,Jl]) (KG _) ?_;rw[Da HZ]));go_upto_region 11 with(go_at_call 242;refine(Da ag).mono ?_;rintro e t ⟨rfl,U,W,ai⟩);clear ag z0;go_upto_region 13 with fail;refine wp_region_held_drew (S:=fun V=>V.cell? ⟨d,1540+b,none⟩=some (.int .i64 (f:Nat))/\V.cell? ⟨w.heap.size,0,none⟩=some (.int .i64 (p:Nat))) (by kernel_rfl) ⟨U,W⟩ (fun ak=>?_);refine tk 0 ?_;try simp only[pE];refine tk 1 ?_;try simp only[pE];refine tk 2 ?_;try simp only[pE];refine tk 3 ?_;try simp only[pE];refine tk 4 ?_;try simp only[pE];refine tk 5 ?_;try simp only[pE];refine tk 6 ?_;try simp only[pE];refine tk 7 ?_;try simp only[pE];refine tk 8 ?_;try simp only[pE];refine tk 9 ?_;try simp only[pE];refine tk 10 ?_;try simp only[pE];refine tk 11 ?_;try simp only[pE];refine tk 13 ?_;try simp only[pE];refine tk 14 ?_;try simp only[pE];refine rk 12 (fun K o=>?_);go_simp;go_at_call 244;refine(Da aF _).mono ?_;rintro e w' ⟨rfl,aB⟩;rw[aB];clear aB;go_wp2_with fail;refine o.out _ _ ⟨U,W⟩ (fun aJ=>?_);clear o K
 (try simp only[pE])
 refine rk 15 (fun K o=>?_);go_simp;go_at_call 243;refine(Da ai).mono ?_;rintro e n ⟨rfl,y1,y2,y3,aE⟩;go_wp2_with fail;refine o.out _ _ ⟨y1,y2⟩ (fun aK=>?_);clear o K
 (try simp only[pE])
 refine wpAnyH_done (by kernel_rfl) ?_ _;clear ak aJ aK U W ai;go_upto_region 14 with fail;refine wp_region_held_drew (S:=fun V=>True) (by kernel_rfl) trivial (fun ak=>?_);refine tk 0 ?_;try simp only[pE];refine tk 1 ?_;try simp only[pE];refine tk 2 ?_;try simp only[pE];refine tk 3 ?_;try simp only[pE];refine tk 4 ?_;try simp only[pE];refine tk 7 ?_;try simp only[pE];refine tk 8 ?_;try simp only[pE];refine rk 5 (fun K o=>?_);go_simp;refine o.out _ _ trivial (fun aY=>?_);clear o K
 (try simp only[pE])
 refine wpAnyH_take (i:=6) (v := .int .i64 ((f+1:Nat):Int)) rfl (by kernel_rfl) (by kernel_rfl) (by kernel_rfl) (fun _ _ _ h=>h) (Or.inl ⟨by rfl,by intro w aM;(try dsimp only at aM);go_simp;rw[IntKind.wrap_i64];omega⟩) (by assumption) ?_
 (try simp only[pE])
 refine tk 9 ?_;try simp only[pE];refine rk 10 (fun K o=>?_);go_simp;refine o.out _ _ trivial (fun aX=>?_);clear o K
 (try simp only[pE])
 refine wpAnyH_done (by kernel_rfl) ?_ _;go_wp2;exact bodyPost_ret (v := .tuple #[.int .i64 (b:Nat),.bool true]) (by simp[results,Tryz.results202,go_sem]) rfl (Da aE)
def DC(T:By):NB
 | 0=>T
 | j+1=>(DC T j).extract 10 (DC T j).size
theorem Ug(T:By):∀j,(DC T j).size=T.size-10*j
 | 0=>by simp[DC]
 | j+1=>by
  unfold DC;rw[ByteArray.size_extract,Ug T j];omega
theorem RdS.ne{r:World}{n d i o p:Nat}{q:RdQ}{f g:Value}{W:World}(h:RdS r n d i o p q f g W){B:Nat}{t:TypeId}{L:LVa}(b:RowIs W B t L)(k:t≠197)(l:t≠350)(m:t≠5):B≠d/\¬Own f B/\¬Own g B:=by
 obtain⟨Lr,c,_⟩:=h.row;obtain⟨es,_,j⟩:=h.es;refine⟨fun e=>?_,fun e=>?_,fun e=>?_⟩
 ·subst e;unfold RowIs at b c;rw[b]at c;cases c;exact k rfl
 ·obtain⟨R,a⟩:=j.type e;unfold RowIs at b a;rw[b]at a;cases a;exact l rfl
 ·obtain⟨R,a⟩:=h.tab.1.type e;unfold RowIs at b a;rw[b]at a;cases a;exact m rfl
structure GaI(w w0:World)(n0 rb db tp tx:Nat)(va0 vt0:Value)(Bb:Nat)(s:By)(q:RdQ)(j:Nat)(va vt:Value)(wr:World):Prop where
 rd:RdS w0 n0 rb db tp tx q va vt wr
 bf:∃a2 c2,RowIs wr w.heap.size 287 [.slice a2 (63-10*j) c2]/\RdB wr a2 (63-10*j) c2 (DC (DR s) j)/\63-10*j<=c2/\∀x,a2=some x->x.block=Bb
 bb:RowIs wr Bb 188 (Dc s)
 fr:Fr (fun k=>k=rb\/Own va0 k\/Own vt0 k) w wr
 na:Dk w va0 va
 nt:Dk w vt0 vt
theorem RdB.row{W b:World}{a:OA}{l c:Nat}{s:By}(h:RdB W a l c s){B:Nat}(f:∀x,a=some x->x.block=B)(e:b.heap[B]?=W.heap[B]?):RdB b a l c s:=
 ⟨h.1,h.2.1,fun j v i=>by
  obtain⟨x,d,g⟩:=h.2.2 j v i;refine⟨x,d,?_⟩;rw[<-g];exact World.cell?_of_block (by show b.heap[(x.add j).block]?=W.heap[(x.add j).block]?;rw[Addr.block_add',f x d];exact e)⟩
def Kw(B:Nat)(wr:World):Nat:=
 match wr.cell? ⟨B,0,none⟩ with
 | some (.slice _ l _)=>l
 | _=>0
theorem ZgU{B:Nat}{wr:World}{a:OA}{l c:Nat}(h:wr.cell? ⟨B,0,none⟩=some (.slice a l c)):Kw B wr=l:=by unfold Kw;rw[h]
theorem Zf0(w z:World)(p c r t u:Nat)(q:Nat->RdQ)(d f:Value)(h:RdS z p c r t u (q 0) d f w)(m b:Nat)(aS:1<=m)(aT:m<=6)(hb:b<100)(i:Nat)(s:By)(hs:s.size=64)(hB:RowIs w i 188 (Dc s))
  (P X:Nat->Nat) (L:∀j,j<m->rdP (DC (DR s) j)=P j/\rdX (DC (DR s) j)=X j/\P j≠0) (av:m<6->rdP (DC (DR s) m)=0/\rdX (DC (DR s) m)=0)
  (A:∀j,j<m->∀W d f,RdS z p c r t u (q j) d f W->Calls Tryz.prog 202 #[.pointer (some ⟨c,0,none⟩),.agg #[.int .i64 (P j:Nat),.int .u64 (X j:Nat)]] W (Ko z p c r t u W d f b (q (j+1)))):
  Calls Tryz.prog 242 #[.pointer (some ⟨c,0,none⟩),.agg #[.slice (some ⟨i,1,none⟩) 63 63]] w (Ko z p c r t u w d f (b+1) (q m)):=by
 obtain⟨aJ,ag,aK⟩:=h.lt;obtain⟨W1,e1,x1,N,s1,b1⟩:=De w [.slice (some ⟨i,1,none⟩) 63 63] 287;have au:(DR s).size=63:=by unfold DR;rw[ByteArray.size_extract,hs];rfl
 have ae:RowIs W1 i 188 (Dc s):=N _ _ _ hB;have ar:GaI w z p c r t u d f i s (q 0) 0 d f W1:=by
  refine⟨h.below b1,⟨some ⟨i,1,none⟩,63,x1,⟨au.symm,fun e=>(by cases e),fun j v D=>⟨_,rfl,?_⟩⟩,Nat.le_refl _,fun x e=>by cases e;rfl⟩,ae,Fr.of_below b1,fun g A => .inl A,fun g A => .inl A⟩;rw[Addr.add_lit,ae.cell];show(Dc s)[1+j]?=some v;unfold DC DR at D;rw[Jn,List.getElem?_take]at D
  split at D
  ·rw[List.getElem?_drop]at D;exact D
  ·cases D
 have aE:Hid (∀j,j<=m->j<6->∀l n wr,GaI w z p c r t u d f i s (q j) j l n wr->Calls Tryz.prog 238 #[.pointer (some ⟨w.heap.size,0,none⟩)] wr fun e Y=>e = .returned (.agg #[.int .i64 ((if j<m then P j else 0:Nat):Int),.int .u64 ((if j<m then X j else 0:Nat):Int)])/\
   ∃Z,Y.alloc (.cells #[.int .i64 ((if j<m then P j else 0:Nat):Int),.int .u64 ((if j<m then X j else 0:Nat):Int)] 175)=Z/\Z.cell? ⟨Y.heap.size,0,none⟩=some (.int .i64 ((if j<m then P j else 0:Nat):Int))/\Z.cell? ⟨Y.heap.size,1,none⟩=some (.int .u64 ((if j<m then X j else 0:Nat):Int))/\Hid (j<m->Calls Tryz.prog 202 #[.pointer (some ⟨c,0,none⟩),.agg #[.int .i64 (P j:Nat),.int .u64 (X j:Nat)]] Z fun e U=>e = .returned (.tuple #[.int .i64 (b:Nat),.bool true])/\Hid (∃R S,GaI w z p c r t u d f i s (q (j+1)) (j+1) R S U))/\
   Hid (j=m->Ko z p c r t u w d f (b+1) (q m) (.returned (.tuple #[.int .i64 ((b:Int)+1),.bool true])) Z)):=fun j aw af l n wr a=>by
  obtain⟨a2,c2,B,g2,g3,g4⟩:=a.bf;have az:w.heap.size≠i:=by have:=hB.lt;omega
  refine(U6 wr w.heap.size a2 (63-10*j) c2 (DC (DR s) j) B g2 g3 (fun x e e2=>az (by rw[<-e2];exact g4 x e)) (by omega)).mono ?_;rintro e Y ⟨rfl,E,K,r1,r2,r3,r4,r5⟩;have ay:rdP (DC (DR s) j)=(if j<m then P j else 0)/\rdX (DC (DR s) j)=(if j<m then X j else 0):=by
   by_cases o:j<m
   ·rw[if_pos o,if_pos o];exact⟨(L j o).1,(L j o).2.1⟩
   ·obtain rfl:j=m:=by omega
    rw[if_neg o,if_neg o];exact av af
  obtain⟨Z,eZ,xZ,kZ,sZ,bZ⟩:=De Y [.int .i64 ((if j<m then P j else 0:Nat):Int),.int .u64 ((if j<m then X j else 0:Nat):Int)] 175;have ah:=a.rd.ne B (by decide) (by decide) (by decide);have aM:p<=w.heap.size:=Nat.le_trans h.sz h.bel.size;have aI:RdS z p c r t u (q j) l n Y:=a.rd.fr r5 (fun k e=>by subst e;exact⟨aM,ah.1,ah.2.1,ah.2.2⟩);have M:=aI.below bZ;have ao:RowIs Y i 188 (Dc s):=a.bb.fr r5 (fun e=>az e.symm);have ab:=kZ _ _ _ ao;have ap:=kZ _ _ _ r1;have aG:Fr (fun k=>k=c\/Own d k\/Own f k) w Y:=a.fr.then r5 (fun k hk e=>by omega);have ac:Fr (fun k=>k=c\/Own d k\/Own f k) w Z:=aG.then (Fr.of_below (X:=fun _=>False) bZ) (fun _ _ e=>e.elim);have ad:∀x,E=some x->x.block=i:=fun x e=>by obtain⟨y,e2,e3⟩:=r4 x e;rw[<-e3];exact g4 y e2
  have aN:RdB Z E (63-10*j-10) K (DC (DR s) (j+1)):=r2.row ad (bZ.block _ ao.lt);refine⟨by rw[ay.1,ay.2],Z,eZ,(xZ.cell 0).trans rfl,(xZ.cell 1).trans rfl,fun o=>?_,fun he=>?_⟩
  ·refine(A j o Z l n M).mono ?_;rintro e U ⟨rfl,R,S,u1,O,u3,u4⟩;have ai:=M.ne ab (by decide) (by decide) (by decide);have aj:=M.ne ap (by decide) (by decide) (by decide);have an:RowIs U i 188 (Dc s):=ab.fr O (fun e=>by rcases e with e|e|e;exact ai.1 e;exact ai.2.1 e;exact ai.2.2 e);have aF:RowIs U w.heap.size 287 _:=ap.fr O (fun e=>by rcases e with e|e|e;exact aj.1 e;exact aj.2.1 e;exact aj.2.2 e);have aP:=O.size;have aQ:=ac.size;refine⟨rfl,R,S,⟨u1,⟨E,K,by rw[show 63-10*(j+1)=63-10*j-10 by omega];exact aF,by rw[show 63-10*(j+1)=63-10*j-10 by omega];exact aN.row ad (an.trans ab.symm),by omega,ad⟩,an,ac.then O (fun k hk e=>?_),fun g A=>(u3 g A).elim (a.na g) (fun e => .inr (by omega)),fun g A=>(u4 g A).elim (a.nt g) (fun e => .inr (by omega))⟩⟩;rcases e with e|e|e
   ·exact .inl e
   ·exact(a.na k e).elim (fun e => .inr (.inl e)) (fun e=>by omega)
   ·exact(a.nt k e).elim (fun e => .inr (.inr e)) (fun e=>by omega)
  ·subst he;exact⟨by rw[show((b:Int)+1)=((b+1:Nat):Int) by omega],l,n,M,ac,a.na,a.nt⟩
 have aB:Hid (m=6->∀l n wr,GaI w z p c r t u d f i s (q m) m l n wr->Ko z p c r t u w d f (b+1) (q m) (.returned (.tuple #[.int .i64 ((b:Int)+1),.bool true])) wr):=fun _ l n wr a=>⟨by rw[show((b:Int)+1)=((b+1:Nat):Int) by omega],l,n,a.rd,a.fr,a.na,a.nt⟩
 have aD:Hid (∀j,j<m->P j≠0):=fun j hj=>(L j hj).2.2
 have I:=Db ar;have G:=Db e1;obtain⟨QM,aO⟩:∃Q,Q=q m:=⟨_,rfl⟩;clear e1 x1 N s1 b1 ar ae h hB hs L av A au aJ ag aK;go_enter Tryz.func242,Tryz.ntmps242;go_upto_region 1 with fail;rw[show w.alloc (.cells #[.slice (some ⟨i,1,none⟩) 63 63] 287)=W1 from Da G];go_wp2
 go_loopw [4,5] (fun i4 i5 wr=>∃(j n4:Nat) (b5:Bool),j<=m/\i4 = .int .i64 (n4:Nat)/\i5 = .bool b5/\Hid (0<j->n4=b)/\Hid (∃l n,GaI w z p c r t u d f i s (q j) j l n wr)) (fun _ _ wr=>Kw w.heap.size wr)
 case atStart=>exact⟨0,0,false,by omega,rfl,rfl,fun e=>absurd e (by omega),d,f,Da I⟩
 case round=>
  obtain⟨j,n4,b5,aw,rfl,rfl,am,H⟩:=hrel;obtain⟨l,n,a⟩:=Da H;obtain⟨a2,c2,B,-,-,-⟩:=a.bf;obtain⟨F,ag⟩:∃F,F=63-10*j:=⟨_,rfl⟩;rw[<-ag]at B;have c0:=(B.cell 0).trans (show _=some (Value.slice a2 F c2) from rfl);have aL:=ZgU c0;by_cases af:j<6
  ·have C:=Da aE j aw af l n wr a;have aR:(10:Int)<=(F:Int):=by omega
   by_cases o:j<m
   ·have aV:=Da aD j o;simp only[if_pos o]at C;have J:=Db C;have aW:((P j:Nat):Int)≠0:=by omega
    clear a H B C I G;go_wp2_with (go_at_call 238;refine(Da J).mono ?_;rintro e Y ⟨rfl,Z,hZ,z0,z1,V,T⟩);have ak:=Db (Da V o);clear V T;go_wp2_with (go_at_call 202;refine(Da ak).mono ?_;rintro e U ⟨rfl,al⟩);have ax:Kw w.heap.size U<Kw w.heap.size wr:=by
     obtain⟨R,S,aH⟩:=Da al;obtain⟨E,K,N,-,-,-⟩:=aH.bf;have hk:=ZgU ((N.cell 0).trans (show _=some (Value.slice E (63-10*(j+1)) K) from rfl));omega
    have aC:=Db ax;clear ax aL ak z0 z1 J
    go_roundw
    case rel=>exact⟨j+1,b,true,by omega,rfl,rfl,fun _=>rfl,Da al⟩
    case measure=>exact Da aC
   ·obtain rfl:j=m:=by omega
    simp only[if_neg o]at C;have J:=Db C;have aa:=Da am (by omega);subst aa;clear a H B C I G;go_wp2_with (go_at_call 238;refine(Da J).mono ?_;rintro e Y ⟨rfl,Z,hZ,z0,z1,V,T⟩);have hE:=Da T trivial;rw[<-hZ]at hE;exact bodyPost_ret (by simp[results,Tryz.results242,go_sem]<;>rfl) rfl hE
  ·obtain rfl:j=m:=by omega
   have aa:=Da am (by omega);subst aa;have aq:=Da aB (by omega) l n wr a;have aU:¬(10:Int)<=(F:Int):=by omega
   have aA:=Db aq;clear a H B I G aq;go_wp2;exact bodyPost_ret (by simp[results,Tryz.results242,go_sem]<;>rfl) rfl (Da aA)
end Go.Proofs.YtaieidcohdhgpaaGreatDoor
