/- Told. -/
import Derived.Test.YtaieidcohdhgpaaGreatDoorYAP
import Derived.Lib.AppendIntMem
import Derived.Lib.ItoaLen
namespace Go.Proofs.YtaieidcohdhgpaaGreatDoor
set_option maxHeartbeats 40000000
set_option maxRecDepth 100000
open Go.RowKit
structure Gj where
 ins:List (Nat×Nat)
 tk:Nat->Bool
 tn:Nat->Nat
 t:By
structure Gc(w0:World)(n0 rb db tp tx:Nat)(q:Gj)(va vt:Value)(W:World):Prop where
 row:∃L,FX W rb 197 L/\L[0]?=some (.pointer (some ⟨db,0,none⟩))/\L[1]?=some va/\L[2]?=some (.int .i64 (tp:Nat))/\L[3]?=some (.int .u64 (tx:Nat))/\(∀p,p<1536->L[4+p]?=some (.bool (q.tk p)))/\(∀b,b<8->L[1540+b]?=some (.int .i64 (q.tn b:Nat)))/\L[1548]?=some vt
 es:∃es,Hk q.ins es/\Sl W 350 2 va es.length (Dr es)
 tab:F9 n0 W vt q.t
 oa:∀k,Own va k->n0<=k/\k≠rb/\¬Own vt k
 ot:¬Own vt rb
 bel:Below n0 w0 W
 lo:n0<=rb
 sz:n0<=w0.heap.size
section
variable{w0:World}{n0 rb db tp tx:Nat}{q:Gj}{va vt:Value}{W W':World}
theorem Gc.fr(h:Gc w0 n0 rb db tp tx q va vt W){Z:Nat->Prop}(a:Fr Z W W')(b:∀k,Z k->n0<=k/\k≠rb/\¬Own va k/\¬Own vt k):Gc w0 n0 rb db tp tx q va vt W':=by
 obtain⟨L,j,i⟩:=h.row;obtain⟨es,d,f⟩:=h.es;have hs:=h.bel.size;have l:=h.sz;exact⟨⟨L,j.fr a (λe=>(b _ e).2.1 rfl),i⟩,⟨es,d,f.fr a (λg c e=>(b g e).2.2.1 c)⟩,⟨h.tab.1.fr a (λg c e=>(b g e).2.2.2 c),h.tab.2⟩,h.oa,h.ot,h.bel.trans ⟨a.os,a.tape,a.output,a.size,λk hk=>a.block k (by omega) (λe=>by have:=(b k e).1;omega)⟩,h.lo,l⟩
theorem Gc.below(h:Gc w0 n0 rb db tp tx q va vt W)(a:Bw W W'):Gc w0 n0 rb db tp tx q va vt W':=h.fr (Z:=λ_=>False) (Fr.of_below a) (λ_ e=>e.elim)
theorem Gc.lt(h:Gc w0 n0 rb db tp tx q va vt W):rb<W.heap.size/\(∀k,Own va k->k<W.heap.size)/\(∀k,Own vt k->k<W.heap.size):=by
 obtain⟨L,c,_⟩:=h.row;obtain⟨es,_,b⟩:=h.es;exact⟨c.lt,λk a=>b.lt a,λk a=>h.tab.1.lt a⟩
theorem Gc.set(h:Gc w0 n0 rb db tp tx q va vt W)(a:Fr (λk=>k=rb) W W'){L:F0}{c:Gj}(n:FX W' rb 197 L)(m:L[0]?=some (.pointer (some ⟨db,0,none⟩))/\L[1]?=some va/\L[2]?=some (.int .i64 (tp:Nat))/\L[3]?=some (.int .u64 (tx:Nat))/\(∀p,p<1536->L[4+p]?=some (.bool (c.tk p)))/\(∀b,b<8->L[1540+b]?=some (.int .i64 (c.tn b:Nat)))/\L[1548]?=some vt)(j:c.ins=q.ins)(l:c.t=q.t):Gc w0 n0 rb db tp tx c va vt W':=by
 obtain⟨es,f,i⟩:=h.es;have hs:=h.bel.size;have o:=h.sz;have aa:=h.lo;exact⟨⟨L,n,m⟩,⟨es,by rw[j];exact f,i.fr a (λg d e=>(h.oa g d).2.1 e)⟩,⟨by rw[l];exact h.tab.1.fr a (λg d e=>h.ot (by rw[<-e];exact d)),h.tab.2⟩,h.oa,h.ot,h.bel.trans ⟨a.os,a.tape,a.output,a.size,λk hk=>a.block k (by omega) (λe=>by omega)⟩,h.lo,o⟩
def Gj.take(q:Gj)(p:Nat):Gj:={ q with tk:=λk=>if k=p then true else q.tk k }
def Gj.turn(q:Gj)(b:Nat):Gj:={ q with tn:=λk=>if k=b then q.tn b+1 else q.tn k }
def Gj.put(q:Gj)(r p:Nat):Gj:={ q with ins:=q.ins++[(r,p)] }
def Gj.say(q:Gj)(s:By):Gj:={ q with t:=q.t++s }
theorem Gc.take_call(h:Gc w0 n0 rb db tp tx q va vt W){m vw j:Value}{a:OA}{l c:Nat}{D:LY}(d:DU w0 db m (.slice a l c) vw j D)(g:db<n0/\∀k,Own (.slice a l c) k->k<n0){p x:Nat}(w:16<=p)(r:p<1536)(f:q.tk p=false){s:By}(A:D[p]?=some s):
  Cl 241 #[.pointer (some ⟨rb,0,none⟩),.agg #[.int .i64 (p:Nat),.int .u64 (x:Nat)]] W λe w'=>e=.returned (.tuple #[DA s,.bool true])/\Gc w0 n0 rb db tp tx (q.take p) va vt w'/\Fr (λk=>k=rb) W w':=by
 obtain⟨L,y,t,B,C,E,i,F,G⟩:=h.row;have aa:=h.lo;have u:DU W db m (.slice a l c) vw j D:=⟨(h.bel.block _ g.1).trans d.1,⟨d.2.1.1.kept (λk _ f=>h.bel.block k (g.2 k f)),d.2.1.2⟩,d.2.2⟩;refine(ZA W rb db L y t m vw j a l c D u (by omega) (λe=>by have:=g.2 _ e;omega) p x w r (by rw[i p r,f]) s A).mono ?_;rintro e w'⟨rfl,z,n⟩;refine⟨rfl,h.set n z ⟨by rw[AB (by omega)];exact t,by rw[AB (by omega)];exact B,by rw[AB (by omega)];exact C,by rw[AB (by omega)];exact E,λk o=>?_,λb v=>by rw[AB (by omega)];exact F b v,by rw[AB (by omega)];exact G⟩ rfl rfl,n⟩;show _=some (Value.bool (if k=p then true else q.tk k));by_cases e:k=p
 ·subst e;rw[if_pos rfl,BC (Ae.1 (i k o)).1]
 ·rw[if_neg e,AB (by omega)];exact i k o
theorem Gc.turn(h:Gc w0 n0 rb db tp tx q va vt W){b:Nat}(hb:b<8):Gc w0 n0 rb db tp tx (q.turn b) va vt (W.setCell ⟨rb,1540+b,none⟩ (.int .i64 ((q.tn b+1:Nat):Int))):=by
 obtain⟨L,d,f,g,i,j,l,c,m⟩:=h.row;refine h.set ((Fr.refl _ _).set _ _ rfl) (d.set (1540+b) (.int .i64 ((q.tn b+1:Nat):Int))) ⟨by rw[AB (by omega)];exact f,by rw[AB (by omega)];exact g,by rw[AB (by omega)];exact i,by rw[AB (by omega)];exact j,λk a=>by rw[AB (by omega)];exact l k a,λk a=>?_,by rw[AB (by omega)];exact m⟩ rfl rfl;show _=some (Value.int .i64 ((if k=b then q.tn b+1 else q.tn k:Nat):Int));by_cases e:k=b
 ·subst e;rw[if_pos rfl,BC (Ae.1 (c k a)).1]
 ·rw[if_neg e,AB (by omega)];exact c k a
theorem Gc.say(h:Gc w0 n0 rb db tp tx q va vt W){s:By}{c:Value}(i:F9 n0 W' c (q.t++s))(b:Fr (Own vt) W W')(j:Dk W vt c):Gc w0 n0 rb db tp tx (q.say s) va c (W'.setCell ⟨rb,1548,none⟩ c):=by
 obtain⟨L,t,w,x,y,z,A,B,C⟩:=h.row;obtain⟨aa,p,ab⟩:=h.lt;obtain⟨es,m,n⟩:=h.es;have v:=h.sz;have hs:=h.bel.size;have u:FX W' rb 197 L:=t.fr b h.ot;have ac:=h.lo;have l:¬Own c rb:=λe=>(j rb e).elim h.ot (λe=>by omega)
 have r:∀k,Own va k->¬Own c k:=λk a e=>(j k e).elim (h.oa k a).2.2 (λe=>by have:=p k a;omega)
 have d:Fr (λk=>k=rb) W' (W'.setCell ⟨rb,1548,none⟩ c):=(Fr.refl _ _).set _ _ rfl;have o:Sl W' 350 2 va es.length (Dr es):=n.fr b (λg f e=>(h.oa g f).2.2 e);refine⟨⟨_,u.set 1548 c,by rw[AB (by omega)];exact w,by rw[AB (by omega)];exact x,by rw[AB (by omega)];exact y,by rw[AB (by omega)];exact z,λk a=>by rw[AB (by omega)];exact A k a,λk a=>by rw[AB (by omega)];exact B k a,by rw[BC (Ae.1 C).1]⟩,⟨es,m,o.fr d (λg f e=>(h.oa g f).2.1 e)⟩,⟨i.1.setCell _ _ l,i.2⟩,λk a=>⟨(h.oa k a).1,(h.oa k a).2.1,r k a⟩,l,?_,h.lo,v⟩;exact h.bel.trans ⟨d.os.trans b.os,d.tape.trans b.tape,d.output.trans b.output,Af b.size d.size,λk a=>(d.block k (by have:=b.size;omega) (λe=>by omega)).trans (b.block k (by omega) (λe=>by have:=h.tab.2 k e;omega))⟩
theorem Gc.put_call(h:Gc w0 n0 rb db tp tx q va vt W){r p:Nat}(z:∀y∈q.ins,y.1≠r)(ac:q.ins.length<=9999):
  Cl 243 #[.pointer (some ⟨rb,1,none⟩),.int .u64 (r:Nat),.int .i64 (p:Nat)] W λe w'=>e=.returned (.tuple #[])/\∃c,Gc w0 n0 rb db tp tx (q.put r p) c vt w'/\Fr (λk=>k=rb\/Own va k) W w'/\Dk W va c:=by
 obtain⟨L,j,D,n,E,F,G,H,I⟩:=h.row;obtain⟨es,f,u⟩:=h.es;obtain⟨aa,ab,v⟩:=h.lt;have C:=h.sz;have hs:=h.bel.size;have ad:=h.lo;refine(PN W rb 1 va es (r:Nat) (p:Nat) ((j.cell 1).trans n) (j.frozen 1) (λe=>(h.oa rb e).2.1 rfl) u (by rw[f.2.1];omega) f.1 (λx B e=>?_)).mono ?_
 ·obtain⟨y,i,rfl⟩:=(f.2.2 x).1 B;exact z y i (by simp only at e;omega)
 ·rintro e w'⟨rfl,c,t,m1,J,K,M,N,o,d⟩;have b:Fr (λk=>k=rb\/Own va k) W w':=⟨d.os,d.tape,d.output,d.size,λk a l=>d.block k a (λe=>l (.inl e)) (λe=>l (.inr e))⟩;have A:FX w' rb 197 (L.set 1 c):=by unfold FX;rw[d.head];exact j.set 1 c
  have w:∀k,Own c k->n0<=k/\k≠rb/\¬Own vt k:=λk a=>(o k a).elim (h.oa k) (λe=>⟨by omega,by omega,λs=>by have:=v k s;omega⟩)
  refine⟨rfl,c,⟨⟨_,A,by rw[AB (by omega)];exact D,by rw[BC (Ae.1 n).1],by rw[AB (by omega)];exact E,by rw[AB (by omega)];exact F,λk a=>by rw[AB (by omega)];exact G k a,λk a=>by rw[AB (by omega)];exact H k a,by rw[AB (by omega)];exact I⟩,⟨t,⟨K,by rw[M,f.2.1];show _=(q.ins++[(r,p)]).length;rw[Ab];rfl,λx=>?_⟩,J⟩,⟨h.tab.1.fr b (λg m e=>e.elim (λe=>h.ot (by rw[<-e];exact m)) (λe=>(h.oa g e).2.2 m)),h.tab.2⟩,w,h.ot,h.bel.trans ⟨b.os,b.tape,b.output,b.size,λk a=>b.block k (by omega) (λe=>e.elim (λe=>by omega) (λe=>by have:=(h.oa k e).1;omega))⟩,h.lo,C⟩,b,o⟩;rw[N x,f.2.2 x];show _↔∃y∈q.ins++[(r,p)],_;constructor
  ·rintro(rfl|⟨y,i,rfl⟩)
   ·exact⟨(r,p),by simp,rfl⟩
   ·exact⟨y,Bn _ i,rfl⟩
  ·rintro⟨y,i,rfl⟩;rcases Aq.1 i with e|e
   ·exact .inr ⟨y,e,rfl⟩
   ·rw[Ad.1 e];exact .inl rfl
theorem Gc.cells(h:Gc w0 n0 rb db tp tx q va vt W):W.cell? ⟨rb,0,none⟩=some (.pointer (some ⟨db,0,none⟩))/\W.cell? ⟨rb,1,none⟩=some va/\W.cell? ⟨rb,1548,none⟩=some vt/\W.frozen? ⟨rb,1548,none⟩=false/\(∀b,b<8->W.cell? ⟨rb,1540+b,none⟩=some (.int .i64 (q.tn b:Nat))/\W.frozen? ⟨rb,1540+b,none⟩=false):=by
 obtain⟨L,a,d,e,l2,l3,l4,f,g⟩:=h.row;exact⟨(a.cell 0).trans d,(a.cell 1).trans e,(a.cell 1548).trans g,a.frozen 1548,λb c=>⟨(a.cell _).trans (f b c),a.frozen _⟩⟩
end
open Tryz
def Kw(w0:World)(n0 rb db tp tx:Nat)(W:World)(va vt:Value)(b:Nat)(q':Gj)(e:Ending)(w':World):Prop:=
 e=.returned (.tuple #[.int .i64 (b:Nat),.bool true])/\∃va' vt',Gc w0 n0 rb db tp tx q' va' vt' w'/\Fr (λk=>k=rb\/Own va k\/Own vt k) W w'/\Dk W va va'/\Dk W vt vt'
def DW(s:By):By:=s.extract 1 64
theorem YO(w O:World)(B d H tp tx:Nat)(q:Gj)(J vt:Value)(h:Gc O B d H tp tx q J vt w){vf vw ve:Value}{a:OA}{l c:Nat}{D:LY}(hD:DU O H vf (.slice a l c) vw ve D)(aw:H<B/\∀k,Own (.slice a l c) k->k<B)(p x:Nat)(a0:16<=p)(a1:p<1536)(hk:q.tk p=false)(s:By)(hs:D[p]?=some s)(aA:s.data[0]?=some 3)(ht:q.t.size<=1000000)(ax:∀y∈q.ins,y.1≠Dd 3 0 (q.tn 0))(au:q.ins.length<=9999)(aC:q.tn 0<60000):
  Cl 202 #[.pointer (some ⟨d,0,none⟩),.agg #[.int .i64 (p:Nat),.int .u64 (x:Nat)]] w (Kw O B d H tp tx w J vt 0 ((((q.take p).say (DW s)).put (Dd 3 0 (q.tn 0)) p).turn 0)):=by
 have ah:s.size=64:=hD.2.1.2 s (Ar hs);obtain⟨C,F,E,rfl⟩:=h.tab.1.shape;obtain⟨aY,aq,ar⟩:=h.lt;obtain⟨W1,e1,x1,k1,s1,b1⟩:=De w [.int .i64 (p:Nat),.int .u64 (x:Nat)] 175;have h1:=h.below b1;have be:B<=w.heap.size:=Af h.sz h.bel.size;obtain⟨m,I⟩:∃T,T=q.tn 0:=⟨_,rfl⟩;have bb:m<60000:=by rw[I];exact aC
 obtain⟨VB,af⟩:∃V,V=DA s:=⟨_,rfl⟩;have ac:Hid (Cl 241 #[.pointer (some ⟨d,0,none⟩),.agg #[.int .i64 (p:Nat),.int .u64 (x:Nat)]] W1 λe X=>e=.returned (.tuple #[VB,.bool true])/\∃Y Z,X.alloc (.cells (Dc (Dn 64)).toArray 188)=Y/\FX Y X.heap.size 188 (Dc (Dn 64))/\Y.setRow X.heap.size (Dc s).toArray=Z/\Z.cell? ⟨X.heap.size,0,none⟩=some (.int .u8 3)/\Z.cell? ⟨d,1548,none⟩=some (.slice C F E)/\
   ∃o z t n,(Builtin.append_ #[59,59] 59 #[.slice C F E,.slice (some ⟨X.heap.size,1,none⟩) 63 63]).run prog Z.drew=.ok (.slice o z t) n/\n.cell? ⟨d,1548,none⟩=some (.slice C F E)/\n.frozen? ⟨d,1548,none⟩=false/\∃M,n.setCell ⟨d,1548,none⟩ (.slice o z t)=M/\M.cell? ⟨d,1540,none⟩=some (.int .i64 (m:Nat))/\M.cell? ⟨w.heap.size,0,none⟩=some (.int .i64 (p:Nat))/\
    Hid (Cl 243 #[.pointer (some ⟨d,1,none⟩),.int .u64 ((3*4294967296+0*65536+m:Nat):Int),.int .i64 (p:Nat)] M.drew λe A=>e=.returned (.tuple #[])/\A.cell? ⟨d,1540,none⟩=some (.int .i64 (m:Nat))/\A.cell? ⟨w.heap.size,0,none⟩=some (.int .i64 (p:Nat))/\A.frozen? ⟨d,1540,none⟩=false/\
     Hid (Kw O B d H tp tx w J (.slice C F E) 0 ((((q.take p).say (DW s)).put (Dd 3 0 (q.tn 0)) p).turn 0) (.returned (.tuple #[.int .i64 0,.bool true])) (A.setCell ⟨d,1540,none⟩ (.int .i64 ((m:Int)+1))).drew))):=by
  refine(h1.take_call hD aw (x:=x) a0 a1 hk hs).mono ?_;rintro e X⟨rfl,hX,ag⟩;have aW:Fr (λk=>k=d) w X:=(Fr.of_below b1).then ag (λ_ _ e=>e);have bc:=ag.size;obtain⟨Y,eY,xY,kY,sY,bY⟩:=De X (Dc (Dn 64)) 188;have xZ:FX (Y.setRow X.heap.size (Dc s).toArray) X.heap.size 188 (Dc s):=BW Y _ _ _ 188 _ xY;have G:Bw X (Y.setRow X.heap.size (Dc s).toArray):=bY.trans ⟨rfl,rfl,rfl,by simp,λj hj=>BD Y _ j _ (by omega)⟩;obtain⟨Z,U⟩:∃Z,Y.setRow X.heap.size (Dc s).toArray=Z:=⟨_,rfl⟩;rw[U]at xZ G;have aS:=hX.below G;have P:Bw X Z.drew:=⟨G.os,G.tape,G.output,G.size,G.block⟩;have ab:=hX.below P;have a7:FX Z.drew X.heap.size 188 (Dc s):=xZ;have aU:(DW s).size=63:=by unfold DW;rw[Ah,ah];rfl
  obtain⟨o,z,t,n,r1,r2,W,r4⟩:=JX Z.drew B (by have:=P.size;omega) (.slice C F E) _ ab.tab ⟨X.heap.size,1,none⟩ 63 63 (DW s) aU (λj u N=>by
   rw[AI,a7.cell];unfold DW at N;rw[Jp,Ao]at N
   split at N
   ·rw[Bf]at N;exact N
   ·cases N) (by show q.t.size+63<=_;omega)
  have aB:=ab.say r2 W r4;have bf:=W.size;have bd:=P.size;have b0:FX X w.heap.size 175 _:=(ag.block _ x1.lt (show ¬w.heap.size=d by omega)).trans x1;have b5:FX n w.heap.size 175 _:=(W.block _ (by omega) (λe=>by have:=ar _ e;omega)).trans ((P.block _ b0.lt).trans b0);have b6:FX (n.setCell ⟨d,1548,none⟩ (.slice o z t)) w.heap.size 175 _:=(Aw _ _ _ _ (show w.heap.size≠d by omega)).trans b5;obtain⟨L,a3,_,_,_,_,_,_,l6⟩:=ab.row;have az:FX n d 197 L:=a3.fr W ab.ot;have aV:=aB.cells;refine⟨by rw[af],Y,Z,eY,xY,U,?_,aS.cells.2.2.1,o,z,t,n,r1,(az.cell 1548).trans l6,az.frozen 1548,_,rfl,?_,(b6.cell 0).trans rfl,?_⟩
  ·rw[xZ.cell];have h0:s.data.toList[0]?=some 3:=by rw[CF];exact aA
   show(Dc s)[0]? = _;unfold Dc;rw[Bc,h0];rfl
  ·rw[I];exact(aV.2.2.2.2 0 (by omega)).1
  ·have a4:Gc O B d H tp tx ((q.take p).say (DW s)) J (.slice o z t) (n.setCell ⟨d,1548,none⟩ (.slice o z t)).drew:=aB.below ⟨rfl,rfl,rfl,Aa _,λ_ _=>rfl⟩;have a2:=a4.put_call (r:=Dd 3 0 m) (p:=p) (by rw[I];exact ax) au;refine a2.mono ?_;rintro e A⟨rfl,aE,al,ao,aZ⟩;have b7:FX A w.heap.size 175 _:=(ao.block _ b6.lt (λe=>e.elim (λe=>by omega) (λe=>by have:=aq _ e;omega))).trans b6;have c3:=al.cells.2.2.2.2 0 (by omega);have ap:=al.turn (b:=0) (by omega);have a6:(((q.take p).say (DW s)).put (Dd 3 0 m) p).tn 0=m:=I.symm;rw[a6]at ap;have aM:Fr (λk=>k=d) A (A.setCell ⟨d,1540,none⟩ (.int .i64 ((m+1:Nat):Int))):=(Fr.refl _ _).set _ _ rfl;have aX:Gc O B d H tp tx (((((q.take p).say (DW s)).put (Dd 3 0 m) p)).turn 0) aE (.slice o z t) (A.setCell ⟨d,1540,none⟩ (.int .i64 ((m+1:Nat):Int))).drew:=ap.below ⟨rfl,rfl,rfl,Aa _,λ_ _=>rfl⟩;rw[show((m:Int)+1)=((m+1:Nat):Int) by omega];refine⟨rfl,by rw[I];exact c3.1,(b7.cell 0).trans rfl,c3.2,rfl,aE,.slice o z t,by rw[<-I];exact aX,?_,λg hg=>(aZ g hg).imp id (λe=>?_),λg hg=>(r4 g hg).imp id (λe=>by omega)⟩
   ·have f1:Fr (λk=>k=d\/Own J k\/Own (.slice C F E) k) w Z.drew:=(aW.mono (Y:=λk=>k=d\/Own J k\/Own (.slice C F E) k) (λk _ e => .inl e)).then (Fr.of_below (X:=λ_=>False) P) (λ_ _ e=>e.elim);have f2:=f1.then W (λk _ e => .inr (.inr e));have f3:Fr (λk=>k=d\/Own J k\/Own (.slice C F E) k) w (n.setCell ⟨d,1548,none⟩ (.slice o z t)).drew:=by
     have:=Fr.set f2 ⟨d,1548,none⟩ (.slice o z t) (.inl rfl);exact⟨this.os,this.tape,this.output,this.size,this.block⟩
    have f4:=f3.then ao (λk _ e=>e.elim .inl (λe => .inr (.inl e)));have R:=f4.then aM (λk _ e => .inl e);exact⟨R.os,R.tape,R.output,R.size,R.block⟩
   ·have:(n.setCell ⟨d,1548,none⟩ (.slice o z t)).drew.heap.size=n.heap.size:=by simp[World.setCell,World.drew]
    omega
 have aI:Hid (∀V,Cl 244 #[.int .u8 3,.int .i64 0,.int .i64 (m:Nat)] V λe w'=>e=.returned (.int .u64 ((3*4294967296+0*65536+m:Nat):Int))/\w'=V):=λV=>UB V 3 0 m (by omega) (by omega) (by omega)
 have an:(Dc s).length=64:=by rw[Dg,ah]
 have ai:=Db an;have aJ:=Db af;have aF:=Db e1;have d1:=(x1.cell 0).trans (show _=some (Value.int .i64 (p:Nat)) from rfl);have d2:=(x1.cell 1).trans (show _=some (Value.int .u64 (x:Nat)) from rfl);obtain⟨QF,ak⟩:∃Q,Q=((((q.take p).say (DW s)).put (Dd 3 0 (q.tn 0)) p).turn 0):=⟨_,rfl⟩;rw[<-ak]at ac ⊢;clear I e1 x1 k1 s1 b1 h1 h hD aw hk hs aA ht ax au aC ah af an ak aY aq ar;go_enter func202,ntmps202;go_upto_region 1 with fail;rw[show w.alloc (.cells #[.int .i64 (p:Nat),.int .u64 (x:Nat)] 175)=W1 from Da aF];go_upto_region 2 with(first|(go_at_call 241;refine(Da ac).mono ?_;rintro e X⟨rfl,Y,Z,hY,xY,U,z0,z1,o,z,t,n,ay,z5,z6,M,am,ad,ae,aj⟩;have HY:=Db hY;have aK:=Db xY;have HZ:=Db U;have aL:=Db am;have aH:=Db ay;clear hY xY U am ay d1 d2 ac)|(refine JN rfl 188 rfl Kx ?_;rw[show X.alloc (.cells (Dc (Dn 64)).toArray 188)=Y from Da HY])|(refine BX rfl 188 _ _ rfl X.heap.size (Dc s).toArray rfl (Da aJ) 188 _ (Da aK) (by rw[Jf];simp[Da ai]) (by simp[Da ai,Dg,Jr]) (KV _) ?_;rw[Da HZ]));go_upto_region 8 with fail;refine AE (S:=λV=>True) (by kernel_rfl) trivial (λaa=>?_);refine tk 0 ?_;refine tk 1 ?_;refine tk 2 ?_;refine tk 3 ?_;refine tk 5 ?_;refine rk 4 (λK f=>?_);go_simp;refine f.out _ _ trivial (λaP=>?_);clear f K
 try simp only[pE]
 refine rk 6 (λK f=>?_);refine JV rfl _ _ 59 59 rfl _ _ rfl rfl (Da aH) ?_;refine f.out _ _ trivial (λaQ=>?_);clear f K
 try simp only[pE]
 refine tk 7 ?_;refine tk 8 ?_;refine rk 9 (λK f=>?_);go_simp;rw[show n.setCell ⟨d,1548,none⟩ (.slice o z t)=M from Da aL];refine f.out _ _ trivial (λaR=>?_);clear f K
 try simp only[pE]
 refine AO (by kernel_rfl) ?_ _;clear aa aP aQ aR z0 z1 z5 z6;go_upto_region 13 with fail;refine AE (S:=λV=>V.cell? ⟨d,1540,none⟩=some (.int .i64 (m:Nat))/\V.cell? ⟨w.heap.size,0,none⟩=some (.int .i64 (p:Nat))) (by kernel_rfl) ⟨ad,ae⟩ (λaa=>?_);refine tk 0 ?_;refine tk 1 ?_;refine tk 2 ?_;refine tk 3 ?_;refine tk 4 ?_;refine tk 5 ?_;refine tk 6 ?_;refine tk 7 ?_;refine tk 8 ?_;refine tk 9 ?_;refine tk 10 ?_;refine tk 11 ?_;refine tk 13 ?_;refine tk 14 ?_;refine rk 12 (λK f=>?_);go_simp;go_at_call 244;refine(Da aI _).mono ?_;rintro e w'⟨rfl,aD⟩;rw[aD];clear aD;go_wp2_with fail;refine f.out _ _ ⟨ad,ae⟩ (λaN=>?_);clear f K
 try simp only[pE]
 refine rk 15 (λK f=>?_);go_simp;go_at_call 243;refine(Da aj).mono ?_;rintro e A⟨rfl,y1,y2,y3,aG⟩;go_wp2_with fail;refine f.out _ _ ⟨y1,y2⟩ (λaO=>?_);clear f K
 try simp only[pE]
 refine AO (by kernel_rfl) ?_ _;clear aa aN aO ad ae aj;go_upto_region 14 with fail;refine AE (S:=λV=>True) (by kernel_rfl) trivial (λaa=>?_);refine tk 0 ?_;refine tk 1 ?_;refine tk 2 ?_;refine tk 3 ?_;refine tk 4 ?_;refine tk 7 ?_;refine tk 8 ?_;refine rk 5 (λK f=>?_);go_simp;refine f.out _ _ trivial (λa9=>?_);clear f K
 try simp only[pE]
 refine A5 (i:=6) (v:=.int .i64 ((m+1:Nat):Int)) rfl (by kernel_rfl) (by kernel_rfl) (by kernel_rfl) (λ_ _ _ h=>h) (Or.inl ⟨by rfl,by intro w aT;(try dsimp only at aT);go_simp;rw[AV];omega⟩) (by assumption) ?_
 try simp only[pE]
 refine tk 9 ?_;refine rk 10 (λK f=>?_);go_simp;refine f.out _ _ trivial (λa8=>?_);clear f K
 try simp only[pE]
 refine AO (by kernel_rfl) ?_ _;go_wp2;exact Ap (v:=.tuple #[.int .i64 0,.bool true]) (by simp[results,results202,go_sem]) rfl (Da aG)
def DE(T:By):NB
 |0=>T
 |j+1=>(DE T j).extract 10 (DE T j).size
theorem Ur(T:By):∀j,(DE T j).size=T.size-10*j
 |0=>by simp[DE]
 |j+1=>by
  unfold DE;rw[Ah,Ur T j];omega
theorem Gc.ne{r:World}{n d i o p:Nat}{q:Gj}{f g:Value}{W:World}(h:Gc r n d i o p q f g W){B:Nat}{t:TypeId}{L:F0}(b:FX W B t L)(k:t≠197)(l:t≠350)(m:t≠5):B≠d/\¬Own f B/\¬Own g B:=by
 obtain⟨Lr,c,_⟩:=h.row;obtain⟨es,_,j⟩:=h.es;refine⟨λe=>?_,λe=>?_,λe=>?_⟩
 ·subst e;unfold FX at b c;rw[b]at c;cases c;exact k rfl
 ·obtain⟨R,a⟩:=j.type e;unfold FX at b a;rw[b]at a;cases a;exact l rfl
 ·obtain⟨R,a⟩:=h.tab.1.type e;unfold FX at b a;rw[b]at a;cases a;exact m rfl
structure NJ(w w0:World)(n0 rb db tp tx:Nat)(va0 vt0:Value)(Bb:Nat)(s:By)(q:Gj)(j:Nat)(va vt:Value)(wr:World):Prop where
 rd:Gc w0 n0 rb db tp tx q va vt wr
 bf:∃a2 c2,FX wr w.heap.size 287 [.slice a2 (63-10*j) c2]/\Gp wr a2 (63-10*j) c2 (DE (DW s) j)/\63-10*j<=c2/\∀x,a2=some x->x.block=Bb
 bb:FX wr Bb 188 (Dc s)
 fr:Fr (λk=>k=rb\/Own va0 k\/Own vt0 k) w wr
 na:Dk w va0 va
 nt:Dk w vt0 vt
theorem Gp.row{W b:World}{a:OA}{l c:Nat}{s:By}(h:Gp W a l c s){B:Nat}(f:∀x,a=some x->x.block=B)(e:b.heap[B]?=W.heap[B]?):Gp b a l c s:=
 ⟨h.1,h.2.1,λj v i=>by
  obtain⟨x,d,g⟩:=h.2.2 j v i;refine⟨x,d,?_⟩;rw[<-g];exact Ay (by show b.heap[(x.add j).block]?=W.heap[(x.add j).block]?;rw[Addr.block_add',f x d];exact e)⟩
def KE(B:Nat)(wr:World):Nat:=
 match wr.cell? ⟨B,0,none⟩ with
 |some (.slice _ l _)=>l
 |_=>0
theorem P8{B:Nat}{wr:World}{a:OA}{l c:Nat}(h:wr.cell? ⟨B,0,none⟩=some (.slice a l c)):KE B wr=l:=by unfold KE;rw[h]
theorem Zf1(w z:World)(p c r t u:Nat)(q:Nat->Gj)(d f:Value)(h:Gc z p c r t u (q 0) d f w)(m b:Nat)(aS:1<=m)(aT:m<=6)(hb:b<100)(i:Nat)(s:By)(hs:s.size=64)(hB:FX w i 188 (Dc s))(P X:Nat->Nat)(L:∀j,j<m->GA (DE (DW s) j)=P j/\GE (DE (DW s) j)=X j/\P j≠0)(av:m<6->GA (DE (DW s) m)=0/\GE (DE (DW s) m)=0)(A:∀j,j<m->∀W d f,Gc z p c r t u (q j) d f W->Cl 202 #[.pointer (some ⟨c,0,none⟩),.agg #[.int .i64 (P j:Nat),.int .u64 (X j:Nat)]] W (Kw z p c r t u W d f b (q (j+1)))):
  Cl 242 #[.pointer (some ⟨c,0,none⟩),.agg #[.slice (some ⟨i,1,none⟩) 63 63]] w (Kw z p c r t u w d f (b+1) (q m)):=by
 obtain⟨aJ,ag,aK⟩:=h.lt;obtain⟨W1,e1,x1,N,s1,b1⟩:=De w [.slice (some ⟨i,1,none⟩) 63 63] 287;have au:(DW s).size=63:=by unfold DW;rw[Ah,hs];rfl
 have ae:FX W1 i 188 (Dc s):=N _ _ _ hB;have ar:NJ w z p c r t u d f i s (q 0) 0 d f W1:=by
  refine⟨h.below b1,⟨some ⟨i,1,none⟩,63,x1,⟨au.symm,λe=>(by cases e),λj v D=>⟨_,rfl,?_⟩⟩,Aa _,λx e=>by cases e;rfl⟩,ae,Fr.of_below b1,λg A => .inl A,λg A => .inl A⟩;rw[AI,ae.cell];show(Dc s)[1+j]?=some v;unfold DE DW at D;rw[Jp,Ao]at D
  split at D
  ·rw[Bf]at D;exact D
  ·cases D
 have aE:Hid (∀j,j<=m->j<6->∀l n wr,NJ w z p c r t u d f i s (q j) j l n wr->Cl 238 #[.pointer (some ⟨w.heap.size,0,none⟩)] wr λe Y=>e=.returned (.agg #[.int .i64 ((if j<m then P j else 0:Nat):Int),.int .u64 ((if j<m then X j else 0:Nat):Int)])/\
   ∃Z,Y.alloc (.cells #[.int .i64 ((if j<m then P j else 0:Nat):Int),.int .u64 ((if j<m then X j else 0:Nat):Int)] 175)=Z/\Z.cell? ⟨Y.heap.size,0,none⟩=some (.int .i64 ((if j<m then P j else 0:Nat):Int))/\Z.cell? ⟨Y.heap.size,1,none⟩=some (.int .u64 ((if j<m then X j else 0:Nat):Int))/\Hid (j<m->Cl 202 #[.pointer (some ⟨c,0,none⟩),.agg #[.int .i64 (P j:Nat),.int .u64 (X j:Nat)]] Z λe U=>e=.returned (.tuple #[.int .i64 (b:Nat),.bool true])/\Hid (∃R S,NJ w z p c r t u d f i s (q (j+1)) (j+1) R S U))/\
   Hid (j=m->Kw z p c r t u w d f (b+1) (q m) (.returned (.tuple #[.int .i64 ((b:Int)+1),.bool true])) Z)):=λj aw af l n wr a=>by
  obtain⟨a2,c2,B,g2,g3,g4⟩:=a.bf;have az:w.heap.size≠i:=by have:=hB.lt;omega
  refine(NY wr w.heap.size a2 (63-10*j) c2 (DE (DW s) j) B g2 g3 (λx e e2=>az (by rw[<-e2];exact g4 x e)) (by omega)).mono ?_;rintro e Y⟨rfl,E,K,r1,r2,r3,r4,r5⟩;have ay:GA (DE (DW s) j)=(if j<m then P j else 0)/\GE (DE (DW s) j)=(if j<m then X j else 0):=by
   by_cases o:j<m
   ·rw[if_pos o,if_pos o];exact⟨(L j o).1,(L j o).2.1⟩
   ·obtain rfl:j=m:=by omega
    rw[if_neg o,if_neg o];exact av af
  obtain⟨Z,eZ,xZ,kZ,sZ,bZ⟩:=De Y [.int .i64 ((if j<m then P j else 0:Nat):Int),.int .u64 ((if j<m then X j else 0:Nat):Int)] 175;have ah:=a.rd.ne B (by decide) (by decide) (by decide);have aM:p<=w.heap.size:=Af h.sz h.bel.size;have aI:Gc z p c r t u (q j) l n Y:=a.rd.fr r5 (λk e=>by subst e;exact⟨aM,ah.1,ah.2.1,ah.2.2⟩);have M:=aI.below bZ;have ao:FX Y i 188 (Dc s):=a.bb.fr r5 (λe=>az e.symm);have ab:=kZ _ _ _ ao;have ap:=kZ _ _ _ r1;have aG:Fr (λk=>k=c\/Own d k\/Own f k) w Y:=a.fr.then r5 (λk hk e=>by omega);have ac:Fr (λk=>k=c\/Own d k\/Own f k) w Z:=aG.then (Fr.of_below (X:=λ_=>False) bZ) (λ_ _ e=>e.elim);have ad:∀x,E=some x->x.block=i:=λx e=>by obtain⟨y,e2,e3⟩:=r4 x e;rw[<-e3];exact g4 y e2
  have aN:Gp Z E (63-10*j-10) K (DE (DW s) (j+1)):=r2.row ad (bZ.block _ ao.lt);refine⟨by rw[ay.1,ay.2],Z,eZ,(xZ.cell 0).trans rfl,(xZ.cell 1).trans rfl,λo=>?_,λhe=>?_⟩
  ·refine(A j o Z l n M).mono ?_;rintro e U⟨rfl,R,S,u1,O,u3,u4⟩;have ai:=M.ne ab (by decide) (by decide) (by decide);have aj:=M.ne ap (by decide) (by decide) (by decide);have an:FX U i 188 (Dc s):=ab.fr O (λe=>by rcases e with e|e|e;exact ai.1 e;exact ai.2.1 e;exact ai.2.2 e);have aF:FX U w.heap.size 287 _:=ap.fr O (λe=>by rcases e with e|e|e;exact aj.1 e;exact aj.2.1 e;exact aj.2.2 e);have aP:=O.size;have aQ:=ac.size;refine⟨rfl,R,S,⟨u1,⟨E,K,by rw[show 63-10*(j+1)=63-10*j-10 by omega];exact aF,by rw[show 63-10*(j+1)=63-10*j-10 by omega];exact aN.row ad (an.trans ab.symm),by omega,ad⟩,an,ac.then O (λk hk e=>?_),λg A=>(u3 g A).elim (a.na g) (λe => .inr (by omega)),λg A=>(u4 g A).elim (a.nt g) (λe => .inr (by omega))⟩⟩;rcases e with e|e|e
   ·exact .inl e
   ·exact(a.na k e).elim (λe => .inr (.inl e)) (λe=>by omega)
   ·exact(a.nt k e).elim (λe => .inr (.inr e)) (λe=>by omega)
  ·subst he;exact⟨by rw[show((b:Int)+1)=((b+1:Nat):Int) by omega],l,n,M,ac,a.na,a.nt⟩
 have aB:Hid (m=6->∀l n wr,NJ w z p c r t u d f i s (q m) m l n wr->Kw z p c r t u w d f (b+1) (q m) (.returned (.tuple #[.int .i64 ((b:Int)+1),.bool true])) wr):=λ_ l n wr a=>⟨by rw[show((b:Int)+1)=((b+1:Nat):Int) by omega],l,n,a.rd,a.fr,a.na,a.nt⟩
 have aD:Hid (∀j,j<m->P j≠0):=λj hj=>(L j hj).2.2
 have I:=Db ar;have G:=Db e1;obtain⟨QM,aO⟩:∃Q,Q=q m:=⟨_,rfl⟩;clear e1 x1 N s1 b1 ar ae h hB hs L av A au aJ ag aK;go_enter func242,ntmps242;go_upto_region 1 with fail;rw[show w.alloc (.cells #[.slice (some ⟨i,1,none⟩) 63 63] 287)=W1 from Da G];go_wp2
 go_loopw [4,5] (λi4 i5 wr=>∃(j n4:Nat) (b5:Bool),j<=m/\i4=.int .i64 (n4:Nat)/\i5=.bool b5/\Hid (0<j->n4=b)/\Hid (∃l n,NJ w z p c r t u d f i s (q j) j l n wr)) (λ_ _ wr=>KE w.heap.size wr)
 case atStart=>exact⟨0,0,false,by omega,rfl,rfl,λe=>absurd e (by omega),d,f,Da I⟩
 case round=>
  obtain⟨j,n4,b5,aw,rfl,rfl,am,H⟩:=hrel;obtain⟨l,n,a⟩:=Da H;obtain⟨a2,c2,B,-,-,-⟩:=a.bf;obtain⟨F,ag⟩:=ex (63-10*j);rw[<-ag]at B;have c0:=(B.cell 0).trans (show _=some (Value.slice a2 F c2) from rfl);have aL:=P8 c0;by_cases af:j<6
  ·have C:=Da aE j aw af l n wr a;have aR:(10:Int)<=(F:Int):=by omega
   by_cases o:j<m
   ·have aV:=Da aD j o;simp only[if_pos o]at C;have J:=Db C;have aW:((P j:Nat):Int)≠0:=by omega
    clear a H B C I G;go_wp2_with(go_at_call 238;refine(Da J).mono ?_;rintro e Y⟨rfl,Z,hZ,z0,z1,V,T⟩);have ak:=Db (Da V o);clear V T;go_wp2_with(go_at_call 202;refine(Da ak).mono ?_;rintro e U⟨rfl,al⟩);have ax:KE w.heap.size U<KE w.heap.size wr:=by
     obtain⟨R,S,aH⟩:=Da al;obtain⟨E,K,N,-,-,-⟩:=aH.bf;have hk:=P8 ((N.cell 0).trans (show _=some (Value.slice E (63-10*(j+1)) K) from rfl));omega
    have aC:=Db ax;clear ax aL ak z0 z1 J
    go_roundw
    case rel=>exact⟨j+1,b,true,by omega,rfl,rfl,λ_=>rfl,Da al⟩
    case measure=>exact Da aC
   ·obtain rfl:j=m:=by omega
    simp only[if_neg o]at C;have J:=Db C;have aa:=Da am (by omega);subst aa;clear a H B C I G;go_wp2_with(go_at_call 238;refine(Da J).mono ?_;rintro e Y⟨rfl,Z,hZ,z0,z1,V,T⟩);have hE:=Da T trivial;rw[<-hZ]at hE;exact Ap (by simp[results,results242,go_sem]<;>rfl) rfl hE
  ·obtain rfl:j=m:=by omega
   have aa:=Da am (by omega);subst aa;have aq:=Da aB (by omega) l n wr a;have aU:¬(10:Int)<=(F:Int):=by omega
   have aA:=Db aq;clear a H B I G aq;go_wp2;exact Ap (by simp[results,results242,go_sem]<;>rfl) rfl (Da aA)
def BL(s:By):List UInt8:=s.data.toList
theorem DK(s:By):(BL s).length=s.size:=AG
theorem Jy(a b:By):BL (a++b)=BL a++BL b:=by unfold BL;simp
theorem J8(s:By)(i j:Nat):BL (s.extract i j)=((BL s).drop i).take (j-i):=by unfold BL;rw[Cb]
theorem Ku{a b:By}(h:BL a=BL b):a=b:=A8 (by unfold BL at h;exact h)
theorem KW(s:By)(n:Nat):BL (Di s n)=(BL s++List.replicate n 0).take n:=by
 unfold Di
 split
 ·rename_i h;rw[J8,BV,E9,A3 (by rw[DK];exact h)]
 ·rename_i h;rw[Jy];have e:BL (⟨(List.replicate (n-s.size) 0).toArray⟩:By)=List.replicate (n-s.size) 0:=by unfold BL;simp
  rw[e,Ca,Ag (by rw[DK];omega),DK,BM]
  congr 2;omega
theorem Vg(T:By):∀j,BL (DE T j)=(BL T).drop (10*j)
 |0=>by simp[DE]
 |j+1=>by
  unfold DE;rw[J8,Vg T j,Ag (by rw[Az,Az,DK,Ur];omega),List.drop_drop]
  congr 1
theorem Pn(s:By)(h:2<=s.size):GA s=DQ ((BL s).take 2):=by
 unfold GA;show DQ (BL (Di s 2))=_;rw[KW,A3 (by rw[DK];exact h)]
theorem Sg(s:By)(h:10<=s.size):GE s=DQ (((BL s).drop 2).take 8):=by
 unfold GE;show DQ (BL (Di (s.extract 2 s.size) 8))=_;have e:BL (s.extract 2 s.size)=(BL s).drop 2:=by rw[J8,Ag (by rw[Az,DK];exact Aa _)]
 rw[KW,e,A3 (by rw[Az,DK];omega)]
def D5(f:Nat->List UInt8):Nat->List UInt8
 |0=>[]
 |n+1=>D5 f n++f n
theorem Qv{f:Nat->List UInt8}{m:Nat}(a:∀k,(f k).length=m):∀n,(D5 f n).length=m*n
 |0=>by simp[D5]
 |n+1=>by unfold D5;rw[Ab,Qv a n,a,Nat.mul_succ]
theorem Rr{f:Nat->List UInt8}{m:Nat}(a:∀k,(f k).length=m):∀(n k:Nat),k<n->((D5 f n).drop (m*k)).take m=f k
 |0,k,h=>by omega
 |n+1,k,h=>by
  unfold D5;have b:=Qv a n;by_cases e:k=n
  ·subst e;rw[<-b,EG,Ag (by rw[a];exact Aa _)]
  ·have hk:m*k+m<=m*n:=by rw[<-Nat.mul_succ];exact E0 m (by omega)
   rw[ED (by rw[b];omega),A3 (by rw[Az,b];omega)];exact Rr a n k (by omega)
def D7(p x:Nat):List UInt8:=DD p 2++DD x 8
theorem KP(p x:Nat):(D7 p x).length=10:=by unfold D7;rw[Ab,Jd,Jd]
theorem Pz(p x:Nat):BL (DI p x)=D7 p x:=by unfold BL DI D7;simp
theorem Su(kk:UInt8)(s:By)(a i:Nat):BL (DW (Dx kk s a i))=(BL (Hy s a i)++List.replicate 63 0).take 63:=by
 unfold DW Dx;rw[J8,Jy,show BL (⟨#[kk]⟩:By)=[kk] from rfl];rw[show([kk]++BL (Di (Hy s a i) 63)).drop 1=BL (Di (Hy s a i) 63) from rfl,Ag (by rw[DK,Jc];exact Aa _),KW]
theorem ref_at{c:By}{f:Nat->List UInt8}(a:∀k,(f k).length=10){n:Nat}(e:BL c=D5 f n)(i j:Nat)(hj:j<6):
  (BL (DE (DW (Dx 2 c 60 i)) j)).take 10=if 6*i+j<n then f (6*i+j) else List.replicate 10 0:=by
 have b:=Qv a n;rw[Vg,Su];unfold Hy;rw[J8,e,show i*60+60-i*60=60 by omega];rw[Fo,B3,show min 10 (63-10*j)=10 by omega];by_cases h:6*i+j<n
 ·rw[if_pos h,<-Rr a n _ h];have aa:10*j+10<=(((D5 f n).drop (i*60)).take 60).length:=by rw[An,Az,b];omega
  rw[ED (by omega),A3 (by rw[Az];omega),Fo,List.drop_drop,B3,show min 10 (60-10*j)=10 by omega,show i*60+10*j=10*(6*i+j) by omega]
 ·rw[if_neg h];have d:(((D5 f n).drop (i*60)).take 60).length<=10*j:=by rw[An,Az,b];omega
  rw[List.drop_append,CN d,AD,CP,BM]
  congr 1;omega
theorem ZM{a:By}{P X:Nat->Nat}(e:∀k,P k<65536)(g:∀k,X k<18446744073709551616){n:Nat}(o:BL a=D5 (λk=>D7 (P k) (X k)) n)(i j:Nat)(m:j<6):
  GA (DE (DW (Dx 2 a 60 i)) j)=(if 6*i+j<n then P (6*i+j) else 0)/\GE (DE (DW (Dx 2 a 60 i)) j)=(if 6*i+j<n then X (6*i+j) else 0):=by
 have b:=ref_at (f:=λk=>D7 (P k) (X k)) (λk=>KP _ _) o i j m;have aa:(DE (DW (Dx 2 a 60 i)) j).size=63-10*j:=by
  rw[Ur];have:(DW (Dx 2 a 60 i)).size=63:=by unfold DW;rw[Ah,Qc];rfl
  rw[this]
 rw[Pn _ (by omega),Sg _ (by omega)];generalize BL (DE (DW (Dx 2 a 60 i)) j)=l at b ⊢
 have c:l.take 2=(l.take 10).take 2:=by rw[B3];rfl
 have d:(l.drop 2).take 8=(l.take 10).drop 2:=by rw[Fo]
 rw[c,d,b];by_cases h:6*i+j<n
 ·simp only[if_pos h];unfold D7;rw[BY (Jd 2 _),Er (Jd 2 _),KO 2 _ (e _),KO 8 _ (g _)];exact⟨rfl,rfl⟩
 ·simp only[if_neg h];exact⟨rfl,rfl⟩
def Bd(B:Nat)(t:List UInt8)(w:World):Prop:=Lib.IsBuilderF 161 5 B B (Lib.byteCells t) w/\B<w.heap.size
def GS(B:Nat)(w w':World):Prop:=Below B w w'/\Lib.OthersKept 5 (some B) w w'
theorem GS.refl(B:Nat)(w:World):GS B w w:=⟨Ak _ _,Lib.OthersKept.refl _ _ _⟩
theorem GS.trans{B:Nat}{a b c:World}(h:GS B a b)(k:GS B b c):GS B a c:=⟨h.1.trans k.1,h.2.trans k.2⟩
theorem GS.below{B:Nat}{w w':World}(h:Bw w w')(a:B<=w.heap.size):GS B w w':=⟨h.mono a,λk _o ho _ _=>(h.block k (Aj.1 ho).1).trans ho⟩
theorem GS.row{B:Nat}{w w':World}(h:GS B w w'){k:Nat}{t:TypeId}{R:F0}(b:FX w k t R)(d:k<B\/k≠B/\t≠5):FX w' k t R:=by
 rcases d with a|⟨a,f⟩
 ·exact(h.1.block k a).trans b
 ·exact h.2 k _ b (λe=>a (BR e)) (λc fz e=>by cases e;exact f rfl)
theorem Bd.below{B:Nat}{t:List UInt8}{w w':World}(h:Bd B t w)(a:Bw w w'):Bd B t w':=by
 have c:∀{p:Value},Lib.BuilderAtF 161 5 B B p (Lib.byteCells t) w->Lib.BuilderAtF 161 5 B B p (Lib.byteCells t) w':=λ⟨d,v,b,e,f⟩=>⟨d,v,(a.block _ (Aj.1 b).1).trans b,e.kept (row:=none) ⟨a.os,a.tape,a.output,a.size,λk g _=>a.block k g⟩ (by cases hv:v.ownBlock<;>simp),f⟩
 exact⟨h.1.imp c c,AY h.2 a.size⟩
theorem Bd.fresh(w:World):Bd w.heap.size [] (w.alloc (.cells #[.pointer none,.slice none 0 0] 161)):=⟨Lib.IsBuilderF.of (Lib.fresh_isBuilder 161 5 w),by simp⟩
theorem Xy(a b:List UInt8):Lib.byteCells a++Lib.byteCells b=Lib.byteCells (a++b):=by simp[Lib.byteCells]
theorem Xz(a:List UInt8):(Lib.byteCells a).length=a.length:=by simp[Lib.byteCells]
theorem Bd.str{B:Nat}{t:List UInt8}{w:World}(h:Bd B t w)(s:By)(hl:t.length+s.size<=100000000):
  Cl 167 #[.pointer (some ⟨B,0,none⟩),.string s] w λe w'=>e=.returned (.tuple #[.int .i64 s.size,.nilIface])/\Bd B (t++BL s) w'/\GS B w w':=by
 refine(Tryz.Builder_WriteString B B _ s w h.1 (by rw[Xz];omega) (CC h.2)).mono ?_;rintro e w'⟨rfl,a,b,c⟩;rw[Lib.strCells_eq,Xy]at a;exact⟨rfl,⟨.inr a,AY h.2 b.size⟩,b,c⟩
theorem Bd.byte{B:Nat}{t:List UInt8}{w:World}(h:Bd B t w)(c:UInt8)(hl:t.length+1<=100000000):
  Cl 173 #[.pointer (some ⟨B,0,none⟩),.int .u8 (c.toNat:Int)] w λe w'=>e=.returned .nilIface/\Bd B (t++[c]) w'/\GS B w w':=by
 refine(Tryz.Builder_WriteByte B B _ _ w h.1 (by rw[Xz];omega) (CC h.2)).mono ?_;rintro e w'⟨rfl,a,b,d⟩;rw[show [Value.int .u8 (c.toNat:Int)]=Lib.byteCells [c] from rfl,Xy]at a;exact⟨rfl,⟨.inr a,AY h.2 b.size⟩,b,d⟩
def Iy(xs:LY):List UInt8:=Lib.join (xs.map BL) [32]++[10]
theorem Wh{B:Nat}{t:List UInt8}{w:World}(h:Bd B t w)(g c:Nat)(xs:LY)(o:∀(j:Nat) x,xs[j]?=some x->w.cell? ⟨g,j,none⟩=some (.string x))(l:g<w.heap.size)(m:xs.length<=c)(y:xs.length<=1000)(f:t.length+(Iy xs).length<=100000000):
  Cl 114 #[.pointer (some ⟨B,0,none⟩),.slice (some ⟨g,0,none⟩) xs.length c] w λe w'=>e=.returned (.tuple #[])/\Bd B (t++Iy xs) w'/\GS B w w':=by
 obtain⟨n,d⟩:=ex xs.length;obtain⟨J,b⟩:∃J:By,J=⟨(Lib.join (xs.map BL) [32]).toArray⟩:=⟨_,rfl⟩;have a:BL J=Lib.join (xs.map BL) [32]:=by rw[b];simp[BL]
 have u:t.length+J.size+1<=100000000:=by
  rw[<-DK,a];unfold Iy at f;simp only[Ab,Al,AK]at f;omega
 have s:Hid (Cl 168 #[.slice (some ⟨g,0,none⟩) n c,.string ⟨#[32]⟩] w λe X=>e=.returned (.string J)/\Hid (Cl 167 #[.pointer (some ⟨B,0,none⟩),.string J] X λe Y=>e=.returned (.tuple #[.int .i64 J.size,.nilIface])/\Hid (Cl 167 #[.pointer (some ⟨B,0,none⟩),.string ⟨#[10]⟩] Y λe Z=>e=.returned (.tuple #[.int .i64 1,.nilIface])/\Hid (Bd B (t++Iy xs) Z/\GS B w Z)))):=by
  have A:(Lib.join (xs.map BL) [32]).length<=140737488355328:=by
   have:=DK J;rw[a]at this;omega
  rw[d];refine(Tryz.strings_Join g 0 c xs ⟨#[32]⟩ w (λj x z=>by rw[Av];exact o j x z) l (by omega) m A).mono ?_;rintro e X⟨rfl,i⟩;refine⟨by rw[b];rfl,?_⟩;refine((h.below i).str J (by omega)).mono ?_;rintro e Y⟨rfl,v,C⟩;refine⟨rfl,?_⟩;refine(v.str ⟨#[10]⟩ (by rw[Ab,DK];show _+_+1<=_;omega)).mono ?_;rintro e Z⟨rfl,k,D⟩;refine⟨rfl,?_,((GS.below i (CC h.2)).trans C).trans D⟩;rw[a,Ax]at k;exact k
 rw[<-d];clear h o d m y f b a u l;go_enter func114,ntmps114;go_upto_region 1 with(first|(go_at_call 168;refine(Da s).mono ?_;rintro e X⟨rfl,p⟩)|(go_at_call 167;refine(Da p).mono ?_;rintro e Y⟨rfl,q⟩));go_wp2_with(go_at_call 167;refine(Da q).mono ?_;rintro e Z⟨rfl,r⟩)
 go_end0
 exact⟨rfl,Da r⟩
section
open Go.RowKit Go.Shelf
attribute [local go_sem] Oper.semAt_some
def J3:By:=⟨#[48,49,50,51,52,53,54,55,56,57,97,98,99,100,101,102]⟩
def IA(n:Nat):UInt8:=J3.data.getD n 0
def KA(b:UInt8):List UInt8:=[IA (b.toNat/16),IA (b.toNat%16)]
def D6(l:List UInt8):List UInt8:=l.flatMap KA
def JE(s:By)(pre:List Nat):List UInt8:=pre.flatMap (λx=>D6 (BL (Hy s 32 x))++[10])
theorem Bd.own{B:Nat}{t:List UInt8}{W W':World}(h:Bd B t W){row:Option Nat}(c:W.grownBy W' row)(n:∀r,row=some r->∃o:Obj,W.heap[r]?=some o/\o.isCells=false):Bd B t W':=by
 have ne:∀{j:Nat} {d:Array Value} {t:TypeId} {z:Nat×Nat},W.heap[j]?=some (Obj.cells d t z)->some j≠row:=λ{j d t z} m e=>by
  obtain⟨o,b,a⟩:=n j e.symm;rw[m]at b;cases b;cases a
 have i:∀{p:Value},Lib.BuilderAtF 161 5 B B p (Lib.byteCells t) W->Lib.BuilderAtF 161 5 B B p (Lib.byteCells t) W':=λ{p} ⟨b,v,a,f,k⟩=>by
  refine⟨b,v,(c.block _ (Aj.1 a).1 (ne a)).trans a,f.kept c ?_,k⟩;rcases f.2 with⟨rfl,_⟩|⟨g,cap,aa,fz,rfl,_,l,_⟩
  ·exact .inl rfl
  ·exact .inr (ne l)
 exact⟨h.1.imp i i,AY h.2 c.size⟩
theorem GS.others{B:Nat}{t:List UInt8}{W W':World}(h:GS B W W')(f:Bd B t W):KeepsOthers W W':=
 ⟨h.1.size,λk o ho b=>by
  refine h.2 k o ho (λe=>?_) (λc fz e=>by rw[e]at b;cases b);obtain⟨p,v,g⟩:∃p v,W.heap[B]?=some (.cells #[p,v] 161 (0,0)):=by
   rcases f.1 with⟨_,v,a,_⟩|⟨_,v,a,_⟩
   ·exact⟨_,v,a⟩
   ·exact⟨_,v,a⟩
  have d:k=B:=BR e;subst d;rw[g]at ho;cases ho;cases b⟩
theorem NA(x:Addr)(j:Nat):(x.add j).block=x.block:=by unfold Addr.add;split<;>rfl
structure Ig(w:World)(B:Nat)(va:OA)(len cap:Nat)(s:By)(T:List UInt8)(W:World):Prop where
 bd:Bd B T W
 b0:FX W w.heap.size 159 [.pointer (some ⟨B,0,none⟩)]
 b1:FX W (w.heap.size+1) 59 [.slice va len cap]
 b2:FX W (w.heap.size+1+1) 3 [.int .i64 32]
 rd:Gp W va len cap s
 fr:GS B w W
 sz:w.heap.size+3<=W.heap.size
section
variable{w:World}{B:Nat}{va:OA}{len cap:Nat}{s:By}{T T':List UInt8}{W W':World}
theorem Ig.on(h:Ig w B va len cap s T W)(hB:B<w.heap.size)(g:∀x,va=some x->x.block<B)(c:Bd B T' W')(a:GS B W W'):Ig w B va len cap s T' W':=by
 have b:=h.sz;refine⟨c,a.row h.b0 (.inr ⟨by omega,by decide⟩),a.row h.b1 (.inr ⟨by omega,by decide⟩),a.row h.b2 (.inr ⟨by omega,by decide⟩),⟨h.rd.1,h.rd.2.1,λj v f=>?_⟩,h.fr.trans a,Af b a.1.size⟩;obtain⟨x,e,d⟩:=h.rd.2.2 j v f;refine⟨x,e,?_⟩;rw[<-d];exact Ay (a.1.block _ (by rw[NA];exact g x e))
theorem Ig.own(h:Ig w B va len cap s T W){row:Option Nat}(a:W.grownBy W' row)(g:∀r,row=some r->w.heap.size+3<=r/\∃o:Obj,W.heap[r]?=some o/\o.isCells=false)(hB:B<w.heap.size)(q:∀x,va=some x->x.block<B):Ig w B va len cap s T W':=by
 have ne:∀{j:Nat} {m:Array Value} {t:TypeId} {z:Nat×Nat},W.heap[j]?=some (Obj.cells m t z)->some j≠row:=λ{j m t z} c e=>by
  obtain⟨o,b,f⟩:=(g j e.symm).2;rw[c]at b;cases b;cases f
 have i:∀{j:Nat} {t:TypeId} {R:F0},FX W j t R->FX W' j t R:=λc=>(a.block _ c.lt (ne c)).trans c
 have l:∀k,k<w.heap.size->some k≠row:=λk d e=>by have:=(g k e.symm).1;omega
 have aa:=h.sz;refine⟨h.bd.own a (λr e=>(g r e).2),i h.b0,i h.b1,i h.b2,⟨h.rd.1,h.rd.2.1,λj v p=>?_⟩,⟨⟨a.os.trans h.fr.1.os,a.tape.trans h.fr.1.tape,a.output.trans h.fr.1.output,Af h.fr.1.size a.size,λk d=>(a.block k (by omega) (l k (by omega))).trans (h.fr.1.block k d)⟩,λk o ho b f=>?_⟩,Af h.sz a.size⟩
 ·obtain⟨x,e,n⟩:=h.rd.2.2 j v p;refine⟨x,e,?_⟩;rw[<-n];have b:=q x e;exact Ay (a.block _ (Am _ _ n) (l _ (by rw[NA];omega)))
 ·have d:=(Aj.1 ho).1;exact(a.block k (by omega) (l k d)).trans (h.fr.2 k o ho b f)
theorem Ig.drew(h:Ig w B va len cap s T W)(a:B<w.heap.size)(b:∀x,va=some x->x.block<B):Ig w B va len cap s T W.drew:=
 h.on a b (h.bd.below (Ak _ _).drew) (GS.below (Ak _ _).drew (CC h.bd.2))
theorem Ig.byte(h:Ig w B va len cap s T W)(f:B<w.heap.size)(i:∀x,va=some x->x.block<B)(c:UInt8)(g:T.length+1<=100000000):
  Cl 173 #[.pointer (some ⟨B,0,none⟩),.int .u8 (c.toNat:Int)] W λe W'=>e=.returned .nilIface/\Ig w B va len cap s (T++[c]) W'/\GS B W W':=
 (h.bd.byte c g).mono λ_ _ ⟨b,d,a⟩=>⟨b,h.on f i d a,a⟩
end
end
section
open Go.RowKit Go.Shelf
attribute [local go_sem] Oper.semAt_some
theorem Ri(l:List UInt8):(D6 l).length=2*l.length:=by
 induction l with
 |nil=>rfl
 |cons a l ih=>show(KA a++D6 l).length=_;rw[Ab,ih];show 2+_=_;simp only[Al];omega
theorem Wi(s:By)(a:List Nat)(x:Nat):JE s (a++[x])=JE s a++(D6 (BL (Hy s 32 x))++[10]):=by
 unfold JE;rw[FG];simp
theorem TN(s:By)(b:List Nat):(JE s b).length<=65*b.length:=by
 induction b with
 |nil=>exact Aa _
 |cons a l ih=>
  show((D6 (BL (Hy s 32 a))++[10])++JE s l).length<=_;have h1:=Qg s 32 a;rw[Ab,Ab,Ri,DK,Be,Al];omega
theorem SJ{n:Nat}(h:n<J3.size):J3[n]=IA n:=by
 show J3.data[n]=J3.data.getD n 0;unfold Array.getD;rw[dif_pos (show n<J3.data.size from h)]
 rfl
theorem Zl(v:Nat)(hv:v<256):bits BinOp.and IntKind.u8 (v:Int) 15=((v%16:Nat):Int):=by
 have a:(BitVec.ofInt 8 (v:Int)).toNat=v:=by rw[BitVec.ofInt_natCast,BitVec.toNat_ofNat];exact EV (by omega)
 have b:(BitVec.ofInt 8 15).toNat=15:=rfl;show IntKind.u8.wrap ((BitVec.ofInt 8 (v:Int) &&& BitVec.ofInt 8 15).toNat:Int)=_;rw[BitVec.toNat_and,a,b,show v &&& 15=v%16 from Nat.and_two_pow_sub_one_eq_mod v 4];simp[IntKind.wrap,IntKind.bits,IntKind.signed];omega
theorem Wy{B:Nat}{t:List UInt8}{w:World}(h:Bd B t w)(u:OA)(a d:Nat)(s:By)(ac:Gp w u a d s)(au:∀x,u=some x->x.block<B)(hl:a<=1280)(ht:t.length<=50000000)(g off N:Nat)(hN:N=(a+32-1)/32)(S:0<N->u=some ⟨g,off,none⟩)(ab:∀W:World,FX W (w.heap.size+1) 59 [.slice u a d]->FX W (w.heap.size+1+1) 3 [.int .i64 32]->∃Sp:List Nat->Prop,SeqStopsK Fence.wide 2 prog 220 #[.pointer (some ⟨w.heap.size+1,0,none⟩),.pointer (some ⟨w.heap.size+1+1,0,none⟩)] (λk:Nat => #[Io g off 32 a k]) (λA A'=>A'.heap[w.heap.size+1]?=A.heap[w.heap.size+1]?/\A'.heap[w.heap.size+1+1]?=A.heap[w.heap.size+1+1]?) (λys=>ys=List.range N) Sp N W):
  Cl 117 #[.pointer (some ⟨B,0,none⟩),.slice u a d] w λe w'=>e=.returned (.tuple #[])/\Bd B (t++JE s (List.range N)) w'/\GS B w w':=by
 have F:=h.2;obtain⟨W1,R,x1,k1,s1,b1⟩:=De w [.pointer (some ⟨B,0,none⟩)] 159;obtain⟨W2,e2,x2,k2,s2,b2⟩:=De W1 [.slice u a d] 59;obtain⟨Y,e3,x3,k3,s3,b3⟩:=De W2 [.int .i64 32] 3;have aa:Bw w Y:=b1.trans ((b2.mono (by omega)).trans (b3.mono (by omega)));have y1:=k3 _ _ _ (k2 _ _ _ x1);have y2:=k3 _ _ _ x2;have t2:W2.heap.size=w.heap.size+1+1:=by omega
 have M:Y.heap.size=w.heap.size+3:=by omega
 rw[s1]at y2;rw[t2]at x3;have ak:Ig w B u a d s t Y:=⟨h.below aa,y1,y2,x3,ac.below aa,GS.below aa (CC F),by omega⟩;obtain⟨Sp,ab⟩:=ab Y y2 x3;have aA:=Db ak;have aC:=Db ab;have aj:=Db M;have HG:=Db S;have ax:=Db R;have ay:=Db e2;have az:=Db e3;have aO:N<=40:=by omega
 have HN:=Db hN;have Q:=Db au;have O:=Db F;have ap:a=s.size:=ac.1;have aB:=Db ap;clear x1 x2 x3 k1 k2 k3 s1 s2 s3 b1 b2 b3 y1 y2 t2 M R e2 e3 aa ak ac h ab S hN au F ap;refine(A2 (n:=3)).1 ?_;refine Br func117 rfl trivial ?_ rfl;simp only[ntmps117,AM,Al,AK,Nat.reduceAdd,Nat.reduceSub,AQ,AP,AZ,AT,AD,AN]
 gi_wp2_with (refine⟨trivial,?_⟩;gi_at_call 172;refine(Uk _ 32 (by omega) (by omega) _ _ ⟨_,_,_,rfl⟩).mono ?_;rintro e w'⟨rfl,rfl⟩)
 rw[show w.alloc (.cells #[.pointer (some ⟨B,0,none⟩)] 159)=W1 from Da ax,show W1.alloc (.cells #[.slice u a d] 59)=W2 from Da ay,show W2.alloc (.cells #[.int .i64 32] 3)=Y from Da az];have M:=Da aj;have F:=Da O;refine CO (α:=Nat) rfl (by omega) (gf:=220) (lb:=#[.pointer (some ⟨w.heap.size+1,0,none⟩),.pointer (some ⟨w.heap.size+1+1,0,none⟩)]) rfl trivial (EB func220 (by kernel_rfl) rfl)
  (Da aC)
  (λj p=>⟨p.1.trans j.1,p.2.trans j.2⟩)
  (λX l o o' hl ho _ _=>⟨Bs (by omega),Bs (by omega)⟩)
  (Ak _ _) (λ_=>rfl)
  (λf X=>Ig w B u a d s (t++JE s f) X/\f.length<=N)
  (λ_ _ _=>False)
  (λf A B row hs S hr=>⟨hs.1.own S (λr e=>by rw[<-M];exact hr r e) F (Da Q),hs.2⟩)
  (λ_ _ _ _ _ hs _ _=>hs)
  ⟨by rw[show t++JE s []=t from Cf t];exact Da aA,Au _⟩
  (λx=>{ tmps:=#[.pointer (some ⟨B,0,none⟩),.slice u a d,.pointer (some ⟨w.heap.size,0,none⟩),undef,Io g off 32 a x,undef,undef,.slice u a d,.func (.func 220) #[] #[.pointer (some ⟨w.heap.size+1,0,none⟩),.pointer (some ⟨w.heap.size+1+1,0,none⟩)],Io g off 32 a x,undef,undef,undef,undef,undef,undef,undef,undef,undef,undef,undef,undef,undef,undef,undef,undef,undef,undef,undef],defers:=[] })
  ?assign ?body ?done ?stop
 case assign=>
  intro l x X K C;clear M F
  gi_wp2
  exact C
 case body=>
  rintro l f x W⟨G,aP⟩ aQ;have aJ:=Da HG (by omega);subst aJ;obtain⟨m,hm⟩:=ex (min 32 (a-x*32));obtain⟨q,hq⟩:=ex (off+x*32);have an:Io g off 32 a x=.slice (some ⟨g,q,none⟩) m m:=by unfold Io;rw[hm,hq]
  obtain⟨P,hP⟩:∃P:List UInt8,P=BL (Hy s 32 x):=⟨_,rfl⟩;have al:P.length=m:=by rw[hP,DK,Qg,hm,Da aB]
  have aR:m<=32:=by omega
  have ao:(t++JE s f).length<=50010000:=by
   have:=TN s f;rw[Ab];omega
  have ai:Hid (∀(k:Nat) b X T,P[k]?=some b->Ig w B (some ⟨g,off,none⟩) a d s T X->X.cell? ⟨g,q+k,none⟩=some (.int .u8 (b.toNat:Int))):=λk b X T hb hX=>by
   have j:=(hX.rd.chunk 32 x).2.2 k (.int .u8 (b.toNat:Int)) (by unfold Dc;rw[Bc];show((BL (Hy s 32 x))[k]?).map _=_;rw[<-hP,hb];rfl);obtain⟨y,e,hc⟩:=j
   cases e
   rw[AI,<-hq]at hc;exact hc
  have HC:Hid (∀(c:UInt8) T X,T.length<=60000000->Ig w B (some ⟨g,off,none⟩) a d s T X->Cl 173 #[.pointer (some ⟨B,0,none⟩),.int .u8 (c.toNat:Int)] X λe E=>e=.returned .nilIface/\E.cell? ⟨w.heap.size,0,none⟩=some (.pointer (some ⟨B,0,none⟩))/\Hid (Ig w B (some ⟨g,off,none⟩) a d s (T++[c]) E/\GS B X E)):=λc T X hT hX=>(hX.byte F (Da Q) c (by omega)).mono λe E ⟨j,p,h3⟩=>⟨j,(p.b0.cell 0).trans rfl,p,h3⟩
  have ad:Hid (Ig w B (some ⟨g,off,none⟩) a d s (t++JE s f++D6 (P.take 0)) W/\GS B W W):=⟨by rw[Cs];exact(Cf (t++JE s f)).symm ▸ G,GS.refl _ _⟩;have HI:=Db G;have HP:=Db hP;have ah:=Db al;have ae:=Db ao;clear M G hP al hm hq ao F;rw[an];clear an
  gi_wp2
  gi_loopw [12] (λi wr=>∃k:Nat,k<=m/\i=.int .i64 (k:Nat)/\Hid (Ig w B (some ⟨g,off,none⟩) a d s (t++JE s f++D6 (P.take k)) wr/\GS B W wr)) (λi _=>m-(intOf i).toNat)
  case atStart=>exact⟨0,Au _,rfl,ad⟩
  case round=>
   obtain⟨k,hk,rfl,U⟩:=hrel;clear ad;by_cases aG:k<m
   ·obtain⟨b,hb⟩:∃b,P[k]?=some b:=⟨_,Ac (by rw[Da ah];exact aG)⟩;have aE:=Da ai k b wr _ hb (Da U).1;have c0:wr.cell? ⟨w.heap.size,0,none⟩=some (.pointer (some ⟨B,0,none⟩)):=((Da U).1.b0.cell 0).trans rfl;obtain⟨v,hv⟩:∃v:Nat,v=b.toNat:=⟨_,rfl⟩;have aI:v<256:=by rw[hv];exact b.toNat_lt
    rw[<-hv]at aE;obtain⟨n1,aq⟩:∃n,n=v/16:=⟨_,rfl⟩;obtain⟨L,ar⟩:∃n,n=v%16:=⟨_,rfl⟩;have aK:n1<16:=by omega
    have aL:L<16:=by omega
    have av:=Db hb;have HV:=Db hv;have af:=Db aq;have ag:=Db ar;have aF:(k:Int)<(m:Int):=by omega
    clear hb hv aq ar;have aw:Hid (Cl 173 #[.pointer (some ⟨B,0,none⟩),.int .u8 ((IA n1).toNat:Int)] wr.drew λe E=>e=.returned .nilIface/\E.cell? ⟨w.heap.size,0,none⟩=some (.pointer (some ⟨B,0,none⟩))/\Hid (Cl 173 #[.pointer (some ⟨B,0,none⟩),.int .u8 ((IA L).toNat:Int)] E.drew λe Z=>e=.returned .nilIface/\Z.cell? ⟨w.heap.size,0,none⟩=some (.pointer (some ⟨B,0,none⟩))/\Hid (Ig w B (some ⟨g,off,none⟩) a d s (t++JE s f++D6 (P.take (k+1))) Z/\GS B W Z))):=by
     obtain⟨j,p⟩:=Da U;have aH:(t++JE s f++D6 (P.take k)).length<=50020000:=by
      have:=Da ae;rw[Ab,Ri,An];omega
     refine(Da HC (IA n1) _ wr.drew (by omega) (j.drew (Da O) (Da Q))).mono ?_;rintro e E⟨rfl,h3,H⟩;refine⟨rfl,h3,?_⟩;obtain⟨H,h5⟩:=Da H;refine(Da HC (IA L) _ E.drew (by rw[Ab,Be];omega) (H.drew (Da O) (Da Q))).mono ?_;rintro e Z⟨rfl,h6,h7⟩;obtain⟨h7,h8⟩:=Da h7;refine⟨rfl,h6,?_,(p.trans ((GS.below (Ak _ _).drew (CC j.bd.2)).trans h5)).trans ((GS.below (Ak _ _).drew (CC H.bd.2)).trans h8)⟩;have R:D6 (P.take (k+1))=D6 (P.take k)++[IA n1,IA L]:=by
      rw[BK,Da av];unfold D6;rw[FG]
      congr 1
      show KA b++[]=_;unfold KA;rw[<-Da HV,<-Da af,<-Da ag];rfl
     rw[R]
     simpa [List.append_assoc] using h7
    clear HC ai
    gi_wp2
    refine Qw (λV=>V.cell? ⟨w.heap.size,0,none⟩=some (.pointer (some ⟨B,0,none⟩))) (by kernel_rfl) (λJ=>by obtain⟨_,_,J⟩:=J;exact J) (by kernel_rfl) c0 (λaD=>?_);refine tk 0 ?_;refine tk 1 ?_;refine A5 (i:=2) (v:=.int .u8 (n1:Nat)) rfl (by kernel_rfl) (by kernel_rfl) (by kernel_rfl) (λ_ _ _ h=>h) (Or.inl ⟨by rfl,?_⟩) (by assumption) ?_
    ·intro w I;(try dsimp only at I);go_simp;have:=Da af;omega
    try simp only[pE]
    refine A5 (i:=3) (v:=.int .u8 ((IA n1).toNat:Int)) rfl (by kernel_rfl) (by kernel_rfl) (by kernel_rfl) (λ_ _ _ h=>h) (Or.inl ⟨by rfl,?_⟩) (by assumption) ?_
    ·intro w I;(try dsimp only at I);go_simp;rw[dif_pos (show((n1:Nat):Int)<16 by omega)];exact Cu (λz:UInt8=>Result.ok (Next.value (.int .u8 (z.toNat:Int))) w) (SJ (show _<16 by omega))
    try simp only[pE]
    refine rk 4 (λK C=>?_);go_simp;go_at_call 173;refine(Da aw).mono ?_;rintro e X1⟨rfl,c1,H2⟩;go_wp2_with fail;refine C.out _ _ c1 (λaM=>?_);clear C K
    try simp only[pE]
    refine AO (by kernel_rfl) ?_ _
    gi_wp2
    refine Qw (λV=>V.cell? ⟨w.heap.size,0,none⟩=some (.pointer (some ⟨B,0,none⟩))) (by kernel_rfl) (λJ=>by obtain⟨_,_,J⟩:=J;exact J) (by kernel_rfl) c1 (λaD=>?_);refine tk 0 ?_;refine tk 1 ?_;refine A5 (i:=2) (v:=.int .u8 (L:Nat)) rfl (by kernel_rfl) (by kernel_rfl) (by kernel_rfl) (λ_ _ _ h=>h) (Or.inl ⟨by rfl,?_⟩) (by assumption) ?_
    ·intro w I;(try dsimp only at I);go_simp;rw[Zl v aI,<-Da ag]
    try simp only[pE]
    refine A5 (i:=3) (v:=.int .u8 ((IA L).toNat:Int)) rfl (by kernel_rfl) (by kernel_rfl) (by kernel_rfl) (λ_ _ _ h=>h) (Or.inl ⟨by rfl,?_⟩) (by assumption) ?_
    ·intro w I;(try dsimp only at I);go_simp;rw[dif_pos (show((L:Nat):Int)<16 by omega)];exact Cu (λz:UInt8=>Result.ok (Next.value (.int .u8 (z.toNat:Int))) w) (SJ (show _<16 by omega))
    try simp only[pE]
    refine rk 4 (λK C=>?_);go_simp;go_at_call 173;refine(Da H2).mono ?_;rintro e Z⟨rfl,c2,H3⟩;go_wp2_with fail;refine C.out _ _ c2 (λaN=>?_);clear C K
    try simp only[pE]
    refine AO (by kernel_rfl) ?_ _
    gi_wp2
    go_roundw
    case rel=>exact⟨k+1,by omega,by go_num,H3⟩
    case measure=>simp[intOf];omega
   ·obtain rfl:k=m:=by omega
    have c0:wr.cell? ⟨w.heap.size,0,none⟩=some (.pointer (some ⟨B,0,none⟩)):=((Da U).1.b0.cell 0).trans rfl;have aF:¬(k:Int)<(k:Int):=by omega
    have HE:Hid (Cl 167 #[.pointer (some ⟨B,0,none⟩),.string ⟨#[10]⟩] wr λe X=>e=.returned (.tuple #[.int .i64 1,.nilIface])/\Hid (Ig w B (some ⟨g,off,none⟩) a d s (t++JE s (f++[x])) X/\GS B W X)):=by
     obtain⟨j,p⟩:=Da U;have aH:(D6 (P.take k)).length<=64:=by
      rw[Ri,An];omega
     refine(j.bd.str ⟨#[10]⟩ (by rw[Ab];have:=Da ae;show _+1<=_;omega)).mono ?_;rintro e X⟨rfl,h3,H⟩;refine⟨rfl,?_,p.trans H⟩;have R:t++JE s (f++[x])=t++JE s f++D6 (P.take k)++BL ⟨#[10]⟩:=by
      rw[Wi,<-Da HP,Ag (by rw[Da ah];exact Aa _)];simp only[Ax]
      rfl
     rw[R];exact j.on (Da O) (Da Q) h3 H
    gi_wp2_with (refine⟨trivial,?_⟩;gi_at_call 167;refine(Cx _ (A2.2 (Da HE))).mono ?_;rintro e X⟨rfl,H9⟩)
    obtain⟨j,p⟩:=Da H9;have G:=Da HI;have F:=Da O;exact⟨p.others G.bd,⟨(p.row G.b1 (.inr ⟨by omega,by decide⟩)).trans (Eq.symm G.b1),(p.row G.b2 (.inr ⟨by omega,by decide⟩)).trans (Eq.symm G.b2)⟩,j,by rw[Ab,Be];omega⟩
 case done=>
  rintro D ys X hD rfl⟨hR,_⟩ C;have HR:=Db hR;clear hR
  gi_wp2
  have hR:=Da HR;have M:=Da aj;refine⟨by simp,.inl ⟨_,_,rfl,BP C,?_⟩⟩;have S:X.grownBy (X.putObj D (.deferred none)) (some D):=⟨rfl,rfl,rfl,by simp[World.putObj],λk _ hk=>by
   simp only[World.putObj];rw[A7,if_neg (λe=>hk (by rw[e]))]⟩
  have am:=hR.own S (λr e=>by cases e;exact⟨by omega,_,C,rfl⟩) (Da O) (Da Q);exact⟨_,Eb rfl _ _ _,rfl,am.bd,am.fr⟩
 case stop=>
  rintro D c f X _ _ h _;exact h.elim
end
def JJ(s:By):List UInt8:=JE s (List.range ((s.size+32-1)/32))
theorem TL(s:By)(h:s.size<=1280):(JJ s).length<=2600:=by
 have:=TN s (List.range ((s.size+32-1)/32));rw[AU]at this;unfold JJ;omega
theorem Zku{B:Nat}{t:List UInt8}{w:World}(h:Bd B t w)(n:OA)(b f:Nat)(s:By)(p:Sl w 5 1 (.slice n b f) b (Dc s))(F:∀k,Own (.slice n b f) k->k<B)(hl:s.size<=1280)(r:t.length<=50000000):
  Cl 117 #[.pointer (some ⟨B,0,none⟩),.slice n b f] w λe w'=>e=.returned (.tuple #[])/\Bd B (t++JJ s) w'/\GS B w w':=by
 have m:b=s.size:=by have:=p.1;rw[Dg]at this;omega
 rcases p.2 with⟨e,h0⟩|⟨g,c,L,e,C,E,ab,aa,z⟩
 ·cases e
  have q:s.size=0:=by omega
  have:=Wy h none 0 0 s ⟨m,λ_=>rfl,λj v d=>by
   have:=(Ae.1 d).1;rw[Dg,q]at this;omega⟩ (λx e=>by cases e) (by omega) r 0 0 0 rfl (λe=>by omega) (λW i l=>⟨_,Vm 2 (w.heap.size+1) (w.heap.size+1+1) 32 W i.lt ((i.cell 0).trans rfl) _⟩)
  unfold JJ;rw[q];exact this
 ·cases e
  have D:g<B:=F g (by simp[Own,Value.ownBlock]);have:=Wy h (some ⟨g,0,none⟩) b f s ⟨m,λe=>(by cases e),λj v d=>⟨_,rfl,by
   rw[AI,Av,C.cell];have hj:=(Ae.1 d).1;rw[<-z,Ao]at d
   split at d
   ·exact d
   ·cases d⟩⟩ (λx e=>by cases e;exact D) (by omega) r g 0 ((b+32-1)/32) rfl (λ_=>rfl) (λW i l=>⟨_,Ol 2 (by omega) (w.heap.size+1) (w.heap.size+1+1) g 0 32 b f (by omega) (by omega) E (by omega) _ rfl W i.lt l.lt ((i.cell 0).trans rfl) ((l.cell 0).trans rfl) _ (λA A' o u y=>⟨(Ay (w:=A) (a:=⟨w.heap.size+1,0,none⟩) o.1).trans u,(Ay (w:=A) (a:=⟨w.heap.size+1+1,0,none⟩) o.2).trans y⟩)⟩)
  unfold JJ;rw[<-m];exact this
def Il(n:Nat):By:=⟨(Lib.itoa (n:Int)).toArray⟩
def IM(C told:NB)(y:It):List UInt8:=
 if y.k=1 then Iy [⟨#[100]⟩,jn y.ns] else if y.k=2 then Iy [⟨#[102]⟩,jn y.ns,Il (C y.f).size]++JJ (C y.f) else Iy [⟨#[108]⟩,jn y.ns,told y.f]
def I5(told:NB)(y:It):NB:=if y.k=2 then(λn=>if n=y.f then jn y.ns else told n) else told
def Ll(C:NB)(st:List UInt8×(NB))(y:It):List UInt8×(NB):=(st.1++IM C st.2 y,I5 st.2 y)
def GN(C:NB)(L:List It):List UInt8×(NB):=L.foldl (Ll C) ([115,105,108,116,10],λ_=>⟨#[]⟩)
theorem Z2(C:NB)(L:List It)(y:It):GN C (L++[y])=Ll C (GN C L) y:=by unfold GN;rw[List.foldl_append];rfl
theorem Z0(a b:By):(Iy [a,b]).length=a.size+b.size+2:=by
 show(Lib.join [BL a,BL b] [32]++[10]).length=_;simp[Lib.join,DK];omega
theorem Re(a b c:By):(Iy [a,b,c]).length=a.size+b.size+c.size+3:=by
 show(Lib.join [BL a,BL b,BL c] [32]++[10]).length=_;simp[Lib.join,DK];omega
theorem TH(n:Nat)(hn:n<=1280):(Il n).size<=21:=by
 have:=Lib.itoa_length_le (n:Int) (by omega) (by omega);show(Lib.itoa (n:Int)).toArray.size<=_
 simpa using this
theorem Tq(C told:NB)(y:It)(hp:(jn y.ns).size<=100)(a:y.k=2->(C y.f).size<=1280)(ht:(told y.f).size<=100):(IM C told y).length<=3000:=by
 unfold IM
 split
 ·rw[Z0];show 1+_+2<=_;omega
 ·split
  ·rename_i h;have:=TL _ (a h);have:=TH (C y.f).size (a h);rw[Ab,Re];show 1+_+_+3+_<=_;omega
  ·rw[Re];show 1+_+_+3<=_;omega
theorem SW{C:NB}:∀(L:List It) (st:List UInt8×(NB)),(∀n,(st.2 n).size<=100)->(∀y∈L,(jn y.ns).size<=100/\(y.k=2->(C y.f).size<=1280))->(L.foldl (Ll C) st).1.length<=st.1.length+3000*L.length/\∀n,((L.foldl (Ll C) st).2 n).size<=100
 |[],st,h0,_=>⟨Aa _,h0⟩
 |y::L,st,h0,h=>by
  obtain⟨a,c⟩:=h y (by simp);obtain⟨h1,b⟩:=SW L (Ll C st y) (λn=>by
   show(I5 st.2 y n).size<=100;unfold I5
   split
   ·show(if n=y.f then jn y.ns else _).size<=100
    split
    ·exact a
    ·exact h0 n
   ·exact h0 n) (λz d=>h z (AF _ d))
  refine⟨?_,b⟩;have h5:(Ll C st y).1.length=st.1.length+(IM C st.2 y).length:=Ab;have:=Tq C st.2 y a c (h0 _);show(L.foldl (Ll C) (Ll C st y)).1.length<=_;rw[Al];omega
theorem Ze{C:NB}(L:List It)(h:∀y∈L,(jn y.ns).size<=100/\(y.k=2->(C y.f).size<=1280)):(GN C L).1.length<=5+3000*L.length/\∀n,((GN C L).2 n).size<=100:=
 SW L _ (λ_=>Au _) h
def KC(told:NB):F0:=(List.range 60).map (λn => .string (told n))
theorem Tc(told:NB){n:Nat}(h:n<60):(KC told)[n]?=some (.string (told n)):=by
 unfold KC;rw[Bc,Cd h];rfl
theorem ZX(told:NB)(n:Nat)(p:By):(KC told).set n (.string p)=KC (λk=>if k=n then p else told k):=by
 apply Ep;intro i;rw[Fl];unfold KC;rw[AL,AU,Bc,Bc];by_cases a:i<60
 ·rw[Cd a];by_cases e:n=i
  ·rw[if_pos e,if_pos (by omega)];show _=some (Value.string (if i=n then p else told i));rw[if_pos e.symm]
  ·rw[if_neg e];show some (Value.string (told i))=some (Value.string (if i=n then p else told i));rw[if_neg (λh=>e h.symm)]
 ·rw[BA (by rw[AU];omega)]
  split
  ·split
   ·omega
   ·rfl
  ·rfl
def IF(B:Nat)(W W':World):Prop:=Below B W W'/\∀k o,W.heap[k]?=some o->k≠B->k≠B+1->(∀c fz,o≠.cells c 5 fz)->W'.heap[k]?=some o
theorem GS.of{B:Nat}{W a:World}(h:GS B W a):IF B W a:=⟨h.1,λk o ho b _ c=>h.2 k o ho (λe=>b (BR e)) c⟩
theorem IF.trans{B:Nat}{a b c:World}(h:IF B a b)(k:IF B b c):IF B a c:=⟨h.1.trans k.1,λi o ho d e f=>k.2 i o (h.2 i o ho d e f) d e f⟩
theorem IF.row{B:Nat}{W a:World}(h:IF B W a){k:Nat}{t:TypeId}{R:F0}(f:FX W k t R)(b:k≠B)(d:k≠B+1)(g:t≠5):FX a k t R:=h.2 k _ f b d (λc fz e=>by cases e;exact g rfl)
theorem IF.below{B:Nat}{W a:World}(h:Bw W a)(b:B<=W.heap.size):IF B W a:=⟨h.mono b,λk _o ho _ _ _=>(h.block k (Aj.1 ho).1).trans ho⟩
structure Hq(w:World)(Bt tb:Nat)(T:List UInt8)(told:NB)(X:World):Prop where
 bd:Bd w.heap.size T X
 tl:FX X (w.heap.size+1) 162 (KC told)
 bt:FX X Bt 37 [.pointer (some ⟨tb,0,none⟩)]
 fr:Bw w X
 lo:w.heap.size+1<Bt
section
variable{w:World}{Bt tb:Nat}{T T':List UInt8}{told:NB}{X X':World}
theorem Hq.on(h:Hq w Bt tb T told X)(b:Bd w.heap.size T' X')(a:GS w.heap.size X X'):Hq w Bt tb T' told X':=by
 have:=h.lo;exact⟨b,a.row h.tl (.inr ⟨by omega,by decide⟩),a.row h.bt (.inr ⟨by omega,by decide⟩),h.fr.trans a.1,h.lo⟩
theorem Hq.below(h:Hq w Bt tb T told X)(a:Bw X X'):Hq w Bt tb T told X':=h.on (h.bd.below a) (GS.below a (CC h.bd.2))
theorem Hq.tell(h:Hq w Bt tb T told X)(n:Nat)(p:By):Hq w Bt tb T (λk=>if k=n then p else told k) (X.setCell ⟨w.heap.size+1,n,none⟩ (.string p))/\IF w.heap.size X (X.setCell ⟨w.heap.size+1,n,none⟩ (.string p)):=by
 have ac:=h.lo;have m:X.grownBy (X.setCell ⟨w.heap.size+1,n,none⟩ (.string p)) (some (w.heap.size+1)):=⟨rfl,rfl,rfl,by simp[World.setCell],λk _ r=>Aw _ _ _ _ (λe=>r (by simp[e]))⟩;have l:Bd w.heap.size T (X.setCell ⟨w.heap.size+1,n,none⟩ (.string p)):=by
  have d:∀{v:Value},Lib.BuilderAtF 161 5 w.heap.size w.heap.size v (Lib.byteCells T) X->Lib.BuilderAtF 161 5 w.heap.size w.heap.size v (Lib.byteCells T) (X.setCell ⟨w.heap.size+1,n,none⟩ (.string p)):=λ{v} ⟨i,v,a,b,j⟩=>by
   refine⟨i,v,(Aw _ _ _ _ (by show w.heap.size≠w.heap.size+1;omega)).trans a,b.kept m ?_,j⟩;rcases b.2 with⟨rfl,_⟩|⟨g,aa,ab,fz,rfl,_,q,_⟩
   ·exact .inl rfl
   ·refine .inr (λe=>?_);have f:g=w.heap.size+1:=BR e;subst f;have:=h.tl;unfold FX at this;rw[q]at this
    cases this
  exact⟨h.bd.1.imp d d,by simp[World.setCell];exact h.bd.2⟩
 have c:=h.tl.set n (.string p);rw[ZX]at c;refine⟨⟨l,c,(Aw _ _ _ _ (by show Bt≠w.heap.size+1;omega)).trans h.bt,h.fr.setCell (p:=⟨w.heap.size+1,n,none⟩) (by show w.heap.size<=w.heap.size+1;omega) _,h.lo⟩,(Ak _ X).setCell (p:=⟨w.heap.size+1,n,none⟩) (by show w.heap.size<=w.heap.size+1;omega) _,λk o ho _ a _=>(Aw _ _ _ _ a).trans ho⟩
theorem Hq.line(h:Hq w Bt tb T told X)(xs:LY)(i:xs.length<=1000)(hl:T.length+(Iy xs).length<=10000000):
  Cl 114 #[.pointer (some ⟨w.heap.size,0,none⟩),.slice (some ⟨X.heap.size,0,none⟩) xs.length xs.length] (X.alloc (.cells (xs.map Value.string).toArray 9)) λe Y=>e=.returned (.tuple #[])/\Hq w Bt tb (T++Iy xs) told Y/\IF w.heap.size X Y:=by
 obtain⟨Z,g,d,_,sZ,a⟩:=De X (xs.map Value.string) 9;rw[g];have c:=h.below a;refine(Wh c.bd X.heap.size xs.length xs (λj x k=>?_) d.lt (Aa _) i (by omega)).mono ?_
 ·rw[d.cell,Bc,k];rfl
 ·rintro e Y⟨rfl,f,b⟩;exact⟨rfl,c.on f b,(IF.below a (CC h.bd.2)).trans b.of⟩
theorem Zjp{A b:World}(h:∃k a,b=Sort.grow (A.drewN k) a):Bw A b:=by
 obtain⟨k,a,rfl⟩:=h;refine⟨rfl,rfl,rfl,by rw[Sort.size_grow];exact EW _ _,λj c=>?_⟩;show((A.drewN k).heap++a)[j]? = _;rw[Array.getElem?_append_left (show j<(A.drewN k).heap.size from c)];rfl
end
end Go.Proofs.YtaieidcohdhgpaaGreatDoor
