/- Spoilt. -/
import Derived.Test.YtaieidcohdhgpaaGreatDoorXAX
namespace Go.Proofs.YtaieidcohdhgpaaGreatDoor
set_option maxHeartbeats 40000000
set_option maxRecDepth 100000
open Go.RowKit
theorem YB(w C:World)(u d z E F:Nat)(q:F5)(A B:Value)(h:Gd C u d z E F q A B w){vf vw ve:Value}{a:OA}{l c:Nat}{D:LY}(hD:DV C z vf (.slice a l c) vw ve D)(av:z<u/\∀k,F2 (.slice a l c) k->k<u)
  (p x:Nat) (aS:16<=p) (aT:p<1536) (hk:q.tk p=false) (s:By) (hs:D[p]?=some s) (ax:s.data[0]?=some 2) (b:Nat) (hb:b<8) (m:F5)
  (ao:∀Z Bb,Gd C u d z E F (q.take p) A B Z->F0 Z Bb 188 (Dc s)->w.heap.size<Bb->Cl 242 #[.pointer (some ⟨d,0,none⟩),.agg #[.slice (some ⟨Bb,1,none⟩) 63 63]] Z (KX C u d z E F Z A B b m))
  (aw:∀y∈m.ins,y.1≠Dd 2 b (m.tn b)) (au:m.ins.length<=9999) (aA:m.tn b<60000):
  Cl 202 #[.pointer (some ⟨d,0,none⟩),.agg #[.int .i64 (p:Nat),.int .u64 (x:Nat)]] w (KX C u d z E F w A B b ((m.put (Dd 2 b (m.tn b)) p).turn b)):=by
 have ay:s.size=64:=hD.2.1.2 s (An hs);obtain⟨aQ,ae,ar⟩:=h.lt;obtain⟨W1,e1,M,k1,s1,P⟩:=De w [.int .i64 (p:Nat),.int .u64 (x:Nat)] 175;have h1:=h.below P;have a6:u<=w.heap.size:=Ag h.sz h.bel.size;obtain⟨f,G⟩:∃T,T=m.tn b:=⟨_,rfl⟩;have aZ:f<60000:=by rw[G];exact aA
 obtain⟨VB,aa⟩:∃V,V=DB s:=⟨_,rfl⟩;have O:Hid (Cl 241 #[.pointer (some ⟨d,0,none⟩),.agg #[.int .i64 (p:Nat),.int .u64 (x:Nat)]] W1 fun e X=>e = .returned (.tuple #[VB,.bool true])/\∃Y Z,X.alloc (.cells (Dc (Di 64)).toArray 188)=Y/\F0 Y X.heap.size 188 (Dc (Di 64))/\Y.setRow X.heap.size (Dc s).toArray=Z/\Z.cell? ⟨X.heap.size,0,none⟩=some (.int .u8 2)/\
   Hid (Cl 242 #[.pointer (some ⟨d,0,none⟩),.agg #[.slice (some ⟨X.heap.size,1,none⟩) 63 63]] Z fun e t=>e = .returned (.tuple #[.int .i64 (b:Nat),.bool true])/\t.cell? ⟨d,1540+b,none⟩=some (.int .i64 (f:Nat))/\t.cell? ⟨w.heap.size,0,none⟩=some (.int .i64 (p:Nat))/\
    Hid (Cl 243 #[.pointer (some ⟨d,1,none⟩),.int .u64 ((2*4294967296+b*65536+f:Nat):Int),.int .i64 (p:Nat)] t.drew fun e n=>e = .returned (.tuple #[])/\n.cell? ⟨d,1540+b,none⟩=some (.int .i64 (f:Nat))/\n.cell? ⟨w.heap.size,0,none⟩=some (.int .i64 (p:Nat))/\n.frozen? ⟨d,1540+b,none⟩=false/\
     Hid (KX C u d z E F w A B b ((m.put (Dd 2 b (m.tn b)) p).turn b) (.returned (.tuple #[.int .i64 (b:Nat),.bool true])) (n.setCell ⟨d,1540+b,none⟩ (.int .i64 ((f:Int)+1))).drew)))):=by
  refine(h1.take_call hD av (x:=x) aS aT hk hs).mono ?_;rintro e X ⟨rfl,hX,ad⟩;have aO:Fr (fun k=>k=d) w X:=(Fr.of_below P).then ad (fun _ _ e=>e);have a0:=ad.size;obtain⟨Y,eY,N,kY,sY,bY⟩:=De X (Dc (Di 64)) 188;have xZ:F0 (Y.setRow X.heap.size (Dc s).toArray) X.heap.size 188 (Dc s):=BQ Y _ _ _ 188 _ N;have H:Bw X (Y.setRow X.heap.size (Dc s).toArray):=bY.trans ⟨rfl,rfl,rfl,by simp,fun j hj=>Bn Y _ j _ (by omega)⟩;obtain⟨Z,L⟩:∃Z,Y.setRow X.heap.size (Dc s).toArray=Z:=⟨_,rfl⟩;rw[L]at xZ H;have aL:=hX.below H;have a3:=H.size;have b0:F0 X w.heap.size 175 _:=(ad.block _ M.lt (show ¬w.heap.size=d by omega)).trans M;have aj:F0 Z w.heap.size 175 _:=(H.block _ b0.lt).trans b0;refine⟨by rw[aa],Y,Z,eY,N,L,?_,?_⟩
  ·rw[xZ.cell];have h0:s.data.toList[0]?=some 2:=by rw[Cm];exact ax
   show(Dc s)[0]? = _;unfold Dc;rw[Bv,h0];rfl
  ·refine(ao Z X.heap.size aL xZ (by omega)).mono ?_;rintro e t ⟨rfl,aW,af,am,ab,n1,n2⟩;have R:F0 t w.heap.size 175 _:=(ab.block _ aj.lt (fun e=>by
    rcases e with e|e|e
    ·omega
    ·have:=ae _ e;omega
    ·have:=ar _ e;omega)).trans aj
   have c2:=am.cells.2.2.2.2 b hb;have a1:=ab.size;refine⟨rfl,by rw[G];exact c2.1,(R.cell 0).trans rfl,?_⟩;have aV:Gd C u d z E F m aW af t.drew:=am.below ⟨rfl,rfl,rfl,Aa _,fun _ _=>rfl⟩;have aU:=aV.put_call (r:=Dd 2 b f) (p:=p) (by rw[G];exact aw) au;refine aU.mono ?_;rintro e n ⟨rfl,aC,an,ac,aR⟩;have a2:=ac.size;have b7:F0 n w.heap.size 175 _:=(ac.block _ R.lt (fun e=>e.elim (fun e=>by omega) (fun e=>(n1 _ e).elim (fun e=>by have:=ae _ e;omega) (fun e=>by omega)))).trans R;have c3:=an.cells.2.2.2.2 b hb;have aq:=an.turn (b:=b) hb;have az:(m.put (Dd 2 b f) p).tn b=f:=G.symm;rw[az]at aq;have aI:Fr (fun k=>k=d) n (n.setCell ⟨d,1540+b,none⟩ (.int .i64 ((f+1:Nat):Int))):=(Fr.refl _ _).set _ _ rfl;have aP:Gd C u d z E F ((m.put (Dd 2 b f) p).turn b) aC af (n.setCell ⟨d,1540+b,none⟩ (.int .i64 ((f+1:Nat):Int))).drew:=aq.below ⟨rfl,rfl,rfl,Aa _,fun _ _=>rfl⟩;rw[show((f:Int)+1)=((f+1:Nat):Int) by omega];have a7:t.drew.heap.size=t.heap.size:=rfl;have aN:n.cell? ⟨d,1540+b,none⟩=some (.int .i64 (f:Nat)):=c3.1.trans (by rw[show(m.put (Dd 2 b f) p).tn b=f from az]);refine⟨rfl,aN,(b7.cell 0).trans rfl,c3.2,rfl,aC,af,by rw[<-G];exact aP,?_,fun g hg=>(aR g hg).elim (fun e=>(n1 g e).imp id (fun e=>by omega)) (fun e => .inr (by omega)),fun g hg=>(n2 g hg).imp id (fun e=>by omega)⟩;have f1:Fr (fun k=>k=d\/F2 A k\/F2 B k) w Z:=(aO.mono (Y:=fun k=>k=d\/F2 A k\/F2 B k) (fun k _ e => .inl e)).then (Fr.of_below (X:=fun _=>False) H) (fun _ _ e=>e.elim);have I:=f1.then ab (fun k _ e=>e);have f3:Fr (fun k=>k=d\/F2 A k\/F2 B k) w t.drew:=⟨I.os,I.tape,I.output,I.size,I.block⟩;have f4:=f3.then ac (fun k hk e=>e.elim .inl (fun e=>(n1 k e).elim (fun e => .inr (.inl e)) (fun e=>by omega)));have J:=f4.then aI (fun k _ e => .inl e);exact⟨J.os,J.tape,J.output,J.size,J.block⟩
 have aF:Hid (∀V,Cl 244 #[.int .u8 2,.int .i64 (b:Nat),.int .i64 (f:Nat)] V fun e w'=>e = .returned (.int .u64 ((2*4294967296+b*65536+f:Nat):Int))/\w'=V):=fun V=>UH V 2 b f (by omega) (by omega) (by omega)
 have ap:(Dc s).length=64:=by rw[Dh,ay]
 have ah:=Db ap;have aG:=Db aa;have aD:=Db e1;have d1:=(M.cell 0).trans (show _=some (Value.int .i64 (p:Nat)) from rfl);have d2:=(M.cell 1).trans (show _=some (Value.int .u64 (x:Nat)) from rfl);obtain⟨QF,al⟩:∃Q,Q=((m.put (Dd 2 b (m.tn b)) p).turn b):=⟨_,rfl⟩;rw[<-al]at O ⊢;have a4:¬(8:Int)<=(b:Int):=by omega
 have a5:(b:Int)<8:=by omega
 clear G e1 M k1 s1 P h1 h hD av hk hs ax aw au aA ay aa ap al aQ ae ar ao;go_enter Tryz.func202,Tryz.ntmps202;go_upto_region 1 with fail;rw[show w.alloc (.cells #[.int .i64 (p:Nat),.int .u64 (x:Nat)] 175)=W1 from Da aD];go_upto_region 2 with(first|(go_at_call 241;refine(Da O).mono ?_;rintro e X ⟨rfl,Y,Z,hY,N,L,z0,ag⟩;have HY:=Db hY;have aH:=Db N;have HZ:=Db L;clear hY N L d1 d2 O)|(refine Ju rfl 188 rfl JU ?_;rw[show X.alloc (.cells (Dc (Di 64)).toArray 188)=Y from Da HY])|(refine Bs rfl 188 _ _ rfl X.heap.size (Dc s).toArray rfl (Da aG) 188 _ (Da aH) (by rw[D7];simp[Da ah]) (by simp[Da ah,Dh,Jd]) (J8 _) ?_;rw[Da HZ]));go_upto_region 11 with(go_at_call 242;refine(Da ag).mono ?_;rintro e t ⟨rfl,U,W,ai⟩);clear ag z0;go_upto_region 13 with fail;refine AD (S:=fun V=>V.cell? ⟨d,1540+b,none⟩=some (.int .i64 (f:Nat))/\V.cell? ⟨w.heap.size,0,none⟩=some (.int .i64 (p:Nat))) (by kernel_rfl) ⟨U,W⟩ (fun ak=>?_);refine tk 0 ?_;try simp only[pE];refine tk 1 ?_;try simp only[pE];refine tk 2 ?_;try simp only[pE];refine tk 3 ?_;try simp only[pE];refine tk 4 ?_;try simp only[pE];refine tk 5 ?_;try simp only[pE];refine tk 6 ?_;try simp only[pE];refine tk 7 ?_;try simp only[pE];refine tk 8 ?_;try simp only[pE];refine tk 9 ?_;try simp only[pE];refine tk 10 ?_;try simp only[pE];refine tk 11 ?_;try simp only[pE];refine tk 13 ?_;try simp only[pE];refine tk 14 ?_;try simp only[pE];refine rk 12 (fun K o=>?_);go_simp;go_at_call 244;refine(Da aF _).mono ?_;rintro e w' ⟨rfl,aB⟩;rw[aB];clear aB;go_wp2_with fail;refine o.out _ _ ⟨U,W⟩ (fun aJ=>?_);clear o K
 (try simp only[pE])
 refine rk 15 (fun K o=>?_);go_simp;go_at_call 243;refine(Da ai).mono ?_;rintro e n ⟨rfl,y1,y2,y3,aE⟩;go_wp2_with fail;refine o.out _ _ ⟨y1,y2⟩ (fun aK=>?_);clear o K
 (try simp only[pE])
 refine AW (by kernel_rfl) ?_ _;clear ak aJ aK U W ai;go_upto_region 14 with fail;refine AD (S:=fun V=>True) (by kernel_rfl) AQ (fun ak=>?_);refine tk 0 ?_;try simp only[pE];refine tk 1 ?_;try simp only[pE];refine tk 2 ?_;try simp only[pE];refine tk 3 ?_;try simp only[pE];refine tk 4 ?_;try simp only[pE];refine tk 7 ?_;try simp only[pE];refine tk 8 ?_;try simp only[pE];refine rk 5 (fun K o=>?_);go_simp;refine o.out _ _ AQ (fun aY=>?_);clear o K
 (try simp only[pE])
 refine A6 (i:=6) (v := .int .i64 ((f+1:Nat):Int)) rfl (by kernel_rfl) (by kernel_rfl) (by kernel_rfl) (fun _ _ _ h=>h) (Or.inl ⟨by rfl,by intro w aM;(try dsimp only at aM);go_simp;rw[AX];omega⟩) (by assumption) ?_
 (try simp only[pE])
 refine tk 9 ?_;try simp only[pE];refine rk 10 (fun K o=>?_);go_simp;refine o.out _ _ AQ (fun aX=>?_);clear o K
 (try simp only[pE])
 refine AW (by kernel_rfl) ?_ _;go_wp2;exact Ax (v := .tuple #[.int .i64 (b:Nat),.bool true]) (by simp[results,Tryz.results202,go_sem]) rfl (Da aE)
structure Ik(w0:World)(n0 rb:Nat)(w':World):Prop where
 bel:Below n0 w0 w'
 sz:n0<=w0.heap.size
 row:∃(a:OA) (l c tp tx:Nat),w'.cell? ⟨rb,1,none⟩=some (.slice a l c)/\w'.cell? ⟨rb,2,none⟩=some (.int .i64 (tp:Nat))/\w'.cell? ⟨rb,3,none⟩=some (.int .u64 (tx:Nat))
theorem Ik.step{w0 W b:World}{n0 rb n:Nat}(h:Ik w0 n0 rb W)(d:Below n W b)(k:n0<=n)(m:rb<n):Ik w0 n0 rb b:=by
 obtain⟨a,l,c,tp,tx,f,g,i⟩:=h.row;have e:∀j,b.cell? ⟨rb,j,none⟩=W.cell? ⟨rb,j,none⟩:=fun j=>AC (d.block _ m)
 exact⟨h.bel.trans (d.mono k),h.sz,a,l,c,tp,tx,(e 1).trans f,(e 2).trans g,(e 3).trans i⟩
theorem Ik.below{w0 W b:World}{n0 rb:Nat}(h:Ik w0 n0 rb W)(e:Bw W b):Ik w0 n0 rb b:=by
 obtain⟨a,l,c,tp,tx,d,_⟩:=h.row;obtain⟨cs,t,z,f⟩:=Wp d;exact h.step e (Ag h.sz h.bel.size) (Ak.1 f).1
theorem Gd.no{w0 W:World}{n0 rb db tp tx:Nat}{q:F5}{va vt:Value}(h:Gd w0 n0 rb db tp tx q va vt W):Ik w0 n0 rb W:=by
 obtain⟨L,b,l0,d,e,f,_⟩:=h.row;obtain⟨es,_,g⟩:=h.es;obtain⟨a,l,c,rfl⟩:=g.shape;exact⟨h.bel,h.sz,a,l,c,tp,tx,(b.cell 1).trans d,(b.cell 2).trans e,(b.cell 3).trans f⟩
def Xw(w0:World)(n0 rb:Nat)(e:Ending)(w':World):Prop:=e = .returned (.tuple #[.int .i64 0,.bool false])/\Ik w0 n0 rb w'
section
variable{w w0:World}{n0 rb db tp tx:Nat}{q:F5}{va vt:Value}{vf vw ve:Value}{a:OA}{l c:Nat}{D:LY}
theorem Gd.take_no(h:Gd w0 n0 rb db tp tx q va vt w){p x:Nat}(b:p<16\/1536<=p\/q.tk p=true):
  Cl 241 #[.pointer (some ⟨rb,0,none⟩),.agg #[.int .i64 (p:Nat),.int .u64 (x:Nat)]] w fun e w'=>e = .returned (.tuple #[DB (Di 64),.bool false])/\Bw w w':=by
 obtain⟨L,d,l0,l1,l2,l3,f,l5,l6⟩:=h.row;refine Go.Proofs.YtaieidcohdhgpaaGreatDoor.take_no w rb L d p x ?_;rcases AO p 1536 with e|e
 ·rcases b with q|q|q
  ·exact .inl q
  ·exact .inr (.inl q)
  ·exact .inr (.inr ⟨e,by rw[f p e,q]⟩)
 ·exact .inr (.inl e)
theorem N4(h:Gd w0 n0 rb db tp tx q va vt w)(E:DV w0 db vf (.slice a l c) vw ve D)(R:db<n0/\∀k,F2 (.slice a l c) k->k<n0)(p x:Nat)
  (an:(p<16\/1536<=p\/q.tk p=true)\/∃(s:By) (kk:UInt8),16<=p/\p<1536/\q.tk p=false/\D[p]?=some s/\s.data[0]?=some kk/\(kk≠3/\kk≠2\/kk=2/\∀Z Bb,Gd w0 n0 rb db tp tx (q.take p) va vt Z->F0 Z Bb 188 (Dc s)->w.heap.size<Bb->Cl 242 #[.pointer (some ⟨rb,0,none⟩),.agg #[.slice (some ⟨Bb,1,none⟩) 63 63]] Z fun e w'=>∃(b:Nat) (F:Bool),e = .returned (.tuple #[.int .i64 (b:Nat),.bool F])/\(F=true->8<=b)/\Ik w0 n0 rb w')):
  Cl 202 #[.pointer (some ⟨rb,0,none⟩),.agg #[.int .i64 (p:Nat),.int .u64 (x:Nat)]] w (Xw w0 n0 rb):=by
 obtain⟨m,N,G,k1,s1,K⟩:=De w [.int .i64 (p:Nat),.int .u64 (x:Nat)] 175;have A:=h.below K;have ar:n0<=w.heap.size:=Ag h.sz h.bel.size;have H:=Db N;have ao:m.cell? ⟨w.heap.size,0,none⟩=some (.int .i64 (p:Nat)):=(G.cell 0).trans rfl;have ap:m.cell? ⟨w.heap.size,1,none⟩=some (.int .u64 (x:Nat)):=(G.cell 1).trans rfl;have T:(Dc (Di 64)).length=64:=by rw[Dh,Jd]
 have ai:=Db T;rcases an with hp|⟨s,kk,ak,al,hk,S,af,am⟩
 have t:Hid (Cl 241 #[.pointer (some ⟨rb,0,none⟩),.agg #[.int .i64 (p:Nat),.int .u64 (x:Nat)]] m fun e X=>e = .returned (.tuple #[DB (Di 64),.bool false])/\∃Y Z,X.alloc (.cells (Dc (Di 64)).toArray 188)=Y/\F0 Y X.heap.size 188 (Dc (Di 64))/\Y.setRow X.heap.size (Dc (Di 64)).toArray=Z/\Hid (Ik w0 n0 rb Z)):=by
  refine(A.take_no (x:=x) hp).mono ?_;rintro e X ⟨rfl,Q⟩;obtain⟨Y,O,d,kY,sY,L⟩:=De X (Dc (Di 64)) 188;have M:Bw X (Y.setRow X.heap.size (Dc (Di 64)).toArray):=L.trans ⟨rfl,rfl,rfl,by simp,fun j hj=>Bn Y _ j _ (by omega)⟩;exact⟨rfl,Y,_,O,d,rfl,((A.below Q).below M).no⟩
 clear h E R N G k1 s1 K A T;go_enter Tryz.func202,Tryz.ntmps202;go_upto_region 1 with fail;rw[show w.alloc (.cells #[.int .i64 (p:Nat),.int .u64 (x:Nat)] 175)=m from Da H];go_wp2_with (first|(go_at_call 241;refine(Da t).mono ?_;rintro e X ⟨rfl,Y,Z,f,d,g,o⟩;have y:=Db f;have u:=Db d;have z:=Db g;clear f d g)|(refine Ju rfl 188 rfl JU ?_;rw[show X.alloc (.cells (Dc (Di 64)).toArray 188)=Y from Da y])|(refine Bs rfl 188 _ _ rfl X.heap.size (Dc (Di 64)).toArray rfl rfl 188 _ (Da u) (by rw[D7];simp[Da ai]) (by simp) (J8 _) ?_;rw[Da z]));exact Ax (v := .tuple #[.int .i64 0,.bool false]) (by simp[results,Tryz.results202,go_sem]) rfl ⟨rfl,Da o⟩;obtain⟨VB,P⟩:∃V,V=DB s:=⟨_,rfl⟩;have ag:s.size=64:=E.2.1.2 s (An S);have ad:(Dc s).length=64:=by rw[Dh,ag]
 have C:=Db ad;have W:=Db P;have t:Hid (Cl 241 #[.pointer (some ⟨rb,0,none⟩),.agg #[.int .i64 (p:Nat),.int .u64 (x:Nat)]] m fun e X=>e = .returned (.tuple #[VB,.bool true])/\∃Y Z,X.alloc (.cells (Dc (Di 64)).toArray 188)=Y/\F0 Y X.heap.size 188 (Dc (Di 64))/\Y.setRow X.heap.size (Dc s).toArray=Z/\Z.cell? ⟨X.heap.size,0,none⟩=some (.int .u8 (kk.toNat:Nat))/\Hid (Ik w0 n0 rb Z)/\Hid (Gd w0 n0 rb db tp tx (q.take p) va vt Z/\F0 Z X.heap.size 188 (Dc s)/\w.heap.size<X.heap.size)):=by
  refine(A.take_call E R (x:=x) ak al hk S).mono ?_;rintro e X ⟨rfl,Q,aj⟩;have aq:=aj.size;obtain⟨Y,O,d,kY,sY,L⟩:=De X (Dc (Di 64)) 188;have xZ:F0 (Y.setRow X.heap.size (Dc s).toArray) X.heap.size 188 (Dc s):=BQ Y _ _ _ 188 _ d;have M:Bw X (Y.setRow X.heap.size (Dc s).toArray):=L.trans ⟨rfl,rfl,rfl,by simp,fun j hj=>Bn Y _ j _ (by omega)⟩;have aa:=Q.below M;refine⟨by rw[P],Y,_,O,d,rfl,?_,aa.no,aa,xZ,by omega⟩;rw[xZ.cell];have h0:s.data.toList[0]?=some kk:=by rw[Cm];exact af
  show(Dc s)[0]? = _;unfold Dc;rw[Bv,h0];rfl
 obtain⟨i,r⟩:∃n:Nat,n=kk.toNat:=⟨_,rfl⟩;rw[<-r]at t;have B:((i:Int)=3->kk=3)/\((i:Int)=2->kk=2)/\(kk=2->i=2):=⟨fun e=>E8.1 (by rw[<-r];show i=3;omega),fun e=>E8.1 (by rw[<-r];show i=2;omega),fun e=>by rw[r,e];rfl⟩;clear h E R N G k1 s1 K A T P ag ad hk S af;rcases am with⟨n3,U⟩|⟨U,ab⟩
 have i3:¬(i:Int)=3:=fun e=>n3 (B.1 e)
 have i2:¬(i:Int)=2:=fun e=>U (B.2.1 e)
 clear B r;go_enter Tryz.func202,Tryz.ntmps202;go_upto_region 1 with fail;rw[show w.alloc (.cells #[.int .i64 (p:Nat),.int .u64 (x:Nat)] 175)=m from Da H];go_wp2_with (first|(go_at_call 241;refine(Da t).mono ?_;rintro e X ⟨rfl,Y,Z,f,d,g,z0,o,-⟩;have y:=Db f;have u:=Db d;have z:=Db g;clear f d g)|(refine Ju rfl 188 rfl JU ?_;rw[show X.alloc (.cells (Dc (Di 64)).toArray 188)=Y from Da y])|(refine Bs rfl 188 _ _ rfl X.heap.size (Dc s).toArray rfl (Da W) 188 _ (Da u) (by rw[D7];simp[Da C]) (by simp[Da C,Dh,Jd]) (J8 _) ?_;rw[Da z]));exact Ax (v := .tuple #[.int .i64 0,.bool false]) (by simp[results,Tryz.results202,go_sem]) rfl ⟨rfl,Da o⟩;obtain rfl:i=2:=B.2.2 U;have ah:=Db ab;clear B r ab;go_enter Tryz.func202,Tryz.ntmps202;go_upto_region 1 with fail;rw[show w.alloc (.cells #[.int .i64 (p:Nat),.int .u64 (x:Nat)] 175)=m from Da H];go_upto_region 11 with(first|(go_at_call 241;refine(Da t).mono ?_;rintro e X ⟨rfl,Y,Z,f,d,g,z0,-,J⟩;have y:=Db f;have u:=Db d;have z:=Db g;clear f d g)|(refine Ju rfl 188 rfl JU ?_;rw[show X.alloc (.cells (Dc (Di 64)).toArray 188)=Y from Da y])|(refine Bs rfl 188 _ _ rfl X.heap.size (Dc s).toArray rfl (Da W) 188 _ (Da u) (by rw[D7];simp[Da C]) (by simp[Da C,Dh,Jd]) (J8 _) ?_;rw[Da z])|(go_at_call 242;refine(Da ah _ _ (Da J).1 (Da J).2.1 (Da J).2.2).mono ?_;rintro e Y2 ⟨b,F,rfl,ae,ac⟩;have o:=Db ac;have I:=Db ae;clear ac ae));rcases F with _|_
 ·clear I;go_wp2;exact Ax (v := .tuple #[.int .i64 0,.bool false]) (by simp[results,Tryz.results202,go_sem]) rfl ⟨rfl,Da o⟩
 ·have h8:(8:Int)<=(b:Int):=by have:=Da I (by first|rfl|trivial);omega
  clear I;go_wp2;exact Ax (v := .tuple #[.int .i64 0,.bool false]) (by simp[results,Tryz.results202,go_sem]) rfl ⟨rfl,Da o⟩
end
def Dv(T:By):NB
 | 0=>T
 | j+1=>(Dv T j).extract 10 (Dv T j).size
theorem QW(T:By):∀j,(Dv T j).size=T.size-10*j
 | 0=>by simp[Dv]
 | j+1=>by
  unfold Dv;rw[Af,QW T j];omega
theorem Gd.ne{r:World}{n d i o p:Nat}{q:F5}{f g:Value}{W:World}(h:Gd r n d i o p q f g W){B:Nat}{t:TypeId}{L:F6}(b:F0 W B t L)(k:t≠197)(l:t≠350)(m:t≠5):B≠d/\¬F2 f B/\¬F2 g B:=by
 obtain⟨Lr,c,_⟩:=h.row;obtain⟨es,_,j⟩:=h.es;refine⟨fun e=>?_,fun e=>?_,fun e=>?_⟩
 ·subst e;unfold F0 at b c;rw[b]at c;cases c;exact k rfl
 ·obtain⟨R,a⟩:=j.type e;unfold F0 at b a;rw[b]at a;cases a;exact l rfl
 ·obtain⟨R,a⟩:=h.tab.1.type e;unfold F0 at b a;rw[b]at a;cases a;exact m rfl
structure MJ(w w0:World)(n0 rb db tp tx:Nat)(va0 vt0:Value)(Bb:Nat)(s:By)(q:F5)(j:Nat)(va vt:Value)(wr:World):Prop where
 rd:Gd w0 n0 rb db tp tx q va vt wr
 bf:∃a2 c2,F0 wr w.heap.size 287 [.slice a2 (63-10*j) c2]/\Gy wr a2 (63-10*j) c2 (Dv (DJ s) j)/\63-10*j<=c2/\∀x,a2=some x->x.block=Bb
 bb:F0 wr Bb 188 (Dc s)
 fr:Fr (fun k=>k=rb\/F2 va0 k\/F2 vt0 k) w wr
 na:Dm w va0 va
 nt:Dm w vt0 vt
theorem Gy.row{W b:World}{a:OA}{l c:Nat}{s:By}(h:Gy W a l c s){B:Nat}(f:∀x,a=some x->x.block=B)(e:b.heap[B]?=W.heap[B]?):Gy b a l c s:=
 ⟨h.1,h.2.1,fun j v i=>by
  obtain⟨x,d,g⟩:=h.2.2 j v i;refine⟨x,d,?_⟩;rw[<-g];exact AC (by show b.heap[(x.add j).block]?=W.heap[(x.add j).block]?;rw[Addr.block_add',f x d];exact e)⟩
def KL(B:Nat)(wr:World):Nat:=
 match wr.cell? ⟨B,0,none⟩ with
 | some (.slice _ l _)=>l
 | _=>0
theorem PV{B:Nat}{wr:World}{a:OA}{l c:Nat}(h:wr.cell? ⟨B,0,none⟩=some (.slice a l c)):KL B wr=l:=by unfold KL;rw[h]
def KK(w0:World)(n0 rb db tp tx:Nat)(W:World)(va vt:Value)(r:Option (Nat×F5))(e:Ending)(w':World):Prop:=
 match r with
 | none=>Xw w0 n0 rb e w'
 | some (b,q')=>KX w0 n0 rb db tp tx W va vt b q' e w'
def JA(T:By)(g:Nat->F5->Option (Nat×F5)):Nat->Nat->Nat->F5->Option (Nat×F5)
 | 0,_,b,q=>some (b+1,q)
 | k+1,j,b,q=>if Gu (Dv T j)=0/\GD (Dv T j)=0 then some (b+1,q) else
  match g (Gu (Dv T j)) q with
  | none=>none
  | some (b',q')=>JA T g k (j+1) b' q'
theorem Zhl(w m:World)(l d o r t:Nat)(q0:F5)(f i:Value)(h:Gd m l d o r t q0 f i w)(n:Nat)(s:By)(hs:s.size=64)(hB:F0 w n 188 (Dc s))(g:Nat->F5->Option (Nat×F5))(Inv:F5->Prop)(hi:Inv q0)
  (ay:∀p q b A,Inv q->g p q=some (b,A)->Inv A/\b<8)
  (B:∀(p x:Nat) q W f i,Inv q->Gd m l d o r t q f i W->Cl 202 #[.pointer (some ⟨d,0,none⟩),.agg #[.int .i64 (p:Nat),.int .u64 (x:Nat)]] W (KK m l d o r t W f i (g p q))):
  Cl 242 #[.pointer (some ⟨d,0,none⟩),.agg #[.slice (some ⟨n,1,none⟩) 63 63]] w (KK m l d o r t w f i (JA (DJ s) g 6 0 0 q0)):=by
 obtain⟨aQ,aj,aR⟩:=h.lt;obtain⟨W1,e1,x1,V,s1,b1⟩:=De w [.slice (some ⟨n,1,none⟩) 63 63] 287;have ax:(DJ s).size=63:=by unfold DJ;rw[Af,hs];rfl
 have ai:F0 W1 n 188 (Dc s):=V _ _ _ hB;have aw:MJ w m l d o r t f i n s q0 0 f i W1:=by
  refine⟨h.below b1,⟨some ⟨n,1,none⟩,63,x1,⟨ax.symm,fun e=>(by cases e),fun j v D=>⟨_,rfl,?_⟩⟩,Aa _,fun x e=>by cases e;rfl⟩,ai,Fr.of_below b1,fun g B => .inl B,fun g B => .inl B⟩;rw[AL,ai.cell];show(Dc s)[1+j]?=some v;unfold Dv DJ at D;rw[Jt,Ao]at D
  split at D
  ·rw[Bc]at D;exact D
  ·cases D
 have aK:Hid (∀(j a:Nat) (q:F5),j<6->a<100->Inv q->∀u z wr,MJ w m l d o r t f i n s q j u z wr->Cl 238 #[.pointer (some ⟨w.heap.size,0,none⟩)] wr fun e Y=>∃P X:Nat,P=Gu (Dv (DJ s) j)/\X=GD (Dv (DJ s) j)/\e = .returned (.agg #[.int .i64 (P:Nat),.int .u64 (X:Nat)])/\
   ∃Z,Y.alloc (.cells #[.int .i64 (P:Nat),.int .u64 (X:Nat)] 175)=Z/\Z.cell? ⟨Y.heap.size,0,none⟩=some (.int .i64 (P:Nat))/\Z.cell? ⟨Y.heap.size,1,none⟩=some (.int .u64 (X:Nat))/\Hid (Cl 202 #[.pointer (some ⟨d,0,none⟩),.agg #[.int .i64 (P:Nat),.int .u64 (X:Nat)]] Z fun e U=>(g P q=none/\e = .returned (.tuple #[.int .i64 0,.bool false])/\Hid (Ik m l d U))\/∃(b:Nat) (A:F5),g P q=some (b,A)/\e = .returned (.tuple #[.int .i64 (b:Nat),.bool true])/\b<8/\Hid (Inv A/\∃aa ab,MJ w m l d o r t f i n s A (j+1) aa ab U))/\
   Hid (KX m l d o r t w f i (a+1) q (.returned (.tuple #[.int .i64 ((a:Int)+1),.bool true])) Z)):=fun j a q aB a0 S u z wr c=>by
  obtain⟨a2,c2,C,g2,g3,g4⟩:=c.bf;have aE:w.heap.size≠n:=by have:=hB.lt;omega
  refine(NP wr w.heap.size a2 (63-10*j) c2 (Dv (DJ s) j) C g2 g3 (fun x e e2=>aE (by rw[<-e2];exact g4 x e)) (by omega)).mono ?_;rintro e Y ⟨rfl,F,M,r1,r2,r3,r4,r5⟩;obtain⟨Z,eZ,xZ,kZ,sZ,bZ⟩:=De Y [.int .i64 (Gu (Dv (DJ s) j):Nat),.int .u64 (GD (Dv (DJ s) j):Nat)] 175;have ak:=c.rd.ne C (by decide) (by decide) (by decide);have aT:l<=w.heap.size:=Ag h.sz h.bel.size;have aO:Gd m l d o r t q u z Y:=c.rd.fr r5 (fun k e=>by subst e;exact⟨aT,ak.1,ak.2.1,ak.2.2⟩);have N:=aO.below bZ;have ar:F0 Y n 188 (Dc s):=c.bb.fr r5 (fun e=>aE e.symm);have af:=kZ _ _ _ ar;have au:=kZ _ _ _ r1;have aM:Fr (fun k=>k=d\/F2 f k\/F2 i k) w Y:=c.fr.then r5 (fun k T e=>by omega);have ag:Fr (fun k=>k=d\/F2 f k\/F2 i k) w Z:=aM.then (Fr.of_below (X:=fun _=>False) bZ) (fun _ _ e=>e.elim);have ah:∀x,F=some x->x.block=n:=fun x e=>by obtain⟨y,e2,e3⟩:=r4 x e;rw[<-e3];exact g4 y e2
  have aV:Gy Z F (63-10*j-10) M (Dv (DJ s) (j+1)):=r2.row ah (bZ.block _ ar.lt);refine⟨_,_,rfl,rfl,rfl,Z,eZ,(xZ.cell 0).trans rfl,(xZ.cell 1).trans rfl,?_,by rw[show((a:Int)+1)=((a+1:Nat):Int) by omega],u,z,N,ag,c.na,c.nt⟩;refine(B _ _ q Z u z S N).mono ?_;intro e U G;unfold KK at G
  split at G
  ·rename_i Q;exact .inl ⟨Q,G.1,G.2⟩
  ·rename_i b A Q;obtain⟨rfl,aa,ab,u1,u2,u3,u4⟩:=G;have al:=N.ne af (by decide) (by decide) (by decide);have am:=N.ne au (by decide) (by decide) (by decide);have aq:F0 U n 188 (Dc s):=af.fr u2 (fun e=>by rcases e with e|e|e;exact al.1 e;exact al.2.1 e;exact al.2.2 e);have aL:F0 U w.heap.size 287 _:=au.fr u2 (fun e=>by rcases e with e|e|e;exact am.1 e;exact am.2.1 e;exact am.2.2 e);have aW:=u2.size;have aX:=ag.size;obtain⟨i1,i2⟩:=ay _ _ _ _ S Q;refine .inr ⟨b,A,Q,rfl,i2,i1,aa,ab,⟨u1,⟨F,M,by rw[show 63-10*(j+1)=63-10*j-10 by omega];exact aL,by rw[show 63-10*(j+1)=63-10*j-10 by omega];exact aV.row ah (aq.trans af.symm),by omega,ah⟩,aq,ag.then u2 (fun k T e=>?_),fun g B=>(u3 g B).elim (c.na g) (fun e => .inr (by omega)),fun g B=>(u4 g B).elim (c.nt g) (fun e => .inr (by omega))⟩⟩;rcases e with e|e|e
   ·exact .inl e
   ·exact(c.na k e).elim (fun e => .inr (.inl e)) (fun e=>by omega)
   ·exact(c.nt k e).elim (fun e => .inr (.inr e)) (fun e=>by omega)
 have aF:Hid (∀(a:Nat) q u z wr,MJ w m l d o r t f i n s q 6 u z wr->KX m l d o r t w f i (a+1) q (.returned (.tuple #[.int .i64 ((a:Int)+1),.bool true])) wr):=fun a q u z wr c=>⟨by rw[show((a:Int)+1)=((a+1:Nat):Int) by omega],u,z,c.rd,c.fr,c.na,c.nt⟩
 have ad:=Db aw;have ac:=Db e1;have aG:=Db hi;obtain⟨R,hR⟩:=ex (JA (DJ s) g 6 0 0 q0);rw[<-hR];have aJ:=Db hR;clear e1 x1 V s1 b1 aw ai h hB hs B ay ax aQ aj aR hi hR;go_enter Tryz.func242,Tryz.ntmps242;go_upto_region 1 with fail;rw[show w.alloc (.cells #[.slice (some ⟨n,1,none⟩) 63 63] 287)=W1 from Da ac];go_wp2
 go_loopw [4,5] (fun i4 i5 wr=>∃(j a:Nat) (b5:Bool),j<=6/\a<8/\i4 = .int .i64 (a:Nat)/\i5 = .bool b5/\Hid (∃q,Inv q/\R=JA (DJ s) g (6-j) j a q/\∃u z,MJ w m l d o r t f i n s q j u z wr)) (fun _ _ wr=>KL w.heap.size wr)
 case atStart=>exact⟨0,0,false,by omega,by omega,rfl,rfl,q0,Da aG,Da aJ,f,i,Da ad⟩
 case round=>
  obtain⟨j,a,b5,aZ,a1,rfl,rfl,HI⟩:=hrel;obtain⟨q,S,O,u,z,c⟩:=Da HI;obtain⟨a2,c2,C,-,-,-⟩:=c.bf;obtain⟨H,aj⟩:=ex (63-10*j);rw[<-aj]at C;have c0:=(C.cell 0).trans (show _=some (Value.slice a2 H c2) from rfl);have aS:=PV c0;have ap:=Db O;by_cases aB:j<6
  ·have HR:=Db (Da aK j a q aB (by omega) S u z wr c);have aY:(10:Int)<=(H:Int):=by omega
   clear c HI C ad ac O;go_upto_region 3 with(go_at_call 238;refine(Da HR).mono ?_;rintro e Y ⟨P,X,hP,hX,rfl,Z,hZ,z0,z1,I,HE⟩;have ae:=Db (And.intro hP hX);have HZ:=Db hZ;clear hP hX hZ);rw[show Y.alloc (.cells #[.int .i64 (P:Nat),.int .u64 (X:Nat)] 175)=Z from Da HZ];have aD:∀k,6-j=k+1->JA (DJ s) g (6-j) j a q=if P=0/\X=0 then some (a+1,q) else match g P q with|none=>none|some (b',A)=>JA (DJ s) g k (j+1) b' A:=fun k T=>by
    rw[T];show(if Gu (Dv (DJ s) j)=0/\GD (Dv (DJ s) j)=0 then _ else _)=_;rw[(Da ae).1,(Da ae).2]
   have an:=aD (6-(j+1)) (by omega);rw[<-Da ap]at an;clear aD;have L:=Db an;clear an HR ae HZ ap;by_cases hz:P=0/\X=0
   ·obtain⟨rfl,rfl⟩:=hz;have E:Hid (KK m l d o r t w f i R (.returned (.tuple #[.int .i64 ((a:Int)+1),.bool true])) Z):=by
     have e:=Da L;rw[if_pos ⟨rfl,rfl⟩]at e;rw[e];exact Da HE
    clear L HE I;go_wp2;exact Ax (by simp[results,Tryz.results242,go_sem]<;>rfl) rfl (Da E)
   ·have aU:((P:Nat):Int)≠0\/P=0/\((X:Nat):Int)≠0:=by omega
    have ao:=Da L;rw[if_neg hz]at ao;have K:=Db ao;clear ao L HE hz;rcases aU with a5|⟨rfl,a6⟩
    all_goals
     go_upto_region 5 with(go_at_call 202;refine(Da I).mono ?_;rintro e U (⟨az,rfl,HB⟩|⟨b,A,aA,rfl,aP,J⟩))
    all_goals first
     | (have E:Hid (KK m l d o r t w f i R (.returned (.tuple #[.int .i64 0,.bool false])) U):=by
         have e:=Da K;rw[az]at e;rw[e];exact⟨rfl,Da HB⟩
        clear az I K HB z0 z1;go_wp2;exact Ax (by simp[results,Tryz.results242,go_sem]<;>rfl) rfl (Da E))
     | (have aI:Hid (∃q,Inv q/\R=JA (DJ s) g (6-(j+1)) (j+1) b q/\∃u z,MJ w m l d o r t f i n s q (j+1) u z U):=by
         have e:=Da K;rw[aA]at e;exact⟨A,(Da J).1,e,(Da J).2⟩
        have aC:KL w.heap.size U<KL w.heap.size wr:=by
         obtain⟨_,aa,ab,aN⟩:=Da J;obtain⟨F,M,V,-,-,-⟩:=aN.bf;have T:=PV ((V.cell 0).trans (show _=some (Value.slice F (63-10*(j+1)) M) from rfl));omega
        have aH:=Db aC;clear aC aS I z0 z1 aA K J;go_wp2
        go_roundw
        case rel=>exact⟨j+1,b,true,by omega,aP,rfl,rfl,Da aI⟩
        case measure=>exact Da aH)
  ·obtain rfl:j=6:=by omega
   have av:=Da aF a q u z wr c;have a4:¬(10:Int)<=(H:Int):=by omega
   have E:Hid (KK m l d o r t w f i R (.returned (.tuple #[.int .i64 ((a:Int)+1),.bool true])) wr):=by rw[O];exact av
   clear c HI C ad ac av O;go_wp2;exact Ax (by simp[results,Tryz.results242,go_sem]<;>rfl) rfl (Da E)
def Hv(q:F5):Nat:=(List.range 1536).countP (fun p => !q.tk p)
theorem SS{f a:Nat->Bool}(b:∀k,a k=true->f k=true){p:Nat}(c:f p=true)(d:a p=false):∀l:List Nat,p∈l->l.countP a+1<=l.countP f
 | [],h=>by cases h
 | x::l,h=>by
  rw[CU,CU];have hm:l.countP a<=l.countP f:=List.countP_mono_left (fun k _=>b k);rcases AE.1 h with rfl|h
  ·rw[c,d];simp;omega
  ·have ih:=SS b c d l h;have hx:(if a x=true then 1 else 0)<=(if f x=true then 1 else 0):=by
    split
    ·rename_i e;rw[if_pos (b x e)];exact Aa _
    ·exact Aw _
   omega
theorem NR{q:F5}{p:Nat}(b:p<1536)(a:q.tk p=false):Hv (q.take p)+1<=Hv q:=
 SS (fun k h=>by
  unfold F5.take at h;simp only at h
  split at h
  ·cases h
  ·exact h) (by rw[a];rfl) (by show(!(if p=p then true else q.tk p))=false;rw[if_pos rfl];rfl) _ (BI.2 b)
structure GM(c:Nat)(q:F5):Prop where
 len:q.ins.length+Hv q+c<=1536
 tn:∀b,q.tn b<=q.ins.length
 ts:q.t.size<=63*1536
 tl:q.t.size+63*(Hv q+c)<=63*1536
 rol:∀y∈q.ins,∃k b i,(k=2\/k=3)/\b<8/\i<q.tn b/\y.1=Dd k b i
theorem GM.take{c:Nat}{q:F5}(h:GM c q){p:Nat}(b:p<1536)(a:q.tk p=false):GM (c+1) (q.take p):=by
 have:=NR b a;have h1:=h.len;have h2:=h.tl;exact⟨by show q.ins.length+Hv (q.take p)+(c+1)<=_;omega,h.tn,h.ts,by show q.t.size+63*(Hv (q.take p)+(c+1))<=_;omega,h.rol⟩
theorem GM.fresh{c:Nat}{q:F5}(h:GM c q){k b:Nat}(hk:k=2\/k=3)(hb:b<8):∀y∈q.ins,y.1≠Dd k b (q.tn b):=fun y j e=>by
 obtain⟨k',a,i,h1,h2,h3,g⟩:=h.rol y j;rw[g]at e;have hl:=h.len;have t1:=h.tn b;have t2:=h.tn a;have d:=QY (by omega) (by omega) (by omega) (by omega) e;subst d;have f:=N9 (by omega) (by omega) (by omega) (by omega) e;subst f;have e3:i=q.tn a:=by unfold Dd at e;omega
 omega
theorem GM.fin{c:Nat}{q:F5}(h:GM (c+1) q){k b:Nat}(r:k=2\/k=3)(o:b<8)(p:Nat):GM c ((q.put (Dd k b (q.tn b)) p).turn b):=by
 have h1:=h.len;have h2:=h.tl;have g:Hv ((q.put (Dd k b (q.tn b)) p).turn b)=Hv q:=rfl;have f:((q.put (Dd k b (q.tn b)) p).turn b).ins.length=q.ins.length+1:=by show(q.ins++[_]).length=_;rw[Ad];rfl
 have d:∀a,((q.put (Dd k b (q.tn b)) p).turn b).tn a=if a=b then q.tn b+1 else q.tn a:=fun _=>rfl
 refine⟨by rw[g,f];omega,fun a=>?_,h.ts,by rw[g];show q.t.size+_<=_;omega,fun y s=>?_⟩
 ·rw[d,f];have:=h.tn b;have:=h.tn a
  split<;>omega
 ·have t:y∈q.ins++[(Dd k b (q.tn b),p)]:=s;rcases Ap.1 t with e|e
  ·obtain⟨u,a,i,j,l,m,n⟩:=h.rol y e;refine⟨u,a,i,j,l,?_,n⟩;rw[d]
   split
   ·rename_i e;subst e;omega
   ·exact m
  ·rw[Ab.1 e];exact⟨k,b,q.tn b,r,o,by rw[d,if_pos rfl];omega,rfl⟩
theorem GM.tab{c:Nat}{q:F5}(h:GM (c+1) q){s:By}(d:s.size=63)(p:Nat):GM c (((q.say s).put (Dd 3 0 (q.tn 0)) p).turn 0):=by
 have a:=h.fin (k:=3) (b:=0) (.inr rfl) (by omega) p;have h2:=h.tl;have hz:(q.t++s).size=q.t.size+63:=by rw[Ai,d]
 have e:Hv (((q.say s).put (Dd 3 0 (q.tn 0)) p).turn 0)=Hv q:=rfl;exact⟨a.len,a.tn,by show(q.t++s).size<=_;omega,by rw[e];show(q.t++s).size+_<=_;omega,a.rol⟩
def Jb(D:LY):Nat->Nat->F5->Option (Nat×F5)
 | 0,_,_=>none
 | f+1,p,q=>
  if p<16\/1536<=p\/q.tk p=true then none else
  match D[p]? with
  | none=>none
  | some s=>
   match s.data[0]? with
   | none=>none
   | some kk=>
    if kk=3 then some (0,(((q.take p).say (DJ s)).put (Dd 3 0 (q.tn 0)) p).turn 0)
    else if kk=2 then
     match JA (DJ s) (Jb D f) 6 0 0 (q.take p) with
     | none=>none
     | some (b,q2)=>if 8<=b then none else some (b,(q2.put (Dd 2 b (q2.tn b)) p).turn b)
    else none
theorem ZmM{s:By}(a:s.size=64):(DJ s).size=63:=by unfold DJ;rw[Af,a];rfl
def Nt(c:Nat)(q q':F5):Prop:=GM c q'/\Hv q'<=Hv q
theorem NL{T:By}{g:Nat->F5->Option (Nat×F5)}{Inv:F5->Prop}(a:∀p q b q',Inv q->g p q=some (b,q')->Inv q'):∀(k j b:Nat) (q:F5) (b':Nat) (q':F5),Inv q->JA T g k j b q=some (b',q')->Inv q'
 | 0,j,b,q,b',q',hi,h=>by
  unfold JA at h
  cases h;exact hi
 | k+1,j,b,q,b',q',hi,h=>by
  unfold JA at h
  split at h
  ·cases h;exact hi
  ·split at h
   ·cases h
   ·rename_i c d e;exact NL a k (j+1) c d b' q' (a _ _ _ _ hi e) h
theorem Ut{D:LY}(j:∀s∈D,s.size=64):∀(f c p:Nat) (q:F5) (b:Nat) (q':F5),GM c q->Jb D f p q=some (b,q')->Nt c q q'/\b<8
 | 0,c,p,q,b,q',hi,h=>by cases h
 | f+1,c,p,q,b,q',hi,h=>by
  unfold Jb at h
  split at h
  ·cases h
  ·rename_i r;have d:16<=p/\p<1536/\q.tk p=false:=⟨by omega,by omega,by
    cases g:q.tk p with
    | true=>exact absurd (.inr (.inr g)) r
    | false=>rfl⟩
   have ht:=NR d.2.1 d.2.2;have k:=hi.take d.2.1 d.2.2
   split at h
   ·cases h
   ·rename_i s t;have u:=j s (An t)
    split at h
    ·cases h
    ·split at h
     ·cases h
      exact⟨⟨k.tab (ZmM u) p,by show Hv (q.take p)<=_;omega⟩,by omega⟩
     ·split at h
      ·split at h
       ·cases h
       ·rename_i b2 a e
        split at h
        ·cases h
        ·rename_i hb
         cases h
         have g:=NL (Inv:=fun a=>GM (c+1) a/\Hv a<=Hv (q.take p)) (fun v w l x i o=>by
          obtain⟨⟨m,n⟩,_⟩:=Ut j f (c+1) v w l x i.1 o;exact⟨m,Ag n i.2⟩) 6 0 0 (q.take p) b a ⟨k,Aa _⟩ e
         exact⟨⟨g.1.fin (.inl rfl) (by omega) p,by show Hv a<=_;omega⟩,by omega⟩
      ·cases h
theorem Rm{D:LY}(r:World)(i j g v w:Nat){vf vw ve:Value}{a:OA}{l P:Nat}(m:DV r g vf (.slice a l P) vw ve D)(A:g<i/\∀k,F2 (.slice a l P) k->k<i):∀(f c:Nat) (p x:Nat) (q:F5) (W:World) (va vt:Value),GM c q->Hv q<f->Gd r i j g v w q va vt W->
  Cl 202 #[.pointer (some ⟨j,0,none⟩),.agg #[.int .i64 (p:Nat),.int .u64 (x:Nat)]] W (KK r i j g v w W va vt (Jb D f p q))
 | 0,c,p,x,q,W,va,vt,hi,hu,h=>by omega
 | f+1,c,p,x,q,W,va,vt,hi,hu,h=>by
  have L:=m.2.1.2;have hl:=hi.len;have ae:=hi.tn 0;have af:=hi.ts;unfold Jb
  split
  ·rename_i N;exact N4 h m A p x (.inl N)
  ·rename_i N;have G:16<=p:=by omega
   have t:p<1536:=by omega
   have n:q.tk p=false:=by
    cases n:q.tk p with
    | true=>exact absurd (.inr (.inr n)) N
    | false=>rfl
   have ht:=NR t n;have R:=hi.take t n
   split
   ·rename_i o;rw[Ac (by rw[m.2.2];exact t)]at o
    cases o
   ·rename_i s o;have S:=L s (An o)
    split
    ·rename_i u;have:0<s.data.size:=by have:s.data.size=64:=S;omega
     rw[Es this]at u
     cases u
    ·rename_i kk u
     split
     ·rename_i e;subst e;exact YC W r i j g v w q va vt h m A p x G t n s o u (by omega) (hi.fresh (.inr rfl) (by omega)) (by omega) (by omega)
     ·rename_i n3
      split
      ·rename_i e;subst e;have F:∀Z d,Gd r i j g v w (q.take p) va vt Z->F0 Z d 188 (Dc s)->Cl 242 #[.pointer (some ⟨j,0,none⟩),.agg #[.slice (some ⟨d,1,none⟩) 63 63]] Z (KK r i j g v w Z va vt (JA (DJ s) (Jb D f) 6 0 0 (q.take p))):=fun Z d z y=>
        Zhl Z r i j g v w (q.take p) va vt z d s S y (Jb D f) (fun B=>GM (c+1) B/\Hv B<f) ⟨R,by omega⟩ (fun H I K O C E=>by
         obtain⟨⟨U,g2⟩,V⟩:=Ut L f (c+1) H I K O C.1 E;exact⟨⟨U,by omega⟩,V⟩) (fun H x1 I T aa ab C E=>Rm r i j g v w m A f (c+1) H x1 I T aa ab C.1 C.2 E)
       split
       ·rename_i e;rw[e]at F;exact N4 h m A p x (.inr ⟨s,2,G,t,n,o,u,.inr ⟨rfl,fun Z d z y _=>(F Z d z y).mono fun e w' J=>⟨0,false,J.1,fun e=>(by cases e),J.2⟩⟩⟩)
       ·rename_i b B e;rw[e]at F;have M:=NL (Inv:=fun B=>GM (c+1) B) (fun H I K O C E=>(Ut L f (c+1) H I K O C E).1.1) 6 0 0 (q.take p) b B R e;have ac:=M.len;have ad:=M.tn b
        split
        ·rename_i Q;exact N4 h m A p x (.inr ⟨s,2,G,t,n,o,u,.inr ⟨rfl,fun Z d z y _=>(F Z d z y).mono fun e w' J=>by
          obtain⟨rfl,ag,ah,X,_⟩:=J;exact⟨b,true,rfl,fun _=>Q,X.no⟩⟩⟩)
        ·rename_i Q;exact YB W r i j g v w q va vt h m A p x G t n s o u b (by omega) B (fun Z d z y _=>F Z d z y) (M.fresh (.inl rfl) (by omega)) (by omega) (by omega)
      ·rename_i Y;exact N4 h m A p x (.inr ⟨s,kk,G,t,n,o,u,.inl ⟨n3,Y⟩⟩)
def BL(s:By):List UInt8:=s.data.toList
theorem DZ(s:By):(BL s).length=s.size:=AG
theorem DO(a b:By):BL (a++b)=BL a++BL b:=by unfold BL;simp
theorem JV(s:By)(i j:Nat):BL (s.extract i j)=((BL s).drop i).take (j-i):=by unfold BL;rw[Cc]
theorem Kn{a b:By}(h:BL a=BL b):a=b:=A7 (by unfold BL at h;exact h)
theorem KR(s:By)(n:Nat):BL (Dg s n)=(BL s++List.replicate n 0).take n:=by
 unfold Dg
 split
 ·rename_i h;rw[JV,BY,EH,A4 (by rw[DZ];exact h)]
 ·rename_i h;rw[DO];have e:BL (⟨(List.replicate (n-s.size) 0).toArray⟩:By)=List.replicate (n-s.size) 0:=by unfold BL;simp
  rw[e,BN,Ah (by rw[DZ];omega),DZ,BM]
  congr 2;omega
theorem ND(T:By):∀j,BL (Dv T j)=(BL T).drop (10*j)
 | 0=>by simp[Dv]
 | j+1=>by
  unfold Dv;rw[JV,ND T j,Ah (by rw[Az,Az,DZ,QW];omega),List.drop_drop]
  congr 1
theorem Ph(s:By)(h:2<=s.size):Gu s=DA ((BL s).take 2):=by
 unfold Gu;show DA (BL (Dg s 2))=_;rw[KR,A4 (by rw[DZ];exact h)]
theorem Sn(s:By)(h:10<=s.size):GD s=DA (((BL s).drop 2).take 8):=by
 unfold GD;show DA (BL (Dg (s.extract 2 s.size) 8))=_;have e:BL (s.extract 2 s.size)=(BL s).drop 2:=by rw[JV,Ah (by rw[Az,DZ];exact Aa _)]
 rw[KR,e,A4 (by rw[Az,DZ];omega)]
def DR(f:Nat->List UInt8):Nat->List UInt8
 | 0=>[]
 | n+1=>DR f n++f n
theorem KI{f:Nat->List UInt8}{m:Nat}(a:∀k,(f k).length=m):∀n,(DR f n).length=m*n
 | 0=>by simp[DR]
 | n+1=>by unfold DR;rw[Ad,KI a n,a,Nat.mul_succ]
theorem Qn{f:Nat->List UInt8}{m:Nat}(a:∀k,(f k).length=m):∀(n k:Nat),k<n->((DR f n).drop (m*k)).take m=f k
 | 0,k,h=>by omega
 | n+1,k,h=>by
  unfold DR;have b:=KI a n;by_cases e:k=n
  ·subst e;rw[<-b,Fi,Ah (by rw[a];exact Aa _)]
  ·have hk:m*k+m<=m*n:=by rw[<-Nat.mul_succ];exact EV m (by omega)
   rw[EB (by rw[b];omega),A4 (by rw[Az,b];omega)];exact Qn a n k (by omega)
def DT(p x:Nat):List UInt8:=DC p 2++DC x 8
theorem JK(p x:Nat):(DT p x).length=10:=by unfold DT;rw[Ad,D4,D4]
theorem Ub(p x:Nat):BL (DI p x)=DT p x:=by unfold BL DI DT;simp
theorem Pc(kk:UInt8)(s:By)(a i:Nat):BL (DJ (Dw kk s a i))=(BL (IJ s a i)++List.replicate 63 0).take 63:=by
 unfold DJ Dw;rw[JV,DO,show BL (⟨#[kk]⟩:By)=[kk] from rfl];rw[show([kk]++BL (Dg (IJ s a i) 63)).drop 1=BL (Dg (IJ s a i) 63) from rfl,Ah (by rw[DZ,Jc];exact Aa _),KR]
theorem ref_at{c:By}{f:Nat->List UInt8}(a:∀k,(f k).length=10){n:Nat}(e:BL c=DR f n)(i j:Nat)(hj:j<6):
  (BL (Dv (DJ (Dw 2 c 60 i)) j)).take 10=if 6*i+j<n then f (6*i+j) else List.replicate 10 0:=by
 have b:=KI a n;rw[ND,Pc];unfold IJ;rw[JV,e,show i*60+60-i*60=60 by omega];rw[Fh,B9,show min 10 (63-10*j)=10 by omega];by_cases h:6*i+j<n
 ·rw[if_pos h,<-Qn a n _ h];have aa:10*j+10<=(((DR f n).drop (i*60)).take 60).length:=by rw[Am,Az,b];omega
  rw[EB (by omega),A4 (by rw[Az];omega),Fh,List.drop_drop,B9,show min 10 (60-10*j)=10 by omega,show i*60+10*j=10*(6*i+j) by omega]
 ·rw[if_neg h];have d:(((DR f n).drop (i*60)).take 60).length<=10*j:=by rw[Am,Az,b];omega
  rw[Fv,Cq d,AA,CL,BM]
  congr 1;omega
theorem Um{a:By}{P X:Nat->Nat}(e:∀k,P k<65536)(g:∀k,X k<18446744073709551616){n:Nat}(o:BL a=DR (fun k=>DT (P k) (X k)) n)(i j:Nat)(m:j<6):
  Gu (Dv (DJ (Dw 2 a 60 i)) j)=(if 6*i+j<n then P (6*i+j) else 0)/\GD (Dv (DJ (Dw 2 a 60 i)) j)=(if 6*i+j<n then X (6*i+j) else 0):=by
 have b:=ref_at (f:=fun k=>DT (P k) (X k)) (fun k=>JK _ _) o i j m;have aa:(Dv (DJ (Dw 2 a 60 i)) j).size=63-10*j:=by
  rw[QW];have:(DJ (Dw 2 a 60 i)).size=63:=by unfold DJ;rw[Af,QJ];rfl
  rw[this]
 rw[Ph _ (by omega),Sn _ (by omega)];generalize BL (Dv (DJ (Dw 2 a 60 i)) j)=l at b ⊢
 have c:l.take 2=(l.take 10).take 2:=by rw[B9];rfl
 have d:(l.drop 2).take 8=(l.take 10).drop 2:=by rw[Fh]
 rw[c,d,b];by_cases h:6*i+j<n
 ·simp only[if_pos h];unfold DT;rw[BP (D4 2 _),CQ (D4 2 _),Kr 2 _ (e _),Kr 8 _ (g _)];exact⟨rfl,rfl⟩
 ·simp only[if_neg h];exact⟨rfl,rfl⟩
structure Rows(D:LY)(R:NB)(N:Nat->Nat)(P X:Nat->Nat->Nat)(B:Nat):Prop where
 b8:B<8
 n0:N 0=((R 0).size+63-1)/63
 nn:∀b,b<B->N (b+1)=(10*N b+60-1)/60
 rr:∀b,b<B->BL (R (b+1))=DR (fun k=>DT (P b k) (X b k)) (N b)
 top:N B=1
 d0:∀i,i<N 0->D[P 0 i]?=some (Dw 3 (R 0) 63 i)
 d1:∀b,b<B->∀i,i<N (b+1)->D[P (b+1) i]?=some (Dw 2 (R (b+1)) 60 i)
 pl:∀b i,b<=B->i<N b->16<=P b i/\P b i<1536
 px:∀b k,P b k<65536/\X b k<18446744073709551616
 inj:∀b i b' i',b<=B->b'<=B->i<N b->i'<N b'->P b i=P b' i'->b=b'/\i=i'
 ns:∀b,b<=B->N b<=1000
def Dy(b k:Nat):Nat:=Dd (if b=0 then 3 else 2) b k
theorem Tv{b k a c:Nat}(h1:b<60000)(h2:a<60000)(h3:k<60000)(h4:c<60000)(h:Dy b k=Dy a c):b=a/\k=c:=by
 unfold Dy Dd at h
 split at h<;>split at h<;>omega
def Ka(f:Nat->Nat):Nat->Nat
 | 0=>0
 | n+1=>Ka f n+f n
theorem Tb{f g:Nat->Nat}:∀n,(∀k,k<n->f k<=g k)->Ka f n<=Ka g n
 | 0,_=>Aa _
 | n+1,h=>Nat.add_le_add (Tb n (fun k hk=>h k (by omega))) (h n (by omega))
theorem Tq(f:Nat->Nat)(b:Nat):∀n,Ka (fun k=>if k=b then f b+1 else f k) n=Ka f n+if b<n then 1 else 0
 | 0=>rfl
 | n+1=>by
  unfold Ka;rw[Tq f b n];by_cases a:b<n
  ·rw[if_pos a,if_neg (by omega),if_pos (by omega)];omega
  ·by_cases c:n=b
   ·subst c;rw[if_neg a,if_pos rfl,if_pos (by omega)];omega
   ·rw[if_neg a,if_neg c,if_neg (by omega)];omega
theorem Rs(c:Nat):∀n,Ka (fun _=>c) n=c*n
 | 0=>rfl
 | n+1=>by unfold Ka;rw[Rs c n,Nat.mul_succ]
structure GI(N:Nat->Nat)(P:Nat->Nat->Nat)(ch:Nat->List UInt8)(B c:Nat)(q:F5):Prop where
 g1:∀y∈q.ins,∃b k,b<=B/\k<q.tn b/\y=(Dy b k,P b k)
 g6:∀b k,b<=B->k<q.tn b->(Dy b k,P b k)∈q.ins
 g2:∀p,q.tk p=true->(∃b k,b<=B/\k<q.tn b/\p=P b k)\/∃b,c<=b/\b<=B/\q.tn b<N b/\p=P b (q.tn b)
 g3:∀b,b<=B->q.tn b<=N b
 g5:BL q.t=DR ch (q.tn 0)
 g7:q.ins.length=Ka q.tn (B+1)
section
variable{D:LY}{R:NB}{N:Nat->Nat}{P X:Nat->Nat->Nat}{B:Nat}{ch:Nat->List UInt8}
theorem GI.fresh(f:Rows D R N P X B){b:Nat}(g:b<=B){q:F5}(h:GI N P ch B (b+1) q)(i:q.tn b<N b):q.tk (P b (q.tn b))=false:=by
 cases e:q.tk (P b (q.tn b)) with
 | false=>rfl
 | true=>
  rcases h.g2 _ e with⟨j,k,a,c,d⟩|⟨j,a,c,d,l⟩
  ·obtain⟨rfl,h5⟩:=f.inj _ _ _ _ g a i (Be c (h.g3 _ a)) d;omega
  ·obtain⟨rfl,_⟩:=f.inj _ _ _ _ g c i d l;omega
theorem GI.take(_hR:Rows D R N P X B){b:Nat}(d:b<=B){q:F5}(h:GI N P ch B (b+1) q)(f:q.tn b<N b):GI N P ch B b (q.take (P b (q.tn b))):=
 ⟨h.g1,h.g6,fun p g=>by
  by_cases e:p=P b (q.tn b)
  ·exact .inr ⟨b,Aa _,d,f,e⟩
  ·have i:q.tk p=true:=by
    have j:(if p=P b (q.tn b) then true else q.tk p)=true:=g
    rwa [if_neg e]at j
   exact(h.g2 p i).imp id (fun ⟨a,h1,c⟩=>⟨a,by omega,c⟩),h.g3,h.g5,h.g7⟩
theorem GI.done(_hR:Rows D R N P X B){b:Nat}(o:b<=B){q:F5}(h:GI N P ch B b q)(hi:q.tn b<N b)(j:By)(s:BL j=DR ch (if 0=b then q.tn b+1 else q.tn 0)):
  GI N P ch B (b+1) ((({ q with t:=j }:F5).put (Dy b (q.tn b)) (P b (q.tn b))).turn b):=by
 have f:∀k,((({ q with t:=j }:F5).put (Dy b (q.tn b)) (P b (q.tn b))).turn b).tn k=if k=b then q.tn b+1 else q.tn k:=fun _=>rfl
 have l:((({ q with t:=j }:F5).put (Dy b (q.tn b)) (P b (q.tn b))).turn b).ins=q.ins++[(Dy b (q.tn b),P b (q.tn b))]:=rfl;refine⟨fun y n=>?_,fun a k d c=>?_,fun p r=>?_,fun a d=>?_,?_,?_⟩
 ·rw[l]at n;rcases Ap.1 n with e|e
  ·obtain⟨a,k,d,c,i⟩:=h.g1 y e;refine⟨a,k,d,?_,i⟩;rw[f];split
   ·rename_i g;subst g;omega
   ·exact c
  ·refine⟨b,q.tn b,o,?_,Ab.1 e⟩;rw[f,if_pos rfl];omega
 ·rw[f]at c;rw[l];by_cases e:a=b
  ·subst e;rw[if_pos rfl]at c;by_cases g:k=q.tn a
   ·subst g;exact Bo _ (Ab.2 rfl)
   ·exact A0 _ (h.g6 a k d (by omega))
  ·rw[if_neg e]at c;exact A0 _ (h.g6 a k d c)
 ·rcases h.g2 p r with⟨a,k,d,c,i⟩|⟨a,d,c,i,m⟩
  ·refine .inl ⟨a,k,d,?_,i⟩;rw[f];split
   ·rename_i g;subst g;omega
   ·exact c
  ·by_cases e:a=b
   ·subst e;exact .inl ⟨a,q.tn a,c,by rw[f,if_pos rfl];omega,m⟩
   ·exact .inr ⟨a,by omega,c,by rw[f,if_neg e];exact i,by rw[f,if_neg e];exact m⟩
 ·rw[f];split
  ·rename_i g;subst g;omega
  ·exact h.g3 a d
 ·show BL j=DR ch (if 0=b then q.tn b+1 else q.tn 0);exact s
 ·rw[l,Ad,h.g7];show _=Ka (fun k=>if k=b then q.tn b+1 else q.tn k) (B+1);rw[Tq,if_pos (by omega)];rfl
def IH(f:Nat->F5->F5)(a:Nat):Nat->F5->F5
 | 0,q=>q
 | m+1,q=>f (a+m) (IH f a m q)
def JB(N:Nat->Nat)(P:Nat->Nat->Nat)(cb:NB):Nat->Nat->F5->F5
 | 0,i,q=>(((q.take (P 0 i)).say (cb i)).put (Dd 3 0 (q.tn 0)) (P 0 i)).turn 0
 | b+1,i,q=>(((IH (JB N P cb b) (6*i) (min 6 (N b-6*i)) (q.take (P (b+1) i))).put (Dd 2 (b+1) ((IH (JB N P cb b) (6*i) (min 6 (N b-6*i)) (q.take (P (b+1) i))).tn (b+1))) (P (b+1) i)).turn (b+1))
def I6(N:Nat->Nat)(b i:Nat)(q:F5):Prop:=q.tn b=i/\∀b',b'<b->q.tn b'=min (6 ^ (b-b')*i) (N b')
theorem Rows.grow(a:Rows D R N P X B):∀(d b:Nat),b+d<=B->N b<=6 ^ d*N (b+d)
 | 0,b,_=>by simp
 | d+1,b,h=>by
  have ih:=Rows.grow a d b (by omega);have:=a.nn (b+d) (by omega);rw[C1,Fz];refine Ag ih (EV _ ?_);rw[show b+(d+1)=b+d+1 by omega];omega
theorem Rc(c:Rows D R N P X B){cb:NB}(s:∀i,BL (cb i)=ch i):∀(b:Nat),b<=B->∀(i:Nat) (q:F5),i<N b->GI N P ch B (b+1) q->I6 N b i q->
  GI N P ch B (b+1) (JB N P cb b i q)/\I6 N b (i+1) (JB N P cb b i q)/\∀a,b<a->(JB N P cb b i q).tn a=q.tn a
 | 0,hb,i,q,hi,h,ht=>by
  have f:q.tn 0=i:=ht.1;have l:q.tn 0<N 0:=by omega
  have o:=(GI.take c hb h l).done c hb l (q.t++cb i) (by rw[DO,h.g5,s,if_pos rfl];show _=DR ch (q.tn 0+1);rw[f];rfl);have n:JB N P cb 0 i q=(({ (q.take (P 0 (q.tn 0))) with t:=q.t++cb i }:F5).put (Dy 0 ((q.take (P 0 (q.tn 0))).tn 0)) (P 0 ((q.take (P 0 (q.tn 0))).tn 0))).turn 0:=by
   show(((q.take (P 0 i)).say (cb i)).put (Dd 3 0 (q.tn 0)) (P 0 i)).turn 0=_;rw[<-f];rfl
  rw[n];refine⟨o,⟨?_,fun a d=>by omega⟩,fun a d=>?_⟩
  ·show(if (0:Nat)=0 then q.tn 0+1 else q.tn 0)=_;rw[if_pos rfl,f]
  ·show(if a=0 then q.tn 0+1 else q.tn a)=_;rw[if_neg (by omega)]
 | b+1,hb,i,q,hi,h,ht=>by
  have f:q.tn (b+1)=i:=ht.1;have l:q.tn (b+1)<N (b+1):=by omega
  have aa:=c.nn b (by omega);have h6:6*i<N b:=by omega
  have v:I6 N b (6*i) (q.take (P (b+1) i)):=by
   refine⟨?_,fun a d=>?_⟩
   ·show q.tn b=_;rw[ht.2 b (by omega),show b+1-b=1 by omega];omega
   ·show q.tn a=_;rw[ht.2 a (by omega),show b+1-a=b-a+1 by omega,C1,Fz]
  have u:GI N P ch B (b+1) (q.take (P (b+1) i)):=by rw[<-f];exact GI.take c hb h l
  have E:∀m,m<=min 6 (N b-6*i)->GI N P ch B (b+1) (IH (JB N P cb b) (6*i) m (q.take (P (b+1) i)))/\I6 N b (6*i+m) (IH (JB N P cb b) (6*i) m (q.take (P (b+1) i)))/\∀a,b<a->(IH (JB N P cb b) (6*i) m (q.take (P (b+1) i))).tn a=q.tn a:=fun m=>by
   induction m with
   | zero=>exact fun _=>⟨u,v,fun a _=>rfl⟩
   | succ m ih=>
    intro y;obtain⟨g,j,k⟩:=ih (by omega);obtain⟨z,A,C⟩:=Rc c s b (by omega) (6*i+m) _ (by omega) g j;exact⟨z,A,fun a d=>(C a d).trans (k a d)⟩
  obtain⟨g,j,k⟩:=E _ (Aa _);generalize hq2:IH (JB N P cb b) (6*i) (min 6 (N b-6*i)) (q.take (P (b+1) i))=q2 at g j k
  have r:q2.tn (b+1)=i:=(k (b+1) (by omega)).trans f;have x:q2.tn (b+1)<N (b+1):=by omega
  have o:=g.done c hb x q2.t (by rw[g.g5,if_neg (by omega)]);have n:JB N P cb (b+1) i q=((({ q2 with t:=q2.t }:F5).put (Dy (b+1) (q2.tn (b+1))) (P (b+1) (q2.tn (b+1)))).turn (b+1)):=by
   show((_:F5).put (Dd 2 (b+1) _) (P (b+1) i)).turn (b+1)=_;rw[hq2];unfold Dy;rw[if_neg (by omega),r]
  rw[n];refine⟨o,⟨?_,fun a d=>?_⟩,fun a d=>?_⟩
  ·show(if b+1=b+1 then q2.tn (b+1)+1 else q2.tn (b+1))=_;rw[if_pos rfl,r]
  ·show(if a=b+1 then q2.tn (b+1)+1 else q2.tn a)=_;rw[if_neg (by omega)];by_cases e:a=b
   ·subst e;rw[j.1,show a+1-a=1 by omega];omega
   ·rw[j.2 a (by omega),show b+1-a=b-a+1 by omega,C1,Fz];by_cases y:6*(i+1)<=N b
    ·rw[show 6*i+min 6 (N b-6*i)=6*(i+1) by omega]
    ·have p:=c.grow (b-a) a (by omega);rw[show a+(b-a)=b by omega]at p;rw[show 6*i+min 6 (N b-6*i)=N b by omega];have w:6 ^ (b-a)*N b<=6 ^ (b-a)*(6*(i+1)):=EV _ (by omega);rw[Eh p,Eh (Ag p w)]
  ·show(if a=b+1 then q2.tn (b+1)+1 else q2.tn a)=_;rw[if_neg (by omega)];exact k a (by omega)
end
theorem Qm(kk:UInt8)(s:By)(a i:Nat):(Dw kk s a i).data[0]?=some kk:=by
 rw[<-Cm];show(BL (Dw kk s a i))[0]?=some kk;unfold Dw;rw[DO,show BL (⟨#[kk]⟩:By)=[kk] from rfl]
 rfl
section
variable{D:LY}{R:NB}{N:Nat->Nat}{P X:Nat->Nat->Nat}{B:Nat}{ch:Nat->List UInt8}
theorem ZT(c:Rows D R N P X B){cb:NB}(j:∀i,BL (cb i)=ch i){b:Nat}(g:b+1<=B){i:Nat}{q:F5}(hi:i<N (b+1))(h:GI N P ch B (b+2) q)(e:I6 N (b+1) i q):
  6*i<N b/\∀m,m<=min 6 (N b-6*i)->GI N P ch B (b+1) (IH (JB N P cb b) (6*i) m (q.take (P (b+1) i)))/\I6 N b (6*i+m) (IH (JB N P cb b) (6*i) m (q.take (P (b+1) i)))/\∀a,b<a->(IH (JB N P cb b) (6*i) m (q.take (P (b+1) i))).tn a=q.tn a:=by
 have f:q.tn (b+1)=i:=e.1;have k:q.tn (b+1)<N (b+1):=by omega
 have aa:=c.nn b (by omega);refine⟨by omega,fun m=>?_⟩
 induction m with
 | zero=>
  refine fun _=>⟨by rw[<-f];exact GI.take c g h k,⟨?_,fun a d=>?_⟩,fun a _=>rfl⟩
  ·show q.tn b=_;rw[e.2 b (by omega),show b+1-b=1 by omega];omega
  ·show q.tn a=_;rw[e.2 a (by omega),show b+1-a=b-a+1 by omega,C1,Fz,El]
 | succ m ih=>
  intro hm;obtain⟨p,r,s⟩:=ih (by omega);obtain⟨l,n,o⟩:=Rc c j b (by omega) (6*i+m) _ (by omega) p r;exact⟨l,n,fun a d=>(o a d).trans (s a d)⟩
def I5(R:NB)(i:Nat):By:=DJ (Dw 3 (R 0) 63 i)
end
end Go.Proofs.YtaieidcohdhgpaaGreatDoor
