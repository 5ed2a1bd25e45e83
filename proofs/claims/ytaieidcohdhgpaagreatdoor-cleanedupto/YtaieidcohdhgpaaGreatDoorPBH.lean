/- Cleaned. -/
import Derived.Test.YtaieidcohdhgpaaGreatDoorPBG
namespace Go.Proofs.YtaieidcohdhgpaaGreatDoor
set_option maxHeartbeats 8000000
set_option maxRecDepth 100000
open Go.RowKit
theorem Zoi(w C:World)(u d z E F:Nat)(q:RdQ)(A B:Value)(h:RdS C u d z E F q A B w){vf vw ve:Value}{a:OA}{l c:Nat}{D:LY}(hD:DO C z vf (.slice a l c) vw ve D)(av:z<u/\∀k,Own (.slice a l c) k->k<u)
  (p x:Nat) (aS:16<=p) (aT:p<1536) (hk:q.tk p=false) (s:By) (hs:D[p]?=some s) (ax:s.data[0]?=some 2) (b:Nat) (hb:b<8) (m:RdQ)
  (ao:∀Z Bb,RdS C u d z E F (q.take p) A B Z->RowIs Z Bb 188 (Dc s)->w.heap.size<Bb->Calls Tryz.prog 242 #[.pointer (some ⟨d,0,none⟩),.agg #[.slice (some ⟨Bb,1,none⟩) 63 63]] Z (Km C u d z E F Z A B b m))
  (aw:∀y∈m.ins,y.1≠Dd 2 b (m.tn b)) (au:m.ins.length<=9999) (aA:m.tn b<60000):
  Calls Tryz.prog 202 #[.pointer (some ⟨d,0,none⟩),.agg #[.int .i64 (p:Nat),.int .u64 (x:Nat)]] w (Km C u d z E F w A B b ((m.put (Dd 2 b (m.tn b)) p).turn b)):=by
 have ay:s.size=64:=hD.2.1.2 s (List.mem_of_getElem? hs);obtain⟨aQ,ae,ar⟩:=h.lt;obtain⟨W1,e1,M,k1,s1,P⟩:=De w [.int .i64 (p:Nat),.int .u64 (x:Nat)] 175;have h1:=h.below P;have a6:u<=w.heap.size:=Nat.le_trans h.sz h.bel.size;obtain⟨f,G⟩:∃T,T=m.tn b:=⟨_,rfl⟩;have aZ:f<60000:=by rw[G];exact aA
 obtain⟨VB,aa⟩:∃V,V=Dx s:=⟨_,rfl⟩;have O:Hid (Calls Tryz.prog 241 #[.pointer (some ⟨d,0,none⟩),.agg #[.int .i64 (p:Nat),.int .u64 (x:Nat)]] W1 fun e X=>e = .returned (.tuple #[VB,.bool true])/\∃Y Z,X.alloc (.cells (Dc (Dp 64)).toArray 188)=Y/\RowIs Y X.heap.size 188 (Dc (Dp 64))/\Y.setRow X.heap.size (Dc s).toArray=Z/\Z.cell? ⟨X.heap.size,0,none⟩=some (.int .u8 2)/\
   Hid (Calls Tryz.prog 242 #[.pointer (some ⟨d,0,none⟩),.agg #[.slice (some ⟨X.heap.size,1,none⟩) 63 63]] Z fun e t=>e = .returned (.tuple #[.int .i64 (b:Nat),.bool true])/\t.cell? ⟨d,1540+b,none⟩=some (.int .i64 (f:Nat))/\t.cell? ⟨w.heap.size,0,none⟩=some (.int .i64 (p:Nat))/\
    Hid (Calls Tryz.prog 243 #[.pointer (some ⟨d,1,none⟩),.int .u64 ((2*4294967296+b*65536+f:Nat):Int),.int .i64 (p:Nat)] t.drew fun e n=>e = .returned (.tuple #[])/\n.cell? ⟨d,1540+b,none⟩=some (.int .i64 (f:Nat))/\n.cell? ⟨w.heap.size,0,none⟩=some (.int .i64 (p:Nat))/\n.frozen? ⟨d,1540+b,none⟩=false/\
     Hid (Km C u d z E F w A B b ((m.put (Dd 2 b (m.tn b)) p).turn b) (.returned (.tuple #[.int .i64 (b:Nat),.bool true])) (n.setCell ⟨d,1540+b,none⟩ (.int .i64 ((f:Int)+1))).drew)))):=by
  refine(h1.take_call hD av (x:=x) aS aT hk hs).mono ?_;rintro e X ⟨rfl,hX,ad⟩;have aO:Fr (fun k=>k=d) w X:=(Fr.of_below P).then ad (fun _ _ e=>e);have a0:=ad.size;obtain⟨Y,eY,N,kY,sY,bY⟩:=De X (Dc (Dp 64)) 188;have xZ:RowIs (Y.setRow X.heap.size (Dc s).toArray) X.heap.size 188 (Dc s):=setRow_heap Y _ _ _ 188 _ N;have H:Below X.heap.size X (Y.setRow X.heap.size (Dc s).toArray):=bY.trans ⟨rfl,rfl,rfl,by simp,fun j hj=>setRow_other Y _ j _ (by omega)⟩;obtain⟨Z,L⟩:∃Z,Y.setRow X.heap.size (Dc s).toArray=Z:=⟨_,rfl⟩;rw[L]at xZ H;have aL:=hX.below H;have a3:=H.size;have b0:RowIs X w.heap.size 175 _:=(ad.block _ M.lt (show ¬w.heap.size=d by omega)).trans M;have aj:RowIs Z w.heap.size 175 _:=(H.block _ b0.lt).trans b0;refine⟨by rw[aa],Y,Z,eY,N,L,?_,?_⟩
  ·rw[xZ.cell];have h0:s.data.toList[0]?=some 2:=by rw[Array.getElem?_toList];exact ax
   show(Dc s)[0]? = _;unfold Dc;rw[List.getElem?_map,h0];rfl
  ·refine(ao Z X.heap.size aL xZ (by omega)).mono ?_;rintro e t ⟨rfl,aW,af,am,ab,n1,n2⟩;have R:RowIs t w.heap.size 175 _:=(ab.block _ aj.lt (fun e=>by
    rcases e with e|e|e
    ·omega
    ·have:=ae _ e;omega
    ·have:=ar _ e;omega)).trans aj
   have c2:=am.cells.2.2.2.2 b hb;have a1:=ab.size;refine⟨rfl,by rw[G];exact c2.1,(R.cell 0).trans rfl,?_⟩;have aV:RdS C u d z E F m aW af t.drew:=am.below ⟨rfl,rfl,rfl,Nat.le_refl _,fun _ _=>rfl⟩;have aU:=aV.put_call (r:=Dd 2 b f) (p:=p) (by rw[G];exact aw) au;refine aU.mono ?_;rintro e n ⟨rfl,aC,an,ac,aR⟩;have a2:=ac.size;have b7:RowIs n w.heap.size 175 _:=(ac.block _ R.lt (fun e=>e.elim (fun e=>by omega) (fun e=>(n1 _ e).elim (fun e=>by have:=ae _ e;omega) (fun e=>by omega)))).trans R;have c3:=an.cells.2.2.2.2 b hb;have aq:=an.turn (b:=b) hb;have az:(m.put (Dd 2 b f) p).tn b=f:=G.symm;rw[az]at aq;have aI:Fr (fun k=>k=d) n (n.setCell ⟨d,1540+b,none⟩ (.int .i64 ((f+1:Nat):Int))):=(Fr.refl _ _).set _ _ rfl;have aP:RdS C u d z E F ((m.put (Dd 2 b f) p).turn b) aC af (n.setCell ⟨d,1540+b,none⟩ (.int .i64 ((f+1:Nat):Int))).drew:=aq.below ⟨rfl,rfl,rfl,Nat.le_refl _,fun _ _=>rfl⟩;rw[show((f:Int)+1)=((f+1:Nat):Int) by omega];have a7:t.drew.heap.size=t.heap.size:=rfl;have aN:n.cell? ⟨d,1540+b,none⟩=some (.int .i64 (f:Nat)):=c3.1.trans (by rw[show(m.put (Dd 2 b f) p).tn b=f from az]);refine⟨rfl,aN,(b7.cell 0).trans rfl,c3.2,rfl,aC,af,by rw[<-G];exact aP,?_,fun g hg=>(aR g hg).elim (fun e=>(n1 g e).imp id (fun e=>by omega)) (fun e => .inr (by omega)),fun g hg=>(n2 g hg).imp id (fun e=>by omega)⟩;have f1:Fr (fun k=>k=d\/Own A k\/Own B k) w Z:=(aO.mono (Y:=fun k=>k=d\/Own A k\/Own B k) (fun k _ e => .inl e)).then (Fr.of_below (X:=fun _=>False) H) (fun _ _ e=>e.elim);have I:=f1.then ab (fun k _ e=>e);have f3:Fr (fun k=>k=d\/Own A k\/Own B k) w t.drew:=⟨I.os,I.tape,I.output,I.size,I.block⟩;have f4:=f3.then ac (fun k hk e=>e.elim .inl (fun e=>(n1 k e).elim (fun e => .inr (.inl e)) (fun e=>by omega)));have J:=f4.then aI (fun k _ e => .inl e);exact⟨J.os,J.tape,J.output,J.size,J.block⟩
 have aF:Hid (∀V,Calls Tryz.prog 244 #[.int .u8 2,.int .i64 (b:Nat),.int .i64 (f:Nat)] V fun e w'=>e = .returned (.int .u64 ((2*4294967296+b*65536+f:Nat):Int))/\w'=V):=fun V=>Um V 2 b f (by omega) (by omega) (by omega)
 have ap:(Dc s).length=64:=by rw[Dh,ay]
 have ah:=Db ap;have aG:=Db aa;have aD:=Db e1;have d1:=(M.cell 0).trans (show _=some (Value.int .i64 (p:Nat)) from rfl);have d2:=(M.cell 1).trans (show _=some (Value.int .u64 (x:Nat)) from rfl);obtain⟨QF,al⟩:∃Q,Q=((m.put (Dd 2 b (m.tn b)) p).turn b):=⟨_,rfl⟩;rw[<-al]at O ⊢;have a4:¬(8:Int)<=(b:Int):=by omega
 have a5:(b:Int)<8:=by omega
 clear G e1 M k1 s1 P h1 h hD av hk hs ax aw au aA ay aa ap al aQ ae ar ao;go_enter Tryz.func202,Tryz.ntmps202;go_upto_region 1 with fail;rw[show w.alloc (.cells #[.int .i64 (p:Nat),.int .u64 (x:Nat)] 175)=W1 from Da aD];go_upto_region 2 with(first|(go_at_call 241;refine(Da O).mono ?_;rintro e X ⟨rfl,Y,Z,hY,N,L,z0,ag⟩;have HY:=Db hY;have aH:=Db N;have HZ:=Db L;clear hY N L d1 d2 O)|(refine JO rfl 188 rfl Kn ?_;rw[show X.alloc (.cells (Dc (Dp 64)).toArray 188)=Y from Da HY])|(refine wpList_store_row rfl 188 _ _ rfl X.heap.size (Dc s).toArray rfl (Da aG) 188 _ (Da aH) (by rw[D7];simp[Da ah]) (by simp[Da ah,Dh,Jq]) (KF _) ?_;rw[Da HZ]));go_upto_region 11 with(go_at_call 242;refine(Da ag).mono ?_;rintro e t ⟨rfl,U,W,ai⟩);clear ag z0;go_upto_region 13 with fail;refine wp_region_held_drew (S:=fun V=>V.cell? ⟨d,1540+b,none⟩=some (.int .i64 (f:Nat))/\V.cell? ⟨w.heap.size,0,none⟩=some (.int .i64 (p:Nat))) (by kernel_rfl) ⟨U,W⟩ (fun ak=>?_);refine tk 0 ?_;try simp only[pE];refine tk 1 ?_;try simp only[pE];refine tk 2 ?_;try simp only[pE];refine tk 3 ?_;try simp only[pE];refine tk 4 ?_;try simp only[pE];refine tk 5 ?_;try simp only[pE];refine tk 6 ?_;try simp only[pE];refine tk 7 ?_;try simp only[pE];refine tk 8 ?_;try simp only[pE];refine tk 9 ?_;try simp only[pE];refine tk 10 ?_;try simp only[pE];refine tk 11 ?_;try simp only[pE];refine tk 13 ?_;try simp only[pE];refine tk 14 ?_;try simp only[pE];refine rk 12 (fun K o=>?_);go_simp;go_at_call 244;refine(Da aF _).mono ?_;rintro e w' ⟨rfl,aB⟩;rw[aB];clear aB;go_wp2_with fail;refine o.out _ _ ⟨U,W⟩ (fun aJ=>?_);clear o K
 (try simp only[pE])
 refine rk 15 (fun K o=>?_);go_simp;go_at_call 243;refine(Da ai).mono ?_;rintro e n ⟨rfl,y1,y2,y3,aE⟩;go_wp2_with fail;refine o.out _ _ ⟨y1,y2⟩ (fun aK=>?_);clear o K
 (try simp only[pE])
 refine wpAnyH_done (by kernel_rfl) ?_ _;clear ak aJ aK U W ai;go_upto_region 14 with fail;refine wp_region_held_drew (S:=fun V=>True) (by kernel_rfl) trivial (fun ak=>?_);refine tk 0 ?_;try simp only[pE];refine tk 1 ?_;try simp only[pE];refine tk 2 ?_;try simp only[pE];refine tk 3 ?_;try simp only[pE];refine tk 4 ?_;try simp only[pE];refine tk 7 ?_;try simp only[pE];refine tk 8 ?_;try simp only[pE];refine rk 5 (fun K o=>?_);go_simp;refine o.out _ _ trivial (fun aY=>?_);clear o K
 (try simp only[pE])
 refine wpAnyH_take (i:=6) (v := .int .i64 ((f+1:Nat):Int)) rfl (by kernel_rfl) (by kernel_rfl) (by kernel_rfl) (fun _ _ _ h=>h) (Or.inl ⟨by rfl,by intro w aM;(try dsimp only at aM);go_simp;rw[IntKind.wrap_i64];omega⟩) (by assumption) ?_
 (try simp only[pE])
 refine tk 9 ?_;try simp only[pE];refine rk 10 (fun K o=>?_);go_simp;refine o.out _ _ trivial (fun aX=>?_);clear o K
 (try simp only[pE])
 refine wpAnyH_done (by kernel_rfl) ?_ _;go_wp2;exact bodyPost_ret (v := .tuple #[.int .i64 (b:Nat),.bool true]) (by simp[results,Tryz.results202,go_sem]) rfl (Da aE)
def DE(T:By):NB
 | 0=>T
 | j+1=>(DE T j).extract 10 (DE T j).size
theorem Ub(T:By):∀j,(DE T j).size=T.size-10*j
 | 0=>by simp[DE]
 | j+1=>by
  unfold DE;rw[ByteArray.size_extract,Ub T j];omega
theorem RdS.ne{r:World}{n d i o p:Nat}{q:RdQ}{f g:Value}{W:World}(h:RdS r n d i o p q f g W){B:Nat}{t:TypeId}{L:LVa}(b:RowIs W B t L)(k:t≠197)(l:t≠350)(m:t≠5):B≠d/\¬Own f B/\¬Own g B:=by
 obtain⟨Lr,c,_⟩:=h.row;obtain⟨es,_,j⟩:=h.es;refine⟨fun e=>?_,fun e=>?_,fun e=>?_⟩
 ·subst e;unfold RowIs at b c;rw[b]at c;cases c;exact k rfl
 ·obtain⟨R,a⟩:=j.type e;unfold RowIs at b a;rw[b]at a;cases a;exact l rfl
 ·obtain⟨R,a⟩:=h.tab.1.type e;unfold RowIs at b a;rw[b]at a;cases a;exact m rfl
structure GaI(w w0:World)(n0 rb db tp tx:Nat)(va0 vt0:Value)(Bb:Nat)(s:By)(q:RdQ)(j:Nat)(va vt:Value)(wr:World):Prop where
 rd:RdS w0 n0 rb db tp tx q va vt wr
 bf:∃a2 c2,RowIs wr w.heap.size 287 [.slice a2 (63-10*j) c2]/\RdB wr a2 (63-10*j) c2 (DE (DT s) j)/\63-10*j<=c2/\∀x,a2=some x->x.block=Bb
 bb:RowIs wr Bb 188 (Dc s)
 fr:Fr (fun k=>k=rb\/Own va0 k\/Own vt0 k) w wr
 na:Dk w va0 va
 nt:Dk w vt0 vt
theorem RdB.row{W b:World}{a:OA}{l c:Nat}{s:By}(h:RdB W a l c s){B:Nat}(f:∀x,a=some x->x.block=B)(e:b.heap[B]?=W.heap[B]?):RdB b a l c s:=
 ⟨h.1,h.2.1,fun j v i=>by
  obtain⟨x,d,g⟩:=h.2.2 j v i;refine⟨x,d,?_⟩;rw[<-g];exact World.cell?_of_block (by show b.heap[(x.add j).block]?=W.heap[(x.add j).block]?;rw[Addr.block_add',f x d];exact e)⟩
def Kv(B:Nat)(wr:World):Nat:=
 match wr.cell? ⟨B,0,none⟩ with
 | some (.slice _ l _)=>l
 | _=>0
theorem ZgS{B:Nat}{wr:World}{a:OA}{l c:Nat}(h:wr.cell? ⟨B,0,none⟩=some (.slice a l c)):Kv B wr=l:=by unfold Kv;rw[h]
theorem ZfX(w z:World)(p c r t u:Nat)(q:Nat->RdQ)(d f:Value)(h:RdS z p c r t u (q 0) d f w)(m b:Nat)(aS:1<=m)(aT:m<=6)(hb:b<100)(i:Nat)(s:By)(hs:s.size=64)(hB:RowIs w i 188 (Dc s))
  (P X:Nat->Nat) (L:∀j,j<m->rdP (DE (DT s) j)=P j/\rdX (DE (DT s) j)=X j/\P j≠0) (av:m<6->rdP (DE (DT s) m)=0/\rdX (DE (DT s) m)=0)
  (A:∀j,j<m->∀W d f,RdS z p c r t u (q j) d f W->Calls Tryz.prog 202 #[.pointer (some ⟨c,0,none⟩),.agg #[.int .i64 (P j:Nat),.int .u64 (X j:Nat)]] W (Km z p c r t u W d f b (q (j+1)))):
  Calls Tryz.prog 242 #[.pointer (some ⟨c,0,none⟩),.agg #[.slice (some ⟨i,1,none⟩) 63 63]] w (Km z p c r t u w d f (b+1) (q m)):=by
 obtain⟨aJ,ag,aK⟩:=h.lt;obtain⟨W1,e1,x1,N,s1,b1⟩:=De w [.slice (some ⟨i,1,none⟩) 63 63] 287;have au:(DT s).size=63:=by unfold DT;rw[ByteArray.size_extract,hs];rfl
 have ae:RowIs W1 i 188 (Dc s):=N _ _ _ hB;have ar:GaI w z p c r t u d f i s (q 0) 0 d f W1:=by
  refine⟨h.below b1,⟨some ⟨i,1,none⟩,63,x1,⟨au.symm,fun e=>(by cases e),fun j v D=>⟨_,rfl,?_⟩⟩,Nat.le_refl _,fun x e=>by cases e;rfl⟩,ae,Fr.of_below b1,fun g A => .inl A,fun g A => .inl A⟩;rw[Addr.add_lit,ae.cell];show(Dc s)[1+j]?=some v;unfold DE DT at D;rw[Jn,List.getElem?_take]at D
  split at D
  ·rw[List.getElem?_drop]at D;exact D
  ·cases D
 have aE:Hid (∀j,j<=m->j<6->∀l n wr,GaI w z p c r t u d f i s (q j) j l n wr->Calls Tryz.prog 238 #[.pointer (some ⟨w.heap.size,0,none⟩)] wr fun e Y=>e = .returned (.agg #[.int .i64 ((if j<m then P j else 0:Nat):Int),.int .u64 ((if j<m then X j else 0:Nat):Int)])/\
   ∃Z,Y.alloc (.cells #[.int .i64 ((if j<m then P j else 0:Nat):Int),.int .u64 ((if j<m then X j else 0:Nat):Int)] 175)=Z/\Z.cell? ⟨Y.heap.size,0,none⟩=some (.int .i64 ((if j<m then P j else 0:Nat):Int))/\Z.cell? ⟨Y.heap.size,1,none⟩=some (.int .u64 ((if j<m then X j else 0:Nat):Int))/\Hid (j<m->Calls Tryz.prog 202 #[.pointer (some ⟨c,0,none⟩),.agg #[.int .i64 (P j:Nat),.int .u64 (X j:Nat)]] Z fun e U=>e = .returned (.tuple #[.int .i64 (b:Nat),.bool true])/\Hid (∃R S,GaI w z p c r t u d f i s (q (j+1)) (j+1) R S U))/\
   Hid (j=m->Km z p c r t u w d f (b+1) (q m) (.returned (.tuple #[.int .i64 ((b:Int)+1),.bool true])) Z)):=fun j aw af l n wr a=>by
  obtain⟨a2,c2,B,g2,g3,g4⟩:=a.bf;have az:w.heap.size≠i:=by have:=hB.lt;omega
  refine(UU wr w.heap.size a2 (63-10*j) c2 (DE (DT s) j) B g2 g3 (fun x e e2=>az (by rw[<-e2];exact g4 x e)) (by omega)).mono ?_;rintro e Y ⟨rfl,E,K,r1,r2,r3,r4,r5⟩;have ay:rdP (DE (DT s) j)=(if j<m then P j else 0)/\rdX (DE (DT s) j)=(if j<m then X j else 0):=by
   by_cases o:j<m
   ·rw[if_pos o,if_pos o];exact⟨(L j o).1,(L j o).2.1⟩
   ·obtain rfl:j=m:=by omega
    rw[if_neg o,if_neg o];exact av af
  obtain⟨Z,eZ,xZ,kZ,sZ,bZ⟩:=De Y [.int .i64 ((if j<m then P j else 0:Nat):Int),.int .u64 ((if j<m then X j else 0:Nat):Int)] 175;have ah:=a.rd.ne B (by decide) (by decide) (by decide);have aM:p<=w.heap.size:=Nat.le_trans h.sz h.bel.size;have aI:RdS z p c r t u (q j) l n Y:=a.rd.fr r5 (fun k e=>by subst e;exact⟨aM,ah.1,ah.2.1,ah.2.2⟩);have M:=aI.below bZ;have ao:RowIs Y i 188 (Dc s):=a.bb.fr r5 (fun e=>az e.symm);have ab:=kZ _ _ _ ao;have ap:=kZ _ _ _ r1;have aG:Fr (fun k=>k=c\/Own d k\/Own f k) w Y:=a.fr.then r5 (fun k hk e=>by omega);have ac:Fr (fun k=>k=c\/Own d k\/Own f k) w Z:=aG.then (Fr.of_below (X:=fun _=>False) bZ) (fun _ _ e=>e.elim);have ad:∀x,E=some x->x.block=i:=fun x e=>by obtain⟨y,e2,e3⟩:=r4 x e;rw[<-e3];exact g4 y e2
  have aN:RdB Z E (63-10*j-10) K (DE (DT s) (j+1)):=r2.row ad (bZ.block _ ao.lt);refine⟨by rw[ay.1,ay.2],Z,eZ,(xZ.cell 0).trans rfl,(xZ.cell 1).trans rfl,fun o=>?_,fun he=>?_⟩
  ·refine(A j o Z l n M).mono ?_;rintro e U ⟨rfl,R,S,u1,O,u3,u4⟩;have ai:=M.ne ab (by decide) (by decide) (by decide);have aj:=M.ne ap (by decide) (by decide) (by decide);have an:RowIs U i 188 (Dc s):=ab.fr O (fun e=>by rcases e with e|e|e;exact ai.1 e;exact ai.2.1 e;exact ai.2.2 e);have aF:RowIs U w.heap.size 287 _:=ap.fr O (fun e=>by rcases e with e|e|e;exact aj.1 e;exact aj.2.1 e;exact aj.2.2 e);have aP:=O.size;have aQ:=ac.size;refine⟨rfl,R,S,⟨u1,⟨E,K,by rw[show 63-10*(j+1)=63-10*j-10 by omega];exact aF,by rw[show 63-10*(j+1)=63-10*j-10 by omega];exact aN.row ad (an.trans ab.symm),by omega,ad⟩,an,ac.then O (fun k hk e=>?_),fun g A=>(u3 g A).elim (a.na g) (fun e => .inr (by omega)),fun g A=>(u4 g A).elim (a.nt g) (fun e => .inr (by omega))⟩⟩;rcases e with e|e|e
   ·exact .inl e
   ·exact(a.na k e).elim (fun e => .inr (.inl e)) (fun e=>by omega)
   ·exact(a.nt k e).elim (fun e => .inr (.inr e)) (fun e=>by omega)
  ·subst he;exact⟨by rw[show((b:Int)+1)=((b+1:Nat):Int) by omega],l,n,M,ac,a.na,a.nt⟩
 have aB:Hid (m=6->∀l n wr,GaI w z p c r t u d f i s (q m) m l n wr->Km z p c r t u w d f (b+1) (q m) (.returned (.tuple #[.int .i64 ((b:Int)+1),.bool true])) wr):=fun _ l n wr a=>⟨by rw[show((b:Int)+1)=((b+1:Nat):Int) by omega],l,n,a.rd,a.fr,a.na,a.nt⟩
 have aD:Hid (∀j,j<m->P j≠0):=fun j hj=>(L j hj).2.2
 have I:=Db ar;have G:=Db e1;obtain⟨QM,aO⟩:∃Q,Q=q m:=⟨_,rfl⟩;clear e1 x1 N s1 b1 ar ae h hB hs L av A au aJ ag aK;go_enter Tryz.func242,Tryz.ntmps242;go_upto_region 1 with fail;rw[show w.alloc (.cells #[.slice (some ⟨i,1,none⟩) 63 63] 287)=W1 from Da G];go_wp2
 go_loopw [4,5] (fun i4 i5 wr=>∃(j n4:Nat) (b5:Bool),j<=m/\i4 = .int .i64 (n4:Nat)/\i5 = .bool b5/\Hid (0<j->n4=b)/\Hid (∃l n,GaI w z p c r t u d f i s (q j) j l n wr)) (fun _ _ wr=>Kv w.heap.size wr)
 case atStart=>exact⟨0,0,false,by omega,rfl,rfl,fun e=>absurd e (by omega),d,f,Da I⟩
 case round=>
  obtain⟨j,n4,b5,aw,rfl,rfl,am,H⟩:=hrel;obtain⟨l,n,a⟩:=Da H;obtain⟨a2,c2,B,-,-,-⟩:=a.bf;obtain⟨F,ag⟩:∃F,F=63-10*j:=⟨_,rfl⟩;rw[<-ag]at B;have c0:=(B.cell 0).trans (show _=some (Value.slice a2 F c2) from rfl);have aL:=ZgS c0;by_cases af:j<6
  ·have C:=Da aE j aw af l n wr a;have aR:(10:Int)<=(F:Int):=by omega
   by_cases o:j<m
   ·have aV:=Da aD j o;simp only[if_pos o]at C;have J:=Db C;have aW:((P j:Nat):Int)≠0:=by omega
    clear a H B C I G;go_wp2_with (go_at_call 238;refine(Da J).mono ?_;rintro e Y ⟨rfl,Z,hZ,z0,z1,V,T⟩);have ak:=Db (Da V o);clear V T;go_wp2_with (go_at_call 202;refine(Da ak).mono ?_;rintro e U ⟨rfl,al⟩);have ax:Kv w.heap.size U<Kv w.heap.size wr:=by
     obtain⟨R,S,aH⟩:=Da al;obtain⟨E,K,N,-,-,-⟩:=aH.bf;have hk:=ZgS ((N.cell 0).trans (show _=some (Value.slice E (63-10*(j+1)) K) from rfl));omega
    have aC:=Db ax;clear ax aL ak z0 z1 J
    go_roundw
    case rel=>exact⟨j+1,b,true,by omega,rfl,rfl,fun _=>rfl,Da al⟩
    case measure=>exact Da aC
   ·obtain rfl:j=m:=by omega
    simp only[if_neg o]at C;have J:=Db C;have aa:=Da am (by omega);subst aa;clear a H B C I G;go_wp2_with (go_at_call 238;refine(Da J).mono ?_;rintro e Y ⟨rfl,Z,hZ,z0,z1,V,T⟩);have hE:=Da T trivial;rw[<-hZ]at hE;exact bodyPost_ret (by simp[results,Tryz.results242,go_sem]<;>rfl) rfl hE
  ·obtain rfl:j=m:=by omega
   have aa:=Da am (by omega);subst aa;have aq:=Da aB (by omega) l n wr a;have aU:¬(10:Int)<=(F:Int):=by omega
   have aA:=Db aq;clear a H B I G aq;go_wp2;exact bodyPost_ret (by simp[results,Tryz.results242,go_sem]<;>rfl) rfl (Da aA)
def BL(s:By):List UInt8:=s.data.toList
theorem DY(s:By):(BL s).length=s.size:=Array.length_toList
theorem Ja(a b:By):BL (a++b)=BL a++BL b:=by unfold BL;simp
theorem JZ(s:By)(i j:Nat):BL (s.extract i j)=((BL s).drop i).take (j-i):=by unfold BL;rw[Lib.extract_data]
theorem KQ{a b:By}(h:BL a=BL b):a=b:=WideShapes.bytes_inj (by unfold BL at h;exact h)
theorem KH(s:By)(n:Nat):BL (Dj s n)=(BL s++List.replicate n 0).take n:=by
 unfold Dj
 split
 ·rename_i h;rw[JZ,List.drop_zero,Nat.sub_zero,List.take_append_of_le_length (by rw[DY];exact h)]
 ·rename_i h;rw[Ja];have e:BL (⟨(List.replicate (n-s.size) 0).toArray⟩:By)=List.replicate (n-s.size) 0:=by unfold BL;simp
  rw[e,List.take_append,List.take_of_length_le (by rw[DY];omega),DY,List.take_replicate]
  congr 2;omega
theorem UW(T:By):∀j,BL (DE T j)=(BL T).drop (10*j)
 | 0=>by simp[DE]
 | j+1=>by
  unfold DE;rw[JZ,UW T j,List.take_of_length_le (by rw[List.length_drop,List.length_drop,DY,Ub];omega),List.drop_drop]
  congr 1
theorem ZkP(s:By)(h:2<=s.size):rdP s=DM ((BL s).take 2):=by
 unfold rdP;show DM (BL (Dj s 2))=_;rw[KH,List.take_append_of_le_length (by rw[DY];exact h)]
theorem Znl(s:By)(h:10<=s.size):rdX s=DM (((BL s).drop 2).take 8):=by
 unfold rdX;show DM (BL (Dj (s.extract 2 s.size) 8))=_;have e:BL (s.extract 2 s.size)=(BL s).drop 2:=by rw[JZ,List.take_of_length_le (by rw[List.length_drop,DY];exact Nat.le_refl _)]
 rw[KH,e,List.take_append_of_le_length (by rw[List.length_drop,DY];omega)]
def DQ(f:Nat->List UInt8):Nat->List UInt8
 | 0=>[]
 | n+1=>DQ f n++f n
theorem KK{f:Nat->List UInt8}{m:Nat}(a:∀k,(f k).length=m):∀n,(DQ f n).length=m*n
 | 0=>by simp[DQ]
 | n+1=>by unfold DQ;rw[List.length_append,KK a n,a,Nat.mul_succ]
theorem Ug{f:Nat->List UInt8}{m:Nat}(a:∀k,(f k).length=m):∀(n k:Nat),k<n->((DQ f n).drop (m*k)).take m=f k
 | 0,k,h=>by omega
 | n+1,k,h=>by
  unfold DQ;have b:=KK a n;by_cases e:k=n
  ·subst e;rw[<-b,List.drop_left,List.take_of_length_le (by rw[a];exact Nat.le_refl _)]
  ·have hk:m*k+m<=m*n:=by rw[<-Nat.mul_succ];exact Nat.mul_le_mul_left m (by omega)
   rw[List.drop_append_of_le_length (by rw[b];omega),List.take_append_of_le_length (by rw[List.length_drop,b];omega)];exact Ug a n k (by omega)
def DV(p x:Nat):List UInt8:=DB p 2++DB x 8
theorem J0(p x:Nat):(DV p x).length=10:=by unfold DV;rw[List.length_append,D5,D5]
theorem ZiW(p x:Nat):BL (DG p x)=DV p x:=by unfold BL DG DV;simp
theorem ZlY(kk:UInt8)(s:By)(a i:Nat):BL (DT (Dw kk s a i))=(BL (chB s a i)++List.replicate 63 0).take 63:=by
 unfold DT Dw;rw[JZ,Ja,show BL (⟨#[kk]⟩:By)=[kk] from rfl];rw[show([kk]++BL (Dj (chB s a i) 63)).drop 1=BL (Dj (chB s a i) 63) from rfl,List.take_of_length_le (by rw[DY,Jc];exact Nat.le_refl _),KH]
theorem ref_at{c:By}{f:Nat->List UInt8}(a:∀k,(f k).length=10){n:Nat}(e:BL c=DQ f n)(i j:Nat)(hj:j<6):
  (BL (DE (DT (Dw 2 c 60 i)) j)).take 10=if 6*i+j<n then f (6*i+j) else List.replicate 10 0:=by
 have b:=KK a n;rw[UW,ZlY];unfold chB;rw[JZ,e,show i*60+60-i*60=60 by omega];rw[List.drop_take,List.take_take,show min 10 (63-10*j)=10 by omega];by_cases h:6*i+j<n
 ·rw[if_pos h,<-Ug a n _ h];have aa:10*j+10<=(((DQ f n).drop (i*60)).take 60).length:=by rw[List.length_take,List.length_drop,b];omega
  rw[List.drop_append_of_le_length (by omega),List.take_append_of_le_length (by rw[List.length_drop];omega),List.drop_take,List.drop_drop,List.take_take,show min 10 (60-10*j)=10 by omega,show i*60+10*j=10*(6*i+j) by omega]
 ·rw[if_neg h];have d:(((DQ f n).drop (i*60)).take 60).length<=10*j:=by rw[List.length_take,List.length_drop,b];omega
  rw[List.drop_append,List.drop_of_length_le d,List.nil_append,List.drop_replicate,List.take_replicate]
  congr 1;omega
theorem ZgJ{a:By}{P X:Nat->Nat}(e:∀k,P k<65536)(g:∀k,X k<18446744073709551616){n:Nat}(o:BL a=DQ (fun k=>DV (P k) (X k)) n)(i j:Nat)(m:j<6):
  rdP (DE (DT (Dw 2 a 60 i)) j)=(if 6*i+j<n then P (6*i+j) else 0)/\rdX (DE (DT (Dw 2 a 60 i)) j)=(if 6*i+j<n then X (6*i+j) else 0):=by
 have b:=ref_at (f:=fun k=>DV (P k) (X k)) (fun k=>J0 _ _) o i j m;have aa:(DE (DT (Dw 2 a 60 i)) j).size=63-10*j:=by
  rw[Ub];have:(DT (Dw 2 a 60 i)).size=63:=by unfold DT;rw[ByteArray.size_extract,KZ];rfl
  rw[this]
 rw[ZkP _ (by omega),Znl _ (by omega)];generalize BL (DE (DT (Dw 2 a 60 i)) j)=l at b ⊢
 have c:l.take 2=(l.take 10).take 2:=by rw[List.take_take];rfl
 have d:(l.drop 2).take 8=(l.take 10).drop 2:=by rw[List.drop_take]
 rw[c,d,b];by_cases h:6*i+j<n
 ·simp only[if_pos h];unfold DV;rw[List.take_left' (D5 2 _),List.drop_left' (D5 2 _),Kf 2 _ (e _),Kf 8 _ (g _)];exact⟨rfl,rfl⟩
 ·simp only[if_neg h];exact⟨rfl,rfl⟩
structure Rows(D:LY)(R:NB)(N:Nat->Nat)(P X:Nat->Nat->Nat)(B:Nat):Prop where
 b8:B<8
 n0:N 0=((R 0).size+63-1)/63
 nn:∀b,b<B->N (b+1)=(10*N b+60-1)/60
 rr:∀b,b<B->BL (R (b+1))=DQ (fun k=>DV (P b k) (X b k)) (N b)
 top:N B=1
 d0:∀i,i<N 0->D[P 0 i]?=some (Dw 3 (R 0) 63 i)
 d1:∀b,b<B->∀i,i<N (b+1)->D[P (b+1) i]?=some (Dw 2 (R (b+1)) 60 i)
 pl:∀b i,b<=B->i<N b->16<=P b i/\P b i<1536
 px:∀b k,P b k<65536/\X b k<18446744073709551616
 inj:∀b i b' i',b<=B->b'<=B->i<N b->i'<N b'->P b i=P b' i'->b=b'/\i=i'
 ns:∀b,b<=B->N b<=1000
def Dv(b k:Nat):Nat:=Dd (if b=0 then 3 else 2) b k
theorem ZgI{b k a c:Nat}(h1:b<60000)(h2:a<60000)(h3:k<60000)(h4:c<60000)(h:Dv b k=Dv a c):b=a/\k=c:=by
 unfold Dv Dd at h
 split at h<;>split at h<;>omega
def JP(f:Nat->Nat):Nat->Nat
 | 0=>0
 | n+1=>JP f n+f n
theorem Zio{f g:Nat->Nat}:∀n,(∀k,k<n->f k<=g k)->JP f n<=JP g n
 | 0,_=>Nat.le_refl _
 | n+1,h=>Nat.add_le_add (Zio n (fun k hk=>h k (by omega))) (h n (by omega))
theorem Zkz(f:Nat->Nat)(b:Nat):∀n,JP (fun k=>if k=b then f b+1 else f k) n=JP f n+if b<n then 1 else 0
 | 0=>rfl
 | n+1=>by
  unfold JP;rw[Zkz f b n];by_cases a:b<n
  ·rw[if_pos a,if_neg (by omega),if_pos (by omega)];omega
  ·by_cases c:n=b
   ·subst c;rw[if_neg a,if_pos rfl,if_pos (by omega)];omega
   ·rw[if_neg a,if_neg c,if_neg (by omega)];omega
theorem ZcV(c:Nat):∀n,JP (fun _=>c) n=c*n
 | 0=>rfl
 | n+1=>by unfold JP;rw[ZcV c n,Nat.mul_succ]
structure Good(N:Nat->Nat)(P:Nat->Nat->Nat)(ch:Nat->List UInt8)(B c:Nat)(q:RdQ):Prop where
 g1:∀y∈q.ins,∃b k,b<=B/\k<q.tn b/\y=(Dv b k,P b k)
 g6:∀b k,b<=B->k<q.tn b->(Dv b k,P b k)∈q.ins
 g2:∀p,q.tk p=true->(∃b k,b<=B/\k<q.tn b/\p=P b k)\/∃b,c<=b/\b<=B/\q.tn b<N b/\p=P b (q.tn b)
 g3:∀b,b<=B->q.tn b<=N b
 g5:BL q.t=DQ ch (q.tn 0)
 g7:q.ins.length=JP q.tn (B+1)
section
variable{D:LY}{R:NB}{N:Nat->Nat}{P X:Nat->Nat->Nat}{B:Nat}{ch:Nat->List UInt8}
theorem Good.fresh(f:Rows D R N P X B){b:Nat}(g:b<=B){q:RdQ}(h:Good N P ch B (b+1) q)(i:q.tn b<N b):q.tk (P b (q.tn b))=false:=by
 cases e:q.tk (P b (q.tn b)) with
 | false=>rfl
 | true=>
  rcases h.g2 _ e with⟨j,k,a,c,d⟩|⟨j,a,c,d,l⟩
  ·obtain⟨rfl,h5⟩:=f.inj _ _ _ _ g a i (Nat.lt_of_lt_of_le c (h.g3 _ a)) d;omega
  ·obtain⟨rfl,_⟩:=f.inj _ _ _ _ g c i d l;omega
theorem Good.take(_hR:Rows D R N P X B){b:Nat}(d:b<=B){q:RdQ}(h:Good N P ch B (b+1) q)(f:q.tn b<N b):Good N P ch B b (q.take (P b (q.tn b))):=
 ⟨h.g1,h.g6,fun p g=>by
  by_cases e:p=P b (q.tn b)
  ·exact .inr ⟨b,Nat.le_refl _,d,f,e⟩
  ·have i:q.tk p=true:=by
    have j:(if p=P b (q.tn b) then true else q.tk p)=true:=g
    rwa [if_neg e]at j
   exact(h.g2 p i).imp id (fun ⟨a,h1,c⟩=>⟨a,by omega,c⟩),h.g3,h.g5,h.g7⟩
theorem Good.role(a:Rows D R N P X B){b c:Nat}(g:b<=B){q:RdQ}(h:Good N P ch B c q)(hi:q.tn b<N b):∀y∈q.ins,y.1≠Dv b (q.tn b):=fun y i e=>by
 obtain⟨d,k,f,h2,rfl⟩:=h.g1 y i;have n1:=a.ns b g;have n2:=a.ns d f;have n3:=h.g3 d f;have h8:=a.b8;obtain⟨rfl,h5⟩:=ZgI (by omega) (by omega) (by omega) (by omega) e;omega
theorem Good.len(a:Rows D R N P X B){c:Nat}{q:RdQ}(h:Good N P ch B c q):q.ins.length<=9999:=by
 rw[h.g7];have b:JP q.tn (B+1)<=JP (fun _=>1000) (B+1):=Zio _ (fun k hk=>Nat.le_trans (h.g3 k (by omega)) (a.ns k (by omega)));rw[ZcV]at b;have:=a.b8;omega
theorem Good.done(_hR:Rows D R N P X B){b:Nat}(o:b<=B){q:RdQ}(h:Good N P ch B b q)(hi:q.tn b<N b)(j:By)(s:BL j=DQ ch (if 0=b then q.tn b+1 else q.tn 0)):
  Good N P ch B (b+1) ((({ q with t:=j }:RdQ).put (Dv b (q.tn b)) (P b (q.tn b))).turn b):=by
 have f:∀k,((({ q with t:=j }:RdQ).put (Dv b (q.tn b)) (P b (q.tn b))).turn b).tn k=if k=b then q.tn b+1 else q.tn k:=fun _=>rfl
 have l:((({ q with t:=j }:RdQ).put (Dv b (q.tn b)) (P b (q.tn b))).turn b).ins=q.ins++[(Dv b (q.tn b),P b (q.tn b))]:=rfl;refine⟨fun y n=>?_,fun a k d c=>?_,fun p r=>?_,fun a d=>?_,?_,?_⟩
 ·rw[l]at n;rcases List.mem_append.1 n with e|e
  ·obtain⟨a,k,d,c,i⟩:=h.g1 y e;refine⟨a,k,d,?_,i⟩;rw[f];split
   ·rename_i g;subst g;omega
   ·exact c
  ·refine⟨b,q.tn b,o,?_,List.mem_singleton.1 e⟩;rw[f,if_pos rfl];omega
 ·rw[f]at c;rw[l];by_cases e:a=b
  ·subst e;rw[if_pos rfl]at c;by_cases g:k=q.tn a
   ·subst g;exact List.mem_append_right _ (List.mem_singleton.2 rfl)
   ·exact List.mem_append_left _ (h.g6 a k d (by omega))
  ·rw[if_neg e]at c;exact List.mem_append_left _ (h.g6 a k d c)
 ·rcases h.g2 p r with⟨a,k,d,c,i⟩|⟨a,d,c,i,m⟩
  ·refine .inl ⟨a,k,d,?_,i⟩;rw[f];split
   ·rename_i g;subst g;omega
   ·exact c
  ·by_cases e:a=b
   ·subst e;exact .inl ⟨a,q.tn a,c,by rw[f,if_pos rfl];omega,m⟩
   ·exact .inr ⟨a,by omega,c,by rw[f,if_neg e];exact i,by rw[f,if_neg e];exact m⟩
 ·rw[f];split
  ·rename_i g;subst g;omega
  ·exact h.g3 a d
 ·show BL j=DQ ch (if 0=b then q.tn b+1 else q.tn 0);exact s
 ·rw[l,List.length_append,h.g7];show _=JP (fun k=>if k=b then q.tn b+1 else q.tn k) (B+1);rw[Zkz,if_pos (by omega)];rfl
def itQ(f:Nat->RdQ->RdQ)(a:Nat):Nat->RdQ->RdQ
 | 0,q=>q
 | m+1,q=>f (a+m) (itQ f a m q)
def Jg(N:Nat->Nat)(P:Nat->Nat->Nat)(cb:NB):Nat->Nat->RdQ->RdQ
 | 0,i,q=>(((q.take (P 0 i)).say (cb i)).put (Dd 3 0 (q.tn 0)) (P 0 i)).turn 0
 | b+1,i,q=>(((itQ (Jg N P cb b) (6*i) (min 6 (N b-6*i)) (q.take (P (b+1) i))).put (Dd 2 (b+1) ((itQ (Jg N P cb b) (6*i) (min 6 (N b-6*i)) (q.take (P (b+1) i))).tn (b+1))) (P (b+1) i)).turn (b+1))
def TnI(N:Nat->Nat)(b i:Nat)(q:RdQ):Prop:=q.tn b=i/\∀b',b'<b->q.tn b'=min (6 ^ (b-b')*i) (N b')
theorem Rows.grow(a:Rows D R N P X B):∀(d b:Nat),b+d<=B->N b<=6 ^ d*N (b+d)
 | 0,b,_=>by simp
 | d+1,b,h=>by
  have ih:=Rows.grow a d b (by omega);have:=a.nn (b+d) (by omega);rw[Nat.pow_succ,Nat.mul_assoc];refine Nat.le_trans ih (Nat.mul_le_mul_left _ ?_);rw[show b+(d+1)=b+d+1 by omega];omega
theorem Zfz(c:Rows D R N P X B){cb:NB}(s:∀i,BL (cb i)=ch i):∀(b:Nat),b<=B->∀(i:Nat) (q:RdQ),i<N b->Good N P ch B (b+1) q->TnI N b i q->
  Good N P ch B (b+1) (Jg N P cb b i q)/\TnI N b (i+1) (Jg N P cb b i q)/\∀a,b<a->(Jg N P cb b i q).tn a=q.tn a
 | 0,hb,i,q,hi,h,ht=>by
  have f:q.tn 0=i:=ht.1;have l:q.tn 0<N 0:=by omega
  have o:=(Good.take c hb h l).done c hb l (q.t++cb i) (by rw[Ja,h.g5,s,if_pos rfl];show _=DQ ch (q.tn 0+1);rw[f];rfl);have n:Jg N P cb 0 i q=(({ (q.take (P 0 (q.tn 0))) with t:=q.t++cb i }:RdQ).put (Dv 0 ((q.take (P 0 (q.tn 0))).tn 0)) (P 0 ((q.take (P 0 (q.tn 0))).tn 0))).turn 0:=by
   show(((q.take (P 0 i)).say (cb i)).put (Dd 3 0 (q.tn 0)) (P 0 i)).turn 0=_;rw[<-f];rfl
  rw[n];refine⟨o,⟨?_,fun a d=>by omega⟩,fun a d=>?_⟩
  ·show(if (0:Nat)=0 then q.tn 0+1 else q.tn 0)=_;rw[if_pos rfl,f]
  ·show(if a=0 then q.tn 0+1 else q.tn a)=_;rw[if_neg (by omega)]
 | b+1,hb,i,q,hi,h,ht=>by
  have f:q.tn (b+1)=i:=ht.1;have l:q.tn (b+1)<N (b+1):=by omega
  have aa:=c.nn b (by omega);have h6:6*i<N b:=by omega
  have v:TnI N b (6*i) (q.take (P (b+1) i)):=by
   refine⟨?_,fun a d=>?_⟩
   ·show q.tn b=_;rw[ht.2 b (by omega),show b+1-b=1 by omega];omega
   ·show q.tn a=_;rw[ht.2 a (by omega),show b+1-a=b-a+1 by omega,Nat.pow_succ,Nat.mul_assoc]
  have u:Good N P ch B (b+1) (q.take (P (b+1) i)):=by rw[<-f];exact Good.take c hb h l
  have E:∀m,m<=min 6 (N b-6*i)->Good N P ch B (b+1) (itQ (Jg N P cb b) (6*i) m (q.take (P (b+1) i)))/\TnI N b (6*i+m) (itQ (Jg N P cb b) (6*i) m (q.take (P (b+1) i)))/\∀a,b<a->(itQ (Jg N P cb b) (6*i) m (q.take (P (b+1) i))).tn a=q.tn a:=fun m=>by
   induction m with
   | zero=>exact fun _=>⟨u,v,fun a _=>rfl⟩
   | succ m ih=>
    intro y;obtain⟨g,j,k⟩:=ih (by omega);obtain⟨z,A,C⟩:=Zfz c s b (by omega) (6*i+m) _ (by omega) g j;exact⟨z,A,fun a d=>(C a d).trans (k a d)⟩
  obtain⟨g,j,k⟩:=E _ (Nat.le_refl _);generalize hq2:itQ (Jg N P cb b) (6*i) (min 6 (N b-6*i)) (q.take (P (b+1) i))=q2 at g j k
  have r:q2.tn (b+1)=i:=(k (b+1) (by omega)).trans f;have x:q2.tn (b+1)<N (b+1):=by omega
  have o:=g.done c hb x q2.t (by rw[g.g5,if_neg (by omega)]);have n:Jg N P cb (b+1) i q=((({ q2 with t:=q2.t }:RdQ).put (Dv (b+1) (q2.tn (b+1))) (P (b+1) (q2.tn (b+1)))).turn (b+1)):=by
   show((_:RdQ).put (Dd 2 (b+1) _) (P (b+1) i)).turn (b+1)=_;rw[hq2];unfold Dv;rw[if_neg (by omega),r]
  rw[n];refine⟨o,⟨?_,fun a d=>?_⟩,fun a d=>?_⟩
  ·show(if b+1=b+1 then q2.tn (b+1)+1 else q2.tn (b+1))=_;rw[if_pos rfl,r]
  ·show(if a=b+1 then q2.tn (b+1)+1 else q2.tn a)=_;rw[if_neg (by omega)];by_cases e:a=b
   ·subst e;rw[j.1,show a+1-a=1 by omega];omega
   ·rw[j.2 a (by omega),show b+1-a=b-a+1 by omega,Nat.pow_succ,Nat.mul_assoc];by_cases y:6*(i+1)<=N b
    ·rw[show 6*i+min 6 (N b-6*i)=6*(i+1) by omega]
    ·have p:=c.grow (b-a) a (by omega);rw[show a+(b-a)=b by omega]at p;rw[show 6*i+min 6 (N b-6*i)=N b by omega];have w:6 ^ (b-a)*N b<=6 ^ (b-a)*(6*(i+1)):=Nat.mul_le_mul_left _ (by omega);rw[Nat.min_eq_right p,Nat.min_eq_right (Nat.le_trans p w)]
  ·show(if a=b+1 then q2.tn (b+1)+1 else q2.tn a)=_;rw[if_neg (by omega)];exact k a (by omega)
end
theorem Zh4(kk:UInt8)(s:By)(a i:Nat):(Dw kk s a i).data[0]?=some kk:=by
 rw[<-Array.getElem?_toList];show(BL (Dw kk s a i))[0]?=some kk;unfold Dw;rw[Ja,show BL (⟨#[kk]⟩:By)=[kk] from rfl]
 rfl
section
variable{D:LY}{R:NB}{N:Nat->Nat}{P X:Nat->Nat->Nat}{B:Nat}{ch:Nat->List UInt8}
theorem ZmK(c:Rows D R N P X B){cb:NB}(j:∀i,BL (cb i)=ch i){b:Nat}(g:b+1<=B){i:Nat}{q:RdQ}(hi:i<N (b+1))(h:Good N P ch B (b+2) q)(e:TnI N (b+1) i q):
  6*i<N b/\∀m,m<=min 6 (N b-6*i)->Good N P ch B (b+1) (itQ (Jg N P cb b) (6*i) m (q.take (P (b+1) i)))/\TnI N b (6*i+m) (itQ (Jg N P cb b) (6*i) m (q.take (P (b+1) i)))/\∀a,b<a->(itQ (Jg N P cb b) (6*i) m (q.take (P (b+1) i))).tn a=q.tn a:=by
 have f:q.tn (b+1)=i:=e.1;have k:q.tn (b+1)<N (b+1):=by omega
 have aa:=c.nn b (by omega);refine⟨by omega,fun m=>?_⟩
 induction m with
 | zero=>
  refine fun _=>⟨by rw[<-f];exact Good.take c g h k,⟨?_,fun a d=>?_⟩,fun a _=>rfl⟩
  ·show q.tn b=_;rw[e.2 b (by omega),show b+1-b=1 by omega];omega
  ·show q.tn a=_;rw[e.2 a (by omega),show b+1-a=b-a+1 by omega,Nat.pow_succ,Nat.mul_assoc,Nat.add_zero]
 | succ m ih=>
  intro hm;obtain⟨p,r,s⟩:=ih (by omega);obtain⟨l,n,o⟩:=Zfz c j b (by omega) (6*i+m) _ (by omega) p r;exact⟨l,n,fun a d=>(o a d).trans (s a d)⟩
def cbT(R:NB)(i:Nat):By:=DT (Dw 3 (R 0) 63 i)
theorem ZmZ(R:NB)(i:Nat):(cbT R i).size=63:=by unfold cbT DT;rw[ByteArray.size_extract,KZ];rfl
theorem Zgm(d:Rows D R N P X B)(h:World)(f g e n o:Nat){U vw T:Value}{a:OA}{l c:Nat}(x:DO h e U (.slice a l c) vw T D)(z:e<f/\∀k,Own (.slice a l c) k->k<f):
  ∀(b:Nat),b<=B->∀(i:Nat) (q:RdQ) (va vt:Value) (W:World),i<N b->Good N P (fun i=>BL (cbT R i)) B (b+1) q->TnI N b i q->RdS h f g e n o q va vt W->
   Calls Tryz.prog 202 #[.pointer (some ⟨g,0,none⟩),.agg #[.int .i64 (P b i:Nat),.int .u64 (X b i:Nat)]] W (Km h f g e n o W va vt b (Jg N P (cbT R) b i q))
 | 0,hb,i,q,va,vt,W,hi,hg,ht,hS=>by
  have p:q.tn 0=i:=ht.1;have v:q.tn 0<N 0:=by omega
  have s:=d.pl 0 i hb hi;have K:=d.ns 0 hb;have r:=hg.fresh d hb v;rw[p]at r;have aa:q.t.size=63*i:=by
   rw[<-DY,hg.g5,KK (m:=63) (fun k=>by rw[DY,ZmZ]),p]
  have w:=hg.role d hb v;exact Zoh W h f g e n o q va vt hS x z (P 0 i) (X 0 i) s.1 s.2 r (Dw 3 (R 0) 63 i) (d.d0 i hi) (Zh4 _ _ _ _) (by omega) w (hg.len d) (by omega)
 | b+1,hb,i,q,va,vt,W,hi,hg,ht,hS=>by
  have p:q.tn (b+1)=i:=ht.1;have v:q.tn (b+1)<N (b+1):=by omega
  have s:=d.pl (b+1) i hb hi;have K:=d.ns (b+1) hb;have h8:=d.b8;have r:=hg.fresh d hb v;rw[p]at r;obtain⟨h6,E⟩:=ZmK d (cb:=cbT R) (fun _=>rfl) hb hi hg ht;obtain⟨C,k2,Q⟩:=E _ (Nat.le_refl _);have e2:(itQ (Jg N P (cbT R) b) (6*i) (min 6 (N b-6*i)) (q.take (P (b+1) i))).tn (b+1)=i:=(Q (b+1) (by omega)).trans p;have w:=C.role d hb (by omega);have L:Dv (b+1) ((itQ (Jg N P (cbT R) b) (6*i) (min 6 (N b-6*i)) (q.take (P (b+1) i))).tn (b+1))=Dd 2 (b+1) ((itQ (Jg N P (cbT R) b) (6*i) (min 6 (N b-6*i)) (q.take (P (b+1) i))).tn (b+1)):=by unfold Dv;rw[if_neg (by omega)]
  rw[L]at w;refine Zoi W h f g e n o q va vt hS x z (P (b+1) i) (X (b+1) i) s.1 s.2 r (Dw 2 (R (b+1)) 60 i) (d.d1 b (by omega) i hi) (Zh4 _ _ _ _) (b+1) (by omega) _ (fun Z F J H _=>?_) w (C.len d) (by omega);have A:=fun j (y:j<6)=>ZgJ (P:=P b) (X:=X b) (fun k=>(d.px b k).1) (fun k=>(d.px b k).2) (d.rr b (by omega)) i j y
  refine ZfX Z h f g e n o (fun j=>itQ (Jg N P (cbT R) b) (6*i) j (q.take (P (b+1) i))) va vt J (min 6 (N b-6*i)) b (by omega) (by omega) (by omega) F _ (KZ _ _ _ _) H (fun j=>P b (6*i+j)) (fun j=>X b (6*i+j)) (fun j y=>?_) (fun hm=>?_) (fun j y G S V I=>?_)
  ·obtain⟨t,u⟩:=A j (by omega);rw[if_pos (by omega)]at t u;have:=(d.pl b (6*i+j) (by omega) (by omega)).1;exact⟨t,u,by omega⟩
  ·obtain⟨t,u⟩:=A (min 6 (N b-6*i)) (by omega);rw[if_neg (by omega)]at t u;exact⟨t,u⟩
  ·obtain⟨M,O,_⟩:=E j (by omega);exact Zgm d h f g e n o x z b (by omega) (6*i+j) _ S V G (by omega) M O I
end
end Go.Proofs.YtaieidcohdhgpaaGreatDoor
