/- Told. -/
import Derived.Test.YtaieidcohdhgpaaGreatDoorYAQ
namespace Go.Proofs.YtaieidcohdhgpaaGreatDoor
set_option maxHeartbeats 40000000
set_option maxRecDepth 100000
open Tryz
open Go.RowKit
theorem YN(w C:World)(u d z E F:Nat)(q:Gj)(A B:Value)(h:Gc C u d z E F q A B w){vf vw ve:Value}{a:OA}{l c:Nat}{D:LY}(hD:DU C z vf (.slice a l c) vw ve D)(av:z<u/\∀k,Own (.slice a l c) k->k<u)(p x:Nat)(aS:16<=p)(aT:p<1536)(hk:q.tk p=false)(s:By)(hs:D[p]?=some s)(ax:s.data[0]?=some 2)(b:Nat)(hb:b<8)(m:Gj)(ao:∀Z Bb,Gc C u d z E F (q.take p) A B Z->FX Z Bb 188 (Dc s)->w.heap.size<Bb->Cl 242 #[.pointer (some ⟨d,0,none⟩),.agg #[.slice (some ⟨Bb,1,none⟩) 63 63]] Z (Kw C u d z E F Z A B b m))(aw:∀y∈m.ins,y.1≠Dd 2 b (m.tn b))(au:m.ins.length<=9999)(aA:m.tn b<60000):
  Cl 202 #[.pointer (some ⟨d,0,none⟩),.agg #[.int .i64 (p:Nat),.int .u64 (x:Nat)]] w (Kw C u d z E F w A B b ((m.put (Dd 2 b (m.tn b)) p).turn b)):=by
 have ay:s.size=64:=hD.2.1.2 s (Ar hs);obtain⟨aQ,ae,ar⟩:=h.lt;obtain⟨W1,e1,M,k1,s1,P⟩:=De w [.int .i64 (p:Nat),.int .u64 (x:Nat)] 175;have h1:=h.below P;have a6:u<=w.heap.size:=Af h.sz h.bel.size;obtain⟨f,G⟩:∃T,T=m.tn b:=⟨_,rfl⟩;have aZ:f<60000:=by rw[G];exact aA
 obtain⟨VB,aa⟩:∃V,V=DA s:=⟨_,rfl⟩;have O:Hid (Cl 241 #[.pointer (some ⟨d,0,none⟩),.agg #[.int .i64 (p:Nat),.int .u64 (x:Nat)]] W1 λe X=>e=.returned (.tuple #[VB,.bool true])/\∃Y Z,X.alloc (.cells (Dc (Dn 64)).toArray 188)=Y/\FX Y X.heap.size 188 (Dc (Dn 64))/\Y.setRow X.heap.size (Dc s).toArray=Z/\Z.cell? ⟨X.heap.size,0,none⟩=some (.int .u8 2)/\
   Hid (Cl 242 #[.pointer (some ⟨d,0,none⟩),.agg #[.slice (some ⟨X.heap.size,1,none⟩) 63 63]] Z λe t=>e=.returned (.tuple #[.int .i64 (b:Nat),.bool true])/\t.cell? ⟨d,1540+b,none⟩=some (.int .i64 (f:Nat))/\t.cell? ⟨w.heap.size,0,none⟩=some (.int .i64 (p:Nat))/\
    Hid (Cl 243 #[.pointer (some ⟨d,1,none⟩),.int .u64 ((2*4294967296+b*65536+f:Nat):Int),.int .i64 (p:Nat)] t.drew λe n=>e=.returned (.tuple #[])/\n.cell? ⟨d,1540+b,none⟩=some (.int .i64 (f:Nat))/\n.cell? ⟨w.heap.size,0,none⟩=some (.int .i64 (p:Nat))/\n.frozen? ⟨d,1540+b,none⟩=false/\
     Hid (Kw C u d z E F w A B b ((m.put (Dd 2 b (m.tn b)) p).turn b) (.returned (.tuple #[.int .i64 (b:Nat),.bool true])) (n.setCell ⟨d,1540+b,none⟩ (.int .i64 ((f:Int)+1))).drew)))):=by
  refine(h1.take_call hD av (x:=x) aS aT hk hs).mono ?_;rintro e X⟨rfl,hX,ad⟩;have aO:Fr (λk=>k=d) w X:=(Fr.of_below P).then ad (λ_ _ e=>e);have a0:=ad.size;obtain⟨Y,eY,N,kY,sY,bY⟩:=De X (Dc (Dn 64)) 188;have xZ:FX (Y.setRow X.heap.size (Dc s).toArray) X.heap.size 188 (Dc s):=BW Y _ _ _ 188 _ N;have H:Bw X (Y.setRow X.heap.size (Dc s).toArray):=bY.trans ⟨rfl,rfl,rfl,by simp,λj hj=>BD Y _ j _ (by omega)⟩;obtain⟨Z,L⟩:∃Z,Y.setRow X.heap.size (Dc s).toArray=Z:=⟨_,rfl⟩;rw[L]at xZ H;have aL:=hX.below H;have a3:=H.size;have b0:FX X w.heap.size 175 _:=(ad.block _ M.lt (show ¬w.heap.size=d by omega)).trans M;have aj:FX Z w.heap.size 175 _:=(H.block _ b0.lt).trans b0;refine⟨by rw[aa],Y,Z,eY,N,L,?_,?_⟩
  ·rw[xZ.cell];have h0:s.data.toList[0]?=some 2:=by rw[CF];exact ax
   show(Dc s)[0]? = _;unfold Dc;rw[Bc,h0];rfl
  ·refine(ao Z X.heap.size aL xZ (by omega)).mono ?_;rintro e t⟨rfl,aW,af,am,ab,n1,n2⟩;have R:FX t w.heap.size 175 _:=(ab.block _ aj.lt (λe=>by
    rcases e with e|e|e
    ·omega
    ·have:=ae _ e;omega
    ·have:=ar _ e;omega)).trans aj
   have c2:=am.cells.2.2.2.2 b hb;have a1:=ab.size;refine⟨rfl,by rw[G];exact c2.1,(R.cell 0).trans rfl,?_⟩;have aV:Gc C u d z E F m aW af t.drew:=am.below ⟨rfl,rfl,rfl,Aa _,λ_ _=>rfl⟩;have aU:=aV.put_call (r:=Dd 2 b f) (p:=p) (by rw[G];exact aw) au;refine aU.mono ?_;rintro e n⟨rfl,aC,an,ac,aR⟩;have a2:=ac.size;have b7:FX n w.heap.size 175 _:=(ac.block _ R.lt (λe=>e.elim (λe=>by omega) (λe=>(n1 _ e).elim (λe=>by have:=ae _ e;omega) (λe=>by omega)))).trans R;have c3:=an.cells.2.2.2.2 b hb;have aq:=an.turn (b:=b) hb;have az:(m.put (Dd 2 b f) p).tn b=f:=G.symm;rw[az]at aq;have aI:Fr (λk=>k=d) n (n.setCell ⟨d,1540+b,none⟩ (.int .i64 ((f+1:Nat):Int))):=(Fr.refl _ _).set _ _ rfl;have aP:Gc C u d z E F ((m.put (Dd 2 b f) p).turn b) aC af (n.setCell ⟨d,1540+b,none⟩ (.int .i64 ((f+1:Nat):Int))).drew:=aq.below ⟨rfl,rfl,rfl,Aa _,λ_ _=>rfl⟩;rw[show((f:Int)+1)=((f+1:Nat):Int) by omega];have a7:t.drew.heap.size=t.heap.size:=rfl;have aN:n.cell? ⟨d,1540+b,none⟩=some (.int .i64 (f:Nat)):=c3.1.trans (by rw[show(m.put (Dd 2 b f) p).tn b=f from az]);refine⟨rfl,aN,(b7.cell 0).trans rfl,c3.2,rfl,aC,af,by rw[<-G];exact aP,?_,λg hg=>(aR g hg).elim (λe=>(n1 g e).imp id (λe=>by omega)) (λe => .inr (by omega)),λg hg=>(n2 g hg).imp id (λe=>by omega)⟩;have f1:Fr (λk=>k=d\/Own A k\/Own B k) w Z:=(aO.mono (Y:=λk=>k=d\/Own A k\/Own B k) (λk _ e => .inl e)).then (Fr.of_below (X:=λ_=>False) H) (λ_ _ e=>e.elim);have I:=f1.then ab (λk _ e=>e);have f3:Fr (λk=>k=d\/Own A k\/Own B k) w t.drew:=⟨I.os,I.tape,I.output,I.size,I.block⟩;have f4:=f3.then ac (λk hk e=>e.elim .inl (λe=>(n1 k e).elim (λe => .inr (.inl e)) (λe=>by omega)));have J:=f4.then aI (λk _ e => .inl e);exact⟨J.os,J.tape,J.output,J.size,J.block⟩
 have aF:Hid (∀V,Cl 244 #[.int .u8 2,.int .i64 (b:Nat),.int .i64 (f:Nat)] V λe w'=>e=.returned (.int .u64 ((2*4294967296+b*65536+f:Nat):Int))/\w'=V):=λV=>UB V 2 b f (by omega) (by omega) (by omega)
 have ap:(Dc s).length=64:=by rw[Dg,ay]
 have ah:=Db ap;have aG:=Db aa;have aD:=Db e1;have d1:=(M.cell 0).trans (show _=some (Value.int .i64 (p:Nat)) from rfl);have d2:=(M.cell 1).trans (show _=some (Value.int .u64 (x:Nat)) from rfl);obtain⟨QF,al⟩:∃Q,Q=((m.put (Dd 2 b (m.tn b)) p).turn b):=⟨_,rfl⟩;rw[<-al]at O ⊢;have a4:¬(8:Int)<=(b:Int):=by omega
 have a5:(b:Int)<8:=by omega
 clear G e1 M k1 s1 P h1 h hD av hk hs ax aw au aA ay aa ap al aQ ae ar ao;go_enter func202,ntmps202;go_upto_region 1 with fail;rw[show w.alloc (.cells #[.int .i64 (p:Nat),.int .u64 (x:Nat)] 175)=W1 from Da aD];go_upto_region 2 with(first|(go_at_call 241;refine(Da O).mono ?_;rintro e X⟨rfl,Y,Z,hY,N,L,z0,ag⟩;have HY:=Db hY;have aH:=Db N;have HZ:=Db L;clear hY N L d1 d2 O)|(refine JN rfl 188 rfl Kx ?_;rw[show X.alloc (.cells (Dc (Dn 64)).toArray 188)=Y from Da HY])|(refine BX rfl 188 _ _ rfl X.heap.size (Dc s).toArray rfl (Da aG) 188 _ (Da aH) (by rw[Jf];simp[Da ah]) (by simp[Da ah,Dg,Jr]) (KV _) ?_;rw[Da HZ]));go_upto_region 11 with(go_at_call 242;refine(Da ag).mono ?_;rintro e t⟨rfl,U,W,ai⟩);clear ag z0;go_upto_region 13 with fail;refine AE (S:=λV=>V.cell? ⟨d,1540+b,none⟩=some (.int .i64 (f:Nat))/\V.cell? ⟨w.heap.size,0,none⟩=some (.int .i64 (p:Nat))) (by kernel_rfl) ⟨U,W⟩ (λak=>?_);refine tk 0 ?_;refine tk 1 ?_;refine tk 2 ?_;refine tk 3 ?_;refine tk 4 ?_;refine tk 5 ?_;refine tk 6 ?_;refine tk 7 ?_;refine tk 8 ?_;refine tk 9 ?_;refine tk 10 ?_;refine tk 11 ?_;refine tk 13 ?_;refine tk 14 ?_;refine rk 12 (λK o=>?_);go_simp;go_at_call 244;refine(Da aF _).mono ?_;rintro e w'⟨rfl,aB⟩;rw[aB];clear aB;go_wp2_with fail;refine o.out _ _ ⟨U,W⟩ (λaJ=>?_);clear o K
 try simp only[pE]
 refine rk 15 (λK o=>?_);go_simp;go_at_call 243;refine(Da ai).mono ?_;rintro e n⟨rfl,y1,y2,y3,aE⟩;go_wp2_with fail;refine o.out _ _ ⟨y1,y2⟩ (λaK=>?_);clear o K
 try simp only[pE]
 refine AO (by kernel_rfl) ?_ _;clear ak aJ aK U W ai;go_upto_region 14 with fail;refine AE (S:=λV=>True) (by kernel_rfl) trivial (λak=>?_);refine tk 0 ?_;refine tk 1 ?_;refine tk 2 ?_;refine tk 3 ?_;refine tk 4 ?_;refine tk 7 ?_;refine tk 8 ?_;refine rk 5 (λK o=>?_);go_simp;refine o.out _ _ trivial (λaY=>?_);clear o K
 try simp only[pE]
 refine A5 (i:=6) (v:=.int .i64 ((f+1:Nat):Int)) rfl (by kernel_rfl) (by kernel_rfl) (by kernel_rfl) (λ_ _ _ h=>h) (Or.inl ⟨by rfl,by intro w aM;(try dsimp only at aM);go_simp;rw[AV];omega⟩) (by assumption) ?_
 try simp only[pE]
 refine tk 9 ?_;refine rk 10 (λK o=>?_);go_simp;refine o.out _ _ trivial (λaX=>?_);clear o K
 try simp only[pE]
 refine AO (by kernel_rfl) ?_ _;go_wp2;exact Ap (v:=.tuple #[.int .i64 (b:Nat),.bool true]) (by simp[results,results202,go_sem]) rfl (Da aE)
structure Rows(D:LY)(R:NB)(N:Nat->Nat)(P X:Nat->Nat->Nat)(B:Nat):Prop where
 b8:B<8
 n0:N 0=((R 0).size+63-1)/63
 nn:∀b,b<B->N (b+1)=(10*N b+60-1)/60
 rr:∀b,b<B->BL (R (b+1))=D5 (λk=>D7 (P b k) (X b k)) (N b)
 top:N B=1
 d0:∀i,i<N 0->D[P 0 i]?=some (Dx 3 (R 0) 63 i)
 d1:∀b,b<B->∀i,i<N (b+1)->D[P (b+1) i]?=some (Dx 2 (R (b+1)) 60 i)
 pl:∀b i,b<=B->i<N b->16<=P b i/\P b i<1536
 px:∀b k,P b k<65536/\X b k<18446744073709551616
 inj:∀b i b' i',b<=B->b'<=B->i<N b->i'<N b'->P b i=P b' i'->b=b'/\i=i'
 ns:∀b,b<=B->N b<=1000
def Dz(b k:Nat):Nat:=Dd (if b=0 then 3 else 2) b k
theorem TQ{b k a c:Nat}(h1:b<60000)(h2:a<60000)(h3:k<60000)(h4:c<60000)(h:Dz b k=Dz a c):b=a/\k=c:=by
 unfold Dz Dd at h
 split at h<;>split at h<;>omega
def JY(f:Nat->Nat):Nat->Nat
 |0=>0
 |n+1=>JY f n+f n
theorem PQ{f g:Nat->Nat}:∀n,(∀k,k<n->f k<=g k)->JY f n<=JY g n
 |0,_=>Aa _
 |n+1,h=>Nat.add_le_add (PQ n (λk hk=>h k (by omega))) (h n (by omega))
theorem Tb(f:Nat->Nat)(b:Nat):∀n,JY (λk=>if k=b then f b+1 else f k) n=JY f n+if b<n then 1 else 0
 |0=>rfl
 |n+1=>by
  unfold JY;rw[Tb f b n];by_cases a:b<n
  ·rw[if_pos a,if_neg (by omega),if_pos (by omega)];omega
  ·by_cases c:n=b
   ·subst c;rw[if_neg a,if_pos rfl,if_pos (by omega)];omega
   ·rw[if_neg a,if_neg c,if_neg (by omega)];omega
theorem Ou(c:Nat):∀n,JY (λ_=>c) n=c*n
 |0=>rfl
 |n+1=>by unfold JY;rw[Ou c n,Nat.mul_succ]
structure Gw(N:Nat->Nat)(P:Nat->Nat->Nat)(ch:Nat->List UInt8)(B c:Nat)(q:Gj):Prop where
 g1:∀y∈q.ins,∃b k,b<=B/\k<q.tn b/\y=(Dz b k,P b k)
 g6:∀b k,b<=B->k<q.tn b->(Dz b k,P b k)∈q.ins
 g2:∀p,q.tk p=true->(∃b k,b<=B/\k<q.tn b/\p=P b k)\/∃b,c<=b/\b<=B/\q.tn b<N b/\p=P b (q.tn b)
 g3:∀b,b<=B->q.tn b<=N b
 g5:BL q.t=D5 ch (q.tn 0)
 g7:q.ins.length=JY q.tn (B+1)
section
variable{D:LY}{R:NB}{N:Nat->Nat}{P X:Nat->Nat->Nat}{B:Nat}{ch:Nat->List UInt8}
theorem Gw.fresh(f:Rows D R N P X B){b:Nat}(g:b<=B){q:Gj}(h:Gw N P ch B (b+1) q)(i:q.tn b<N b):q.tk (P b (q.tn b))=false:=by
 cases e:q.tk (P b (q.tn b)) with
 |false=>rfl
 |true=>
  rcases h.g2 _ e with⟨j,k,a,c,d⟩|⟨j,a,c,d,l⟩
  ·obtain⟨rfl,h5⟩:=f.inj _ _ _ _ g a i (AY c (h.g3 _ a)) d;omega
  ·obtain⟨rfl,_⟩:=f.inj _ _ _ _ g c i d l;omega
theorem Gw.take(_hR:Rows D R N P X B){b:Nat}(d:b<=B){q:Gj}(h:Gw N P ch B (b+1) q)(f:q.tn b<N b):Gw N P ch B b (q.take (P b (q.tn b))):=
 ⟨h.g1,h.g6,λp g=>by
  by_cases e:p=P b (q.tn b)
  ·exact .inr ⟨b,Aa _,d,f,e⟩
  ·have i:q.tk p=true:=by
    have j:(if p=P b (q.tn b) then true else q.tk p)=true:=g
    rwa [if_neg e]at j
   exact(h.g2 p i).imp id (λ⟨a,h1,c⟩=>⟨a,by omega,c⟩),h.g3,h.g5,h.g7⟩
theorem Gw.role(a:Rows D R N P X B){b c:Nat}(g:b<=B){q:Gj}(h:Gw N P ch B c q)(hi:q.tn b<N b):∀y∈q.ins,y.1≠Dz b (q.tn b):=λy i e=>by
 obtain⟨d,k,f,h2,rfl⟩:=h.g1 y i;have n1:=a.ns b g;have n2:=a.ns d f;have n3:=h.g3 d f;have h8:=a.b8;obtain⟨rfl,h5⟩:=TQ (by omega) (by omega) (by omega) (by omega) e;omega
theorem Gw.len(a:Rows D R N P X B){c:Nat}{q:Gj}(h:Gw N P ch B c q):q.ins.length<=9999:=by
 rw[h.g7];have b:JY q.tn (B+1)<=JY (λ_=>1000) (B+1):=PQ _ (λk hk=>Af (h.g3 k (by omega)) (a.ns k (by omega)));rw[Ou]at b;have:=a.b8;omega
theorem Gw.done(_hR:Rows D R N P X B){b:Nat}(o:b<=B){q:Gj}(h:Gw N P ch B b q)(hi:q.tn b<N b)(j:By)(s:BL j=D5 ch (if 0=b then q.tn b+1 else q.tn 0)):
  Gw N P ch B (b+1) ((({ q with t:=j }:Gj).put (Dz b (q.tn b)) (P b (q.tn b))).turn b):=by
 have f:∀k,((({ q with t:=j }:Gj).put (Dz b (q.tn b)) (P b (q.tn b))).turn b).tn k=if k=b then q.tn b+1 else q.tn k:=λ_=>rfl
 have l:((({ q with t:=j }:Gj).put (Dz b (q.tn b)) (P b (q.tn b))).turn b).ins=q.ins++[(Dz b (q.tn b),P b (q.tn b))]:=rfl;refine⟨λy n=>?_,λa k d c=>?_,λp r=>?_,λa d=>?_,?_,?_⟩
 ·rw[l]at n;rcases Aq.1 n with e|e
  ·obtain⟨a,k,d,c,i⟩:=h.g1 y e;refine⟨a,k,d,?_,i⟩;rw[f];split
   ·rename_i g;subst g;omega
   ·exact c
  ·refine⟨b,q.tn b,o,?_,Ad.1 e⟩;rw[f,if_pos rfl];omega
 ·rw[f]at c;rw[l];by_cases e:a=b
  ·subst e;rw[if_pos rfl]at c;by_cases g:k=q.tn a
   ·subst g;exact BZ _ (Ad.2 rfl)
   ·exact Bn _ (h.g6 a k d (by omega))
  ·rw[if_neg e]at c;exact Bn _ (h.g6 a k d c)
 ·rcases h.g2 p r with⟨a,k,d,c,i⟩|⟨a,d,c,i,m⟩
  ·refine .inl ⟨a,k,d,?_,i⟩;rw[f];split
   ·rename_i g;subst g;omega
   ·exact c
  ·by_cases e:a=b
   ·subst e;exact .inl ⟨a,q.tn a,c,by rw[f,if_pos rfl];omega,m⟩
   ·exact .inr ⟨a,by omega,c,by rw[f,if_neg e];exact i,by rw[f,if_neg e];exact m⟩
 ·rw[f];split
  ·rename_i g;subst g;omega
  ·exact h.g3 a d
 ·show BL j=D5 ch (if 0=b then q.tn b+1 else q.tn 0);exact s
 ·rw[l,Ab,h.g7];show _=JY (λk=>if k=b then q.tn b+1 else q.tn k) (B+1);rw[Tb,if_pos (by omega)];rfl
def IY(f:Nat->Gj->Gj)(a:Nat):Nat->Gj->Gj
 |0,q=>q
 |m+1,q=>f (a+m) (IY f a m q)
def Jl(N:Nat->Nat)(P:Nat->Nat->Nat)(cb:NB):Nat->Nat->Gj->Gj
 |0,i,q=>(((q.take (P 0 i)).say (cb i)).put (Dd 3 0 (q.tn 0)) (P 0 i)).turn 0
 |b+1,i,q=>(((IY (Jl N P cb b) (6*i) (min 6 (N b-6*i)) (q.take (P (b+1) i))).put (Dd 2 (b+1) ((IY (Jl N P cb b) (6*i) (min 6 (N b-6*i)) (q.take (P (b+1) i))).tn (b+1))) (P (b+1) i)).turn (b+1))
def Lv(N:Nat->Nat)(b i:Nat)(q:Gj):Prop:=q.tn b=i/\∀b',b'<b->q.tn b'=min (6 ^ (b-b')*i) (N b')
theorem Rows.grow(a:Rows D R N P X B):∀(d b:Nat),b+d<=B->N b<=6 ^ d*N (b+d)
 |0,b,_=>by simp
 |d+1,b,h=>by
  have ih:=Rows.grow a d b (by omega);have:=a.nn (b+d) (by omega);rw[Ec,Fy];refine Af ih (E0 _ ?_);rw[show b+(d+1)=b+d+1 by omega];omega
theorem Rj(c:Rows D R N P X B){cb:NB}(s:∀i,BL (cb i)=ch i):∀(b:Nat),b<=B->∀(i:Nat) (q:Gj),i<N b->Gw N P ch B (b+1) q->Lv N b i q->
  Gw N P ch B (b+1) (Jl N P cb b i q)/\Lv N b (i+1) (Jl N P cb b i q)/\∀a,b<a->(Jl N P cb b i q).tn a=q.tn a
 |0,hb,i,q,hi,h,ht=>by
  have f:q.tn 0=i:=ht.1;have l:q.tn 0<N 0:=by omega
  have o:=(Gw.take c hb h l).done c hb l (q.t++cb i) (by rw[Jy,h.g5,s,if_pos rfl];show _=D5 ch (q.tn 0+1);rw[f];rfl);have n:Jl N P cb 0 i q=(({ (q.take (P 0 (q.tn 0))) with t:=q.t++cb i }:Gj).put (Dz 0 ((q.take (P 0 (q.tn 0))).tn 0)) (P 0 ((q.take (P 0 (q.tn 0))).tn 0))).turn 0:=by
   show(((q.take (P 0 i)).say (cb i)).put (Dd 3 0 (q.tn 0)) (P 0 i)).turn 0=_;rw[<-f];rfl
  rw[n];refine⟨o,⟨?_,λa d=>by omega⟩,λa d=>?_⟩
  ·show(if (0:Nat)=0 then q.tn 0+1 else q.tn 0)=_;rw[if_pos rfl,f]
  ·show(if a=0 then q.tn 0+1 else q.tn a)=_;rw[if_neg (by omega)]
 |b+1,hb,i,q,hi,h,ht=>by
  have f:q.tn (b+1)=i:=ht.1;have l:q.tn (b+1)<N (b+1):=by omega
  have aa:=c.nn b (by omega);have h6:6*i<N b:=by omega
  have v:Lv N b (6*i) (q.take (P (b+1) i)):=by
   refine⟨?_,λa d=>?_⟩
   ·show q.tn b=_;rw[ht.2 b (by omega),show b+1-b=1 by omega];omega
   ·show q.tn a=_;rw[ht.2 a (by omega),show b+1-a=b-a+1 by omega,Ec,Fy]
  have u:Gw N P ch B (b+1) (q.take (P (b+1) i)):=by rw[<-f];exact Gw.take c hb h l
  have E:∀m,m<=min 6 (N b-6*i)->Gw N P ch B (b+1) (IY (Jl N P cb b) (6*i) m (q.take (P (b+1) i)))/\Lv N b (6*i+m) (IY (Jl N P cb b) (6*i) m (q.take (P (b+1) i)))/\∀a,b<a->(IY (Jl N P cb b) (6*i) m (q.take (P (b+1) i))).tn a=q.tn a:=λm=>by
   induction m with
   |zero=>exact λ_=>⟨u,v,λa _=>rfl⟩
   |succ m ih=>
    intro y;obtain⟨g,j,k⟩:=ih (by omega);obtain⟨z,A,C⟩:=Rj c s b (by omega) (6*i+m) _ (by omega) g j;exact⟨z,A,λa d=>(C a d).trans (k a d)⟩
  obtain⟨g,j,k⟩:=E _ (Aa _);generalize hq2:IY (Jl N P cb b) (6*i) (min 6 (N b-6*i)) (q.take (P (b+1) i))=q2 at g j k
  have r:q2.tn (b+1)=i:=(k (b+1) (by omega)).trans f;have x:q2.tn (b+1)<N (b+1):=by omega
  have o:=g.done c hb x q2.t (by rw[g.g5,if_neg (by omega)]);have n:Jl N P cb (b+1) i q=((({ q2 with t:=q2.t }:Gj).put (Dz (b+1) (q2.tn (b+1))) (P (b+1) (q2.tn (b+1)))).turn (b+1)):=by
   show((_:Gj).put (Dd 2 (b+1) _) (P (b+1) i)).turn (b+1)=_;rw[hq2];unfold Dz;rw[if_neg (by omega),r]
  rw[n];refine⟨o,⟨?_,λa d=>?_⟩,λa d=>?_⟩
  ·show(if b+1=b+1 then q2.tn (b+1)+1 else q2.tn (b+1))=_;rw[if_pos rfl,r]
  ·show(if a=b+1 then q2.tn (b+1)+1 else q2.tn a)=_;rw[if_neg (by omega)];by_cases e:a=b
   ·subst e;rw[j.1,show a+1-a=1 by omega];omega
   ·rw[j.2 a (by omega),show b+1-a=b-a+1 by omega,Ec,Fy];by_cases y:6*(i+1)<=N b
    ·rw[show 6*i+min 6 (N b-6*i)=6*(i+1) by omega]
    ·have p:=c.grow (b-a) a (by omega);rw[show a+(b-a)=b by omega]at p;rw[show 6*i+min 6 (N b-6*i)=N b by omega];have w:6 ^ (b-a)*N b<=6 ^ (b-a)*(6*(i+1)):=E0 _ (by omega);rw[C9 p,C9 (Af p w)]
  ·show(if a=b+1 then q2.tn (b+1)+1 else q2.tn a)=_;rw[if_neg (by omega)];exact k a (by omega)
end
theorem T8(kk:UInt8)(s:By)(a i:Nat):(Dx kk s a i).data[0]?=some kk:=by
 rw[<-CF];show(BL (Dx kk s a i))[0]?=some kk;unfold Dx;rw[Jy,show BL (⟨#[kk]⟩:By)=[kk] from rfl]
 rfl
section
variable{D:LY}{R:NB}{N:Nat->Nat}{P X:Nat->Nat->Nat}{B:Nat}{ch:Nat->List UInt8}
theorem Z6(c:Rows D R N P X B){cb:NB}(j:∀i,BL (cb i)=ch i){b:Nat}(g:b+1<=B){i:Nat}{q:Gj}(hi:i<N (b+1))(h:Gw N P ch B (b+2) q)(e:Lv N (b+1) i q):
  6*i<N b/\∀m,m<=min 6 (N b-6*i)->Gw N P ch B (b+1) (IY (Jl N P cb b) (6*i) m (q.take (P (b+1) i)))/\Lv N b (6*i+m) (IY (Jl N P cb b) (6*i) m (q.take (P (b+1) i)))/\∀a,b<a->(IY (Jl N P cb b) (6*i) m (q.take (P (b+1) i))).tn a=q.tn a:=by
 have f:q.tn (b+1)=i:=e.1;have k:q.tn (b+1)<N (b+1):=by omega
 have aa:=c.nn b (by omega);refine⟨by omega,λm=>?_⟩
 induction m with
 |zero=>
  refine λ_=>⟨by rw[<-f];exact Gw.take c g h k,⟨?_,λa d=>?_⟩,λa _=>rfl⟩
  ·show q.tn b=_;rw[e.2 b (by omega),show b+1-b=1 by omega];omega
  ·show q.tn a=_;rw[e.2 a (by omega),show b+1-a=b-a+1 by omega,Ec,Fy,Ef]
 |succ m ih=>
  intro hm;obtain⟨p,r,s⟩:=ih (by omega);obtain⟨l,n,o⟩:=Rj c j b (by omega) (6*i+m) _ (by omega) p r;exact⟨l,n,λa d=>(o a d).trans (s a d)⟩
def IC(R:NB)(i:Nat):By:=DW (Dx 3 (R 0) 63 i)
theorem Zn8(R:NB)(i:Nat):(IC R i).size=63:=by unfold IC DW;rw[Ah,Qc];rfl
theorem Ws(d:Rows D R N P X B)(h:World)(f g e n o:Nat){U vw T:Value}{a:OA}{l c:Nat}(x:DU h e U (.slice a l c) vw T D)(z:e<f/\∀k,Own (.slice a l c) k->k<f):
  ∀(b:Nat),b<=B->∀(i:Nat) (q:Gj) (va vt:Value) (W:World),i<N b->Gw N P (λi=>BL (IC R i)) B (b+1) q->Lv N b i q->Gc h f g e n o q va vt W->
   Cl 202 #[.pointer (some ⟨g,0,none⟩),.agg #[.int .i64 (P b i:Nat),.int .u64 (X b i:Nat)]] W (Kw h f g e n o W va vt b (Jl N P (IC R) b i q))
 |0,hb,i,q,va,vt,W,hi,hg,ht,hS=>by
  have p:q.tn 0=i:=ht.1;have v:q.tn 0<N 0:=by omega
  have s:=d.pl 0 i hb hi;have K:=d.ns 0 hb;have r:=hg.fresh d hb v;rw[p]at r;have aa:q.t.size=63*i:=by
   rw[<-DK,hg.g5,Qv (m:=63) (λk=>by rw[DK,Zn8]),p]
  have w:=hg.role d hb v;exact YO W h f g e n o q va vt hS x z (P 0 i) (X 0 i) s.1 s.2 r (Dx 3 (R 0) 63 i) (d.d0 i hi) (T8 _ _ _ _) (by omega) w (hg.len d) (by omega)
 |b+1,hb,i,q,va,vt,W,hi,hg,ht,hS=>by
  have p:q.tn (b+1)=i:=ht.1;have v:q.tn (b+1)<N (b+1):=by omega
  have s:=d.pl (b+1) i hb hi;have K:=d.ns (b+1) hb;have h8:=d.b8;have r:=hg.fresh d hb v;rw[p]at r;obtain⟨h6,E⟩:=Z6 d (cb:=IC R) (λ_=>rfl) hb hi hg ht;obtain⟨C,k2,Q⟩:=E _ (Aa _);have e2:(IY (Jl N P (IC R) b) (6*i) (min 6 (N b-6*i)) (q.take (P (b+1) i))).tn (b+1)=i:=(Q (b+1) (by omega)).trans p;have w:=C.role d hb (by omega);have L:Dz (b+1) ((IY (Jl N P (IC R) b) (6*i) (min 6 (N b-6*i)) (q.take (P (b+1) i))).tn (b+1))=Dd 2 (b+1) ((IY (Jl N P (IC R) b) (6*i) (min 6 (N b-6*i)) (q.take (P (b+1) i))).tn (b+1)):=by unfold Dz;rw[if_neg (by omega)]
  rw[L]at w;refine YN W h f g e n o q va vt hS x z (P (b+1) i) (X (b+1) i) s.1 s.2 r (Dx 2 (R (b+1)) 60 i) (d.d1 b (by omega) i hi) (T8 _ _ _ _) (b+1) (by omega) _ (λZ F J H _=>?_) w (C.len d) (by omega);have A:=λj (y:j<6)=>ZM (P:=P b) (X:=X b) (λk=>(d.px b k).1) (λk=>(d.px b k).2) (d.rr b (by omega)) i j y
  refine Zf1 Z h f g e n o (λj=>IY (Jl N P (IC R) b) (6*i) j (q.take (P (b+1) i))) va vt J (min 6 (N b-6*i)) b (by omega) (by omega) (by omega) F _ (Qc _ _ _ _) H (λj=>P b (6*i+j)) (λj=>X b (6*i+j)) (λj y=>?_) (λhm=>?_) (λj y G S V I=>?_)
  ·obtain⟨t,u⟩:=A j (by omega);rw[if_pos (by omega)]at t u;have:=(d.pl b (6*i+j) (by omega) (by omega)).1;exact⟨t,u,by omega⟩
  ·obtain⟨t,u⟩:=A (min 6 (N b-6*i)) (by omega);rw[if_neg (by omega)]at t u;exact⟨t,u⟩
  ·obtain⟨M,O,_⟩:=E j (by omega);exact Ws d h f g e n o x z b (by omega) (6*i+j) _ S V G (by omega) M O I
end
def GF(fb:Nat)(s:By)(vt:Value)(W:World):Prop:=
 ∃a l c,FX W fb 287 [.slice a l c]/\Gp W a l c s/\l<=c/\∀x,a=some x->Own vt x.block
theorem GF.fr{e:Nat}{s:By}{b:Value}{W d:World}(h:GF e s b W){Z:Nat->Prop}(g:Fr Z W d)(n:¬Z e)(o:∀k,Own b k->¬Z k)(q:∀k,Own b k->k<W.heap.size):GF e s b d:=by
 obtain⟨a,l,c,t,f,u,m⟩:=h;refine⟨a,l,c,t.fr g n,?_,u,m⟩;refine⟨f.1,f.2.1,λj v r=>?_⟩;obtain⟨x,i,p⟩:=f.2.2 j v r;have ho:=m x i;exact⟨x,i,(Ay (by show d.heap[(x.add j).block]?=W.heap[(x.add j).block]?;rw[Addr.block_add'];exact g.block _ (q _ ho) (o _ ho))).trans p⟩
theorem GF.below{c:Nat}{s:By}{a:Value}{W b:World}(h:GF c s a W)(d:Bw W b)(f:∀k,Own a k->k<W.heap.size):GF c s a b:=h.fr (Z:=λ_=>False) (Fr.of_below d) (λe=>e) (λ_ _ e=>e) f
theorem GF.post{c:Nat}{s:By}{d:Value}{W b:World}{a:OA}{l n:Nat}{v:Value}{e:Ending}(j:∀x,a=some x->Own d x.block)(k:QY W c a l s n v e b):GF c (s.extract n s.size) d b:=by
 obtain⟨_,f,g,o,p,q,r,_⟩:=k;exact⟨f,l-n,g,o,p,q,λx m=>by obtain⟨y,h,i⟩:=r x m;rw[<-i];exact j y h⟩
theorem GF.number{b:Nat}{s:By}{g:Value}{W:World}(h:GF b s g W)(o:¬Own g b)(hs:s.size<=2000000)(n:Nat)(m:n<=8):
  Cl 240 #[.pointer (some ⟨b,0,none⟩),.int .i64 (n:Nat)] W λe d=>e=.returned (.int .u64 (DQ (BL (Di s n)):Nat))/\GF b (s.extract n s.size) g d/\Fr (λk=>k=b) W d:=by
 obtain⟨a,l,c,q,i,r,j⟩:=h;have hl:l=s.size:=i.1;refine(Oq W b a l c s q i r (λx p e=>o (by rw[<-e];exact j x p)) n m (by omega)).mono ?_;intro e d f;exact⟨f.1,GF.post j f,f.2.choose_spec.choose_spec.2.2.2.2⟩
theorem GF.ref{b:Nat}{s:By}{g:Value}{W:World}(h:GF b s g W)(m:¬Own g b)(hs:s.size<=2000000):
  Cl 238 #[.pointer (some ⟨b,0,none⟩)] W λe d=>e=.returned (.agg #[.int .i64 (GA s:Nat),.int .u64 (GE s:Nat)])/\GF b (s.extract 10 s.size) g d/\Fr (λk=>k=b) W d:=by
 obtain⟨a,l,c,o,i,p,j⟩:=h;have hl:l=s.size:=i.1;refine(NY W b a l c s o i p (λx n e=>m (by rw[<-e];exact j x n)) (by omega)).mono ?_;intro e d f;exact⟨f.1,GF.post j f,f.2.choose_spec.choose_spec.2.2.2.2⟩
def Kt(d:By):NB
 |0=>⟨#[]⟩
 |k+1=>Kt d k++Gn d k
theorem Uq(d:By):∀k,(Kt d k).size=64*k
 |0=>rfl
 |k+1=>by unfold Kt;rw[Ai,Uq d k,Qr];omega
theorem BL_dtB(d:By)(k:Nat):BL (Gn d k)=(((BL d).drop (64*k)).take 64++List.replicate 64 0).take 64:=by
 unfold Gn Hy;rw[KW,J8,show k*64+64-k*64=64 by omega,Nat.mul_comm k 64]
theorem T3(d:By):∀k,(BL (Kt d k)).take d.size=(BL d).take (64*k)
 |0=>by simp[Kt,BL]
 |k+1=>by
  have ih:=T3 d k;unfold Kt;rw[Jy,Ca,ih,DK,Uq,BL_dtB];by_cases h:64*k<=d.size
  ·have b:((BL d).drop (64*k)).length=d.size-64*k:=by rw[Az,DK]
   rw[B3];have a:((((BL d).drop (64*k)).take 64++List.replicate 64 (0:UInt8)).take (min (d.size-64*k) 64))=((BL d).drop (64*k)).take 64:=by
    rw[A3 (by rw[An,b];omega),B3];by_cases h2:d.size-64*k<=64
    ·rw[show min (min (d.size-64*k) 64) 64=d.size-64*k by omega,Ag (by omega),Ag (by omega)]
    ·rw[show min (min (d.size-64*k) 64) 64=64 by omega]
   rw[a,show 64*(k+1)=64*k+64 by omega,List.take_add]
  ·rw[show d.size-64*k=0 by omega,Cs,Cf,Ag (by rw[DK];omega),Ag (by rw[DK];omega)]
theorem ZmM(d:By):(BL (Kt d (Gu d))).take d.size=BL d:=by
 rw[T3,Ag (by rw[DK];unfold Gu;omega)]
def D3(q:Gj)(fn:Nat)(P:Nat->Nat):Nat->Gj
 |0=>q
 |k+1=>((D3 q fn P k).take (P k)).put (Dd 4 fn k) (P k)
structure MT(W w0:World)(n0 rb db tp tx fb:Nat)(vt va0:Value)(p:By)(fn:Nat)(d:By)(q:Gj)(s:By)(k:Nat)(va v:Value)(wr:World):Prop where
 rd:Gc w0 n0 rb db tp tx q va vt wr
 fd:GF fb s vt wr
 b5:FX wr W.heap.size 141 [.string p,.int .u8 2,.int .i64 (fn:Nat),v]
 b6:FX wr (W.heap.size+1) 141 [.string ⟨#[]⟩,.int .u8 0,.int .i64 0,.slice none 0 0]
 dt:F9 (W.heap.size+2) wr v (Kt d k)
 fr:Fr (λj=>j=rb\/Own va0 j\/j=fb) W wr
 na:Dk W va0 va
 sz:W.heap.size+2<=wr.heap.size
def UW(W w0:World)(n0 rb db tp tx fb:Nat)(vt va:Value)(p:By)(fn:Nat)(d:By)(q':Gj)(s':By)(e:Ending)(w':World):Prop:=
 ∃a' c' va',e=.returned (.tuple #[.agg #[.string p,.int .u8 2,.int .i64 (fn:Nat),.slice a' d.size c'],.bool true])/\Gc w0 n0 rb db tp tx q' va' vt w'/\GF fb s' vt w'/\Sl w' 5 1 (.slice a' d.size c') d.size (Dc d)/\(∀k,Own (.slice a' d.size c') k->W.heap.size+2<=k)/\Fr (λj=>j=rb\/Own va j\/j=fb) W w'/\Dk W va va'
theorem F9.cut{b:Nat}{w:World}{a:OA}{l c:Nat}{s d:By}(h:F9 b w (.slice a l c) s)(hd:d.size<=s.size)(j:(BL s).take d.size=BL d):Sl w 5 1 (.slice a d.size c) d.size (Dc d):=by
 refine⟨by rw[Dg];omega,?_⟩;rcases h.1.2 with⟨e,h0⟩|⟨g,aa,L,e,f,q1,k,m,n⟩
 ·cases e
  have:d.size=0:=by omega
  exact .inl ⟨by rw[this],this⟩
 ·cases e
  refine .inr ⟨g,c,L,rfl,f,by omega,k,m,?_⟩;have i:Dc d=(Dc s).take d.size:=by
   unfold Dc BL at *;rw[<-List.map_take,j]
  rw[i,<-n,B3]
  congr 1;omega
theorem Zmr(W T:World)(O A R tp tx:Nat)(q:Gj)(va z:Value)(h:Gc T O A R tp tx q va z W){vf vw ve:Value}{a:OA}{l c:Nat}{D:LY}(hD:DU T R vf (.slice a l c) vw ve D)(aO:R<O/\∀k,Own (.slice a l c) k->k<O)(o:Nat)(aN:O<=o)(s:By)(hf:GF o s z W)(hs:s.size<=1000000)(p:By)(fn:Nat)(b8:fn<60000)(d:By)(hd:d.size<=60000)(aR:DQ (BL (Di s 2))=d.size)(P:Nat->Nat)(K:Nat)(E:K=Gu d)(hb:∀k,k<K->GA (DE (s.extract 2 s.size) k)=P k/\16<=P k/\P k<1536/\D[P k]?=some (Gn d k))(hq:∀k,k<K->(D3 q fn P k).tk (P k)=false/\(∀y∈(D3 q fn P k).ins,y.1≠Dd 4 fn k)/\(D3 q fn P k).ins.length<=9999):
  Cl 246 #[.pointer (some ⟨A,0,none⟩),.pointer (some ⟨o,0,none⟩),.agg #[.string p,.int .u8 2,.int .i64 (fn:Nat),.slice none 0 0]] W (UW W T O A R tp tx o z va p fn d (D3 q fn P K) (DE (s.extract 2 s.size) K)):=by
 obtain⟨W1,e1,x1,k1,s1,b1⟩:=De W [.string p,.int .u8 2,.int .i64 (fn:Nat),.slice none 0 0] 141;obtain⟨W2,e2,x2,k2,s2,b2⟩:=De W1 [.string ⟨#[]⟩,.int .u8 0,.int .i64 0,.slice none 0 0] 141;rw[s1]at x2;have an:Bw W W2:=b1.trans (b2.mono (by omega));obtain⟨bE,bF,aa⟩:=h.lt;obtain⟨F,al⟩:=ex (s.extract 2 s.size);rw[<-al]at hb ⊢;have aP:O<=W.heap.size:=Af h.sz h.bel.size;have bD:∃a l c,FX W o 287 [.slice a l c]:=by obtain⟨a,l,c,r,_⟩:=hf;exact⟨a,l,c,r⟩
 obtain⟨_,_,_,au⟩:=bD;have ad:=h.ne au (by decide) (by decide) (by decide);have b7:=au.lt;obtain⟨N,hN⟩:=ex d.size;have ak:∀k,k<=K->(k<K↔64*k<N):=λk hk=>by rw[E,hN];rw[E]at hk;unfold Gu at *;omega
 have bh:N<=64*K:=by rw[E,hN];unfold Gu;omega
 have ap:¬Own z o:=ad.2.2;have aA:Hid (Cl 240 #[.pointer (some ⟨o,0,none⟩),.int .i64 2] W2 λe X=>e=.returned (.int .u64 (N:Nat))/\Hid (MT W T O A R tp tx o z va p fn d (D3 q fn P 0) (DE F 0) 0 va (.slice none 0 0) X)):=by
  refine((hf.below an aa).number ap (by omega) 2 (by omega)).mono ?_;rintro e X⟨rfl,q1,q2⟩;refine⟨by rw[aR,hN],(h.below an).fr q2 (λk e=>by subst e;exact⟨aN,ad.1,ad.2.1,ad.2.2⟩),by rw[<-al]at q1;exact q1,(k2 _ _ _ x1).fr q2 (λe=>by omega),x2.fr q2 (λe=>by omega),F9.nil _ _,(Fr.of_below an).then q2 (λk _ e => .inr (.inr e)),λg hg => .inl hg,by have:=q2.size;omega⟩
 have a8:Hid (∀k,k<K->∀B n w m wr,MT W T O A R tp tx o z va p fn d (D3 q fn P k) (DE F k) k B (.slice n w m) wr->∃X VB,VB=DA (Gn d k)/\Cl 238 #[.pointer (some ⟨o,0,none⟩)] wr λe Y=>e=.returned (.agg #[.int .i64 (P k:Nat),.int .u64 (X:Nat)])/\∃Z,Y.alloc (.cells #[.int .i64 (P k:Nat),.int .u64 (X:Nat)] 175)=Z/\Z.cell? ⟨Y.heap.size,0,none⟩=some (.int .i64 (P k:Nat))/\Z.cell? ⟨Y.heap.size,1,none⟩=some (.int .u64 (X:Nat))/\
   Hid (Cl 241 #[.pointer (some ⟨A,0,none⟩),.agg #[.int .i64 (P k:Nat),.int .u64 (X:Nat)]] Z λe U=>e=.returned (.tuple #[VB,.bool true])/\∃V0 V,U.alloc (.cells (Dc (Dn 64)).toArray 188)=V0/\FX V0 U.heap.size 188 (Dc (Dn 64))/\V0.setRow U.heap.size (Dc (Gn d k)).toArray=V/\V.cell? ⟨W.heap.size,2,none⟩=some (.int .i64 (fn:Nat))/\V.cell? ⟨Y.heap.size,0,none⟩=some (.int .i64 (P k:Nat))/\
    Hid (Cl 243 #[.pointer (some ⟨A,1,none⟩),.int .u64 ((4*4294967296+fn*65536+k:Nat):Int),.int .i64 (P k:Nat)] V.drew λe G=>e=.returned (.tuple #[])/\G.cell? ⟨W.heap.size,2,none⟩=some (.int .i64 (fn:Nat))/\G.cell? ⟨Y.heap.size,0,none⟩=some (.int .i64 (P k:Nat))/\G.cell? ⟨W.heap.size,3,none⟩=some (.slice n w m)/\
     ∃H J I C,(Builtin.append_ #[59,59] 59 #[.slice n w m,.slice (some ⟨U.heap.size,0,none⟩) 64 64]).run prog G.drew=.ok (.slice H J I) C/\C.cell? ⟨W.heap.size,3,none⟩=some (.slice n w m)/\C.frozen? ⟨W.heap.size,3,none⟩=false/\Hid (∃ac,MT W T O A R tp tx o z va p fn d (D3 q fn P (k+1)) (DE F (k+1)) (k+1) ac (.slice H J I) (C.setCell ⟨W.heap.size,3,none⟩ (.slice H J I)))))):=λk hk B n w m wr f=>by
  obtain⟨f1,f2,f3,f4⟩:=hb k hk;obtain⟨g1,g2,g3⟩:=hq k hk;have cf:=f.sz;have bB:∃a l c,FX wr o 287 [.slice a l c]:=by obtain⟨a,l,c,r,_⟩:=f.fd;exact⟨a,l,c,r⟩
  obtain⟨_,_,_,bC⟩:=bB;have bI:(DE F k).size<=2000000:=by rw[Ur,al,Ah];omega
  refine⟨GE (DE F k),_,rfl,(f.fd.ref ap bI).mono ?_⟩;rintro e Y⟨rfl,y1,y2⟩;obtain⟨Z,eZ,xZ,kZ,sZ,bZ⟩:=De Y [.int .i64 (P k:Nat),.int .u64 (GE (DE F k):Nat)] 175;have br:FX Y W.heap.size 141 _:=f.b5.fr y2 (λe=>by omega);have bs:FX Y (W.heap.size+1) 141 _:=f.b6.fr y2 (λe=>by omega);have bk:Gc T O A R tp tx (D3 q fn P k) B z Y:=f.rd.fr y2 (λj e=>by subst e;exact⟨aN,ad.1,(f.rd.ne bC (by decide) (by decide) (by decide)).2.1,ap⟩);have bl:=bk.below bZ;have b5:=y2.size;refine⟨by rw[f1],Z,eZ,(xZ.cell 0).trans rfl,(xZ.cell 1).trans rfl,?_⟩;refine(bl.take_call hD aO (x:=GE (DE F k)) f2 f3 g1 f4).mono ?_;rintro e U⟨rfl,u1,u2⟩;have bX:=u2.size;obtain⟨V0,e0,x0,k0,s0,b0⟩:=De U (Dc (Dn 64)) 188;have xV:FX (V0.setRow U.heap.size (Dc (Gn d k)).toArray) U.heap.size 188 (Dc (Gn d k)):=BW V0 _ _ _ 188 _ x0;have bV:Bw U (V0.setRow U.heap.size (Dc (Gn d k)).toArray):=b0.trans ⟨rfl,rfl,rfl,by simp,λj b=>BD V0 _ j _ (by omega)⟩;obtain⟨V,hV⟩:∃V,V0.setRow U.heap.size (Dc (Gn d k)).toArray=V:=⟨_,rfl⟩;rw[hV]at xV bV;have ar:=u1.below bV;have b4:=bV.size;have bt:=kZ _ _ _ br;have bu:=kZ _ _ _ bs;have aE:FX U W.heap.size 141 _:=bt.fr u2 (λe=>by omega);have aF:FX U (W.heap.size+1) 141 _:=bu.fr u2 (λe=>by omega);have aG:FX U Y.heap.size 175 _:=xZ.fr u2 (λe=>by omega);have aI:FX V W.heap.size 141 _:=(bV.block _ aE.lt).trans aE;have bm:FX V (W.heap.size+1) 141 _:=(bV.block _ aF.lt).trans aF;have aK:FX V Y.heap.size 175 _:=(bV.block _ aG.lt).trans aG;refine⟨rfl,V0,V,e0,x0,hV,(aI.cell 2).trans rfl,(aK.cell 0).trans rfl,?_⟩;have aD:Gc T O A R tp tx ((D3 q fn P k).take (P k)) B z V.drew:=ar.below ⟨rfl,rfl,rfl,Aa _,λ_ _=>rfl⟩;refine(aD.put_call (r:=Dd 4 fn k) (p:=P k) g2 g3).mono ?_;rintro e G⟨rfl,ac,r1,r2,r3⟩;have bY:V.heap.size<=G.heap.size:=r2.size;have aw:=aD.lt;have aW:∀j t L,FX V j t L->t≠350->¬Own B j:=λj t L hr ht=>by
   obtain⟨es,_,q2⟩:=ar.es;intro e;obtain⟨R',ab⟩:=q2.type e;unfold FX at hr ab;rw[hr]at ab;cases ab;exact ht rfl
  have kp:∀j t L,FX V j t L->j≠A->t≠350->FX G j t L:=λj t L hr b ht=>(r2.block j hr.lt (λe=>e.elim b (aW j t L hr ht))).trans hr
  have am:=kp _ _ _ aI (by omega) (by decide);have aL:=kp _ _ _ bm (by omega) (by decide);have bp:=kp _ _ _ aK (by omega) (by decide);have bn:=kp _ _ _ xV (by omega) (by decide);have bo:FX G.drew U.heap.size 188 _:=bn;have af:Fr (λj=>j=o\/j=A\/Own B j) wr G:=by
   have a1:Fr (λj=>j=o\/j=A\/Own B j) wr Z:=(y2.mono (Y:=λj=>j=o\/j=A\/Own B j) (λj _ e => .inl e)).then (Fr.of_below (X:=λ_=>False) bZ) (λ_ _ e=>e.elim);have a2:=a1.then u2 (λj _ e => .inr (.inl e));have a3:Fr (λj=>j=o\/j=A\/Own B j) wr V.drew:=by
    have:=a2.then (Fr.of_below (X:=λ_=>False) bV) (λ_ _ e=>e.elim);exact⟨this.os,this.tape,this.output,this.size,this.block⟩
   exact a3.then r2 (λj _ e => .inr e)
  have aQ:∀j,Own (.slice n w m) j->¬(j=o\/j=A\/Own B j):=λj b e=>by
   obtain⟨R',ab⟩:=f.dt.typed b;have n5:=f.dt.2 j b;rcases e with e|e|e
   ·omega
   ·omega
   ·obtain⟨es,_,q2⟩:=f.rd.es;obtain⟨R2,ae⟩:=q2.type e;unfold FX at ab ae;rw[ab]at ae;cases ae
  have bx:F9 (W.heap.size+2) G.drew (.slice n w m) (Kt d k):=⟨f.dt.1.fr ⟨af.os,af.tape,af.output,af.size,af.block⟩ aQ,f.dt.2⟩;have ca:k<=1000:=by have:=(ak k (by omega)).1 hk;omega
  obtain⟨H,J,I,C,m1,m2,m3,m4⟩:=JX G.drew (W.heap.size+2) (by show _<=G.heap.size;omega) (.slice n w m) _ bx ⟨U.heap.size,0,none⟩ 64 64 (Gn d k) (Qr d k) (λj u hu=>by rw[AI,Av,bo.cell];exact hu) (by rw[Uq];omega);have b3:G.heap.size<=C.heap.size:=m3.size;have aj:∀j,j<W.heap.size+2->¬Own (.slice n w m) j:=λj b e=>by have:=f.dt.2 j e;omega
  have bM:∀j,j<W.heap.size+2->¬Own (.slice H J I) j:=λj b e=>by have:=m2.2 j e;omega
  have ag:FX C W.heap.size 141 _:=(m3.block _ am.lt (aj _ (by omega))).trans am;have bq:FX C (W.heap.size+1) 141 _:=(m3.block _ aL.lt (aj _ (by omega))).trans aL;refine⟨rfl,(am.cell 2).trans rfl,(bp.cell 0).trans rfl,(am.cell 3).trans rfl,H,J,I,C,m1,(ag.cell 3).trans rfl,ag.frozen 3,ac,?_⟩;obtain⟨cb,cc,cd⟩:=r1.lt;have ax:∀j,Own (.slice n w m) j->¬Own ac j/\¬Own z j:=λj b=>by
   have n5:=f.dt.2 j b;have b9:j<wr.heap.size:=f.dt.1.lt b;refine⟨λe=>?_,λe=>by have:=aa j e;omega⟩;rcases r3 j e with e|e
   ·exact aQ j b (.inr (.inr e))
   ·have:V.drew.heap.size=V.heap.size:=rfl;omega
  have bN:Gc T O A R tp tx (D3 q fn P (k+1)) ac z G.drew:=r1.below ⟨rfl,rfl,rfl,Aa _,λ_ _=>rfl⟩;have aC:Gc T O A R tp tx (D3 q fn P (k+1)) ac z C:=bN.fr m3 (λj b=>⟨by have:=f.dt.2 j b;omega,by have:=f.dt.2 j b;omega,(ax j b).1,(ax j b).2⟩);have ah:Fr (λj=>j=W.heap.size) C (C.setCell ⟨W.heap.size,3,none⟩ (.slice H J I)):=by
   exact(Fr.refl (λj=>j=W.heap.size) C).set ⟨W.heap.size,3,none⟩ (.slice H J I) rfl
  have bJ:¬Own ac W.heap.size:=λe=>by
   obtain⟨es,_,q2⟩:=aC.es;obtain⟨R2,ae⟩:=q2.type e;unfold FX at ag ae;rw[ag]at ae;cases ae
  have bj:=aC.fr ah (λj e=>by subst e;exact⟨aP,by omega,bJ,λe=>by have:=aa _ e;omega⟩);have bA:GF o (DE F (k+1)) z (C.setCell ⟨W.heap.size,3,none⟩ (.slice H J I)):=by
   have t1:GF o (DE F (k+1)) z Z:=y1.below bZ (λj b=>by have:=aa j b;omega);have ai:∀j,Own z j->j<Z.heap.size:=λj b=>by have:=aa j b;have:=bZ.size;omega
   have t2:GF o (DE F (k+1)) z U:=t1.fr u2 (λe=>ad.1 e) (λj b e=>h.ot (by rw[<-e];exact b)) ai;have t3:GF o (DE F (k+1)) z V:=t2.below bV (λj b=>by have:=ai j b;omega);have t4:GF o (DE F (k+1)) z G:=GF.fr (W:=V.drew) t3 r2 (λe=>e.elim ad.1 (λe=>by
    obtain⟨_,_,_,rr,_⟩:=t3;exact aW o _ _ rr (by decide) e)) (λj b e=>e.elim (λe=>h.ot (by rw[<-e];exact b)) (λe=>(ar.oa j e).2.2 b)) (λj b=>by show j<V.heap.size;have:=ai j b;omega)
   have bL:∀j,Own z j->j<G.drew.heap.size:=λj b=>by show j<G.heap.size;have:=ai j b;omega
   have t5:GF o (DE F (k+1)) z C:=GF.fr (W:=G.drew) t4 m3 (λe=>by have:=f.dt.2 o e;omega) (λj b e=>(ax j e).2 b) bL;exact t5.fr ah (λe=>by omega) (λj b e=>by have:=aa j b;omega) (λj b=>by have:=ai j b;omega)
  have bH:FX (C.setCell ⟨W.heap.size,3,none⟩ (.slice H J I)) W.heap.size 141 [.string p,.int .u8 2,.int .i64 (fn:Nat),.slice H J I]:=ag.set 3 (.slice H J I);have bz:F9 (W.heap.size+2) (C.setCell ⟨W.heap.size,3,none⟩ (.slice H J I)) (.slice H J I) (Kt d (k+1)):=⟨m2.1.fr ah (λg hg e=>bM W.heap.size (by omega) (by rw[<-e];exact hg)),m2.2⟩;refine⟨bj,bA,bH,bq.fr ah (λe=>by omega),bz,?_,λg hg=>?_,?_⟩
  ·refine Fr.then (Fr.then (Fr.then f.fr af (λj b e=>?_)) (w2:=C) ⟨m3.os,m3.tape,m3.output,m3.size,m3.block⟩ (λj b e=>absurd e (aj j (by omega)))) ah (λj b e=>by omega);rcases e with e|e|e
   ·exact .inr (.inr e)
   ·exact .inl e
   ·exact(f.na j e).elim (λe => .inr (.inl e)) (λe=>by omega)
  ·rcases r3 g hg with e|e
   ·exact(f.na g e).imp id (λe=>e)
   ·have:V.drew.heap.size=V.heap.size:=rfl;exact .inr (by omega)
  ·have:(C.setCell ⟨W.heap.size,3,none⟩ (.slice H J I)).heap.size=C.heap.size:=by simp[World.setCell]
   omega
 have a0:Hid (∀B n w m wr,MT W T O A R tp tx o z va p fn d (D3 q fn P K) (DE F K) K B (.slice n w m) wr->N<=m/\FX wr W.heap.size 141 [.string p,.int .u8 2,.int .i64 (fn:Nat),.slice n w m]/\∃w1,wr.setCell ⟨W.heap.size,3,none⟩ (.slice n N m)=w1/\FX w1 W.heap.size 141 [.string p,.int .u8 2,.int .i64 (fn:Nat),.slice n N m]/\FX w1 (W.heap.size+1) 141 [.string ⟨#[]⟩,.int .u8 0,.int .i64 0,.slice none 0 0]/\
   Hid (UW W T O A R tp tx o z va p fn d (D3 q fn P K) (DE F K) (.returned (.tuple #[.agg #[.string p,.int .u8 2,.int .i64 (fn:Nat),.slice n N m],.bool true])) ((((w1.setCell ⟨W.heap.size+1,0,none⟩ (.string p)).setCell ⟨W.heap.size+1,1,none⟩ (.int .u8 2)).setCell ⟨W.heap.size+1,2,none⟩ (.int .i64 (fn:Nat))).setCell ⟨W.heap.size+1,3,none⟩ (.slice n N m)))):=λB n w m wr f=>by
  have bv:=Uq d K;have bi:d.size<=(Kt d K).size:=by rw[bv];omega
  have bw:=f.dt.cut bi (by rw[E];exact ZmM d);have aM:N<=m:=by
   rcases f.dt.1.2 with⟨e,h0⟩|⟨g,bO,L,e,_,q1,_⟩
   ·cases e;omega
   ·cases e;omega
  have aS:∀M j,Own (.slice n M m) j->Own (.slice n w m) j:=λM j e=>by cases n<;>exact e
  have aj:∀j,j<W.heap.size+2->¬Own (.slice n N m) j:=λj b e=>by have:=f.dt.2 j (aS _ j e);omega
  have f1:Fr (λj=>j=W.heap.size\/j=W.heap.size+1) wr ((((( wr.setCell ⟨W.heap.size,3,none⟩ (.slice n N m)).setCell ⟨W.heap.size+1,0,none⟩ (.string p)).setCell ⟨W.heap.size+1,1,none⟩ (.int .u8 2)).setCell ⟨W.heap.size+1,2,none⟩ (.int .i64 (fn:Nat))).setCell ⟨W.heap.size+1,3,none⟩ (.slice n N m)):=((((( Fr.refl (λj=>j=W.heap.size\/j=W.heap.size+1) wr).set ⟨W.heap.size,3,none⟩ _ (.inl rfl)).set ⟨W.heap.size+1,0,none⟩ _ (.inr rfl)).set ⟨W.heap.size+1,1,none⟩ _ (.inr rfl)).set ⟨W.heap.size+1,2,none⟩ _ (.inr rfl)).set ⟨W.heap.size+1,3,none⟩ _ (.inr rfl);have h5:FX (wr.setCell ⟨W.heap.size,3,none⟩ (.slice n N m)) W.heap.size 141 [.string p,.int .u8 2,.int .i64 (fn:Nat),.slice n N m]:=f.b5.set 3 (.slice n N m);have h6:FX (wr.setCell ⟨W.heap.size,3,none⟩ (.slice n N m)) (W.heap.size+1) 141 _:=(Aw _ _ _ _ (show W.heap.size+1≠W.heap.size by omega)).trans f.b6;have nv:∀j t L,FX wr j t L->t≠350->¬Own B j:=λj t L hr ht e=>by
   obtain⟨es,_,q2⟩:=f.rd.es;obtain⟨R',ab⟩:=q2.type e;unfold FX at hr ab;rw[hr]at ab;cases ab;exact ht rfl
  have bK:∀j,Own z j->j<wr.heap.size:=λj b=>by have:=aa j b;have:=f.sz;omega
  rw[hN]at *;refine⟨aM,f.b5,_,rfl,h5,h6,n,m,B,rfl,f.rd.fr f1 (λj e=>?_),f.fd.fr f1 (λe=>by omega) (λj b e=>by have:=aa j b;omega) bK,bw.fr f1 (λg hg e=>aj g (by omega) hg),λj b=>f.dt.2 j (aS _ j b),f.fr.then f1 (λj b e=>by omega),f.na⟩;rcases e with e|e
  ·subst e;exact⟨aP,by omega,nv _ _ _ f.b5 (by decide),λe=>by have:=aa _ e;omega⟩
  ·subst e;exact⟨by omega,by omega,nv _ _ _ f.b6 (by decide),λe=>by have:=aa _ e;omega⟩
 have a9:Hid (∀k,k<K->∀V,Cl 244 #[.int .u8 4,.int .i64 (fn:Nat),.int .i64 (k:Nat)] V λe w'=>e=.returned (.int .u64 ((4*4294967296+fn*65536+k:Nat):Int))/\w'=V):=λk hk V=>UB V 4 fn k (by omega) (by omega) (by have:=(ak k (by omega)).1 hk;omega)
 have a4:Hid (∀k B n w m wr,MT W T O A R tp tx o z va p fn d (D3 q fn P k) (DE F k) k B (.slice n w m) wr->w=64*k):=λk B n w m wr f=>by
  have:=Sl.len f.dt.1;rw[Uq]at this;exact this
 have ay:Hid (∀k,(Dc (Gn d k)).length=64):=λk=>by rw[Dg,Qr]
 have bT:N<=60000:=by omega
 have bS:K<=1000:=by rw[E];unfold Gu;omega
 have az:=Db ak;have aY:=Db e1;have aZ:=Db e2;obtain⟨QK,bW⟩:∃Q,Q=D3 q fn P K:=⟨_,rfl⟩;clear e1 e2 x1 x2 k1 k2 s1 s2 b1 b2 an h hD aO hf hb hq E aR hN ak bh bE bF aa al ad au hd ap;go_enter func246,ntmps246;go_upto_region 1 with fail;rw[show W.alloc (.cells #[.string p,.int .u8 2,.int .i64 (fn:Nat),.slice none 0 0] 141)=W1 from Da aY,show W1.alloc (.cells #[.string ⟨#[]⟩,.int .u8 0,.int .i64 0,.slice none 0 0] 141)=W2 from Da aZ];have b6:IntKind.i64.wrap (N:Int)=(N:Int):=by rw[AV];omega
 go_wp2_with(go_at_call 240;refine(Da aA).mono ?_;rintro e X⟨rfl,aq⟩);clear aA
 go_loopw [9] (λi wr=>∃k:Nat,k<=K/\i=.int .i64 (k:Nat)/\Hid (∃B n w m,MT W T O A R tp tx o z va p fn d (D3 q fn P k) (DE F k) k B (.slice n w m) wr)) (λi _=>K-(intOf i).toNat)
 case atStart=>exact⟨0,by omega,rfl,va,none,0,0,Da aq⟩
 case round=>
  obtain⟨k,hk,rfl,HI⟩:=hrel;obtain⟨B,n,w,m,f⟩:=Da HI;have aw:=Da a4 _ _ _ _ _ _ f;have c3:=(f.b5.cell 3).trans (show _=some (Value.slice n w m) from rfl);by_cases ao:k<K
  ·obtain⟨X2,VB,aJ,hC⟩:=Da a8 k ao B n w m wr f;have HC:=Db hC;have bc:=Db aJ;have bG:(w:Int)<(N:Int):=by have:=(Da az k hk).1 ao;omega
   have a6:=Db (Da a9 k ao);clear hC aJ f HI aq aw;go_upto_region 6 with(go_at_call 238;refine(Da HC).mono ?_;rintro e Y⟨rfl,Z,hZ,z0,z1,HT⟩;have HZ:=Db hZ;clear hZ);rw[show Y.alloc (.cells #[.int .i64 (P k:Nat),.int .u64 (X2:Nat)] 175)=Z from Da HZ];go_upto_region 7 with(first|(go_at_call 241;refine(Da HT).mono ?_;rintro e U⟨rfl,V0,V,aH,aX,hV,v2,vp,HP⟩;have bb:=Db aH;have be:=Db aX;have HV:=Db hV;clear aH aX hV)|(refine JN rfl 188 rfl Kx ?_;rw[show U.alloc (.cells (Dc (Dn 64)).toArray 188)=V0 from Da bb])|(refine BX rfl 188 _ _ rfl U.heap.size (Dc (Gn d k)).toArray rfl (Da bc) 188 _ (Da be) (by rw[Jf];simp[Da ay k]) (by simp[Da ay k,Dg,Jr]) (KV _) ?_;rw[Da HV]));go_upto_region 9 with fail;refine AE (S:=λV=>V.cell? ⟨W.heap.size,2,none⟩=some (.int .i64 (fn:Nat))/\V.cell? ⟨Y.heap.size,0,none⟩=some (.int .i64 (P k:Nat))) (by kernel_rfl) ⟨v2,vp⟩ (λaB=>?_);refine tk 0 ?_;refine tk 1 ?_;refine tk 2 ?_;refine tk 3 ?_;refine tk 4 ?_;refine tk 5 ?_;refine tk 6 ?_;refine tk 8 ?_;refine tk 9 ?_;refine rk 7 (λK E=>?_);go_simp;go_at_call 244;refine(Da a6 _).mono ?_;rintro e w'⟨rfl,aU⟩;rw[aU];clear aU;go_wp2_with fail;refine E.out _ _ ⟨v2,vp⟩ (λbg=>?_);clear E K
   try simp only[pE]
   refine rk 10 (λK E=>?_);go_simp;go_at_call 243;refine(Da HP).mono ?_;rintro e G⟨rfl,y1,y2,y3,H,J,I,C,aT,y4,y5,HN⟩;have a7:=Db aT;clear aT;go_wp2_with fail;refine E.out _ _ ⟨y1,y2⟩ (λbf=>?_);clear E K
   try simp only[pE]
   refine AO (by kernel_rfl) ?_ _;clear aB bg bf v2 vp HP HT HC c3 z0 z1;go_upto_region 10 with fail;refine AE (S:=λV=>True) (by kernel_rfl) trivial (λaB=>?_);refine tk 0 ?_;refine tk 2 ?_;refine rk 1 (λK E=>?_);go_simp;refine E.out _ _ trivial (λbP=>?_);clear E K
   try simp only[pE]
   refine rk 3 (λK E=>?_);refine JV rfl _ _ 59 59 rfl _ _ rfl rfl (Da a7) ?_;refine E.out _ _ trivial (λbQ=>?_);clear E K
   try simp only[pE]
   refine tk 4 ?_;refine rk 5 (λK E=>?_);go_simp;refine E.out _ _ trivial (λbR=>?_);clear E K
   try simp only[pE]
   refine AO (by kernel_rfl) ?_ _;go_wp2
   go_roundw
   case rel=>
    obtain⟨ac,h3⟩:=Da HN;exact⟨k+1,by omega,by go_num,ac,H,J,I,h3⟩
   case measure=>simp[intOf];omega
  ·obtain rfl:k=K:=by omega
   obtain⟨aM,r5,w1,aV,t5,t6,HF⟩:=Da a0 _ _ _ _ _ f;have bG:¬(w:Int)<(N:Int):=by have:=mt (Da az k hk).2 ao;omega
   have bd:=Db aV;have bU:N<=w:=by omega
   clear f HI aq aV aw;have qf:=r5.frozen 3;have t0:=(t5.cell 0).trans (show _=some (Value.string p) from rfl);have t1:=(t5.cell 1).trans (show _=some (Value.int .u8 2) from rfl);have t2:=(t5.cell 2).trans (show _=some (Value.int .i64 (fn:Nat)) from rfl);have t3:=(t5.cell 3).trans (show _=some (Value.slice n N m) from rfl);have z0:=t6.cell 0;have z1:=t6.cell 1;have z2:=t6.cell 2;have z3:=t6.cell 3;have y0:=t6.frozen 0;have y1:=t6.frozen 1;have y2:=t6.frozen 2;have y3:=t6.frozen 3;have hR:=JL t6 (.string p) (.int .u8 2) (.int .i64 (fn:Nat)) (.slice n N m);have HR:=Db hR;have ce:¬W.heap.size+1=W.heap.size:=by omega
   clear hR t5 t6 r5;go_upto_region 12 with fail;rw[show wr.setCell ⟨W.heap.size,3,none⟩ (.slice n N m)=w1 from Da bd];go_wp2;have r0:=(Da HR).cell 0;have r1:=(Da HR).cell 1;have r2:=(Da HR).cell 2;have r3:=(Da HR).cell 3;exact Ap (v:=.tuple #[.agg #[.string p,.int .u8 2,.int .i64 (fn:Nat),.slice n N m],.bool true]) (by simp[results,results246,go_sem,r0,r1,r2,r3]) rfl (Da HF)
theorem Zn1{W:World}{a:OA}{m c:Nat}{s:By}(h:Sl W 5 1 (.slice a m c) m (Dc s))(d:m=s.size):(convert 59 9 (.slice a m c)).run prog W=.ok (.string s) W:=by
 rcases h.2 with⟨e,h0⟩|⟨g,aa,R,e,j,ac,ab,hl,k⟩
 ·simp only[Bu]at e;obtain⟨rfl,rfl,rfl⟩:=e;rw[Go.Lib.run_convert_nil_bytes W 59 9 5 0 underlying59 underlying5 underlying9]
  congr 2
  apply ByteArray.ext;exact(Array.size_eq_zero_iff.1 d.symm).symm
 ·simp only[Bu]at e;obtain⟨rfl,-,rfl⟩:=e;subst d;refine Go.Lib.run_convert_whole W 59 5 9 underlying59 underlying5 underlying9 g 0 s (λi f=>?_) c;rw[Av,j.cell];have b:(R.take (s.size*1))[i]?=(Dc s)[i]? := by rw[k]
  rw[List.getElem?_take_of_lt (by omega)]at b;rw[b];unfold Dc;rw[Bc,CF,EU f]
  rfl
theorem GF.some{b:Nat}{s:By}{d:Value}{W:World}(h:GF b s d W){n:World}{j e g k m:Nat}{q:Gj}{f:Value}(i:Gc n j e g k m q f d W):b<W.heap.size/\b≠e/\¬Own f b/\¬Own d b:=by
 obtain⟨a,l,c,r,_⟩:=h;have:=i.ne r (by decide) (by decide) (by decide);exact⟨r.lt,this⟩
theorem Gc.number{r:World}{d l f m o:Nat}{q:Gj}{p c:Value}{W:World}(h:Gc r d l f m o q p c W){a:Nat}(v:d<=a){s:By}(i:GF a s c W)(hs:s.size<=1000000)(n:Nat)(w:n<=8):
  Cl 240 #[.pointer (some ⟨a,0,none⟩),.int .i64 (n:Nat)] W λe b=>e=.returned (.int .u64 (DQ (BL (Di s n)):Nat))/\Gc r d l f m o q p c b/\GF a (s.extract n s.size) c b/\Fr (λk=>k=a) W b:=by
 obtain⟨_,t,u,g⟩:=i.some h;refine(i.number g (by omega) n w).mono ?_;rintro e b⟨rfl,x,j⟩;exact⟨rfl,h.fr j (λk e=>by subst e;exact⟨v,t,u,g⟩),x,j⟩
def SY(W w0:World)(n0 rb db tp tx fb:Nat)(q:Gj)(va vt:Value)(s':By)(e:Ending)(w':World):Prop:=
 e=.returned (.tuple #[.agg #[.string ⟨#[]⟩,.int .u8 0,.int .i64 0,.slice none 0 0],.bool true])/\Gc w0 n0 rb db tp tx q va vt w'/\GF fb s' vt w'/\Fr (λk=>k=fb) W w'
theorem Zmv(W z:World)(g o p w x:Nat)(q:Gj)(y i:Value)(h:Gc z g o p w x q y i W)(c:Nat)(O:g<=c)(s:By)(t:GF c s i W)(G:s.size<=1000000)(C:DQ (BL (Di s 1))=0)(U:By):
  Cl 203 #[.pointer (some ⟨o,0,none⟩),.pointer (some ⟨c,0,none⟩),.string U] W (SY W z g o p w x c q y i (s.extract 1 s.size)):=by
 obtain⟨A,B,H,S,s1,m⟩:=De W [.string ⟨#[]⟩,.int .u8 0,.int .i64 0,.slice none 0 0] 141;obtain⟨P,F,f⟩:=h.lt;have ab:=(t.some h).1;have R:g<=W.heap.size:=Af h.sz h.bel.size;have K:Hid (Cl 240 #[.pointer (some ⟨c,0,none⟩),.int .i64 1] A λe X=>e=.returned (.int .u64 0)/\∃Y,X.alloc (.cells #[.string ⟨#[]⟩,.int .u8 0,.int .i64 0,.slice none 0 0] 141)=Y/\FX Y X.heap.size 141 [.string ⟨#[]⟩,.int .u8 0,.int .i64 0,.slice none 0 0]/\FX Y W.heap.size 141 [.string ⟨#[]⟩,.int .u8 0,.int .i64 0,.slice none 0 0]/\¬W.heap.size=X.heap.size/\
   Hid (SY W z g o p w x c q y i (s.extract 1 s.size) (.returned (.tuple #[.agg #[.string ⟨#[]⟩,.int .u8 0,.int .i64 0,.slice none 0 0],.bool true])) ((((Y.setCell ⟨W.heap.size,0,none⟩ (.string ⟨#[]⟩)).setCell ⟨W.heap.size,1,none⟩ (.int .u8 0)).setCell ⟨W.heap.size,2,none⟩ (.int .i64 0)).setCell ⟨W.heap.size,3,none⟩ (.slice none 0 0)))):=by
  refine((h.below m).number O (t.below m f) G 1 (by omega)).mono ?_;rintro e X⟨rfl,V,Z,u⟩;obtain⟨Y,M,b,T,sY,n⟩:=De X [.string ⟨#[]⟩,.int .u8 0,.int .i64 0,.slice none 0 0] 141;have N:FX X W.heap.size 141 _:=H.fr u (λe=>by omega);have aa:=u.size;have r:Fr (λj=>j=W.heap.size) Y ((((Y.setCell ⟨W.heap.size,0,none⟩ (.string ⟨#[]⟩)).setCell ⟨W.heap.size,1,none⟩ (.int .u8 0)).setCell ⟨W.heap.size,2,none⟩ (.int .i64 0)).setCell ⟨W.heap.size,3,none⟩ (.slice none 0 0)):=((((Fr.refl (λj=>j=W.heap.size) Y).set ⟨W.heap.size,0,none⟩ _ rfl).set ⟨W.heap.size,1,none⟩ _ rfl).set ⟨W.heap.size,2,none⟩ _ rfl).set ⟨W.heap.size,3,none⟩ _ rfl;have Q:∀k,Own i k->k<Y.heap.size:=λk d=>by have:=f k d;have:=n.size;omega
  refine⟨by rw[C];rfl,Y,M,b,T _ _ _ N,by omega,rfl,(V.below n).fr r (λk e=>by subst e;exact⟨R,by omega,λe=>by have:=F _ e;omega,λe=>by have:=f _ e;omega⟩),(Z.below n (λk d=>by have:=f k d;omega)).fr r (λe=>by omega) (λk d e=>by have:=f k d;omega) Q,?_⟩;exact((Fr.of_below m).then u (λ_ _ e=>e)).then ((Fr.of_below (X:=λj=>j=W.heap.size) n).then r (λ_ _ e=>e)) (λk d e=>by omega)
 have I:=Db B;clear B H S s1 m h t G C P F f;go_enter func203,ntmps203;go_upto_region 1 with fail;rw[show W.alloc (.cells #[.string ⟨#[]⟩,.int .u8 0,.int .i64 0,.slice none 0 0] 141)=A from Da I];go_upto_region 2 with(go_at_call 240;refine(Da K).mono ?_;rintro e X⟨rfl,Y,E,b,a,ac,J⟩;have L:=Db E;clear E);rw[show X.alloc (.cells #[.string ⟨#[]⟩,.int .u8 0,.int .i64 0,.slice none 0 0] 141)=Y from Da L];have z0:=a.cell 0;have z1:=a.cell 1;have z2:=a.cell 2;have z3:=a.cell 3;have y0:=a.frozen 0;have y1:=a.frozen 1;have y2:=a.frozen 2;have y3:=a.frozen 3;have t0:=b.cell 0;have t1:=b.cell 1;have t2:=b.cell 2;have t3:=b.cell 3;have D:=JL a (.string ⟨#[]⟩) (.int .u8 0) (.int .i64 0) (.slice none 0 0);have l:=Db D;clear D a b;go_wp2;have r0:=(Da l).cell 0;have r1:=(Da l).cell 1;have r2:=(Da l).cell 2;have r3:=(Da l).cell 3;exact Ap (v:=.tuple #[.agg #[.string ⟨#[]⟩,.int .u8 0,.int .i64 0,.slice none 0 0],.bool true]) (by simp[results,results203,go_sem,r0,r1,r2,r3]) rfl (Da J)
theorem Gc.bytes{w0:World}{n0 rb db tp tx:Nat}{q:Gj}{va vt:Value}{W:World}(h:Gc w0 n0 rb db tp tx q va vt W){fb:Nat}(w:n0<=fb){s:By}(g:GF fb s vt W)(hs:s.size<=1000000)(n:Nat)(hn:n<=1000000):
  Cl 245 #[.pointer (some ⟨fb,0,none⟩),.int .i64 (n:Nat)] W λe b=>e=.returned (.slice (some ⟨W.heap.size,0,none⟩) n n)/\Sl b 5 1 (.slice (some ⟨W.heap.size,0,none⟩) n n) n (Dc (Di s n))/\Gc w0 n0 rb db tp tx q va vt b/\GF fb (s.extract n s.size) vt b/\Fr (λk=>k=fb) W b:=by
 obtain⟨_,u,v,f⟩:=g.some h;obtain⟨a,l,c,E,j,F,m⟩:=g;have hl:l=s.size:=j.1;refine(Wl W fb a l c s E j F (λx d e=>f (by rw[<-e];exact m x d)) n (by omega) (by omega)).mono ?_;rintro e b⟨o,p,rfl,z,A,B,C,D,i⟩;exact⟨rfl,z,h.fr i (λk e=>by subst e;exact⟨w,u,v,f⟩),⟨o,l-n,p,A,B,C,λx d=>by obtain⟨y,r,t⟩:=D x d;rw[<-t];exact m y r⟩,i⟩
structure IQ(W w0:World)(n0 rb db tp tx fb:Nat)(q:Gj)(va vt:Value)(Bi:Nat)(s:By)(I:F0)(X:World):Prop where
 rd:Gc w0 n0 rb db tp tx q va vt X
 fd:GF fb s vt X
 b6:FX X W.heap.size 141 [.string ⟨#[]⟩,.int .u8 0,.int .i64 0,.slice none 0 0]
 bi:FX X Bi 141 I
 fr:Fr (λk=>k=fb) W X
 lt:W.heap.size<Bi
section
variable{W w0:World}{n0 rb db tp tx fb:Nat}{q:Gj}{va vt:Value}{Bi:Nat}{s:By}{I:F0}{X:World}
theorem IQ.num(_h0:Gc w0 n0 rb db tp tx q va vt W)(aa:fb<W.heap.size)(b:n0<=fb)(h:IQ W w0 n0 rb db tp tx fb q va vt Bi s I X)(d:s.size<=1000000):Cl 240 #[.pointer (some ⟨fb,0,none⟩),.int .i64 1] X λe Y=>e=.returned (.int .u64 (DQ (BL (Di s 1)):Nat))/\IQ W w0 n0 rb db tp tx fb q va vt Bi (s.extract 1 s.size) I Y:=by
 refine(h.rd.number b h.fd d 1 (by omega)).mono ?_;rintro e Y⟨rfl,f,g,a⟩;have c:=h.lt;exact⟨rfl,f,g,h.b6.fr a (λe=>by omega),h.bi.fr a (λe=>by omega),h.fr.then a (λ_ _ e=>e),c⟩
theorem IQ.byt(aa:fb<W.heap.size)(b:n0<=fb)(h:IQ W w0 n0 rb db tp tx fb q va vt Bi s I X)(f:s.size<=1000000)(n:Nat)(d:n<=1000000):Cl 245 #[.pointer (some ⟨fb,0,none⟩),.int .i64 (n:Nat)] X λe Y=>e=.returned (.slice (some ⟨X.heap.size,0,none⟩) n n)/\(convert 59 9 (.slice (some ⟨X.heap.size,0,none⟩) n n)).run prog Y=.ok (.string (Di s n)) Y/\IQ W w0 n0 rb db tp tx fb q va vt Bi (s.extract n s.size) I Y:=by
 refine(h.rd.bytes b h.fd f n d).mono ?_;rintro e Y⟨rfl,g,i,j,a⟩;have c:=h.lt;exact⟨rfl,Zn1 g (Jc _ _).symm,i,j,h.b6.fr a (λe=>by omega),h.bi.fr a (λe=>by omega),h.fr.then a (λ_ _ e=>e),c⟩
theorem IQ.set(c:Gc w0 n0 rb db tp tx q va vt W)(aa:fb<W.heap.size)(h:IQ W w0 n0 rb db tp tx fb q va vt Bi s I X)(i:Nat)(u:Value):IQ W w0 n0 rb db tp tx fb q va vt Bi s (I.set i u) (X.setCell ⟨Bi,i,none⟩ u):=by
 have f:=h.lt;obtain⟨l1,g,d⟩:=c.lt;have ab:n0<=W.heap.size:=Af c.sz c.bel.size;have a:Fr (λk=>k=Bi) X (X.setCell ⟨Bi,i,none⟩ u):=(Fr.refl (λk=>k=Bi) X).set ⟨Bi,i,none⟩ u rfl;exact⟨h.rd.fr a (λk e=>by subst e;exact⟨by omega,by omega,λe=>by have:=g _ e;omega,λe=>by have:=d _ e;omega⟩),h.fd.fr a (λe=>by omega) (λk b e=>by have:=d k b;omega) (λk b=>by have:=d k b;have:=h.fr.size;omega),h.b6.fr a (λe=>by omega),h.bi.set i u,h.fr.then a (λk b e=>by omega),f⟩
end
theorem YJ(W w0:World)(n0 rb db tp tx:Nat)(q:Gj)(va vt:Value)(h:Gc w0 n0 rb db tp tx q va vt W){vf vw ve:Value}{a:OA}{l c:Nat}{D:LY}(hD:DU w0 db vf (.slice a l c) vw ve D)(an:db<n0/\∀k,Own (.slice a l c) k->k<n0)(fb:Nat)(H:n0<=fb)(s E z A F s6:By)(hf:GF fb s vt W)(hs:s.size<=1000000)(L p:By)(aM:L.size<=1000000)(B n fn:Nat)(aN:B<=L.size)(hn:n<256)(aL:fn<256)(e2:E=s.extract 1 s.size)(e3:z=E.extract 1 E.size)(e4:A=z.extract 1 z.size)(e5:F=A.extract n A.size)(e6:s6=F.extract 1 F.size)(h1:DQ (BL (Di s 1))=2)(h2:DQ (BL (Di E 1))=B)(h3:DQ (BL (Di z 1))=n)(h4:L.extract 0 B++Di A n=p)(h5:DQ (BL (Di F 1))=fn)(d:By)(R:d.size<=60000)(ao:DQ (BL (Di s6 2))=d.size)(P:Nat->Nat)(K:Nat)(f:K=Gu d)(hb:∀k,k<K->GA (DE (s6.extract 2 s6.size) k)=P k/\16<=P k/\P k<1536/\D[P k]?=some (Gn d k))(hq:∀k,k<K->(D3 q fn P k).tk (P k)=false/\(∀y∈(D3 q fn P k).ins,y.1≠Dd 4 fn k)/\(D3 q fn P k).ins.length<=9999):
  Cl 203 #[.pointer (some ⟨rb,0,none⟩),.pointer (some ⟨fb,0,none⟩),.string L] W (UW W w0 n0 rb db tp tx fb vt va p fn d (D3 q fn P K) (DE (s6.extract 2 s6.size) K)):=by
 obtain⟨W1,e1,x1,k1,s1,O⟩:=De W [.string ⟨#[]⟩,.int .u8 0,.int .i64 0,.slice none 0 0] 141;obtain⟨aE,am,C⟩:=h.lt;have J:=(hf.some h).1;have aF:n0<=W.heap.size:=Af h.sz h.bel.size;have z2:E.size<=1000000:=by rw[e2,Ah];omega
 have z3:z.size<=1000000:=by rw[e3,Ah];omega
 have z4:A.size<=1000000:=by rw[e4,Ah];omega
 have z5:F.size<=1000000:=by rw[e5,Ah];omega
 have z6:s6.size<=1000000:=by rw[e6,Ah];omega
 have zp:(L.extract 0 B).size+(Di A n).size<=9223372036854775807:=by rw[Ah,Jc];omega
 have ah:Hid (Cl 240 #[.pointer (some ⟨fb,0,none⟩),.int .i64 1] W1 λe X=>e=.returned (.int .u64 2)/\∃Y,X.alloc (.cells #[.string ⟨#[]⟩,.int .u8 2,.int .i64 0,.slice none 0 0] 141)=Y/\Y.cell? ⟨X.heap.size,1,none⟩=some (.int .u8 2)/\
   Hid (IQ W w0 n0 rb db tp tx fb q va vt X.heap.size E [.string ⟨#[]⟩,.int .u8 2,.int .i64 0,.slice none 0 0] Y)):=by
  refine((h.below O).number H (hf.below O C) hs 1 (by omega)).mono ?_;rintro e X⟨rfl,q1,T,q3⟩;obtain⟨Y,eY,xY,kY,sY,bY⟩:=De X [.string ⟨#[]⟩,.int .u8 2,.int .i64 0,.slice none 0 0] 141;have aB:FX X W.heap.size 141 _:=x1.fr q3 (λe=>by omega);have aK:=q3.size;rw[<-e2]at T;exact⟨by rw[h1];rfl,Y,eY,(xY.cell 1).trans rfl,q1.below bY,T.below bY (λk t=>by have:=C k t;omega),kY _ _ _ aB,xY,((Fr.of_below O).then q3 (λ_ _ e=>e)).then (Fr.of_below (X:=λ_=>False) bY) (λ_ _ e=>e.elim),by omega⟩
 have ai:Hid (∀Bi X,IQ W w0 n0 rb db tp tx fb q va vt Bi E [.string ⟨#[]⟩,.int .u8 2,.int .i64 0,.slice none 0 0] X->Cl 240 #[.pointer (some ⟨fb,0,none⟩),.int .i64 1] X λe Y=>e=.returned (.int .u64 (B:Nat))/\Hid (IQ W w0 n0 rb db tp tx fb q va vt Bi z [.string ⟨#[]⟩,.int .u8 2,.int .i64 0,.slice none 0 0] Y)):=λBi X b=>(b.num h J H z2).mono λe Y ⟨r1,m⟩=>⟨by rw[r1,h2],by rw[e3];exact m⟩
 have aj:Hid (∀Bi X,IQ W w0 n0 rb db tp tx fb q va vt Bi z [.string ⟨#[]⟩,.int .u8 2,.int .i64 0,.slice none 0 0] X->Cl 240 #[.pointer (some ⟨fb,0,none⟩),.int .i64 1] X.drew λe Y=>e=.returned (.int .u64 (n:Nat))/\
   Hid (Cl 245 #[.pointer (some ⟨fb,0,none⟩),.int .i64 (n:Nat)] Y λe U=>e=.returned (.slice (some ⟨Y.heap.size,0,none⟩) n n)/\(convert 59 9 (.slice (some ⟨Y.heap.size,0,none⟩) n n)).run prog U=.ok (.string (Di A n)) U/\U.cell? ⟨Bi,0,none⟩=some (.string ⟨#[]⟩)/\U.frozen? ⟨Bi,0,none⟩=false/\∃V,U.setCell ⟨Bi,0,none⟩ (.string p)=V/\V.cell? ⟨Bi,1,none⟩=some (.int .u8 2)/\
    Hid (IQ W w0 n0 rb db tp tx fb q va vt Bi F [.string p,.int .u8 2,.int .i64 0,.slice none 0 0] V))):=λBi X b=>by
  have aC:IQ W w0 n0 rb db tp tx fb q va vt Bi z [.string ⟨#[]⟩,.int .u8 2,.int .i64 0,.slice none 0 0] X.drew:=by
   have R:Bw X X.drew:=⟨rfl,rfl,rfl,Aa _,λ_ _=>rfl⟩;exact⟨b.rd.below R,b.fd.below R (λk t=>by have:=C k t;have:=b.fr.size;omega),b.b6,b.bi,⟨b.fr.os,b.fr.tape,b.fr.output,b.fr.size,b.fr.block⟩,b.lt⟩
  refine(aC.num h J H z3).mono ?_;rintro e Y⟨rfl,m⟩;rw[<-e4]at m;refine⟨by rw[h3],(m.byt J H z4 n (by omega)).mono ?_⟩;rintro e U⟨rfl,u1,Z⟩;rw[<-e5]at Z;have u3:=Z.set h J 0 (.string p);exact⟨rfl,u1,(Z.bi.cell 0).trans rfl,Z.bi.frozen 0,_,rfl,(u3.bi.cell 1).trans rfl,u3⟩
 have aa:Hid (∀Bi X,IQ W w0 n0 rb db tp tx fb q va vt Bi F [.string p,.int .u8 2,.int .i64 0,.slice none 0 0] X->Cl 240 #[.pointer (some ⟨fb,0,none⟩),.int .i64 1] X λe Y=>e=.returned (.int .u64 (fn:Nat))/\Y.cell? ⟨Bi,2,none⟩=some (.int .i64 0)/\Y.frozen? ⟨Bi,2,none⟩=false/\∃V,Y.setCell ⟨Bi,2,none⟩ (.int .i64 (fn:Nat))=V/\FX V Bi 141 [.string p,.int .u8 2,.int .i64 (fn:Nat),.slice none 0 0]/\
   Hid (Cl 246 #[.pointer (some ⟨rb,0,none⟩),.pointer (some ⟨fb,0,none⟩),.agg #[.string p,.int .u8 2,.int .i64 (fn:Nat),.slice none 0 0]] V λe U=>∃o r,e=.returned (.tuple #[.agg #[.string p,.int .u8 2,.int .i64 (fn:Nat),.slice o d.size r],.bool true])/\FX U W.heap.size 141 [.string ⟨#[]⟩,.int .u8 0,.int .i64 0,.slice none 0 0]/\
    Hid (UW W w0 n0 rb db tp tx fb vt va p fn d (D3 q fn P K) (DE (s6.extract 2 s6.size) K) (.returned (.tuple #[.agg #[.string p,.int .u8 2,.int .i64 (fn:Nat),.slice o d.size r],.bool true])) ((((U.setCell ⟨W.heap.size,0,none⟩ (.string p)).setCell ⟨W.heap.size,1,none⟩ (.int .u8 2)).setCell ⟨W.heap.size,2,none⟩ (.int .i64 (fn:Nat))).setCell ⟨W.heap.size,3,none⟩ (.slice o d.size r))))):=λBi X b=>by
  refine(b.num h J H z5).mono ?_;rintro e Y⟨rfl,m⟩;rw[<-e6]at m;have u:=m.set h J 2 (.int .i64 (fn:Nat));refine⟨by rw[h5],(m.bi.cell 2).trans rfl,m.bi.frozen 2,_,rfl,u.bi,?_⟩;have aJ:W.heap.size<=(Y.setCell ⟨Bi,2,none⟩ (.int .i64 (fn:Nat))).heap.size:=u.fr.size;refine(Zmr _ w0 n0 rb db tp tx q va vt u.rd hD an fb H s6 u.fd z6 p fn (by omega) d R ao P K f hb hq).mono ?_;rintro e U⟨o,r,ap,rfl,p1,p2,p3,p4,p5,p6⟩;have ac:FX U W.heap.size 141 _:=u.b6.fr p5 (λe=>by
   rcases e with e|e|e
   ·omega
   ·have:=am _ e;omega
   ·omega)
  have aI:=p5.size;have G:Fr (λj=>j=W.heap.size) U ((((U.setCell ⟨W.heap.size,0,none⟩ (.string p)).setCell ⟨W.heap.size,1,none⟩ (.int .u8 2)).setCell ⟨W.heap.size,2,none⟩ (.int .i64 (fn:Nat))).setCell ⟨W.heap.size,3,none⟩ (.slice o d.size r)):=((((Fr.refl (λj=>j=W.heap.size) U).set ⟨W.heap.size,0,none⟩ _ rfl).set ⟨W.heap.size,1,none⟩ _ rfl).set ⟨W.heap.size,2,none⟩ _ rfl).set ⟨W.heap.size,3,none⟩ _ rfl;have nv:¬Own ap W.heap.size:=λe=>by
   obtain⟨es,_,T⟩:=p1.es;obtain⟨R',ab⟩:=T.type e;unfold FX at ac ab;rw[ac]at ab;cases ab
  refine⟨o,r,rfl,ac,o,r,ap,rfl,p1.fr G (λk e=>by subst e;exact⟨aF,by omega,nv,λe=>by have:=C _ e;omega⟩),p2.fr G (λe=>by omega) (λk t e=>by have:=C k t;omega) (λk t=>by have:=C k t;omega),p3.fr G (λg hg e=>by have:=p4 g hg;omega),λk t=>by have:=p4 k t;have:=u.lt;have:=u.bi.lt;omega,?_,λg hg=>(p6 g hg).imp id (λe=>by omega)⟩;exact((u.fr.mono (Y:=λj=>j=rb\/Own va j\/j=fb) (λj _ e => .inr (.inr e))).then p5 (λ_ _ e=>e)).then G (λk t e=>by omega)
 have ar:=Db h4;have zq:(Di A n).size<=255:=by rw[Jc];omega
 have aq:=Db e1;have aO:¬(L.size:Int)<(B:Int):=by omega
 have aP:IntKind.i64.wrap (B:Int)=(B:Int):=by rw[AV];omega
 have aQ:IntKind.i64.wrap (n:Int)=(n:Int):=by rw[AV];omega
 have aR:IntKind.i64.wrap (fn:Int)=(fn:Int):=by rw[AV];omega
 obtain⟨N,hN⟩:=ex d.size;rw[<-hN]at aa;clear e1 x1 k1 s1 O h hf hs aE am C hD an hb hq h1 h2 h3 h5 ao f h4 z2 z3 z4 z5 z6 e2 e3 e4 e5 e6;go_enter func203,ntmps203;go_upto_region 1 with fail;rw[show W.alloc (.cells #[.string ⟨#[]⟩,.int .u8 0,.int .i64 0,.slice none 0 0] 141)=W1 from Da aq];go_upto_region 2 with(go_at_call 240;refine(Da ah).mono ?_;rintro e X⟨rfl,Y,hY,y1,HI⟩;have HY:=Db hY;clear hY ah);rw[show X.alloc (.cells #[.string ⟨#[]⟩,.int .u8 2,.int .i64 0,.slice none 0 0] 141)=Y from Da HY];go_upto_region 7 with(go_at_call 240;refine(Da ai _ _ (Da HI)).mono ?_;rintro e X3⟨rfl,ag⟩;clear HI ai y1);have ak:=Da aj _ _ (Da ag);have ae:=Db ak;clear ak aj ag;refine AE (S:=λV=>True) (by kernel_rfl) trivial (λaA=>?_);refine tk 0 ?_;refine tk 1 ?_;refine tk 2 ?_;refine tk 3 ?_;refine tk 4 ?_;refine rk 5 (λK f=>?_);go_simp;go_at_call 240;refine(Da ae).mono ?_;rintro e X4⟨rfl,ad⟩;go_wp2_with fail;refine f.out _ _ trivial (λax=>?_);clear f K
 try simp only[pE]
 refine tk 6 ?_;refine rk 7 (λK f=>?_);go_simp;go_at_call 245;refine(Da ad).mono ?_;rintro e U⟨rfl,aD,u0,u1,V,hV,v1,HV⟩;go_wp2_with fail;refine f.out _ _ trivial (λay=>?_);clear f K
 try simp only[pE]
 refine rk 8 (λK f=>?_);go_simp;refine f.out _ _ trivial (λaz=>?_);clear f K
 try simp only[pE]
 refine A5 (i:=9) (v:=.string p) rfl (by kernel_rfl) (by kernel_rfl) (by kernel_rfl) (λ_ _ _ h=>h) (Or.inl ⟨by rfl,by intro w aH;go_simp;rw[if_neg (by omega),Da ar]⟩) (by assumption) ?_
 try simp only[pE]
 refine tk 10 ?_;refine rk 11 (λK f=>?_);go_simp;refine f.out _ _ trivial (λaw=>?_);clear f K
 try simp only[pE]
 refine AO (by kernel_rfl) ?_ _;have af:=Db (Da aa _ _ (Da HV));clear aA ax ay az aw u0 u1 aD hV HV aa ad ae;go_upto_region 11 with(go_at_call 240;refine(Da af).mono ?_;rintro e X5⟨rfl,f0,G,V5,al,M,HF⟩;have au:=Db al;clear al);rw[show X5.setCell ⟨X.heap.size,2,none⟩ (.int .i64 (fn:Nat))=V5 from Da au];have g0:=(M.cell 0).trans (show _=some (Value.string p) from rfl);have g1:=(M.cell 1).trans (show _=some (Value.int .u8 2) from rfl);have g2:=(M.cell 2).trans (show _=some (Value.int .i64 (fn:Nat)) from rfl);have g3:=(M.cell 3).trans (show _=some (Value.slice none 0 0) from rfl);clear f0 G v1 M af;have aG:=Db hN;clear hN;go_upto_region 13 with fail;go_wp2_with(go_at_call 246;refine(Da HF).mono ?_;rintro e U2⟨o,r,rfl,x,HP⟩;have z0:=x.cell 0;have z1:=x.cell 1;have z2:=x.cell 2;have z3:=x.cell 3;have y0:=x.frozen 0;have y1:=x.frozen 1;have y2:=x.frozen 2;have y3:=x.frozen 3;have av:=Db x;clear x);have Q:=JL (Da av) (.string p) (.int .u8 2) (.int .i64 (fn:Nat)) (.slice o N r);have r0:=Q.cell 0;have r1:=Q.cell 1;have m:=Q.cell 2;have u:=Q.cell 3;exact Ap (v:=.tuple #[.agg #[.string p,.int .u8 2,.int .i64 (fn:Nat),.slice o N r],.bool true]) (by simp[results,results203,go_sem,r0,r1,m,u]) rfl (Da HP)
end Go.Proofs.YtaieidcohdhgpaaGreatDoor
