/- Failed. -/
import Derived.Test.YtaieidcohdhgpaaGreatDoorSBJ
namespace Go.Proofs.YtaieidcohdhgpaaGreatDoor
set_option maxHeartbeats 40000000
set_option maxRecDepth 100000
open Go.RowKit
def Kv(pB:NB):NB
 | 0=>⟨#[]⟩
 | k+1=>pB k
theorem EnBy.dec{D:LY}{s o p:By}{f:Nat}{d:By}{P:Nat->Nat}{b:By}(h:EnBy D s o p f d P b):b.size<s.size:=by
 obtain⟨s2,s3,s4,s5,s6,sm,n,_,_,_,c,g,i,j,k,a,_,_,_,_,_,_,_,l⟩:=h;have hs:1<=s.size:=by
  rcases Nat.eq_zero_or_pos s.size with e|e
  ·exfalso;have m:BL s=[]:=List.eq_nil_of_length_eq_zero (by rw[DW,e]);rw[KI,m]at a
   revert a;decide
  ·exact e
 rw[l,Ug,ByteArray.size_extract,k,ByteArray.size_extract,j,ByteArray.size_extract,i,ByteArray.size_extract,g,ByteArray.size_extract,c,ByteArray.size_extract];omega
theorem FdS.len{b:Nat}{s:By}{f:Value}{W:World}(h:FdS b s f W):Kw b W=s.size:=by
 obtain⟨a,l,c,d,e,_⟩:=h;rw[ZgU ((d.cell 0).trans (show _=Option.some (Value.slice a l c) from rfl))];exact e.1
def Zhl(W w0:World)(n0 rb db tp tx:Nat)(va0 vt0:Value)(T:Gh->LF->(IB)->Prop)(q:RdQ)(e:Ending)(w':World):Prop:=
 ∃tb va' vt',e = .returned (.tuple #[.pointer (some ⟨tb,0,none⟩),.bool true])/\RdS w0 n0 rb db tp tx q va' vt' w'/\(∃G I C,PS w' tb G I C/\T G I C)/\Fr (fun j=>j=rb\/Own va0 j\/Own vt0 j) W w'/\W.heap.size<tb
theorem Zk2(W F:World)(s d w bb bc:Nat)(q0:RdQ)(A B:Value)(h:RdS F s d w bb bc q0 A B W){vf vw ve:Value}{a:OA}{l c:Nat}{D:LY}(hD:DS F w vf (.slice a l c) vw ve D)(az:w<s/\∀k,Own (.slice a l c) k->k<s)(h0:0<s)(aC:PkgOk W)
  (f o:Nat) (qG:RdQ) (b:Nat) (hg:∀X A B,RdS F s d w f o q0 A B X->Calls Tryz.prog 202 #[.pointer (some ⟨d,0,none⟩),.agg #[.int .i64 (f:Nat),.int .u64 (o:Nat)]] X (Ko F s d w f o X A B b qG))
  (m:Nat) (z q:NB) (p:Nat->Nat) (u:NB) (PB:Nat->Nat->Nat) (qB:Nat->RdQ) (aE:qB 0=qG) (aF:∀k,k<m->qB (k+1)=D3 (qB k) (p k) (PB k) (nBl (u k))) (aG:z 0=qG.t) (am:∀k,k<=m->(z k).size<=1000000) (aD:∀k,k<m->(q k).size<=1000000)
  (hE:∀k,k<m->EnBy D (z k) (Kv q k) (q k) (p k) (u k) (PB k) (z (k+1)))
  (hQ:∀k,k<m->∀i,i<nBl (u k)->(D3 (qB k) (p k) (PB k) i).tk (PB k i)=false/\(∀y∈(D3 (qB k) (p k) (PB k) i).ins,y.1≠Dd 4 (p k) i)/\(D3 (qB k) (p k) (PB k) i).ins.length<=9999)
  (aw:DL (BL (Di (z m) 1))=0)
  (T:Nat->Gh->LF->(IB)->Prop) (au:T 0 [] [] (fun _=>⟨#[]⟩))
  (hT:∀k,k<m->∀G I C,T k G I C->ZnO G I (q k) (p k) (u k).size/\∀(I1 I2:LF) (C2:IB) (da:OA) (dc:Nat),I1.length=I.length+1->(∀x,x∈I1↔x=((p k:Int),⟨none,0,0,1⟩)\/x∈I)->Jm I1 I2 (p k:Int) ⟨da,(u k).size,dc,1⟩->C2 (p k)=u k->(∀x∈I,C2 x.1=C x.1)->T (k+1) (G++[(Df (q k),⟨none,(p k:Int)⟩)]) I2 C2):
  Calls Tryz.prog 136 #[.pointer (some ⟨d,0,none⟩),.agg #[.int .i64 (f:Nat),.int .u64 (o:Nat)]] W (Zhl W F s d w f o A B (T m) (qB m)):=by
 obtain⟨W1,e1,x1,k1,s1,b1⟩:=De W [.int .i64 (f:Nat),.int .u64 (o:Nat)] 175;obtain⟨aR,aS,aT⟩:=h.lt;have bi:s<=W.heap.size:=Nat.le_trans h.sz h.bel.size;have h1:=h.below b1;have bh:=h.lo;have aW:=h1.topc;obtain⟨X1,ab⟩:∃X1,(W1.setCell ⟨d,2,none⟩ (.int .i64 (f:Nat))).setCell ⟨d,3,none⟩ (.int .u64 (o:Nat))=X1:=⟨_,rfl⟩;have ar:RdS F s d w f o q0 A B X1:=by rw[<-ab];exact h1.top f o
 have f1:Fr (fun k=>k=d) W1 X1:=by rw[<-ab];exact((Fr.refl (fun k=>k=d) W1).set ⟨d,2,none⟩ _ rfl).set ⟨d,3,none⟩ _ rfl
 have an:RowIs X1 W.heap.size 175 [.int .i64 (f:Nat),.int .u64 (o:Nat)]:=x1.fr f1 (fun e=>by omega);have ae:Fr (fun j=>j=d\/Own A j\/Own B j) W X1:=((Fr.of_below b1).then f1 (fun _ _ e=>e)).mono (fun k _ e => .inl e);have HG:Hid (Calls Tryz.prog 202 #[.pointer (some ⟨d,0,none⟩),.agg #[.int .i64 (f:Nat),.int .u64 (o:Nat)]] X1 fun e X2=>e = .returned (.tuple #[.int .i64 (b:Nat),.bool true])/\
   Hid (Calls Tryz.prog 95 #[] X2 fun e P=>∃tb Q Z S,e = .returned (.pointer (some ⟨tb,0,none⟩))/\P.cell? ⟨d,1548,none⟩=some (.slice Q Z S)/\∃X4,P.alloc (.cells #[.slice Q Z S] 287)=X4/\Hid (ReI W F s d w f o P.heap.size tb A B (.slice Q Z S) (T 0) (qB 0) (z 0) X4))):=by
  refine(hg X1 A B ar).mono ?_;rintro e X2 ⟨rfl,aa,M,r1,r2,r3,r4⟩;refine⟨rfl,?_⟩;have al:Fr (fun j=>j=d\/Own A j\/Own B j) W X2:=ae.then r2 (fun _ _ e=>e);have aV:PkgOk X2:=aC.fr al (fun e=>by
   rcases e with e|e|e
   ·omega
   ·have:=(h.oa 0 e).1;omega
   ·have:=h.tab.2 0 e;omega)
  have aQ:=ae.size;refine(Zjs X2 aV).mono ?_;rintro e P ⟨tb,rfl,t1,t2,t3,_⟩;obtain⟨Q,Z,S,rfl⟩:=r1.tab.1.shape;have ac:=r1.below t3;obtain⟨X4,e4,x4,k4,s4,b4⟩:=De P [.slice Q Z S] 287;have hl:=ac.lt;have bf:=al.size;have bg:=t3.size;refine⟨tb,Q,Z,S,rfl,ac.cells.2.2.1,X4,e4,⟨aa,by rw[aE];exact ac.below b4,fun g hg=>(r3 g hg).imp id (fun e=>by omega)⟩,?_,⟨[],[],_,?_,au⟩,(al.then (Fr.of_below (X:=fun _=>False) t3) (fun _ _ e=>e.elim)).then (Fr.of_below (X:=fun _=>False) b4) (fun _ _ e=>e.elim),by omega,by omega⟩
  ·have hS:=(ac.below b4).tab;refine⟨Q,Z,S,x4,by rw[aG];exact hS.rdB,?_,fun x e=>?_⟩
   ·rcases hS.1.2 with⟨e,_⟩|⟨g,aO,L,e,_,q1,_⟩
    ·cases e;exact Nat.le_refl _
    ·cases e;exact q1
   ·rcases hS.1.2 with⟨e2,_⟩|⟨g,aO,L,e2,_⟩
    ·cases e2;cases e
    ·cases e2;cases e;rfl
  ·obtain⟨rd,V,E,vi,ht⟩:=t2;exact⟨rd,V,E,vi,ht.below b4 (Nat.le_refl _)⟩
 have aJ:Hid (∀k,k<m->∀tb M H wr,ReI W F s d w f o H tb A B M (T k) (qB k) (z k) wr->Calls Tryz.prog 203 #[.pointer (some ⟨d,0,none⟩),.pointer (some ⟨H,0,none⟩),.string (Kv q k)] wr fun e X=>∃J K,e = .returned (.tuple #[.agg #[.string (q k),.int .u8 2,.int .i64 (p k:Nat),.slice J (u k).size K],.bool true])/\
   ∃Y,X.alloc (.cells #[.string (q k),.int .u8 2,.int .i64 (p k:Nat),.slice J (u k).size K] 141)=Y/\RowIs Y X.heap.size 141 [.string (q k),.int .u8 2,.int .i64 (p k:Nat),.slice J (u k).size K]/\
   Hid (Calls Tryz.prog 97 #[.pointer (some ⟨tb,0,none⟩),.agg #[.string (q k),.int .u8 2,.int .i64 (p k:Nat),.slice J (u k).size K]] Y fun e U=>e = .returned (.bool true)/\RowIs U X.heap.size 141 [.string (q k),.int .u8 2,.int .i64 (p k:Nat),.slice J (u k).size K]/\Hid (ReI W F s d w f o H tb A B M (T (k+1)) (qB (k+1)) (z (k+1)) U))):=fun k hk tb M H wr r=>by
  obtain⟨s2,s3,s4,s5,s6,sm,n,i1,i2,i3,i4,i5,i6,i7,i8,i9,aZ,a0,a1,a2,a3,a4,a5,a6⟩:=hE k hk;obtain⟨aa,r1,r2⟩:=r.rd;have ax:=r.fl;have bj:=r.fr.size;have aU:(Kv q k).size<=1000000:=by
   cases k with
   | zero=>exact Nat.zero_le _
   | succ k=>exact aD k (by omega)
  refine(ZoK wr F s d w f o (qB k) aa M r1 hD az H (by omega) (z k) s2 s3 s4 s5 s6 r.fd (am k (by omega)) (Kv q k) (q k) aU sm n (p k) i1 i2 (by omega) i4 i5 i6 i7 i8 i9 aZ a0 a1 a2 (u k) (by omega) a4 (PB k) (nBl (u k)) rfl a5 (hQ k hk)).mono ?_;rintro e X ⟨J,K,bd,rfl,p1,p2,p3,p4,p5,p6⟩;obtain⟨Y,eY,O,kY,sY,bY⟩:=De X [.string (q k),.int .u8 2,.int .i64 (p k:Nat),.slice J (u k).size K] 141;have aQ:=p5.size;have aX:=r.tl;obtain⟨G,I,C,ag,ak⟩:=r.ps;have ah:=ag.fr9 r1 r.fd h0 (by omega) p5;have ai:PS Y tb G I C:=by obtain⟨rd,V,E,vi,ht⟩:=ah;exact⟨rd,V,E,vi,ht.below bY (Nat.le_refl _)⟩
  obtain⟨hM,hN⟩:=hT k hk G I C ak;refine⟨J,K,rfl,Y,eY,O,?_⟩;refine(Znn Y tb G I C ai hM.ok hM.gl hM.il hM.ll (q k) hM.ps hM.lg hM.may (p k) i3 hM.fr J (u k).size K a3 (u k) (p3.kept (fun j hj _=>bY.block j hj)) (fun I1 I2=>hM.use I1 I2 J K)).mono ?_;rintro e U ⟨rfl,u1,I1,I2,C2,u2,u3,u4,u5,u6,u7⟩;have aj:=p1.below bY;have aq:=p2.below bY p1.lt.2.2;rw[<-aF k hk]at aj;rw[<-a6]at aq;refine⟨rfl,O.fr u1 (fun ⟨⟨t,R,hr,aY⟩,_⟩=>?_),⟨bd,aj.prog u1 (by omega),fun g hg=>(p6 g hg).elim (r2 g) (fun e => .inr (by omega))⟩,aq.prog aj u1,⟨_,I2,C2,u5,hN I1 I2 C2 J K u2 u3 u4 u6 u7⟩,?_,aX,ax⟩
  ·unfold RowIs at hr O;rw[O]at hr;cases hr;rcases aY with e|e|e|e<;>cases e
  ·refine((r.fr.then p5 (fun j hj e=>?_)).then (Fr.of_below (X:=fun _=>False) bY) (fun _ _ e=>e.elim)).then u1 (fun j hj ⟨_,hl⟩=>by omega);rcases e with e|e|e
   ·exact .inl e
   ·exact(r2 j e).elim (fun e => .inr (.inl e)) (fun e=>by omega)
   ·omega
 have aK:Hid (∀tb M H wr,ReI W F s d w f o H tb A B M (T m) (qB m) (z m) wr->Calls Tryz.prog 203 #[.pointer (some ⟨d,0,none⟩),.pointer (some ⟨H,0,none⟩),.string (Kv q m)] wr fun e X=>e = .returned (.tuple #[.agg #[.string ⟨#[]⟩,.int .u8 0,.int .i64 0,.slice none 0 0],.bool true])/\∃Y,X.alloc (.cells #[.string ⟨#[]⟩,.int .u8 0,.int .i64 0,.slice none 0 0] 141)=Y/\Y.cell? ⟨X.heap.size,1,none⟩=some (.int .u8 0)/\Hid (Zhl W F s d w f o A B (T m) (qB m) (.returned (.tuple #[.pointer (some ⟨tb,0,none⟩),.bool true])) Y)):=fun tb M H wr r=>by
  obtain⟨aa,r1,r2⟩:=r.rd;have ax:=r.fl;refine(ZlW wr F s d w f o (qB m) aa M r1 H (by omega) (z m) r.fd (am m (Nat.le_refl _)) aw (Kv q m)).mono ?_;rintro e X ⟨rfl,p1,p2,p3⟩;obtain⟨Y,eY,O,kY,sY,bY⟩:=De X [.string ⟨#[]⟩,.int .u8 0,.int .i64 0,.slice none 0 0] 141;obtain⟨G,I,C,ag,ak⟩:=r.ps;have ah:=ag.fr9 r1 r.fd h0 (by omega) (p3.mono (fun _ _ e => .inr (.inr e)));have ai:PS Y tb G I C:=by obtain⟨rd,V,E,vi,ht⟩:=ah;exact⟨rd,V,E,vi,ht.below bY (Nat.le_refl _)⟩
  refine⟨rfl,Y,eY,(O.cell 1).trans rfl,tb,aa,M,rfl,p1.below bY,⟨G,I,C,ai,ak⟩,(r.fr.then p3 (fun j hj e=>by omega)).then (Fr.of_below (X:=fun _=>False) bY) (fun _ _ e=>e.elim),r.tl⟩
 have ao:Hid (∀k tb M H wr,ReI W F s d w f o H tb A B M (T k) (qB k) (z k) wr->Kw H wr=(z k).size):=fun k tb M H wr r=>r.fd.len
 have aH:Hid (∀k,k<m->(z (k+1)).size<(z k).size):=fun k hk=>(hE k hk).dec
 have aI:=Db e1;have aM:=Db ab;have c0:=(x1.cell 0).trans (show _=some (Value.int .i64 (f:Nat)) from rfl);have c1:=(x1.cell 1).trans (show _=some (Value.int .u64 (o:Nat)) from rfl);have d0:=(an.cell 0).trans (show _=some (Value.int .i64 (f:Nat)) from rfl);have d1:=(an.cell 1).trans (show _=some (Value.int .u64 (o:Nat)) from rfl);obtain⟨a7,a8,a9,ba⟩:=aW;clear e1 x1 k1 s1 b1 h h1 hD az hg hE hQ hT aw am aD ar f1 an ae ab aC aR aS aT aE aF aG au;go_enter Tryz.func136,Tryz.ntmps136;go_upto_region 1 with fail;rw[show W.alloc (.cells #[.int .i64 (f:Nat),.int .u64 (o:Nat)] 175)=W1 from Da aI];go_upto_region 2 with fail;rw[show(W1.setCell ⟨d,2,none⟩ (.int .i64 (f:Nat))).setCell ⟨d,3,none⟩ (.int .u64 (o:Nat))=X1 from Da aM];clear c0 c1 a7 a8 a9 ba;go_upto_region 7 with(first|(go_at_call 202;refine(Da HG).mono ?_;rintro e X2 ⟨rfl,ap⟩)|(go_at_call 95;refine(Da ap).mono ?_;rintro e P ⟨tb,Q,Z,S,rfl,aP,X4,av,ad⟩;have aN:=Db av;clear av));rw[show P.alloc (.cells #[.slice Q Z S] 287)=X4 from Da aN];clear aP d0 d1 HG ap;go_wp2
 go_loopw [10] (fun i wr=>∃k:Nat,k<=m/\i = .string (Kv q k)/\Hid (ReI W F s d w f o P.heap.size tb A B (.slice Q Z S) (T k) (qB k) (z k) wr)) (fun _ wr=>Kw P.heap.size wr)
 case atStart=>exact⟨0,by omega,rfl,Da ad⟩
 case round=>
  obtain⟨k,hk,rfl,HI⟩:=hrel;have ay:=Da ao _ _ _ _ _ (Da HI);have HL:=Db ay;clear ay;by_cases aA:k<m
  ·have HC:=Db (Da aJ k aA _ _ _ _ (Da HI));obtain⟨ND,af⟩:∃N,N=(u k).size:=⟨_,rfl⟩;rw[<-af]at HC;have be:=Db af;clear af HI ad;go_upto_region 9 with(go_at_call 203;refine(Da HC).mono ?_;rintro e X ⟨J,K,rfl,Y,hY,O,HA⟩;have HY:=Db hY;clear hY);rw[show X.alloc (.cells #[.string (q k),.int .u8 2,.int .i64 (p k:Nat),.slice J ND K] 141)=Y from Da HY];have y0:=O.cell 0;have y1:=O.cell 1;have y2:=O.cell 2;have y3:=O.cell 3;clear O HC;go_wp2_with (go_at_call 97;refine(Da HA).mono ?_;rintro e U ⟨rfl,xU,HN⟩;have z0:=xU.cell 0;clear xU y0 y1 y2 y3);have aB:Kw P.heap.size U<Kw P.heap.size wr:=by
    have h1:=Da ao _ _ _ _ _ (Da HN);have h2:=Da HL;have h3:=Da aH k aA;omega
   have aL:=Db aB;clear aB
   go_roundw
   case rel=>exact⟨k+1,by omega,rfl,Da HN⟩
   case measure=>exact Da aL
  ·obtain rfl:k=m:=by omega
   have HC:=Db (Da aK _ _ _ _ (Da HI));clear HI ad;go_upto_region 9 with(go_at_call 203;refine(Da HC).mono ?_;rintro e X ⟨rfl,Y,hY,y1,HP⟩;have HY:=Db hY;clear hY);rw[show X.alloc (.cells #[.string ⟨#[]⟩,.int .u8 0,.int .i64 0,.slice none 0 0] 141)=Y from Da HY];go_wp2;exact bodyPost_ret (v := .tuple #[.pointer (some ⟨tb,0,none⟩),.bool true]) (by simp[results,Tryz.results136,go_sem]) rfl (Da HP)
theorem ZiR(W:World)(b h a:Nat)(z j B A:Value)(es:LI)(f:RowIs W b 179 [z,j,.int .i64 (a:Nat),B,A])(n:Sl W 350 2 j es.length (Du es))(q:Uc es)(ag:a<1536)(tk:Nat->Bool)(L:LVa)(l:RowIs W h 197 L)(m:∀p,p<1536->L[4+p]?=some (.bool (tk p)))
  (x:512<=DY (Dj es) 96) (o:∀p,a<p->p/16=a/16->tk p=false):
  Calls Tryz.prog 137 #[.pointer (some ⟨b,0,none⟩),.pointer (some ⟨h,4,none⟩)] W fun e w'=>e = .returned (.bool true)/\Below W.heap.size W w':=by
 have c2:=(f.cell 2).trans (show _=some (Value.int .i64 (a:Nat)) from rfl);obtain⟨N,d⟩:∃N,N=DY (Dj es) 96:=⟨_,rfl⟩;have u:Hid (Calls Tryz.prog 132 #[.pointer (some ⟨b,1,none⟩)] W fun e w'=>e = .returned (.int .i64 (N:Nat))/\Below W.heap.size W w'):=by
  rw[d];exact ZeH W b 1 j es ((f.cell 1).trans rfl) n q
 have v:Hid (∀p,a<p->p/16=a/16->W.cell? ⟨h,4+p,none⟩=some (.bool false)):=fun p c k=>(l.cell _).trans (by rw[m p (by omega),o p c k])
 have aa:(512:Int)<=(N:Int):=by omega
 have ab:N<=1536:=by rw[d];exact U0 _ _
 clear d x o m l q n f;go_enter Tryz.func137,Tryz.ntmps137;go_wp2
 go_loopw [5] (fun i wr=>∃p:Nat,a<p/\p<=(a/16+1)*16/\i = .int .i64 (p:Nat)/\wr=W) (fun i _=>3000-(intOf i).toNat)
 case atStart=>exact⟨a+1,by omega,by omega,by go_num,rfl⟩
 case round=>
  obtain⟨p,c,k,rfl,rfl⟩:=hrel;obtain⟨r,s⟩:∃r,r=p%16:=⟨_,rfl⟩;have t:(p:Int).tmod 16=(r:Int):=by rw[Int.tmod_eq_emod_of_nonneg (by omega)];omega
  by_cases g:r=0
  ·have af:(p:Int).tmod 16=0:=by rw[t,g];rfl
   clear t s g;go_wp2_with (go_at_call 132;refine(Da u).mono ?_;rintro e w' ⟨rfl,w⟩);go_ret;exact⟨by simp,w⟩
  ·have hc:=Da v p c (by omega);have ac:(p:Int)<1536:=by omega
   have ad:¬(r:Int)=0:=by omega
   have ae:((r:Int)==0)=false:=by simpa using g
   have y:p+1<=(a/16+1)*16:=by omega
   clear s;go_wp2;exact⟨⟨p+1,by omega,y,by go_num,trivial⟩,by simp[intOf];omega⟩
theorem ZiC{w:World}{a b:Nat}{O:Value}{s:KS}{M P vw L:Value}{ps:LB}{ep:List Int}{tb J:Nat}{V:NV}{B:NS}{N:Value}{G:Gh}{I:LF}{A:IB}{o:LY->List Ek}{F:NV}{C:NB}
  (h:StK w a b O s M P vw L ps ep) (x:KsOk s) (v:∃j,j<96/\Dj s.es j<=0) (p:TrW w tb J V B N G I A o F C) (i:Stands s C (DI o)):
  Calls Tryz.prog 138 #[.pointer (some ⟨a,0,none⟩),.pointer (some ⟨tb,0,none⟩)] w fun e w'=>e = .returned (.bool true)/\Below w.heap.size w w':=by
 have H:w.cell? ⟨a,0,none⟩=some (.pointer (some ⟨b,0,none⟩)):=(h.st.row.cell 0).trans rfl;have q:w.cell? ⟨a,2,none⟩=some (.int .i64 (s.tp:Nat)):=(h.st.row.cell 2).trans rfl;have r:w.cell? ⟨a,3,none⟩=some (.int .u64 (s.tx:Nat)):=(h.st.row.cell 3).trans rfl;obtain⟨m,f⟩:∃t,t=s.tp:=⟨_,rfl⟩;obtain⟨n,g⟩:∃t,t=s.tx:=⟨_,rfl⟩;rw[<-f]at q;rw[<-g]at r;have E:Hid (Calls Tryz.prog 131 #[.pointer (some ⟨b,0,none⟩),.pointer (some ⟨a,1,none⟩),.pointer (some ⟨tb,0,none⟩),.bool false] w.drew fun e X=>∃pb,e = .returned (.pointer (some ⟨pb,0,none⟩))/\(X.cell? ⟨a,0,none⟩=some (.pointer (some ⟨b,0,none⟩))/\X.cell? ⟨a,2,none⟩=some (.int .i64 (m:Nat))/\X.cell? ⟨a,3,none⟩=some (.int .u64 (n:Nat)))/\X.cell? ⟨pb,101,none⟩=some (.int .i64 (m:Nat))/\X.cell? ⟨pb,102,none⟩=some (.int .u64 (n:Nat))/\Hid (Below w.heap.size w X)):=by
  have z:Below w.heap.size w w.drew:=(Below.refl _ _).drew;refine((h.below z).newPlan x v (p.below z) false).mono ?_;rintro e X ⟨pb,O',rfl,ae,aa,⟨va,es,vp,l,_⟩,d,hO⟩;have y:Below w.heap.size w X:=⟨d.os,d.tape,d.output,d.size,d.block⟩;have k:=(h.below y).st.row;rw[i.tp,i.tx]at l;exact⟨pb,rfl,⟨(k.cell 0).trans rfl,by rw[f];exact(k.cell 2).trans rfl,by rw[g];exact(k.cell 3).trans rfl⟩,by rw[f];exact(l.row.cell 101).trans (Jz _ _ _ _ _ _ _ _ _ _ 3),by rw[g];exact(l.row.cell 102).trans (Jz _ _ _ _ _ _ _ _ _ _ 4),y⟩
 clear h x v p i f g;go_enter Tryz.func138,Tryz.ntmps138;go_upto_region 1 with fail;refine wp_region_held_drew (S:=fun X=>X.cell? ⟨a,0,none⟩=some (.pointer (some ⟨b,0,none⟩))/\X.cell? ⟨a,2,none⟩=some (.int .i64 (m:Nat))/\X.cell? ⟨a,3,none⟩=some (.int .u64 (n:Nat))) (by kernel_rfl) ⟨H,q,r⟩ (fun ad=>?_);refine tk 0 ?_;try simp only[pE];refine tk 1 ?_;try simp only[pE];refine tk 2 ?_;try simp only[pE];refine tk 3 ?_;try simp only[pE];refine tk 4 ?_;try simp only[pE];refine tk 5 ?_;try simp only[pE];refine tk 6 ?_;try simp only[pE];refine tk 7 ?_;try simp only[pE];refine tk 13 ?_;try simp only[pE];refine tk 14 ?_;try simp only[pE];refine tk 15 ?_;try simp only[pE];refine tk 16 ?_;try simp only[pE];refine tk 17 ?_;try simp only[pE];refine rk 8 (fun K c=>?_);go_simp;go_at_call 131;refine(Da E).mono ?_;rintro e X ⟨pb,rfl,u,p1,p2,D⟩;go_wp2_with fail;refine c.out _ _ u (fun ac=>?_);clear c K
 (try simp only[pE])
 refine tk 9 ?_;try simp only[pE];refine tk 10 ?_;try simp only[pE];refine tk 11 ?_;try simp only[pE];refine rk 12 (fun K c=>?_);go_simp;refine c.out _ _ u (fun ab=>?_);clear c K
 (try simp only[pE])
 refine tk 18 ?_;try simp only[pE];refine tk 19 ?_;try simp only[pE];refine wpAnyH_done (by kernel_rfl) ?_ _;go_wp2;go_ret;exact⟨rfl,Da D⟩
def rdZ(v:Value):LVa:=v :: .slice none 0 0 :: .int .i64 0 :: .int .u64 0::(List.replicate 1536 (.bool false)++(List.replicate 8 (.int .i64 0)++[.slice none 0 0]))
theorem Zov:(Tryz.prog.info? 197).map (fun i=>(i.zero,i.size))=some (some (.agg (rdZ (.pointer none)).toArray),1549):=by kernel_rfl
theorem ZnT:∀w,(zeroValue 197).run Tryz.prog w = .ok (.agg (rdZ (.pointer none)).toArray) w:=(zero_of_info Zov).1
theorem Zn1:(Tryz.prog.info? 197).map (·.size)=some 1549:=by kernel_rfl
theorem Znh(a:Nat):Tryz.prog.built 197 [(0,.pointer (some ⟨a,0,none⟩))]=some (rdZ (.pointer (some ⟨a,0,none⟩))).toArray:=by kernel_rfl
theorem Zgc(v:Value):(rdZ v).length=1549:=by simp[rdZ]
theorem Zn7(b:Nat):(rdZ (.pointer (some ⟨b,0,none⟩))).toArray.all (·.oneCell')=true:=by
 refine all_oneCell_toArray (fun u a=>?_);unfold rdZ at a;rcases List.mem_cons.1 a with rfl|a
 ·rfl
 rcases List.mem_cons.1 a with rfl|a
 ·rfl
 rcases List.mem_cons.1 a with rfl|a
 ·rfl
 rcases List.mem_cons.1 a with rfl|a
 ·rfl
 rcases List.mem_append.1 a with a|a
 ·rw[List.eq_of_mem_replicate a];rfl
 rcases List.mem_append.1 a with a|a
 ·rw[List.eq_of_mem_replicate a];rfl
 ·rw[List.mem_singleton.1 a];rfl
theorem rdZ_tk(v:Value)(p:Nat)(h:p<1536):(rdZ v)[4+p]?=some (.bool false):=by
 unfold rdZ;rw[Nat.add_comm 4 p];show(List.replicate 1536 (Value.bool false)++_)[p]? = _;rw[List.getElem?_append_left (by rw[List.length_replicate];exact h),List.getElem?_replicate,if_pos h]
theorem rdZ_tn(v:Value)(b:Nat)(h:b<8):(rdZ v)[1540+b]?=some (.int .i64 0):=by
 unfold rdZ;rw[show 1540+b=(1536+b)+4 by omega];show(List.replicate 1536 (Value.bool false)++_)[1536+b]? = _;rw[List.getElem?_append_right (by rw[List.length_replicate];omega),List.length_replicate,show 1536+b-1536=b by omega,List.getElem?_append_left (by rw[List.length_replicate];exact h),List.getElem?_replicate,if_pos h]
theorem Zn6(v:Value):(rdZ v)[1548]?=some (.slice none 0 0):=by
 obtain⟨i,hi⟩:∃i,i=1544:=⟨_,rfl⟩;rw[show 1548=i+4 by omega];unfold rdZ;show(List.replicate 1536 (Value.bool false)++_)[i]? = _;rw[List.getElem?_append_right (by rw[List.length_replicate];omega),List.length_replicate,List.getElem?_append_right (by rw[List.length_replicate];omega),List.length_replicate,show i-1536-8=0 by omega]
 rfl
def J7:RdQ:=⟨[],fun _=>false,fun _=>0,⟨#[]⟩⟩
theorem RdS.start{W:World}{d g:Nat}(m:RowIs W d 197 (rdZ (.pointer (some ⟨g,0,none⟩)))){f:World}{a:Nat}(c:Below a f W)(i:a<=f.heap.size)(h:a<=d):RdS f a d g 0 0 J7 (.slice none 0 0) (.slice none 0 0) W:=
 ⟨⟨_,m,rfl,rfl,rfl,rfl,fun p l=>rdZ_tk _ p l,fun b c=>rdZ_tn _ b c,Zn6 _⟩,⟨[],⟨fun j k x y _ n=>by simp at n,rfl,fun x=>by simp[J7]⟩,rfl,.inl ⟨rfl,rfl⟩⟩,SlB.nil _ _,fun k e=>by simp[Own,Value.ownBlock]at e,fun e=>by simp[Own,Value.ownBlock]at e,c,h,i⟩
theorem Good.start(N:Nat->Nat)(P:Nat->Nat->Nat)(a:Nat->List UInt8)(B c:Nat):Good N P a B c J7:=
 ⟨fun y f=>(by cases f),fun b k _ d=>(by cases d),fun p e=>(by cases e),fun b _=>Nat.zero_le _,rfl,by
  show 0=JS (fun _=>0) (B+1);rw[ZcV,Nat.zero_mul]⟩
theorem TnI.start(N:Nat->Nat)(b:Nat):TnI N b 0 J7:=⟨rfl,fun b' _=>by show 0=_;simp⟩
def plE(E:Env)(r:Nat):Nat:=(E.at r).getD 0
theorem Env.put_ps_len(E:Env)(st:Pl)(r:Nat)(b:By):st.ps.length<=(E.put st r b).2.ps.length:=by
 unfold Env.put
 split
 ·exact Nat.le_refl _
 ·show st.ps.length<=(st.ps++[_]).length;rw[List.length_append];omega
theorem Env.puts_ps_len(E:Env)(R:Nat->Nat)(B:NB):∀(st:Pl) (i:Nat) (xs:List Nat),st.ps.length<=(E.puts R B st i xs).ps.length
 | _,_,[]=>Nat.le_refl _
 | st,i,x::xs=>Nat.le_trans (E.put_ps_len st (R i) (B x)) (Env.puts_ps_len E R B _ (i+1) xs)
theorem Env.put_stays{E:Env}{st:Pl}{r:Nat}{b:By}(h:(E.put st r b).2.ps.length<=st.ps.length):(E.put st r b).1=plE E r/\E.at r=some (plE E r)/\E.D[plE E r]?=some b/\(E.put st r b).2.ps=st.ps:=by
 cases hs:E.stay r b with
 | none=>
  have a:(E.put st r b).2.ps=st.ps++[(DK E.nd 96 st.hd%1536,b)]:=by unfold Env.put;rw[hs]
  rw[a,List.length_append]at h;simp at h;omega
 | some q=>
  have a:E.put st r b=(q,⟨st.hd,st.puts++[(r,q)],st.ps⟩):=by unfold Env.put;rw[hs]
  unfold Env.stay at hs
  split at hs
  ·rename_i q' c
   split at hs
   ·rename_i d
    cases hs
    have e:plE E r=q:=by unfold plE;rw[c];rfl
    rw[a,e];exact⟨rfl,c,d.1,rfl⟩
   ·cases hs
  ·cases hs
theorem Env.puts_stays{E:Env}{R:Nat->Nat}{B:NB}{st:Pl}:∀(n:Nat),(E.puts R B st 0 (List.range n)).ps.length<=st.ps.length->
  BL (JA E R B st 0 (List.range n))=DN (fun k=>DU (plE E (R k)) (Dp (B k))) n/\(E.puts R B st 0 (List.range n)).ps=st.ps/\(E.puts R B st 0 (List.range n)).puts=st.puts++(List.range n).map (fun k=>(R k,plE E (R k)))/\∀k,k<n->E.at (R k)=some (plE E (R k))/\E.D[plE E (R k)]?=some (B k)
 | 0,_=>⟨rfl,rfl,by simp[Env.puts],fun k d=>by omega⟩
 | n+1,h=>by
  rw[List.range_succ]at h ⊢;have e:=Env.puts_snoc E R B st 0 (List.range n) n;rw[Nat.zero_add,List.length_range]at e;rw[e]at h;have h1:=E.put_ps_len (E.puts R B st 0 (List.range n)) (R n) (B n);have h2:=Env.puts_ps_len E R B st 0 (List.range n);obtain⟨g,i,j,l⟩:=Env.puts_stays (E:=E) (R:=R) (B:=B) (st:=st) n (by omega);obtain⟨c,m,o,p⟩:=Env.put_stays (E:=E) (st:=E.puts R B st 0 (List.range n)) (r:=R n) (b:=B n) (by omega);have a:=ZcZ E R B st 0 (List.range n) n;rw[Nat.zero_add,List.length_range]at a;refine⟨?_,?_,?_,fun k d=>?_⟩
  ·rw[a,Jb,g,Zjb,c];rfl
  ·rw[e,p,i]
  ·rw[e,Env.put_puts,j,c,List.map_append,List.append_assoc];rfl
  ·by_cases f:k=n
   ·subst f;exact⟨m,o⟩
   ·exact l k (by omega)
def kkR(b:Nat):UInt8:=if b=0 then 3 else 2
def szR(b:Nat):Nat:=if b=0 then 63 else 60
def rwR(E:Env)(t:By):NB
 | 0=>t
 | b+1=>⟨(DN (fun k=>DU (plE E (Dt b k)) (Dp (Dv (kkR b) (rwR E t b) (szR b) k))) (((rwR E t b).size+szR b-1)/szR b)).toArray⟩
def nR(E:Env)(t:By)(b:Nat):Nat:=((rwR E t b).size+szR b-1)/szR b
theorem QY(E:Env)(t:By)(b:Nat):BL (rwR E t (b+1))=DN (fun k=>DU (plE E (Dt b k)) (Dp (Dv (kkR b) (rwR E t b) (szR b) k))) (nR E t b):=by
 show BL ⟨(DN _ _).toArray⟩=_;unfold BL nR;simp
theorem Q9(E:Env)(t:By)(b:Nat):(rwR E t (b+1)).size=10*nR E t b:=by
 rw[<-DW,QY,KK (fun k=>J4 _ _)]
def Ut(E:Env)(t:By)(b:Nat):Prop:=∀k,k<nR E t b->E.at (Dt b k)=some (plE E (Dt b k))/\E.D[plE E (Dt b k)]?=some (Dv (kkR b) (rwR E t b) (szR b) k)
theorem Zh0(E:Env)(d:Nat):∀(b:Nat) (st:Pl) (s:By),st.ps.length<=(DF E d b st s).2.ps.length:=by
 induction d with
 | zero=>exact fun _ _ _=>Nat.le_refl _
 | succ d ih=>
  intro b st s;unfold DF
  split
  ·exact Nat.le_trans (Env.puts_ps_len E _ _ _ _ _) (ih _ _ _)
  ·exact Nat.le_refl _
theorem ZmY(E:Env)(t:By)(d:Nat):∀(b:Nat) (st:Pl),(DF E d (b+1) st (rwR E t (b+1))).2.ps.length<=st.ps.length->(rwR E t (b+1)).size<=10*6 ^ d->1<=nR E t b->
  ∃B,b<=B/\B<=b+d/\nR E t B=1/\(DF E d (b+1) st (rwR E t (b+1))).1=rwR E t (B+1)/\(∀a,b<a->a<=B->Ut E t a)/\(∀a,b<=a->a<B->1<nR E t a)/\∀y,y∈(DF E d (b+1) st (rwR E t (b+1))).2.puts↔y∈st.puts\/∃a k,b<a/\a<=B/\k<nR E t a/\y=(Dt a k,plE E (Dt a k)):=by
 induction d with
 | zero=>
  intro b st _ n w;have:=Q9 E t b;rw[Nat.pow_zero]at n;exact⟨b,Nat.le_refl _,Nat.le_refl _,by omega,rfl,fun a f c=>by omega,fun a f c=>by omega,fun y=>⟨.inl,fun e=>e.elim id (fun ⟨a,k,f,c,_⟩=>by omega)⟩⟩
 | succ d ih=>
  intro b st h n w;have aa:=Q9 E t b;unfold DF at h ⊢;by_cases s:10<(rwR E t (b+1)).size
  ·rw[if_pos s]at h ⊢;have g:nR E t (b+1)=((rwR E t (b+1)).size+60-1)/60:=by unfold nR szR;rw[if_neg (by omega)]
   have C:(Dy E 2 60 (b+1) st (rwR E t (b+1))).2.ps.length<=st.ps.length:=Nat.le_trans (Zh0 E d _ _ _) h;have q:∀k,Dd (2:UInt8).toNat (b+1) k=Dt (b+1) k:=fun k=>by unfold Dt;rw[if_neg (by omega)];rfl
   obtain⟨G,H,I,J⟩:=Env.puts_stays (E:=E) (R:=Dd (2:UInt8).toNat (b+1)) (B:=Dv 2 (rwR E t (b+1)) 60) (st:=st) (((rwR E t (b+1)).size+60-1)/60) C;have r:kkR (b+1)=2:=by unfold kkR;rw[if_neg (by omega)]
   have u:szR (b+1)=60:=by unfold szR;rw[if_neg (by omega)]
   have v:(Dy E 2 60 (b+1) st (rwR E t (b+1))).1=rwR E t (b+2):=by
    refine KQ ?_;rw[QY,g,r,u];exact G
   have x:Ut E t (b+1):=fun k l=>by
    rw[g]at l;obtain⟨o,p⟩:=J k l;rw[r,u];rw[q k]at o p;exact⟨o,p⟩
   rw[v]at h ⊢;have D:=Q9 E t (b+1);have F:(rwR E t (b+2)).size<=10*6 ^ d:=by
    rw[D,g];rw[Nat.pow_succ]at n;generalize 6 ^ d=m at n ⊢
    omega
   obtain⟨B,o,p,K,L,M,N,O⟩:=ih (b+1) _ (by
    have A:(Dy E 2 60 (b+1) st (rwR E t (b+1))).2.ps=st.ps:=H;rw[A];exact h) F (by omega)
   refine⟨B,by omega,by omega,K,L,fun a f c=>?_,fun a f c=>?_,fun y=>?_⟩
   ·by_cases e:a=b+1
    ·rw[e];exact x
    ·exact M a (by omega) c
   ·by_cases e:a=b
    ·rw[e];omega
    ·exact N a (by omega) c
   ·have z:(Dy E 2 60 (b+1) st (rwR E t (b+1))).2.puts=st.puts++(List.range (((rwR E t (b+1)).size+60-1)/60)).map (fun k=>(Dt (b+1) k,plE E (Dt (b+1) k))):=by
     refine Eq.trans I ?_;simp only[q]
    refine(O y).trans ?_;rw[z,List.mem_append];constructor
    ·rintro((e|e)|⟨a,k,f,c,i,j⟩)
     ·exact .inl e
     ·obtain⟨k,l,rfl⟩:=List.mem_map.1 e;exact .inr ⟨b+1,k,by omega,o,by rw[g];exact List.mem_range.1 l,rfl⟩
     ·exact .inr ⟨a,k,by omega,c,i,j⟩
    ·rintro(e|⟨a,k,f,c,i,j⟩)
     ·exact .inl (.inl e)
     ·by_cases e:a=b+1
      ·subst e;exact .inl (.inr (List.mem_map.2 ⟨k,List.mem_range.2 (by rw[<-g];exact i),j.symm⟩))
      ·exact .inr ⟨a,k,by omega,c,i,j⟩
  ·rw[if_neg s]at h ⊢;exact⟨b,Nat.le_refl _,by omega,by omega,rfl,fun a f c=>by omega,fun a f c=>by omega,fun y=>⟨.inl,fun e=>e.elim id (fun ⟨a,k,f,c,_⟩=>by omega)⟩⟩
def J5(E:Env)(C:NB)(last:By)(x:It):By:=
 Ds last (jn x.ns) 2++Do last (jn x.ns)++⟨#[UInt8.ofNat x.f]⟩++Ja (C x.f).size 2++⟨(DN (fun k=>DU (plE E (Dd 4 x.f k)) (Dp (dtB (C x.f) k))) (nBl (C x.f))).toArray⟩
def DX(E:Env)(C:NB):By->List It->By
 | _,[]=>⟨#[]⟩
 | last,x::xs=>J5 E C last x++DX E C (jn x.ns) xs
theorem ZfG(E:Env)(C:NB)(a:By)(st:Pl)(x:It):st.ps.length<=(Dx E C a st x).2.ps.length:=by
 unfold Dx
 split
 ·exact Nat.le_refl _
 ·split
  ·exact Nat.le_refl _
  ·exact Env.puts_ps_len E _ _ _ _ _
theorem Zfc(E:Env)(C:NB):∀(last:By) (st:Pl) (L:List It),st.ps.length<=(Dw E C last st L).2.ps.length
 | _,_,[]=>Nat.le_refl _
 | last,st,x::xs=>Nat.le_trans (ZfG E C last st x) (Zfc E C _ _ xs)
theorem Kx(l:List UInt8):BL ⟨l.toArray⟩=l:=by unfold BL;simp
theorem Zhz(E:Env)(C:NB):∀(last:By) (st:Pl) (L:List It),(∀x∈L,x.k=2)->(Dw E C last st L).2.ps.length<=st.ps.length->
  (Dw E C last st L).1=DX E C last L/\(Dw E C last st L).2.ps=st.ps/\(∀x∈L,∀k,k<nBl (C x.f)->E.at (Dd 4 x.f k)=some (plE E (Dd 4 x.f k))/\E.D[plE E (Dd 4 x.f k)]?=some (dtB (C x.f) k))/\
  ∀y,y∈(Dw E C last st L).2.puts↔y∈st.puts\/∃x∈L,∃k,k<nBl (C x.f)/\y=(Dd 4 x.f k,plE E (Dd 4 x.f k))
 | last,st,[],_,_=>⟨rfl,rfl,fun x i=>(by cases i),fun y=>⟨.inl,fun e=>e.elim id (fun ⟨x,i,_⟩=>by cases i)⟩⟩
 | last,st,x::xs,hk,h=>by
  have i:=hk x (by simp);have c:Dx E C last st x=(Ds last (jn x.ns) 2++Do last (jn x.ns)++⟨#[UInt8.ofNat x.f]⟩++Ja (C x.f).size 2++JI E x.f (C x.f) st 0 (List.range (nBl (C x.f))),E.puts (Dd 4 x.f) (dtB (C x.f)) st 0 (List.range (nBl (C x.f)))):=by
   unfold Dx;rw[if_neg (by omega),if_neg (by omega)]
  have o:(Dw E C (jn x.ns) (Dx E C last st x).2 xs).2.ps.length<=st.ps.length:=h;have t:=Zfc E C (jn x.ns) (Dx E C last st x).2 xs;have m2:=ZfG E C last st x;have u:(E.puts (Dd 4 x.f) (dtB (C x.f)) st 0 (List.range (nBl (C x.f)))).ps.length<=st.ps.length:=by
   have:(Dx E C last st x).2.ps.length<=st.ps.length:=Nat.le_trans t o;rw[c]at this;exact this
  obtain⟨v,w,A,D⟩:=Env.puts_stays (E:=E) (R:=Dd 4 x.f) (B:=dtB (C x.f)) (st:=st) (nBl (C x.f)) u;obtain⟨p,q,r,s⟩:=Zhz E C (jn x.ns) (Dx E C last st x).2 xs (fun y a=>hk y (List.mem_cons_of_mem _ a)) (by omega);have j:(Dx E C last st x).2.ps=st.ps:=by rw[c];exact w
  have l:(Dx E C last st x).1=J5 E C last x:=by
   rw[c,U7];unfold J5;show _++JA E (Dd 4 x.f) (dtB (C x.f)) st 0 (List.range (nBl (C x.f)))=_;have n:JA E (Dd 4 x.f) (dtB (C x.f)) st 0 (List.range (nBl (C x.f)))=⟨(DN (fun k=>DU (plE E (Dd 4 x.f k)) (Dp (dtB (C x.f) k))) (nBl (C x.f))).toArray⟩:=KQ (by rw[v,Kx]);rw[n]
  have m:(Dx E C last st x).2.puts=st.puts++(List.range (nBl (C x.f))).map (fun k=>(Dd 4 x.f k,plE E (Dd 4 x.f k))):=by rw[c];exact A
  refine⟨?_,?_,fun y a k g=>?_,fun y=>?_⟩
  ·show(Dx E C last st x).1++(Dw E C (jn x.ns) (Dx E C last st x).2 xs).1=_;rw[l,p];rfl
  ·show(Dw E C (jn x.ns) (Dx E C last st x).2 xs).2.ps=_;rw[q,j]
  ·rcases List.mem_cons.1 a with rfl|a
   ·exact D k g
   ·exact r y a k g
  ·refine(s y).trans ?_;rw[m,List.mem_append];constructor
   ·rintro((e|e)|⟨z,b,k,d,f⟩)
    ·exact .inl e
    ·obtain⟨k,g,rfl⟩:=List.mem_map.1 e;exact .inr ⟨x,by simp,k,List.mem_range.1 g,rfl⟩
    ·exact .inr ⟨z,List.mem_cons_of_mem _ b,k,d,f⟩
   ·rintro(e|⟨z,b,k,d,f⟩)
    ·exact .inl (.inl e)
    ·rcases List.mem_cons.1 b with rfl|b
     ·exact .inl (.inr (List.mem_map.2 ⟨k,List.mem_range.2 d,f.symm⟩))
     ·exact .inr ⟨z,b,k,d,f⟩
structure OnD(s:KS)(C:NB)(L:List It)(t:By)(B:Nat):Prop where
 rows:Rows s.D (rwR (Dh s.es false s.tp s.D) t) (nR (Dh s.es false s.tp s.D) t) (fun b k=>plE (Dh s.es false s.tp s.D) (Dt b k)) (fun b k=>Dp (Dv (kkR b) (rwR (Dh s.es false s.tp s.D) t b) (szR b) k)) B
 tab:t=DX (Dh s.es false s.tp s.D) C ⟨#[]⟩ L++⟨#[0]⟩
 dat:∀x∈L,∀k,k<nBl (C x.f)->16<=plE (Dh s.es false s.tp s.D) (Dd 4 x.f k)/\plE (Dh s.es false s.tp s.D) (Dd 4 x.f k)<1536/\s.D[plE (Dh s.es false s.tp s.D) (Dd 4 x.f k)]?=some (dtB (C x.f) k)
 es:∀x,x∈s.es↔(∃z∈L,∃k,k<nBl (C z.f)/\x=(((Dd 4 z.f k:Nat):Int),((plE (Dh s.es false s.tp s.D) (Dd 4 z.f k):Nat):Int)))\/∃b k,b<=B/\k<nR (Dh s.es false s.tp s.D) t b/\x=(((Dt b k:Nat):Int),((plE (Dh s.es false s.tp s.D) (Dt b k):Nat):Int))
 tp:s.tp=plE (Dh s.es false s.tp s.D) (Dt B 0)
 tx:s.tx=Dp (Dv (kkR B) (rwR (Dh s.es false s.tp s.D) t B) (szR B) 0)
 ts:t.size<=30601
structure InvW(s:KS):Prop where
 ok:KsOk s
 inj:∀x∈s.es,∀y∈s.es,x.2=y.2->x=y
 lo:∀x∈s.es,16<=x.2.toNat
theorem InvS.w{s:KS}(h:InvS s):InvW s:=⟨h.ok,h.inj,h.lo⟩
structure OnP(s:KS)(C:NB)(L:List It)(t:By)(B:Nat):Prop where
 rows:Rows s.D (rwR (Dh s.es false s.tp s.D) t) (nR (Dh s.es false s.tp s.D) t) (fun b k=>plE (Dh s.es false s.tp s.D) (Dt b k)) (fun b k=>Dp (Dv (kkR b) (rwR (Dh s.es false s.tp s.D) t b) (szR b) k)) B
 tab:t=DX (Dh s.es false s.tp s.D) C ⟨#[]⟩ L++⟨#[0]⟩
 dat:∀x∈L,∀k,k<nBl (C x.f)->(Dh s.es false s.tp s.D).at (Dd 4 x.f k)=some (plE (Dh s.es false s.tp s.D) (Dd 4 x.f k))/\16<=plE (Dh s.es false s.tp s.D) (Dd 4 x.f k)/\plE (Dh s.es false s.tp s.D) (Dd 4 x.f k)<1536/\s.D[plE (Dh s.es false s.tp s.D) (Dd 4 x.f k)]?=some (dtB (C x.f) k)
 on:∀b,b<=B->Ut (Dh s.es false s.tp s.D) t b
 puts:∀y,y∈(Dq s false C L).2.puts↔(∃z∈L,∃k,k<nBl (C z.f)/\y=(Dd 4 z.f k,plE (Dh s.es false s.tp s.D) (Dd 4 z.f k)))\/∃b k,b<=B/\k<nR (Dh s.es false s.tp s.D) t b/\y=(Dt b k,plE (Dh s.es false s.tp s.D) (Dt b k))
 tp:rdP (Dq s false C L).1=plE (Dh s.es false s.tp s.D) (Dt B 0)
 tx:rdX (Dq s false C L).1=Dp (Dv (kkR B) (rwR (Dh s.es false s.tp s.D) t B) (szR B) 0)
 ts:t.size<=30601
 mn:∀b,b<B->1<nR (Dh s.es false s.tp s.D) t b
theorem Stays.on{s:KS}(u:InvW s){C:NB}{L:List It}(A:ItOk C L)(hk:∀x∈L,x.k=2)(D:(Dq s false C L).2.ps=[]):∃t B,OnP s C L t B:=by
 obtain⟨E,l⟩:∃E,E=Dh s.es false s.tp s.D:=⟨_,rfl⟩;have p:=u.ok.env false;have ap:=u.ok.tp;rw[<-l]at p;obtain⟨T,v⟩:∃T,T=Dw E C ⟨#[]⟩ ⟨s.tp+1,[],[]⟩ L:=⟨_,rfl⟩;obtain⟨t1,t2,t3,t4,t5⟩:=Qc E C ⟨#[]⟩ ⟨s.tp+1,[],[]⟩ L (fun z N=>⟨A.path z N,A.size z N,A.kind z N⟩);rw[<-v]at t1 t2 t3 t4 t5;have al:=A.len;obtain⟨t,M⟩:∃t:By,t=T.1++⟨#[0]⟩:=⟨_,rfl⟩;have aq:t.size=T.1.size+1:=by rw[M];exact ByteArray.size_append
 obtain⟨R,J⟩:∃R,R=Dy E 3 63 0 T.2 t:=⟨_,rfl⟩;have o:Dq s false C L=DF E 8 1 R.2 R.1:=by
  rw[J,M,v,l];rfl
 rw[o]at D;have Y:=Zh0 E 8 1 R.2 R.1;rw[D,List.length_nil]at Y;have Z:=Env.puts_ps_len E (Dd (3:UInt8).toNat 0) (Dv 3 t 63) T.2 0 (List.range ((t.size+63-1)/63));have I:R.2=E.puts (Dd (3:UInt8).toNat 0) (Dv 3 t 63) T.2 0 (List.range ((t.size+63-1)/63)):=by rw[J];rfl
 rw[<-I]at Z;obtain⟨p1,p2,p3,p4⟩:=Env.puts_stays (E:=E) (R:=Dd (3:UInt8).toNat 0) (B:=Dv 3 t 63) (st:=T.2) ((t.size+63-1)/63) (by rw[<-I];omega);have ab:T.2.ps.length<=0:=by omega
 obtain⟨W,i2,G,X⟩:=Zhz E C ⟨#[]⟩ ⟨s.tp+1,[],[]⟩ L hk (by rw[<-v];exact ab);rw[<-v]at W i2 X;have ao:∀k,Dd (3:UInt8).toNat 0 k=Dt 0 k:=fun k=>rfl
 have am:nR E t 0=(t.size+63-1)/63:=rfl;have O:R.1=rwR E t 1:=by
  rw[J];refine KQ ?_;rw[QY];exact p1
 rw[O]at D;rw[O]at o;have ag:=Q9 E t 0;have ak:(6:Nat) ^ 8=1679616:=by decide
 obtain⟨B,q1,q2,q3,q4,q5,q6,q7⟩:=ZmY E t 8 0 R.2 (by rw[D];exact Nat.zero_le _) (by omega) (by omega);have m:∀b,nR E t (b+1)=(10*nR E t b+60-1)/60:=fun b=>by
  show((rwR E t (b+1)).size+szR (b+1)-1)/szR (b+1)=_;rw[Q9,show szR (b+1)=60 by unfold szR;rw[if_neg (by omega)]]
 have w:∀b,nR E t b<=486:=fun b=>by
  induction b with
  | zero=>omega
  | succ b ih=>have:=m b;omega
 have an:nR E t 4<=1:=by
  have P:=m 0;have Q:=m 1;have g3:=m 2;have g4:=m 3;have g0:=w 0;clear t1 t2 t3 t4 t5 Y Z ag;rw[show 0+1=1 from rfl]at P;rw[show 1+1=2 from rfl]at Q;rw[show 2+1=3 from rfl]at g3;rw[show 3+1=4 from rfl]at g4;omega
 have aa:B<8:=by
  rcases Nat.lt_or_ge B 8 with h|h
  ·exact h
  ·have d:=q6 4 (by omega) (by omega);omega
 have n:∀b,b<=B->Ut E t b:=fun b c=>by
  rcases Nat.eq_zero_or_pos b with rfl|h
  ·intro k g;exact p4 k g
  ·exact q5 b h c
 have ad:∀y:Nat×Nat,y∈(Dq s false C L).2.puts↔(∃z∈L,∃k,k<nBl (C z.f)/\y=(Dd 4 z.f k,plE E (Dd 4 z.f k)))\/∃b k,b<=B/\k<nR E t b/\y=(Dt b k,plE E (Dt b k)):=fun y=>by
  rw[o];refine(q7 y).trans ?_;rw[I,p3,List.mem_append,X y];constructor
  ·rintro(((e|e)|e)|⟨b,k,d,f,a,h4⟩)
   ·cases e
   ·exact .inl e
   ·obtain⟨k,g,rfl⟩:=List.mem_map.1 e;exact .inr ⟨0,k,Nat.zero_le _,List.mem_range.1 g,rfl⟩
   ·exact .inr ⟨b,k,f,a,h4⟩
  ·rintro(e|⟨b,k,d,f,a⟩)
   ·exact .inl (.inl (.inr e))
   ·rcases Nat.eq_zero_or_pos b with rfl|h
    ·exact .inl (.inr (List.mem_map.2 ⟨k,List.mem_range.2 f,a.symm⟩))
    ·exact .inr ⟨b,k,h,d,f,a⟩
 have K:∀r,E.at r=some (plE E r)->16<=plE E r/\plE E r<1536:=fun r hr=>by
  obtain⟨d,f⟩:=p.at_some hr;rw[l]at d;have a:=u.lo _ d;simp only[Int.toNat_natCast]at a;rw[<-l]at a;exact⟨a,f⟩
 have S:∀r,plE E r<1536:=fun r=>by
  unfold plE
  cases e:E.at r with
  | none=>show 0<_;omega
  | some q=>exact(p.at_some e).2
 have aj:E.D=s.D:=by rw[l];rfl
 have ae:BL (rwR E t (B+1))=DU (plE E (Dt B 0)) (Dp (Dv (kkR B) (rwR E t B) (szR B) 0)):=by
  rw[QY,q3];unfold DN DN;rw[List.nil_append]
 have U:rwR E t (B+1)=DG (plE E (Dt B 0)) (Dp (Dv (kkR B) (rwR E t B) (szR B) 0)):=KQ (by rw[ae,Zjb]);have ah:rdP (Dq s false C L).1=plE E (Dt B 0):=by
  rw[o];show rdP (DF E 8 (0+1) R.2 (rwR E t (0+1))).1=_;rw[q4,U,UO _ _ (by have:=S (Dt B 0);omega)]
 have ai:rdX (Dq s false C L).1=Dp (Dv (kkR B) (rwR E t B) (szR B) 0):=by
  rw[o];show rdX (DF E 8 (0+1) R.2 (rwR E t (0+1))).1=_;rw[q4,U,ZiE _ _ (KA _)]
 refine⟨t,B,?_⟩;rw[l]at *;refine⟨⟨aa,rfl,fun b _=>m b,fun b _=>QY _ _ _,q3,fun i j=>(n 0 (Nat.zero_le _) i j).2,fun b c i j=>?_,fun b i c j=>K _ (n b c i j).1,fun b k=>⟨by have:=S (Dt b k);omega,KA _⟩,fun b i H V c ac j af e=>?_,fun b _=>by have:=w b;omega⟩,by rw[M,W],fun x F k g=>⟨(G x F k g).1,(K _ (G x F k g).1).1,(K _ (G x F k g).1).2,(G x F k g).2⟩,n,ad,ah,ai,by omega,fun b c=>q6 b (Nat.zero_le _) c⟩
 ·have:=(n (b+1) c i j).2;rw[show kkR (b+1)=2 by unfold kkR;rw[if_neg (by omega)],show szR (b+1)=60 by unfold szR;rw[if_neg (by omega)]]at this;exact this
 ·have d:=(p.at_some (n b c i j).1).1;have f:=(p.at_some (n H ac V af).1).1;have a:=u.inj _ d _ f (by have e':plE (Dh s.es false s.tp s.D) (Dt b i)=plE (Dh s.es false s.tp s.D) (Dt H V):=e;show((_:Nat):Int)=((_:Nat):Int);rw[e']);rw[Prod.mk.injEq]at a;have P:=w b;have Q:=w H;exact ZgK (by omega) (by omega) (by omega) (by omega) (by have:=a.1;omega)
theorem Stands.on{s:KS}(f:InvW s){C:NB}{L:List It}(j:ItOk C L)(g:∀x∈L,x.k=2)(c:Stands s C L):∃t B,OnD s C L t B/\OnP s C L t B:=by
 obtain⟨t,B,h⟩:=Stays.on f j g c.ps;refine⟨t,B,⟨h.rows,h.tab,fun x l k i=>(h.dat x l k i).2,fun x=>?_,c.tp.symm.trans h.tp,c.tx.symm.trans h.tx,h.ts⟩,h⟩;rw[c.es.2.2];constructor
 ·rintro⟨y,m,rfl⟩;rcases (h.puts y).1 m with⟨z,e,k,a,rfl⟩|⟨b,k,a,d,rfl⟩
  ·exact .inl ⟨z,e,k,a,rfl⟩
  ·exact .inr ⟨b,k,a,d,rfl⟩
 ·rintro(⟨z,e,k,a,rfl⟩|⟨b,k,a,d,rfl⟩)
  ·exact⟨_,(h.puts _).2 (.inl ⟨z,e,k,a,rfl⟩),rfl⟩
  ·exact⟨_,(h.puts _).2 (.inr ⟨b,k,a,d,rfl⟩),rfl⟩
end Go.Proofs.YtaieidcohdhgpaaGreatDoor
