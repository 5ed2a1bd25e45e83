/- Spoilt. -/
import Derived.Test.YtaieidcohdhgpaaGreatDoorXAZ
namespace Go.Proofs.YtaieidcohdhgpaaGreatDoor
set_option maxHeartbeats 40000000
set_option maxRecDepth 100000
open Go.RowKit
theorem Gz.ext{a b:LI}(k:Gz a)(l:Gz b)(h:∀x,x∈a↔x∈b):a=b:=by
 have m:List.Perm a b:=(Cn k.nodup l.nodup).2 h;refine List.Perm.eq_of_pairwise (le:=fun x y=>GU x.1 y.1=true) (fun x y _ _ f g=>?_) ?_ ?_ m
 ·unfold GU at f g;simp only[AJ]at f g;omega
 ·rw[Bm];exact fun i j c e d=>k i j _ _ d (Ac c) (Ac e)
 ·rw[Bm];exact fun i j c e d=>l i j _ _ d (Ac c) (Ac e)
structure F7(C:NB)(L:List It):Prop where
 k2:∀x∈L,x.k=2
 ns:∀x∈L,∃n,x.ns=[n]/\DX n=true
 nd:(L.map (·.ns)).Nodup
 fd:(L.map (·.f)).Nodup
 le:L.length<=8
 sz:∀x∈L,(C x.f).size<=1280
 num:∀x∈L,x.f<60
theorem F7.nms{C:NB}{L:List It}(h:F7 C L){x:It}(c:x∈L):IX x.ns/\x.ns≠[]/\x.ns.length<=6:=by
 obtain⟨n,e,b⟩:=h.ns x c;rw[e];exact⟨fun m a=>by rw[Ab.1 a];exact b,by simp,by simp⟩
theorem F7.path{C:NB}{L:List It}(h:F7 C L){x:It}(d:x∈L):Df (jn x.ns)=x.ns/\DU (jn x.ns)=true/\(jn x.ns).size<=78:=by
 obtain⟨a,b,c⟩:=h.nms d;have:=Ti a b c;exact⟨PW a b,this,Ri _ this⟩
theorem F7.fresh{C:NB}{L:List It}(h:F7 C L){i j:Nat}{x y:It}(g:L[i]?=some x)(k:L[j]?=some y)(e:x.f=y.f):i=j:=by
 have a:=h.fd;obtain⟨d,b⟩:=Ae.1 g;obtain⟨f,c⟩:=Ae.1 k;unfold List.Nodup at a;rw[Bm]at a;rcases Cz i j with q|q|q
 ·have:=a i j (by rw[AK];exact d) (by rw[AK];exact f) q;rw[Cw,Cw,b,c]at this;exact absurd e this
 ·exact q
 ·have:=a j i (by rw[AK];exact f) (by rw[AK];exact d) q;rw[Cw,Cw,b,c]at this;exact absurd e.symm this
theorem F7.ok{C:NB}{L:List It}(h:F7 C L):GQ C L:=
 ⟨by have:=h.le;omega,fun x a => .inr (.inl (h.k2 x a)),fun x a=>by have:=(h.path a).2.2;omega,h.num,fun x a _=>h.sz x a,fun i j x y aa b c _ _ e=>by have:=h.fresh b c e;omega⟩
section
variable{D:LY}{R:NB}{N:Nat->Nat}{P X:Nat->Nat->Nat}{B:Nat}
theorem PU(a:Rows D R N P X B):GI N P (fun i=>BL (I5 R i)) B (B+1) (JB N P (I5 R) B 0 D2)/\∀b,b<=B->(JB N P (I5 R) B 0 D2).tn b=N b:=by
 have d:=a.top;obtain⟨e,⟨f,g⟩,_⟩:=Rc a (cb:=I5 R) (fun _=>rfl) B (Aa _) 0 D2 (by omega) (GI.start N P _ B (B+1)) (I6.start N B);refine⟨e,fun b hb=>?_⟩;rcases AO b B with h|h
 ·rw[g b h];have c:=Rows.grow a (B-b) b (by omega);rw[show b+(B-b)=B by omega,d]at c;exact Eh c
 ·obtain rfl:b=B:=by omega
  rw[f,d]
theorem Ww(a:Rows D R N P X B):∃z,BL (JB N P (I5 R) B 0 D2).t=BL (R 0)++List.replicate z 0/\z<=62:=by
 obtain⟨b,c⟩:=PU a;have e:(fun i=>BL (I5 R i))=(fun i=>((((BL (R 0)).drop (i*63)).take 63)++List.replicate 63 0).take 63):=by
  funext i
  unfold I5;rw[Pc];unfold IJ;rw[JV,show i*63+63-i*63=63 by omega]
 have hn:=a.n0;rw[b.g5,c 0 (Aw _),e,Of];refine⟨63*N 0-(R 0).size,?_,by omega⟩;rw[BN,Ah (by rw[DZ];omega),DZ,BM]
 congr 2
 omega
end
structure QI(E:F3)(M:Nat->Prop)(n:Nat)(q:F5):Prop where
 ins:∀y,y∈q.ins↔M y.1/\y.2=F9 E y.1
 tk:∀p,q.tk p=true->∃r,M r/\p=F9 E r
 len:q.ins.length<=n
theorem QI.put{E:F3}{M:Nat->Prop}{n:Nat}{q:F5}(h:QI E M n q)(r:Nat):QI E (fun k=>M k\/k=r) (n+1) ((q.take (F9 E r)).put r (F9 E r)):=by
 refine⟨fun y=>?_,fun p d=>?_,?_⟩
 ·show y∈q.ins++[(r,F9 E r)]↔_;rw[Ap,h.ins,Ab];constructor
  ·rintro(⟨a,b⟩|rfl)
   ·exact⟨.inl a,b⟩
   ·exact⟨.inr rfl,rfl⟩
  ·rintro⟨a|a,b⟩
   ·exact .inl ⟨a,b⟩
   ·exact .inr (FP a (by rw[b,a]))
 ·have c:(if p=F9 E r then true else q.tk p)=true:=d
  split at c
  ·rename_i e;exact⟨r,.inr rfl,e⟩
  ·obtain⟨f,a,b⟩:=h.tk p c;exact⟨f,.inl a,b⟩
 ·show(q.ins++[_]).length<=_;rw[Ad];have:=h.len;simp only[Ba];omega
theorem QI.congr{E:F3}{M a:Nat->Prop}{n c:Nat}{q:F5}(h:QI E M n q)(b:∀r,M r↔a r)(f:n<=c):QI E a c q:=
 ⟨fun y=>by rw[h.ins,b],fun p g=>by obtain⟨r,d,e⟩:=h.tk p g;exact⟨r,(b r).1 d,e⟩,Ag h.len f⟩
def gi(L:List It)(k:Nat):It:=(L[k]?).getD ⟨[],2,0⟩
theorem Kc{L:List It}{k:Nat}(h:k<L.length):L[k]?=some (gi L k)/\gi L k∈L:=by
 unfold gi;rw[Ac h];exact⟨rfl,EA h⟩
def LM(E:F3)(C:NB)(L:List It)(q:F5):Nat->F5
 | 0=>q
 | k+1=>Ky (LM E C L q k) (gi L k).f (fun i=>F9 E (Dd 4 (gi L k).f i)) (Gg (C (gi L k).f))
def MR(E:F3)(C:NB)(L:List It)(t:By)(B k i r:Nat):Prop:=
 (∃b j,b<=B/\j<nR E t b/\r=Dy b j)\/∃k' i',(k'<k/\i'<Gg (C (gi L k').f)\/k'=k/\i'<i)/\r=Dd 4 (gi L k').f i'
theorem MR.next{E:F3}{C:NB}{L:List It}{t:By}{B k i:Nat}(r:Nat):(MR E C L t B k i r\/r=Dd 4 (gi L k).f i)↔MR E C L t B k (i+1) r:=by
 unfold MR;constructor
 ·rintro((h|⟨d,c,a|a,b⟩)|h)
  ·exact .inl h
  ·exact .inr ⟨d,c,.inl a,b⟩
  ·exact .inr ⟨d,c,.inr ⟨a.1,by omega⟩,b⟩
  ·exact .inr ⟨k,i,.inr ⟨rfl,by omega⟩,h⟩
 ·rintro(h|⟨d,c,a|a,b⟩)
  ·exact .inl (.inl h)
  ·exact .inl (.inr ⟨d,c,.inl a,b⟩)
  ·by_cases e:c=i
   ·obtain⟨rfl,_⟩:=a;subst e;exact .inr b
   ·exact .inl (.inr ⟨d,c,.inr ⟨a.1,by omega⟩,b⟩)
theorem MR.file{E:F3}{C:NB}{L:List It}{t:By}{B k:Nat}(r:Nat):MR E C L t B k (Gg (C (gi L k).f)) r↔MR E C L t B (k+1) 0 r:=by
 unfold MR;constructor
 ·rintro(h|⟨b,d,a|a,c⟩)
  ·exact .inl h
  ·exact .inr ⟨b,d,.inl ⟨by omega,a.2⟩,c⟩
  ·obtain⟨rfl,a⟩:=a;exact .inr ⟨b,d,.inl ⟨by omega,a⟩,c⟩
 ·rintro(h|⟨b,d,a|a,c⟩)
  ·exact .inl h
  ·by_cases e:b=k
   ·subst e;exact .inr ⟨b,d,.inr ⟨rfl,a.2⟩,c⟩
   ·exact .inr ⟨b,d,.inl ⟨by omega,a.2⟩,c⟩
  ·omega
theorem MR.fresh{E:F3}{C:NB}{L:List It}(c:F7 C L){t:By}{B k i:Nat}(hB:B<8)(m:∀b,b<=B->nR E t b<=1000)(n:k<L.length)(hi:i<Gg (C (gi L k).f)):¬MR E C L t B k i (Dd 4 (gi L k).f i):=by
 obtain⟨h,f⟩:=Kc n;have hf:=c.num _ f;have hn:=Qd (c.sz _ f);rintro(⟨b,j,a,e,d⟩|⟨o,i',a|a,e⟩)
 ·have:=m b a;unfold Dy at d
  split at d
  ·have:=QY (by omega) (by omega) (by omega) (by omega) d;omega
  ·have:=QY (by omega) (by omega) (by omega) (by omega) d;omega
 ·obtain⟨l,g⟩:=Kc (L:=L) (k:=o) (by omega);have aa:=c.num _ g;have ab:=Qd (c.sz _ g);have:=c.fresh h l (N9 (by omega) (by omega) (by omega) (by omega) e);omega
 ·obtain⟨rfl,a⟩:=a;have:=QQ e;omega
theorem QI.fil{E:F3}{C:NB}{L:List It}{t:By}{B:Nat}{q:F5}{k n:Nat}(h:QI E (MR E C L t B k 0) n q):∀i,QI E (MR E C L t B k i) (n+i) (Ky q (gi L k).f (fun i=>F9 E (Dd 4 (gi L k).f i)) i)
 | 0=>h
 | i+1=>((QI.fil h i).put (Dd 4 (gi L k).f i)).congr MR.next (Aa _)
theorem QI.files{E:F3}{C:NB}{L:List It}(a:F7 C L){t:By}{B:Nat}{q:F5}{n:Nat}(h:QI E (MR E C L t B 0 0) n q):∀k,k<=L.length->QI E (MR E C L t B k 0) (n+20*k) (LM E C L q k)
 | 0,_=>h
 | k+1,hk=>by
  have h1:=Qd (a.sz _ (Kc (L:=L) (k:=k) (by omega)).2);exact((QI.files a h k (by omega)).fil _).congr MR.file (by omega)
theorem Qz(E:F3)(C:NB)(d:By)(x:It):BL (Kb E C d x)=UInt8.ofNat 2::UInt8.ofNat (Jr d (jn x.ns))::UInt8.ofNat ((jn x.ns).size-Jr d (jn x.ns))::(BL (Dp d (jn x.ns))++UInt8.ofNat x.f::(DC (C x.f).size 2++DR (fun k=>DT (F9 E (Dd 4 x.f k)) (Dl (Gl (C x.f) k))) (Gg (C x.f)))):=by
 obtain⟨e,j⟩:=ex (DR (fun k=>DT (F9 E (Dd 4 x.f k)) (Dl (Gl (C x.f) k))) (Gg (C x.f)));unfold Kb Dx;rw[<-j,DO,DO,DO,DO];have f:∀a b c:UInt8,BL (⟨#[a,b,c]⟩:By)=[a,b,c]:=fun _ _ _=>rfl
 have g:∀a:UInt8,BL (⟨#[a]⟩:By)=[a]:=fun _=>rfl
 have h:∀n,BL (Je n 2)=DC n 2:=fun n=>Kt _
 have i:BL (⟨e.toArray⟩:By)=e:=Kt _;rw[f,g,h,i];simp only[Ar,AI,AA]
theorem QE{m x y:Nat}(a:x<256 ^ m)(b:y<256 ^ m)(h:DC x m=DC y m):x=y:=by
 rw[<-Kr m x a,h,Kr m y b]
def OB(C:NB)(L:List It):Prop:=∀x∈L,(jn x.ns).size<=100/\x.f<60/\(C x.f).size<=1280
theorem P8{d c:F3}{a b:NB}(A:∀r,F9 d r<65536)(w:∀r,F9 c r<65536):∀(L1 L0:List It) (l1 l0:By) (r:List UInt8) (z:Nat),OB a L1->OB b L0->BL (DW d a l1 L1)++0::r=BL (DW c b l0 L0)++0::List.replicate z 0->
  BL (DW d a l1 L1)=BL (DW c b l0 L0)/\L1.map (fun x=>(x.f,(a x.f).size))=L0.map (fun x=>(x.f,(b x.f).size))/\∀x∈L1,∀k,k<Gg (a x.f)->F9 d (Dd 4 x.f k)=F9 c (Dd 4 x.f k)
 | [],[],_,_,_,_,_,_,_=>⟨rfl,rfl,fun x j=>by cases j⟩
 | [],y::ys,l1,l0,r,z,_,_,h=>by
  have i:BL (DW c b l0 (y::ys))=BL (Kb c b l0 y)++BL (DW c b (jn y.ns) ys):=DO _ _;rw[i,Qz]at h;have n:(0:UInt8)::r=UInt8.ofNat 2::_:=h;exact absurd (Cx n).1 (by decide)
 | x::xs,[],l1,l0,r,z,_,_,h=>by
  have i:BL (DW d a l1 (x::xs))=BL (Kb d a l1 x)++BL (DW d a (jn x.ns) xs):=DO _ _;rw[i,Qz]at h;have n:UInt8.ofNat 2::_=(0:UInt8)::List.replicate z 0:=h;exact absurd (Cx n).1 (by decide)
 | x::xs,y::ys,l1,l0,r,z,b1,b0,h=>by
  have o:BL (DW d a l1 (x::xs))=BL (Kb d a l1 x)++BL (DW d a (jn x.ns) xs):=DO _ _;have i:BL (DW c b l0 (y::ys))=BL (Kb c b l0 y)++BL (DW c b (jn y.ns) ys):=DO _ _;obtain⟨p1,p2,p3⟩:=b1 x (by simp);obtain⟨q1,q2,q3⟩:=b0 y (by simp);have j:=Qz d a l1 x;have E:=Qz c b l0 y;rw[o,i,j,E]at h;simp only[Ar,AI]at h;replace h:=(Cx h).2;obtain⟨I,h⟩:=Cx h;obtain⟨p,h⟩:=Cx h;have G:(Dp l1 (jn x.ns)).size=(jn x.ns).size-Jr l1 (jn x.ns):=by unfold Dp;rw[Af];omega
  have F:(Dp l0 (jn y.ns)).size=(jn y.ns).size-Jr l0 (jn y.ns):=by unfold Dp;rw[Af];omega
  have q:=Ca UInt8.toNat p;rw[KF (by omega),KF (by omega)]at q;obtain⟨J,h⟩:=Eb h (by rw[DZ,DZ,G,F,q]);obtain⟨s,h⟩:=Cx h;obtain⟨t,h⟩:=Eb h (by rw[D4,D4]);have B:x.f=y.f:=by
   have:=Ca UInt8.toNat s
   rwa [KF (by omega),KF (by omega)]at this
  have D:(a x.f).size=(b y.f).size:=QE (m:=2) (by omega) (by omega) t;have K:Gg (a x.f)=Gg (b y.f):=by unfold Gg;rw[D]
  obtain⟨v,h⟩:=Eb h (by rw[KI (fun k=>JK _ _),KI (fun k=>JK _ _),K]);obtain⟨L,M,N⟩:=P8 A w xs ys _ _ r z (fun u g=>b1 u (AF _ g)) (fun u g=>b0 u (AF _ g)) h;refine⟨?_,?_,fun u g k C=>?_⟩
  ·rw[o,i,j,E,I,p,J,s,t,v,L]
  ·rw[Br,Br,M,show(x.f,(a x.f).size)=(y.f,(b y.f).size) by rw[D,B]]
  ·rcases AE.1 g with e|g
   ·subst e;have l:=Qn (f:=fun k=>DT (F9 d (Dd 4 u.f k)) (Dl (Gl (a u.f) k))) (fun k=>JK _ _) (Gg (a u.f)) k C;have H:=Qn (f:=fun k=>DT (F9 c (Dd 4 y.f k)) (Dl (Gl (b y.f) k))) (fun k=>JK _ _) (Gg (b y.f)) k (by omega);rw[v,H]at l;unfold DT at l;have:=(Eb l (by rw[D4,D4])).1;have:=QE (m:=2) (w _) (A _) this;rw[<-this,B]
   ·exact N u g k C
section
variable{D0 D1:LY}{R0 R1:NB}{N0 N1:Nat->Nat}{P0 P1 X0 X1:Nat->Nat->Nat}{B0 B1:Nat}
theorem K7(c:Nat):G0 (c+1)=2:=by unfold G0;rw[if_neg (by omega)]
theorem Qi(c:Nat):GR (c+1)=60:=by unfold GR;rw[if_neg (by omega)]
theorem Rows.at(h:Rows D0 R0 N0 P0 X0 B0){b i:Nat}(hb:b<=B0)(a:i<N0 b):D0[P0 b i]?=some (Dw (G0 b) (R0 b) (GR b) i):=by
 rcases BC b with rfl|hp
 ·exact h.d0 i a
 ·obtain⟨c,rfl⟩:∃c,b=c+1:=⟨b-1,by omega⟩;rw[K7,Qi];exact h.d1 c (by omega) i a
theorem Rows.pos(h:Rows D0 R0 N0 P0 X0 B0):∀j b,b+j=B0->1<=N0 b
 | 0,b,e=>by
  have:=h.top;rw[show b=B0 by omega];omega
 | j+1,b,e=>by
  have h1:=Rows.pos h j (b+1) (by omega);have h2:=h.nn b (by omega);omega
theorem VW(c:Rows D0 R0 N0 P0 X0 B0)(a:Rows D1 R1 N1 P1 X1 B1)(hB:B1<=B0)(r:∀b k,b<=B0->k<N0 b->D1[P0 b k]?=D0[P0 b k]?)(m:P1 B1 0=P0 B1 0):
  ∀j b,b+j=B1->∀k,k<N1 b->k<N0 b/\P1 b k=P0 b k/\Dw (G0 b) (R1 b) (GR b) k=Dw (G0 b) (R0 b) (GR b) k:=by
 have p:∀b k,b<=B1->k<N1 b->k<N0 b->P1 b k=P0 b k->Dw (G0 b) (R1 b) (GR b) k=Dw (G0 b) (R0 b) (GR b) k:=fun b k s t n e=>by
  have h:=a.at s t;have q:=c.at (b:=b) (by omega) n;rw[e,r b k (by omega) n,q]at h;exact(BV h).symm
 intro j
 induction j with
 | zero=>
  intro b e k d;obtain rfl:b=B1:=by omega
  have ht:=a.top;have o:=c.pos (B0-b) b (by omega);obtain rfl:k=0:=by omega
  exact⟨o,m,p b 0 (Aa _) d o m⟩
 | succ j ih=>
  intro b e k d;have ab:=a.nn b (by omega);obtain⟨c1,c2,l⟩:=ih (b+1) (by omega) (k/6) (by omega);rw[K7,Qi]at l;have f:=(Um (fun i=>(a.px b i).1) (fun i=>(a.px b i).2) (a.rr b (by omega)) (k/6) (k%6) (by omega)).1;have u:=(Um (fun i=>(c.px b i).1) (fun i=>(c.px b i).2) (c.rr b (by omega)) (k/6) (k%6) (by omega)).1;rw[l,u,show 6*(k/6)+k%6=k by omega,if_pos d]at f;have aa:=(a.pl b k (by omega) d).1;by_cases g:k<N0 b
  ·rw[if_pos g]at f;exact⟨g,f.symm,p b k (by omega) d g f.symm⟩
  ·rw[if_neg g]at f;omega
end
theorem Wo{f g:Nat->List UInt8}:∀n,(∀k,k<n->f k=g k)->DR f n=DR g n
 | 0,_=>rfl
 | n+1,h=>by
  show DR f n++f n=DR g n++g n;rw[Wo n (fun k hk=>h k (by omega)),h n (by omega)]
theorem Rt{t1 t0:By}{n:Nat}(g:t1.size<=63*n)(h:∀k,k<n->Dw 3 t1 63 k=Dw 3 t0 63 k):∃r,BL t1++r=BL t0++List.replicate (63*n) 0:=by
 have e:∀(s:By) (k:Nat),BL (DJ (Dw 3 s 63 k))=((((BL s).drop (k*63)).take 63)++List.replicate 63 0).take 63:=fun s k=>by
  rw[Pc];unfold IJ;rw[JV,show k*63+63-k*63=63 by omega]
 have c:=Of (BL t1) 63 n;have b:=Of (BL t0) 63 n;have a:DR (fun i=>((((BL t1).drop (i*63)).take 63)++List.replicate 63 0).take 63) n=DR (fun i=>((((BL t0).drop (i*63)).take 63)++List.replicate 63 0).take 63) n:=Wo n (fun k d=>by
  show((((BL t1).drop (k*63)).take 63)++List.replicate 63 0).take 63=((((BL t0).drop (k*63)).take 63)++List.replicate 63 0).take 63;rw[<-e t1 k,<-e t0 k,h k d])
 rw[c,b]at a;have f:(BL t1).length<=63*n:=by rw[DZ];exact g
 rw[BN,Ah f]at a;refine⟨(List.replicate (63*n) (0:UInt8)).take (63*n-(BL t1).length)++(BL t0++List.replicate (63*n) 0).drop (63*n),?_⟩;rw[<-Ar,a,B8]
theorem ZkH(es:LI)(i:Nat)(b c r:Int)(h:es[i]?=some (b,c)):(Ds es).set (i*2+1) (.int .i64 r)=Ds (es.set i (b,r)):=by
 induction es generalizing i with
 | nil=>simp at h
 | cons a l ih=>
  cases i with
  | zero=>simp at h;subst h;simp[Ds,Hj]
  | succ i=>
   simp at h;have:=ih i h;simp only[Ds,A9,FR]at this ⊢;rw[<-this,Em _ _ (by simp[Hj];omega)];simp only[Hj,Aq,AS];rw[show(i+1)*2+1-(0+1+1)=i*2+1 by omega]
theorem Zr(w:World)(c ho:Nat)(v:Value)(es:LI)(d:Int)(X r:Int)(y:w.cell? ⟨c,ho,none⟩=some v)(S:v.ownBlock≠some c)(s:Sl w 350 2 v es.length (Ds es))(R:es.length<=10000)(n:Gz es)(F:(d,X)∈es):
  Cl 243 #[.pointer (some ⟨c,ho,none⟩),.int .u64 d,.int .i64 r] w fun e w'=>e = .returned (.tuple #[])/\∃es',w'.cell? ⟨c,ho,none⟩=some v/\Sl w' 350 2 v es'.length (Ds es')/\
   Gz es'/\es'.length=es.length/\(∀x,x∈es'↔x=(d,r)\/x∈es/\x.1≠d)/\Fr (F2 v) w w':=by
 have N:c<w.heap.size:=Aj _ _ y;have E:=O1 w c ho v es d y s R n;go_enter Tryz.func243,Tryz.ntmps243;go_wp2_with fail;refine E.mono ?_;rintro e w1 ⟨i,b,rfl,l,f⟩;have M:b=true:=by
  cases b with
  | true=>rfl
  | false=>exact absurd rfl (Ln.not n l _ F)
 subst M;obtain⟨G,z⟩:=l.here;have hi:i<es.length:=(Ae.1 z).1;have q0:w1.cell? ⟨c,ho,none⟩=some v:=(f.cell (p:=⟨c,ho,none⟩) N).trans y;have C:Sl w1 350 2 v es.length (Ds es):=s.kept (fun k h _=>f.block k h);rcases C.2 with⟨rfl,h0⟩|⟨g,j,L,rfl,m,O,P,B,t⟩
 ·omega
 ·have q1:w1.cell? ⟨g,i*2+1,none⟩=some (.int .i64 G):=by
   have o:=(UD es i _ z).2;rw[m.cell];rw[<-t,Ao]at o
   split at o
   ·exact o
   ·cases o
  have f1:=m.frozen (i*2+1);have T:c≠g:=fun e=>S (by simp[Value.ownBlock,e])
  have A:∀W:World,W.heap=(w1.setCell ⟨g,i*2+1,none⟩ (.int .i64 r)).heap->W.os=w1.os->W.tape=w1.tape->W.output=w1.output->
    ∃es',W.cell? ⟨c,ho,none⟩=some (.slice (some ⟨g,0,none⟩) es.length j)/\Sl W 350 2 (.slice (some ⟨g,0,none⟩) es.length j) es'.length (Ds es')/\Gz es'/\es'.length=es.length/\(∀x,x∈es'↔x=(d,r)\/x∈es/\x.1≠d)/\Fr (F2 (.slice (some ⟨g,0,none⟩) es.length j)) w W:=fun W u I J K=>by
   obtain⟨U,q,V⟩:=Zlo r n l;have D:∀k,k≠g->W.heap[k]?=w1.heap[k]? := fun k h=>by rw[u,AB _ _ _ _ h]
   refine⟨es.set i (d,r),?_,⟨Xo _,.inr ⟨g,j,L.set (i*2+1) (.int .i64 r),?_,?_,?_,P,?_,?_⟩⟩,U,q,V,?_⟩
   ·exact(AC (w:=w1) (a:=⟨c,ho,none⟩) (D c T)).trans q0
   ·rw[q]
   ·unfold F0;rw[u];exact m.set _ _
   ·rw[q];exact O
   ·simpa using B
   ·rw[q,<-ZkH es i d G r z,<-t,List.take_set]
   ·refine⟨I.trans f.os,J.trans f.tape,K.trans f.output,?_,fun k h Q=>?_⟩
    ·rw[u];simpa [World.setCell] using f.size
    ·rw[D k (fun e=>Q (by rw[e];rfl)),f.block k h]
  have H:=Db A;have aa:(i:Int)<(es.length:Int):=by omega
  clear E l s C m B t n F A f;go_wp2
  all_goals
   refine Ax (Ei rfl _ _ _) rfl ?_;exact⟨rfl,Da H _ rfl rfl rfl rfl⟩
def F5.putO(q:F5)(r p:Nat):F5:={ q with ins:=if ∃y∈q.ins,y.1=r then q.ins.map (fun y=>if y.1=r then (r,p) else y) else q.ins++[(r,p)] }
theorem F5.putO_new{q:F5}{r p:Nat}(h:∀y∈q.ins,y.1≠r):q.putO r p=q.put r p:=by
 unfold F5.putO F5.put;rw[if_neg (fun ⟨y,a,e⟩=>h y a e)]
section
variable{w0:World}{n0 rb db tp tx:Nat}{q:F5}{va vt:Value}{W W':World}
theorem Gd.putO_call(h:Gd w0 n0 rb db tp tx q va vt W){r p:Nat}(C:q.ins.length<=9999):
  Cl 243 #[.pointer (some ⟨rb,1,none⟩),.int .u64 (r:Nat),.int .i64 (p:Nat)] W fun e w'=>e = .returned (.tuple #[])/\∃va',Gd w0 n0 rb db tp tx (q.putO r p) va' vt w'/\Fr (fun k=>k=rb\/F2 va k) W w'/\Dm W va va':=by
 by_cases i:∃y∈q.ins,y.1=r
 ·obtain⟨L,n,H,s,I,J,K,M,N⟩:=h.row;obtain⟨es,⟨v,w,c⟩,A⟩:=h.es;have E:=i;obtain⟨y,b,o⟩:=E;have B:((r:Int),(y.2:Int))∈es:=(c _).2 ⟨y,b,by rw[o]⟩;refine(Zr W rb 1 va es r y.2 p ((n.cell 1).trans s) (fun e=>(h.oa rb e).2.1 rfl) A (by omega) v B).mono ?_;rintro e w' ⟨rfl,t,m1,O,P,Q,R,a⟩;have m:(q.putO r p).ins=q.ins.map (fun y=>if y.1=r then (r,p) else y):=by
   show(if _ then _ else _)=_;rw[if_pos i]
  have hs:=h.bel.size;have G:=h.sz;refine⟨rfl,va,⟨⟨L,n.fr a (fun e=>(h.oa rb e).2.1 rfl),H,s,I,J,K,M,N⟩,⟨t,⟨P,by rw[m,AK,Q,w],fun x=>?_⟩,O⟩,⟨h.tab.1.fr a (fun g d e=>(h.oa g e).2.2 d),h.tab.2⟩,h.oa,h.ot,h.bel.trans ⟨a.os,a.tape,a.output,a.size,fun k hk=>a.block k (by omega) (fun e=>by have:=(h.oa k e).1;omega)⟩,h.lo,G⟩,a.mono (fun k _ e => .inr e),fun g d => .inl d⟩;rw[R x,m];constructor
  ·rintro(rfl|⟨F,f⟩)
   ·exact⟨(r,p),Au.2 ⟨y,b,by rw[if_pos o]⟩,rfl⟩
   ·obtain⟨z,j,rfl⟩:=(c x).1 F;exact⟨z,Au.2 ⟨z,j,by rw[if_neg (fun e=>f (by show(z.1:Int)=_;rw[e]))]⟩,rfl⟩
  ·rintro⟨z,j,rfl⟩;obtain⟨u,D,rfl⟩:=Au.1 j
   split
   ·exact .inl rfl
   ·rename_i f;exact .inr ⟨(c _).2 ⟨u,D,rfl⟩,fun e=>f (by have e':(u.1:Int)=(r:Int):=e;omega)⟩
 ·have l:∀y∈q.ins,y.1≠r:=fun y b e=>i ⟨y,b,e⟩
  rw[F5.putO_new l];exact h.put_call l C
end
def CB(B:NB):NB
 | 0=>⟨#[]⟩
 | k+1=>CB B k++B k
theorem Uf{B:NB}(a:∀k,(B k).size=64):∀k,(CB B k).size=64*k
 | 0=>rfl
 | k+1=>by unfold CB;rw[Ai,Uf a k,a];omega
structure MC(W w0:World)(n0 rb db tp tx fb:Nat)(vt va0:Value)(p:By)(kd fn:Nat)(B:NB)(q:F5)(s:By)(k:Nat)(va v:Value)(wr:World):Prop where
 rd:Gd w0 n0 rb db tp tx q va vt wr
 fd:GH fb s vt wr
 b5:F0 wr W.heap.size 141 [.string p,.int .u8 (kd:Nat),.int .i64 (fn:Nat),v]
 b6:F0 wr (W.heap.size+1) 141 [.string ⟨#[]⟩,.int .u8 0,.int .i64 0,.slice none 0 0]
 dt:Gp (W.heap.size+2) wr v (CB B k)
 fr:Fr (fun j=>j=rb\/F2 va0 j\/j=fb) W wr
 na:Dm W va0 va
 sz:W.heap.size+2<=wr.heap.size
def Ym(W w0:World)(n0 rb db tp tx fb:Nat)(vt va:Value)(p:By)(kd fn:Nat)(d:By)(q':F5)(s':By)(e:Ending)(w':World):Prop:=
 ∃a' c' va',e = .returned (.tuple #[.agg #[.string p,.int .u8 (kd:Nat),.int .i64 (fn:Nat),.slice a' d.size c'],.bool true])/\Gd w0 n0 rb db tp tx q' va' vt w'/\GH fb s' vt w'/\Sl w' 5 1 (.slice a' d.size c') d.size (Dc d)/\(∀k,F2 (.slice a' d.size c') k->W.heap.size+2<=k)/\Fr (fun j=>j=rb\/F2 va j\/j=fb) W w'/\Dm W va va'
def KD(W w0:World)(n0 rb db tp tx fb:Nat)(vt va:Value)(p:By)(kd fn:Nat)(B:NB)(N K:Nat)(q':F5)(s':By)(e:Ending)(w':World):Prop:=
 if N<=64*K then Ym W w0 n0 rb db tp tx fb vt va p kd fn ((CB B K).extract 0 N) q' s' e w'
 else ∃a l c,e = .returned (.tuple #[.agg #[.string p,.int .u8 (kd:Nat),.int .i64 (fn:Nat),.slice a l c],.bool false])/\Ik w0 n0 rb w'/\Fr (fun j=>j=rb\/F2 va j\/j=fb) W w'
theorem ZO(W w0:World)(H A T tp tx:Nat)(q:F5)(va C:Value)(h:Gd w0 H A T tp tx q va C W){vf vw ve:Value}{a:OA}{l c:Nat}{D:LY}(hD:DV w0 T vf (.slice a l c) vw ve D)(ba:T<H/\∀k,F2 (.slice a l c) k->k<H)
  (y:Nat) (aK:H<=y) (s:By) (hf:GH y s C W) (hs:s.size<=1000000) (p:By) (z fn:Nat) (cg:fn<256) (N:Nat) (bc:DA (BL (Dg s 2))=N) (P:Nat->Nat) (B:NB) (hB:∀k,(B k).size=64) (Q:Nat->F5) (aU:Q 0=q) (K:Nat) (b7:N<=65535)
  (hb:∀k,k<K->Gu (Dv (s.extract 2 s.size) k)=P k/\16<=P k/\P k<1536/\D[P k]?=some (B k))
  (hq:∀k,k<K->(Q k).tk (P k)=false/\Q (k+1)=((Q k).take (P k)).putO (Dd 4 fn k) (P k)/\(Q k).ins.length<=9999) (ag:∀k,k<K->64*k<N)
  (aJ:N<=64*K\/64*K<N/\(Gu (Dv (s.extract 2 s.size) K)<16\/1536<=Gu (Dv (s.extract 2 s.size) K)\/(Q K).tk (Gu (Dv (s.extract 2 s.size) K))=true)):
  Cl 246 #[.pointer (some ⟨A,0,none⟩),.pointer (some ⟨y,0,none⟩),.agg #[.string p,.int .u8 (z:Nat),.int .i64 (fn:Nat),.slice none 0 0]] W (KD W w0 H A T tp tx y C va p z fn B N K (Q K) (Dv (s.extract 2 s.size) K)):=by
 obtain⟨W1,e1,x1,k1,s1,b1⟩:=De W [.string p,.int .u8 (z:Nat),.int .i64 (fn:Nat),.slice none 0 0] 141;obtain⟨W2,e2,x2,k2,s2,b2⟩:=De W1 [.string ⟨#[]⟩,.int .u8 0,.int .i64 0,.slice none 0 0] 141;rw[s1]at x2;have az:Bw W W2:=b1.trans (b2.mono (by omega));obtain⟨a8,bM,aa⟩:=h.lt;obtain⟨E,ai⟩:=ex (s.extract 2 s.size);rw[<-ai]at hb aJ ⊢;have aO:H<=W.heap.size:=Ag h.sz h.bel.size;have bL:∃a l c,F0 W y 287 [.slice a l c]:=by obtain⟨a,l,c,r,_⟩:=hf;exact⟨a,l,c,r⟩
 obtain⟨_,_,_,aM⟩:=bL;have ac:=h.ne aM (by decide) (by decide) (by decide);have cf:=aM.lt;have aE:∀k,k<K->64*k<N:=ag;have b6:K<=1024:=by
  rcases BC K with e|e
  ·omega
  ·have:=aE (K-1) (by omega);omega
 have ah:¬F2 C y:=ac.2.2;have aS:Hid (Cl 240 #[.pointer (some ⟨y,0,none⟩),.int .i64 2] W2 fun e X=>e = .returned (.int .u64 (N:Nat))/\Hid (MC W w0 H A T tp tx y C va p z fn B (Q 0) (Dv E 0) 0 va (.slice none 0 0) X)):=by
  refine((hf.below az aa).number ah (by omega) 2 (by omega)).mono ?_;rintro e X ⟨rfl,q1,q2⟩;refine⟨by rw[bc],by rw[aU];exact(h.below az).fr q2 (fun k e=>by subst e;exact⟨aK,ac.1,ac.2.1,ac.2.2⟩),by rw[<-ai]at q1;exact q1,(k2 _ _ _ x1).fr q2 (fun e=>by omega),x2.fr q2 (fun e=>by omega),Gp.nil _ _,(Fr.of_below az).then q2 (fun k _ e => .inr (.inr e)),fun g hg => .inl hg,by have:=q2.size;omega⟩
 have br:Hid (∀k,k<K->∀F m w f wr,MC W w0 H A T tp tx y C va p z fn B (Q k) (Dv E k) k F (.slice m w f) wr->∃X VB,VB=DB (B k)/\Cl 238 #[.pointer (some ⟨y,0,none⟩)] wr fun e Y=>e = .returned (.agg #[.int .i64 (P k:Nat),.int .u64 (X:Nat)])/\∃Z,Y.alloc (.cells #[.int .i64 (P k:Nat),.int .u64 (X:Nat)] 175)=Z/\Z.cell? ⟨Y.heap.size,0,none⟩=some (.int .i64 (P k:Nat))/\Z.cell? ⟨Y.heap.size,1,none⟩=some (.int .u64 (X:Nat))/\
   Hid (Cl 241 #[.pointer (some ⟨A,0,none⟩),.agg #[.int .i64 (P k:Nat),.int .u64 (X:Nat)]] Z fun e U=>e = .returned (.tuple #[VB,.bool true])/\∃G V,U.alloc (.cells (Dc (Di 64)).toArray 188)=G/\F0 G U.heap.size 188 (Dc (Di 64))/\G.setRow U.heap.size (Dc (B k)).toArray=V/\V.cell? ⟨W.heap.size,2,none⟩=some (.int .i64 (fn:Nat))/\V.cell? ⟨Y.heap.size,0,none⟩=some (.int .i64 (P k:Nat))/\
    Hid (Cl 243 #[.pointer (some ⟨A,1,none⟩),.int .u64 ((4*4294967296+fn*65536+k:Nat):Int),.int .i64 (P k:Nat)] V.drew fun e O=>e = .returned (.tuple #[])/\O.cell? ⟨W.heap.size,2,none⟩=some (.int .i64 (fn:Nat))/\O.cell? ⟨Y.heap.size,0,none⟩=some (.int .i64 (P k:Nat))/\O.cell? ⟨W.heap.size,3,none⟩=some (.slice m w f)/\
     ∃a5 l5 c5 J,(Builtin.append_ #[59,59] 59 #[.slice m w f,.slice (some ⟨U.heap.size,0,none⟩) 64 64]).run Tryz.prog O.drew = .ok (.slice a5 l5 c5) J/\J.cell? ⟨W.heap.size,3,none⟩=some (.slice m w f)/\J.frozen? ⟨W.heap.size,3,none⟩=false/\Hid (∃ad,MC W w0 H A T tp tx y C va p z fn B (Q (k+1)) (Dv E (k+1)) (k+1) ad (.slice a5 l5 c5) (J.setCell ⟨W.heap.size,3,none⟩ (.slice a5 l5 c5)))))):=fun k hk F m w f wr b=>by
  obtain⟨f1,f2,f3,f4⟩:=hb k hk;obtain⟨g1,g2,g3⟩:=hq k hk;have bR:=b.sz;have aL:∃a l c,F0 wr y 287 [.slice a l c]:=by obtain⟨a,l,c,r,_⟩:=b.fd;exact⟨a,l,c,r⟩
  obtain⟨_,_,_,aN⟩:=aL;have aQ:(Dv E k).size<=2000000:=by rw[QW,ai,Af];omega
  refine⟨GD (Dv E k),_,rfl,(b.fd.ref ah aQ).mono ?_⟩;rintro e Y ⟨rfl,y1,y2⟩;obtain⟨Z,eZ,xZ,kZ,sZ,bZ⟩:=De Y [.int .i64 (P k:Nat),.int .u64 (GD (Dv E k):Nat)] 175;have aH:F0 Y W.heap.size 141 _:=b.b5.fr y2 (fun e=>by omega);have aI:F0 Y (W.heap.size+1) 141 _:=b.b6.fr y2 (fun e=>by omega);have aG:Gd w0 H A T tp tx (Q k) F C Y:=b.rd.fr y2 (fun j e=>by subst e;exact⟨aK,ac.1,(b.rd.ne aN (by decide) (by decide) (by decide)).2.1,ah⟩);have au:=aG.below bZ;have cd:=y2.size;refine⟨by rw[f1],Z,eZ,(xZ.cell 0).trans rfl,(xZ.cell 1).trans rfl,?_⟩;refine(au.take_call hD ba (x:=GD (Dv E k)) f2 f3 g1 f4).mono ?_;rintro e U ⟨rfl,u1,u2⟩;have b9:=u2.size;obtain⟨G,e0,x0,k0,s0,b0⟩:=De U (Dc (Di 64)) 188;have xV:F0 (G.setRow U.heap.size (Dc (B k)).toArray) U.heap.size 188 (Dc (B k)):=BQ G _ _ _ 188 _ x0;have bV:Bw U (G.setRow U.heap.size (Dc (B k)).toArray):=b0.trans ⟨rfl,rfl,rfl,by simp,fun j o=>Bn G _ j _ (by omega)⟩;obtain⟨V,hV⟩:∃V,G.setRow U.heap.size (Dc (B k)).toArray=V:=⟨_,rfl⟩;rw[hV]at xV bV;have aF:=u1.below bV;have cc:=bV.size;have ax:=kZ _ _ _ aH;have ay:=kZ _ _ _ aI;have aj:F0 U W.heap.size 141 _:=ax.fr u2 (fun e=>by omega);have ak:F0 U (W.heap.size+1) 141 _:=ay.fr u2 (fun e=>by omega);have aX:F0 U Y.heap.size 175 _:=xZ.fr u2 (fun e=>by omega);have aY:F0 V W.heap.size 141 _:=(bV.block _ aj.lt).trans aj;have bC:F0 V (W.heap.size+1) 141 _:=(bV.block _ ak.lt).trans ak;have a0:F0 V Y.heap.size 175 _:=(bV.block _ aX.lt).trans aX;refine⟨rfl,G,V,e0,x0,hV,(aY.cell 2).trans rfl,(a0.cell 0).trans rfl,?_⟩;have aW:Gd w0 H A T tp tx ((Q k).take (P k)) F C V.drew:=aF.below ⟨rfl,rfl,rfl,Aa _,fun _ _=>rfl⟩;refine(aW.putO_call (r:=Dd 4 fn k) (p:=P k) g3).mono ?_;rintro e O ⟨rfl,ad,r1,r2,r3⟩;rw[<-g2]at r1;have ca:V.heap.size<=O.heap.size:=r2.size;have aB:=aW.lt;have bi:∀j t L,F0 V j t L->t≠350->¬F2 F j:=fun j t L hr ht=>by
   obtain⟨es,_,q2⟩:=aF.es;intro e;obtain⟨R',ab⟩:=q2.type e;unfold F0 at hr ab;rw[hr]at ab;cases ab;exact ht rfl
  have kp:∀j t L,F0 V j t L->j≠A->t≠350->F0 O j t L:=fun j t L hr o ht=>(r2.block j hr.lt (fun e=>e.elim o (bi j t L hr ht))).trans hr
  have aw:=kp _ _ _ aY (by omega) (by decide);have a4:=kp _ _ _ bC (by omega) (by decide);have bF:=kp _ _ _ a0 (by omega) (by decide);have bD:=kp _ _ _ xV (by omega) (by decide);have bE:F0 O.drew U.heap.size 188 _:=bD;have af:Fr (fun j=>j=y\/j=A\/F2 F j) wr O:=by
   have a1:Fr (fun j=>j=y\/j=A\/F2 F j) wr Z:=(y2.mono (Y:=fun j=>j=y\/j=A\/F2 F j) (fun j _ e => .inl e)).then (Fr.of_below (X:=fun _=>False) bZ) (fun _ _ e=>e.elim);have a2:=a1.then u2 (fun j _ e => .inr (.inl e));have a3:Fr (fun j=>j=y\/j=A\/F2 F j) wr V.drew:=by
    have:=a2.then (Fr.of_below (X:=fun _=>False) bV) (fun _ _ e=>e.elim);exact⟨this.os,this.tape,this.output,this.size,this.block⟩
   exact a3.then r2 (fun j _ e => .inr e)
  have bb:∀j,F2 (.slice m w f) j->¬(j=y\/j=A\/F2 F j):=fun j o e=>by
   obtain⟨R',ab⟩:=b.dt.typed o;have n5:=b.dt.2 j o;rcases e with e|e|e
   ·omega
   ·omega
   ·obtain⟨es,_,q2⟩:=b.rd.es;obtain⟨R2,ae⟩:=q2.type e;unfold F0 at ab ae;rw[ab]at ae;cases ae
  have bI:Gp (W.heap.size+2) O.drew (.slice m w f) (CB B k):=⟨b.dt.1.fr ⟨af.os,af.tape,af.output,af.size,af.block⟩ bb,b.dt.2⟩;have ci:k<=1024:=by omega
  obtain⟨a5,l5,c5,J,m1,m2,m3,m4⟩:=J2 O.drew (W.heap.size+2) (by show _<=O.heap.size;omega) (.slice m w f) _ bI ⟨U.heap.size,0,none⟩ 64 64 (B k) (hB k) (fun j u hu=>by rw[AL,Av,bE.cell];exact hu) (by rw[Uf hB];omega);have cb:O.heap.size<=J.heap.size:=m3.size;have ap:∀j,j<W.heap.size+2->¬F2 (.slice m w f) j:=fun j o e=>by have:=b.dt.2 j e;omega
  have bW:∀j,j<W.heap.size+2->¬F2 (.slice a5 l5 c5) j:=fun j o e=>by have:=m2.2 j e;omega
  have am:F0 J W.heap.size 141 _:=(m3.block _ aw.lt (ap _ (by omega))).trans aw;have bG:F0 J (W.heap.size+1) 141 _:=(m3.block _ a4.lt (ap _ (by omega))).trans a4;refine⟨rfl,(aw.cell 2).trans rfl,(bF.cell 0).trans rfl,(aw.cell 3).trans rfl,a5,l5,c5,J,m1,(am.cell 3).trans rfl,am.frozen 3,ad,?_⟩;obtain⟨cj,ck,cl⟩:=r1.lt;have aP:∀j,F2 (.slice m w f) j->¬F2 ad j/\¬F2 C j:=fun j o=>by
   have n5:=b.dt.2 j o;have ch:j<wr.heap.size:=b.dt.1.lt o;refine⟨fun e=>?_,fun e=>by have:=aa j e;omega⟩;rcases r3 j e with e|e
   ·exact bb j o (.inr (.inr e))
   ·have:V.drew.heap.size=V.heap.size:=rfl;omega
  have bX:Gd w0 H A T tp tx (Q (k+1)) ad C O.drew:=r1.below ⟨rfl,rfl,rfl,Aa _,fun _ _=>rfl⟩;have aV:Gd w0 H A T tp tx (Q (k+1)) ad C J:=bX.fr m3 (fun j o=>⟨by have:=b.dt.2 j o;omega,by have:=b.dt.2 j o;omega,(aP j o).1,(aP j o).2⟩);have an:Fr (fun j=>j=W.heap.size) J (J.setCell ⟨W.heap.size,3,none⟩ (.slice a5 l5 c5)):=by
   exact(Fr.refl (fun j=>j=W.heap.size) J).set ⟨W.heap.size,3,none⟩ (.slice a5 l5 c5) rfl
  have bS:¬F2 ad W.heap.size:=fun e=>by
   obtain⟨es,_,q2⟩:=aV.es;obtain⟨R2,ae⟩:=q2.type e;unfold F0 at am ae;rw[am]at ae;cases ae
  have bB:=aV.fr an (fun j e=>by subst e;exact⟨aO,by omega,bS,fun e=>by have:=aa _ e;omega⟩);have bK:GH y (Dv E (k+1)) C (J.setCell ⟨W.heap.size,3,none⟩ (.slice a5 l5 c5)):=by
   have t1:GH y (Dv E (k+1)) C Z:=y1.below bZ (fun j o=>by have:=aa j o;omega);have ao:∀j,F2 C j->j<Z.heap.size:=fun j o=>by have:=aa j o;have:=bZ.size;omega
   have t2:GH y (Dv E (k+1)) C U:=t1.fr u2 (fun e=>ac.1 e) (fun j o e=>h.ot (by rw[<-e];exact o)) ao;have t3:GH y (Dv E (k+1)) C V:=t2.below bV (fun j o=>by have:=ao j o;omega);have t4:GH y (Dv E (k+1)) C O:=GH.fr (W:=V.drew) t3 r2 (fun e=>e.elim ac.1 (fun e=>by
    obtain⟨_,_,_,rr,_⟩:=t3;exact bi y _ _ rr (by decide) e)) (fun j o e=>e.elim (fun e=>h.ot (by rw[<-e];exact o)) (fun e=>(aF.oa j e).2.2 o)) (fun j o=>by show j<V.heap.size;have:=ao j o;omega)
   have bU:∀j,F2 C j->j<O.drew.heap.size:=fun j o=>by show j<O.heap.size;have:=ao j o;omega
   have t5:GH y (Dv E (k+1)) C J:=GH.fr (W:=O.drew) t4 m3 (fun e=>by have:=b.dt.2 y e;omega) (fun j o e=>(aP j e).2 o) bU;exact t5.fr an (fun e=>by omega) (fun j o e=>by have:=aa j o;omega) (fun j o=>by have:=ao j o;omega)
  have bQ:F0 (J.setCell ⟨W.heap.size,3,none⟩ (.slice a5 l5 c5)) W.heap.size 141 [.string p,.int .u8 (z:Nat),.int .i64 (fn:Nat),.slice a5 l5 c5]:=am.set 3 (.slice a5 l5 c5);have bJ:Gp (W.heap.size+2) (J.setCell ⟨W.heap.size,3,none⟩ (.slice a5 l5 c5)) (.slice a5 l5 c5) (CB B (k+1)):=⟨m2.1.fr an (fun g hg e=>bW W.heap.size (by omega) (by rw[<-e];exact hg)),m2.2⟩;refine⟨bB,bK,bQ,bG.fr an (fun e=>by omega),bJ,?_,fun g hg=>?_,?_⟩
  ·refine Fr.then (Fr.then (Fr.then b.fr af (fun j o e=>?_)) (w2:=J) ⟨m3.os,m3.tape,m3.output,m3.size,m3.block⟩ (fun j o e=>absurd e (ap j (by omega)))) an (fun j o e=>by omega);rcases e with e|e|e
   ·exact .inr (.inr e)
   ·exact .inl e
   ·exact(b.na j e).elim (fun e => .inr (.inl e)) (fun e=>by omega)
  ·rcases r3 g hg with e|e
   ·exact(b.na g e).imp id (fun e=>e)
   ·have:V.drew.heap.size=V.heap.size:=rfl;exact .inr (by omega)
  ·have:(J.setCell ⟨W.heap.size,3,none⟩ (.slice a5 l5 c5)).heap.size=J.heap.size:=by simp[World.setCell]
   omega
 have bl:Hid (∀(aA:N<=64*K) F m w f wr,MC W w0 H A T tp tx y C va p z fn B (Q K) (Dv E K) K F (.slice m w f) wr->N<=f/\F0 wr W.heap.size 141 [.string p,.int .u8 (z:Nat),.int .i64 (fn:Nat),.slice m w f]/\∃w1,wr.setCell ⟨W.heap.size,3,none⟩ (.slice m N f)=w1/\F0 w1 W.heap.size 141 [.string p,.int .u8 (z:Nat),.int .i64 (fn:Nat),.slice m N f]/\F0 w1 (W.heap.size+1) 141 [.string ⟨#[]⟩,.int .u8 0,.int .i64 0,.slice none 0 0]/\
   Hid (KD W w0 H A T tp tx y C va p z fn B N K (Q K) (Dv E K) (.returned (.tuple #[.agg #[.string p,.int .u8 (z:Nat),.int .i64 (fn:Nat),.slice m N f],.bool true])) ((((w1.setCell ⟨W.heap.size+1,0,none⟩ (.string p)).setCell ⟨W.heap.size+1,1,none⟩ (.int .u8 (z:Nat))).setCell ⟨W.heap.size+1,2,none⟩ (.int .i64 (fn:Nat))).setCell ⟨W.heap.size+1,3,none⟩ (.slice m N f)))):=fun aA F m w f wr b=>by
  obtain⟨d,hd⟩:=ex ((CB B K).extract 0 N);have a7:=Uf hB K;have hN:N=d.size:=by rw[hd,Af,a7];omega
  have bA:d.size<=(CB B K).size:=by rw[a7];omega
  have bw:(BL (CB B K)).take d.size=BL d:=by rw[<-hN,hd,JV];rfl
  have bH:=b.dt.cut bA bw;have a6:N<=f:=by
   rcases b.dt.1.2 with⟨e,h0⟩|⟨g,bY,L,e,_,q1,_⟩
   ·cases e;omega
   ·cases e;omega
  have bd:∀M j,F2 (.slice m M f) j->F2 (.slice m w f) j:=fun M j e=>by cases m<;>exact e
  have ap:∀j,j<W.heap.size+2->¬F2 (.slice m N f) j:=fun j o e=>by have:=b.dt.2 j (bd _ j e);omega
  have f1:Fr (fun j=>j=W.heap.size\/j=W.heap.size+1) wr ((((( wr.setCell ⟨W.heap.size,3,none⟩ (.slice m N f)).setCell ⟨W.heap.size+1,0,none⟩ (.string p)).setCell ⟨W.heap.size+1,1,none⟩ (.int .u8 (z:Nat))).setCell ⟨W.heap.size+1,2,none⟩ (.int .i64 (fn:Nat))).setCell ⟨W.heap.size+1,3,none⟩ (.slice m N f)):=((((( Fr.refl (fun j=>j=W.heap.size\/j=W.heap.size+1) wr).set ⟨W.heap.size,3,none⟩ _ (.inl rfl)).set ⟨W.heap.size+1,0,none⟩ _ (.inr rfl)).set ⟨W.heap.size+1,1,none⟩ _ (.inr rfl)).set ⟨W.heap.size+1,2,none⟩ _ (.inr rfl)).set ⟨W.heap.size+1,3,none⟩ _ (.inr rfl);have h5:F0 (wr.setCell ⟨W.heap.size,3,none⟩ (.slice m N f)) W.heap.size 141 [.string p,.int .u8 (z:Nat),.int .i64 (fn:Nat),.slice m N f]:=b.b5.set 3 (.slice m N f);have h6:F0 (wr.setCell ⟨W.heap.size,3,none⟩ (.slice m N f)) (W.heap.size+1) 141 _:=(AB _ _ _ _ (show W.heap.size+1≠W.heap.size by omega)).trans b.b6;have nv:∀j t L,F0 wr j t L->t≠350->¬F2 F j:=fun j t L hr ht e=>by
   obtain⟨es,_,q2⟩:=b.rd.es;obtain⟨R',ab⟩:=q2.type e;unfold F0 at hr ab;rw[hr]at ab;cases ab;exact ht rfl
  have bT:∀j,F2 C j->j<wr.heap.size:=fun j o=>by have:=aa j o;have:=b.sz;omega
  refine⟨a6,b.b5,_,rfl,h5,h6,?_⟩;unfold Hid KD;rw[if_pos aA,<-hd];rw[hN]at *;refine⟨m,f,F,rfl,b.rd.fr f1 (fun j e=>?_),b.fd.fr f1 (fun e=>by omega) (fun j o e=>by have:=aa j o;omega) bT,bH.fr f1 (fun g hg e=>ap g (by omega) hg),fun j o=>b.dt.2 j (bd _ j o),b.fr.then f1 (fun j o e=>by omega),b.na⟩;rcases e with e|e
  ·subst e;exact⟨aO,by omega,nv _ _ _ b.b5 (by decide),fun e=>by have:=aa _ e;omega⟩
  ·subst e;exact⟨by omega,by omega,nv _ _ _ b.b6 (by decide),fun e=>by have:=aa _ e;omega⟩
 have bs:Hid (∀k,k<K->∀V,Cl 244 #[.int .u8 4,.int .i64 (fn:Nat),.int .i64 (k:Nat)] V fun e w'=>e = .returned (.int .u64 ((4*4294967296+fn*65536+k:Nat):Int))/\w'=V):=fun k hk V=>UH V 4 fn k (by omega) (by omega) (by omega)
 have bn:Hid (∀k F m w f wr,MC W w0 H A T tp tx y C va p z fn B (Q k) (Dv E k) k F (.slice m w f) wr->w=64*k):=fun k F m w f wr b=>by
  have:=Sl.len b.dt.1;rw[Uf hB]at this;exact this
 have aR:Hid (∀k,(Dc (B k)).length=64):=fun k=>by rw[Dh,hB]
 have bo:Hid (64*K<N->∀F m w f wr,MC W w0 H A T tp tx y C va p z fn B (Q K) (Dv E K) K F (.slice m w f) wr->∃X R,Cl 238 #[.pointer (some ⟨y,0,none⟩)] wr fun e Y=>e = .returned (.agg #[.int .i64 (R:Nat),.int .u64 (X:Nat)])/\∃Z,Y.alloc (.cells #[.int .i64 (R:Nat),.int .u64 (X:Nat)] 175)=Z/\Z.cell? ⟨Y.heap.size,0,none⟩=some (.int .i64 (R:Nat))/\Z.cell? ⟨Y.heap.size,1,none⟩=some (.int .u64 (X:Nat))/\
   Hid (Cl 241 #[.pointer (some ⟨A,0,none⟩),.agg #[.int .i64 (R:Nat),.int .u64 (X:Nat)]] Z fun e U=>e = .returned (.tuple #[DB (Di 64),.bool false])/\∃G V,U.alloc (.cells (Dc (Di 64)).toArray 188)=G/\F0 G U.heap.size 188 (Dc (Di 64))/\G.setRow U.heap.size (Dc (Di 64)).toArray=V/\F0 V W.heap.size 141 [.string p,.int .u8 (z:Nat),.int .i64 (fn:Nat),.slice m w f]/\F0 V (W.heap.size+1) 141 [.string ⟨#[]⟩,.int .u8 0,.int .i64 0,.slice none 0 0]/\Hid (Ik w0 H A V/\(H<=W.heap.size/\A<W.heap.size)/\Fr (fun j=>j=A\/F2 va j\/j=y) W V))):=fun bO F m w f wr b=>by
  obtain⟨e1,bP⟩:=aJ.resolve_left (by omega);have bR:=b.sz;have aL:∃a l c,F0 wr y 287 [.slice a l c]:=by obtain⟨a,l,c,r,_⟩:=b.fd;exact⟨a,l,c,r⟩
  obtain⟨_,_,_,aN⟩:=aL;have aQ:(Dv E K).size<=2000000:=by rw[QW,ai,Af];omega
  refine⟨GD (Dv E K),Gu (Dv E K),(b.fd.ref ah aQ).mono ?_⟩;rintro e Y ⟨rfl,y1,y2⟩;obtain⟨Z,eZ,xZ,kZ,sZ,bZ⟩:=De Y [.int .i64 (Gu (Dv E K):Nat),.int .u64 (GD (Dv E K):Nat)] 175;have aH:F0 Y W.heap.size 141 _:=b.b5.fr y2 (fun e=>by omega);have aI:F0 Y (W.heap.size+1) 141 _:=b.b6.fr y2 (fun e=>by omega);have aG:Gd w0 H A T tp tx (Q K) F C Y:=b.rd.fr y2 (fun j e=>by subst e;exact⟨aK,ac.1,(b.rd.ne aN (by decide) (by decide) (by decide)).2.1,ah⟩);have au:=aG.below bZ;refine⟨rfl,Z,eZ,(xZ.cell 0).trans rfl,(xZ.cell 1).trans rfl,?_⟩;refine(au.take_no (x:=GD (Dv E K)) bP).mono ?_;rintro e U ⟨rfl,u2⟩;obtain⟨G,e0,x0,k0,s0,b0⟩:=De U (Dc (Di 64)) 188;have bV:Bw U (G.setRow U.heap.size (Dc (Di 64)).toArray):=b0.trans ⟨rfl,rfl,rfl,by simp,fun j o=>Bn G _ j _ (by omega)⟩;have ax:=kZ _ _ _ aH;have ay:=kZ _ _ _ aI;have aj:F0 U W.heap.size 141 _:=(u2.block _ ax.lt).trans ax;have ak:F0 U (W.heap.size+1) 141 _:=(u2.block _ ay.lt).trans ay;exact⟨rfl,G,_,e0,x0,rfl,(bV.block _ aj.lt).trans aj,(bV.block _ ak.lt).trans ak,((au.below u2).below bV).no,⟨aO,a8⟩,(((b.fr.then y2 (fun j _ e => .inr (.inr e))).then (Fr.of_below (X:=fun _=>False) bZ) (fun _ _ e=>e.elim)).then (Fr.of_below (X:=fun _=>False) u2) (fun _ _ e=>e.elim)).then (Fr.of_below (X:=fun _=>False) bV) (fun _ _ e=>e.elim)⟩
 have bh:(Dc (Di 64)).length=64:=by rw[Dh,Jd]
 have bv:=Db bh;have bm:=Db aE;have bj:=Db e1;have bk:=Db e2;clear e1 e2 x1 x2 k1 k2 s1 s2 b1 b2 az h hD ba hf hb hq bc aE a8 bM aa ai ac aM ah aJ ag hB aU bh;go_enter Tryz.func246,Tryz.ntmps246;go_upto_region 1 with fail;rw[show W.alloc (.cells #[.string p,.int .u8 (z:Nat),.int .i64 (fn:Nat),.slice none 0 0] 141)=W1 from Da bj,show W1.alloc (.cells #[.string ⟨#[]⟩,.int .u8 0,.int .i64 0,.slice none 0 0] 141)=W2 from Da bk];have ce:IntKind.i64.wrap (N:Int)=(N:Int):=by rw[AX];omega
 go_wp2_with (go_at_call 240;refine(Da aS).mono ?_;rintro e X ⟨rfl,ar⟩);clear aS
 go_loopw [9] (fun i wr=>∃k:Nat,k<=K/\i = .int .i64 (k:Nat)/\Hid (∃F m w f,MC W w0 H A T tp tx y C va p z fn B (Q k) (Dv E k) k F (.slice m w f) wr)) (fun i _=>K-(intOf i).toNat)
 case atStart=>exact⟨0,by omega,rfl,va,none,0,0,Da ar⟩
 case round=>
  obtain⟨k,hk,rfl,HI⟩:=hrel;obtain⟨F,m,w,f,b⟩:=Da HI;have aB:=Da bn _ _ _ _ _ _ b;have c3:=(b.b5.cell 3).trans (show _=some (Value.slice m w f) from rfl);by_cases ag:k<K
  ·obtain⟨X2,VB,aZ,hC⟩:=Da br k ag F m w f wr b;have HC:=Db hC;have bt:=Db aZ;have a9:(w:Int)<(N:Int):=by have:=Da bm k ag;omega
   have bp:=Db (Da bs k ag);clear hC aZ b HI ar aB;go_upto_region 6 with(go_at_call 238;refine(Da HC).mono ?_;rintro e Y ⟨rfl,Z,hZ,z0,z1,HT⟩;have HZ:=Db hZ;clear hZ);rw[show Y.alloc (.cells #[.int .i64 (P k:Nat),.int .u64 (X2:Nat)] 175)=Z from Da HZ];go_upto_region 7 with(first|(go_at_call 241;refine(Da HT).mono ?_;rintro e U ⟨rfl,G,V,al,aq,hV,v2,vp,HP⟩;have aC:=Db al;have aD:=Db aq;have HV:=Db hV;clear al aq hV)|(refine Ju rfl 188 rfl JU ?_;rw[show U.alloc (.cells (Dc (Di 64)).toArray 188)=G from Da aC])|(refine Bs rfl 188 _ _ rfl U.heap.size (Dc (B k)).toArray rfl (Da bt) 188 _ (Da aD) (by rw[D7];simp[Da aR k]) (by simp[Da aR k,Dh,Jd]) (J8 _) ?_;rw[Da HV]));go_upto_region 9 with fail;refine AD (S:=fun V=>V.cell? ⟨W.heap.size,2,none⟩=some (.int .i64 (fn:Nat))/\V.cell? ⟨Y.heap.size,0,none⟩=some (.int .i64 (P k:Nat))) (by kernel_rfl) ⟨v2,vp⟩ (fun aT=>?_);refine tk 0 ?_;try simp only[pE];refine tk 1 ?_;try simp only[pE];refine tk 2 ?_;try simp only[pE];refine tk 3 ?_;try simp only[pE];refine tk 4 ?_;try simp only[pE];refine tk 5 ?_;try simp only[pE];refine tk 6 ?_;try simp only[pE];refine tk 8 ?_;try simp only[pE];refine tk 9 ?_;try simp only[pE];refine rk 7 (fun K hK=>?_);go_simp;go_at_call 244;refine(Da bp _).mono ?_;rintro e w' ⟨rfl,bf⟩;rw[bf];clear bf;go_wp2_with fail;refine hK.out _ _ ⟨v2,vp⟩ (fun bz=>?_);clear hK K
   (try simp only[pE])
   refine rk 10 (fun K hK=>?_);go_simp;go_at_call 243;refine(Da HP).mono ?_;rintro e O ⟨rfl,y1,y2,y3,a5,l5,c5,J,be,y4,y5,HN⟩;have bq:=Db be;clear be;go_wp2_with fail;refine hK.out _ _ ⟨y1,y2⟩ (fun bx=>?_);clear hK K
   (try simp only[pE])
   refine AW (by kernel_rfl) ?_ _;clear aT bz bx v2 vp HP HT HC c3 z0 z1;go_upto_region 10 with fail;refine AD (S:=fun V=>True) (by kernel_rfl) AQ (fun aT=>?_);refine tk 0 ?_;try simp only[pE];refine tk 2 ?_;try simp only[pE];refine rk 1 (fun K hK=>?_);go_simp;refine hK.out _ _ AQ (fun b3=>?_);clear hK K
   (try simp only[pE])
   refine rk 3 (fun K hK=>?_);refine JO rfl _ _ 59 59 rfl _ _ rfl rfl (Da bq) ?_;refine hK.out _ _ AQ (fun b4=>?_);clear hK K
   (try simp only[pE])
   refine tk 4 ?_;try simp only[pE];refine rk 5 (fun K hK=>?_);go_simp;refine hK.out _ _ AQ (fun b5=>?_);clear hK K
   (try simp only[pE])
   refine AW (by kernel_rfl) ?_ _;go_wp2
   go_roundw
   case rel=>
    obtain⟨ad,h3⟩:=Da HN;exact⟨k+1,by omega,by go_num,ad,a5,l5,c5,h3⟩
   case measure=>simp[intOf];omega
  ·obtain rfl:k=K:=by omega
   rcases AO (64*k) N with bO|aA
   rotate_left
   ·obtain⟨a6,r5,w1,bg,t5,I,HF⟩:=Da bl aA _ _ _ _ _ b;have a9:¬(w:Int)<(N:Int):=by omega
    have bu:=Db bg;have b8:N<=w:=by omega
    clear b HI ar bg aB;have qf:=r5.frozen 3;have t0:=(t5.cell 0).trans (show _=some (Value.string p) from rfl);have t1:=(t5.cell 1).trans (show _=some (Value.int .u8 (z:Nat)) from rfl);have t2:=(t5.cell 2).trans (show _=some (Value.int .i64 (fn:Nat)) from rfl);have t3:=(t5.cell 3).trans (show _=some (Value.slice m N f) from rfl);have z0:=I.cell 0;have z1:=I.cell 1;have z2:=I.cell 2;have z3:=I.cell 3;have y0:=I.frozen 0;have y1:=I.frozen 1;have y2:=I.frozen 2;have y3:=I.frozen 3;have hR:=JX I (.string p) (.int .u8 (z:Nat)) (.int .i64 (fn:Nat)) (.slice m N f);have HR:=Db hR;have bN:¬W.heap.size+1=W.heap.size:=by omega
    clear hR t5 I r5;go_upto_region 12 with fail;rw[show wr.setCell ⟨W.heap.size,3,none⟩ (.slice m N f)=w1 from Da bu];go_wp2;have r0:=(Da HR).cell 0;have r1:=(Da HR).cell 1;have r2:=(Da HR).cell 2;have r3:=(Da HR).cell 3;exact Ax (v := .tuple #[.agg #[.string p,.int .u8 (z:Nat),.int .i64 (fn:Nat),.slice m N f],.bool true]) (by simp[results,Tryz.results246,go_sem,r0,r1,r2,r3]) rfl (Da HF)
   ·have a9:(w:Int)<(N:Int):=by omega
    obtain⟨X2,R,hC⟩:=Da bo (by omega) F m w f wr b;have HC:=Db hC;clear hC b HI ar aB;go_upto_region 6 with(go_at_call 238;refine(Da HC).mono ?_;rintro e Y ⟨rfl,Z,hZ,z0,z1,HT⟩;have HZ:=Db hZ;clear hZ);rw[show Y.alloc (.cells #[.int .i64 (R:Nat),.int .u64 (X2:Nat)] 175)=Z from Da HZ];go_upto_region 8 with(first|(go_at_call 241;refine(Da HT).mono ?_;rintro e U ⟨rfl,G,V,al,aq,hV,t5,I,HB⟩;have aC:=Db al;have aD:=Db aq;have HV:=Db hV;clear al aq hV)|(refine Ju rfl 188 rfl JU ?_;rw[show U.alloc (.cells (Dc (Di 64)).toArray 188)=G from Da aC])|(refine Bs rfl 188 _ _ rfl U.heap.size (Dc (Di 64)).toArray rfl rfl 188 _ (Da aD) (by rw[D7];simp[Da bv]) (by simp) (J8 _) ?_;rw[Da HV]));have t0:=(t5.cell 0).trans (show _=some (Value.string p) from rfl);have t1:=(t5.cell 1).trans (show _=some (Value.int .u8 (z:Nat)) from rfl);have t2:=(t5.cell 2).trans (show _=some (Value.int .i64 (fn:Nat)) from rfl);have t3:=(t5.cell 3).trans (show _=some (Value.slice m w f) from rfl);have z0:=I.cell 0;have z1:=I.cell 1;have z2:=I.cell 2;have z3:=I.cell 3;have y0:=I.frozen 0;have y1:=I.frozen 1;have y2:=I.frozen 2;have y3:=I.frozen 3;have hR:=JX I (.string p) (.int .u8 (z:Nat)) (.int .i64 (fn:Nat)) (.slice m w f);have HR:=Db hR;have HF:Hid (KD W w0 H A T tp tx y C va p z fn B N k (Q k) (Dv E k) (.returned (.tuple #[.agg #[.string p,.int .u8 (z:Nat),.int .i64 (fn:Nat),.slice m w f],.bool false])) ((((V.setCell ⟨W.heap.size+1,0,none⟩ (.string p)).setCell ⟨W.heap.size+1,1,none⟩ (.int .u8 (z:Nat))).setCell ⟨W.heap.size+1,2,none⟩ (.int .i64 (fn:Nat))).setCell ⟨W.heap.size+1,3,none⟩ (.slice m w f))):=by
     unfold KD;rw[if_neg (by omega)];obtain⟨m1,m2,m4⟩:=Da HB;have f1:Fr (fun j=>j=W.heap.size+1) V ((((V.setCell ⟨W.heap.size+1,0,none⟩ (.string p)).setCell ⟨W.heap.size+1,1,none⟩ (.int .u8 (z:Nat))).setCell ⟨W.heap.size+1,2,none⟩ (.int .i64 (fn:Nat))).setCell ⟨W.heap.size+1,3,none⟩ (.slice m w f)):=((((Fr.refl (fun j=>j=W.heap.size+1) V).set ⟨W.heap.size+1,0,none⟩ _ rfl).set ⟨W.heap.size+1,1,none⟩ _ rfl).set ⟨W.heap.size+1,2,none⟩ _ rfl).set ⟨W.heap.size+1,3,none⟩ _ rfl;have m3:=m1.bel.size;exact⟨m,w,f,rfl,m1.step (n:=W.heap.size) ⟨f1.os,f1.tape,f1.output,f1.size,fun j o=>f1.block j (by have:=I.lt;omega) (fun e=>by omega)⟩ m2.1 m2.2,m4.then f1 (fun k hk e=>by omega)⟩
    have bN:¬W.heap.size+1=W.heap.size:=by omega
    clear hR t5 I;go_wp2;have r0:=(Da HR).cell 0;have r1:=(Da HR).cell 1;have r2:=(Da HR).cell 2;have r3:=(Da HR).cell 3;exact Ax (v := .tuple #[.agg #[.string p,.int .u8 (z:Nat),.int .i64 (fn:Nat),.slice m w f],.bool false]) (by simp[results,Tryz.results246,go_sem,r0,r1,r2,r3]) rfl (Da HF)
end Go.Proofs.YtaieidcohdhgpaaGreatDoor
