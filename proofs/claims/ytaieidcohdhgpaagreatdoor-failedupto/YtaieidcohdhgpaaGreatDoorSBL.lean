/- Failed. -/
import Derived.Test.YtaieidcohdhgpaaGreatDoorSBK
namespace Go.Proofs.YtaieidcohdhgpaaGreatDoor
set_option maxHeartbeats 40000000
set_option maxRecDepth 100000
open Go.RowKit
theorem Zf9:∀(a b:List UInt8),a.take (JJ a b)=b.take (JJ a b)
 | [],b=>by unfold JJ;simp
 | x::a,[]=>by unfold JJ;simp
 | x::a,y::b=>by
  unfold JJ;by_cases h:x=y
  ·subst h;have:=Zf9 a b;simp[this]
  ·simp[h]
theorem Qq(l:List UInt8){n:Nat}(h:n=l.length)(s:By)(r:List UInt8)(a:BL s=l++r):BL (Di s n)=l/\BL (s.extract n s.size)=r:=by
 have aa:s.size=l.length+r.length:=by rw[<-DW,a,List.length_append]
 subst h;rw[KI,J3,a];refine⟨?_,?_⟩
 ·rw[List.append_assoc,List.take_left]
 ·rw[List.drop_left,List.take_of_length_le (by omega)]
theorem ZdI(u:UInt8):DL [u]=u.toNat:=by simp[DL]
theorem Qa{n:Nat}(h:n<256):(UInt8.ofNat n).toNat=n:=by simp;omega
theorem EnBy.of{D:LY}{E:Env}{C:NB}{o:By}{x:It}{s q:By}(hs:BL s=BL (J5 E C o x)++BL q)(hp:(jn x.ns).size<=100)(hf:x.f<60)(Q:(C x.f).size<=1280)
  (aa:∀r,plE E r<1536) (R:∀k,k<nBl (C x.f)->16<=plE E (Dd 4 x.f k)/\plE E (Dd 4 x.f k)<1536/\D[plE E (Dd 4 x.f k)]?=some (dtB (C x.f) k)):
  EnBy D s o (jn x.ns) x.f (C x.f) (fun k=>plE E (Dd 4 x.f k)) q:=by
 obtain⟨p,A⟩:∃p,p=jn x.ns:=⟨_,rfl⟩;obtain⟨d,b⟩:∃d,d=C x.f:=⟨_,rfl⟩;obtain⟨a,F⟩:∃a,a=JP o p:=⟨_,rfl⟩;have T:=Ua o p;rw[<-F]at T;obtain⟨c,B⟩:∃c,c=DN (fun k=>DU (plE E (Dd 4 x.f k)) (Dp (dtB d k))) (nBl d):=⟨_,rfl⟩;have Y:BL s=[UInt8.ofNat 2]++([UInt8.ofNat a]++([UInt8.ofNat (p.size-a)]++(BL (p.extract a p.size)++([UInt8.ofNat x.f]++(Dz d.size 2++(c++BL q)))))):=by
  rw[hs];unfold J5 Ds Do;rw[<-A,<-b,<-F,Jb,Jb,Jb,Jb,<-B];have h1:BL (⟨#[UInt8.ofNat 2,UInt8.ofNat a,UInt8.ofNat (p.size-a)]⟩:By)=[UInt8.ofNat 2,UInt8.ofNat a,UInt8.ofNat (p.size-a)]:=rfl;have e:BL (⟨#[UInt8.ofNat x.f]⟩:By)=[UInt8.ofNat x.f]:=rfl;have t:BL (Ja d.size 2)=Dz d.size 2:=Kx _;have u:BL (⟨c.toArray⟩:By)=c:=Kx _;rw[h1,e,t,u];simp only[List.append_assoc,List.cons_append,List.nil_append]
 rw[<-A]at hp;obtain⟨U,H⟩:=Qq _ (n:=1) rfl s _ Y;obtain⟨g,e⟩:∃g,g=s.extract 1 s.size:=⟨_,rfl⟩;rw[<-e]at H;obtain⟨V,I⟩:=Qq _ (n:=1) rfl g _ H;obtain⟨h,t⟩:∃h,h=g.extract 1 g.size:=⟨_,rfl⟩;rw[<-t]at I;obtain⟨W,J⟩:=Qq _ (n:=1) rfl h _ I;obtain⟨i,u⟩:∃i,i=h.extract 1 h.size:=⟨_,rfl⟩;rw[<-u]at J;have hn:p.size-a=(BL (p.extract a p.size)).length:=by rw[DW,ByteArray.size_extract];omega
 obtain⟨X,K⟩:=Qq _ hn i _ J;obtain⟨j,N⟩:∃j,j=i.extract (p.size-a) i.size:=⟨_,rfl⟩;rw[<-N]at K;obtain⟨Z,L⟩:=Qq _ (n:=1) rfl j _ K;obtain⟨s6,O⟩:∃s6,s6=j.extract 1 j.size:=⟨_,rfl⟩;rw[<-O]at L;obtain⟨g1,w⟩:=Qq _ (n:=2) (D5 2 _).symm s6 _ L;obtain⟨G,y⟩:∃G,G=s6.extract 2 s6.size:=⟨_,rfl⟩;rw[<-y]at w;have S:((256:Nat) ^ 2)=65536:=rfl;have z:=KK (f:=fun k=>DU (plE E (Dd 4 x.f k)) (Dp (dtB d k))) (m:=10) (fun k=>J4 _ _) (nBl d);rw[<-B]at z;rw[<-b]at Q R;refine⟨g,h,i,j,s6,a,p.size-a,T.1,by omega,hf,e,t,u,N,O,?_,?_,?_,?_,?_,by rw[<-b];exact Q,?_,fun k v=>⟨?_,?_⟩,?_⟩
 ·rw[U,ZdI];rfl
 ·rw[V,ZdI,Qa (by omega)]
 ·rw[W,ZdI,Qa (by omega)]
 ·refine KQ ?_;rw[Jb,X,J3,J3,List.drop_zero,Nat.sub_zero,<-A,List.take_of_length_le (l:=(BL p).drop a) (by rw[List.length_drop,DW];exact Nat.le_refl _)];have:(BL o).take a=(BL p).take a:=by rw[F];exact Zf9 _ _
  rw[this,List.take_append_drop]
 ·rw[Z,ZdI,Qa (by omega)]
 ·rw[g1,Kh 2 _ (by rw[S];omega),<-b]
 ·rw[<-b]at v;have P:BL (DC G k)=(c++BL q).drop (10*k):=by rw[U9,w]
  rw[<-y];have M:=Uj (f:=fun k=>DU (plE E (Dd 4 x.f k)) (Dp (dtB d k))) (m:=10) (fun k=>J4 _ _) (nBl d) k v;rw[<-B]at M;have ab:=congrArg List.length P;rw[DW,List.length_drop,List.length_append,z]at ab;rw[Zk5 _ (by omega),P,List.drop_append_of_le_length (by omega)];have e:((c.drop (10*k)++BL q).take 2)=(DU (plE E (Dd 4 x.f k)) (Dp (dtB d k))).take 2:=by
   rw[<-M,List.take_take,show min 2 10=2 from rfl,List.take_append_of_le_length (by rw[List.length_drop];omega)]
  rw[e];unfold DU;rw[List.take_left' (D5 2 _),Kh 2 _ (by rw[S];have:=aa (Dd 4 x.f k);omega)]
 ·rw[<-b]at v ⊢;exact R k v
 ·refine KQ ?_;rw[<-b,<-y,U9,w,<-z,List.drop_left]
theorem Vg(s:List UInt8)(m:Nat):∀n,DN (fun i=>(((s.drop (i*m)).take m)++List.replicate m 0).take m) n=(s++List.replicate (m*n) 0).take (m*n)
 | 0=>by simp[DN]
 | n+1=>by
  unfold DN;rw[Vg s m n];have e:m*(n+1)=m*n+m:=Nat.mul_succ m n;rw[e,List.take_add]
  congr 1
  ·rw[<-List.replicate_append_replicate,<-List.append_assoc,List.take_append_of_le_length (l₁ := s++List.replicate (m*n) 0) (by rw[List.length_append,List.length_replicate];omega)]
  ·rw[Nat.mul_comm n m,List.drop_append];rcases Nat.le_total (m*n) s.length with h|h
   ·rw[show m*n-s.length=0 by omega,List.drop_zero];rw[List.take_append,List.take_take,Nat.min_self,List.take_append,List.length_take,List.length_drop,List.take_replicate,List.take_replicate]
    congr 2
    omega
   ·rw[List.drop_of_length_le h,List.take_nil,List.nil_append,List.nil_append,List.drop_replicate,List.take_replicate,List.take_replicate]
    congr 1
    omega
theorem SrtR.ext{a b:LI}(k:SrtR a)(l:SrtR b)(h:∀x,x∈a↔x∈b):a=b:=by
 have m:List.Perm a b:=(List.perm_ext_iff_of_nodup k.nodup l.nodup).2 h;refine List.Perm.eq_of_pairwise (le:=fun x y=>ltI x.1 y.1=true) (fun x y _ _ f g=>?_) ?_ ?_ m
 ·unfold ltI at f g;simp only[decide_eq_true_eq]at f g;omega
 ·rw[List.pairwise_iff_getElem];exact fun i j c e d=>k i j _ _ d (List.getElem?_eq_getElem c) (List.getElem?_eq_getElem e)
 ·rw[List.pairwise_iff_getElem];exact fun i j c e d=>l i j _ _ d (List.getElem?_eq_getElem c) (List.getElem?_eq_getElem e)
structure FlatL(C:NB)(L:List It):Prop where
 k2:∀x∈L,x.k=2
 ns:∀x∈L,∃n,x.ns=[n]/\DP n=true
 nd:(L.map (·.ns)).Nodup
 fd:(L.map (·.f)).Nodup
 le:L.length<=8
 sz:∀x∈L,(C x.f).size<=1280
 num:∀x∈L,x.f<60
theorem FlatL.nms{C:NB}{L:List It}(h:FlatL C L){x:It}(c:x∈L):Nms x.ns/\x.ns≠[]/\x.ns.length<=6:=by
 obtain⟨n,e,b⟩:=h.ns x c;rw[e];exact⟨fun m a=>by rw[List.mem_singleton.1 a];exact b,by simp,by simp⟩
theorem FlatL.path{C:NB}{L:List It}(h:FlatL C L){x:It}(d:x∈L):Df (jn x.ns)=x.ns/\DQ (jn x.ns)=true/\(jn x.ns).size<=78:=by
 obtain⟨a,b,c⟩:=h.nms d;have:=Zlf a b c;exact⟨ZgS a b,this,Zfm _ this⟩
theorem FlatL.fresh{C:NB}{L:List It}(h:FlatL C L){i j:Nat}{x y:It}(g:L[i]?=some x)(k:L[j]?=some y)(e:x.f=y.f):i=j:=by
 have a:=h.fd;obtain⟨d,b⟩:=List.getElem?_eq_some_iff.1 g;obtain⟨f,c⟩:=List.getElem?_eq_some_iff.1 k;unfold List.Nodup at a;rw[List.pairwise_iff_getElem]at a;rcases Nat.lt_trichotomy i j with q|q|q
 ·have:=a i j (by rw[List.length_map];exact d) (by rw[List.length_map];exact f) q;rw[List.getElem_map,List.getElem_map,b,c]at this;exact absurd e this
 ·exact q
 ·have:=a j i (by rw[List.length_map];exact f) (by rw[List.length_map];exact d) q;rw[List.getElem_map,List.getElem_map,b,c]at this;exact absurd e.symm this
theorem FlatL.ok{C:NB}{L:List It}(h:FlatL C L):ItOk C L:=
 ⟨by have:=h.le;omega,fun x a => .inr (.inl (h.k2 x a)),fun x a=>by have:=(h.path a).2.2;omega,h.num,fun x a _=>h.sz x a,fun i j x y aa b c _ _ e=>by have:=h.fresh b c e;omega⟩
section
variable{D:LY}{R:NB}{N:Nat->Nat}{P X:Nat->Nat->Nat}{B:Nat}
theorem ZjE(a:Rows D R N P X B):Good N P (fun i=>BL (cbT R i)) B (B+1) (Ji N P (cbT R) B 0 J7)/\∀b,b<=B->(Ji N P (cbT R) B 0 J7).tn b=N b:=by
 have d:=a.top;obtain⟨e,⟨f,g⟩,_⟩:=Zfz a (cb:=cbT R) (fun _=>rfl) B (Nat.le_refl _) 0 J7 (by omega) (Good.start N P _ B (B+1)) (TnI.start N B);refine⟨e,fun b hb=>?_⟩;rcases Nat.lt_or_ge b B with h|h
 ·rw[g b h];have c:=Rows.grow a (B-b) b (by omega);rw[show b+(B-b)=B by omega,d]at c;exact Nat.min_eq_right c
 ·obtain rfl:b=B:=by omega
  rw[f,d]
theorem Zkh(a:Rows D R N P X B):∃z,BL (Ji N P (cbT R) B 0 J7).t=BL (R 0)++List.replicate z 0/\z<=62:=by
 obtain⟨b,c⟩:=ZjE a;have e:(fun i=>BL (cbT R i))=(fun i=>((((BL (R 0)).drop (i*63)).take 63)++List.replicate 63 0).take 63):=by
  funext i
  unfold cbT;rw[Zmg];unfold chB;rw[J3,show i*63+63-i*63=63 by omega]
 have hn:=a.n0;rw[b.g5,c 0 (Nat.zero_le _),e,Vg];refine⟨63*N 0-(R 0).size,?_,by omega⟩;rw[List.take_append,List.take_of_length_le (by rw[DW];omega),DW,List.take_replicate]
 congr 2
 omega
end
structure QI(E:Env)(M:Nat->Prop)(n:Nat)(q:RdQ):Prop where
 ins:∀y,y∈q.ins↔M y.1/\y.2=plE E y.1
 tk:∀p,q.tk p=true->∃r,M r/\p=plE E r
 len:q.ins.length<=n
theorem QI.put{E:Env}{M:Nat->Prop}{n:Nat}{q:RdQ}(h:QI E M n q)(r:Nat):QI E (fun k=>M k\/k=r) (n+1) ((q.take (plE E r)).put r (plE E r)):=by
 refine⟨fun y=>?_,fun p d=>?_,?_⟩
 ·show y∈q.ins++[(r,plE E r)]↔_;rw[List.mem_append,h.ins,List.mem_singleton];constructor
  ·rintro(⟨a,b⟩|rfl)
   ·exact⟨.inl a,b⟩
   ·exact⟨.inr rfl,rfl⟩
  ·rintro⟨a|a,b⟩
   ·exact .inl ⟨a,b⟩
   ·exact .inr (Prod.ext a (by rw[b,a]))
 ·have c:(if p=plE E r then true else q.tk p)=true:=d
  split at c
  ·rename_i e;exact⟨r,.inr rfl,e⟩
  ·obtain⟨f,a,b⟩:=h.tk p c;exact⟨f,.inl a,b⟩
 ·show(q.ins++[_]).length<=_;rw[List.length_append];have:=h.len;simp only[List.length_singleton];omega
theorem QI.congr{E:Env}{M a:Nat->Prop}{n c:Nat}{q:RdQ}(h:QI E M n q)(b:∀r,M r↔a r)(f:n<=c):QI E a c q:=
 ⟨fun y=>by rw[h.ins,b],fun p g=>by obtain⟨r,d,e⟩:=h.tk p g;exact⟨r,(b r).1 d,e⟩,Nat.le_trans h.len f⟩
def gi(L:List It)(k:Nat):It:=(L[k]?).getD ⟨[],2,0⟩
theorem Kj{L:List It}{k:Nat}(h:k<L.length):L[k]?=some (gi L k)/\gi L k∈L:=by
 unfold gi;rw[List.getElem?_eq_getElem h];exact⟨rfl,List.getElem_mem h⟩
def rdF(E:Env)(C:NB)(L:List It)(q:RdQ):Nat->RdQ
 | 0=>q
 | k+1=>D3 (rdF E C L q k) (gi L k).f (fun i=>plE E (Dd 4 (gi L k).f i)) (nBl (C (gi L k).f))
def MR(E:Env)(C:NB)(L:List It)(t:By)(B k i r:Nat):Prop:=
 (∃b j,b<=B/\j<nR E t b/\r=Dt b j)\/∃k' i',(k'<k/\i'<nBl (C (gi L k').f)\/k'=k/\i'<i)/\r=Dd 4 (gi L k').f i'
theorem MR.next{E:Env}{C:NB}{L:List It}{t:By}{B k i:Nat}(r:Nat):(MR E C L t B k i r\/r=Dd 4 (gi L k).f i)↔MR E C L t B k (i+1) r:=by
 unfold MR;constructor
 ·rintro((h|⟨d,c,a|a,b⟩)|h)
  ·exact .inl h
  ·exact .inr ⟨d,c,.inl a,b⟩
  ·exact .inr ⟨d,c,.inr ⟨a.1,by omega⟩,b⟩
  ·exact .inr ⟨k,i,.inr ⟨rfl,by omega⟩,h⟩
 ·rintro(h|⟨d,c,a|a,b⟩)
  ·exact .inl (.inl h)
  ·exact .inl (.inr ⟨d,c,.inl a,b⟩)
  ·by_cases e:c=i
   ·obtain⟨rfl,_⟩:=a;subst e;exact .inr b
   ·exact .inl (.inr ⟨d,c,.inr ⟨a.1,by omega⟩,b⟩)
theorem MR.file{E:Env}{C:NB}{L:List It}{t:By}{B k:Nat}(r:Nat):MR E C L t B k (nBl (C (gi L k).f)) r↔MR E C L t B (k+1) 0 r:=by
 unfold MR;constructor
 ·rintro(h|⟨b,d,a|a,c⟩)
  ·exact .inl h
  ·exact .inr ⟨b,d,.inl ⟨by omega,a.2⟩,c⟩
  ·obtain⟨rfl,a⟩:=a;exact .inr ⟨b,d,.inl ⟨by omega,a⟩,c⟩
 ·rintro(h|⟨b,d,a|a,c⟩)
  ·exact .inl h
  ·by_cases e:b=k
   ·subst e;exact .inr ⟨b,d,.inr ⟨rfl,a.2⟩,c⟩
   ·exact .inr ⟨b,d,.inl ⟨by omega,a.2⟩,c⟩
  ·omega
theorem MR.fresh{E:Env}{C:NB}{L:List It}(c:FlatL C L){t:By}{B k i:Nat}(hB:B<8)(m:∀b,b<=B->nR E t b<=1000)(n:k<L.length)(hi:i<nBl (C (gi L k).f)):¬MR E C L t B k i (Dd 4 (gi L k).f i):=by
 obtain⟨h,f⟩:=Kj n;have hf:=c.num _ f;have hn:=KE (c.sz _ f);rintro(⟨b,j,a,e,d⟩|⟨o,i',a|a,e⟩)
 ·have:=m b a;unfold Dt at d
  split at d
  ·have:=ZcY (by omega) (by omega) (by omega) (by omega) d;omega
  ·have:=ZcY (by omega) (by omega) (by omega) (by omega) d;omega
 ·obtain⟨l,g⟩:=Kj (L:=L) (k:=o) (by omega);have aa:=c.num _ g;have ab:=KE (c.sz _ g);have:=c.fresh h l (Zfh (by omega) (by omega) (by omega) (by omega) e);omega
 ·obtain⟨rfl,a⟩:=a;have:=QN e;omega
theorem QI.fil{E:Env}{C:NB}{L:List It}{t:By}{B:Nat}{q:RdQ}{k n:Nat}(h:QI E (MR E C L t B k 0) n q):∀i,QI E (MR E C L t B k i) (n+i) (D3 q (gi L k).f (fun i=>plE E (Dd 4 (gi L k).f i)) i)
 | 0=>h
 | i+1=>((QI.fil h i).put (Dd 4 (gi L k).f i)).congr MR.next (Nat.le_refl _)
theorem QI.files{E:Env}{C:NB}{L:List It}(a:FlatL C L){t:By}{B:Nat}{q:RdQ}{n:Nat}(h:QI E (MR E C L t B 0 0) n q):∀k,k<=L.length->QI E (MR E C L t B k 0) (n+20*k) (rdF E C L q k)
 | 0,_=>h
 | k+1,hk=>by
  have h1:=KE (a.sz _ (Kj (L:=L) (k:=k) (by omega)).2);exact((QI.files a h k (by omega)).fil _).congr MR.file (by omega)
theorem UH(E:Env)(C:NB)(d:By)(x:It):BL (J5 E C d x)=UInt8.ofNat 2::UInt8.ofNat (JP d (jn x.ns))::UInt8.ofNat ((jn x.ns).size-JP d (jn x.ns))::(BL (Do d (jn x.ns))++UInt8.ofNat x.f::(Dz (C x.f).size 2++DN (fun k=>DU (plE E (Dd 4 x.f k)) (Dp (dtB (C x.f) k))) (nBl (C x.f)))):=by
 obtain⟨e,j⟩:∃e,e=DN (fun k=>DU (plE E (Dd 4 x.f k)) (Dp (dtB (C x.f) k))) (nBl (C x.f)):=⟨_,rfl⟩;unfold J5 Ds;rw[<-j,Jb,Jb,Jb,Jb];have f:∀a b c:UInt8,BL (⟨#[a,b,c]⟩:By)=[a,b,c]:=fun _ _ _=>rfl
 have g:∀a:UInt8,BL (⟨#[a]⟩:By)=[a]:=fun _=>rfl
 have h:∀n,BL (Ja n 2)=Dz n 2:=fun n=>Kx _
 have i:BL (⟨e.toArray⟩:By)=e:=Kx _;rw[f,g,h,i];simp only[List.append_assoc,List.cons_append,List.nil_append]
theorem Zjq{m x y:Nat}(a:x<256 ^ m)(b:y<256 ^ m)(h:Dz x m=Dz y m):x=y:=by
 rw[<-Kh m x a,h,Kh m y b]
def FBd(C:NB)(L:List It):Prop:=∀x∈L,(jn x.ns).size<=100/\x.f<60/\(C x.f).size<=1280
theorem ZgF{d c:Env}{a b:NB}(A:∀r,plE d r<65536)(w:∀r,plE c r<65536):∀(L1 L0:List It) (l1 l0:By) (r:List UInt8) (z:Nat),FBd a L1->FBd b L0->BL (DX d a l1 L1)++0::r=BL (DX c b l0 L0)++0::List.replicate z 0->
  BL (DX d a l1 L1)=BL (DX c b l0 L0)/\L1.map (fun x=>(x.f,(a x.f).size))=L0.map (fun x=>(x.f,(b x.f).size))/\∀x∈L1,∀k,k<nBl (a x.f)->plE d (Dd 4 x.f k)=plE c (Dd 4 x.f k)
 | [],[],_,_,_,_,_,_,_=>⟨rfl,rfl,fun x j=>by cases j⟩
 | [],y::ys,l1,l0,r,z,_,_,h=>by
  have i:BL (DX c b l0 (y::ys))=BL (J5 c b l0 y)++BL (DX c b (jn y.ns) ys):=Jb _ _;rw[i,UH]at h;have n:(0:UInt8)::r=UInt8.ofNat 2::_:=h;exact absurd (List.cons.inj n).1 (by decide)
 | x::xs,[],l1,l0,r,z,_,_,h=>by
  have i:BL (DX d a l1 (x::xs))=BL (J5 d a l1 x)++BL (DX d a (jn x.ns) xs):=Jb _ _;rw[i,UH]at h;have n:UInt8.ofNat 2::_=(0:UInt8)::List.replicate z 0:=h;exact absurd (List.cons.inj n).1 (by decide)
 | x::xs,y::ys,l1,l0,r,z,b1,b0,h=>by
  have o:BL (DX d a l1 (x::xs))=BL (J5 d a l1 x)++BL (DX d a (jn x.ns) xs):=Jb _ _;have i:BL (DX c b l0 (y::ys))=BL (J5 c b l0 y)++BL (DX c b (jn y.ns) ys):=Jb _ _;obtain⟨p1,p2,p3⟩:=b1 x (by simp);obtain⟨q1,q2,q3⟩:=b0 y (by simp);have j:=UH d a l1 x;have E:=UH c b l0 y;rw[o,i,j,E]at h;simp only[List.append_assoc,List.cons_append]at h;replace h:=(List.cons.inj h).2;obtain⟨I,h⟩:=List.cons.inj h;obtain⟨p,h⟩:=List.cons.inj h;have G:(Do l1 (jn x.ns)).size=(jn x.ns).size-JP l1 (jn x.ns):=by unfold Do;rw[ByteArray.size_extract];omega
  have F:(Do l0 (jn y.ns)).size=(jn y.ns).size-JP l0 (jn y.ns):=by unfold Do;rw[ByteArray.size_extract];omega
  have q:=congrArg UInt8.toNat p;rw[Qa (by omega),Qa (by omega)]at q;obtain⟨J,h⟩:=List.append_inj h (by rw[DW,DW,G,F,q]);obtain⟨s,h⟩:=List.cons.inj h;obtain⟨t,h⟩:=List.append_inj h (by rw[D5,D5]);have B:x.f=y.f:=by
   have:=congrArg UInt8.toNat s
   rwa [Qa (by omega),Qa (by omega)]at this
  have D:(a x.f).size=(b y.f).size:=Zjq (m:=2) (by omega) (by omega) t;have K:nBl (a x.f)=nBl (b y.f):=by unfold nBl;rw[D]
  obtain⟨v,h⟩:=List.append_inj h (by rw[KK (fun k=>J4 _ _),KK (fun k=>J4 _ _),K]);obtain⟨L,M,N⟩:=ZgF A w xs ys _ _ r z (fun u g=>b1 u (List.mem_cons_of_mem _ g)) (fun u g=>b0 u (List.mem_cons_of_mem _ g)) h;refine⟨?_,?_,fun u g k C=>?_⟩
  ·rw[o,i,j,E,I,p,J,s,t,v,L]
  ·rw[List.map_cons,List.map_cons,M,show(x.f,(a x.f).size)=(y.f,(b y.f).size) by rw[D,B]]
  ·rcases List.mem_cons.1 g with e|g
   ·subst e;have l:=Uj (f:=fun k=>DU (plE d (Dd 4 u.f k)) (Dp (dtB (a u.f) k))) (fun k=>J4 _ _) (nBl (a u.f)) k C;have H:=Uj (f:=fun k=>DU (plE c (Dd 4 y.f k)) (Dp (dtB (b y.f) k))) (fun k=>J4 _ _) (nBl (b y.f)) k (by omega);rw[v,H]at l;unfold DU at l;have:=(List.append_inj l (by rw[D5,D5])).1;have:=Zjq (m:=2) (w _) (A _) this;rw[<-this,B]
   ·exact N u g k C
section
variable{D0 D1:LY}{R0 R1:NB}{N0 N1:Nat->Nat}{P0 P1 X0 X1:Nat->Nat->Nat}{B0 B1:Nat}
theorem Zjy(c:Nat):kkR (c+1)=2:=by unfold kkR;rw[if_neg (by omega)]
theorem Zjg(c:Nat):szR (c+1)=60:=by unfold szR;rw[if_neg (by omega)]
theorem Rows.at(h:Rows D0 R0 N0 P0 X0 B0){b i:Nat}(hb:b<=B0)(a:i<N0 b):D0[P0 b i]?=some (Dv (kkR b) (R0 b) (szR b) i):=by
 rcases Nat.eq_zero_or_pos b with rfl|hp
 ·exact h.d0 i a
 ·obtain⟨c,rfl⟩:∃c,b=c+1:=⟨b-1,by omega⟩;rw[Zjy,Zjg];exact h.d1 c (by omega) i a
theorem Rows.pos(h:Rows D0 R0 N0 P0 X0 B0):∀j b,b+j=B0->1<=N0 b
 | 0,b,e=>by
  have:=h.top;rw[show b=B0 by omega];omega
 | j+1,b,e=>by
  have h1:=Rows.pos h j (b+1) (by omega);have h2:=h.nn b (by omega);omega
theorem ZhH(c:Rows D0 R0 N0 P0 X0 B0)(a:Rows D1 R1 N1 P1 X1 B1)(hB:B1<=B0)(r:∀b k,b<=B0->k<N0 b->D1[P0 b k]?=D0[P0 b k]?)(m:P1 B1 0=P0 B1 0):
  ∀j b,b+j=B1->∀k,k<N1 b->k<N0 b/\P1 b k=P0 b k/\Dv (kkR b) (R1 b) (szR b) k=Dv (kkR b) (R0 b) (szR b) k:=by
 have p:∀b k,b<=B1->k<N1 b->k<N0 b->P1 b k=P0 b k->Dv (kkR b) (R1 b) (szR b) k=Dv (kkR b) (R0 b) (szR b) k:=fun b k s t n e=>by
  have h:=a.at s t;have q:=c.at (b:=b) (by omega) n;rw[e,r b k (by omega) n,q]at h;exact(Option.some.inj h).symm
 intro j
 induction j with
 | zero=>
  intro b e k d;obtain rfl:b=B1:=by omega
  have ht:=a.top;have o:=c.pos (B0-b) b (by omega);obtain rfl:k=0:=by omega
  exact⟨o,m,p b 0 (Nat.le_refl _) d o m⟩
 | succ j ih=>
  intro b e k d;have ab:=a.nn b (by omega);obtain⟨c1,c2,l⟩:=ih (b+1) (by omega) (k/6) (by omega);rw[Zjy,Zjg]at l;have f:=(ZgL (fun i=>(a.px b i).1) (fun i=>(a.px b i).2) (a.rr b (by omega)) (k/6) (k%6) (by omega)).1;have u:=(ZgL (fun i=>(c.px b i).1) (fun i=>(c.px b i).2) (c.rr b (by omega)) (k/6) (k%6) (by omega)).1;rw[l,u,show 6*(k/6)+k%6=k by omega,if_pos d]at f;have aa:=(a.pl b k (by omega) d).1;by_cases g:k<N0 b
  ·rw[if_pos g]at f;exact⟨g,f.symm,p b k (by omega) d g f.symm⟩
  ·rw[if_neg g]at f;omega
end
theorem Zgt{f g:Nat->List UInt8}:∀n,(∀k,k<n->f k=g k)->DN f n=DN g n
 | 0,_=>rfl
 | n+1,h=>by
  show DN f n++f n=DN g n++g n;rw[Zgt n (fun k hk=>h k (by omega)),h n (by omega)]
theorem Zf5{t1 t0:By}{n:Nat}(g:t1.size<=63*n)(h:∀k,k<n->Dv 3 t1 63 k=Dv 3 t0 63 k):∃r,BL t1++r=BL t0++List.replicate (63*n) 0:=by
 have e:∀(s:By) (k:Nat),BL (DR (Dv 3 s 63 k))=((((BL s).drop (k*63)).take 63)++List.replicate 63 0).take 63:=fun s k=>by
  rw[Zmg];unfold chB;rw[J3,show k*63+63-k*63=63 by omega]
 have c:=Vg (BL t1) 63 n;have b:=Vg (BL t0) 63 n;have a:DN (fun i=>((((BL t1).drop (i*63)).take 63)++List.replicate 63 0).take 63) n=DN (fun i=>((((BL t0).drop (i*63)).take 63)++List.replicate 63 0).take 63) n:=Zgt n (fun k d=>by
  show((((BL t1).drop (k*63)).take 63)++List.replicate 63 0).take 63=((((BL t0).drop (k*63)).take 63)++List.replicate 63 0).take 63;rw[<-e t1 k,<-e t0 k,h k d])
 rw[c,b]at a;have f:(BL t1).length<=63*n:=by rw[DW];exact g
 rw[List.take_append,List.take_of_length_le f]at a;refine⟨(List.replicate (63*n) (0:UInt8)).take (63*n-(BL t1).length)++(BL t0++List.replicate (63*n) 0).drop (63*n),?_⟩;rw[<-List.append_assoc,a,List.take_append_drop]
def UD(E:Env)(st:Pl)(s:By):Prop:=∃st0 r b,st=(E.put st0 r b).2/\(s.size<=10->s=DG (E.put st0 r b).1 (Dp b))
theorem Zjl(E:Env)(kk:UInt8)(a b:Nat)(st:Pl)(s:By)(hn:1<=(s.size+a-1)/a):UD E (Dy E kk a b st s).2 (Dy E kk a b st s).1:=by
 obtain⟨n,c⟩:∃n,(s.size+a-1)/a=n+1:=⟨(s.size+a-1)/a-1,by omega⟩;have d:=QO E kk a b st s;refine⟨E.puts (Dd kk.toNat b) (Dv kk s a) st 0 (List.range n),Dd kk.toNat b n,Dv kk s a n,?_,fun hs=>?_⟩
 ·unfold Dy;rw[c,List.range_succ];have e:=Env.puts_snoc E (Dd kk.toNat b) (Dv kk s a) st 0 (List.range n) n;rw[Nat.zero_add,List.length_range]at e;exact e
 ·rw[c]at d;obtain rfl:n=0:=by omega
  unfold Dy;rw[c];show DG _ _++⟨#[]⟩=_;rw[Ky]
  rfl
theorem ZjB(E:Env):∀(d below:Nat) (st:Pl) (s:By),UD E st s->UD E (DF E d below st s).2 (DF E d below st s).1
 | 0,_,_,_,h=>h
 | d+1,below,st,s,h=>by
  unfold DF
  split
  ·exact ZjB E d _ _ _ (Zjl E 2 60 below st s (by omega))
  ·exact h
theorem Zjm{s:KS}(g:KsOk s)(cl:Bool){C:NB}{L:List It}(k:ItOk C L):∃st0 r b,(Dq s cl C L).2=((Dh s.es cl s.tp s.D).put st0 r b).2/\rdP (Dq s cl C L).1=((Dh s.es cl s.tp s.D).put st0 r b).1/\(r,rdP (Dq s cl C L).1)∈(Dq s cl C L).2.puts/\rdP (Dq s cl C L).1<1536:=by
 have c:=Qz k (Dh s.es cl s.tp s.D) (g.env cl) (s.tp+1) (by have:=g.tp;omega);change ZoW (Dq s cl C L) at c;have j:UD (Dh s.es cl s.tp s.D) (Dq s cl C L).2 (Dq s cl C L).1:=ZjB _ 8 1 _ _ (Zjl _ 3 63 0 _ _ (by
  rw[ByteArray.size_append,show(⟨#[0]⟩:By).size=1 from rfl];omega))
 obtain⟨st0,r,b,d,h⟩:=j;have i:=h (by rw[c.n3];exact Nat.le_refl _);have f:(r,((Dh s.es cl s.tp s.D).put st0 r b).1)∈(Dq s cl C L).2.puts:=by
  rw[d,Env.put_puts];exact List.mem_append_right _ (List.mem_singleton.2 rfl)
 have e:=c.pl.1 _ f;have a:rdP (Dq s cl C L).1=((Dh s.es cl s.tp s.D).put st0 r b).1:=by
  rw[i];exact UO _ _ (by have:((Dh s.es cl s.tp s.D).put st0 r b).1<1536:=e;omega)
 exact⟨st0,r,b,d,a,by rw[a];exact f,by rw[a];exact e⟩
theorem puts_len(E:Env)(R:Nat->Nat)(B:NB):∀(st:Pl) (i:Nat) (xs:List Nat),(E.puts R B st i xs).puts.length=st.puts.length+xs.length
 | st,i,[]=>rfl
 | st,i,x::xs=>by
  show(E.puts R B (E.put st (R i) (B x)).2 (i+1) xs).puts.length=_;rw[puts_len E R B _ (i+1) xs,Env.put_puts,List.length_append,List.length_singleton,List.length_cons];omega
theorem ZhJ(E:Env)(kk:UInt8)(a b:Nat)(st:Pl)(s:By):(Dy E kk a b st s).2.puts.length=st.puts.length+(s.size+a-1)/a:=by
 unfold Dy;rw[puts_len,List.length_range]
theorem ZhZ(E:Env):∀(d below:Nat) (st:Pl) (s:By) (m:Nat),s.size=10*m->1<=m->(DF E d below st s).2.puts.length+1<=st.puts.length+m
 | 0,_,st,s,m,h,a=>by show st.puts.length+1<=_;omega
 | d+1,below,st,s,m,h,hm=>by
  unfold DF
  split
  ·have a:=ZhJ E 2 60 below st s;have b:=QO E 2 60 below st s;have ih:=ZhZ E d (below+1) (Dy E 2 60 below st s).2 (Dy E 2 60 below st s).1 _ b (by omega);omega
  ·show st.puts.length+1<=_;omega
theorem FlatL.puts{C:NB}{L:List It}(h:FlatL C L)(s:KS)(cl:Bool):(Dq s cl C L).2.puts.length<=255:=by
 have c:=h.ok;have aa:=h.le;obtain⟨E,k⟩:∃E,E=Dh s.es cl s.tp s.D:=⟨_,rfl⟩;obtain⟨T,f⟩:∃T,T=Dw E C ⟨#[]⟩ ⟨s.tp+1,[],[]⟩ L:=⟨_,rfl⟩;obtain⟨t,g⟩:∃t:By,t=T.1++⟨#[0]⟩:=⟨_,rfl⟩;obtain⟨R,e⟩:∃R,R=Dy E 3 63 0 T.2 t:=⟨_,rfl⟩;have j:Dq s cl C L=DF E 8 1 R.2 R.1:=by rw[e,g,f,k];rfl
 obtain⟨t1,i,_,_,_⟩:=Qc E C ⟨#[]⟩ ⟨s.tp+1,[],[]⟩ L (fun z a=>⟨c.path z a,c.size z a,c.kind z a⟩);rw[<-f]at t1 i;have l:(⟨s.tp+1,[],[]⟩:Pl).puts.length=0:=rfl;rw[l]at i;have d:=ZhJ E 3 63 0 T.2 t;have b:=QO E 3 63 0 T.2 t;rw[<-e]at d b;have a:t.size=T.1.size+1:=by rw[g];exact ByteArray.size_append
 rw[j];generalize hn:(t.size+63-1)/63=n at d b
 have h3:=ZhZ E 8 1 R.2 R.1 n b (by omega);omega
theorem Zeq(c:Nat)(p:Nat->Bool):(List.range 96).countP p=(List.range 96).countP (fun i=>p ((c+i)%96)):=by
 have d:(List.range 96).countP (fun i=>p ((c+i)%96))=((List.range 96).map (fun j=>(c+j)%96)).countP p:=by rw[List.countP_map];rfl
 rw[d];refine((ZbW _ _ ?_ (fun x h=>?_) (by simp)).countP_eq _).symm
 ·rw[List.nodup_iff_pairwise_ne,List.pairwise_map];refine List.Pairwise.imp_of_mem (R:=fun a b=>a≠b) (fun {a b} f g aa e=>?_) (List.nodup_iff_pairwise_ne.1 List.nodup_range);rw[List.mem_range]at f g;omega
 ·obtain⟨y,hy,rfl⟩:=List.mem_map.1 h;exact List.mem_range.2 (by omega)
theorem Zgr{α : Type}(p a b c d : α -> Bool):∀(l:List α),(∀x∈l,p x=true->a x=true\/b x=true\/c x=true\/d x=true)->l.countP p<=l.countP a+l.countP b+l.countP c+l.countP d
 | [],_=>by simp
 | x::l,h=>by
  have ih:=Zgr p a b c d l (fun y i=>h y (List.mem_cons_of_mem _ i));have g:=h x (by simp);simp only[List.countP_cons];by_cases f:p x=true
  ·rcases g f with e|e|e|e<;>simp only[f,e,if_true]<;>omega
  ·simp only[f];simp only[Bool.false_eq_true,if_false];omega
theorem ZeI(f:Nat->Int):∀k,DY f k=16*(List.range k).countP (fun j=>decide (f j=0))
 | 0=>rfl
 | k+1=>by
  unfold DY;rw[ZeI f k,List.range_succ,List.countP_append,List.countP_singleton];by_cases e:f k=0<;>simp[e]<;>omega
theorem Zib(es:LI)(n:Nat):es.countP (fun x=>decide (x.2.toNat/16<n+1))=es.countP (fun x=>decide (x.2.toNat/16<n))+es.countP (fun x=>x.2.toNat/16==n):=by
 induction es with
 | nil=>rfl
 | cons x l ih=>
  simp only[List.countP_cons,ih];by_cases c:x.2.toNat/16<n
  ·have a:x.2.toNat/16<n+1:=by omega
   have b:¬x.2.toNat/16=n:=by omega
   simp[c,a,b];omega
  ·by_cases b:x.2.toNat/16=n
   ·have a:x.2.toNat/16<n+1:=by omega
    simp[b];omega
   ·have a:¬x.2.toNat/16<n+1:=by omega
    simp[c,a,b]
theorem Zgf(es:LI):∀n,9*(List.range n).countP (fun j=>decide (8<Dj es j))<=(if n=0 then 0 else 2)+es.countP (fun x=>decide (x.2.toNat/16<n))
 | 0=>by simp
 | n+1=>by
  have ih:=Zgf es n;rw[List.range_succ,List.countP_append,List.countP_singleton,Zib,show(if n+1=0 then 0 else 2)=2 from if_neg (by omega)];by_cases h:8<Dj es n
  ·rw[show decide (8<Dj es n)=true from decide_eq_true h,if_pos rfl];unfold Dj at h;by_cases a:n=0
   ·rw[if_pos a]at h ih;omega
   ·rw[if_neg a]at h ih;omega
  ·rw[show decide (8<Dj es n)=false from decide_eq_false h,if_neg (by decide)];by_cases a:n=0
   ·rw[if_pos a]at ih;omega
   ·rw[if_neg a]at ih;omega
theorem ZhQ(e:Nat->Int)(c d:Nat):∀k,(List.range k).countP (fun i=>decide (0<i/\e ((c+i)%96)<=0/\i<=d))<=Je e c (min k (d+1))
 | 0=>by simp
 | k+1=>by
  have ih:=ZhQ e c d k;rw[List.range_succ,List.countP_append,List.countP_singleton];by_cases f:k<=d
  ·rw[show min k (d+1)=k by omega]at ih;rw[show min (k+1) (d+1)=k+1 by omega]
   conv=>rhs;unfold Je
   by_cases h:0<k/\e ((c+k)%96)<=0
   ·rw[if_pos h,if_pos (by simp;exact⟨h.1,h.2,f⟩)];omega
   ·rw[if_neg h,if_neg (by simp;intro a b;exact absurd ⟨a,b⟩ h)];omega
  ·rw[show min k (d+1)=d+1 by omega]at ih;rw[show min (k+1) (d+1)=d+1 by omega,if_neg (by simp;intro a b;omega)];omega
theorem Znd(s:KS)(C:NB)(L:List It):∀y∈(Dq s true C L).2.puts,y.2∈(Dq s true C L).2.ps.map (·.1)\/y.2/16=s.tp/16\/8<Dj s.es (y.2/16):=by
 refine Zfu (E:=Dh s.es true s.tp s.D) (Q:=fun st=>∀y∈st.puts,y.2∈st.ps.map (·.1)\/y.2/16=s.tp/16\/8<Dj s.es (y.2/16)) (fun st r b hb h y c=>?_) C ⟨s.tp+1,[],[]⟩ L (fun y c=>(by cases c));unfold Env.put at c ⊢
 split at c
 ·rename_i q a;rcases List.mem_append.1 c with e|e
  ·exact h y e
  ·rw[List.mem_singleton.1 e];right;unfold Env.stay at a
   split at a
   ·split at a
    ·rename_i q' aa g
     cases a
     have f:¬(q/16≠s.tp/16/\Dj s.es (q/16)<=8):=fun e=>g.2 ⟨rfl,e.1,e.2⟩
     by_cases d:q/16=s.tp/16
     ·exact .inl d
     ·refine .inr ?_;show 8<Dj s.es (q/16);have:=fun e=>f ⟨d,e⟩
      omega
    ·cases a
   ·cases a
 ·rename_i a;show y.2∈List.map (fun x:Nat×By=>x.1) (st.ps++[_])\/_;rw[List.map_append];rcases List.mem_append.1 c with e|e
  ·exact(h y e).imp (fun e=>List.mem_append_left _ e) id
  ·rw[List.mem_singleton.1 e];exact .inl (List.mem_append_right _ (List.mem_singleton.2 rfl))
theorem Zkr{s:KS}(g:InvS s){C:NB}{L:List It}(D:ItOk C L)(hl:(Dq s true C L).2.puts.length<=255)(ab:s.es.length<=255):512<=DY (ndP (Dq s true C L).2.puts) 96:=by
 have m:=PI.all g true D (by omega);have w:=Znd s C L;have ad:=g.ok.tp;obtain⟨j,o,a,_⟩:=m.ri;have ac:=m.le;obtain⟨c,b⟩:∃c,c=s.tp/16:=⟨_,rfl⟩;have aa:c<96:=by omega
 rw[ZeI];have z:=List.length_eq_countP_add_countP (p:=fun j=>decide (ndP (Dq s true C L).2.puts j=0)) (l:=List.range 96);rw[List.length_range]at z;have v:=Zgr (fun i=>decide (¬(decide (ndP (Dq s true C L).2.puts ((c+i)%96)=0)=true))) (fun i=>decide (i=0)) (fun i=>decide ((c+i)%96=0)) (fun i=>decide (8<Dj s.es ((c+i)%96))) (fun i=>decide (0<i/\Dj s.es ((c+i)%96)<=0/\i<=j)) (List.range 96) (fun i B h=>by
  rw[List.mem_range]at B;simp only[decide_eq_true_eq]at h ⊢;by_cases f:(c+i)%96=0
  ·exact .inr (.inl f)
  ·have E:0<(Dq s true C L).2.puts.countP (fun y=>y.2/16==(c+i)%96):=by
    unfold ndP at h;rw[if_neg f]at h;omega
   obtain⟨y,F,A⟩:=List.countP_pos_iff.1 E;have k:y.2/16=(c+i)%96:=by simpa using A
   rcases w y F with e|e|e
   ·obtain⟨m1,d⟩:=a.mem _ e;rw[<-b]at d;have ho:J6 c y.2=i:=by unfold J6;omega
    rw[ho]at d;rcases d with⟨q,_⟩|⟨I,J,q3⟩
    ·exact .inl q
    ·exact .inr (.inr (.inr ⟨I,by rw[<-k];exact J,by omega⟩))
   ·exact .inl (by omega)
   ·exact .inr (.inr (.inl (by rw[<-k];exact e))))
 have r:=Zeq c (fun j=>decide (¬(decide (ndP (Dq s true C L).2.puts j=0)=true)));have t:=Zeq c (fun j=>decide (j=0));have u:=Zeq c (fun j=>decide (8<Dj s.es j));have G:(List.range 96).countP (fun i=>decide (i=0))=1:=by decide
 have H:=Zgf s.es 96;have ae:s.es.countP (fun x=>decide (x.2.toNat/16<96))<=s.es.length:=List.countP_le_length;have k4:=ZhQ (Dj s.es) c j 96;have k5:Je (Dj s.es) c (min 96 (j+1))<=Je (Dj s.es) c j+1:=by
  have:=a.jl;rw[show min 96 (j+1)=j+1 by omega];show Je (Dj s.es) c j+(if _ then 1 else 0)<=_
  split<;>omega
 have n:=a.cnt;rw[<-b,List.length_map]at n;rw[if_neg (by omega)]at H;rw[<-r,<-t,<-u,G]at v;have k7:16*Je (Dj s.es) c j<=255:=by omega
 clear n r t u b;generalize (List.range 96).countP (fun j=>decide (8<Dj s.es j))=a1 at *
 generalize (List.range 96).countP (fun i=>decide (0<i/\Dj s.es ((c+i)%96)<=0/\i<=j))=a2 at *
 omega
end Go.Proofs.YtaieidcohdhgpaaGreatDoor
