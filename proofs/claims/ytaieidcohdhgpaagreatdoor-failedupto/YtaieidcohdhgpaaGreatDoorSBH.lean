/- Failed. -/
import Derived.Test.YtaieidcohdhgpaaGreatDoorSBG
namespace Go.Proofs.YtaieidcohdhgpaaGreatDoor
set_option maxHeartbeats 40000000
set_option maxRecDepth 100000
open Go.RowKit
def BL(s:By):List UInt8:=s.data.toList
theorem DW(s:By):(BL s).length=s.size:=Array.length_toList
theorem Jb(a b:By):BL (a++b)=BL a++BL b:=by unfold BL;simp
theorem J3(s:By)(i j:Nat):BL (s.extract i j)=((BL s).drop i).take (j-i):=by unfold BL;rw[Lib.extract_data]
theorem KQ{a b:By}(h:BL a=BL b):a=b:=WideShapes.bytes_inj (by unfold BL at h;exact h)
theorem KI(s:By)(n:Nat):BL (Di s n)=(BL s++List.replicate n 0).take n:=by
 unfold Di
 split
 ·rename_i h;rw[J3,List.drop_zero,Nat.sub_zero,List.take_append_of_le_length (by rw[DW];exact h)]
 ·rename_i h;rw[Jb];have e:BL (⟨(List.replicate (n-s.size) 0).toArray⟩:By)=List.replicate (n-s.size) 0:=by unfold BL;simp
  rw[e,List.take_append,List.take_of_length_le (by rw[DW];omega),DW,List.take_replicate]
  congr 2;omega
theorem U9(T:By):∀j,BL (DC T j)=(BL T).drop (10*j)
 | 0=>by simp[DC]
 | j+1=>by
  unfold DC;rw[J3,U9 T j,List.take_of_length_le (by rw[List.length_drop,List.length_drop,DW,Ug];omega),List.drop_drop]
  congr 1
theorem Zk5(s:By)(h:2<=s.size):rdP s=DL ((BL s).take 2):=by
 unfold rdP;show DL (BL (Di s 2))=_;rw[KI,List.take_append_of_le_length (by rw[DW];exact h)]
theorem ZnB(s:By)(h:10<=s.size):rdX s=DL (((BL s).drop 2).take 8):=by
 unfold rdX;show DL (BL (Di (s.extract 2 s.size) 8))=_;have e:BL (s.extract 2 s.size)=(BL s).drop 2:=by rw[J3,List.take_of_length_le (by rw[List.length_drop,DW];exact Nat.le_refl _)]
 rw[KI,e,List.take_append_of_le_length (by rw[List.length_drop,DW];omega)]
def DN(f:Nat->List UInt8):Nat->List UInt8
 | 0=>[]
 | n+1=>DN f n++f n
theorem KK{f:Nat->List UInt8}{m:Nat}(a:∀k,(f k).length=m):∀n,(DN f n).length=m*n
 | 0=>by simp[DN]
 | n+1=>by unfold DN;rw[List.length_append,KK a n,a,Nat.mul_succ]
theorem Uj{f:Nat->List UInt8}{m:Nat}(a:∀k,(f k).length=m):∀(n k:Nat),k<n->((DN f n).drop (m*k)).take m=f k
 | 0,k,h=>by omega
 | n+1,k,h=>by
  unfold DN;have b:=KK a n;by_cases e:k=n
  ·subst e;rw[<-b,List.drop_left,List.take_of_length_le (by rw[a];exact Nat.le_refl _)]
  ·have hk:m*k+m<=m*n:=by rw[<-Nat.mul_succ];exact Nat.mul_le_mul_left m (by omega)
   rw[List.drop_append_of_le_length (by rw[b];omega),List.take_append_of_le_length (by rw[List.length_drop,b];omega)];exact Uj a n k (by omega)
def DU(p x:Nat):List UInt8:=Dz p 2++Dz x 8
theorem J4(p x:Nat):(DU p x).length=10:=by unfold DU;rw[List.length_append,D5,D5]
theorem Zjb(p x:Nat):BL (DG p x)=DU p x:=by unfold BL DG DU;simp
theorem Zmg(kk:UInt8)(s:By)(a i:Nat):BL (DR (Dv kk s a i))=(BL (chB s a i)++List.replicate 63 0).take 63:=by
 unfold DR Dv;rw[J3,Jb,show BL (⟨#[kk]⟩:By)=[kk] from rfl];rw[show([kk]++BL (Di (chB s a i) 63)).drop 1=BL (Di (chB s a i) 63) from rfl,List.take_of_length_le (by rw[DW,Jc];exact Nat.le_refl _),KI]
theorem ref_at{c:By}{f:Nat->List UInt8}(a:∀k,(f k).length=10){n:Nat}(e:BL c=DN f n)(i j:Nat)(hj:j<6):
  (BL (DC (DR (Dv 2 c 60 i)) j)).take 10=if 6*i+j<n then f (6*i+j) else List.replicate 10 0:=by
 have b:=KK a n;rw[U9,Zmg];unfold chB;rw[J3,e,show i*60+60-i*60=60 by omega];rw[List.drop_take,List.take_take,show min 10 (63-10*j)=10 by omega];by_cases h:6*i+j<n
 ·rw[if_pos h,<-Uj a n _ h];have aa:10*j+10<=(((DN f n).drop (i*60)).take 60).length:=by rw[List.length_take,List.length_drop,b];omega
  rw[List.drop_append_of_le_length (by omega),List.take_append_of_le_length (by rw[List.length_drop];omega),List.drop_take,List.drop_drop,List.take_take,show min 10 (60-10*j)=10 by omega,show i*60+10*j=10*(6*i+j) by omega]
 ·rw[if_neg h];have d:(((DN f n).drop (i*60)).take 60).length<=10*j:=by rw[List.length_take,List.length_drop,b];omega
  rw[List.drop_append,List.drop_of_length_le d,List.nil_append,List.drop_replicate,List.take_replicate]
  congr 1;omega
theorem ZgL{a:By}{P X:Nat->Nat}(e:∀k,P k<65536)(g:∀k,X k<18446744073709551616){n:Nat}(o:BL a=DN (fun k=>DU (P k) (X k)) n)(i j:Nat)(m:j<6):
  rdP (DC (DR (Dv 2 a 60 i)) j)=(if 6*i+j<n then P (6*i+j) else 0)/\rdX (DC (DR (Dv 2 a 60 i)) j)=(if 6*i+j<n then X (6*i+j) else 0):=by
 have b:=ref_at (f:=fun k=>DU (P k) (X k)) (fun k=>J4 _ _) o i j m;have aa:(DC (DR (Dv 2 a 60 i)) j).size=63-10*j:=by
  rw[Ug];have:(DR (Dv 2 a 60 i)).size=63:=by unfold DR;rw[ByteArray.size_extract,KY];rfl
  rw[this]
 rw[Zk5 _ (by omega),ZnB _ (by omega)];generalize BL (DC (DR (Dv 2 a 60 i)) j)=l at b ⊢
 have c:l.take 2=(l.take 10).take 2:=by rw[List.take_take];rfl
 have d:(l.drop 2).take 8=(l.take 10).drop 2:=by rw[List.drop_take]
 rw[c,d,b];by_cases h:6*i+j<n
 ·simp only[if_pos h];unfold DU;rw[List.take_left' (D5 2 _),List.drop_left' (D5 2 _),Kh 2 _ (e _),Kh 8 _ (g _)];exact⟨rfl,rfl⟩
 ·simp only[if_neg h];exact⟨rfl,rfl⟩
structure Rows(D:LY)(R:NB)(N:Nat->Nat)(P X:Nat->Nat->Nat)(B:Nat):Prop where
 b8:B<8
 n0:N 0=((R 0).size+63-1)/63
 nn:∀b,b<B->N (b+1)=(10*N b+60-1)/60
 rr:∀b,b<B->BL (R (b+1))=DN (fun k=>DU (P b k) (X b k)) (N b)
 top:N B=1
 d0:∀i,i<N 0->D[P 0 i]?=some (Dv 3 (R 0) 63 i)
 d1:∀b,b<B->∀i,i<N (b+1)->D[P (b+1) i]?=some (Dv 2 (R (b+1)) 60 i)
 pl:∀b i,b<=B->i<N b->16<=P b i/\P b i<1536
 px:∀b k,P b k<65536/\X b k<18446744073709551616
 inj:∀b i b' i',b<=B->b'<=B->i<N b->i'<N b'->P b i=P b' i'->b=b'/\i=i'
 ns:∀b,b<=B->N b<=1000
def Dt(b k:Nat):Nat:=Dd (if b=0 then 3 else 2) b k
theorem ZgK{b k a c:Nat}(h1:b<60000)(h2:a<60000)(h3:k<60000)(h4:c<60000)(h:Dt b k=Dt a c):b=a/\k=c:=by
 unfold Dt Dd at h
 split at h<;>split at h<;>omega
def JS(f:Nat->Nat):Nat->Nat
 | 0=>0
 | n+1=>JS f n+f n
theorem ZiA{f g:Nat->Nat}:∀n,(∀k,k<n->f k<=g k)->JS f n<=JS g n
 | 0,_=>Nat.le_refl _
 | n+1,h=>Nat.add_le_add (ZiA n (fun k hk=>h k (by omega))) (h n (by omega))
theorem ZkN(f:Nat->Nat)(b:Nat):∀n,JS (fun k=>if k=b then f b+1 else f k) n=JS f n+if b<n then 1 else 0
 | 0=>rfl
 | n+1=>by
  unfold JS;rw[ZkN f b n];by_cases a:b<n
  ·rw[if_pos a,if_neg (by omega),if_pos (by omega)];omega
  ·by_cases c:n=b
   ·subst c;rw[if_neg a,if_pos rfl,if_pos (by omega)];omega
   ·rw[if_neg a,if_neg c,if_neg (by omega)];omega
theorem ZcV(c:Nat):∀n,JS (fun _=>c) n=c*n
 | 0=>rfl
 | n+1=>by unfold JS;rw[ZcV c n,Nat.mul_succ]
structure Good(N:Nat->Nat)(P:Nat->Nat->Nat)(ch:Nat->List UInt8)(B c:Nat)(q:RdQ):Prop where
 g1:∀y∈q.ins,∃b k,b<=B/\k<q.tn b/\y=(Dt b k,P b k)
 g6:∀b k,b<=B->k<q.tn b->(Dt b k,P b k)∈q.ins
 g2:∀p,q.tk p=true->(∃b k,b<=B/\k<q.tn b/\p=P b k)\/∃b,c<=b/\b<=B/\q.tn b<N b/\p=P b (q.tn b)
 g3:∀b,b<=B->q.tn b<=N b
 g5:BL q.t=DN ch (q.tn 0)
 g7:q.ins.length=JS q.tn (B+1)
section
variable{D:LY}{R:NB}{N:Nat->Nat}{P X:Nat->Nat->Nat}{B:Nat}{ch:Nat->List UInt8}
theorem Good.fresh(f:Rows D R N P X B){b:Nat}(g:b<=B){q:RdQ}(h:Good N P ch B (b+1) q)(i:q.tn b<N b):q.tk (P b (q.tn b))=false:=by
 cases e:q.tk (P b (q.tn b)) with
 | false=>rfl
 | true=>
  rcases h.g2 _ e with⟨j,k,a,c,d⟩|⟨j,a,c,d,l⟩
  ·obtain⟨rfl,h5⟩:=f.inj _ _ _ _ g a i (Nat.lt_of_lt_of_le c (h.g3 _ a)) d;omega
  ·obtain⟨rfl,_⟩:=f.inj _ _ _ _ g c i d l;omega
theorem Good.take(_hR:Rows D R N P X B){b:Nat}(d:b<=B){q:RdQ}(h:Good N P ch B (b+1) q)(f:q.tn b<N b):Good N P ch B b (q.take (P b (q.tn b))):=
 ⟨h.g1,h.g6,fun p g=>by
  by_cases e:p=P b (q.tn b)
  ·exact .inr ⟨b,Nat.le_refl _,d,f,e⟩
  ·have i:q.tk p=true:=by
    have j:(if p=P b (q.tn b) then true else q.tk p)=true:=g
    rwa [if_neg e]at j
   exact(h.g2 p i).imp id (fun ⟨a,h1,c⟩=>⟨a,by omega,c⟩),h.g3,h.g5,h.g7⟩
theorem Good.role(a:Rows D R N P X B){b c:Nat}(g:b<=B){q:RdQ}(h:Good N P ch B c q)(hi:q.tn b<N b):∀y∈q.ins,y.1≠Dt b (q.tn b):=fun y i e=>by
 obtain⟨d,k,f,h2,rfl⟩:=h.g1 y i;have n1:=a.ns b g;have n2:=a.ns d f;have n3:=h.g3 d f;have h8:=a.b8;obtain⟨rfl,h5⟩:=ZgK (by omega) (by omega) (by omega) (by omega) e;omega
theorem Good.len(a:Rows D R N P X B){c:Nat}{q:RdQ}(h:Good N P ch B c q):q.ins.length<=9999:=by
 rw[h.g7];have b:JS q.tn (B+1)<=JS (fun _=>1000) (B+1):=ZiA _ (fun k hk=>Nat.le_trans (h.g3 k (by omega)) (a.ns k (by omega)));rw[ZcV]at b;have:=a.b8;omega
theorem Good.done(_hR:Rows D R N P X B){b:Nat}(o:b<=B){q:RdQ}(h:Good N P ch B b q)(hi:q.tn b<N b)(j:By)(s:BL j=DN ch (if 0=b then q.tn b+1 else q.tn 0)):
  Good N P ch B (b+1) ((({ q with t:=j }:RdQ).put (Dt b (q.tn b)) (P b (q.tn b))).turn b):=by
 have f:∀k,((({ q with t:=j }:RdQ).put (Dt b (q.tn b)) (P b (q.tn b))).turn b).tn k=if k=b then q.tn b+1 else q.tn k:=fun _=>rfl
 have l:((({ q with t:=j }:RdQ).put (Dt b (q.tn b)) (P b (q.tn b))).turn b).ins=q.ins++[(Dt b (q.tn b),P b (q.tn b))]:=rfl;refine⟨fun y n=>?_,fun a k d c=>?_,fun p r=>?_,fun a d=>?_,?_,?_⟩
 ·rw[l]at n;rcases List.mem_append.1 n with e|e
  ·obtain⟨a,k,d,c,i⟩:=h.g1 y e;refine⟨a,k,d,?_,i⟩;rw[f];split
   ·rename_i g;subst g;omega
   ·exact c
  ·refine⟨b,q.tn b,o,?_,List.mem_singleton.1 e⟩;rw[f,if_pos rfl];omega
 ·rw[f]at c;rw[l];by_cases e:a=b
  ·subst e;rw[if_pos rfl]at c;by_cases g:k=q.tn a
   ·subst g;exact List.mem_append_right _ (List.mem_singleton.2 rfl)
   ·exact List.mem_append_left _ (h.g6 a k d (by omega))
  ·rw[if_neg e]at c;exact List.mem_append_left _ (h.g6 a k d c)
 ·rcases h.g2 p r with⟨a,k,d,c,i⟩|⟨a,d,c,i,m⟩
  ·refine .inl ⟨a,k,d,?_,i⟩;rw[f];split
   ·rename_i g;subst g;omega
   ·exact c
  ·by_cases e:a=b
   ·subst e;exact .inl ⟨a,q.tn a,c,by rw[f,if_pos rfl];omega,m⟩
   ·exact .inr ⟨a,by omega,c,by rw[f,if_neg e];exact i,by rw[f,if_neg e];exact m⟩
 ·rw[f];split
  ·rename_i g;subst g;omega
  ·exact h.g3 a d
 ·show BL j=DN ch (if 0=b then q.tn b+1 else q.tn 0);exact s
 ·rw[l,List.length_append,h.g7];show _=JS (fun k=>if k=b then q.tn b+1 else q.tn k) (B+1);rw[ZkN,if_pos (by omega)];rfl
def itQ(f:Nat->RdQ->RdQ)(a:Nat):Nat->RdQ->RdQ
 | 0,q=>q
 | m+1,q=>f (a+m) (itQ f a m q)
def Ji(N:Nat->Nat)(P:Nat->Nat->Nat)(cb:NB):Nat->Nat->RdQ->RdQ
 | 0,i,q=>(((q.take (P 0 i)).say (cb i)).put (Dd 3 0 (q.tn 0)) (P 0 i)).turn 0
 | b+1,i,q=>(((itQ (Ji N P cb b) (6*i) (min 6 (N b-6*i)) (q.take (P (b+1) i))).put (Dd 2 (b+1) ((itQ (Ji N P cb b) (6*i) (min 6 (N b-6*i)) (q.take (P (b+1) i))).tn (b+1))) (P (b+1) i)).turn (b+1))
def TnI(N:Nat->Nat)(b i:Nat)(q:RdQ):Prop:=q.tn b=i/\∀b',b'<b->q.tn b'=min (6 ^ (b-b')*i) (N b')
theorem Rows.grow(a:Rows D R N P X B):∀(d b:Nat),b+d<=B->N b<=6 ^ d*N (b+d)
 | 0,b,_=>by simp
 | d+1,b,h=>by
  have ih:=Rows.grow a d b (by omega);have:=a.nn (b+d) (by omega);rw[Nat.pow_succ,Nat.mul_assoc];refine Nat.le_trans ih (Nat.mul_le_mul_left _ ?_);rw[show b+(d+1)=b+d+1 by omega];omega
theorem Zfz(c:Rows D R N P X B){cb:NB}(s:∀i,BL (cb i)=ch i):∀(b:Nat),b<=B->∀(i:Nat) (q:RdQ),i<N b->Good N P ch B (b+1) q->TnI N b i q->
  Good N P ch B (b+1) (Ji N P cb b i q)/\TnI N b (i+1) (Ji N P cb b i q)/\∀a,b<a->(Ji N P cb b i q).tn a=q.tn a
 | 0,hb,i,q,hi,h,ht=>by
  have f:q.tn 0=i:=ht.1;have l:q.tn 0<N 0:=by omega
  have o:=(Good.take c hb h l).done c hb l (q.t++cb i) (by rw[Jb,h.g5,s,if_pos rfl];show _=DN ch (q.tn 0+1);rw[f];rfl);have n:Ji N P cb 0 i q=(({ (q.take (P 0 (q.tn 0))) with t:=q.t++cb i }:RdQ).put (Dt 0 ((q.take (P 0 (q.tn 0))).tn 0)) (P 0 ((q.take (P 0 (q.tn 0))).tn 0))).turn 0:=by
   show(((q.take (P 0 i)).say (cb i)).put (Dd 3 0 (q.tn 0)) (P 0 i)).turn 0=_;rw[<-f];rfl
  rw[n];refine⟨o,⟨?_,fun a d=>by omega⟩,fun a d=>?_⟩
  ·show(if (0:Nat)=0 then q.tn 0+1 else q.tn 0)=_;rw[if_pos rfl,f]
  ·show(if a=0 then q.tn 0+1 else q.tn a)=_;rw[if_neg (by omega)]
 | b+1,hb,i,q,hi,h,ht=>by
  have f:q.tn (b+1)=i:=ht.1;have l:q.tn (b+1)<N (b+1):=by omega
  have aa:=c.nn b (by omega);have h6:6*i<N b:=by omega
  have v:TnI N b (6*i) (q.take (P (b+1) i)):=by
   refine⟨?_,fun a d=>?_⟩
   ·show q.tn b=_;rw[ht.2 b (by omega),show b+1-b=1 by omega];omega
   ·show q.tn a=_;rw[ht.2 a (by omega),show b+1-a=b-a+1 by omega,Nat.pow_succ,Nat.mul_assoc]
  have u:Good N P ch B (b+1) (q.take (P (b+1) i)):=by rw[<-f];exact Good.take c hb h l
  have E:∀m,m<=min 6 (N b-6*i)->Good N P ch B (b+1) (itQ (Ji N P cb b) (6*i) m (q.take (P (b+1) i)))/\TnI N b (6*i+m) (itQ (Ji N P cb b) (6*i) m (q.take (P (b+1) i)))/\∀a,b<a->(itQ (Ji N P cb b) (6*i) m (q.take (P (b+1) i))).tn a=q.tn a:=fun m=>by
   induction m with
   | zero=>exact fun _=>⟨u,v,fun a _=>rfl⟩
   | succ m ih=>
    intro y;obtain⟨g,j,k⟩:=ih (by omega);obtain⟨z,A,C⟩:=Zfz c s b (by omega) (6*i+m) _ (by omega) g j;exact⟨z,A,fun a d=>(C a d).trans (k a d)⟩
  obtain⟨g,j,k⟩:=E _ (Nat.le_refl _);generalize hq2:itQ (Ji N P cb b) (6*i) (min 6 (N b-6*i)) (q.take (P (b+1) i))=q2 at g j k
  have r:q2.tn (b+1)=i:=(k (b+1) (by omega)).trans f;have x:q2.tn (b+1)<N (b+1):=by omega
  have o:=g.done c hb x q2.t (by rw[g.g5,if_neg (by omega)]);have n:Ji N P cb (b+1) i q=((({ q2 with t:=q2.t }:RdQ).put (Dt (b+1) (q2.tn (b+1))) (P (b+1) (q2.tn (b+1)))).turn (b+1)):=by
   show((_:RdQ).put (Dd 2 (b+1) _) (P (b+1) i)).turn (b+1)=_;rw[hq2];unfold Dt;rw[if_neg (by omega),r]
  rw[n];refine⟨o,⟨?_,fun a d=>?_⟩,fun a d=>?_⟩
  ·show(if b+1=b+1 then q2.tn (b+1)+1 else q2.tn (b+1))=_;rw[if_pos rfl,r]
  ·show(if a=b+1 then q2.tn (b+1)+1 else q2.tn a)=_;rw[if_neg (by omega)];by_cases e:a=b
   ·subst e;rw[j.1,show a+1-a=1 by omega];omega
   ·rw[j.2 a (by omega),show b+1-a=b-a+1 by omega,Nat.pow_succ,Nat.mul_assoc];by_cases y:6*(i+1)<=N b
    ·rw[show 6*i+min 6 (N b-6*i)=6*(i+1) by omega]
    ·have p:=c.grow (b-a) a (by omega);rw[show a+(b-a)=b by omega]at p;rw[show 6*i+min 6 (N b-6*i)=N b by omega];have w:6 ^ (b-a)*N b<=6 ^ (b-a)*(6*(i+1)):=Nat.mul_le_mul_left _ (by omega);rw[Nat.min_eq_right p,Nat.min_eq_right (Nat.le_trans p w)]
  ·show(if a=b+1 then q2.tn (b+1)+1 else q2.tn a)=_;rw[if_neg (by omega)];exact k a (by omega)
end
theorem Zih(kk:UInt8)(s:By)(a i:Nat):(Dv kk s a i).data[0]?=some kk:=by
 rw[<-Array.getElem?_toList];show(BL (Dv kk s a i))[0]?=some kk;unfold Dv;rw[Jb,show BL (⟨#[kk]⟩:By)=[kk] from rfl]
 rfl
section
variable{D:LY}{R:NB}{N:Nat->Nat}{P X:Nat->Nat->Nat}{B:Nat}{ch:Nat->List UInt8}
theorem Zm1(c:Rows D R N P X B){cb:NB}(j:∀i,BL (cb i)=ch i){b:Nat}(g:b+1<=B){i:Nat}{q:RdQ}(hi:i<N (b+1))(h:Good N P ch B (b+2) q)(e:TnI N (b+1) i q):
  6*i<N b/\∀m,m<=min 6 (N b-6*i)->Good N P ch B (b+1) (itQ (Ji N P cb b) (6*i) m (q.take (P (b+1) i)))/\TnI N b (6*i+m) (itQ (Ji N P cb b) (6*i) m (q.take (P (b+1) i)))/\∀a,b<a->(itQ (Ji N P cb b) (6*i) m (q.take (P (b+1) i))).tn a=q.tn a:=by
 have f:q.tn (b+1)=i:=e.1;have k:q.tn (b+1)<N (b+1):=by omega
 have aa:=c.nn b (by omega);refine⟨by omega,fun m=>?_⟩
 induction m with
 | zero=>
  refine fun _=>⟨by rw[<-f];exact Good.take c g h k,⟨?_,fun a d=>?_⟩,fun a _=>rfl⟩
  ·show q.tn b=_;rw[e.2 b (by omega),show b+1-b=1 by omega];omega
  ·show q.tn a=_;rw[e.2 a (by omega),show b+1-a=b-a+1 by omega,Nat.pow_succ,Nat.mul_assoc,Nat.add_zero]
 | succ m ih=>
  intro hm;obtain⟨p,r,s⟩:=ih (by omega);obtain⟨l,n,o⟩:=Zfz c j b (by omega) (6*i+m) _ (by omega) p r;exact⟨l,n,fun a d=>(o a d).trans (s a d)⟩
def cbT(R:NB)(i:Nat):By:=DR (Dv 3 (R 0) 63 i)
theorem Znf(R:NB)(i:Nat):(cbT R i).size=63:=by unfold cbT DR;rw[ByteArray.size_extract,KY];rfl
theorem Zgn(d:Rows D R N P X B)(h:World)(f g e n o:Nat){U vw T:Value}{a:OA}{l c:Nat}(x:DS h e U (.slice a l c) vw T D)(z:e<f/\∀k,Own (.slice a l c) k->k<f):
  ∀(b:Nat),b<=B->∀(i:Nat) (q:RdQ) (va vt:Value) (W:World),i<N b->Good N P (fun i=>BL (cbT R i)) B (b+1) q->TnI N b i q->RdS h f g e n o q va vt W->
   Calls Tryz.prog 202 #[.pointer (some ⟨g,0,none⟩),.agg #[.int .i64 (P b i:Nat),.int .u64 (X b i:Nat)]] W (Ko h f g e n o W va vt b (Ji N P (cbT R) b i q))
 | 0,hb,i,q,va,vt,W,hi,hg,ht,hS=>by
  have p:q.tn 0=i:=ht.1;have v:q.tn 0<N 0:=by omega
  have s:=d.pl 0 i hb hi;have K:=d.ns 0 hb;have r:=hg.fresh d hb v;rw[p]at r;have aa:q.t.size=63*i:=by
   rw[<-DW,hg.g5,KK (m:=63) (fun k=>by rw[DW,Znf]),p]
  have w:=hg.role d hb v;exact Zox W h f g e n o q va vt hS x z (P 0 i) (X 0 i) s.1 s.2 r (Dv 3 (R 0) 63 i) (d.d0 i hi) (Zih _ _ _ _) (by omega) w (hg.len d) (by omega)
 | b+1,hb,i,q,va,vt,W,hi,hg,ht,hS=>by
  have p:q.tn (b+1)=i:=ht.1;have v:q.tn (b+1)<N (b+1):=by omega
  have s:=d.pl (b+1) i hb hi;have K:=d.ns (b+1) hb;have h8:=d.b8;have r:=hg.fresh d hb v;rw[p]at r;obtain⟨h6,E⟩:=Zm1 d (cb:=cbT R) (fun _=>rfl) hb hi hg ht;obtain⟨C,k2,Q⟩:=E _ (Nat.le_refl _);have e2:(itQ (Ji N P (cbT R) b) (6*i) (min 6 (N b-6*i)) (q.take (P (b+1) i))).tn (b+1)=i:=(Q (b+1) (by omega)).trans p;have w:=C.role d hb (by omega);have L:Dt (b+1) ((itQ (Ji N P (cbT R) b) (6*i) (min 6 (N b-6*i)) (q.take (P (b+1) i))).tn (b+1))=Dd 2 (b+1) ((itQ (Ji N P (cbT R) b) (6*i) (min 6 (N b-6*i)) (q.take (P (b+1) i))).tn (b+1)):=by unfold Dt;rw[if_neg (by omega)]
  rw[L]at w;refine Zoy W h f g e n o q va vt hS x z (P (b+1) i) (X (b+1) i) s.1 s.2 r (Dv 2 (R (b+1)) 60 i) (d.d1 b (by omega) i hi) (Zih _ _ _ _) (b+1) (by omega) _ (fun Z F J H _=>?_) w (C.len d) (by omega);have A:=fun j (y:j<6)=>ZgL (P:=P b) (X:=X b) (fun k=>(d.px b k).1) (fun k=>(d.px b k).2) (d.rr b (by omega)) i j y
  refine Zf0 Z h f g e n o (fun j=>itQ (Ji N P (cbT R) b) (6*i) j (q.take (P (b+1) i))) va vt J (min 6 (N b-6*i)) b (by omega) (by omega) (by omega) F _ (KY _ _ _ _) H (fun j=>P b (6*i+j)) (fun j=>X b (6*i+j)) (fun j y=>?_) (fun hm=>?_) (fun j y G S V I=>?_)
  ·obtain⟨t,u⟩:=A j (by omega);rw[if_pos (by omega)]at t u;have:=(d.pl b (6*i+j) (by omega) (by omega)).1;exact⟨t,u,by omega⟩
  ·obtain⟨t,u⟩:=A (min 6 (N b-6*i)) (by omega);rw[if_neg (by omega)]at t u;exact⟨t,u⟩
  ·obtain⟨M,O,_⟩:=E j (by omega);exact Zgn d h f g e n o x z b (by omega) (6*i+j) _ S V G (by omega) M O I
end
def FdS(fb:Nat)(s:By)(vt:Value)(W:World):Prop:=
 ∃a l c,RowIs W fb 287 [.slice a l c]/\RdB W a l c s/\l<=c/\∀x,a=some x->Own vt x.block
theorem FdS.fr{e:Nat}{s:By}{b:Value}{W d:World}(h:FdS e s b W){Z:Nat->Prop}(g:Fr Z W d)(n:¬Z e)(o:∀k,Own b k->¬Z k)(q:∀k,Own b k->k<W.heap.size):FdS e s b d:=by
 obtain⟨a,l,c,t,f,u,m⟩:=h;refine⟨a,l,c,t.fr g n,?_,u,m⟩;refine⟨f.1,f.2.1,fun j v r=>?_⟩;obtain⟨x,i,p⟩:=f.2.2 j v r;have ho:=m x i;exact⟨x,i,(World.cell?_of_block (by show d.heap[(x.add j).block]?=W.heap[(x.add j).block]?;rw[Addr.block_add'];exact g.block _ (q _ ho) (o _ ho))).trans p⟩
theorem FdS.below{c:Nat}{s:By}{a:Value}{W b:World}(h:FdS c s a W)(d:Below W.heap.size W b)(f:∀k,Own a k->k<W.heap.size):FdS c s a b:=h.fr (Z:=fun _=>False) (Fr.of_below d) (fun e=>e) (fun _ _ e=>e) f
theorem FdS.post{c:Nat}{s:By}{d:Value}{W b:World}{a:OA}{l n:Nat}{v:Value}{e:Ending}(j:∀x,a=some x->Own d x.block)(k:QH W c a l s n v e b):FdS c (s.extract n s.size) d b:=by
 obtain⟨_,f,g,o,p,q,r,_⟩:=k;exact⟨f,l-n,g,o,p,q,fun x m=>by obtain⟨y,h,i⟩:=r x m;rw[<-i];exact j y h⟩
theorem FdS.number{b:Nat}{s:By}{g:Value}{W:World}(h:FdS b s g W)(o:¬Own g b)(hs:s.size<=2000000)(n:Nat)(m:n<=8):
  Calls Tryz.prog 240 #[.pointer (some ⟨b,0,none⟩),.int .i64 (n:Nat)] W fun e d=>e = .returned (.int .u64 (DL (BL (Di s n)):Nat))/\FdS b (s.extract n s.size) g d/\Fr (fun k=>k=b) W d:=by
 obtain⟨a,l,c,q,i,r,j⟩:=h;have hl:l=s.size:=i.1;refine(Zco W b a l c s q i r (fun x p e=>o (by rw[<-e];exact j x p)) n m (by omega)).mono ?_;intro e d f;exact⟨f.1,FdS.post j f,f.2.choose_spec.choose_spec.2.2.2.2⟩
theorem FdS.ref{b:Nat}{s:By}{g:Value}{W:World}(h:FdS b s g W)(m:¬Own g b)(hs:s.size<=2000000):
  Calls Tryz.prog 238 #[.pointer (some ⟨b,0,none⟩)] W fun e d=>e = .returned (.agg #[.int .i64 (rdP s:Nat),.int .u64 (rdX s:Nat)])/\FdS b (s.extract 10 s.size) g d/\Fr (fun k=>k=b) W d:=by
 obtain⟨a,l,c,o,i,p,j⟩:=h;have hl:l=s.size:=i.1;refine(U6 W b a l c s o i p (fun x n e=>m (by rw[<-e];exact j x n)) (by omega)).mono ?_;intro e d f;exact⟨f.1,FdS.post j f,f.2.choose_spec.choose_spec.2.2.2.2⟩
def Km(d:By):NB
 | 0=>⟨#[]⟩
 | k+1=>Km d k++dtB d k
theorem Uf(d:By):∀k,(Km d k).size=64*k
 | 0=>rfl
 | k+1=>by unfold Km;rw[ByteArray.size_append,Uf d k,Qd];omega
theorem BL_dtB(d:By)(k:Nat):BL (dtB d k)=(((BL d).drop (64*k)).take 64++List.replicate 64 0).take 64:=by
 unfold dtB chB;rw[KI,J3,show k*64+64-k*64=64 by omega,Nat.mul_comm k 64]
theorem ZjK(d:By):∀k,(BL (Km d k)).take d.size=(BL d).take (64*k)
 | 0=>by simp[Km,BL]
 | k+1=>by
  have ih:=ZjK d k;unfold Km;rw[Jb,List.take_append,ih,DW,Uf,BL_dtB];by_cases h:64*k<=d.size
  ·have b:((BL d).drop (64*k)).length=d.size-64*k:=by rw[List.length_drop,DW]
   rw[List.take_take];have a:((((BL d).drop (64*k)).take 64++List.replicate 64 (0:UInt8)).take (min (d.size-64*k) 64))=((BL d).drop (64*k)).take 64:=by
    rw[List.take_append_of_le_length (by rw[List.length_take,b];omega),List.take_take];by_cases h2:d.size-64*k<=64
    ·rw[show min (min (d.size-64*k) 64) 64=d.size-64*k by omega,List.take_of_length_le (by omega),List.take_of_length_le (by omega)]
    ·rw[show min (min (d.size-64*k) 64) 64=64 by omega]
   rw[a,show 64*(k+1)=64*k+64 by omega,List.take_add]
  ·rw[show d.size-64*k=0 by omega,List.take_zero,List.append_nil,List.take_of_length_le (by rw[DW];omega),List.take_of_length_le (by rw[DW];omega)]
theorem Zme(d:By):(BL (Km d (nBl d))).take d.size=BL d:=by
 rw[ZjK,List.take_of_length_le (by rw[DW];unfold nBl;omega)]
def D3(q:RdQ)(fn:Nat)(P:Nat->Nat):Nat->RdQ
 | 0=>q
 | k+1=>((D3 q fn P k).take (P k)).put (Dd 4 fn k) (P k)
structure FiI(W w0:World)(n0 rb db tp tx fb:Nat)(vt va0:Value)(p:By)(fn:Nat)(d:By)(q:RdQ)(s:By)(k:Nat)(va v:Value)(wr:World):Prop where
 rd:RdS w0 n0 rb db tp tx q va vt wr
 fd:FdS fb s vt wr
 b5:RowIs wr W.heap.size 141 [.string p,.int .u8 2,.int .i64 (fn:Nat),v]
 b6:RowIs wr (W.heap.size+1) 141 [.string ⟨#[]⟩,.int .u8 0,.int .i64 0,.slice none 0 0]
 dt:SlB (W.heap.size+2) wr v (Km d k)
 fr:Fr (fun j=>j=rb\/Own va0 j\/j=fb) W wr
 na:Dk W va0 va
 sz:W.heap.size+2<=wr.heap.size
end Go.Proofs.YtaieidcohdhgpaaGreatDoor
