/- Told. -/
import Derived.Test.YtaieidcohdhgpaaGreatDoorYAH
import Derived.Lib.SlBytesConst
namespace Go.Proofs.YtaieidcohdhgpaaGreatDoor
set_option maxHeartbeats 40000000
set_option maxRecDepth 100000
open Tryz
open Go.RowKit
theorem ZmG(w:World)(a:OA)(l c:Nat)(s:By)(h:Gp w a l c s)(n:Nat)(W:World)(q:Sl W 5 1 (.slice (some ⟨w.heap.size,0,none⟩) n n) n (List.replicate n (.int .u8 0)))(f:Bw w W):
  ∃d,(Builtin.copy_ #[59,59] 3 #[.slice (some ⟨w.heap.size,0,none⟩) n n,.slice a l c]).run prog W=.ok (goInt (Nat.min l n)) d/\Sl d 5 1 (.slice (some ⟨w.heap.size,0,none⟩) n n) n (Dc (Di s n))/\Bw w d:=by
 have G:=h.below f
 cases a with
 |none=>
  have p:s.size=0:=by
   rcases Cj s.size with e|e
   ·exact e
   ·obtain⟨x,I,_⟩:=h.2.2 0 ((Dc s)[0]'(by rw[Dg];exact e)) (Ac _)
    cases I
  have F:l=0:=by rw[h.1,p]
  have D:=h.2.1 rfl;subst F D;refine⟨W,by rw[show Nat.min 0 n=0 from Nat.zero_min n];exact Rg W _ _ _,?_,f⟩;have:Dc (Di s n)=List.replicate n (.int .u8 0):=by
   have H:s=⟨#[]⟩:=by
    apply A8;have:s.data.toList.length=0:=by rw[<-p];exact AG
    rw[AA this]
   unfold Di;by_cases r:n<=s.size
   ·rw[if_pos r];have:n=0:=by omega
    subst this;rw[Jp];simp
   ·rw[if_neg r,Jz,Ky,p,H];simp[Dc]
  rw[this];exact q
 |some x=>
  rcases q.2 with⟨e,_⟩|⟨g,aa,L,e,C,h1,u,z,A⟩
  ·cases e
  ·cases e
   have B:L=List.replicate n (.int .u8 0):=by
    rw[<-A,Ag (by omega)]
   have i:((Dc s).take (Nat.min l n)).length=Nat.min l n*1:=by
    rw[An,Dg,h.1,BS];exact BB (FE _ _)
   obtain⟨d,K,t,M⟩:=JS (P:=prog) W 59 59 3 5 1 w.heap.size 0 n n x l c L 5 ((Dc s).take (Nat.min l n)) underlying59 Q3 C i
    (λj v b=>by
     rw[Ao]at b
     split at b
     ·obtain⟨y,e,J⟩:=G.2.2 j v b;cases e;exact J
     ·cases b) (by rw[i,z];have:Nat.min l n<=n:=Nat.min_le_right _ _;omega) (λv b=>Ko s v (Bv b))
   refine⟨d,K,?_,?_⟩
   ·have E:F2 L 0 ((Dc s).take (Nat.min l n))=Dc (Di s n):=by
     unfold F2;rw[i,B,Cs,AD,Av,BS,CP];unfold Di;by_cases o:n<=s.size
     ·have m:Nat.min l n=n:=by rw[h.1];exact C9 o
      rw[if_pos o,Jp,m];simp
     ·have m:Nat.min l n=s.size:=by rw[h.1];exact BB (by omega)
      rw[if_neg o,Jz,Ky,m,Ag (by rw[Dg];exact Aa _)]
    rw[E]at t;refine⟨by rw[Dg,Jc];omega,.inr ⟨w.heap.size,n,_,rfl,t,Aa _,u,by rw[Dg,Jc];omega,by rw[Ag (by rw[Dg,Jc];omega)]⟩⟩
   ·exact f.grown M f.size (λk e=>by cases e;exact Aa _)
theorem Gp.drop{w:World}{x:Addr}{l c:Nat}{s:By}(h:Gp w (some x) l c s)(k:Nat)(b:Nat):Gp w (some (x.add k)) (l-k) b (s.extract k s.size):=by
 refine⟨by rw[Ah,h.1];omega,λe=>(by cases e),λj v a=>?_⟩;rw[Jp,Ao]at a
 split at a
 ·rw[Bf]at a;obtain⟨y,e,d⟩:=h.2.2 _ _ a
  cases e
  exact⟨_,rfl,by rw[Addr.add_add];exact d⟩
 ·cases a
theorem Addr.block_add'(x:Addr)(j:Nat):(x.add j).block=x.block:=by unfold Addr.add;split<;>rfl
def Vz(w:World)(fb:Nat)(a:OA)(l:Nat)(s:By)(n:Nat)(e:Ending)(w':World):Prop:=
 ∃a2 c2,e=.returned (.slice (some ⟨w.heap.size,0,none⟩) n n)/\Sl w' 5 1 (.slice (some ⟨w.heap.size,0,none⟩) n n) n (Dc (Di s n))/\FX w' fb 287 [.slice a2 (l-n) c2]/\Gp w' a2 (l-n) c2 (s.extract n s.size)/\l-n<=c2/\(∀x,a2=some x->∃y,a=some y/\y.block=x.block)/\Fr (λk=>k=fb) w w'
theorem Wl(w:World)(d:Nat)(a:OA)(l c:Nat)(s:By)(g:FX w d 287 [.slice a l c])(h:Gp w a l c s)(am:l<=c)(ai:∀x,a=some x->x.block≠d)(n:Nat)(hn:n<=2000000)(hl:l<=2000000):
  Cl 245 #[.pointer (some ⟨d,0,none⟩),.int .i64 n] w (Vz w d a l s n):=by
 obtain⟨Q,K,N,O,P⟩:=BT KG;have ab:∀W:World,W.ownsRow 0 5 1 (.slice (some ⟨w.heap.size,0,none⟩) n n) n (madeCells (Value.int .u8 0).cells (n*1)).toList->w.grownBy W none->∃b,(Builtin.copy_ #[59,59] 3 #[.slice (some ⟨w.heap.size,0,none⟩) n n,.slice a l c]).run prog W.drew=.ok (goInt (Nat.min l n)) b/\W.cell? ⟨d,0,none⟩=some (.slice a l c)/\b.cell? ⟨d,0,none⟩=some (.slice a l c)/\b.frozen? ⟨d,0,none⟩=false/\Hid (Sl b 5 1 (.slice (some ⟨w.heap.size,0,none⟩) n n) n (Dc (Di s n))/\Bw w b):=λW hW hg=>by
  have U:=Sl.of_owns hW;have I:(madeCells (Value.int .u8 0).cells (n*1)).toList=List.replicate n (.int .u8 0):=by rw[BS];exact ER (.int .u8 0) n
  rw[I]at U;have V:=KX hg;obtain⟨b,r1,r2,r3⟩:=ZmG w a l c s h n W.drew U V.drew;have q1:FX W d 287 [.slice a l c]:=(V.block _ g.lt).trans g;have F:FX b d 287 [.slice a l c]:=(r3.block _ g.lt).trans g;exact⟨b,r1,(q1.cell 0).trans rfl,(F.cell 0).trans rfl,F.frozen 0,r2,r3⟩
 have D:=Db ab;have al:=g.lt;have ak:=Db g;have R:=Db h;obtain⟨m,B⟩:=ex (Nat.min l n);have ap:m<=l:=by rw[B];exact FE _ _
 rw[<-B]at D;have L:l-m=l-n:=by have e:m=min l n:=B;omega
 have G:Hid (∀b q r,Sl b 5 1 (.slice (some ⟨w.heap.size,0,none⟩) n n) n (Dc (Di s n))->Bw w b->(∀X,Bw w X->Gp X q (l-n) r (s.extract n s.size))->l-n<=r->(∀x,q=some x->∃y,a=some y/\y.block=x.block)->Vz w d a l s n (.returned (.slice (some ⟨w.heap.size,0,none⟩) n n)) (b.setCell ⟨d,0,none⟩ (.slice q (l-n) r))):=λb q r f A h3 h4 S=>by
  have F:FX b d 287 [.slice a l c]:=(A.block _ g.lt).trans g;refine⟨q,r,rfl,f.setCell _ _ (λe=>?_),by simpa using F.set 0 (.slice q (l-n) r),?_,h4,S,(Fr.of_below A).set ⟨d,0,none⟩ _ rfl⟩
  ·simp[Value.ownBlock]at e;omega
  ·have J:=h3 b A;refine⟨J.1,J.2.1,λj v p=>?_⟩;obtain⟨x,e,M⟩:=J.2.2 j v p;exact⟨x,e,(CR _ _ _ _ (by intro ee;obtain⟨y,I,e2⟩:=S x e;exact ai y I (by have T:=(Cu Addr.block ee).symm;rw[Addr.block_add']at T;exact e2.trans T))).trans M⟩
 have ah:Hid (∀x,a=some x->∀X,Bw w X->Gp X (some (x.add m)) (l-n) (c-m) (s.extract n s.size)):=λx e X hX=>by
  subst e;have f:=((Da R).below hX).drop m (c-m);rw[L]at f;have A:s.extract m s.size=s.extract n s.size:=by
   have e:m=min l n:=B;rw[h.1]at e;rcases Nat.le_total s.size n with E|E
   ·apply A8;simp only[Cb];rw[e,BB E];simp[E]
   ·rw[e,C9 E]
  rw[A]at f;exact f
 have H:Hid (a=none->∀X,Gp X none (l-n) 0 (s.extract n s.size)/\l=0/\c=0):=λe X=>by
  subst e;have t:s.size=0:=by
   rcases Cj s.size with e|e
   ·exact e
   ·obtain⟨x,M,_⟩:=h.2.2 0 ((Dc s)[0]'(by rw[Dg];exact e)) (Ac _)
    cases M
  have ad:l=0:=by rw[h.1,t]
  refine⟨⟨by rw[Ah,t,ad];omega,λ_=>rfl,λj v p=>?_⟩,ad,h.2.1 rfl⟩;have:Dc (s.extract n s.size)=[]:=AA (by rw[Dg,Ah,t];omega);rw[this]at p;simp at p
 have u:=Db L;have ao:(m:Int)<=(l:Int):=by omega
 clear ab g h B L
 cases a with
 |none=>
  obtain⟨aj,rfl,rfl⟩:=Da H rfl w;obtain rfl:m=0:=by omega
  have ag:Hid (∀X,Gp X none (0-n) 0 (s.extract n s.size)):=λX=>(Da H rfl X).1
  clear aj H;go_enter func245,ntmps245;go_upto_region 2 with(at_make;refine Bz _ rfl _ _ 59 rfl 0 5 Q (.int .u8 0) 1 underlying59 K N O _ _ _ _ n rfl rfl rfl rfl (by rw[P];omega) (by unfold maxLen;omega) (Au _) ?_;intro w1 o k;obtain⟨b,C,Z,aa,ac,i⟩:=Da D w1 o k;clear o k)
  go_region_law (refine KK rfl _ _ 59 59 rfl _ _ (by simp[Act.eval]) (by simp[Act.eval]) C ?_)
  all_goals
   go_wp2;go_ret;have f:=Da G b none 0 (Da i).1 (Da i).2 (λX _=>Da ag X) (by omega) (λx e=>by cases e);rw[show 0-n=0 from Nat.zero_sub n]at f;exact f
 |some x=>
  have Y:∀y,some (x.add m)=some y->∃z,some x=some z/\z.block=y.block:=λy e=>by cases e;exact⟨x,rfl,(Addr.block_add' _ _).symm⟩
  have af:=Db Y;clear Y;by_cases ae:m=c
  ·have HE:Hid (∀X,Gp X (some x) (l-n) 0 (s.extract n s.size)):=λX=>by
    have h0:l-n=0:=by have:=Da u;omega
    have t:(s.extract n s.size).size=0:=by rw[Ah,<-(Da R).1];omega
    refine⟨by rw[h0,t],λ_=>rfl,λj v p=>?_⟩;have:Dc (s.extract n s.size)=[]:=AA (by rw[Dg,t]);rw[this]at p;simp at p
   obtain rfl:l=m:=by omega
   subst ae;go_enter func245,ntmps245;go_upto_region 2 with(at_make;refine Bz _ rfl _ _ 59 rfl 0 5 Q (.int .u8 0) 1 underlying59 K N O _ _ _ _ n rfl rfl rfl rfl (by rw[P];omega) (by unfold maxLen;omega) (Au _) ?_;intro w1 o k;obtain⟨b,C,Z,aa,ac,i⟩:=Da D w1 o k;clear o k)
   go_region_law (refine KK rfl _ _ 59 59 rfl _ _ (by simp[Act.eval]) (by simp[Act.eval]) C ?_)
   all_goals
    go_wp2;go_ret;have f:=Da G b (some x) 0 (Da i).1 (Da i).2 (λX _=>Da HE X) (by have:=Da u;omega) (λy e=>⟨x,rfl,by cases e;rfl⟩);rw[show l-n=0 by have:=Da u;omega]at f;exact f
  ·have an:¬c=m:=λe=>ae e.symm
   go_enter func245,ntmps245;go_upto_region 2 with(at_make;refine Bz _ rfl _ _ 59 rfl 0 5 Q (.int .u8 0) 1 underlying59 K N O _ _ _ _ n rfl rfl rfl rfl (by rw[P];omega) (by unfold maxLen;omega) (Au _) ?_;intro w1 o k;obtain⟨b,C,Z,aa,ac,i⟩:=Da D w1 o k;clear o k)
   go_region_law (refine KK rfl _ _ 59 59 rfl _ _ (by simp[Act.eval]) (by simp[Act.eval]) C ?_)
   all_goals
    go_wp2;go_ret;rw[show l-m=l-n from Da u];have f:=Da G b (some (x.add m)) (c-m) (Da i).1 (Da i).2 (Da ah x rfl) (by have:=Da u;omega) (Da af);exact f
def DQ:List UInt8->Nat
 |[]=>0
 |b::l=>b.toNat+256*DQ l
theorem QV:∀(l:List UInt8),DQ l<256 ^ l.length
 |[]=>by simp[DQ]
 |b::l=>by
  have h1:=QV l;have h2:b.toNat<256:=b.toNat_lt;show b.toNat+256*DQ l<256 ^ (l.length+1);rw[Ec];omega
theorem WF:∀(l:List UInt8) (b:UInt8),DQ (l++[b])=DQ l+256 ^ l.length*b.toNat
 |[],b=>by simp[DQ]
 |a::l,b=>by
  show a.toNat+256*DQ (l++[b])=a.toNat+256*DQ l+256 ^ (l.length+1)*b.toNat;rw[WF l b,Nat.mul_add,<-EP,<-Fy,Ec,Nat.mul_comm 256 (256 ^ l.length)]
theorem KO:∀(m x:Nat),x<256 ^ m->DQ (DD x m)=x
 |0,x,h=>by simp at h;subst h;rfl
 |m+1,x,h=>by
  show(UInt8.ofNat x).toNat+256*DQ (DD (x/256) m)=x;have a:x/256<256 ^ m:=by rw[Ec]at h;omega
  rw[KO m _ a];have b:(UInt8.ofNat x).toNat=x%256:=by simp
  rw[b];omega
theorem Zix(a b:Int):bits BinOp.or IntKind.u64 a b=bits BinOp.or IntKind.u64 b a:=by
 show IntKind.u64.wrap (((BitVec.ofInt 64 a ||| BitVec.ofInt 64 b:BitVec 64).toNat:Nat):Int)=IntKind.u64.wrap (((BitVec.ofInt 64 b ||| BitVec.ofInt 64 a:BitVec 64).toNat:Nat):Int);rw[BitVec.or_comm]
theorem LJ(k:Nat):2 ^ (8*k)=256 ^ k:=by rw[Nat.pow_mul]
theorem Yp(y b k:Nat)(e:k<8)(f:y<256 ^ k)(hb:b<256):bits BinOp.or IntKind.u64 (y:Int) (IntKind.u64.wrap ((b:Int)*2 ^ (8*k)))=((y+256 ^ k*b:Nat):Int):=by
 have h1:256 ^ k*256<=256 ^ 8:=by rw[<-Ec];exact Nat.pow_le_pow_right (by omega) e
 have c:256 ^ k*b+y<256 ^ 8:=by
  have:256 ^ k*b<=256 ^ k*255:=E0 _ (by omega);have:256 ^ k*256=256 ^ k*255+256 ^ k:=by omega
  omega
 have d:(256:Nat) ^ 8=18446744073709551616:=by decide
 rw[d]at c;have a:((b:Int)*2 ^ (8*k))=((2 ^ (8*k)*b:Nat):Int):=by rw[Int.natCast_mul,Int.mul_comm];simp
 rw[a,IR _ (by rw[LJ];omega),Zix,PE b (8*k) y (by rw[LJ];exact f) (by rw[LJ];omega),LJ,Fa]
def QY(w:World)(fb:Nat)(a:OA)(l:Nat)(s:By)(n:Nat)(v:Value)(e:Ending)(w':World):Prop:=
 e=.returned v/\∃a2 c2,FX w' fb 287 [.slice a2 (l-n) c2]/\Gp w' a2 (l-n) c2 (s.extract n s.size)/\l-n<=c2/\(∀x,a2=some x->∃y,a=some y/\y.block=x.block)/\Fr (λk=>k=fb) w w'
theorem Oq(w:World)(d:Nat)(a:OA)(l c:Nat)(s:By)(B:FX w d 287 [.slice a l c])(h:Gp w a l c s)(u:l<=c)(v:∀x,a=some x->x.block≠d)(n:Nat)(hn:n<=8)(O:l<=2000000):
  Cl 240 #[.pointer (some ⟨d,0,none⟩),.int .i64 n] w (QY w d a l s n (.int .u64 (DQ (Di s n).data.toList:Nat))):=by
 have D:=Db (Wl w d a l c s B h u v n (by omega) O);clear B h u v;obtain⟨t,f⟩:=ex (Di s n);have o:t.size=n:=by rw[f,Jc]
 have I:=Db f;rw[<-f];clear f;go_enter func240,ntmps240;go_wp2_with(go_at_call 245;refine(Da D).mono ?_;rintro e w1⟨J,K,rfl,j,q⟩;rw[<-Da I]at j;have A:=j.rdB;have F:=Db A.2.2;have G:=Db q;clear j q A)
 go_loop [5,12] (λx i=>∃(k y:Nat),k<=n/\i=.int .i64 k/\x=.int .u64 y/\Hid (y=DQ (t.data.toList.take k))) (λ_ i=>n-(intOf i).toNat)
 case atStart=>exact⟨0,0,Au _,rfl,rfl,rfl⟩
 case round=>
  obtain⟨k,y,r,rfl,rfl,p⟩:=hrel;by_cases aa:k<n
  ·obtain⟨g,N,P⟩:=Da F k _ (T9 t k (by omega))
   cases N
   obtain⟨b,m⟩:∃b,b=t.data[k]'(by show k<t.size;omega):=⟨_,rfl⟩;rw[<-m,AI,Av]at P;have M:b.toNat<256:=b.toNat_lt;have C:y<256 ^ k:=by
    have:=QV (t.data.toList.take k);rw[<-Da p,An,AG,show t.data.size=n from o,BB r]at this;exact this
   have H:Hid (y+256 ^ k*b.toNat=DQ (t.data.toList.take (k+1))):=by
    show _=_;rw[V9 t k (by omega),WF,<-Da p,An,AG,show t.data.size=n from o,BB r,m]
   have z:=Yp y b.toNat k (by omega) C M;have E:=Db z;clear z m C;go_wp2
   go_round
   case rel=>exact⟨k+1,y+256 ^ k*b.toNat,by omega,by go_num,by rw[Da E],Da H⟩
   case measure=>simp[intOf];omega
  ·obtain rfl:k=n:=by omega
   go_wp2;go_ret;have L:t.data.toList.take k=t.data.toList:=Ag (by rw[AG];exact Ee o);exact⟨by rw[show y=DQ t.data.toList by rw[Da p,L]]<;>rfl,J,K,Da G⟩
def GA(s:By):Nat:=DQ (Di s 2).data.toList
def GE(s:By):Nat:=DQ (Di (s.extract 2 s.size) 8).data.toList
theorem UR(s:By):GA s<65536:=by
 have:=QV (Di s 2).data.toList;rw[AG,show(Di s 2).data.size=2 from Jc s 2]at this;exact this
theorem Gp.fr{P:Nat->Prop}{w w':World}{a:OA}{l c:Nat}{s:By}(h:Gp w a l c s)(g:Fr P w w')(f:∀x,a=some x->0<s.size->¬P x.block):Gp w' a l c s:=
 ⟨h.1,h.2.1,λj v b=>by
  obtain⟨x,e,d⟩:=h.2.2 j v b;have k:0<s.size:=by have:=(Ae.1 b).1;rw[Dg]at this;omega
  have i:=Am _ _ d;refine⟨x,e,(Ay (g.block _ i ?_)).trans d⟩;rw[Addr.block_add'];exact f x e k⟩
theorem Gp.lt{w:World}{x:Addr}{l c:Nat}{s:By}(h:Gp w (some x) l c s)(a:0<s.size):x.block<w.heap.size:=by
 obtain⟨y,e,b⟩:=h.2.2 0 ((Dc s)[0]'(by rw[Dg];exact a)) (Ac _)
 cases e
 have:=Am _ _ b;rw[Addr.block_add']at this;exact this
theorem NY(w:World)(b:Nat)(a:OA)(l c:Nat)(s:By)(q:FX w b 287 [.slice a l c])(h:Gp w a l c s)(F:l<=c)(p:∀x,a=some x->x.block≠b)(V:l<=2000000):
  Cl 238 #[.pointer (some ⟨b,0,none⟩)] w (QY w b a l s 10 (.agg #[.int .i64 (GA s:Nat),.int .u64 (GE s:Nat)])):=by
 have ae:=q.lt;obtain⟨W,C,H,E,G,o⟩:=De w [.int .i64 0,.int .u64 0] 175;have t:=Db (Oq W b a l c s (E _ _ _ q) (h.below o) F p 2 (by omega) V);have u:Hid (∀X,QY W b a l s 2 (.int .u64 (GA s:Nat)) (.returned (.int .u64 (GA s:Nat))) X->Cl 240 #[.pointer (some ⟨b,0,none⟩),.int .i64 8] X λe Y=>e=.returned (.int .u64 (GE s:Nat))/\FX Y w.heap.size 175 [.int .i64 0,.int .u64 0]/\Hid (∀Z,Fr (λk=>k=w.heap.size) Y Z->QY w b a l s 10 (.agg #[.int .i64 (GA s:Nat),.int .u64 (GE s:Nat)]) (.returned (.agg #[.int .i64 (GA s:Nat),.int .u64 (GE s:Nat)])) Z)):=λX ⟨_,Q,S,p1,p2,p3,r,I⟩=>by
  refine(Oq X b Q (l-2) S _ p1 p2 p3 (λx e=>by obtain⟨y,d,f⟩:=r x e;rw[<-f];exact p y d) 8 (by omega) (by omega)).mono ?_;rintro e Y⟨rfl,R,T,q1,q2,q3,J,K⟩;have r1:FX X w.heap.size 175 _:=H.fr I (by omega);have r2:FX Y w.heap.size 175 _:=r1.fr K (by omega);refine⟨rfl,r2,λZ n=>⟨rfl,R,T,?_,?_,?_,λx e=>?_,?_⟩⟩
  ·rw[show l-10=l-2-8 by omega];exact q1.fr n (by omega)
  ·have e:(s.extract 2 s.size).extract 8 (s.extract 2 s.size).size=s.extract 10 s.size:=by
    apply A8;simp;omega
   rw[show l-10=l-2-8 by omega,<-e];refine q2.fr n (λx U ab hb=>?_);obtain⟨y,d,f⟩:=J x U;obtain⟨z,j,B⟩:=r y d;subst j;have:=h.lt (by rw[Ah,Ah]at ab;omega);omega
  ·omega
  ·obtain⟨y,d,f⟩:=J x e;obtain⟨z,j,B⟩:=r y d;exact⟨z,j,B.trans f⟩
  ·exact((Fr.of_below o).then (I.trans K) (λk _ h=>h)).then n (λk hk h=>by omega)
 have aa:=UR s;obtain⟨P,g⟩:=ex (GA s);obtain⟨O,D⟩:∃X,X=GE s:=⟨_,rfl⟩;rw[<-g,<-D]at u ⊢;have L:Hid (Cl 240 #[.pointer (some ⟨b,0,none⟩),.int .i64 2] W (QY W b a l s 2 (.int .u64 (P:Nat)))):=by rw[g];exact Da t
 rw[<-g]at aa;have M:=Db C;have ad:=Db G;clear t g D h q F p H E o C G;go_enter func238,ntmps238;go_upto_region 1 with fail;rw[show w.alloc (.cells #[Value.int .i64 0,Value.int .u64 0] 175)=W from Da M];go_wp2_with(first|(have ac:=A;clear ac;go_at_call 240;refine(Da u _ (Da A)).mono ?_;rintro e Y⟨rfl,i,N⟩;have m0:=i.cell 0;have m1:=i.cell 1;have f0:=i.frozen 0;have f1:=i.frozen 1)|(go_at_call 240;refine(Da L).mono ?_;rintro e X m;obtain rfl:=m.1;have A:=Db m;clear m));exact Ap (v:=.agg #[.int .i64 (P:Nat),.int .u64 (O:Nat)]) (by simp[results,results238,go_sem,m0,m1]) rfl (Da N _ (((Fr.refl (λk=>k=w.heap.size) Y).set ⟨w.heap.size,0,none⟩ _ rfl).set ⟨w.heap.size,1,none⟩ _ rfl))
theorem tv(i:Nat){P:Program}{e:Region.Mode}{b:Array Oper}{Q:Exit->Act->World->Prop}{S:World->Prop}{f:Oper}(v:Value){g:Nat}{d:Array Bool}{a:Act}{w:World}(n:b[i]?=some f)(q:YieldsIf P b S f v a)(h:wpAnyH P e b Q S g (d.setIfInBounds i true) (a.put f.dst v) w)(p:Region.noSelect b=true:=by kernel_rfl)(m:Region.free e b d i=true:=by kernel_rfl)(o:(Region.ready e b d).contains i=true:=by kernel_rfl)(j:∀c a w,Q (.panic c) (a.put f.dst v) w->Q (.panic c) a w:=by exact λ_ _ _ h=>h)(k:S w:=by assumption):wpAnyH P e b Q S (g+1) d a w:=
 A5 n p m o j q k h
theorem tk(i:Nat){P:Program}{e:Region.Mode}{b:Array Oper}{Q:Exit->Act->World->Prop}{S:World->Prop}{f:Oper}{v:Value}{g:Nat}{d y:Array Bool}{a z:Act}{w:World}(h:wpAnyH P e b Q S g y z w)(n:b[i]?=some f:=by rfl)(p:Region.noSelect b=true:=by kernel_rfl)(m:Region.free e b d i=true:=by kernel_rfl)(o:(Region.ready e b d).contains i=true:=by kernel_rfl)(j:∀c a w,Q (.panic c) (a.put f.dst v) w->Q (.panic c) a w:=by exact λ_ _ _ h=>h)(q:YieldsIf P b S f v a:=by refine Or.inl ⟨by rfl,?_⟩;intro w l;(try dsimp only at l);go_simp<;>with_reducible rfl)(s:a.put f.dst v=z:=by(try simp only[pE]);rfl)(r:d.setIfInBounds i true=y:=by(try simp only[pE]);rfl)(k:S w:=by assumption):wpAnyH P e b Q S (g+1) d a w:=
 by subst s r;exact A5 n p m o j q k h
theorem tu(i:Nat){P:Program}{e:Region.Mode}{b:Array Oper}{Q:Exit->Act->World->Prop}{S:World->Prop}{f:Oper}{g:Nat}{d:Array Bool}{a:Act}{w:World}(h:wpAnyH P e b Q S g (d.setIfInBounds i true) (a.put f.dst undef) w)(m:b[i]?=some f:=by rfl)(o:Region.noSelect b=true:=by kernel_rfl)(l:Region.free e b d i=true:=by kernel_rfl)(n:(Region.ready e b d).contains i=true:=by kernel_rfl)(j:∀c a w,Q (.panic c) (a.put f.dst undef) w->Q (.panic c) a w:=by exact λ_ _ _ h=>h)(p:YieldsIf P b S f undef a:=by exact Or.inr ⟨by rfl,rfl⟩)(k:S w:=by assumption):wpAnyH P e b Q S (g+1) d a w:=
 A5 m o l n j p k h
theorem rk(i:Nat){P:Program}{d:Region.Mode}{b:Array Oper}{Q:Exit->Act->World->Prop}{S:World->Prop}{o:Oper}{e:Nat}{c:Array Bool}{a:Act}{w:World}(h:∀K':Act->World->Prop,Shut (∀a w,S w->(S w->wpAnyH P d b Q S e (c.setIfInBounds i true) a w)->K' a w)->if Region.wanted o (yielded b a.tmps)=true then Oper.wp P o a w K' Q else K' (a.put o.dst undef) w)(f:Region.ready d b c=[i]:=by kernel_rfl)(ho:b[i]?=some o:=by rfl):wpAnyH P d b Q S (e+1) c a w:=
 Bo f (by simp) (AR ho h Bg)
theorem W9(off:Nat):∀(vs:F0) (k:Nat) (a:Array Value) (j:Nat),off+k+vs.length<=a.size->
  ((vs.zipIdx k).foldl (λa x=>a.setIfInBounds (off+x.2) x.1) a)[j]?=if off+k<=j/\j<off+k+vs.length then vs[j-(off+k)]? else a[j]?
 |[],k,a,j,_=>by simp;intro b c;omega
 |v::vs,k,a,j,h=>by
  simp only[Al]at h;rw[List.zipIdx_cons,List.foldl_cons,W9 off vs (k+1) _ j (by simp;omega)];by_cases b:off+(k+1)<=j/\j<off+(k+1)+vs.length
  ·rw[if_pos b,if_pos (by simp only[Al];omega),show j-(off+k)=(j-(off+(k+1)))+1 by omega,CX]
  ·rw[if_neg b];by_cases c:j=off+k
   ·subst c;rw[if_pos (by simp only[Al];omega),Nat.sub_self,List.getElem?_cons_zero];simp only[A7,if_true];rw[if_pos (by omega)]
   ·rw[if_neg (by simp only[Al];omega)];simp only[A7];rw[if_neg (by omega)]
theorem Ve(off:Nat)(vs a:Array Value)(h:off+vs.size<=a.size):(vs.zipIdx.foldl (λa (x:Value×Nat)=>a.setIfInBounds (off+x.2) x.1) a)=(F2 a.toList off vs.toList).toArray:=by
 apply Array.ext_getElem?;intro j;have b:(vs.zipIdx.foldl (λa (x:Value×Nat)=>a.setIfInBounds (off+x.2) x.1) a)=((vs.toList.zipIdx 0).foldl (λa x=>a.setIfInBounds (off+x.2) x.1) a):=by
  rw[<-Array.foldl_toList,Array.toList_zipIdx]
 rw[b,W9 off vs.toList 0 a j (by simpa using h)];simp only[Ef,AG,List.getElem?_toArray];unfold F2;by_cases c:j<off
 ·rw[if_neg (by omega),Ax,AW (by simp;omega),Ao,if_pos c];simp
 ·by_cases h2:j<off+vs.size
  ·rw[if_pos (by omega),Ax,AS (by simp;omega),AW (by simp;omega)]
   congr 1
   simp;omega
  ·rw[if_neg (by omega),AS (by simp;omega),Bf];simp only[Ab,An,AG,CF]
   congr 1
   omega
def F8(p:Nat)(s:By):F0:=.int .i64 (p:Nat)::Dc s
def Ic(p:Nat)(s:By):Value:=.agg (F8 p s).toArray
theorem J2(p:Nat)(s:By):(F8 p s).length=s.size+1:=by simp[F8,Dg]
theorem PW(p:Nat)(s:By):∀u∈F8 p s,u.oneCell'=true:=λu a=>by
 rcases AC.1 a with rfl|h
 ·rfl
 ·exact Ko s u h
theorem UY:(prog.info? 207).map (λi=>(i.zero,i.size,i.bytes))=some (some (.agg (F8 0 (Dn 64)).toArray),65,72):=by kernel_rfl
theorem QH:(prog.info? 207).map (·.size)=some 65:=by
 have:=UY
 cases h:prog.info? 207 with
 |none=>rw[h]at this;cases this
 |some i=>rw[h]at this;simp only[Fe,Em,A9]at this ⊢;exact this.2.1
theorem Py:∃d,prog.underlying 207=some d/\d.isRow=true:=by
 have h:(prog.underlying 207).map (·.isRow)=some true:=by kernel_rfl
 cases hd:prog.underlying 207 with
 |none=>rw[hd]at h;cases h
 |some d=>rw[hd]at h;exact⟨d,rfl,by simpa using h⟩
theorem Sm:prog.underlying 182=some (.slice 207):=by kernel_rfl
theorem Zhd(a:List (Nat×Value)):prog.built 207 a=Instr.fill (#[(0,1),(1,64)][·]?) (F8 0 (Dn 64)).toArray a:=by kernel_rfl
theorem N6(s:By):(DA s).cells=(Dc s).toArray:=rfl
theorem P6(p:Nat)(s:By)(b:s.size=64):prog.built 207 [(0,.int .i64 (p:Nat)),(1,DA s)]=some (F8 p s).toArray:=by
 rw[Zhd];have c:(F8 0 (Dn 64)).length=65:=by rw[J2,Jr]
 have d:(Value.int .i64 (p:Nat)).cells = #[.int .i64 (p:Nat)]:=rfl;have g:F2 (F8 0 (Dn 64)) 0 [.int .i64 (p:Nat)]=.int .i64 (p:Nat)::Dc (Dn 64):=by simp[F2,F8]
 have h:F2 (.int .i64 (p:Nat)::Dc (Dn 64)) 1 (Dc s)=F8 p s:=by
  have:(Dc (Dn 64)).drop (Dc s).length=[]:=B8 (by rw[Dg,Dg,b,Jr];exact Aa _);simp[F2,F8,Nat.add_comm 1,this]
 have e:(#[(0,1),(1,64)]:Array (Nat×Nat))[0]?=some (0,1):=rfl;have f:(#[(0,1),(1,64)]:Array (Nat×Nat))[1]?=some (1,64):=rfl;unfold Instr.fill;rw[e];simp only[d];rw[Ve 0 #[.int .i64 (p:Nat)] _ (by simp[c])];simp only[AM,Al,AK,c];rw[if_neg (by decide)];rw[g];unfold Instr.fill;rw[f];simp only[N6];have a:(Dc s).toArray.size=64:=by simp[Dg,b]
 rw[Ve 1 _ _ (by rw[a];simp[Dg,Jr])];simp only[a];rw[if_neg (by simp[Dg,Jr])];rw[h]
 rfl
theorem PT:∀w,(zeroValue 207).run prog w=.ok (Ic 0 (Dn 64)) w:=(Et (n:=65) (by
 have:=UY
 cases h:prog.info? 207 with
 |none=>rw[h]at this;cases this
 |some i=>rw[h]at this;simp only[Fe,Em,A9]at this ⊢;exact⟨this.1,this.2.1⟩)).1
theorem YL(p:Nat)(s:By)(c:s.size=64)(Z:Array Value)(a:Z.size=65):Instr.fill (λi=>some (i*65,65)) Z [(0,Ic p s)]=some (F8 p s).toArray:=by
 have d:(Ic p s).cells=(F8 p s).toArray:=rfl;have b:(F8 p s).toArray.size=65:=by simp[J2,c]
 unfold Instr.fill;simp only[d];rw[Ve (0*65) _ _ (by rw[b,a];decide)];simp only[b,a];rw[if_neg (by decide)];have:F2 Z.toList (0*65) (F8 p s)=F8 p s:=by
  unfold F2;rw[B8 (by rw[AG,a,J2,c];decide)];simp
 rw[this]
 rfl
theorem Zhg(w:World)(p:Nat)(s:By)(c:s.size=64):(Instr.buildSlice 182 1 #[(0,Ic p s)]).run prog w=.ok (.slice (some ⟨w.heap.size,0,none⟩) 1 1) (w.alloc (.cells (F8 p s).toArray 207)):=by
 obtain⟨i0,b,aa,e,ab⟩:=BT UY;have d:(sizeOf 207).run prog w=.ok 65 w:=by simp[sizeOf,typeInfo,b,e]
 have a:=YL p s c;unfold Instr.buildSlice;simp only[Cn,Ei Sm,Cg,d];rw[if_neg (by decide),if_neg (by decide)];simp only[Cn,PT w,Cg,E6];rw[a _ (by simp)]
 rfl
def K6(ps:LB):F0:=ps.flatMap (λx=>F8 x.1 x.2)
theorem Zjm(ps:LB)(p:Nat)(s:By):K6 (ps++[(p,s)])=K6 ps++F8 p s:=by simp[K6]
def Hw(w:World)(v:Value)(ps:LB):Prop:=Sl w 207 65 v ps.length (K6 ps)
theorem Hw.nil(w:World):Hw w (.slice none 0 0) []:=⟨rfl,.inl ⟨rfl,rfl⟩⟩
theorem Mc(w:World)(v:Value)(ps:LB)(h:Hw w v ps)(nb p:Nat)(s:By)(o:s.size=64)(n:FX w nb 207 (F8 p s))(hl:ps.length<=1000000000):
  ∃f w',(Builtin.append_ #[182,182] 182 #[v,.slice (some ⟨nb,0,none⟩) 1 1]).run prog w=.ok f w'/\∃a c b,f=.slice a c b/\Hw w' (.slice a c b) (ps++[(p,s)])/\Fr (Own v) w w'/\Dk w v (.slice a c b):=by
 obtain⟨y,l,r,t,x⟩:=BT UY;obtain⟨f,w2,z,g,d,A⟩:=Qa (P:=prog) w 182 182 207 y _ 65 72 Sm l r t x (by show(F8 0 (Dn 64)).toArray.size=65;simp[J2,Jr]) (by decide) v ps.length (K6 ps) h ⟨nb,0,none⟩ 1 1 (F8 p s) (by rw[J2,o])
  (λj u q=>by rw[AI,Av,n.cell];exact q) (PW p s) (by unfold maxLen;omega) (by omega)
 obtain⟨a,c,b,rfl⟩:=g.shape;refine⟨_,w2,z,a,c,b,rfl,?_,⟨d.os,d.tape,d.output,d.size,λk m i=>d.block k m (λe=>i e.symm)⟩,A⟩;unfold Hw;rw[Zjm,Ab];exact g
theorem O1(w:World)(v:Value)(ps:LB)(a:Hw w v ps)(nb p:Nat)(s:By)(d:s.size=64)(c:FX w nb 207 (F8 p s))(b:ps.length<=1000000):
  ∃v' w',(Builtin.append_ #[182,182] 182 #[v,.slice (some ⟨nb,0,none⟩) 1 1]).run prog w=.ok v' w'/\∃a' l' c',v'=.slice a' l' c'/\Hw w' (.slice a' l' c') (ps++[(p,s)])/\Fr (Own v) w w'/\Dk w v (.slice a' l' c'):=
 Mc w v ps a nb p s d c (Af b (by decide))
theorem R7{P:Program}{c:Array Oper}{d:List Oper}{o:Oper}{a:Act}{w:World}{Q:Exit->Act->World->Prop}(f:o.guard=none)(t:TypeId)(x:Operand)(ho:o.op=.box t x)(b:F0)(g:a.eval x=.agg b.toArray)(h:wpList P c Q d (a.put o.dst (.pointer (some ⟨w.heap.size,0,none⟩))) (w.alloc (.cells b.toArray t))):wpList P c Q (o::d) a w:=by
 refine E5 f λK e=>?_
 unfold Oper.wp execOp;simp only[ho,Instr.box,Cn,g];simp[newVar,newRow,go_sem,Value.cells];exact e _ _ h
theorem ZeV{P:Program}(w:World)(g o:Nat)(t ty:TypeId)(L a:F0)(h:FX w g t L)(f:o+a.length<=L.length)(b:(P.info? ty).map (·.size)=some a.length)(e:∀u∈a,u.oneCell'=true):
  (storeVar ty ⟨g,o,none⟩ (.agg a.toArray)).run P w=.ok () (w.setRow g (F2 L o a).toArray):=by
 have d:=FV P g o t a 0 L.toArray w h (by simpa using f) e
 cases hq:P.info? ty with
 |none=>simp[hq]at b
 |some i=>
  have c:a.length=i.size:=by simp[hq]at b;omega
  simp only[Ef]at d;simp[storeVar,sizeOf,typeInfo,hq,Value.cells,c,d];unfold F2;rw[c,Ax]
theorem Xt{P:Program}{c:Oper}{a:Act}{w:World}{K:Act->World->Prop}{Q:Exit->Act->World->Prop}(ty:TypeId)(x y:Operand)(ho:c.op=.store ty x y)(g o:Nat)(t:TypeId)(L b:F0)(j:a.eval x=.pointer (some ⟨g,o,none⟩))(k:a.eval y=.agg b.toArray)(f:FX w g t L)(e:o+b.length<=L.length)(i:(P.info? ty).map (·.size)=some b.length)(d:∀u∈b,u.oneCell'=true)(h:K (a.put c.dst undef) (w.setRow g (F2 L o b).toArray)):c.wp P a w K Q:=by
 unfold Oper.wp execOp;simp only[ho,j,k,Instr.storeAt,Instr.sureAddr,Cn,E6,Cg,ZeV w g o t ty L b f e i d];exact h
theorem Xw{P:Program}{c:Array Oper}{o:Oper}{a:Act}{w:World}{K:Act->World->Prop}{Q:Exit->Act->World->Prop}{E:Prop}(i:o.guard=none)(ty:TypeId)(x y:Operand)(ho:o.op=.store ty x y)(g off:Nat)(t:TypeId)(L b:F0)(m:a.eval x=.pointer (some ⟨g,off,none⟩))(n:a.eval y=.agg b.toArray)(f:FX w g t L)(e:off+b.length<=L.length)(j:(P.info? ty).map (·.size)=some b.length)(d:∀u∈b,u.oneCell'=true)(w':World)(l:w.setRow g (F2 L off b).toArray=w')(h:K (a.put o.dst undef) w'):if Region.wanted o (yielded c a.tmps)=true then Oper.wp P o a w K Q else E:=by
 have k:Region.wanted o (yielded c a.tmps)=true:=by simp[Region.wanted,i]
 rw[if_pos k];exact Xt ty x y ho g off t L b m n f e j d (by rw[l];exact h)
theorem OH{b:Array Oper}{o:Oper}{a:Act}{w:World}{K:Act->World->Prop}{Q:Exit->Act->World->Prop}{E:Prop}(c:o.guard=none)(x:Operand)(ho:o.op=.buildSlice 182 1 #[(0,x)])(p:Nat)(s:By)(d:s.size=64)(f:a.eval x=Ic p s)(h:K (a.put o.dst (.slice (some ⟨w.heap.size,0,none⟩) 1 1)) (w.alloc (.cells (F8 p s).toArray 207))):if Region.wanted o (yielded b a.tmps)=true then Oper.wp prog o a w K Q else E:=by
 have e:Region.wanted o (yielded b a.tmps)=true:=by simp[Region.wanted,c]
 rw[if_pos e];unfold Oper.wp execOp;simp only[ho,List.map_toArray,BI,CY,f,Cn,Zhg w p s d,Cg,E6,Oper.upon];exact h
theorem Wm:∀{D:LY},(∀s∈D,s.size=64)->∀(i:Nat) (s:By),i<D.length->s.size=64->F2 (JH D) (i*64) (Dc s)=JH (D.set i s)
 |[],_,i,s,hi,_=>by simp at hi
 |x::D,h,0,s,_,hs=>by
  have a:=h x Ba;unfold JH F2;simp only[A1,List.set_cons_zero,FQ,Cs,AD,Av];rw[Dg,hs,Er (by rw[Dg,a])]
 |x::D,h,i+1,s,hi,hs=>by
  have a:=h x Ba;have ih:=Wm (D:=D) (λy c=>h y (AF _ c)) i s (by simpa using hi) hs;unfold JH at ih ⊢;simp only[A1,List.set_cons_succ];rw[<-ih];unfold F2;have b:(Dc x).length=64:=by rw[Dg,a]
  rw[show(i+1)*64=(Dc x).length+i*64 by rw[b];omega,CJ,EP,CK];simp[List.append_assoc]
theorem VW{D:LY}(h:∀s∈D,s.size=64)(i:Nat)(s:By)(b:s.size=64):∀x∈D.set i s,x.size=64:=λx c=>by
 rcases List.mem_or_eq_of_mem_set c with a|a
 ·exact h x a
 ·rw[a];exact b
theorem Hd.row{w:World}{v:Value}{D:LY}(h:Hd w v D)(h0:0<D.length):∃g c L,v=.slice (some ⟨g,0,none⟩) D.length c/\FX w g 188 L/\L.take (D.length*64)=JH D/\D.length<=c/\c<=maxLen/\L.length=c*64:=by
 rcases h.1.2 with⟨_,aa⟩|⟨g,a,L,e,j,b,d,f,i⟩
 ·omega
 ·exact⟨g,a,L,e,j,i,b,d,f⟩
theorem ZiU(L:F0)(o n:Nat)(a:F0)(h:o+a.length<=n)(hn:n<=L.length):(F2 L o a).take n=F2 (L.take n) o a:=by
 unfold F2;rw[Ca,Ca];simp only[B3,Ab,An];rw[Fo];have b:min n o=o:=by omega
 have c:min o L.length=o:=by omega
 have d:min o n=o:=by omega
 rw[b,c,d,Ag (l:=a) (by omega)]
theorem Hd.set{w:World}{g c:Nat}{D:LY}{L:F0}(_hR:FX w g 188 L)(e:L.take (D.length*64)=JH D)(f:D.length<=c)(h:c<=maxLen)(d:L.length=c*64)(b:∀s∈D,s.size=64)(i:Nat)(s:By)(j:i<D.length)(a:s.size=64)(w':World)(m:FX w' g 188 (F2 L (i*64) (Dc s))):
  Hd w' (.slice (some ⟨g,0,none⟩) D.length c) (D.set i s):=by
 have k:(F2 L (i*64) (Dc s)).length=c*64:=by rw[DX (by rw[Dg,a,d];omega),d]
 have l:(F2 L (i*64) (Dc s)).take (D.length*64)=JH (D.set i s):=by
  rw[ZiU _ _ _ _ (by rw[Dg,a];omega) (by rw[d];omega),e,Wm b i s j a]
 refine⟨⟨?_,.inr ⟨g,c,_,by rw[Ce],m,by rw[Ce];exact f,h,k,by rw[Ce];exact l⟩⟩,VW b i s a⟩;rw[RT (VW b i s a)]
def Oj(w:World)(db:Nat)(vf vn vw ve:Value)(D:LY)(ps:LB)(p:Nat)(s:By)(e:Ending)(w':World):Prop:=
 e=.returned (.tuple #[])/\∃vw',DU w' db vf vn vw' ve (D.set p s)/\Hw w' vw' (ps++[(p,s)])/\Fr (λk=>k=db\/Own vn k\/Own vw k) w w'/\Dk w vw vw'
theorem Zfd(w:World)(d:Nat)(C Q vw A:Value)(D:LY)(ps:LB)(h:DU w d C Q vw A D)(J:Hw w vw ps)(T:¬Own Q d)(U:¬Own vw d)(Y:∀k,Own Q k->¬Own vw k)(hl:ps.length<=1000000000)(p:Nat)(hp:p<1536)(s:By)(z:s.size=64):
  Cl 159 #[.pointer (some ⟨d,0,none⟩),Ic p s] w (Oj w d C Q vw A D ps p s):=by
 obtain⟨g,c,L,rfl,E,hT,hc,ar,hL⟩:=h.2.1.row (by rw[h.2.2];decide);have aG:=h.2.2;obtain⟨n,q,o,rfl⟩:=J.shape;have aM:g≠d:=λe=>T (by rw[<-e];rfl)
 have ac:(Dc s).length=64:=by rw[Dg,z]
 obtain⟨W,hW,N,H,az,ap⟩:=De w (F8 p s) 207;have aX:=E.lt;have aW:=h.1.lt;obtain⟨a,F⟩:=ex (W.drew.setRow g (F2 L (p*64) (Dc s)).toArray);have au:FX a g 188 (F2 L (p*64) (Dc s)):=by rw[F];exact BW W.drew g _ _ 188 _ (show FX W g 188 L from H _ _ _ E)
 have aO:∀k,k≠g->a.heap[k]?=W.heap[k]? := λk f=>by rw[F];exact BD W.drew g k _ f
 have G:Fr (λk=>k=g) W a:=by rw[F];exact⟨rfl,rfl,rfl,by simp[World.setRow],λk _ f=>BD W.drew g k _ f⟩
 have x:Fr (λk=>k=g) w a:=(Fr.of_below ap).then G (λ_ _ h=>h);have O:FX a w.heap.size 207 (F8 p s):=N.fr G (by omega);have M:FX a d 204 [C,.slice (some ⟨g,0,none⟩) D.length c,.slice n q o,A]:=(H _ _ _ h.1).fr G (λe=>aM e.symm);have ab:Hd a (.slice (some ⟨g,0,none⟩) D.length c) (D.set p s):=Hd.set E hT hc ar hL h.2.1.2 p s (by omega) z a au;have al:Hw a (.slice n q o) ps:=Sl.fr J x (λk f e=>Y g rfl (by rw[<-e];exact f));have aC:Hid (∀X,Bw a X->∀nb,FX X nb 207 (F8 p s)->∃v' w',(Builtin.append_ #[182,182] 182 #[.slice n q o,.slice (some ⟨nb,0,none⟩) 1 1]).run prog X=.ok v' w'/\∃r u t,v'=.slice r u t/\FX w' w.heap.size 207 (F8 p s)/\FX w' d 204 [C,.slice (some ⟨g,0,none⟩) D.length c,.slice n q o,A]/\Hid (Oj w d C (.slice (some ⟨g,0,none⟩) D.length c) (.slice n q o) A D ps p s (.returned (.tuple #[])) (w'.setCell ⟨d,2,none⟩ (.slice r u t)))):=λX l nb aN=>by
  obtain⟨v',w',r1,r,u,t,rfl,r2,P,r4⟩:=Mc X _ ps (Sl.kept al (λk f _=>l.block k f)) nb p s z aN hl;have aV:a.heap.size<=X.heap.size:=l.size;have aU:w.heap.size<=a.heap.size:=x.size;have q1:FX X d 204 _:=(l.block _ M.lt).trans M;have q2:FX w' d 204 [C,.slice (some ⟨g,0,none⟩) D.length c,.slice n q o,A]:=q1.fr P U;have q3:Hd w' (.slice (some ⟨g,0,none⟩) D.length c) (D.set p s):=⟨(Sl.kept ab.1 (λk f _=>l.block k f)).fr P (λk f e=>Y k f e),ab.2⟩;have aw:Dk w (.slice n q o) (.slice r u t):=λk f=>(r4 k f).imp id (λh=>by omega)
  have q0:FX w' w.heap.size 207 (F8 p s):=FX.fr (show FX X w.heap.size 207 (F8 p s) from(l.block _ O.lt).trans O) P (λe=>by have:=J.lt e;omega);refine⟨_,w',r1,r,u,t,rfl,q0,q2,rfl,.slice r u t,⟨by simpa using q2.set 2 (.slice r u t),⟨q3.1.setCell _ _ (λe=>T e),q3.2⟩,by rw[Ce];exact aG⟩,r2.setCell _ _ (λe=>?_),?_,aw⟩
  ·rcases aw _ e with Z|Z
   ·exact U Z
   ·simp only at Z;omega
  ·refine Fr.set ?_ ⟨d,2,none⟩ _ (.inl rfl);refine Fr.then (Fr.then (w1:=a) ⟨x.os,x.tape,x.output,x.size,λk f l=>x.block k f (λe=>l (.inr (.inl (by rw[e];rfl))))⟩ (Fr.of_below l (X:=λ_=>False)) (λ_ _ h=>h.elim)) P (λk _ e => .inr (.inr e))
 have c1:W.cell? ⟨d,1,none⟩=some (.slice (some ⟨g,0,none⟩) D.length c):=((H _ _ _ h.1).cell 1).trans rfl;have b0:W.cell? ⟨w.heap.size,0,none⟩=some (.int .i64 p):=(N.cell 0).trans rfl;have br:W.rangeAt w.heap.size 1 (Dc s):=λj v m=>by rw[N.cell,Fa];exact m
 have am:FX W.drew g 188 L:=H _ _ _ E;have aL:p*64+(Dc s).length<=L.length:=by rw[ac,hL];omega
 have aE:=Db am;have aF:=Db F;have HW:=Db hW;have I:=Db O;have R:=Db M;have aS:=Db G;have af:=Db ac;have aT:=Db az;have aY:g≠w.heap.size:=by omega
 have aZ:(p:Int)<(D.length:Int):=by omega
 have a0:(p:Int)<1536:=by omega
 clear h J E hT hc ar hL N H az ap au aO G x O M ab al hW F am T U Y ac;obtain⟨B,hB⟩:=ex (Value.agg (Dc s).toArray);have HB:=Db hB;obtain⟨V,hV⟩:=ex (Ic p s);have HV:=Db hV;rw[<-hV];clear hB hV;go_enter func159,ntmps159;go_upto_region 0 with fail;refine AX ?_;refine R7 rfl 207 _ rfl (F8 p s) (Da HV) ?_;refine El ?_;rw[show w.alloc (.cells (F8 p s).toArray 207)=W from Da HW];go_upto_region 1 with fail;refine AE (S:=λX=>X.cell? ⟨d,1,none⟩=some (.slice (some ⟨g,0,none⟩) D.length c)/\X.cell? ⟨w.heap.size,0,none⟩=some (.int .i64 p)/\X.rangeAt w.heap.size 1 (Dc s)) (by kernel_rfl) ⟨c1,b0,br⟩ (λaa=>?_);refine tk 0 ?_;refine tk 1 ?_;refine tk 2 ?_;refine tk 3 ?_;refine tk 4 ?_;refine tk 5 ?_;refine tk 6 ?_;refine A5 (i:=7) (v:=B) rfl (by kernel_rfl) (by kernel_rfl) (by kernel_rfl) (λ_ _ _ h=>h) (by rw[Da HB];exact CZ (by rfl) 188 _ rfl w.heap.size 1 rfl (Dc s) _ (λX l=>l.2.2) Kf rfl (by rw[Jf,Da af])) (by assumption) ?_
 try simp only[pE]
 refine tk 8 ?_;refine rk 9 (λK b=>?_);have d1:a.cell? ⟨d,1,none⟩=some (.slice (some ⟨g,0,none⟩) D.length c):=((Da R).cell 1).trans rfl;have d2:a.cell? ⟨d,2,none⟩=some (.slice n q o):=((Da R).cell 2).trans rfl;have e0:a.cell? ⟨w.heap.size,0,none⟩=some (.int .i64 p):=((Da I).cell 0).trans rfl;have er:a.rangeAt w.heap.size 1 (Dc s):=λj v m=>by rw[(Da I).cell,Fa];exact m
 have e2:a.rangeAt w.heap.size 0 (F8 p s):=λj v m=>by rw[(Da I).cell,Av];exact m
 have ax:(F8 p s).length=65:=by rw[J2,z]
 have aD:=Db ax;clear ax;refine Xw rfl 188 _ _ rfl g (p*64) 188 L (Dc s) rfl (Da HB) (Da aE) aL (by rw[Jf,Da af]) (Ko s) a (Da aF).symm ?_;refine b.out _ _ ⟨d1,e0,er⟩ (λaK=>?_);clear b K aa aK e0 er;refine AO (by kernel_rfl) ?_ _;obtain⟨dd,aR,aP⟩:=Py;obtain⟨y,an,aA,ae,aQ,aq⟩:=De a.drew (F8 p s) 207;have s3:y.rangeAt w.heap.size 0 (F8 p s):=λj v m=>by rw[(ae _ _ _ (show FX a.drew w.heap.size 207 (F8 p s) from Da I)).cell,Av];exact m
 have d3:y.cell? ⟨d,2,none⟩=some (.slice n q o):=((ae _ _ _ (show FX a.drew d 204 _ from Da R)).cell 2).trans rfl;have ao:Bw a y:=((Ak a.heap.size a).drew).trans aq;obtain⟨v5,w5,ay,r,u,t,rfl,aB,ad,HP⟩:=Da aC y ao a.heap.size aA;have s5:w5.rangeAt w.heap.size 0 (F8 p s):=λj v m=>by rw[aB.cell,Av];exact m
 have m5:w5.cell? ⟨d,2,none⟩=some (.slice n q o):=(ad.cell 2).trans rfl;have f5:=ad.frozen 2;have s6:(w5.setCell ⟨d,2,none⟩ (.slice r u t)).rangeAt w.heap.size 0 (F8 p s):=λj v m=>(World.cell?_setCell_far _ _ _ _ (show d≠w.heap.size by omega)).trans (s5 j v m)
 have ai:=Db s6;have aj:=Db an;have ag:=Db s3;have ah:=Db s5;clear s6 an s3 s5 aB ad aA ae aq aQ ao;go_upto_region 2 with fail;refine AE (S:=λX=>X.rangeAt w.heap.size 0 (F8 p s)) (by kernel_rfl) e2 (λaa=>?_);refine tk 0 ?_;refine tk 1 ?_;refine tk 2 ?_;refine tk 3 ?_;refine A5 (i:=5) (v:=.agg (F8 p s).toArray) rfl (by kernel_rfl) (by kernel_rfl) (by kernel_rfl) (λ_ _ _ h=>h) (CZ (by rfl) 207 _ rfl w.heap.size 0 rfl (F8 p s) _ (λX l=>l) aR aP (by rw[QH,Da aD])) (by assumption) ?_
 try simp only[pE]
 refine Bo (rs:=[4,6]) (by kernel_rfl) (by simp) ?_;refine AR (i:=4) rfl ?_ (AR (i:=6) rfl ?_ Bg)
 ·intro K b;go_simp;refine b.out _ _ aa (λaI=>?_);clear b K
  try simp only[pE]
  refine rk 6 (λK b=>?_);refine OH rfl _ rfl p s z rfl ?_;rw[show a.drew.alloc (.cells (F8 p s).toArray 207)=y from Da aj];refine b.out _ _ (Da ag) (λak=>?_);clear b K
  try simp only[pE]
  refine rk 7 (λK b=>?_);refine JV rfl _ _ 182 182 rfl _ _ rfl rfl ay ?_;refine b.out _ _ (Da ah) (λaJ=>?_);clear b K
  try simp only[pE]
  refine tk 8 ?_;refine tk 9 ?_;refine rk 10 (λK b=>?_);go_simp;refine b.out _ _ (Da ai) (λaH=>?_);clear b K
  try simp only[pE]
  refine AO (by kernel_rfl) ?_ _;go_wp2
  go_end0
  exact Da HP
 ·intro K b;refine OH rfl _ rfl p s z rfl ?_;rw[show a.drew.alloc (.cells (F8 p s).toArray 207)=y from Da aj];refine b.out _ _ (Da ag) (λak=>?_);clear b K
  try simp only[pE]
  refine rk 4 (λK b=>?_);go_simp;refine b.out _ _ ak (λaI=>?_);clear b K
  try simp only[pE]
  refine rk 7 (λK b=>?_);refine JV rfl _ _ 182 182 rfl _ _ rfl rfl ay ?_;refine b.out _ _ (Da ah) (λaJ=>?_);clear b K
  try simp only[pE]
  refine tk 8 ?_;refine tk 9 ?_;refine rk 10 (λK b=>?_);go_simp;refine b.out _ _ (Da ai) (λaH=>?_);clear b K
  try simp only[pE]
  refine AO (by kernel_rfl) ?_ _;go_wp2
  go_end0
  exact Da HP
theorem Vf:(prog.info? 188).map (λi=>(i.zero,i.size,i.bytes))=some (some (DA (Dn 64)),64,64):=by kernel_rfl
theorem Px:prog.underlying 186=some (.slice 188):=by kernel_rfl
theorem ZkP(D:LY):∀u∈JH D,u.oneCell'=true:=λu a=>by
 obtain⟨s,_,h⟩:=EC.1 a;exact Ko s u h
theorem Sl.empty(w:World)(b:Nat)(h:FX w b 188 []):Sl w 188 64 (.slice (some ⟨b,0,none⟩) 0 0) 0 []:=⟨rfl,.inr ⟨b,0,[],rfl,h,Aa _,Au _,rfl,rfl⟩⟩
theorem Ms(x:Addr)(n c:Nat)(w:World):(binOp .eql 186 (.slice (some x) n c) (.slice none 0 0)).run prog w=.ok (.bool false) w:=by kernel_rfl
theorem Zji(w:World)(y:Value)(D:LY)(h:Hd w y D)(A:0<D.length)(hl:D.length<=1000000):
  Cl 141 #[y] w λe w'=>∃a d b,e=.returned (.slice a d b)/\Hd w' (.slice a d b) D/\Bw w w'/\∀g,Own (.slice a d b) g->w.heap.size<=g:=by
 obtain⟨g,c,L,rfl,l,o,hc,ab,B⟩:=h.row A;obtain⟨J,E,G,H,I⟩:=BT Vf;obtain⟨W,p,s,q,r,m⟩:=De w [] 188;have ac:=l.lt;obtain⟨v',w2,t,i,v,x⟩:=Qa (P:=prog) W 186 186 188 J _ 64 64 Px E G H I (by show(Dc (Dn 64)).toArray.size=64;simp[Dg,Jr]) (by decide) (.slice (some ⟨w.heap.size,0,none⟩) 0 0) 0 [] (Sl.empty W _ s) ⟨g,0,none⟩ D.length c (JH D) (RT h.2)
  (λj u f=>by
   rw[AI,Av,(q _ _ _ l).cell];rw[<-o,Ao]at f
   split at f
   ·exact f
   ·cases f) (ZkP D) (by unfold maxLen;omega) (by omega)
 obtain⟨a,d,b,rfl⟩:=i.shape;have C:Hid (Hd w2 (.slice a d b) D/\Bw w w2/\∀g,Own (.slice a d b) g->w.heap.size<=g):=by
  refine⟨⟨by rw[AD,Av]at i;exact i,h.2⟩,m.grown v m.size (λk e=>?_),λk F=>?_⟩
  ·simp[Value.ownBlock]at e;omega
  ·rcases x k F with n|n
   ·simp[Value.ownBlock]at n;omega
   ·omega
 have z:=Db p;have aa:=Db r;clear h l o B s q m i v x p r;have hq:=Ms ⟨g,0,none⟩ D.length c;go_enter func141,ntmps141;rw[<-Da z]at t;go_wp2_with(at_builtin;refine A0 _ rfl _ _ 186 186 rfl _ _ rfl rfl _ _ t ?_);go_ret;exact⟨a,d,b,rfl,Da C⟩
def Vy(w:World)(db:Nat)(vn:Value)(D:LY)(e:Ending)(w':World):Prop:=
 e=.returned (.tuple #[])/\∃vf',DU w' db vf' vn (.slice none 0 0) (.slice none 0 0) D/\Hd w' vf' D/\Fr (λk=>k=db) w w'/\(∀g,Own vf' g->w.heap.size<=g)
theorem Ry(w:World)(b:Nat)(q j vw p:Value)(D:LY)(h:DU w b q j vw p D)(n:¬Own j b):
  Cl 161 #[.pointer (some ⟨b,0,none⟩)] w (Vy w b j D):=by
 have t:=Zji w j D h.2.1 (by rw[h.2.2];decide) (by rw[h.2.2];decide);obtain⟨a,l,c,rfl⟩:=h.2.1.1.shape;have B:=h.1.lt;have x:Hid (Cl 141 #[.slice a l c] w λe w'=>∃d g f,e=.returned (.slice d g f)/\FX w' b 204 [q,.slice a l c,vw,p]/\Hid (Vy w b (.slice a l c) D (.returned (.tuple #[])) (((w'.setCell ⟨b,0,none⟩ (.slice d g f)).setCell ⟨b,2,none⟩ (.slice none 0 0)).setCell ⟨b,3,none⟩ (.slice none 0 0)))):=t.mono λe w' ⟨d,g,f,z,r,m,s⟩=>by
  have u:FX w' b 204 [q,.slice a l c,vw,p]:=(m.block _ B).trans h.1;have v:Hd w' (.slice a l c) D:=⟨h.2.1.1.kept (λk A _=>m.block k A),h.2.1.2⟩;have o:¬Own (.slice d g f) b:=λe=>by have:=s _ e;omega
  refine⟨d,g,f,z,u,rfl,.slice d g f,⟨by simpa using ((u.set 0 (.slice d g f)).set 2 (.slice none 0 0)).set 3 (.slice none 0 0),⟨((v.1.setCell ⟨b,0,none⟩ _ n).setCell ⟨b,2,none⟩ _ n).setCell ⟨b,3,none⟩ _ n,v.2⟩,h.2.2⟩,⟨((r.1.setCell ⟨b,0,none⟩ _ o).setCell ⟨b,2,none⟩ _ o).setCell ⟨b,3,none⟩ _ o,r.2⟩,?_,s⟩;exact((Fr.set (X:=λk=>k=b) (Fr.of_below m) ⟨b,0,none⟩ _ rfl).set ⟨b,2,none⟩ _ rfl).set ⟨b,3,none⟩ _ rfl
 have c1:w.cell? ⟨b,1,none⟩=some (.slice a l c):=(h.1.cell 1).trans rfl;clear h t;go_enter func161,ntmps161;go_wp2_with(go_at_call 141;refine(Da x).mono ?_;rintro e w'⟨d,g,f,rfl,i,y⟩;have m0:=i.cell 0;have f0:=i.frozen 0;have m2:=i.cell 2;have f2:=i.frozen 2;have m3:=i.cell 3;have f3:=i.frozen 3)
 go_end0
 exact Da y
def WW(w:World)(vn:Value)(D:LY)(e:Ending)(w':World):Prop:=
 e=.returned (.pointer (some ⟨w.heap.size,0,none⟩))/\∃vf',DU w' w.heap.size vf' vn (.slice none 0 0) (.slice none 0 0) D/\Hd w' vf' D/\Bw w w'/\(∀g,Own vf' g->w.heap.size<g)
theorem Xq(w:World)(d:Value)(D:LY)(h:Hd w d D)(u:D.length=1536):
  Cl 134 #[d] w (WW w d D):=by
 obtain⟨W,j,n,y,z,b⟩:=De w [.slice none 0 0,d,.slice none 0 0,.slice none 0 0] 204;have m:¬Own d w.heap.size:=λe=>by have:=h.1.lt e;omega
 have o:Hid (Cl 161 #[.pointer (some ⟨w.heap.size,0,none⟩)] W λe w'=>e=.returned (.tuple #[])/\Hid (WW w d D (.returned (.pointer (some ⟨w.heap.size,0,none⟩))) w')):=(Ry W w.heap.size (.slice none 0 0) d (.slice none 0 0) (.slice none 0 0) D ⟨n,⟨h.1.kept (λk i _=>b.block k i),h.2⟩,u⟩ m).mono λe w' ⟨v,A,r,s,f,t⟩=>
  ⟨v,rfl,A,r,s,⟨f.os.trans b.os,f.tape.trans b.tape,f.output.trans b.output,Af b.size f.size,λk i=>(f.block k (by omega) (by omega)).trans (b.block k i)⟩,λg x=>by have:=t g x;omega⟩
 have q:=Db j;obtain⟨a,l,c,rfl⟩:=h.1.shape;clear h n y z b m j;go_enter func134,ntmps134;go_wp2_with(go_at_call 161;rw[show w.alloc (.cells #[.slice none 0 0,.slice a l c,.slice none 0 0,.slice none 0 0] 204)=W from Da q];refine(Da o).mono ?_;rintro e w'⟨rfl,p⟩);go_ret;exact Da p
theorem RX:∀n,JH (List.replicate n (Dn 64))=List.replicate (n*64) (.int .u8 0)
 |0=>rfl
 |n+1=>by
  have ih:=RX n;unfold JH at ih ⊢;rw[List.replicate_succ,A1,ih,QZ,Fk]
  congr 1;omega
theorem WB(n:Nat):(madeCells (DA (Dn 64)).cells (n*64)).toList=List.replicate (n*64) (.int .u8 0):=by
 apply Ep;intro j;have d:(DA (Dn 64)).cells.size=64:=by rw[N6];simp[Dg,Jr]
 by_cases b:j<n*64
 ·rw[Fg,if_pos b];simp only[madeCells,Array.toList_map,Bc,Array.toList_range,Cd b,Fe]
  congr 1
  have a:j%(DA (Dn 64)).cells.size<(DA (Dn 64)).cells.size:=Nat.mod_lt _ (by rw[d];decide);rw[getElem!_pos (DA (Dn 64)).cells (j%(DA (Dn 64)).cells.size) a];simp only[N6,List.getElem_toArray];have c:=List.getElem_of_eq (QZ 64) (i:=j%(Dc (Dn 64)).toArray.size) (by simpa [N6] using a);rw[c,List.getElem_replicate]
 ·rw[BA (by simp[madeCells];omega),BA (by simp;omega)]
def DR:LY:=List.replicate 1536 (Dn 64)
theorem J9:DR.length=1536:=Bj
theorem Xh:∀s∈DR,s.size=64:=λs a=>by rw[(List.mem_replicate.1 a).2,Jr]
def SX(w:World)(e:Ending)(w':World):Prop:=
 ∃db vf' vn',e=.returned (.pointer (some ⟨db,0,none⟩))/\w.heap.size<=db/\DU w' db vf' vn' (.slice none 0 0) (.slice none 0 0) DR/\Hd w' vf' DR/\Bw w w'/\(∀g,Own vf' g->w.heap.size<=g/\g≠db)/\(∀g,Own vn' g->w.heap.size<=g/\g≠db)/\(∀g,Own vn' g->¬Own vf' g)
theorem VJ(w:World):Cl 98 #[] w (SX w):=by
 obtain⟨u,q,r,s,t⟩:=BT Vf;have j:Hid (∀W:World,W.ownsRow 0 188 64 (.slice (some ⟨w.heap.size,0,none⟩) 1536 1536) 1536 (madeCells (DA (Dn 64)).cells (1536*64)).toList->w.grownBy W none->Cl 134 #[.slice (some ⟨w.heap.size,0,none⟩) 1536 1536] W λe w'=>∃c,e=.returned (.pointer (some ⟨c,0,none⟩))/\Hid (SX w (.returned (.pointer (some ⟨c,0,none⟩))) w')):=λW m n=>by
  have d:=Sl.of_owns m;rw[WB 1536,<-RX]at d;have b:=KX n;have aa:=d.lt (g:=w.heap.size) rfl;have o:Hd W (.slice (some ⟨w.heap.size,0,none⟩) 1536 1536) DR:=⟨by rw[J9];exact d,Xh⟩;refine(Xq W _ DR o J9).mono ?_;rintro e w'⟨rfl,z,v,x,y,i⟩;refine⟨W.heap.size,rfl,W.heap.size,z,_,rfl,b.size,v,x,b.trans (y.mono b.size),λg a=>?_,λg a=>?_,λg a p=>?_⟩
  ·have:=i g a;have:=b.size;omega
  ·simp[Own,Value.ownBlock]at a;omega
  ·simp[Own,Value.ownBlock]at a;have:=i g p;omega
 go_enter func98,ntmps98;go_wp2_with(first|(at_make;refine Bz _ rfl _ _ 186 rfl 0 188 u (DA (Dn 64)) 64 Px q r s _ _ _ _ 1536 rfl rfl rfl rfl (by rw[t];decide) (by unfold maxLen;decide) (Au _) ?_;intro w1 h f;have k:=Db (Da j w1 h f);clear h f)|(go_at_call 134;refine(Da k).mono ?_;rintro e w'⟨c,rfl,l⟩));go_ret;exact Da l
def JP(D:LY):By:=⟨(D.flatMap (λs=>s.data.toList)).toArray⟩
theorem Zkz(D:LY)(s:By):JP (D++[s])=JP D++s:=by
 apply A8;simp[JP]
theorem RH:∀{D:LY},(∀s∈D,s.size=64)->(JP D).size=D.length*64
 |[],_=>rfl
 |s::D,h=>by
  have ih:=RH (D:=D) (λx b=>h x (AF _ b));have a:s.data.toList.length=64:=by rw[AG];exact h s Ba
  have e:∀D,(JP D).size=(D.flatMap (λs=>s.data.toList)).length:=λD=>by show(List.toArray _).size=_;simp
  rw[e]at ih ⊢;rw[A1,Ab,ih,a,Al];omega
def PX(w:World)(D:LY)(e:Ending)(w':World):Prop:=
 ∃a' l' c',e=.returned (.slice a' l' c')/\F9 w.heap.size w' (.slice a' l' c') (JP D)/\Bw w w'
theorem Zi5(w:World)(vn:Value)(D:LY)(h:Hd w vn D)(H:0<D.length)(hl:D.length<=10000):
  Cl 139 #[vn] w (PX w D):=by
 have d:=Db h;obtain⟨g,c,L,rfl,K,hT,hc,ad,hL⟩:=h.row H;obtain⟨i0,af,al,am,an⟩:=BT KG;have ap:=K.lt;clear K hT hc ad hL h;obtain⟨N,n⟩:=ex D.length;rw[<-n]at H hl;rw[<-n];have z:=Db n;clear n;have ar:IntKind.i64.wrap ((N:Int)*64)=((N*64:Nat):Int):=by rw[AV];omega
 go_enter func139,ntmps139;go_wp2_with(at_make;refine wpList_make_own _ rfl _ _ 59 rfl 0 5 i0 (.int .u8 0) 1 underlying59 af al am _ _ _ (N*64) rfl rfl (by omega) (by rw[an];omega) (by unfold maxLen;omega) (Au _) ?_;intro w1 U S;have E:=Db (And.intro (Sl.of_owns U) (KX S));clear U S)
 go_loopw [3,12] (λv i wr=>∃(k:Nat) (l:OA) (q m:Nat),k<=N/\i=.int .i64 k/\v=.slice l q m/\Hid (F9 w.heap.size wr (.slice l q m) (JP (D.take k))/\Bw w wr)) (λ_ i _=>N-(intOf i).toNat)
 case atStart=>exact⟨0,_,_,_,Au _,rfl,rfl,⟨(Da E).1,λg hg=>by simp[Value.ownBlock]at hg;omega⟩,(Da E).2⟩
 case round=>
  obtain⟨k,l,q,m,T,rfl,rfl,t⟩:=hrel;by_cases aj:k<N
  ·have ag:k<D.length:=by rw[<-Da z];exact aj
   obtain⟨s,p⟩:∃s,D[k]?=some s:=⟨_,Ac ag⟩;have A:s.size=64:=(Da d).2 s (Ar p);obtain⟨r,a⟩:=Da t;have O:Hd wr (.slice (some ⟨g,0,none⟩) N c) D:=by rw[Da z];exact⟨(Da d).1.kept (λk T _=>a.block k T),(Da d).2⟩
   obtain⟨g',ae,ai,V⟩:=O.range k s p;clear ai
   cases ae
   obtain⟨W,P,C,ah,Y,Q⟩:=De wr (Dc (Dn 64)) 188;obtain⟨f,o⟩:∃X,W.setRow wr.heap.size (Dc s).toArray=X:=⟨_,rfl⟩;have Z:FX f wr.heap.size 188 (Dc s):=by rw[<-o];exact BW W _ _ _ 188 _ C
   have b:Bw wr f:=by rw[<-o];exact Q.trans ⟨rfl,rfl,rfl,by simp,λj hj=>BD W _ j _ (by omega)⟩
   have B:w.heap.size<=f.heap.size:=Af a.size b.size;obtain⟨F,l2,G,w3,ak,M,J,ac⟩:=JX f w.heap.size B _ _ (r.below b) ⟨wr.heap.size,0,none⟩ 64 64 s A (λj u hu=>by rw[AI,Av,Z.cell];exact hu) (by rw[RH (λx hx=>(Da d).2 x (Bv hx)),An];omega);have aa:Hid (F9 w.heap.size w3 (.slice F l2 G) (JP (D.take (k+1)))/\Bw w w3):=by
    have e:D.take (k+1)=D.take k++[s]:=by rw[BK,p];rfl
    rw[e,Zkz];exact⟨M,a.trans ((b.mono a.size).trans ((r.below b).frBelow B J))⟩
   have HR:=Db V;have HX:=Db C;have HW:=Db P;have ab:=Db o;have ao:=Db Y;have R:(Dc s).length=64:=by rw[Dg,A]
   have y:=Db R;have aq:(k:Int)<(N:Int):=by omega
   clear M J ac Z b B C ah Y Q V O r a P o R t p A;go_wp2_with(first|(refine FA rfl 188 _ rfl g (k*64) rfl (Dc s) _ (Da HR) Kf rfl (by rw[Jf,Da y]) ?_)|(refine JN rfl 188 rfl Kx ?_;rw[show wr.alloc (.cells (Dc (Dn 64)).toArray 188)=W from Da HW])|(refine BX rfl 188 _ _ rfl wr.heap.size (Dc s).toArray rfl rfl 188 _ (Da HX) (by rw[Jf];simp[Da y]) (by simp[Da y,Dg,Jr]) (KV _) ?_;rw[Da ab])|(at_builtin;refine A0 _ rfl _ _ 59 59 rfl _ _ rfl rfl _ _ ak ?_))
   go_roundw
   case rel=>exact⟨k+1,F,l2,G,by omega,by go_num,rfl,Da aa⟩
   case measure=>simp[intOf];omega
  ·obtain rfl:k=N:=by omega
   go_wp2;go_ret;have I:=Da t;rw[Ag (Ee (Da z).symm)]at I;exact⟨l,q,m,rfl,I⟩
theorem ZkC(w:World)(d:Nat)(o f vw n:Value)(D:LY)(h:DU w d o f vw n D):
  Cl 78 #[.pointer (some ⟨d,0,none⟩)] w (PX w D):=by
 have g:=Db (Zi5 w f D h.2.1 (by rw[h.2.2];decide) (by rw[h.2.2];decide));have c1:=h.1.cell 1;obtain⟨a,l,c,rfl⟩:=h.2.1.1.shape;clear h;go_enter func78,ntmps78;go_wp2_with(go_at_call 139;refine(Da g).mono ?_;rintro e w'⟨j,m,k,rfl,b⟩;have i:=Db b;clear b);go_ret;exact⟨j,m,k,rfl,Da i⟩
abbrev FK:=@Lib.run_convert_bytes_const
theorem ZiM(x:Int):0<=IntKind.u64.wrap x/\IntKind.u64.wrap x<18446744073709551616:=by
 simp[IntKind.wrap,IntKind.bits,IntKind.signed];omega
theorem SH(l:List UInt8):0<=Kz l/\Kz l<18446744073709551616:=by
 rcases List.eq_nil_or_concat l with rfl|⟨l',b,rfl⟩
 ·decide
 ·rw[List.concat_eq_append,Vs];exact ZiM _
def Dp(s:By):Nat:=(Kz s.data.toList).toNat
theorem Vd(s:By):Kz s.data.toList=((Dp s:Nat):Int):=by unfold Dp;have:=(SH s.data.toList).1;omega
theorem KJ(s:By):Dp s<18446744073709551616:=by unfold Dp;have:=SH s.data.toList;omega
def LR(b:Nat)(w:World)(v:Value)(s:By):Prop:=F9 b w v s\/∃x l,v=.slice (some x) l l/\Gp w (some x) l l s
theorem LR.below{b:Nat}{w w':World}{v:Value}{s:By}(h:LR b w v s)(a:Bw w w'):LR b w' v s:=by
 rcases h with h|⟨x,l,rfl,h⟩
 ·exact .inl (h.below a)
 ·exact .inr ⟨x,l,rfl,h.below a⟩
theorem O5(w:World)(b:Nat)(q:b<=w.heap.size)(v:Value)(s:By)(h:LR b w v s)(a:Addr)(m c:Nat)(t:By)(z:t.size=m)(A:∀j u,(Dc t)[j]?=some u->w.cell? (a.add j)=some u)(E:s.size+m<=4000000)(aa:0<m:=by omega):
  ∃d i f w',(Builtin.append_ #[59,59] 59 #[v,.slice (some a) m c]).run prog w=.ok (.slice d i f) w'/\F9 b w' (.slice d i f) (s++t)/\Fr (Own v) w w'/\Dk w v (.slice d i f):=by
 rcases h with h|⟨x,l,rfl,h⟩
 ·exact JX w b q v s h a m c t z A E
 ·obtain⟨L,C,I,J,K⟩:=BT KG;have F:=h.1;obtain⟨v',w2,M,B,o⟩:=run_append_arg_grows (P:=prog) w 59 59 5 L _ 1 1 underlying59 C I J K rfl (by decide) x l l (Dc s) (by rw[Dg];omega)
   (λj u G=>by obtain⟨y,e,H⟩:=h.2.2 j u G;cases e;exact H) a m c (Dc t) (by rw[Dg];omega) A (by omega) (by unfold maxLen;omega) (by omega)
  have p:=Sl.of_owns B;obtain⟨d,i,f,rfl⟩:=p.shape;have r:∀g,Own (.slice d i f) g->w.heap.size<=g:=λg n=>(B.lt g n).1
  refine⟨d,i,f,w2,M,⟨?_,λg n=>Af q (r g n)⟩,⟨o.os,o.tape,o.output,o.size,λk D _=>o.block k D (by simp)⟩,λg n => .inr (r g n)⟩;rw[Jz,show(s++t).size=l+m by rw[Ai,z,<-F]];exact p
theorem Zd0(w:World)(b:Nat)(hb:b<=w.heap.size)(a:OA)(l c:Nat)(s:By)(h:LR b w (.slice a l c) s)(x:Nat)(V:x<18446744073709551616)(m:Nat)(hm:m<=8)(S:0<m)(hs:s.size<=2000000):
  Cl 212 #[.slice a l c,.int .u64 x,.int .i64 m] w λe w'=>∃f o n,e=.returned (.slice f o n)/\F9 b w' (.slice f o n) (s++⟨(DD x m).toArray⟩)/\Fr (Own (.slice a l c)) w w'/\Dk w (.slice a l c) (.slice f o n):=by
 have H:=Db h;clear h;go_enter func212,ntmps212;go_wp2
 go_loopw [0,1,8] (λv y i wr=>∃(k y':Nat) (f:OA) (o n:Nat),k<=m/\i=.int .i64 k/\y=.int .u64 y'/\v=.slice f o n/\y'<18446744073709551616/\Hid (LR b wr v (s++⟨((DD x m).take k).toArray⟩)/\(0<k->F9 b wr v (s++⟨((DD x m).take k).toArray⟩)))/\Hid (DD y' (m-k)=(DD x m).drop k)/\Hid (Fr (Own (.slice a l c)) w wr/\Dk w (.slice a l c) v)) (λ_ _ i _=>m-(intOf i).toNat)
 case atStart=>exact⟨0,x,a,l,c,Au _,rfl,rfl,rfl,V,⟨by show LR _ _ _ _;rw[Cs,Kv];exact Da H,λh=>absurd h (Nat.lt_irrefl 0)⟩,rfl,Fr.refl _ _,λg r => .inl r⟩
 case round=>
  obtain⟨k,y,f,o,n,P,rfl,rfl,rfl,hy,t,M,p⟩:=hrel;by_cases R:k<m
  ·have I:IntKind.u8.wrap (y:Int)=((UInt8.ofNat y).toNat:Int):=J6 y;have aa:=(Da p).1.size;obtain⟨W,F,J,Q,T,q⟩:=De wr [.int .u8 (IntKind.u8.wrap (y:Int))] 5;obtain⟨A,K,B,w2,G,E,C,D⟩:=O5 W b (by omega) _ _ ((Da t).1.below q) ⟨wr.heap.size,0,none⟩ 1 1 ⟨#[UInt8.ofNat y]⟩ rfl (λj u U=>by rw[AI,Av,J.cell,I];exact U) (by rw[Ai];show s.size+(List.toArray _).size+1<=_;simp;omega);have z:=Db E;have L:Hid (Fr (Own (.slice a l c)) w w2/\Dk w (.slice a l c) (.slice A K B)):=by
    refine⟨((Da p).1.then (Fr.of_below (X:=Own (.slice a l c)) q) (λk _ h=>h)).then C (λk P e=>((Da p).2 k e).elim id (λh=>by omega)),λg r=>?_⟩;rcases D g r with d|d
    ·exact(Da p).2 g d
    ·exact .inr (by omega)
   have N:=Db F;clear E C D J Q T q F I;rw[<-Da N]at G;go_wp2_with(at_builtin;refine A0 _ rfl _ _ 59 59 rfl _ _ rfl rfl _ _ G ?_)
   go_roundw
   case rel=>
    obtain⟨d,O⟩:=VO R (Da M);exact⟨k+1,y/256,A,K,B,by omega,by go_num,by go_num,rfl,by omega,⟨by show LR _ _ _ _;rw[d,<-PD];exact .inl (Da z),λ_=>by show F9 _ _ _ _;rw[d,<-PD];exact Da z⟩,O,L⟩
   case measure=>simp[intOf];omega
  ·obtain rfl:k=m:=by omega
   go_wp2;go_ret;have d:=(Da t).2 S;rw[Ag (by rw[Jd];exact Aa _)]at d;exact⟨f,o,n,rfl,d,Da p⟩
def Kd:By:=⟨#[115,105,108,116]⟩
def Ja(x m:Nat):By:=⟨(DD x m).toArray⟩
def Mw(turn p x:Nat):By:=Kd++Ja turn 8++DI p x
def Ie(turn p x:Nat):By:=⟨#[1]⟩++Di (Mw turn p x) 63
def Gv(turn p x:Nat):By:=(Ie turn p x).extract 0 56++Ja (Dp ((Ie turn p x).extract 0 56)) 8
theorem Qe(x m:Nat):(Ja x m).size=m:=VN x m
theorem Qf(p x:Nat):(DI p x).size=10:=by show(List.toArray _).size=10;simp[Jd]
theorem Zn7(a p x:Nat):(Mw a p x).size=22:=by unfold Mw;rw[Ai,Ai,Qe,Qf];rfl
theorem QS(a p x:Nat):(Ie a p x).size=64:=by unfold Ie;rw[Ai,Jc];rfl
theorem Ul(a p x:Nat):(Gv a p x).size=64:=by unfold Gv;rw[Ai,Ah,QS,Qe];rfl
theorem ck_spl(a p x:Nat):F2 (Dc (Ie a p x)) 56 (Dc (Ja (Dp ((Ie a p x).extract 0 56)) 8))=Dc (Gv a p x):=by
 unfold F2 Gv;rw[Jz,Jp,B8 (by rw[Dg,Dg,QS,Qe];decide)];simp
theorem ZgG{P:Program}{d:Array Oper}{f:List Oper}{o:Oper}{a:Act}{w:World}{Q:Exit->Act->World->Prop}(g:o.guard=none)(t:TypeId)(i j:Nat)(x y:Operand)(ho:o.op=.build t #[(i,x),(j,y)])(u v:Value)(k:a.eval x=u)(l:a.eval y=v){b:Array Value}(c:P.built t [(i,u),(j,v)]=some b)(h:wpList P d Q f (a.put o.dst (.agg b)) w):wpList P d Q (o::f) a w:=by
 have e:((#[(i,x),(j,y)]:Array (Nat×Operand)).map λ(i,x)=>(i,a.eval x)).toList=[(i,u),(j,v)]:=by simp[k,l]
 refine wpList_build g t _ ho ?_ ?_
 ·rw[e,c];rfl
 ·rw[e,c];exact h
def Zm0(w:World)(turn p x:Nat)(e:Ending)(w':World):Prop:=e=.returned (Ic (turn%2) (Gv turn p x))/\Bw w w'
theorem Ox(w:World)(d p x:Nat)(ht:d<18446744073709551616)(hp:p<65536)(hx:x<18446744073709551616):
  Cl 160 #[.agg #[.int .u64 d,.int .i64 p,.int .u64 x]] w (Zm0 w d p x):=by
 obtain⟨z,al,aa,aU,ay,an⟩:=De w [.int .u64 d,.int .i64 p,.int .u64 x] 191;obtain⟨f,am,ac,Y,aW,ao⟩:=De z (F8 0 (Dn 64)) 207;obtain⟨i,L⟩:∃X,f.alloc (.cells (Dc Kd).toArray 5 (4,5))=X:=⟨_,rfl⟩;have V:Bw f i:=by rw[<-L];exact(Ak _ _).alloc (Aa _) _
 have aX:i.heap.size=f.heap.size+1:=by rw[<-L];simp
 have Z:∀b t' R,FX f b t' R->FX i b t' R:=λb t' R h=>(V.block _ h.lt).trans h
 have av:i.heap[f.heap.size]?=some (.cells (Dc Kd).toArray 5 (4,5)):=by rw[<-L];exact CQ f _
 have az:Bw w i:=an.trans ((ao.mono (by omega)).trans (V.mono (by omega)));have H:=Z _ _ _ (Y _ _ _ aa);have ad:=Z _ _ _ ac;have aw:Gp i (some ⟨f.heap.size,0,none⟩) 4 4 Kd:=by
  refine⟨rfl,λe=>(by cases e),λj v I=>⟨_,rfl,?_⟩⟩;rw[AI,Av];simp only[World.cell?,av]
  simpa using I
 have ak:LR f.heap.size i (.slice (some ⟨f.heap.size,0,none⟩) 4 4) Kd:=.inr ⟨_,_,rfl,aw⟩;have ae:Hid (Cl 212 #[.slice (some ⟨f.heap.size,0,none⟩) 4 4,.int .u64 d,.int .i64 8] i λe w'=>∃r t s,e=.returned (.slice r t s)/\FX w' w.heap.size 191 [.int .u64 d,.int .i64 p,.int .u64 x]/\FX w' z.heap.size 207 (F8 0 (Dn 64))/\Hid (F9 f.heap.size w' (.slice r t s) (Kd++Ja d 8)/\Below f.heap.size i w')):=(Zd0 i f.heap.size (by omega) _ _ _ Kd ak d ht 8 (by omega) (by omega) (by decide)).mono λe w' ⟨r,t,s,he,B,y,h3⟩=>by
  have D:Below f.heap.size i w':=⟨y.os,y.tape,y.output,y.size,λk hk=>y.block k (by omega) (λe=>by simp[Own,Value.ownBlock]at e;omega)⟩;exact⟨r,t,s,he,(D.block _ (by omega)).trans H,(D.block _ (by omega)).trans ad,B,D⟩
 have af:Hid (∀X a l c,Hid (F9 f.heap.size X (.slice a l c) (Kd++Ja d 8)/\Below f.heap.size i X)->Cl 214 #[.agg #[.int .i64 p,.int .u64 x],.slice a l c] X λe w'=>∃r t s,e=.returned (.slice r t s)/\Hid (F9 f.heap.size w' (.slice r t s) (Mw d p x)/\Below f.heap.size i w')):=λX a l c M=>by
  obtain⟨B,y⟩:=Da M;have:=y.size;refine(R4 X f.heap.size (by omega) a l c _ B p x hp hx (by rw[Ai,Qe];decide)).mono ?_;rintro e w'⟨r,t,s,rfl,q1,q2,q3⟩;exact⟨r,t,s,rfl,q1,y.trans (B.frBelow (by omega) q2)⟩
 have ag:Hid (∀X a l c,Hid (F9 f.heap.size X (.slice a l c) (Mw d p x)/\Below f.heap.size i X)->Cl 213 #[.int .u8 1,.slice a l c] X λe w'=>e=.returned (DA (Ie d p x))/\Hid (Below f.heap.size i w')):=λX a l c M=>by
  obtain⟨B,y⟩:=Da M;refine(Xj X a l c _ B.rdB (by rw[Zn7];decide) 1).mono ?_;rintro e w'⟨rfl,q⟩;exact⟨rfl,y.trans (q.mono (by have:=y.size;omega))⟩
 have HM:Hid (∀g,Hid (Below f.heap.size i g)->∃A m,g.alloc (.cells (Dc (Dn 64)).toArray 188)=A/\FX A g.heap.size 188 (Dc (Dn 64))/\A.setRow g.heap.size (Dc (Ie d p x)).toArray=m/\
   Hid (Cl 215 #[.slice (some ⟨g.heap.size,0,none⟩) 56 64] m.drew λe w'=>e=.returned (.int .u64 (Dp ((Ie d p x).extract 0 56):Nat))/\w'=m.drew)/\
   Hid (Cl 212 #[.slice none 0 0,.int .u64 (Dp ((Ie d p x).extract 0 56):Nat),.int .i64 8] m.drew λe w'=>∃r t s u,e=.returned (.slice r t s)/\(Builtin.copy_ #[59,59] 3 #[.slice (some ⟨g.heap.size,56,none⟩) 8 8,.slice r t s]).run prog w'=.ok (goInt 8) u/\u.cell? ⟨w.heap.size,0,none⟩=some (.int .u64 d)/\Hid (FX u g.heap.size 188 (Dc (Gv d p x))/\FX u z.heap.size 207 (F8 0 (Dn 64))/\Bw w u))):=λg M=>by
  have D:=Da M;obtain⟨A,T,N,be,aY,aR⟩:=De g (Dc (Dn 64)) 188;obtain⟨m,F⟩:∃X,A.setRow g.heap.size (Dc (Ie d p x)).toArray=X:=⟨_,rfl⟩;have aA:FX m g.heap.size 188 (Dc (Ie d p x)):=by rw[<-F];exact BW A _ _ _ 188 _ N
  have U:Bw g m:=by rw[<-F];exact aR.trans ⟨rfl,rfl,rfl,by simp,λj hj=>BD A _ j _ (by omega)⟩
  have bg:m.heap.size=g.heap.size+1:=by rw[<-F];simp[World.setRow,aY]
  have a5:=D.size;have aV:Gp m (some ⟨g.heap.size,0,none⟩) 56 64 ((Ie d p x).extract 0 56):=by
   refine⟨by rw[Ah,QS];rfl,λe=>(by cases e),λj v I=>⟨_,rfl,?_⟩⟩;rw[AI,Av,aA.cell];rw[Jp,BV,Ao]at I
   split at I
   ·exact I
   ·cases I
  refine⟨A,m,T,N,F,?_,?_⟩
  ·have:=Vj m.drew _ 56 64 _ (show Gp m.drew (some ⟨g.heap.size,0,none⟩) 56 64 ((Ie d p x).extract 0 56) from aV) (by rw[Ah,QS];decide);rw[Vd]at this;exact this
  ·refine(UD m.drew m.heap.size (Aa _) none 0 0 ⟨#[]⟩ (F9.nil _ _) _ (KJ _) 8 (by omega) (by decide)).mono ?_;rintro e w'⟨r,t,s,rfl,B,y,h3⟩;have G:Bw m w':=by
    have J:=(F9.nil m.heap.size m.drew).frBelow (Aa _) y;exact⟨J.os,J.tape,J.output,J.size,J.block⟩
   have e0:(⟨#[]⟩:By)++⟨(DD (Dp ((Ie d p x).extract 0 56)) 8).toArray⟩=Ja (Dp ((Ie d p x).extract 0 56)) 8:=by apply A8;simp[Ja]
   rw[e0]at B;have a0:FX w' g.heap.size 188 (Dc (Ie d p x)):=(G.block _ (by omega)).trans aA;obtain⟨u,r1,r2,O⟩:=NR w' g.heap.size 188 _ a0 56 8 8 r t s _ B.rdB (by rw[Qe];exact Aa _) (by rw[Dg,QS];exact Aa _);rw[Qe]at r1;rw[ck_spl]at r2;have bh:=G.size;have ab:∀k,k<f.heap.size->u.heap[k]?=i.heap[k]? := λk hk=>by
    rw[O.block k (by omega) (by simp;omega),G.block k (by omega),U.block k (by omega),D.block k hk]
   have aQ:Below f.heap.size i u:=⟨O.os.trans (G.os.trans (U.os.trans D.os)),O.tape.trans (G.tape.trans (U.tape.trans D.tape)),O.output.trans (G.output.trans (U.output.trans D.output)),by have:=O.size;omega,ab⟩;refine⟨r,t,s,u,rfl,r1,?_,r2,(ab _ (by omega)).trans ad,az.trans (aQ.mono (by omega))⟩;have:FX u w.heap.size 191 [.int .u64 d,.int .i64 p,.int .u64 x]:=(ab _ (by omega)).trans H;exact(this.cell 0).trans rfl
 obtain⟨aP,aZ,aT⟩:=Py;have W:=Ul d p x;have Q:=Db W;have HZ:=Db (QS d p x);have bf:(d:Int).tmod 2=((d%2:Nat):Int):=by rw[Cc (by omega)];omega
 have aB:=Db (P6 (d%2) (Gv d p x) W);have aI:=Db al;have aJ:=Db am;have aK:=Db L;have aE:=Db (show z.heap.size=w.heap.size+1 from ay);have aO:∀o,(f.alloc o).cell? ⟨w.heap.size,0,none⟩=some (.int .u64 d):=λo=>(Ay (w:=f) (a:=⟨w.heap.size,0,none⟩) (BH _ _ _ (show w.heap.size<f.heap.size by omega))).trans (((Y _ _ _ aa).cell 0).trans rfl)
 have c0:i.cell? ⟨w.heap.size,0,none⟩=some (.int .u64 d):=(H.cell 0).trans rfl;have c1:i.cell? ⟨w.heap.size,1,none⟩=some (.int .i64 p):=(H.cell 1).trans rfl;have c2:i.cell? ⟨w.heap.size,2,none⟩=some (.int .u64 x):=(H.cell 2).trans rfl;clear aa aU ay an ac Y aW ao av Z aX V az H ad ak aw al am L W;have bd:=λ(w:World) (C:Array Value) (n c:Nat)=>FK (P:=prog) w 59 5 C n c underlying59 (by kernel_rfl)
 go_enter func160,ntmps160;go_upto_region 1 with(refine JN rfl 207 rfl PT ?_);rw[show w.alloc (.cells #[Value.int .u64 d,.int .i64 p,.int .u64 x] 191)=z from Da aI];rw[show z.alloc (.cells (F8 0 (Dn 64)).toArray 207)=f from Da aJ]
 try simp only[pE]
 go_upto_region 3 with(first|(go_at_call 212;rw[show f.alloc (.cells #[.int .u8 115,.int .u8 105,.int .u8 108,.int .u8 116] 5 (4,5))=i from Da aK];refine(Da ae).mono ?_;rintro e w1⟨a1,l1,a3,rfl,au,ac,aF⟩;have m1:=au.cell 1;have m2:=au.cell 2;clear aO)|(go_at_call 214;refine(Da af _ _ _ _ aF).mono ?_;rintro e w2⟨a2,l2,a4,rfl,aG⟩)|(go_at_call 213;refine(Da ag _ _ _ _ aG).mono ?_;rintro e g⟨rfl,aH⟩;obtain⟨A,m,T,N,F,aj,ah⟩:=Da HM g aH;have aL:=Db T;have aM:=Db F;have aN:=Db N;clear T F N)|(refine JN rfl 188 rfl Kx ?_;rw[show g.alloc (.cells (Dc (Dn 64)).toArray 188)=A from Da aL])|(refine BX rfl 188 _ _ rfl g.heap.size (Dc (Ie d p x)).toArray rfl rfl 188 _ (Da aN) (by rw[Jf];simp[Dg,Da HZ]) (by simp[Dg,Jr,Da HZ]) (KV _) ?_;rw[Da aM]));refine AE (S:=λ_=>True) (by kernel_rfl) trivial (λbb=>?_);refine tk 0 ?_;refine tk 1 ?_;refine rk 2 (λK E=>?_);go_simp;go_at_call 215;refine(Da aj).mono ?_;rintro e w'⟨rfl,hw⟩;rw[hw];clear hw;go_wp2_with fail;refine E.out _ _ trivial (λa6=>?_);clear E K
 try simp only[pE]
 refine rk 3 (λK E=>?_);go_simp;go_at_call 212;refine(Da ah).mono ?_;rintro e w7⟨a7,l7,c7,u,rfl,ar,bc,HP⟩;go_wp2_with fail;refine E.out _ _ trivial (λa8=>?_);clear E K
 try simp only[pE]
 refine rk 4 (λK E=>?_);refine KK rfl _ _ 59 59 rfl _ _ rfl rfl ar ?_;refine E.out _ _ trivial (λa9=>?_);clear E K
 try simp only[pE]
 refine AO (by kernel_rfl) ?_ _;obtain⟨aq,ax,ap⟩:=Da HP;have aD:=Db aq;have ai:=Db ax;have aC:=Db ap;clear aq ax ap HP ae af ag HM aj ah ar;go_upto_region 4 with fail;refine AX ?_;go_wp2_with(first|(refine wpList_load_row rfl 188 _ rfl g.heap.size rfl 188 _ (0,0) _ (Da aD) Kf rfl (by rw[Jf];simp[Dg,Da Q]) ?_)|(refine ZgG rfl 207 0 1 _ _ rfl (.int .i64 ((d%2:Nat):Int)) (DA (Gv d p x)) rfl rfl (Da aB) ?_)|(refine BX rfl 207 _ _ rfl z.heap.size (F8 (d%2) (Gv d p x)).toArray rfl rfl 207 _ (Da ai) (by rw[QH];simp[J2,Da Q]) (by simp[J2,Da Q,Jr]) (C4 (PW _ _)) ?_));have aS:FX (u.setRow z.heap.size (F8 (d%2) (Gv d p x)).toArray) z.heap.size 207 (F8 (d%2) (Gv d p x)):=BW u _ _ _ 207 _ (Da ai);refine Ap (v:=Ic (d%2) (Gv d p x)) (Fs rfl _ _ z.heap.size 207 _ (0,0) _ rfl aS aZ (by cases aP<;>first|rfl|(simp[TypeDesc.isRow]at aT)) ?_) rfl ⟨rfl,?_⟩
 ·rw[QH];simp[J2,Da Q]
 ·have hn:=Da aE;exact(Da aC).trans ⟨rfl,rfl,rfl,by simp,λj hj=>BD u _ j _ (by omega)⟩
def Kc(db sb so:Nat)(nd:Nat->Int)(cl:Bool)(hd:Nat)(va:Value)(tp tx:Int)(vp:Value):F0:=
 [.pointer (some ⟨db,0,none⟩),.pointer (some ⟨sb,so,none⟩)]++GI nd++[.bool cl,.int .i64 hd,va,.int .i64 tp,.int .u64 tx,vp]
theorem ZnB(b d so:Nat)(a:Nat->Int)(cl:Bool)(c:Nat)(g:Value)(e f:Int)(i:Value)(j:Nat)(h:j<96):(Kc b d so a cl c g e f i)[2+j]?=some (.int .i64 (a j)):=by
 unfold Kc;rw[Ax,AS (by simp),AW (by simp[Jq];omega),<-Qz a j h]
 congr 1;simp
theorem JD(f h so:Nat)(g:Nat->Int)(cl:Bool)(a:Nat)(d:Value)(b c:Int)(e:Value)(j:Nat):(Kc f h so g cl a d b c e)[98+j]? = [Value.bool cl,.int .i64 a,d,.int .i64 b,.int .u64 c,e][j]? := by
 unfold Kc;rw[AS (by simp[Jq])]
 congr 1;simp[Jq]
theorem Ux(a d so:Nat)(c:Nat->Int)(cl:Bool)(b:Nat)(g:Value)(e f:Int)(h:Value)(j:Nat)(u:Value):(Kc a d so c cl b g e f h).set (98+j) u=[.pointer (some ⟨a,0,none⟩),.pointer (some ⟨d,so,none⟩)]++GI c++[Value.bool cl,.int .i64 b,g,.int .i64 e,.int .u64 f,h].set j u:=by
 unfold Kc;rw[EM _ _ (by simp[Jq])]
 congr 2;simp[Jq]
structure F4(w:World)(pb db sb so:Nat)(nd:Nat->Int)(cl:Bool)(hd:Nat)(va:Value)(es:LI)(tp tx:Int)(vp:Value)(ps:LB):Prop where
 row:FX w pb 184 (Kc db sb so nd cl hd va tp tx vp)
 sa:Sl w 350 2 va es.length (Dr es)
 sp:Hw w vp ps
 oa:¬Own va pb
 op:¬Own vp pb
 ap:∀k,Own va k->¬Own vp k
theorem F4.below{w w':World}{pb c f so:Nat}{e:Nat->Int}{cl:Bool}{d:Nat}{j:Value}{es:LI}{g i:Int}{l:Value}{ps:LB}(h:F4 w pb c f so e cl d j es g i l ps)(a:Bw w w'):F4 w' pb c f so e cl d j es g i l ps:=
 ⟨(a.block _ h.row.lt).trans h.row,h.sa.kept (λk b _=>a.block k b),Sl.kept h.sp (λk b _=>a.block k b),h.oa,h.op,h.ap⟩
theorem F4.cells{w:World}{pb a d so:Nat}{c:Nat->Int}{cl:Bool}{b:Nat}{e:Value}{es:LI}{i k:Int}{f:Value}{ps:LB}(h:F4 w pb a d so c cl b e es i k f ps):
  w.cell? ⟨pb,0,none⟩=some (.pointer (some ⟨a,0,none⟩))/\w.cell? ⟨pb,1,none⟩=some (.pointer (some ⟨d,so,none⟩))/\(∀j,j<96->w.cell? ⟨pb,2+j,none⟩=some (.int .i64 (c j)))/\w.cell? ⟨pb,98,none⟩=some (.bool cl)/\w.cell? ⟨pb,99,none⟩=some (.int .i64 b)/\w.cell? ⟨pb,100,none⟩=some e/\w.cell? ⟨pb,103,none⟩=some f:=
 ⟨(h.row.cell 0).trans rfl,(h.row.cell 1).trans rfl,λj g=>(h.row.cell (2+j)).trans (ZnB _ _ _ _ _ _ _ _ _ _ j g),(h.row.cell 98).trans (JD _ _ _ _ _ _ _ _ _ _ 0),(h.row.cell 99).trans (JD _ _ _ _ _ _ _ _ _ _ 1),(h.row.cell 100).trans (JD _ _ _ _ _ _ _ _ _ _ 2),(h.row.cell 103).trans (JD _ _ _ _ _ _ _ _ _ _ 5)⟩
theorem F4.next{w w':World}{pb a d so:Nat}{c:Nat->Int}{cl:Bool}{n:Nat}{l:Value}{es:LI}{f i:Int}{m:Value}{ps:LB}(h:F4 w pb a d so c cl n l es f i m ps)(p:Nat)(q:FX w' pb 184 ((Kc a d so c cl n l f i m).set 99 (.int .i64 ((p+1:Nat):Int))))(o:Fr (λk=>k=pb) w w'):F4 w' pb a d so c cl (p+1) l es f i m ps:=
 ⟨by rw[Ux (j:=1)]at q;exact q,h.sa.fr o (λg b e=>h.oa (by rw[<-e];exact b)),Sl.fr h.sp o (λg b e=>h.op (by rw[<-e];exact b)),h.oa,h.op,h.ap⟩
theorem F4.piece{w w':World}{pb d q so:Nat}{o:Nat->Int}{cl:Bool}{f:Nat}{b:Value}{es:LI}{r s:Int}{c a:Value}{ps p:LB}(h:F4 w pb d q so o cl f b es r s c ps)(u:Hw w' a p)(i:Fr (Own c) w w')(m:Dk w c a):F4 (w'.setCell ⟨pb,103,none⟩ a) pb d q so o cl f b es r s a p:=by
 have y:FX w' pb 184 _:=h.row.fr i h.op;have z:Sl w' 350 2 b es.length (Dr es):=h.sa.fr i (λg v=>h.ap g v);have n:¬Own a pb:=λe=>(m _ e).elim h.op (λt=>by have:=h.row.lt;omega)
 refine⟨?_,z.setCell _ _ h.oa,Sl.setCell u _ _ n,h.oa,n,λk l x=>(m _ x).elim (h.ap k l) (λt=>by have:=h.sa.lt l;omega)⟩;have:=y.set 103 a;rw[Ux (j:=5)]at this;exact this
theorem F4.put{w w':World}{pb i q so:Nat}{p:Nat->Int}{cl:Bool}{l:Nat}{g a:Value}{es c:LI}{r s:Int}{t:Value}{ps:LB}(h:F4 w pb i q so p cl l g es r s t ps)(u:Sl w' 350 2 a c.length (Dr c))(o:Dk w g a)(m:I0 w w' pb 100 g a):F4 w' pb i q so p cl l a c r s t ps:=by
 have v:¬Own a pb:=λe=>(o _ e).elim h.oa (λd=>by have:=h.row.lt;omega)
 refine⟨?_,u,Sl.kept h.sp (λk f e=>m.block k f (λb=>h.op (by rw[<-b];exact e)) (λb=>h.ap k b e)),v,h.op,λk f n=>(o _ f).elim (λd=>h.ap k d n) (λd=>by have:=Sl.lt h.sp n;omega)⟩;have:=h.row.set 100 a;rw[Ux (j:=2)]at this;exact m.head.trans this
theorem W8{P:Program}{o:Oper}{a:Act}(X:World)(t:TypeId)(i j:Nat)(x y:Operand)(ho:o.op=.build t #[(i,x),(j,y)])(u v:Value)(d:a.eval x=u)(f:a.eval y=v){b:Array Value}(c:P.built t [(i,u),(j,v)]=some b):(execOp a.eval o).run P X=.ok (.value (.agg b)) X:=by
 have e:((#[(i,x),(j,y)]:Array (Nat×Operand)).map λ(i,x)=>(i,a.eval x)) = #[(i,u),(j,v)]:=by simp[d,f]
 unfold execOp;simp only[ho,Cn,e];rw[run_build X t #[(i,u),(j,v)] b c]
 rfl
def Uc(w:World)(pb db sb so:Nat)(nd:Nat->Int)(cl:Bool)(va:Value)(es:LI)(tp tx:Int)(vp:Value)(ps:LB)(r:Nat)(s:By)(p:Nat)(e:Ending)(w':World):Prop:=
 e=.returned (.agg #[.int .i64 (p:Nat),.int .u64 (Dp s:Nat)])/\∃va' es' vp',F4 w' pb db sb so nd cl (p+1) va' es' tp tx vp' (ps++[(p,s)])/\Gy es'/\es'.length=es.length+1/\(∀x,x∈es'↔x=((r:Int),(p:Int))\/x∈es)/\Fr (λk=>k=pb\/Own va k\/Own vp k) w w'/\Dk w va va'/\Dk w vp vp'
end Go.Proofs.YtaieidcohdhgpaaGreatDoor
