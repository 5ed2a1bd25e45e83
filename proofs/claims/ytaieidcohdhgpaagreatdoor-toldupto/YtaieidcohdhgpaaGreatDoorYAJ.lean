/- Told. -/
import Derived.Test.YtaieidcohdhgpaaGreatDoorYAI
import Derived.Stop.BytesEq
namespace Go.Proofs.YtaieidcohdhgpaaGreatDoor
set_option maxHeartbeats 40000000
set_option maxRecDepth 100000
section
open Tryz
open Go.RowKit Go.Shelf
attribute [local go_sem] Oper.semAt_some
theorem Zkf{P:Program}{n l:Nat}{Q:Exit->Act->World->Prop}{o:Oper}{a:Act}{w:World}{K:Act->World->Prop}(g:∀c,o.op≠.defer c)(h:o.wp P a w K Q):o.wpIn (Fence.wide.inRound l) n P a w K Q:=by
 refine⟨λf _=>trivial,?_⟩;have e:(o.semAt (Fence.wide.inRound l).round a.eval)=execOp a.eval o:=Oper.semAt_some l a.eval o g;rw[e];unfold Oper.wp at h;generalize (execOp a.eval o).run P w=r at *
 cases r with
 |ok x w'=>
  cases x with
  |enter f args=>exact⟨λb=>(by cases b),Cx l (A2.2 h)⟩
  |row row args=>exact⟨λb=>(by cases b),λc d _=>let ⟨v,w',r,s⟩:=h c d;⟨v,w',r,stepsIn_wide.2 s⟩⟩
  |_=>first|exact h|exact h.elim
 |halt x w'=>cases x<;>first|exact h|exact h.elim
theorem Xx{P:Program}{n l:Nat}{k:Region.Mode}{d:Array Oper}{Q:Exit->Act->World->Prop}(e:¬LetsOut Q)(g:∀(i:Nat) (o:Oper),d[i]?=some o->∀c,o.op≠.defer c):
  ∀(fuel:Nat) (listed:Array Bool) (a:Act) (w:World),wpAny P k d Q fuel listed a w->wpAnyIn (Fence.wide.inRound l) n P k d Q fuel listed a w
 |0,_,_,_,h=>h
 |fuel+1,listed,a,w,h=>⟨h.1,λi q=>by
  have b:=wpOp_mono (λm w' p=>Xx e g (n:=n) (l:=l) fuel _ m w' p) (h.2 i q);unfold wpOp at b;unfold wpOpIn
  cases ho:d[i]? with
  |none=>rw[ho]at b;exact b
  |some o=>
   rw[ho]at b;simp only at b ⊢;by_cases j:Region.wanted o (yielded d a.tmps)=true
   ·rw[if_pos j]at b ⊢;rcases b with b|b
    ·exact Zkf (g i o ho) b
    ·exact absurd b.2 e
   ·rw[if_neg j]at b ⊢;exact⟨λf _=>trivial,b⟩⟩
def Tl(ops:Array Oper):Bool:=ops.all λo=>match o.op with|.defer _=>false|_=>true
theorem Zkr{a:Array Oper}(h:Tl a=true):∀(i:Nat) (o:Oper),a[i]?=some o->∀c,o.op≠.defer c:=λi o ho c e=>by
 have:=Array.all_eq_true_iff_forall_mem.1 h o (Array.mem_of_getElem? ho);rw[e]at this;cases this
theorem Qw{P:Program}{n l id:Nat}{b:Array Oper}{Q:Exit->Act->World->Prop}{a:Act}{w:World}(S:World->Prop)(e:P.follows .mixedOrders=true)(d:¬LetsOut Q)(f:Tl b=true)(c:S w.drew)(h:S w.drew->wpAnyH P .any b Q S b.size (Array.replicate b.size false) a w.drew):(Code.region id b true).wpIn (Fence.wide.inRound l) n P Q a w:=
 wpIn_region_any e (Xx d (Zkr f) _ _ _ _ (wpAny_of_held _ _ _ _ (h c)))
theorem Uk(v:Value)(b:Nat)(h1:0<b)(hz:b<1000000)(n:Nat)(w:World)(d:∃a l c,v=.slice a l c):
  CallsIn Fence.wide n prog 172 #[v,.int .i64 b] w λe w'=>e=.returned (.func (.func 220) #[] #[.pointer (some ⟨w.heap.size,0,none⟩),.pointer (some ⟨w.heap.size+1,0,none⟩)])/\w'=(w.alloc (.cells #[v] 59)).alloc (.cells #[.int .i64 b] 3):=by
 obtain⟨a,l,c,rfl⟩:=d;refine A2.2 ?_;have h2:¬((b:Int)<1):=by omega
 go_enter func172,ntmps172;go_wp2;go_ret;exact⟨rfl,rfl⟩
def Io(g off sz len k:Nat):Value:=.slice (some ⟨g,off+k*sz,none⟩) (min sz (len-k*sz)) (min sz (len-k*sz))
theorem Ol(n:Nat)(hn:1<=n)(f j g off b c d:Nat)(h1:0<b)(hz:b<1000000)(an:c<=d)(hl:c<1000000)(N:Nat)(t:N=(c+b-1)/b)(w:World)(ac:f<w.heap.size)(ad:j<w.heap.size)(I:w.cell? ⟨f,0,none⟩=some (.slice (some ⟨g,off,none⟩) c d))(K:w.cell? ⟨j,0,none⟩=some (.int .i64 b))(E:World->World->Prop)(O:∀A B,E A B->A.cell? ⟨f,0,none⟩=some (.slice (some ⟨g,off,none⟩) c d)->A.cell? ⟨j,0,none⟩=some (.int .i64 b)->B.cell? ⟨f,0,none⟩=some (.slice (some ⟨g,off,none⟩) c d)/\B.cell? ⟨j,0,none⟩=some (.int .i64 b)):
  SeqStopsK Fence.wide n prog 220 #[.pointer (some ⟨f,0,none⟩),.pointer (some ⟨j,0,none⟩)] (λk:Nat => #[Io g off b c k]) E (λys=>ys=List.range N) (λak=>ak <+: List.range N) N w:=λl J Jx W u L _ R h0=>by
 have c1:=(u.cell (p:=⟨f,0,none⟩) ac).trans I;have c2:=(u.cell (p:=⟨j,0,none⟩) ad).trans K;have HY:=Db R;have Q:∀k,k<N->k*b<c:=λk U=>by
  have h2:(k+1)*b<=N*b:=Nat.mul_le_mul_right _ U;have H:N*b<=c+b-1:=by rw[t];exact Nat.div_mul_le_self _ _
  rw[E3]at h2;omega
 have P:c<=N*b:=by
  have H:=Nat.lt_div_mul_add (a:=c+b-1) h1;rw[<-t]at H;omega
 have aa:=Db Q;have ab:=Db P;have Z:=Db O;have Y:=Db L;clear R u Q P I K t O L;refine CH func220 rfl trivial ?_ rfl;simp only[ntmps220,AM,Al,AK,Nat.reduceAdd,Nat.reduceSub,AQ,AP,AZ,AT,AD,AN]
 gi_wp2
 gi_loopw [4] (λi wr=>∃k:Nat,k<=N/\i=.int .i64 ((k*b:Nat):Int)/\wr.cell? ⟨f,0,none⟩=some (.slice (some ⟨g,off,none⟩) c d)/\wr.cell? ⟨j,0,none⟩=some (.int .i64 b)/\Hid (J (List.range k) wr))
  (λi _=>c-(intOf i).toNat)
 case atStart=>exact⟨0,Au _,by rw[FQ];rfl,c1,c2,h0⟩
 case round=>
  obtain⟨k,U,rfl,F,G,z⟩:=hrel;by_cases x:k<N
  ·have aj:=Da aa k x;obtain⟨q,y⟩:=ex (k*b);rw[<-y]at aj ⊢;obtain⟨m,V⟩:=ex (min b (c-q));have ao:0<m:=by omega
   have aq:m<=c-q:=by omega
   have ar:m<=b:=by omega
   have D:Hid (List.range (k+1)=List.range k++[k]):=Cp;have C:=Db y;have o:=Db V;have aw:(q:Int)<(c:Int):=by omega
   have av:¬d=q:=by omega
   have ax:q<=c:=by omega
   clear y V;have M:J (List.range k) wr.drew:=Da Y _ _ _ none (Da z) ⟨rfl,rfl,rfl,Aa _,λ_ _ _=>rfl⟩ (λr e=>by cases e);have T:Io g off b c k=.slice (some ⟨g,off+q,none⟩) m m:=by unfold Io;rw[<-Da C,<-Da o]
   obtain⟨fn,tmps,assign,body,hy,hR⟩:=Da HY (List.range k) k wr.drew M (by rw[AU];exact x);rw[T]at hy;have ap:(if (b:Int)<=(c:Int)-(q:Int) then(b:Int) else(c:Int)-(q:Int))=(m:Int):=by
    have:=Da o
    split<;>omega
   clear M T
   gi_wp2
   refine BE.2 ?_;refine AE (S:=λX=>X.cell? ⟨f,0,none⟩=some (.slice (some ⟨g,off,none⟩) c d)/\X.cell? ⟨j,0,none⟩=some (.int .i64 b)) (by kernel_rfl) ⟨F,G⟩ (λae=>?_);refine tk 0 ?_;refine tk 1 ?_;refine tk 2 ?_;refine tk 3 ?_;refine tk 4 ?_;refine A5 (i:=5) (v:=.int .i64 (m:Nat)) rfl (by kernel_rfl) (by kernel_rfl) (by kernel_rfl) (λ_ _ _ h=>h) (Or.inl ⟨by rfl,?_⟩) (by assumption) ?_
   ·intro w ah;(try dsimp only at ah);go_simp;have s:=Da o;omega
   try simp only[pE]
   refine tk 6 ?_;refine AO (by kernel_rfl) ?_ _;clear ae;have ay:q+m<=d:=by omega
   have az:q+m-q=m:=by omega
   have au:¬q+m=q:=by omega
   have aA:((q:Int)+(m:Int))<=(d:Int):=by omega
   gi_wp2
   refine hR.mono ?_;rintro e W3 (⟨rfl,af,ai⟩|⟨rfl,ag⟩)
   ·obtain⟨k1,k2⟩:=Da Z _ _ ai F G
    gi_wp2
    go_roundw
    case rel=>exact⟨k+1,by omega,by rw[E3,Nat.one_mul,<-Da C]<;>go_num,k1,k2,by show J _ _;rw[Da D];exact af⟩
    case measure=>simp[intOf];omega
   ·gi_wp2
    refine Ap (Eb rfl _ _ _) rfl ?_;exact⟨⟨_,rfl⟩,.inr ⟨_,by rw[<-Da D];(have s:=Fu (k+1) (List.range N);rw[List.take_range,BB x]at s;exact s),ag⟩⟩
  ·obtain rfl:k=N:=by omega
   have al:=Da ab;have am:¬(((k*b:Nat):Int)<(c:Int)):=by omega
   gi_wp2
   go_end0
   exact⟨⟨_,rfl⟩,.inl (Da z)⟩
end
section
open Go.RowKit Go.Shelf
attribute [local go_sem] Oper.semAt_some
def Hy(s:By)(sz x:Nat):By:=s.extract (x*sz) (x*sz+sz)
def Dx(kk:UInt8)(s:By)(sz x:Nat):By:=⟨#[kk]⟩++Di (Hy s sz x) 63
theorem Qc(kk:UInt8)(s:By)(a x:Nat):(Dx kk s a x).size=64:=by unfold Dx;rw[Ai,Jc];rfl
theorem Qg(s:By)(a x:Nat):(Hy s a x).size=min a (s.size-x*a):=by unfold Hy;rw[Ah];omega
theorem Gp.chunk{w:World}{g off c f:Nat}{s:By}(h:Gp w (some ⟨g,off,none⟩) c f s)(b x:Nat):Gp w (some ⟨g,off+x*b,none⟩) (min b (c-x*b)) (min b (c-x*b)) (Hy s b x):=by
 refine⟨by rw[Qg,h.1],λe=>(by cases e),λj v a=>⟨_,rfl,?_⟩⟩;unfold Hy at a;rw[Jp,Ao]at a
 split at a
 ·rw[Bf]at a;obtain⟨y,e,d⟩:=h.2.2 _ _ a
  cases e
  rw[AI]at d ⊢;rw[EP];exact d
 ·cases a
def Dd(kk below t:Nat):Nat:=kk*4294967296+below*65536+t
structure Me(M n0 pb:Nat)(kk:UInt8)(below:Nat)(s:By)(sz:Nat)(P X:List Nat->Nat->Nat)(St:List Nat->(Nat->Prop)->World->Prop):Prop where
 abides:∀pre O W W' row,St pre O W->W.grownBy W' row->(∀r,row=some r->∃o:Obj,W.heap[r]?=some o/\o.isCells=false)->St pre O W'
 keeps:∀pre O W W' (Z:Nat->Prop),St pre O W->Fr Z W W'->(∀j,Z j->¬O j/\n0<=j)->St pre O W'
 lt:∀pre O W,St pre O W->∀j,O j->j<W.heap.size
 put:∀pre x O W,pre.length<M->St pre O W->Cl 272 #[.pointer (some ⟨pb,0,none⟩),.int .u64 (Dd kk.toNat below pre.length:Nat),DA (Dx kk s sz x)] W λe W'=>e=.returned (.agg #[.int .i64 (P pre x:Nat),.int .u64 (X pre x:Nat)])/\∃O',St (pre++[x]) O' W'/\Fr O W W'/\∀j,O' j->O j\/W.heap.size<=j
 cells:∀pre O W,St pre O W->∀j,O j->∃cs t,W.heap[j]?=some (.cells cs t (0,0))
 plt:∀pre x,P pre x<65536
 xlt:∀pre x,X pre x<18446744073709551616
structure Ha(w:World)(n1 B4 B5 B6 B10 B11 pb:Nat)(kk:UInt8)(below:Nat)(g off len cap:Nat)(s:By)(St:List Nat->(Nat->Prop)->World->Prop)(Yo:Nat->Prop)(RB:List Nat->By)(pre pre':List Nat)(v:Value)(O:Nat->Prop)(W:World):Prop where
 st:St pre' O W
 hO:∀j,O j->Yo j\/n1<=j
 b4:Boxed W B4 168 (.pointer (some ⟨pb,0,none⟩))
 b5:Boxed W B5 300 (.int .u8 (kk.toNat:Int))
 b6:Boxed W B6 3 (.int .i64 (below:Nat))
 b10:Boxed W B10 59 v
 b11:Boxed W B11 3 (.int .i64 (pre.length:Nat))
 rs:F9 n1 W v (RB pre)
 dis:∀j,O j->¬Own v j
 rd:Gp W (some ⟨g,off,none⟩) len cap s
 fr:Fr Yo w W
 sz:n1<=W.heap.size
structure IJ(w:World)(n1 B4 B5 B6 B10 B11 g len:Nat)(Yo:Nat->Prop):Prop where
 e4:B4=w.heap.size
 e5:B5=w.heap.size+1
 e6:B6=w.heap.size+2
 e10:B10=w.heap.size+3
 e11:B11=w.heap.size+4
 en:w.heap.size+5<=n1
 yo:∀j,Yo j->j<w.heap.size
 gy:¬Yo g
 gl:g<w.heap.size
theorem IJ.nO{w:World}{n1 f i k c d g m:Nat}{a O:Nat->Prop}(h:IJ w n1 f i k c d g m a)(l:∀j,O j->a j\/n1<=j)(B:Nat)(h1:w.heap.size<=B)(h2:B<n1):¬O B:=λe=>by
 rcases l B e with b|b
 ·have:=h.yo B b;omega
 ·omega
theorem Ha.below{w:World}{M y n1 i j l d f pb:Nat}{kk:UInt8}{c:Nat}{g off q p:Nat}{s:By}{z:Nat}{P X:List Nat->Nat->Nat}{b:List Nat->(Nat->Prop)->World->Prop}{o:Nat->Prop}{m:List Nat->By}{t u:List Nat}{v:Value}{O:Nat->Prop}{W n:World}(L:Me M y pb kk c s z P X b)(h:Ha w n1 i j l d f pb kk c g off q p s b o m t u v O W)(a:Bw W n):Ha w n1 i j l d f pb kk c g off q p s b o m t u v O n:=
 ⟨L.abides _ _ _ _ none h.st ⟨a.os,a.tape,a.output,a.size,λk x _=>a.block k x⟩ (λr e=>by cases e),h.hO,(a.block _ h.b4.lt).trans h.b4,(a.block _ h.b5.lt).trans h.b5,(a.block _ h.b6.lt).trans h.b6,(a.block _ h.b10.lt).trans h.b10,(a.block _ h.b11.lt).trans h.b11,h.rs.below a,h.dis,h.rd.below a,h.fr.then (Fr.of_below a (X:=λ_=>False)) (λ_ _ e=>e.elim),Af h.sz a.size⟩
theorem Ha.put{w:World}{M I n1 n o p l m pb:Nat}{kk:UInt8}{t:Nat}{g off y A:Nat}{s:By}{K:Nat}{P X:List Nat->Nat->Nat}{i:List Nat->(Nat->Prop)->World->Prop}{r:Nat->Prop}{z:List Nat->By}{G J:List Nat}{v:Value}{O:Nat->Prop}{W q:World}(b:IJ w n1 n o p l m g y r)(_L:Me M I pb kk t s K P X i)(h:Ha w n1 n o p l m pb kk t g off y A s i r z G J v O W){F:List Nat}{O':Nat->Prop}(H:i F O' q)(c:Fr O W q)(C:∀j,O' j->O j\/W.heap.size<=j):Ha w n1 n o p l m pb kk t g off y A s i r z G F v O' q:=by
 have e4:=b.e4;have e5:=b.e5;have e6:=b.e6;have aa:=b.e10;have ab:=b.e11;have en:=b.en;have ac:=h.sz;have f:=λB=>b.nO h.hO B
 refine⟨H,λj u=>(C j u).elim (h.hO j) (λa => .inr (by omega)),(c.block _ h.b4.lt (f _ (by omega) (by omega))).trans h.b4,(c.block _ h.b5.lt (f _ (by omega) (by omega))).trans h.b5,(c.block _ h.b6.lt (f _ (by omega) (by omega))).trans h.b6,(c.block _ h.b10.lt (f _ (by omega) (by omega))).trans h.b10,(c.block _ h.b11.lt (f _ (by omega) (by omega))).trans h.b11,⟨h.rs.1.fr c (λk D d=>h.dis k d D),h.rs.2⟩,λj u E=>(C j u).elim (λa=>h.dis j a E) (λa=>by have:=Own.lt h.rs E;omega),h.rd.fr c (λx e hp d=>?_),h.fr.then c (λk D d=>?_),Af h.sz c.size⟩
 ·cases e
  rcases h.hO _ d with a|a
  ·exact b.gy a
  ·have:=b.gl;simp only at a;omega
 ·rcases h.hO k d with a|a
  ·exact a
  ·omega
theorem Ha.done{w:World}{M I n1 p q r b c pb:Nat}{kk:UInt8}{D:Nat}{g off F G:Nat}{s:By}{Y:Nat}{P X:List Nat->Nat->Nat}{A:List Nat->(Nat->Prop)->World->Prop}{C:Nat->Prop}{z:List Nat->By}{y:List Nat}{v:Value}{O:Nat->Prop}{W f:World}(d:IJ w n1 p q r b c g F C)(ac:I<=w.heap.size)(L:Me M I pb kk D s Y P X A){o:List Nat}(h:Ha w n1 p q r b c pb kk D g off F G s A C z y o v O W)(K:o.length=y.length+1){m:Value}(E:F9 n1 f m (z o))(i:Fr (Own v) W f)(N:Dk W v m):Ha w n1 p q r b c pb kk D g off F G s A C z o o m O ((f.setCell ⟨b,0,none⟩ m).setCell ⟨c,0,none⟩ (.int .i64 ((y.length:Int)+1))):=by
 have e4:=d.e4;have e5:=d.e5;have e6:=d.e6;have aa:=d.e10;have ab:=d.e11;have en:=d.en;have ad:=h.sz;have l:∀B,B<n1->¬Own v B:=λB d e=>by have:=h.rs.2 B e;omega
 have J:∀B,B<n1->¬Own m B:=λB d e=>by have:=E.2 B e;omega
 have T:Boxed f p 168 _:=(i.block _ h.b4.lt (l _ (by omega))).trans h.b4;have U:Boxed f q 300 _:=(i.block _ h.b5.lt (l _ (by omega))).trans h.b5;have V:Boxed f r 3 _:=(i.block _ h.b6.lt (l _ (by omega))).trans h.b6;have R:Boxed f b 59 _:=(i.block _ h.b10.lt (l _ (by omega))).trans h.b10;have S:Boxed f c 3 _:=(i.block _ h.b11.lt (l _ (by omega))).trans h.b11;have t:Fr (λj=>Own v j\/j=b\/j=c) W ((f.setCell ⟨b,0,none⟩ m).setCell ⟨c,0,none⟩ (.int .i64 ((y.length:Int)+1))):=
  (Fr.set (X:=λj=>Own v j\/j=b\/j=c) (Fr.then (Fr.refl _ W) i (λ_ _ e => .inl e)) ⟨b,0,none⟩ _ (.inr (.inl rfl))).set ⟨c,0,none⟩ _ (.inr (.inr rfl))
 have H:b≠c:=by omega
 refine⟨L.keeps _ _ _ _ _ h.st t (λj u=>?_),h.hO,(T.other (by omega) _).other (by omega) _,(U.other (by omega) _).other (by omega) _,(V.other (by omega) _).other (by omega) _,(R.set _).other H _,?_,⟨(E.1.setCell ⟨b,0,none⟩ _ (J b (by omega))).setCell ⟨c,0,none⟩ _ (J c (by omega)),E.2⟩,λj u Q=>?_,h.rd.fr t (λx e hp n=>?_),h.fr.then t (λk hk n=>?_),Af h.sz t.size⟩
 ·rcases u with a|a|a
  ·exact⟨λn=>h.dis j n a,by have:=h.rs.2 j a;omega⟩
  ·subst a;exact⟨d.nO h.hO _ (by omega) (by omega),by omega⟩
  ·subst a;exact⟨d.nO h.hO _ (by omega) (by omega),by omega⟩
 ·rw[K];exact(S.other (λe=>H e.symm) _).set _
 ·rcases N j Q with a|a
  ·exact h.dis j u a
  ·have:=L.lt _ _ _ h.st j u;omega
 ·cases e
  have:=d.gl;rcases n with a|a|a
  ·exact l _ (by show g<n1;omega) a
  ·simp only at a;omega
  ·simp only at a;omega
 ·rcases n with a|a|a
  ·have:=h.rs.2 k a;omega
  ·omega
  ·omega
theorem Ha.own{w:World}{M Z n1 n p u l m pb:Nat}{kk:UInt8}{C:Nat}{g off F H:Nat}{s:By}{sz:Nat}{P X:List Nat->Nat->Nat}{y:List Nat->(Nat->Prop)->World->Prop}{B:Nat->Prop}{G:List Nat->By}{K N:List Nat}{v:Value}{O:Nat->Prop}{W A:World}(L:Me M Z pb kk C s sz P X y)(J:IJ w n1 n p u l m g F B)(h:Ha w n1 n p u l m pb kk C g off F H s y B G K N v O W){row:Option Nat}(a:W.grownBy A row)(i:∀r,row=some r->n1<=r/\∃o:Obj,W.heap[r]?=some o/\o.isCells=false):Ha w n1 n p u l m pb kk C g off F H s y B G K N v O A:=by
 have ne:∀(j:Nat) (b:Array Value) (t:TypeId) (z:Nat×Nat),W.heap[j]?=some (Obj.cells b t z)->some j≠row:=λj b t z d e=>by
  obtain⟨o,I,U⟩:=(i j e.symm).2;rw[d]at I;cases I;cases U
 have c:∀(j:Nat) (b:Array Value) (t:TypeId) (z:Nat×Nat),W.heap[j]?=some (Obj.cells b t z)->A.heap[j]?=some (Obj.cells b t z):=λj b t z d=>(a.block j (Aj.1 d).1 (ne j b t z d)).trans d
 have ab:=J.gl;have aa:=J.en;refine⟨L.abides _ _ _ _ row h.st a (λr e=>(i r e).2),h.hO,c _ _ _ _ h.b4,c _ _ _ _ h.b5,c _ _ _ _ h.b6,c _ _ _ _ h.b10,c _ _ _ _ h.b11,⟨?_,h.rs.2⟩,h.dis,?_,?_,Af h.sz a.size⟩
 ·rcases h.rs.1.2 with⟨e,T⟩|⟨S,R,Q,e,V,q⟩
  ·exact⟨h.rs.1.1,.inl ⟨e,T⟩⟩
  ·exact⟨h.rs.1.1,.inr ⟨S,R,Q,e,c _ _ _ _ V,q⟩⟩
 ·exact h.rd.fr (P:=λj=>row=some j) ⟨a.os,a.tape,a.output,a.size,λk f D=>a.block k f (λe=>D e.symm)⟩ (λx e _ E=>by cases e;have:=(i _ E).1;simp only at this;omega)
 ·exact h.fr.then (Y:=λj=>row=some j) ⟨a.os,a.tape,a.output,a.size,λk f D=>a.block k f (λe=>D e.symm)⟩ (λk f E=>by have:=(i _ E).1;omega)
def Lw(w:World)(n1 B4 B5 B6 B10 B11 pb:Nat)(kk:UInt8)(below:Nat)(g off len cap:Nat)(s:By)(St:List Nat->(Nat->Prop)->World->Prop)(Yo:Nat->Prop)(RB:List Nat->By)(pre:List Nat)(W:World):Prop:=∃v O,Ha w n1 B4 B5 B6 B10 B11 pb kk below g off len cap s St Yo RB pre pre v O W
def SQ(w:World)(n1:Nat)(St:List Nat->(Nat->Prop)->World->Prop)(Yo:Nat->Prop)(RB:List Nat->By)(N:Nat)(e:Ending)(w':World):Prop:=
 ∃a' l' c' O,e=.returned (.slice a' l' c')/\F9 n1 w' (.slice a' l' c') (RB (List.range N))/\St (List.range N) O w'/\(∀j,O j->Yo j\/n1<=j)/\(∀j,O j->¬Own (.slice a' l' c') j)/\Fr Yo w w'
end
section
open Go.RowKit Go.Shelf
attribute [local go_sem] Oper.semAt_some
def Q1(n1 B10 B11:Nat)(Yo:Nat->Prop)(A B:World):Prop:=A.heap.size<=B.heap.size/\∀k,k<n1->¬Yo k->k≠B10->k≠B11->B.heap[k]?=A.heap[k]?
def Jt(B4 B5 B6 B11 pb:Nat)(kk:UInt8)(below t:Nat)(V:World):Prop:=V.cell? ⟨B4,0,none⟩=some (.pointer (some ⟨pb,0,none⟩))/\V.cell? ⟨B5,0,none⟩=some (.int .u8 (kk.toNat:Int))/\V.cell? ⟨B6,0,none⟩=some (.int .i64 (below:Nat))/\V.cell? ⟨B11,0,none⟩=some (.int .i64 (t:Nat))
def Qj(w:World)(n1 B4 B5 B6 B10 B11 pb:Nat)(kk:UInt8)(below:Nat)(g off len cap:Nat)(s:By)(St:List Nat->(Nat->Prop)->World->Prop)(Yo:Nat->Prop)(RB:List Nat->By)(pre pre':List Nat)(v:Value)(O0 O:Nat->Prop)(W V:World):Prop:=
 Ha w n1 B4 B5 B6 B10 B11 pb kk below g off len cap s St Yo RB pre pre' v O V/\Fr (λj=>O0 j\/Own v j\/j=B10\/j=B11) W V
theorem VV(w:World)(M:Nat)(hM:M<=1000)(n0 n1 l m n c d pb:Nat)(kk:UInt8)(i:Nat)(ag:i<65536)(g off F I:Nat)(s:By)(J:Nat)(ak:J<=63)(P X:List Nat->Nat->Nat)(G:List Nat->(Nat->Prop)->World->Prop)(z:Nat->Prop)(v:List Nat->By)(D:IJ w n1 l m n c d g F z)(ai:n0<=w.heap.size)(L:Me M n0 pb kk i s J P X G)(ae:∀a x,v (a++[x])=v a++DI (P a x) (X a x))(af:∀a,(v a).size=10*a.length)(a:List Nat)(x:Nat)(aj:a.length<M)(W:World)(q:OA)(u r:Nat)(O:Nat->Prop)(h:Ha w n1 l m n c d pb kk i g off F I s G z v a a (.slice q u r) O W):
  (∀V,Cl 244 #[.int .u8 (kk.toNat:Int),.int .i64 (i:Nat),.int .i64 (a.length:Nat)] V λe w'=>e=.returned (.int .u64 (Dd kk.toNat i a.length:Nat))/\w'=V)/\
  (∀V,Qj w n1 l m n c d pb kk i g off F I s G z v a a (.slice q u r) O O W V->Cl 213 #[.int .u8 (kk.toNat:Int),Io g off J F x] V λe b=>e=.returned (DA (Dx kk s J x))/\Jt l m n d pb kk i a.length b/\b.cell? ⟨c,0,none⟩=some (.slice q u r)/\Hid (Qj w n1 l m n c d pb kk i g off F I s G z v a a (.slice q u r) O O W b))/\
  (∀V,Qj w n1 l m n c d pb kk i g off F I s G z v a a (.slice q u r) O O W V->Cl 272 #[.pointer (some ⟨pb,0,none⟩),.int .u64 (Dd kk.toNat i a.length:Nat),DA (Dx kk s J x)] V λe b=>e=.returned (.agg #[.int .i64 (P a x:Nat),.int .u64 (X a x:Nat)])/\Jt l m n d pb kk i a.length b/\b.cell? ⟨c,0,none⟩=some (.slice q u r)/\Hid (∃O',Qj w n1 l m n c d pb kk i g off F I s G z v a (a++[x]) (.slice q u r) O O' W b))/\
  (∀V,(∃O',Qj w n1 l m n c d pb kk i g off F I s G z v a (a++[x]) (.slice q u r) O O' W V)->Cl 214 #[.agg #[.int .i64 (P a x:Nat),.int .u64 (X a x:Nat)],.slice q u r] V λe b=>∃A E C,e=.returned (.slice A E C)/\Jt l m n d pb kk i a.length b/\Jt l m n d pb kk i a.length (b.setCell ⟨c,0,none⟩ (.slice A E C))/\b.cell? ⟨c,0,none⟩=some (.slice q u r)/\b.frozen? ⟨c,0,none⟩=false/\(b.setCell ⟨c,0,none⟩ (.slice A E C)).frozen? ⟨d,0,none⟩=false/\
   Hid (KeepsOthers W ((b.setCell ⟨c,0,none⟩ (.slice A E C)).setCell ⟨d,0,none⟩ (.int .i64 ((a.length:Int)+1)))/\Q1 n1 c d z W ((b.setCell ⟨c,0,none⟩ (.slice A E C)).setCell ⟨d,0,none⟩ (.int .i64 ((a.length:Int)+1)))/\Lw w n1 l m n c d pb kk i g off F I s G z v (a++[x]) ((b.setCell ⟨c,0,none⟩ (.slice A E C)).setCell ⟨d,0,none⟩ (.int .i64 ((a.length:Int)+1))))):=by
 have e4:=D.e4;have e5:=D.e5;have e6:=D.e6;have al:=D.e10;have am:=D.e11;have en:=D.en;have ah:kk.toNat<256:=kk.toNat_lt;refine⟨λV=>UB V kk.toNat i a.length ah ag (by omega),λV N=>?_,λV N=>?_,λV N=>?_⟩
 ·obtain⟨f,K⟩:=N;refine(Xj V _ _ _ _ (f.rd.chunk J x) (by rw[Qg];omega) kk).mono ?_;rintro e b⟨rfl,hb⟩;have p:=f.below L hb;exact⟨rfl,⟨p.b4.cell,p.b5.cell,p.b6.cell,p.b11.cell⟩,p.b10.cell,p,K.then (Fr.of_below hb (X:=λ_=>False)) (λ_ _ e=>e.elim)⟩
 ·obtain⟨f,K⟩:=N;refine(L.put a x O V aj f.st).mono ?_;rintro e b⟨rfl,O',U,y,q3⟩;have p:=f.put D L U y q3;exact⟨rfl,⟨p.b4.cell,p.b5.cell,p.b6.cell,p.b11.cell⟩,p.b10.cell,O',p,K.then y (λ_ _ e => .inl e)⟩
 ·obtain⟨O',f,K⟩:=N;have ak:=f.sz;refine(R4 V n1 f.sz q u r _ f.rs _ _ (L.plt a x) (L.xlt a x) (by rw[af];omega)).mono ?_;rintro e b⟨A,E,C,rfl,U,y,q3⟩;rw[<-ae]at U;have hD:=f.done D ai L (by simp) U y q3;have Q:∀B,B<n1->¬Own (.slice q u r) B:=λB D e=>by have:=f.rs.2 B e;omega
  have k4:Boxed b l 168 _:=(y.block _ f.b4.lt (Q _ (by omega))).trans f.b4;have k5:Boxed b m 300 _:=(y.block _ f.b5.lt (Q _ (by omega))).trans f.b5;have k6:Boxed b n 3 _:=(y.block _ f.b6.lt (Q _ (by omega))).trans f.b6;have aa:Boxed b c 59 _:=(y.block _ f.b10.lt (Q _ (by omega))).trans f.b10;have Z:Boxed b d 3 _:=(y.block _ f.b11.lt (Q _ (by omega))).trans f.b11;have R:Fr (λj=>O j\/Own (.slice q u r) j\/j=c\/j=d) W ((b.setCell ⟨c,0,none⟩ (.slice A E C)).setCell ⟨d,0,none⟩ (.int .i64 ((a.length:Int)+1))):=
   (Fr.set (K.then y (λ_ _ e => .inr (.inl e))) ⟨c,0,none⟩ _ (.inr (.inr (.inl rfl)))).set ⟨d,0,none⟩ _ (.inr (.inr (.inr rfl)))
  refine⟨A,E,C,rfl,⟨k4.cell,k5.cell,k6.cell,Z.cell⟩,⟨(k4.other (by omega) _).cell,(k5.other (by omega) _).cell,(k6.other (by omega) _).cell,(Z.other (by omega) _).cell⟩,aa.cell,aa.frozen,(Z.other (by omega) _).frozen,⟨R.size,λk o T ho=>?_⟩,⟨R.size,λk T hY ab ac=>?_⟩,_,O',hD⟩
  ·refine(R.block k (Aj.1 T).1 (λe=>?_)).trans T;have S:∀Y t,W.heap[k]? ≠ some (Obj.cells Y t (0,0)):=λY t H=>by rw[T]at H;cases H;cases ho
   rcases e with e|e|e|e
   ·obtain⟨Y,t,H⟩:=L.cells _ _ _ h.st k e;exact S _ _ H
   ·rcases h.rs.1.2 with⟨H,_⟩|⟨g',c2,L2,H,ad,_⟩
    ·rw[H]at e;simp[Own,Value.ownBlock]at e
    ·rw[H]at e;simp[Own,Value.ownBlock]at e;subst e;exact S _ _ ad
   ·subst e;exact S _ _ h.b10
   ·subst e;exact S _ _ h.b11
  ·refine R.block k (by have:=h.sz;omega) (λe=>?_);rcases e with e|e|e|e
   ·rcases h.hO k e with h1|h1
    ·exact hY h1
    ·omega
   ·have:=h.rs.2 k e;omega
   ·exact ab e
   ·exact ac e
end
section
open Tryz
open Go.RowKit Go.Shelf
attribute [local go_sem] Oper.semAt_some
theorem Zlt(w:World)(M:Nat)(hM:M<=1000)(n0 pb:Nat)(z:Nat)(aN:z<65536)(g off p y:Nat)(s:By)(au:Gp w (some ⟨g,off,none⟩) p y s)(aQ:p<=y)(hl:p<60000)(P X:List Nat->Nat->Nat)(Q:List Nat->(Nat->Prop)->World->Prop)(G O0:Nat->Prop)(H:List Nat->By)(aR:n0<=w.heap.size)(L:Me M n0 pb 3 z s 63 P X Q)(aJ:H []=⟨#[]⟩)(aI:∀q x,H (q++[x])=H q++DI (P q x) (X q x))(aK:∀q,(H q).size=10*q.length)(av:Q [] O0 w)(aH:∀j,O0 j->G j)(ak:∀j,G j->j<w.heap.size)(aP:¬G g)(aO:g<w.heap.size)(N:Nat)(hN:N=(p+63-1)/63)(aU:N<=M):
  Cl 237 #[.pointer (some ⟨pb,0,none⟩),.int .u8 3,.int .i64 (z:Nat),.slice (some ⟨g,off,none⟩) p y] w (SQ w (w.heap.size+7) Q G H N):=by
 obtain⟨W1,e1,x1,k1,s1,b1⟩:=De w [.pointer (some ⟨pb,0,none⟩)] 168;obtain⟨W2,e2,x2,k2,s2,b2⟩:=De W1 [.int .u8 3] 300;obtain⟨W3,e3,x3,k3,s3,b3⟩:=De W2 [.int .i64 (z:Nat)] 3;obtain⟨W4,e4,x4,k4,s4,b4⟩:=De W3 [.slice none 0 0] 59;obtain⟨W5,e5,x5,k5,s5,b5⟩:=De W4 [.int .i64 0] 3;obtain⟨W6,e6,x6,k6,s6,b6⟩:=De W5 [.slice (some ⟨g,off,none⟩) p y] 59;obtain⟨R,e7,x7,Z,s7,b7⟩:=De W6 [.int .i64 63] 3;have J:Bw w R:=b1.trans ((b2.mono (by omega)).trans ((b3.mono (by omega)).trans ((b4.mono (by omega)).trans ((b5.mono (by omega)).trans ((b6.mono (by omega)).trans (b7.mono (by omega)))))));have y1:=Z _ _ _ (k6 _ _ _ (k5 _ _ _ (k4 _ _ _ (k3 _ _ _ (k2 _ _ _ x1)))));have y2:=Z _ _ _ (k6 _ _ _ (k5 _ _ _ (k4 _ _ _ (k3 _ _ _ x2))));have y3:=Z _ _ _ (k6 _ _ _ (k5 _ _ _ (k4 _ _ _ x3)));have y4:=Z _ _ _ (k6 _ _ _ (k5 _ _ _ x4));have y5:=Z _ _ _ (k6 _ _ _ x5);have y6:=Z _ _ _ x6;have t2:W2.heap.size=w.heap.size+1+1:=by omega
 have t3:W3.heap.size=w.heap.size+1+1+1:=by omega
 have t4:W4.heap.size=w.heap.size+1+1+1+1:=by omega
 have t5:W5.heap.size=w.heap.size+1+1+1+1+1:=by omega
 have t6:W6.heap.size=w.heap.size+1+1+1+1+1+1:=by omega
 have I:R.heap.size=w.heap.size+7:=by omega
 rw[s1]at y2;rw[t2]at y3;rw[t3]at y4;rw[t4]at y5;rw[t5]at y6;rw[t6]at x7;have hB:IJ w (w.heap.size+7) w.heap.size (w.heap.size+1) (w.heap.size+1+1) (w.heap.size+1+1+1) (w.heap.size+1+1+1+1) g p G:=⟨rfl,rfl,rfl,rfl,rfl,by omega,ak,aP,aO⟩;have aq:Lw w (w.heap.size+7) w.heap.size (w.heap.size+1) (w.heap.size+1+1) (w.heap.size+1+1+1) (w.heap.size+1+1+1+1) pb 3 z g off p y s Q G H [] R:=⟨.slice none 0 0,O0,L.abides _ _ _ _ none av ⟨J.os,J.tape,J.output,J.size,λk hk _=>J.block k hk⟩ (λr e=>by cases e),λj hj => .inl (aH j hj),y1,y2,y3,y4,y5,by rw[aJ];exact F9.nil _ _,λj _ e=>by simp[Own,Value.ownBlock]at e,au.below J,Fr.of_below J,by omega⟩;have aF:=Db aq;have al:=Db I;have ad:=Db hB;have ay:=Db e1;have az:=Db e2;have aA:=Db e3;have aB:=Db e4;have aC:=Db e5;have aD:=Db e6;have aE:=Db e7;have am:R.cell? ⟨(w.heap.size+1+1+1+1+1),0,none⟩=some (.slice (some ⟨g,off,none⟩) p y):=(y6.cell 0).trans rfl;have an:R.cell? ⟨(w.heap.size+1+1+1+1+1+1),0,none⟩=some (.int .i64 63):=(x7.cell 0).trans rfl;have aw:=Db am;have ax:=Db an;clear x1 x2 x3 x4 x5 x6 x7 k1 k2 k3 k4 k5 k6 Z s1 s2 s3 s4 s5 s6 s7 b1 b2 b3 b4 b5 b6 b7 y1 y2 y3 y4 y5 y6 t2 t3 t4 t5 t6 I e1 e2 e3 e4 e5 e6 e7 J aq am an av au hB;refine(A2 (n:=3)).1 ?_;refine Br func237 rfl trivial ?_ rfl;simp only[ntmps237,AM,Al,AK,Nat.reduceAdd,Nat.reduceSub,AQ,AP,AZ,AT,AD,AN]
 gi_wp2_with (refine⟨trivial,?_⟩;gi_at_call 172;refine(Uk _ 63 (by omega) (by omega) _ _ ⟨_,_,_,rfl⟩).mono ?_;rintro e w'⟨rfl,rfl⟩)
 rw[show w.alloc (.cells #[.pointer (some ⟨pb,0,none⟩)] 168)=W1 from Da ay,show W1.alloc (.cells #[.int .u8 3] 300)=W2 from Da az,show W2.alloc (.cells #[.int .i64 (z:Nat)] 3)=W3 from Da aA,show W3.alloc (.cells #[.slice none 0 0] 59)=W4 from Da aB,show W4.alloc (.cells #[.int .i64 0] 3)=W5 from Da aC,show W5.alloc (.cells #[.slice (some ⟨g,off,none⟩) p y] 59)=W6 from Da aD,show W6.alloc (.cells #[.int .i64 63] 3)=R from Da aE];rename_i K0 aG;have I:=Da al;have aV:N<=1000:=by rw[hN];omega
 refine CO (α:=Nat) rfl (by omega) (gf:=220) (lb:=#[.pointer (some ⟨(w.heap.size+1+1+1+1+1),0,none⟩),.pointer (some ⟨(w.heap.size+1+1+1+1+1+1),0,none⟩)]) rfl trivial (EB func220 (by kernel_rfl) rfl)
  (Ol 2 (by omega) (w.heap.size+1+1+1+1+1) (w.heap.size+1+1+1+1+1+1) g off 63 p y (by omega) (by omega) aQ (by omega) N hN R (by omega) (by omega) (Da aw) (Da ax) (Q1 (w.heap.size+7) (w.heap.size+1+1+1) (w.heap.size+1+1+1+1) G)
   (λA B ap h1 h2=>⟨(Ay (w:=A) (a:=⟨(w.heap.size+1+1+1+1+1),0,none⟩) (ap.2 (w.heap.size+1+1+1+1+1) (by omega) (λe=>by have:=ak _ e;omega) (by omega) (by omega))).trans h1,(Ay (w:=A) (a:=⟨(w.heap.size+1+1+1+1+1+1),0,none⟩) (ap.2 (w.heap.size+1+1+1+1+1+1) (by omega) (λe=>by have:=ak _ e;omega) (by omega) (by omega))).trans h2⟩))
  (λh1 h2=>⟨Af h1.1 h2.1,λk a b c d=>(h2.2 k a b c d).trans (h1.2 k a b c d)⟩)
  (λX l o o' hl ho _ _=>⟨by simp[World.putObj],λk hk _ _ _=>by
   have:=I;simp only[World.putObj];rw[A7];rw[if_neg (by omega)]⟩)
  (Ak _ _) (λ_=>rfl)
  (λq X=>Lw w (w.heap.size+7) w.heap.size (w.heap.size+1) (w.heap.size+1+1) (w.heap.size+1+1+1) (w.heap.size+1+1+1+1) pb 3 z g off p y s Q G H q X)
  (λ_ _ _=>False)
  (λq A B row hs hg hr=>by
   obtain⟨v,O,h⟩:=hs;exact⟨v,O,h.own L (Da ad) hg (λr e=>by rw[<-I];exact hr r e)⟩)
  (λ_ _ _ _ _ hs _ _=>hs)
  (Da aF)
  (λx=>{ tmps:=#[.pointer (some ⟨pb,0,none⟩),.int .u8 3,.int .i64 (z:Nat),.slice (some ⟨g,off,none⟩) p y,.pointer (some ⟨w.heap.size,0,none⟩),.pointer (some ⟨(w.heap.size+1),0,none⟩),.pointer (some ⟨(w.heap.size+1+1),0,none⟩),undef,.slice none 0 0,.int .i64 63,.pointer (some ⟨(w.heap.size+1+1+1),0,none⟩),.pointer (some ⟨(w.heap.size+1+1+1+1),0,none⟩),Io g off 63 p x,.int .u8 3,.bool false,undef,undef,.slice (some ⟨g,off,none⟩) p y,.int .i64 63,.func (.func 220) #[] #[.pointer (some ⟨(w.heap.size+1+1+1+1+1),0,none⟩),.pointer (some ⟨(w.heap.size+1+1+1+1+1+1),0,none⟩)],Io g off 63 p x,undef,undef,undef,undef,undef,undef,undef,undef,undef,undef,undef,undef,undef,undef],defers:=[] })
  ?assign ?body ?done ?stop
 case assign=>
  intro l x X K f;clear I
  gi_wp2
  exact f
 case body=>
  rintro l q x W⟨v,O,t⟩ aW;obtain⟨ra,rl,rc,rfl⟩:=t.rs.1.shape;obtain⟨h4,h7,h8,ao⟩:=VV w M hM n0 (w.heap.size+7) w.heap.size (w.heap.size+1) (w.heap.size+1+1) (w.heap.size+1+1+1) (w.heap.size+1+1+1+1) pb 3 z aN g off p y s 63 (by omega) P X Q G H (Da ad) aR L aI aK q x (by omega) W ra rl rc O t;have H4:=Db h4;have H7:=Db h7;have H8:=Db h8;have ac:=Db ao;have m:Hid (Qj w (w.heap.size+7) w.heap.size (w.heap.size+1) (w.heap.size+1+1) (w.heap.size+1+1+1) (w.heap.size+1+1+1+1) pb 3 z g off p y s Q G H q q (.slice ra rl rc) O O W W.drew):=⟨t.below L (Ak _ _).drew,⟨rfl,rfl,rfl,Aa _,λ_ _ _=>rfl⟩⟩;have aL:Jt w.heap.size (w.heap.size+1) (w.heap.size+1+1) (w.heap.size+1+1+1+1) pb 3 z q.length W.drew:=⟨t.b4.cell,t.b5.cell,t.b6.cell,t.b11.cell⟩;have Y:W.drew.cell? ⟨(w.heap.size+1+1+1),0,none⟩=some (.slice ra rl rc):=t.b10.cell;clear h4 h7 h8 ao t I
  gi_step
  gi_step
  gi_step
  refine Qw (Jt w.heap.size (w.heap.size+1) (w.heap.size+1+1) (w.heap.size+1+1+1+1) pb 3 z q.length) (by kernel_rfl) (λhh=>by obtain⟨_,_,hh⟩:=hh;exact hh) (by kernel_rfl) aL (λaT=>?_);refine tv 0 (?_) rfl (Or.inl ⟨by rfl,?_⟩) ?_
  rotate_left
  ·intro w F;(try unfold Jt at F);go_simp<;>with_reducible rfl
  try simp only[pE]
  refine tv 1 (?_) rfl (Or.inl ⟨by rfl,?_⟩) ?_
  rotate_left
  ·intro w F;(try unfold Jt at F);go_simp<;>with_reducible rfl
  try simp only[pE]
  refine tv 2 (?_) rfl (Or.inl ⟨by rfl,?_⟩) ?_
  rotate_left
  ·intro w F;(try unfold Jt at F);go_simp<;>with_reducible rfl
  try simp only[pE]
  refine tv 3 (?_) rfl (Or.inl ⟨by rfl,?_⟩) ?_
  rotate_left
  ·intro w F;(try unfold Jt at F);go_simp<;>with_reducible rfl
  try simp only[pE]
  refine tv 5 (?_) rfl (Or.inl ⟨by rfl,?_⟩) ?_
  rotate_left
  ·intro w F;(try unfold Jt at F);go_simp<;>with_reducible rfl
  try simp only[pE]
  refine tv 6 (?_) rfl (Or.inl ⟨by rfl,?_⟩) ?_
  rotate_left
  ·intro w F;(try unfold Jt at F);go_simp<;>with_reducible rfl
  try simp only[pE]
  refine Bo (rs:=[4,9]) (by kernel_rfl) (by simp) ?_;refine(AR (i:=4) rfl ?_ (AR (i:=9) rfl ?_ Bg))
  ·intro K f;go_simp;go_at_call 244;refine(Da H4 _).mono ?_;rintro e w'⟨rfl,hw⟩;rw[hw];clear hw;go_wp2_with fail;refine f.out _ _ (by assumption) (λaM=>?_);clear f K
   try simp only[pE]
   refine Bo (rs:=[7,9]) (by kernel_rfl) (by simp) ?_;refine(AR (i:=7) rfl ?_ (AR (i:=9) rfl ?_ Bg))
   ·intro K f;go_simp;go_at_call 213;refine(Da H7 _ (Da m)).mono ?_;clear m;rintro e V⟨rfl,ab,Y,m⟩;go_wp2_with fail;refine f.out _ _ ab (λar=>?_);clear f K
    try simp only[pE]
    refine Bo (rs:=[8,9]) (by kernel_rfl) (by simp) ?_;refine(AR (i:=8) rfl ?_ (AR (i:=9) rfl ?_ Bg))
    ·intro K f;go_simp;go_at_call 272;refine(Da H8 _ (Da m)).mono ?_;clear m;rintro e V8⟨rfl,U,Y,m⟩;go_wp2_with fail;refine f.out _ _ U (λaf=>?_);clear f K
     try simp only[pE]
     refine Bo (rs:=[9]) (by kernel_rfl) (by simp) ?_;refine(AR (i:=9) rfl ?_ Bg)
     ·intro K f;go_simp;refine f.out _ _ (by assumption) (λag=>?_);clear f K
      try simp only[pE]
      refine rk 10 (λK f=>?_);go_simp;go_at_call 214;refine(Da ac _ (Da m)).mono ?_;clear m;rintro e ae⟨a',l',c',rfl,C,E,ah,ai,aj,u⟩;go_wp2_with fail;refine f.out _ _ C (λS=>?_);clear f K
      try simp only[pE]
      refine rk 11 (λK f=>?_);go_simp;refine f.out _ _ E (λT=>?_);clear f K
      try simp only[pE]
      refine AO (by kernel_rfl) ?_ _;have cT:=E.2.2.2;clear C S T
      gi_wp2
      exact⟨(Da u).1,(Da u).2.1,(Da u).2.2⟩
    ·intro K f;go_simp;refine f.out _ _ (by assumption) (λag=>?_);clear f K
     try simp only[pE]
     refine Bo (rs:=[8]) (by kernel_rfl) (by simp) ?_;refine(AR (i:=8) rfl ?_ Bg)
     ·intro K f;go_simp;go_at_call 272;refine(Da H8 _ (Da m)).mono ?_;clear m;rintro e V8⟨rfl,U,Y,m⟩;go_wp2_with fail;refine f.out _ _ U (λaf=>?_);clear f K
      try simp only[pE]
      refine rk 10 (λK f=>?_);go_simp;go_at_call 214;refine(Da ac _ (Da m)).mono ?_;clear m;rintro e ae⟨a',l',c',rfl,C,E,ah,ai,aj,u⟩;go_wp2_with fail;refine f.out _ _ C (λS=>?_);clear f K
      try simp only[pE]
      refine rk 11 (λK f=>?_);go_simp;refine f.out _ _ E (λT=>?_);clear f K
      try simp only[pE]
      refine AO (by kernel_rfl) ?_ _;have cT:=E.2.2.2;clear C S T
      gi_wp2
      exact⟨(Da u).1,(Da u).2.1,(Da u).2.2⟩
   ·intro K f;go_simp;refine f.out _ _ (by assumption) (λag=>?_);clear f K
    try simp only[pE]
    refine Bo (rs:=[7]) (by kernel_rfl) (by simp) ?_;refine(AR (i:=7) rfl ?_ Bg)
    ·intro K f;go_simp;go_at_call 213;refine(Da H7 _ (Da m)).mono ?_;clear m;rintro e V⟨rfl,ab,Y,m⟩;go_wp2_with fail;refine f.out _ _ ab (λar=>?_);clear f K
     try simp only[pE]
     refine Bo (rs:=[8]) (by kernel_rfl) (by simp) ?_;refine(AR (i:=8) rfl ?_ Bg)
     ·intro K f;go_simp;go_at_call 272;refine(Da H8 _ (Da m)).mono ?_;clear m;rintro e V8⟨rfl,U,Y,m⟩;go_wp2_with fail;refine f.out _ _ U (λaf=>?_);clear f K
      try simp only[pE]
      refine rk 10 (λK f=>?_);go_simp;go_at_call 214;refine(Da ac _ (Da m)).mono ?_;clear m;rintro e ae⟨a',l',c',rfl,C,E,ah,ai,aj,u⟩;go_wp2_with fail;refine f.out _ _ C (λS=>?_);clear f K
      try simp only[pE]
      refine rk 11 (λK f=>?_);go_simp;refine f.out _ _ E (λT=>?_);clear f K
      try simp only[pE]
      refine AO (by kernel_rfl) ?_ _;have cT:=E.2.2.2;clear C S T
      gi_wp2
      exact⟨(Da u).1,(Da u).2.1,(Da u).2.2⟩
  ·intro K f;go_simp;refine f.out _ _ (by assumption) (λag=>?_);clear f K
   try simp only[pE]
   refine Bo (rs:=[4]) (by kernel_rfl) (by simp) ?_;refine(AR (i:=4) rfl ?_ Bg)
   ·intro K f;go_simp;go_at_call 244;refine(Da H4 _).mono ?_;rintro e w'⟨rfl,hw⟩;rw[hw];clear hw;go_wp2_with fail;refine f.out _ _ (by assumption) (λaM=>?_);clear f K
    try simp only[pE]
    refine Bo (rs:=[7]) (by kernel_rfl) (by simp) ?_;refine(AR (i:=7) rfl ?_ Bg)
    ·intro K f;go_simp;go_at_call 213;refine(Da H7 _ (Da m)).mono ?_;clear m;rintro e V⟨rfl,ab,Y,m⟩;go_wp2_with fail;refine f.out _ _ ab (λar=>?_);clear f K
     try simp only[pE]
     refine Bo (rs:=[8]) (by kernel_rfl) (by simp) ?_;refine(AR (i:=8) rfl ?_ Bg)
     ·intro K f;go_simp;go_at_call 272;refine(Da H8 _ (Da m)).mono ?_;clear m;rintro e V8⟨rfl,U,Y,m⟩;go_wp2_with fail;refine f.out _ _ U (λaf=>?_);clear f K
      try simp only[pE]
      refine rk 10 (λK f=>?_);go_simp;go_at_call 214;refine(Da ac _ (Da m)).mono ?_;clear m;rintro e ae⟨a',l',c',rfl,C,E,ah,ai,aj,u⟩;go_wp2_with fail;refine f.out _ _ C (λS=>?_);clear f K
      try simp only[pE]
      refine rk 11 (λK f=>?_);go_simp;refine f.out _ _ E (λT=>?_);clear f K
      try simp only[pE]
      refine AO (by kernel_rfl) ?_ _;have cT:=E.2.2.2;clear C S T
      gi_wp2
      exact⟨(Da u).1,(Da u).2.1,(Da u).2.2⟩
 case done=>
  rintro D ys X hD rfl⟨v,O,t⟩ f;have aS:=t.b10.cell;obtain⟨ra,rl,rc,rfl⟩:=t.rs.1.shape;have HR:=Db t;clear t I;show K0 _ _;refine aG _ _ ?_
  gi_wp2
  have t:=Da HR;have I:=Da al;refine⟨by simp,.inl ⟨_,_,rfl,BP f,?_⟩⟩;have hg:X.grownBy (X.putObj D (.deferred none)) (some D):=⟨rfl,rfl,rfl,by simp[World.putObj],λk _ hk=>by
   simp only[World.putObj];rw[A7,if_neg (λe=>hk (by rw[e]))]⟩
  have aa:=t.own L (Da ad) hg (λr e=>by cases e;exact⟨by omega,_,f,rfl⟩);exact⟨_,Eu rfl _ _ _,ra,rl,rc,O,rfl,aa.rs,aa.st,aa.hO,aa.dis,aa.fr⟩
 case stop=>
  rintro D c q X _ _ h _;exact h.elim
end
section
open Tryz
open Go.RowKit Go.Shelf
attribute [local go_sem] Oper.semAt_some
theorem YT:(prog.info? 245).map (λi=>(i.zero,i.size))=some (some (.agg (List.replicate 60 (.bool false)).toArray),60):=by kernel_rfl
theorem Zw:∀w,(zeroValue 245).run prog w=.ok (.agg (List.replicate 60 (.bool false)).toArray) w:=(Et YT).1
theorem SS(n:Nat)(a:OA)(w:World):
  CallsIn Fence.wide n prog 115 #[.pointer a] w λe w'=>e=.returned (.func (.func 169) #[] #[.pointer (some ⟨w.heap.size,0,none⟩)])/\w'=w.alloc (.cells #[.pointer a] 37):=by
 refine A2.2 ?_;go_enter func115,ntmps115;go_wp2;go_ret;exact⟨rfl,rfl⟩
end
section
open Go.RowKit Go.Shelf
attribute [local go_sem] Oper.semAt_some
def OP:By:=⟨#[0]⟩
def DC:By:=Dx 3 OP 63 0
theorem Sl.cellsKept{W b:World}{e:TypeId}{c:Nat}{v:Value}{n:Nat}{xs:F0}(h:Sl W e c v n xs)(l:∀(j:Nat) (cs:Array Value) (t:TypeId),W.heap[j]?=some (Obj.cells cs t (0,0))->b.heap[j]?=some (Obj.cells cs t (0,0))):Sl b e c v n xs:=by
 rcases h.2 with⟨a,i⟩|⟨g,f,d,a,k,q⟩
 ·exact⟨h.1,.inl ⟨a,i⟩⟩
 ·exact⟨h.1,.inr ⟨g,f,d,a,l _ _ _ k,q⟩⟩
theorem Sl.isCells{W:World}{e:TypeId}{d:Nat}{v:Value}{n:Nat}{xs:F0}(h:Sl W e d v n xs){k:Nat}(a:Own v k):∃cs t,W.heap[k]?=some (Obj.cells cs t (0,0)):=by
 rcases h.2 with⟨b,h0⟩|⟨g',c',L',b,c,q⟩
 ·rw[b]at a;simp[Own,Value.ownBlock]at a
 ·rw[b]at a;simp[Own,Value.ownBlock]at a;subst a;exact⟨_,_,c⟩
theorem F4.cellsKept{w w':World}{pb b e so:Nat}{d:Nat->Int}{cl:Bool}{c:Nat}{i:Value}{es:LI}{f g:Int}{k:Value}{ps:LB}(h:F4 w pb b e so d cl c i es f g k ps)(a:∀(j:Nat) (cs:Array Value) (t:TypeId),w.heap[j]?=some (Obj.cells cs t (0,0))->w'.heap[j]?=some (Obj.cells cs t (0,0))):F4 w' pb b e so d cl c i es f g k ps:=
 ⟨a _ _ _ h.row,h.sa.cellsKept a,Sl.cellsKept h.sp a,h.oa,h.op,h.ap⟩
theorem F4.fr{w w':World}{pb f j so:Nat}{i:Nat->Int}{cl:Bool}{g:Nat}{d:Value}{es:LI}{l m:Int}{e:Value}{ps:LB}(h:F4 w pb f j so i cl g d es l m e ps){Z:Nat->Prop}(b:Fr Z w w')(a:∀k,(k=pb\/Own d k\/Own e k)->¬Z k):F4 w' pb f j so i cl g d es l m e ps:=
 ⟨h.row.fr b (a _ (.inl rfl)),h.sa.fr b (λ_g c=>a _ (.inr (.inl c))),Sl.fr h.sp b (λ_g c=>a _ (.inr (.inr c))),h.oa,h.op,h.ap⟩
theorem F4.isCells{w:World}{pb d g so:Nat}{f:Nat->Int}{cl:Bool}{e:Nat}{b:Value}{es:LI}{i j:Int}{c:Value}{ps:LB}(h:F4 w pb d g so f cl e b es i j c ps)(k:Nat)(a:k=pb\/Own b k\/Own c k):∃cs t,w.heap[k]?=some (Obj.cells cs t (0,0)):=by
 rcases a with rfl|a|a
 ·exact⟨_,_,h.row⟩
 ·exact h.sa.isCells a
 ·exact Sl.isCells h.sp a
theorem ZkQ{W:World}{a:Addr}{v:Value}(h:W.cell? a=some v):∃cs t z,W.heap[a.block]?=some (Obj.cells cs t z):=by
 unfold World.cell? at h
 cases hb:W.heap[a.block]? with
 |none=>rw[hb]at h;cases h
 |some o=>cases o with
  |cells cs t z=>exact⟨cs,t,z,rfl⟩
  |_=>rw[hb]at h;cases h
end
section
open Go.RowKit Go.Shelf
attribute [local go_sem] Oper.semAt_some
def NM(Q:Exit->Act->World->Prop):Exit->Act->World->Prop
 |.normal,a,w=>Q .normal a w
 |_,_,_=>False
theorem Qo{Q:Exit->Act->World->Prop}:∀e a w,NM Q e a w->Q e a w:=λe a w h=>by cases e<;>first|exact h|exact h.elim
theorem K8{Q:Exit->Act->World->Prop}{a:Act}{w:World}(h:Q .normal a w):NM Q .normal a w:=h
theorem F4.top{w:World}{pb a d so:Nat}{c:Nat->Int}{cl:Bool}{b:Nat}{e:Value}{es:LI}{l k:Int}{f:Value}{ps:LB}(h:F4 w pb a d so c cl b e es l k f ps)(tp' tx':Int):F4 ((w.setCell ⟨pb,101,none⟩ (.int .i64 tp')).setCell ⟨pb,102,none⟩ (.int .u64 tx')) pb a d so c cl b e es tp' tx' f ps:=by
 refine⟨?_,(h.sa.setCell ⟨pb,101,none⟩ _ h.oa).setCell ⟨pb,102,none⟩ _ h.oa,Sl.setCell (Sl.setCell h.sp ⟨pb,101,none⟩ _ h.op) ⟨pb,102,none⟩ _ h.op,h.oa,h.op,h.ap⟩;have g:=h.row.set 101 (.int .i64 tp');rw[Ux (j:=3)]at g;have i:=FX.set (show FX _ pb 184 (Kc a d so c cl b e tp' k f) from g) 102 (.int .u64 tx');rw[Ux (j:=4)]at i;exact i
theorem UZ(p x:Nat)(a:p<65536):GA (DI p x)=p:=by
 have:(Di (DI p x) 2).data.toList=DD p 2:=by
  unfold Di;rw[if_pos (by rw[Qf];omega),Cb];simp only[DI];simp[Jd]
 unfold GA;rw[this,KO 2 p a]
theorem PP(p x:Nat)(b:x<18446744073709551616):GE (DI p x)=x:=by
 have:(Di ((DI p x).extract 2 (DI p x).size) 8).data.toList=DD x 8:=by
  unfold Di;rw[if_pos (by rw[Ah,Qf];omega),Cb,Cb,Qf];simp only[DI];have a:(DD p 2++DD x 8).drop 2=DD x 8:=Er (Jd 2 p);simp[a];rw[Ag (by rw[An,Jd];omega),Ag (by rw[Jd];omega)]
 unfold GE;rw[this,KO 8 x (by exact b)]
end
open Tryz
open Go.RowKit
theorem Ut{b:Nat->Option (Nat×Nat)}{a:F0}{i off size:Nat}{v:Value}{d:List (Nat×Value)}(f:b i=some (off,size))(c:v.cells.size=size)(e:off+size<=a.length):
  Instr.fill b a.toArray ((i,v)::d)=Instr.fill b (F2 a off v.cells.toList).toArray d:=by
 rw[Instr.fill,f];simp only;rw[if_neg (by simp only[c,AM,ne_eq,not_true_eq_false,decide_false,Bool.false_or,AH];omega),Ve off v.cells a.toArray (by rw[c];simpa using e)]
def JK(a b:Value)(m t:F0):F0:=[a,b]++m++t
theorem Uw(a b:Value)(m t:F0)(c:m.length=96)(d:t.length=6):(JK a b m t).length=104:=by simp[JK,c,d]
theorem Yq(a b x:Value)(m t:F0):F2 (JK a b m t) 0 [x]=JK x b m t:=by simp[F2,JK]
theorem Yr(a b x:Value)(m t:F0):F2 (JK a b m t) 1 [x]=JK a x m t:=by simp[F2,JK]
theorem Ys(a b:Value)(m c t:F0)(h:c.length=m.length):F2 (JK a b m t) 2 c=JK a b c t:=by
 have d:(JK a b m t).take 2=[a,b]:=by simp[JK]
 have e:(JK a b m t).drop (2+c.length)=t:=by rw[h];unfold JK;exact Er (by simp;omega)
 unfold F2;rw[d,e];rfl
theorem Tn(a b x:Value)(m t:F0)(d:m.length=96)(j:Nat):F2 (JK a b m t) (98+j) [x]=JK a b m (F2 t j [x]):=by
 unfold F2 JK;have c:([a,b]++m).length=98:=by simp[d]
 rw[show 98+j=([a,b]++m).length+j by rw[c],CJ,EP,CK];simp[List.append_assoc]
def M1:F0:=[.bool false,.int .i64 0,.slice none 0 0,.int .i64 0,.int .u64 0,.slice none 0 0]
theorem Zhf(a:List (Nat×Value)):prog.built 184 a=Instr.fill (#[(0,1),(1,1),(2,96),(98,1),(99,1),(100,3),(103,1)][·]?) (JK (.pointer none) (.pointer none) (List.replicate 96 (.int .i64 0)) M1).toArray a:=by kernel_rfl
theorem Zo(b e so:Nat)(a:Nat->Int)(cl:Bool)(c:Nat):prog.built 184 [(0,.pointer (some ⟨b,0,none⟩)),(1,.pointer (some ⟨e,so,none⟩)),(2,.agg (GI a).toArray),(3,.bool cl),(4,.int .i64 (c:Nat))]=some (Kc b e so a cl c (.slice none 0 0) 0 0 (.slice none 0 0)).toArray:=by
 have d:(List.replicate 96 (Value.int .i64 0)).length=96:=Bj;rw[Zhf,Ut (off:=0) (size:=1) rfl rfl (by rw[Uw _ _ _ _ d rfl];decide)];rw[show(Value.pointer (some ⟨b,0,none⟩)).cells.toList=[.pointer (some ⟨b,0,none⟩)] from rfl,Yq];rw[Ut (off:=1) (size:=1) rfl rfl (by rw[Uw _ _ _ _ d rfl];decide)];rw[show(Value.pointer (some ⟨e,so,none⟩)).cells.toList=[.pointer (some ⟨e,so,none⟩)] from rfl,Yr];rw[Ut (off:=2) (size:=96) rfl (by show(GI a).toArray.size=96;simp[Jq]) (by rw[Uw _ _ _ _ d rfl];decide)];rw[show(Value.agg (GI a).toArray).cells.toList=GI a from rfl,Ys _ _ _ _ _ (by rw[Jq,d])];rw[Ut (off:=98) (size:=1) rfl rfl (by rw[Uw _ _ _ _ (Jq a) rfl];decide)];rw[show(Value.bool cl).cells.toList=[.bool cl] from rfl,Tn _ _ _ _ _ (Jq a) 0];rw[Ut (off:=99) (size:=1) rfl rfl (by rw[Uw _ _ _ _ (Jq a) rfl];decide)];rw[show(Value.int .i64 (c:Nat)).cells.toList=[.int .i64 (c:Nat)] from rfl,Tn _ _ _ _ _ (Jq a) 1]
 rfl
theorem Ow{P:Program}{o:Oper}{a:Act}(X:World)(t:TypeId)(c:Array (Nat×Operand))(ho:o.op=.build t c){vs:Array (Nat×Value)}(e:(c.map λ(i,x)=>(i,a.eval x))=vs){b:Array Value}(d:P.built t vs.toList=some b):(execOp a.eval o).run P X=.ok (.value (.agg b)) X:=by
 unfold execOp;simp only[ho,Cn,e];rw[run_build X t vs b d]
 rfl
theorem ZT{P:Program}{c:Array Oper}{o:Oper}{a:Act}{w:World}{K:Act->World->Prop}{Q:Exit->Act->World->Prop}{E:Prop}(d:o.guard=none)(t:TypeId)(x:Operand)(ho:o.op=.box t x)(b:F0)(f:a.eval x=.agg b.toArray)(h:K (a.put o.dst (.pointer (some ⟨w.heap.size,0,none⟩))) (w.alloc (.cells b.toArray t))):if Region.wanted o (yielded c a.tmps)=true then Oper.wp P o a w K Q else E:=by
 have e:Region.wanted o (yielded c a.tmps)=true:=by simp[Region.wanted,d]
 rw[if_pos e];unfold Oper.wp execOp;simp only[ho,Instr.box,Cn,f];simp[newVar,newRow,go_sem,Value.cells];exact h
theorem Mk:DP (Dh []) 96 16%1536=16:=by
 have h:¬(16%16=0/\0<Dh [] (16/16%96)):=by rw[Ra];decide
 rw[OC h]
theorem Ma:DY (Dh [(((Dd 3 0 0:Nat):Int),((16:Nat):Int))]) 96=1504:=by
 have e:∀k,DY (Dh [(((Dd 3 0 0:Nat):Int),((16:Nat):Int))]) k=DY (λj=>if j=0 then 2 else if j=1 then 1 else 0) k:=λk=>by
  induction k with
  |zero=>rfl
  |succ k ih=>
   unfold DY;rw[ih]
   congr 1
   have c:Dh [(((Dd 3 0 0:Nat):Int),((16:Nat):Int))] k=if k=0 then 2 else if k=1 then 1 else 0:=by
    have:=Rm [] (((Dd 3 0 0:Nat):Int),((16:Nat):Int)) k;rw[AD,Ra]at this;rw[this];by_cases a:k=0
    ·subst a;decide
    ·by_cases b:k=1
     ·subst b;decide
     ·have d:¬((16:Nat):Int).toNat/16=k:=by rw[Bp];omega
      rw[if_neg a,if_neg d,if_neg a,if_neg b];rfl
   rw[c]
 rw[e 96]
 decide
structure GW(w:World)(stb db:Nat)(vk:Value)(tp tx tn:Int)(vf vn vw ve:Value)(D:LY)(ps:LB)(es:List Int):Prop where
 row:FX w stb 179 [.pointer (some ⟨db,0,none⟩),vk,.int .i64 tp,.int .u64 tx,.int .u64 tn]
 disk:DU w db vf vn vw ve D
 sw:Hw w vw ps
 se:Sl w 3 1 ve es.length (es.map (.int .i64))
 ne:stb≠db
 ns:¬Own vn stb/\¬Own vw stb/\¬Own ve stb
 nd:¬Own vn db/\¬Own vw db/\¬Own ve db
 d1:∀k,Own vn k->¬Own vw k
 d2:∀k,Own vn k->¬Own ve k
 d3:∀k,Own vw k->¬Own ve k
theorem GW.below{w w':World}{d c:Nat}{l:Value}{f g e:Int}{j m vw i:Value}{D:LY}{ps:LB}{es:List Int}(h:GW w d c l f g e j m vw i D ps es)(a:Bw w w'):GW w' d c l f g e j m vw i D ps es:=
 ⟨(a.block _ h.row.lt).trans h.row,⟨(a.block _ h.disk.1.lt).trans h.disk.1,⟨h.disk.2.1.1.kept (λk b _=>a.block k b),h.disk.2.1.2⟩,h.disk.2.2⟩,Sl.kept h.sw (λk b _=>a.block k b),h.se.kept (λk b _=>a.block k b),h.ne,h.ns,h.nd,h.d1,h.d2,h.d3⟩
theorem GW.write{w w':World}{o c:Nat}{u:Value}{r t q:Int}{m f vw l:Value}{D:LY}{ps:LB}{es:List Int}(h:GW w o c u r t q m f vw l D ps es){p:Nat}{s:By}{e:Ending}(A:Oj w c m f vw l D ps p s e w'):
  ∃b,GW w' o c u r t q m f b l (D.set p s) (ps++[(p,s)]) es/\Dk w vw b/\Fr (λk=>k=c\/Own f k\/Own vw k) w w':=by
 obtain⟨_,b,v,x,i,n⟩:=A;have d:∀k,k<w.heap.size->Own b k->Own vw k:=λk a e=>(n k e).elim id (λh'=>by omega)
 have z:=h.row.lt;have y:=h.disk.1.lt;refine⟨b,⟨h.row.fr i (λe=>?_),v,x,h.se.fr i (λg j e=>?_),h.ne,⟨h.ns.1,λe=>h.ns.2.1 (d _ z e),h.ns.2.2⟩,⟨h.nd.1,λe=>h.nd.2.1 (d _ y e),h.nd.2.2⟩,λk a e=>h.d1 k a (d k (h.disk.2.1.1.lt a) e),h.d2,λk a e=>h.d3 k (d k (h.se.lt e) a) e⟩,n,i⟩
 ·rcases e with e|e|e
  ·exact h.ne e
  ·exact h.ns.1 e
  ·exact h.ns.2.1 e
 ·rcases e with e|e|e
  ·subst e;exact h.nd.2.2 j
  ·exact h.d2 _ e j
  ·exact h.d3 _ e j
theorem GW.flush{w w':World}{p f:Nat}{t:Value}{r s q:Int}{l n vw c:Value}{D:LY}{ps:LB}{es:List Int}(h:GW w p f t r s q l n vw c D ps es){m:Int}{e:Ending}(z:Rq w f l n vw c es m e w'):
  ∃d,GW w' p f t r s q l n vw d D ps (es++[m])/\Dk w c d/\Fr (λk=>k=f\/Own c k) w w':=by
 obtain⟨_,d,u,v,i,o⟩:=z;have j:∀k,k<w.heap.size->Own d k->Own c k:=λk a e=>(o k e).elim id (λh'=>by omega)
 have y:=h.row.lt;have x:=h.disk.1.lt;refine⟨d,⟨h.row.fr i (λe=>?_),⟨u,⟨h.disk.2.1.1.fr i (λg b e=>?_),h.disk.2.1.2⟩,h.disk.2.2⟩,Sl.fr h.sw i (λg b e=>?_),by rw[Ab];exact v,h.ne,⟨h.ns.1,h.ns.2.1,λe=>h.ns.2.2 (j _ y e)⟩,⟨h.nd.1,h.nd.2.1,λe=>h.nd.2.2 (j _ x e)⟩,h.d1,λk a e=>h.d2 k a (j k (h.disk.2.1.1.lt a) e),λk a e=>h.d3 k a (j k (Sl.lt h.sw a) e)⟩,o,i⟩
 ·rcases e with e|e
  ·exact h.ne e
  ·exact h.ns.2.2 e
 ·rcases e with e|e
  ·subst e;exact h.nd.1 b
  ·exact h.d2 _ b e
 ·rcases e with e|e
  ·subst e;exact h.nd.2.1 b
  ·exact h.d3 _ b e
theorem Sl.len{w:World}{e:TypeId}{b:Nat}{a:OA}{l c n:Nat}{xs:F0}(h:Sl w e b (.slice a l c) n xs):l=n:=by
 rcases h.2 with⟨e,rfl⟩|⟨g,aa,L,e,_⟩
 ·simp only[Bu]at e;exact e.2.1
 ·simp only[Bu]at e;exact e.2.1
theorem Vl:∀{ps:LB},(∀x∈ps,x.2.size=64)->∀(i j:Nat) (x:Nat×By),ps[i]?=some x->j<65->(K6 ps)[i*65+j]?=(F8 x.1 x.2)[j]?
 |[],_,i,j,s,hi,_=>by simp at hi
 |x::D,h,0,j,s,hi,hj=>by
  simp at hi;subst hi;have a:=h x Ba;unfold K6;rw[A1,FQ,Av,AW (by rw[J2];omega)]
 |x::D,h,i+1,j,s,hi,hj=>by
  have a:=h x Ba;have:=Vl (ps:=D) (λy b=>h y (AF _ b)) i j s (by simpa using hi) hj;unfold K6 at this ⊢;rw[A1,AS (by rw[J2];omega),J2,<-this]
  congr 1;omega
theorem Hw.range{w:World}{a:OA}{l c:Nat}{ps:LB}(h:Hw w (.slice a l c) ps)(d:∀x∈ps,x.2.size=64)(i:Nat)(x:Nat×By)(b:ps[i]?=some x):∃g,a=some ⟨g,0,none⟩/\l=ps.length/\w.rangeAt g (i*65) (F8 x.1 x.2):=by
 have ab:=(Ae.1 b).1;rcases h.2 with⟨e,h0⟩|⟨g,aa,L,e,m,h1,h2,h3,k⟩
 ·omega
 ·simp only[Bu]at e;obtain⟨rfl,rfl,rfl⟩:=e;refine⟨g,rfl,rfl,λj v f=>?_⟩;have ac:=d x (Ar b);have n:j<65:=by have:=(Ae.1 f).1;rw[J2]at this;omega
  have:=Vl d i j x b n;rw[f,<-k,Ao]at this
  split at this
  ·rw[m.cell];exact this
  ·cases this
def Jw(D:LY)(qs:LB):LY:=qs.foldl (λD x=>D.set x.1 x.2) D
theorem Zkd(D:LY)(a:LB)(p:Nat)(s:By):Jw D (a++[(p,s)])=(Jw D a).set p s:=by simp[Jw]
theorem GW.head{w w':World}{c d:Nat}{p:Value}{n o m:Int}{i j vw f:Value}{D:LY}{ps:LB}{es:List Int}(h:GW w c d p n o m i j vw f D ps es)(b:Fr (λk=>k=c) w w'){vk':Value}{tp' tx' tn':Int}(l:FX w' c 179 [.pointer (some ⟨d,0,none⟩),vk',.int .i64 tp',.int .u64 tx',.int .u64 tn']):GW w' c d vk' tp' tx' tn' i j vw f D ps es:=
 ⟨l,⟨h.disk.1.fr b (λe=>h.ne e.symm),⟨h.disk.2.1.1.fr b (λg a e=>h.ns.1 (by rw[<-e];exact a)),h.disk.2.1.2⟩,h.disk.2.2⟩,Sl.fr h.sw b (λg a e=>h.ns.2.1 (by rw[<-e];exact a)),h.se.fr b (λg a e=>h.ns.2.2 (by rw[<-e];exact a)),h.ne,h.ns,h.nd,h.d1,h.d2,h.d3⟩
def Ih(w:World)(stb db:Nat)(vk:Value)(tp tx tn:Int)(vf vn vw ve:Value)(D:LY)(ps:LB)(es:List Int)(qs:LB)(wr:World):Prop:=
 ∃vw',GW wr stb db vk tp tx tn vf vn vw' ve (Jw D qs) (ps++qs) es/\Dk w vw vw'/\Fr (λk=>k=db\/Own vn k\/Own vw k) w wr
theorem Ih.start{w:World}{b a:Nat}{j:Value}{d e c:Int}{i k vw f:Value}{D:LY}{ps:LB}{es:List Int}(h:GW w b a j d e c i k vw f D ps es):Ih w b a j d e c i k vw f D ps es [] w:=
 ⟨vw,by rw[Cf];exact h,λg l => .inl l,Fr.refl _ _⟩
theorem GW.write_call{w:World}{i a:Nat}{m:Value}{k l j:Int}{c d vw b:Value}{D:LY}{ps:LB}{es:List Int}(h:GW w i a m k l j c d vw b D ps es)(e:ps.length<=1000000000)(p:Nat)(f:p<1536)(s:By)(g:s.size=64):Cl 159 #[.pointer (some ⟨a,0,none⟩),Ic p s] w (Oj w a c d vw b D ps p s):=
 Zfd w a c d vw b D ps h.disk h.sw h.nd.1 h.nd.2.1 h.d1 e p f s g
theorem Ih.step{w wr X:World}{o b:Nat}{x:Value}{r t q:Int}{v f vw u:Value}{D:LY}{ps:LB}{es:List Int}{i:LB}(h:Ih w o b x r t q v f vw u D ps es i wr)(d:Bw wr X)(hl:ps.length+i.length<=1000000000)(p:Nat)(B:p<1536)(s:By)(C:s.size=64):
  Cl 159 #[.pointer (some ⟨b,0,none⟩),Ic p s] X λe w'=>e=.returned (.tuple #[])/\Ih w o b x r t q v f vw u D ps es (i++[(p,s)]) w'/\∀k,wr.heap.size<=k->k<X.heap.size->w'.heap[k]?=X.heap[k]? := by
 obtain⟨G,c,j,l⟩:=h;have A:∀k,k=b\/Own f k\/Own G k->k<wr.heap.size:=λk a=>by
  rcases a with rfl|a|a
  ·exact c.disk.1.lt
  ·exact c.disk.2.1.1.lt a
  ·exact Sl.lt c.sw a
 refine((c.below d).write_call (by rw[Ab];omega) p B s C).mono ?_;intro e w' m;obtain⟨H,E,F,n⟩:=(c.below d).write m;refine⟨m.1,⟨H,by rw[Zkd,<-Ax];exact E,λg y=>?_,?_⟩,λk a z=>n.block k z (λe=>by have:=A k e;omega)⟩
 ·rcases F g y with e|e
  ·exact j g e
  ·exact .inr (by have:=l.size;have:=d.size;omega)
 ·refine(l.then (Fr.of_below (X:=λk=>k=b\/Own f k\/Own vw k) d) (λ_ _ e=>e)).then n (λk a e=>?_);rcases e with e|e|e
  ·exact .inl e
  ·exact .inr (.inl e)
  ·exact(j k e).elim (λe => .inr (.inr e)) (λe=>by omega)
def GY(stb db:Nat)(vn vw ve:Value)(k:Nat):Prop:=k=stb\/k=db\/Own vn k\/Own vw k\/Own ve k
def VA(w:World)(stb db T:Nat)(vf vn vw ve:Value)(D:LY)(ps:LB)(es:List Int)(va:Value)(eP:LI)(tp tx:Nat)(qs:LB)(e:Ending)(w':World):Prop:=
 e=.returned (.tuple #[])/\∃vw' ve',GW w' stb db va (tp:Nat) (tx:Nat) ((T:Nat):Int) vf vn vw' ve' ((Jw D qs).set (T%2) (Gv T tp tx)) (ps++qs++[(T%2,Gv T tp tx)]) (es++[((ps.length+qs.length:Nat):Int)]++[((ps.length+qs.length+1:Nat):Int)])/\Dk w vw vw'/\Dk w ve ve'/\Fr (GY stb db vn vw ve) w w'/\Sl w' 350 2 va eP.length (Dr eP)/\∀k,Own va k->¬GY stb db vn vw' ve' k
theorem RO{w w1:World}{v a b:Value}(c:Dk w v a)(d:Dk w1 a b)(h:w.heap.size<=w1.heap.size):Dk w v b:=λg f=>(d g f).elim (c g) (λe => .inr (Af h e))
theorem NQ(t p x:Int):prog.built 191 [(0,.int .u64 t),(1,.agg #[.int .i64 p,.int .u64 x])]=some #[.int .u64 t,.int .i64 p,.int .u64 x]:=by kernel_rfl
theorem ZkS(w:World)(a b pb:Nat)(E:Value)(A B:Int)(L:Nat)(q l vw m:Value)(D:LY)(ps:LB)(es:List Int)(h:GW w a b E A B (L:Nat) q l vw m D ps es)(d1 sb so:Nat)(nd:Nat->Int)(cl:Bool)(hd:Nat)(va:Value)(eP:LI)(d f:Nat)(vp:Value)(c:LB)(n:F4 w pb d1 sb so nd cl hd va eP (d:Nat) (f:Nat) vp c)(hq:∀x∈c,x.1<1536/\x.2.size=64)(aP:0<c.length)(hl:ps.length+c.length<=999999999)(bg:es.length<=999999998)(T:Nat)(hT:L+1=T)(aS:T<18446744073709551616)(aT:d<65536)(aU:f<18446744073709551616)(y:∀k,k=pb\/Own vp k\/Own va k->¬GY a b l vw m k):
  Cl 133 #[.pointer (some ⟨a,0,none⟩),.pointer (some ⟨pb,0,none⟩)] w (VA w a b T q l vw m D ps es va eP d f c):=by
 obtain⟨N,hN⟩:=ex c.length;have am:∀x∈c,x.2.size=64:=λx hx=>(hq x hx).2
 obtain⟨ap,t,cp,rfl⟩:=Sl.shape n.sp;obtain⟨O,U,P,rfl⟩:=n.sa.shape;obtain⟨x0,aW⟩:∃x,c[0]?=some x:=⟨_,Ac aP⟩;obtain⟨g,rfl,aJ,-⟩:=Hw.range n.sp am 0 x0 aW;rw[<-hN]at aJ;subst aJ;have br:=n.cells.2.2.2.2.2.2;have bw:=n.row.lt;have bz:=h.row.lt;have bj:¬a=pb:=λe=>y pb (.inl rfl) (.inl e.symm)
 have a1:=Db (Ih.start h);have az:Hid (∀k,k<t->∀wr,Ih w a b E A B (L:Nat) q l vw m D ps es (c.take k) wr->∃p s,s.size=64/\wr.rangeAt g (k*65) (F8 p s)/\∃W o,wr.alloc (.cells (F8 0 (Dn 64)).toArray 207)=W/\FX W wr.heap.size 207 (F8 0 (Dn 64))/\W.setRow wr.heap.size (F8 p s).toArray=o/\o.cell? ⟨a,0,none⟩=some (.pointer (some ⟨b,0,none⟩))/\o.rangeAt wr.heap.size 0 (F8 p s)/\Hid (Cl 159 #[.pointer (some ⟨b,0,none⟩),Ic p s] o.drew λe w'=>e=.returned (.tuple #[])/\w'.cell? ⟨a,0,none⟩=some (.pointer (some ⟨b,0,none⟩))/\w'.rangeAt wr.heap.size 0 (F8 p s)/\Hid (Ih w a b E A B (L:Nat) q l vw m D ps es (c.take (k+1)) w'))):=λk r wr G=>by
  obtain⟨⟨p,s⟩,hx⟩:∃x,c[k]?=some x:=⟨_,Ac (by omega)⟩;have ao:=hq _ (Ar hx);have a8:=G;obtain⟨F,u,q2,q3⟩:=a8;have a9:Hw wr (.slice (some ⟨g,0,none⟩) t cp) c:=Sl.fr n.sp q3 (λk r e=>y k (.inr (.inl r)) (by rcases e with e|e|e;exact .inr (.inl e);exact .inr (.inr (.inl e));exact .inr (.inr (.inr (.inl e)))));obtain⟨g',bf,-,af⟩:=Hw.range a9 am k _ hx
  cases bf
  obtain⟨W,Q,xW,kW,sW,bW⟩:=De wr (F8 0 (Dn 64)) 207;obtain⟨o,ab⟩:∃X,W.setRow wr.heap.size (F8 p s).toArray=X:=⟨_,rfl⟩;have an:FX o wr.heap.size 207 (F8 p s):=by rw[<-ab];exact BW W _ _ _ 207 _ xW
  have ac:Bw wr o:=by rw[<-ab];exact bW.trans ⟨rfl,rfl,rfl,by simp,λj hj=>BD W _ j _ (by omega)⟩
  have bb:Bw wr o.drew:=⟨ac.os,ac.tape,ac.output,ac.size,ac.block⟩;have I:FX o a 179 _:=(ac.block _ u.row.lt).trans u.row;refine⟨p,s,ao.2,af,W,o,Q,xW,ab,(I.cell 0).trans rfl,λj v hv=>by rw[an.cell,Av];exact hv,?_⟩;refine(G.step bb (by rw[An];omega) p ao.1 s ao.2).mono ?_;rintro e w'⟨rfl,J,r2⟩;have bl:FX w' wr.heap.size 207 (F8 p s):=(r2 _ (Aa _) an.lt).trans an;have e1:c.take (k+1)=c.take k++[(p,s)]:=by rw[BK,hx];rfl
  rw[<-e1]at J;obtain⟨bm,t1,-⟩:=id J;exact⟨rfl,(t1.row.cell 0).trans rfl,λj v hv=>by rw[bl.cell,Av];exact hv,J⟩
 have ay:Hid (∀wr,Ih w a b E A B (L:Nat) q l vw m D ps es c wr->wr.cell? ⟨a,0,none⟩=some (.pointer (some ⟨b,0,none⟩))/\Hid (Cl 200 #[.pointer (some ⟨b,0,none⟩)] wr λe w'=>e=.returned (.tuple #[])/\w'.cell? ⟨pb,103,none⟩=some (.slice (some ⟨g,0,none⟩) t cp)/\w'.cell? ⟨a,4,none⟩=some (.int .u64 (L:Nat))/\w'.frozen? ⟨a,4,none⟩=false/\∃W,w'.setCell ⟨a,4,none⟩ (.int .u64 ((T:Nat):Int))=W/\
   W.cell? ⟨a,0,none⟩=some (.pointer (some ⟨b,0,none⟩))/\W.cell? ⟨a,4,none⟩=some (.int .u64 ((T:Nat):Int))/\W.cell? ⟨pb,101,none⟩=some (.int .i64 (d:Nat))/\W.cell? ⟨pb,102,none⟩=some (.int .u64 (f:Nat))/\
   Hid (∃F C,GW W a b E A B ((T:Nat):Int) q l F C (Jw D c) (ps++c) (es++[((ps.length+c.length:Nat):Int)])/\Dk w vw F/\Dk w m C/\Fr (GY a b l vw m) w W))):=λwr G=>by
  obtain⟨F,u,q2,q3⟩:=G;obtain⟨av,lv,cv,rfl⟩:=Sl.shape u.sw;have aj:=Sl.len u.sw;refine⟨(u.row.cell 0).trans rfl,?_⟩;refine(RF wr b q l m av lv cv u.disk.1 es u.se u.nd.2.2 (by omega)).mono ?_;intro e w' hw;obtain⟨C,J,r2,r3⟩:=u.flush hw;have ak:lv=ps.length+c.length:=by rw[aj,Ab]
  subst ak;have bk:=q3.size;have aF:Fr (GY a b l vw m) w w':=(q3.mono (Y:=GY a b l vw m) (λk _ e=>by rcases e with e|e|e;exact .inr (.inl e);exact .inr (.inr (.inl e));exact .inr (.inr (.inr (.inl e))))).then r3 (λk _ e=>by rcases e with e|e;exact .inr (.inl e);exact .inr (.inr (.inr (.inr e))));have aK:FX w' pb 184 _:=n.row.fr aF (y pb (.inl rfl));have I:=J.row.set 4 (.int .u64 ((T:Nat):Int));have ad:Fr (λk=>k=a) w' (w'.setCell ⟨a,4,none⟩ (.int .u64 ((T:Nat):Int))):=(Fr.refl _ _).set _ _ rfl;have aL:FX (w'.setCell ⟨a,4,none⟩ (.int .u64 ((T:Nat):Int))) pb 184 _:=aK.fr ad (λe=>bj e.symm);have r4:=J.head ad (vk':=E) (tp':=A) (tx':=B) (tn':=((T:Nat):Int)) I;refine⟨hw.1,(aK.cell 103).trans (JD _ _ _ _ _ _ _ _ _ _ 5),(J.row.cell 4).trans rfl,J.row.frozen 4,_,rfl,(I.cell 0).trans rfl,(I.cell 4).trans rfl,(aL.cell 101).trans (JD _ _ _ _ _ _ _ _ _ _ 3),(aL.cell 102).trans (JD _ _ _ _ _ _ _ _ _ _ 4),_,C,r4,q2,RO (λg hg => .inl hg) r2 bk,aF.then ad (λk _ e => .inl e)⟩
 obtain⟨VK,ah⟩:∃V,V=Ic (T%2) (Gv T d f):=⟨_,rfl⟩;have ax:Hid (∀W,W.cell? ⟨a,0,none⟩=some (.pointer (some ⟨b,0,none⟩))/\W.cell? ⟨a,4,none⟩=some (.int .u64 ((T:Nat):Int))/\W.cell? ⟨pb,101,none⟩=some (.int .i64 (d:Nat))/\W.cell? ⟨pb,102,none⟩=some (.int .u64 (f:Nat))->Hid (∃F C,GW W a b E A B ((T:Nat):Int) q l F C (Jw D c) (ps++c) (es++[((ps.length+c.length:Nat):Int)])/\Dk w vw F/\Dk w m C/\Fr (GY a b l vw m) w W)->
   Cl 160 #[.agg #[.int .u64 ((T:Nat):Int),.int .i64 (d:Nat),.int .u64 (f:Nat)]] W.drew λe X=>e=.returned VK/\(X.cell? ⟨a,0,none⟩=some (.pointer (some ⟨b,0,none⟩))/\X.cell? ⟨a,4,none⟩=some (.int .u64 ((T:Nat):Int))/\X.cell? ⟨pb,101,none⟩=some (.int .i64 (d:Nat))/\X.cell? ⟨pb,102,none⟩=some (.int .u64 (f:Nat)))/\
    Hid (Cl 159 #[.pointer (some ⟨b,0,none⟩),VK] X λe Y=>e=.returned (.tuple #[])/\(Y.cell? ⟨a,0,none⟩=some (.pointer (some ⟨b,0,none⟩))/\Y.cell? ⟨a,4,none⟩=some (.int .u64 ((T:Nat):Int))/\Y.cell? ⟨pb,101,none⟩=some (.int .i64 (d:Nat))/\Y.cell? ⟨pb,102,none⟩=some (.int .u64 (f:Nat)))/\
     Hid (Cl 200 #[.pointer (some ⟨b,0,none⟩)] Y λe Z=>e=.returned (.tuple #[])/\FX Z a 179 [.pointer (some ⟨b,0,none⟩),E,.int .i64 A,.int .u64 B,.int .u64 ((T:Nat):Int)]/\Z.cell? ⟨pb,100,none⟩=some (.slice O U P)/\Z.cell? ⟨pb,101,none⟩=some (.int .i64 (d:Nat))/\Z.cell? ⟨pb,102,none⟩=some (.int .u64 (f:Nat))/\
      Hid (VA w a b T q l vw m D ps es (.slice O U P) eP d f c (.returned (.tuple #[])) (((Z.setCell ⟨a,1,none⟩ (.slice O U P)).setCell ⟨a,2,none⟩ (.int .i64 (d:Nat))).setCell ⟨a,3,none⟩ (.int .u64 (f:Nat))))))):=λW hc hh=>by
  obtain⟨F,C,s1,s2,s3,s4⟩:=Da hh;have bd:=Ul T d f;refine(Ox W.drew T d f aS aT aU).mono ?_;rintro e X⟨rfl,R⟩;have ae:Bw W X:=⟨R.os,R.tape,R.output,R.size,R.block⟩;have aM:FX W pb 184 _:=n.row.fr s4 (y pb (.inl rfl));have bx:=s4.size;have bo:=ae.size;have ag:=s1.below ae;have aN:FX X pb 184 _:=(ae.block _ aM.lt).trans aM;refine⟨by rw[ah],⟨(ag.row.cell 0).trans rfl,(ag.row.cell 4).trans rfl,(aN.cell 101).trans (JD _ _ _ _ _ _ _ _ _ _ 3),(aN.cell 102).trans (JD _ _ _ _ _ _ _ _ _ _ 4)⟩,?_⟩;rw[ah];refine(ag.write_call (by rw[Ab];omega) (T%2) (by omega) _ bd).mono ?_;intro e Y hw;obtain⟨bm,M,u2,u3⟩:=ag.write hw;have bh:∀k,k<w.heap.size->(k=b\/Own l k\/Own F k)->GY a b l vw m k:=λk r e=>by
   rcases e with e|e|e
   ·exact .inr (.inl e)
   ·exact .inr (.inr (.inl e))
   ·exact(s2 k e).elim (λe => .inr (.inr (.inr (.inl e)))) (λe=>by omega)
  have be:Fr (GY a b l vw m) w X:=s4.then (Fr.of_below (X:=λ_=>False) ae) (λ_ _ e=>e.elim);have aG:Fr (GY a b l vw m) w Y:=be.then u3 bh;have aO:FX Y pb 184 _:=n.row.fr aG (y pb (.inl rfl));have bp:=u3.size;refine⟨hw.1,⟨(M.row.cell 0).trans rfl,(M.row.cell 4).trans rfl,(aO.cell 101).trans (JD _ _ _ _ _ _ _ _ _ _ 3),(aO.cell 102).trans (JD _ _ _ _ _ _ _ _ _ _ 4)⟩,?_⟩;obtain⟨av,lv,cv,rfl⟩:=Sl.shape M.sw;have aj:=Sl.len M.sw;have ak:lv=ps.length+c.length+1:=by rw[aj,Ab,Ab];rfl
  subst ak;refine(RF Y b q l C av _ cv M.disk.1 _ M.se M.nd.2.2 (by rw[Ab];simp;omega)).mono ?_;intro e Z hz;obtain⟨aY,v1,v2,v3⟩:=M.flush hz;have aH:Fr (GY a b l vw m) w Z:=aG.then v3 (λk r e=>by
   rcases e with e|e
   ·exact .inr (.inl e)
   ·exact(s3 k e).elim (λe => .inr (.inr (.inr (.inr e)))) (λe=>by omega))
  have al:FX Z pb 184 _:=n.row.fr aH (y pb (.inl rfl));have ad:Fr (λk=>k=a) Z (((Z.setCell ⟨a,1,none⟩ (.slice O U P)).setCell ⟨a,2,none⟩ (.int .i64 (d:Nat))).setCell ⟨a,3,none⟩ (.int .u64 (f:Nat))):=(((Fr.refl (λk=>k=a) Z).set ⟨a,1,none⟩ (.slice O U P) rfl).set ⟨a,2,none⟩ (.int .i64 (d:Nat)) rfl).set ⟨a,3,none⟩ (.int .u64 (f:Nat)) rfl;have z:=((v1.row.set 1 (.slice O U P)).set 2 (.int .i64 (d:Nat))).set 3 (.int .u64 (f:Nat));have aI:Fr (GY a b l vw m) w (((Z.setCell ⟨a,1,none⟩ (.slice O U P)).setCell ⟨a,2,none⟩ (.int .i64 (d:Nat))).setCell ⟨a,3,none⟩ (.int .u64 (f:Nat))):=aH.then ad (λk _ e => .inl e);have n1:Dk w vw (.slice av (ps.length+c.length+1) cv):=RO s2 u2 (by omega);have n2:Dk w m aY:=RO s3 v2 (by omega);refine⟨hz.1,v1.row,(al.cell 100).trans (JD _ _ _ _ _ _ _ _ _ _ 2),(al.cell 101).trans (JD _ _ _ _ _ _ _ _ _ _ 3),(al.cell 102).trans (JD _ _ _ _ _ _ _ _ _ _ 4),rfl,_,aY,v1.head ad z,n1,n2,aI,n.sa.fr aI (λk r=>y k (.inr (.inr r))),λk r e=>?_⟩;have bt:=n.sa.lt r;refine y k (.inr (.inr r)) ?_;rcases e with e|e|e|e|e
  ·exact .inl e
  ·exact .inr (.inl e)
  ·exact .inr (.inr (.inl e))
  ·exact(n1 k e).elim (λe => .inr (.inr (.inr (.inl e)))) (λe=>by omega)
  ·exact(n2 k e).elim (λe => .inr (.inr (.inr (.inr e)))) (λe=>by omega)
 have a3:=Db hN;have bA:IntKind.u64.wrap ((L:Int)+1)=((T:Nat):Int):=by simp[IntKind.wrap,IntKind.bits,IntKind.signed];omega
 have bu:¬(t:Int)=0:=by omega
 have bv:t<=999999999:=by omega
 obtain⟨dd,aV,aQ⟩:=Py;have aZ:=Db (NQ ((T:Nat):Int) (d:Nat) (f:Nat));clear hT h n hq am aP hl bg aS aT aU y aW ah hN;go_enter func133,ntmps133;go_wp2
 go_loopw [11] (λi wr=>∃k:Nat,k<=t/\i=.int .i64 k/\Hid (Ih w a b E A B (L:Nat) q l vw m D ps es (c.take k) wr)) (λi _=>t-(intOf i).toNat)
 case atStart=>exact⟨0,Au _,rfl,by rw[Cs];exact Da a1⟩
 case round=>
  obtain⟨k,r,rfl,HI⟩:=hrel;by_cases bi:k<t
  ·obtain⟨p,s,aR,af,W,o,Q,aX,ab,bc,I,aA⟩:=Da az k bi wr (Da HI);have HR:=Db af;have HW:=Db Q;have HX:=Db aX;have a5:=Db ab;have aC:(F8 p s).length=65:=by rw[J2,aR]
   have HL:=Db aC;have bs:(k:Int)<(t:Int):=by omega
   obtain⟨VP,ai⟩:∃V,V=Ic p s:=⟨_,rfl⟩;have a4:=Db ai;have a0:=Db I;rw[<-ai]at aA;clear af Q aX ab aC ai aR I;go_upto_region 3 with(first|(refine FA rfl 207 _ rfl g (k*65) rfl (F8 p s) _ (Da HR) aV aQ (by rw[QH,Da HL]) ?_)|(refine JN rfl 207 rfl PT ?_;rw[show wr.alloc (.cells (F8 0 (Dn 64)).toArray 207)=W from Da HW])|(refine BX rfl 207 _ _ rfl wr.heap.size (F8 p s).toArray rfl rfl 207 _ (Da HX) (by rw[QH];simp[Da HL]) (by simp[Da HL,J2,Jr]) (C4 (PW _ _)) ?_;rw[Da a5]));refine AE (S:=λX=>X.cell? ⟨a,0,none⟩=some (.pointer (some ⟨b,0,none⟩))/\X.rangeAt wr.heap.size 0 (F8 p s)) (by kernel_rfl) ⟨bc,Da a0⟩ (λaB=>?_);refine tk 0 ?_;refine tk 1 ?_;refine tk 2 ?_;refine tk 3 ?_;refine A5 (i:=4) (v:=VP) rfl (by kernel_rfl) (by kernel_rfl) (by kernel_rfl) (λ_ _ _ h=>h) (by rw[Da a4];exact CZ (by rfl) 207 _ rfl wr.heap.size 0 rfl (F8 p s) _ (λX R=>R.2) aV aQ (by rw[QH,Da HL])) (by assumption) ?_
   try simp only[pE]
   refine rk 5 (λK H=>?_);go_simp;go_at_call 159;refine(Da aA).mono ?_;rintro e w'⟨rfl,c3,r3,a2⟩;go_wp2_with fail;refine H.out _ _ ⟨c3,r3⟩ (λbn=>?_);clear H K
   try simp only[pE]
   refine AO (by kernel_rfl) ?_ _;go_wp2
   go_roundw
   case rel=>exact⟨k+1,by omega,by go_num,a2⟩
   case measure=>simp[intOf];omega
  ·obtain rfl:k=t:=by omega
   have G:=Da HI;rw[Ag (Ee (Da a3).symm)]at G;obtain⟨bq,HF⟩:=Da ay wr G;clear G HI ay az;go_upto_region 8 with(go_at_call 200;refine(Da HF).mono ?_;rintro e w3⟨rfl,m1,m2,m3,W,Q,m4,m5,m6,m7,HS⟩;have HW:=Db Q;clear Q HF);rw[show w3.setCell ⟨a,4,none⟩ (.int .u64 ((T:Nat):Int))=W from Da HW];clear HW m1 m2 m3;have aq:=Da ax W ⟨m4,m5,m6,m7⟩ HS;have ar:=Db aq;clear aq ax HS;refine AE (S:=λX=>X.cell? ⟨a,0,none⟩=some (.pointer (some ⟨b,0,none⟩))/\X.cell? ⟨a,4,none⟩=some (.int .u64 ((T:Nat):Int))/\X.cell? ⟨pb,101,none⟩=some (.int .i64 (d:Nat))/\X.cell? ⟨pb,102,none⟩=some (.int .u64 (f:Nat))) (by kernel_rfl) ⟨m4,m5,m6,m7⟩ (λaB=>?_);refine tk 0 ?_;refine tk 1 ?_;refine tk 2 ?_;refine tk 3 ?_;refine tk 4 ?_;refine tk 5 ?_;refine tk 6 ?_;refine tk 7 ?_;refine tk 8 ?_;refine tk 9 ?_;refine tk 10 ?_;refine tk 11 ?_;refine tk 12 ?_;refine A5 (i:=13) (v:=.agg #[.int .u64 ((T:Nat):Int),.int .i64 (d:Nat),.int .u64 (f:Nat)]) rfl (by kernel_rfl) (by kernel_rfl) (by kernel_rfl) (λ_ _ _ h=>h) (Or.inl ⟨by rfl,λV _=>Ow V 191 _ rfl (vs:=#[(0,.int .u64 ((T:Nat):Int)),(1,.agg #[.int .i64 (d:Nat),.int .u64 (f:Nat)])]) (by simp[Act.eval]) (Da aZ)⟩) (by assumption) ?_
   try simp only[pE]
   refine rk 14 (λK H=>?_);go_simp;go_at_call 160;refine(Da ar).mono ?_;rintro e X⟨rfl,aD,au⟩;go_wp2_with fail;refine H.out _ _ aD (λa6=>?_);clear H K
   try simp only[pE]
   refine rk 15 (λK H=>?_);go_simp;go_at_call 159;refine(Da au).mono ?_;rintro e Y⟨rfl,aE,aw⟩;go_wp2_with fail;refine H.out _ _ aE (λa7=>?_);clear H K
   try simp only[pE]
   refine AO (by kernel_rfl) ?_ _;obtain⟨y0,y1,y2,y3⟩:=aE;clear ar au a6 a7 aB aD m4 m5 m6 m7;go_wp2_with(go_at_call 200;refine(Da aw).mono ?_;rintro e Z⟨rfl,z,z0,z1,z2,HP⟩;have b1:=z.cell 1;have b2:=z.cell 2;have b3:=z.cell 3;have g1:=z.frozen 1;have g2:=z.frozen 2;have g3:=z.frozen 3;clear z aw y0 y1 y2 y3)
   go_end0
   exact Da HP
theorem RD{P:Program}{o:Oper}{a:Act}(X:World)(b:BinOp)(t:TypeId)(x y:Operand)(ty:TypeId)(ho:o.op=.binOp b t x y ty)(u v:Value)(e:a.eval x=u)(f:a.eval y=v)(c:(eqGuard b t x y u v).run P X=.ok () X){r:Value}(d:(binOp b t u v).run P X=.ok r X):(execOp a.eval o).run P X=.ok (.value r) X:=by
 unfold execOp;simp only[ho,Cn,e,f,c,d,Cg]
 rfl
theorem Z7:prog.eqGuardType prog.depth 188=false:=by kernel_rfl
theorem UN:prog.underlying 188=some (.array 64 5):=by kernel_rfl
theorem Oa(s:By):DA s=.agg (s.data.toList.map Extern.Stop.cell).toArray:=rfl
theorem Z4(w:World)(a b:By)(c:a.size=64)(d:b.size=64):(Op.equalIn 10000 188 (DA a) (DA b)).run prog w=.ok (decide (a=b)) w:=by
 rw[Oa,Oa,run_equalIn_bytes w 9998 188 5 64 UN underlying5 (λw=>by kernel_rfl) a.data.toList b.data.toList (by rw[AG];exact c) (by rw[AG];exact d)]
 congr 1
 rw[EO,EF,AH];exact⟨λh=>A8 h,λh=>by rw[h]⟩
theorem Mm(w:World)(a b:By)(c:a.size=64)(d:b.size=64):(binOp .neq 188 (DA a) (DA b)).run prog w=.ok (.bool (!decide (a=b))) w:=by
 have:=run_neq_struct (P:=prog) w 188 (Dc a).toArray (Dc b).toArray;have e:=Z4 w a b c d;unfold DA at e ⊢;rw[this,e];rfl
theorem Gy.same{es:LI}(h:Gy es){k a b:Int}(f:(k,a)∈es)(g:(k,b)∈es):a=b:=by
 obtain⟨i,d⟩:=CD.1 f;obtain⟨j,c⟩:=CD.1 g;rcases CB i j with e|rfl|e
 ·have:=h i j _ _ e d c;simp[GK]at this
 ·rw[d]at c;cases c;rfl
 ·have:=h j i _ _ e c d;simp[GK]at this
def P4(w:World)(pb db sb so:Nat)(nd:Nat->Int)(cl:Bool)(hd:Nat)(va:Value)(es:LI)(tp tx:Int)(vp:Value)(ps:LB)(r:Nat)(s:By)(q:Nat)(e:Ending)(w':World):Prop:=
 e=.returned (.agg #[.int .i64 (q:Nat),.int .u64 (Dp s:Nat)])/\∃va' es',F4 w' pb db sb so nd cl hd va' es' tp tx vp ps/\Gy es'/\es'.length=es.length+1/\(∀x,x∈es'↔x=((r:Int),(q:Int))\/x∈es)/\Fr (λk=>k=pb\/Own va k) w w'/\Dk w va va'
end Go.Proofs.YtaieidcohdhgpaaGreatDoor
