/- Cleaned. -/
import Derived.Test.YtaieidcohdhgpaaGreatDoorPAR
namespace Go.Proofs.YtaieidcohdhgpaaGreatDoor
set_option maxHeartbeats 8000000
set_option maxRecDepth 100000
section
open Go.RowKit Go.Shelf
attribute [local go_sem] Oper.semAt_some
theorem ZjE{P:Program}{n l:Nat}{Q:Exit->Act->World->Prop}{o:Oper}{a:Act}{w:World}{K:Act->World->Prop}(g:∀c,o.op ≠ .defer c)(h:o.wp P a w K Q):o.wpIn (Fence.wide.inRound l) n P a w K Q:=by
 refine⟨fun f _=>trivial,?_⟩;have e:(o.semAt (Fence.wide.inRound l).round a.eval)=execOp a.eval o:=Oper.semAt_some l a.eval o g;rw[e];unfold Oper.wp at h;generalize (execOp a.eval o).run P w=r at *
 cases r with
 | ok x w'=>
  cases x with
  | enter f args=>exact⟨fun b=>(by cases b),CallsIn.inRound l (callsIn_wide.2 h)⟩
  | row row args=>exact⟨fun b=>(by cases b),fun c d _=>let ⟨v,w',r,s⟩:=h c d;⟨v,w',r,stepsIn_wide.2 s⟩⟩
  | _=>first|exact h|exact h.elim
 | halt x w'=>cases x<;>first|exact h|exact h.elim
theorem Zdd{P:Program}{n l:Nat}{k:Region.Mode}{d:Array Oper}{Q:Exit->Act->World->Prop}(e:¬LetsOut Q)(g:∀(i:Nat) (o:Oper),d[i]?=some o->∀c,o.op ≠ .defer c):
  ∀(fuel:Nat) (listed:Array Bool) (a:Act) (w:World),wpAny P k d Q fuel listed a w->wpAnyIn (Fence.wide.inRound l) n P k d Q fuel listed a w
 | 0,_,_,_,h=>h
 | fuel+1,listed,a,w,h=>⟨h.1,fun i q=>by
  have b:=wpOp_mono (fun m w' p=>Zdd e g (n:=n) (l:=l) fuel _ m w' p) (h.2 i q);unfold wpOp at b;unfold wpOpIn
  cases ho:d[i]? with
  | none=>rw[ho]at b;exact b
  | some o=>
   rw[ho]at b;simp only at b ⊢;by_cases j:Region.wanted o (yielded d a.tmps)=true
   ·rw[if_pos j]at b ⊢;rcases b with b|b
    ·exact ZjE (g i o ho) b
    ·exact absurd b.2 e
   ·rw[if_neg j]at b ⊢;exact⟨fun f _=>trivial,b⟩⟩
def ZkY(ops:Array Oper):Bool:=ops.all fun o=>match o.op with | .defer _=>false|_=>true
theorem ZjO{a:Array Oper}(h:ZkY a=true):∀(i:Nat) (o:Oper),a[i]?=some o->∀c,o.op ≠ .defer c:=fun i o ho c e=>by
 have:=Array.all_eq_true_iff_forall_mem.1 h o (Array.mem_of_getElem? ho);rw[e]at this;cases this
theorem ZbI{P:Program}{n l id:Nat}{b:Array Oper}{Q:Exit->Act->World->Prop}{a:Act}{w:World}(S:World->Prop)(e:P.follows .mixedOrders=true)(d:¬LetsOut Q)(f:ZkY b=true)(c:S w.drew)
  (h:S w.drew->wpAnyH P .any b Q S b.size (Array.replicate b.size false) a w.drew):(Code.region id b true).wpIn (Fence.wide.inRound l) n P Q a w:=
 wpIn_region_any e (Zdd d (ZjO f) _ _ _ _ (wpAny_of_held _ _ _ _ (h c)))
theorem U0(v:Value)(b:Nat)(h1:0<b)(hz:b<1000000)(n:Nat)(w:World)(d:∃a l c,v = .slice a l c):
  CallsIn Fence.wide n Tryz.prog 172 #[v,.int .i64 b] w fun e w'=>e = .returned (.func (.func 220) #[] #[.pointer (some ⟨w.heap.size,0,none⟩),.pointer (some ⟨w.heap.size+1,0,none⟩)])/\w'=(w.alloc (.cells #[v] 59)).alloc (.cells #[.int .i64 b] 3):=by
 obtain⟨a,l,c,rfl⟩:=d;refine callsIn_wide.2 ?_;have h2:¬((b:Int)<1):=by omega
 go_enter Tryz.func172,Tryz.ntmps172;go_wp2;go_ret;exact⟨rfl,rfl⟩
def chV(g off sz len k:Nat):Value := .slice (some ⟨g,off+k*sz,none⟩) (min sz (len-k*sz)) (min sz (len-k*sz))
theorem Zdp(n:Nat)(hn:1<=n)(f j g off b c d:Nat)(h1:0<b)(hz:b<1000000)(an:c<=d)(hl:c<1000000)(N:Nat)(t:N=(c+b-1)/b)(w:World)(ac:f<w.heap.size)(ad:j<w.heap.size)
  (I:w.cell? ⟨f,0,none⟩=some (.slice (some ⟨g,off,none⟩) c d)) (K:w.cell? ⟨j,0,none⟩=some (.int .i64 b)) (E:World->World->Prop)
  (O:∀A B,E A B->A.cell? ⟨f,0,none⟩=some (.slice (some ⟨g,off,none⟩) c d)->A.cell? ⟨j,0,none⟩=some (.int .i64 b)->B.cell? ⟨f,0,none⟩=some (.slice (some ⟨g,off,none⟩) c d)/\B.cell? ⟨j,0,none⟩=some (.int .i64 b)):
  SeqStopsK Fence.wide n Tryz.prog 220 #[.pointer (some ⟨f,0,none⟩),.pointer (some ⟨j,0,none⟩)] (fun k:Nat => #[chV g off b c k]) E (fun ys=>ys=List.range N) (fun ak=>ak <+: List.range N) N w:=fun l J Jx W u L _ R h0=>by
 have c1:=(u.cell (p:=⟨f,0,none⟩) ac).trans I;have c2:=(u.cell (p:=⟨j,0,none⟩) ad).trans K;have HY:=Db R;have Q:∀k,k<N->k*b<c:=fun k U=>by
  have h2:(k+1)*b<=N*b:=Nat.mul_le_mul_right _ U;have H:N*b<=c+b-1:=by rw[t];exact Nat.div_mul_le_self _ _
  rw[Nat.add_mul]at h2;omega
 have P:c<=N*b:=by
  have H:=Nat.lt_div_mul_add (a:=c+b-1) h1;rw[<-t]at H;omega
 have aa:=Db Q;have ab:=Db P;have Z:=Db O;have Y:=Db L;clear R u Q P I K t O L;refine callsIn_of_wp Tryz.func220 rfl trivial ?_ rfl;simp only[Tryz.ntmps220,List.size_toArray,List.length_cons,List.length_nil,Nat.reduceAdd,Nat.reduceSub,Array.replicate_succ,Array.replicate_zero,List.push_toArray,List.append_toArray,List.nil_append,List.cons_append]
 gi_wp2
 gi_loopw [4] (fun i wr=>∃k:Nat,k<=N/\i = .int .i64 ((k*b:Nat):Int)/\wr.cell? ⟨f,0,none⟩=some (.slice (some ⟨g,off,none⟩) c d)/\wr.cell? ⟨j,0,none⟩=some (.int .i64 b)/\Hid (J (List.range k) wr))
  (fun i _=>c-(intOf i).toNat)
 case atStart=>exact⟨0,Nat.zero_le _,by rw[Nat.zero_mul];rfl,c1,c2,h0⟩
 case round=>
  obtain⟨k,U,rfl,F,G,z⟩:=hrel;by_cases x:k<N
  ·have aj:=Da aa k x;obtain⟨q,y⟩:∃q,q=k*b:=⟨_,rfl⟩;rw[<-y]at aj ⊢;obtain⟨m,V⟩:∃m,m=min b (c-q):=⟨_,rfl⟩;have ao:0<m:=by omega
   have aq:m<=c-q:=by omega
   have ar:m<=b:=by omega
   have D:Hid (List.range (k+1)=List.range k++[k]):=List.range_succ;have C:=Db y;have o:=Db V;have aw:(q:Int)<(c:Int):=by omega
   have av:¬d=q:=by omega
   have ax:q<=c:=by omega
   clear y V;have M:J (List.range k) wr.drew:=Da Y _ _ _ none (Da z) ⟨rfl,rfl,rfl,Nat.le_refl _,fun _ _ _=>rfl⟩ (fun r e=>by cases e);have T:chV g off b c k = .slice (some ⟨g,off+q,none⟩) m m:=by unfold chV;rw[<-Da C,<-Da o]
   obtain⟨fn,tmps,assign,body,hy,hR⟩:=Da HY (List.range k) k wr.drew M (by rw[List.length_range];exact x);rw[T]at hy;have ap:(if (b:Int)<=(c:Int)-(q:Int) then (b:Int) else (c:Int)-(q:Int))=(m:Int):=by
    have:=Da o
    split<;>omega
   clear M T
   gi_wp2
   refine wpIn_wide.2 ?_;refine wp_region_held_drew (S:=fun X=>X.cell? ⟨f,0,none⟩=some (.slice (some ⟨g,off,none⟩) c d)/\X.cell? ⟨j,0,none⟩=some (.int .i64 b)) (by kernel_rfl) ⟨F,G⟩ (fun ae=>?_);refine tk 0 ?_;try simp only[pE];refine tk 1 ?_;try simp only[pE];refine tk 2 ?_;try simp only[pE];refine tk 3 ?_;try simp only[pE];refine tk 4 ?_;try simp only[pE];refine wpAnyH_take (i:=5) (v := .int .i64 (m:Nat)) rfl (by kernel_rfl) (by kernel_rfl) (by kernel_rfl) (fun _ _ _ h=>h) (Or.inl ⟨by rfl,?_⟩) (by assumption) ?_
   ·intro w ah;(try dsimp only at ah);go_simp;have s:=Da o;omega
   (try simp only[pE])
   refine tk 6 ?_;try simp only[pE];refine wpAnyH_done (by kernel_rfl) ?_ _;clear ae;have ay:q+m<=d:=by omega
   have az:q+m-q=m:=by omega
   have au:¬q+m=q:=by omega
   have aA:((q:Int)+(m:Int))<=(d:Int):=by omega
   gi_wp2
   refine hR.mono ?_;rintro e W3 (⟨rfl,af,ai⟩|⟨rfl,ag⟩)
   ·obtain⟨k1,k2⟩:=Da Z _ _ ai F G
    gi_wp2
    go_roundw
    case rel=>exact⟨k+1,by omega,by rw[Nat.add_mul,Nat.one_mul,<-Da C]<;>go_num,k1,k2,by show J _ _;rw[Da D];exact af⟩
    case measure=>simp[intOf];omega
   ·gi_wp2
    refine bodyPost_ret (results_none rfl _ _ _) rfl ?_;exact⟨⟨_,rfl⟩,.inr ⟨_,by rw[<-Da D];(have s:=List.take_prefix (k+1) (List.range N);rw[List.take_range,Nat.min_eq_left x]at s;exact s),ag⟩⟩
  ·obtain rfl:k=N:=by omega
   have al:=Da ab;have am:¬(((k*b:Nat):Int)<(c:Int)):=by omega
   gi_wp2
   go_end0
   exact⟨⟨_,rfl⟩,.inl (Da z)⟩
end
section
open Go.RowKit Go.Shelf
attribute [local go_sem] Oper.semAt_some
def chB(s:By)(sz x:Nat):By:=s.extract (x*sz) (x*sz+sz)
def Dw(kk:UInt8)(s:By)(sz x:Nat):By:=⟨#[kk]⟩++Dj (chB s sz x) 63
theorem KZ(kk:UInt8)(s:By)(a x:Nat):(Dw kk s a x).size=64:=by unfold Dw;rw[ByteArray.size_append,Jc];rfl
theorem UZ(s:By)(a x:Nat):(chB s a x).size=min a (s.size-x*a):=by unfold chB;rw[ByteArray.size_extract];omega
theorem RdB.chunk{w:World}{g off c f:Nat}{s:By}(h:RdB w (some ⟨g,off,none⟩) c f s)(b x:Nat):RdB w (some ⟨g,off+x*b,none⟩) (min b (c-x*b)) (min b (c-x*b)) (chB s b x):=by
 refine⟨by rw[UZ,h.1],fun e=>(by cases e),fun j v a=>⟨_,rfl,?_⟩⟩;unfold chB at a;rw[Jn,List.getElem?_take]at a
 split at a
 ·rw[List.getElem?_drop]at a;obtain⟨y,e,d⟩:=h.2.2 _ _ a
  cases e
  rw[Addr.add_lit]at d ⊢;rw[Nat.add_assoc];exact d
 ·cases a
def Dd(kk below t:Nat):Nat:=kk*4294967296+below*65536+t
structure ZeM(M n0 pb:Nat)(kk:UInt8)(below:Nat)(s:By)(sz:Nat)(P X:List Nat->Nat->Nat)(St:List Nat->(Nat->Prop)->World->Prop):Prop where
 abides:∀pre O W W' row,St pre O W->W.grownBy W' row->(∀r,row=some r->∃o:Obj,W.heap[r]?=some o/\o.isCells=false)->St pre O W'
 keeps:∀pre O W W' (Z:Nat->Prop),St pre O W->Fr Z W W'->(∀j,Z j->¬O j/\n0<=j)->St pre O W'
 lt:∀pre O W,St pre O W->∀j,O j->j<W.heap.size
 put:∀pre x O W,pre.length<M->St pre O W->Calls Tryz.prog 272 #[.pointer (some ⟨pb,0,none⟩),.int .u64 (Dd kk.toNat below pre.length:Nat),Dx (Dw kk s sz x)] W fun e W'=>e = .returned (.agg #[.int .i64 (P pre x:Nat),.int .u64 (X pre x:Nat)])/\∃O',St (pre++[x]) O' W'/\Fr O W W'/\∀j,O' j->O j\/W.heap.size<=j
 cells:∀pre O W,St pre O W->∀j,O j->∃cs t,W.heap[j]?=some (.cells cs t (0,0))
 plt:∀pre x,P pre x<65536
 xlt:∀pre x,X pre x<18446744073709551616
structure RowI(w:World)(n1 B4 B5 B6 B10 B11 pb:Nat)(kk:UInt8)(below:Nat)(g off len cap:Nat)(s:By)(St:List Nat->(Nat->Prop)->World->Prop)(Yo:Nat->Prop)(RB:List Nat->By)(pre pre':List Nat)(v:Value)(O:Nat->Prop)(W:World):Prop where
 st:St pre' O W
 hO:∀j,O j->Yo j\/n1<=j
 b4:Boxed W B4 168 (.pointer (some ⟨pb,0,none⟩))
 b5:Boxed W B5 300 (.int .u8 (kk.toNat:Int))
 b6:Boxed W B6 3 (.int .i64 (below:Nat))
 b10:Boxed W B10 59 v
 b11:Boxed W B11 3 (.int .i64 (pre.length:Nat))
 rs:SlB n1 W v (RB pre)
 dis:∀j,O j->¬Own v j
 rd:RdB W (some ⟨g,off,none⟩) len cap s
 fr:Fr Yo w W
 sz:n1<=W.heap.size
structure BoxB(w:World)(n1 B4 B5 B6 B10 B11 g len:Nat)(Yo:Nat->Prop):Prop where
 e4:B4=w.heap.size
 e5:B5=w.heap.size+1
 e6:B6=w.heap.size+2
 e10:B10=w.heap.size+3
 e11:B11=w.heap.size+4
 en:w.heap.size+5<=n1
 yo:∀j,Yo j->j<w.heap.size
 gy:¬Yo g
 gl:g<w.heap.size
theorem BoxB.nO{w:World}{a i k l d f g n:Nat}{b O:Nat->Prop}(h:BoxB w a i k l d f g n b)(m:∀j,O j->b j\/a<=j)(B:Nat)(h1:w.heap.size<=B)(h2:B<a):¬O B:=fun e=>by
 rcases m B e with c|c
 ·have:=h.yo B c;omega
 ·omega
theorem RowI.below{w:World}{M z t i j l d f pb:Nat}{kk:UInt8}{c:Nat}{g off q p:Nat}{s:By}{A:Nat}{P X:List Nat->Nat->Nat}{b:List Nat->(Nat->Prop)->World->Prop}{o:Nat->Prop}{m:List Nat->By}{u x:List Nat}{v:Value}{O:Nat->Prop}{W n:World}(L:ZeM M z pb kk c s A P X b)(h:RowI w t i j l d f pb kk c g off q p s b o m u x v O W)(a:Below W.heap.size W n):RowI w t i j l d f pb kk c g off q p s b o m u x v O n:=
 ⟨L.abides _ _ _ _ none h.st ⟨a.os,a.tape,a.output,a.size,fun k y _=>a.block k y⟩ (fun r e=>by cases e),h.hO,(a.block _ h.b4.lt).trans h.b4,(a.block _ h.b5.lt).trans h.b5,(a.block _ h.b6.lt).trans h.b6,(a.block _ h.b10.lt).trans h.b10,(a.block _ h.b11.lt).trans h.b11,h.rs.below a,h.dis,h.rd.below a,h.fr.then (Fr.of_below a (X:=fun _=>False)) (fun _ _ e=>e.elim),Nat.le_trans h.sz a.size⟩
theorem RowI.put{w:World}{M J z n o p l m pb:Nat}{kk:UInt8}{t:Nat}{g off y C:Nat}{s:By}{L:Nat}{P X:List Nat->Nat->Nat}{i:List Nat->(Nat->Prop)->World->Prop}{r:Nat->Prop}{A:List Nat->By}{H K:List Nat}{v:Value}{O:Nat->Prop}{W q:World}(b:BoxB w z n o p l m g y r)(_L:ZeM M J pb kk t s L P X i)(h:RowI w z n o p l m pb kk t g off y C s i r A H K v O W){G:List Nat}{O':Nat->Prop}(I:i G O' q)(c:Fr O W q)(D:∀j,O' j->O j\/W.heap.size<=j):RowI w z n o p l m pb kk t g off y C s i r A H G v O' q:=by
 have e4:=b.e4;have e5:=b.e5;have e6:=b.e6;have aa:=b.e10;have ab:=b.e11;have en:=b.en;have ac:=h.sz;have f:=fun B=>b.nO h.hO B
 refine⟨I,fun j u=>(D j u).elim (h.hO j) (fun a => .inr (by omega)),(c.block _ h.b4.lt (f _ (by omega) (by omega))).trans h.b4,(c.block _ h.b5.lt (f _ (by omega) (by omega))).trans h.b5,(c.block _ h.b6.lt (f _ (by omega) (by omega))).trans h.b6,(c.block _ h.b10.lt (f _ (by omega) (by omega))).trans h.b10,(c.block _ h.b11.lt (f _ (by omega) (by omega))).trans h.b11,⟨h.rs.1.fr c (fun k E d=>h.dis k d E),h.rs.2⟩,fun j u F=>(D j u).elim (fun a=>h.dis j a F) (fun a=>by have:=Own.lt h.rs F;omega),h.rd.fr c (fun x e hp d=>?_),h.fr.then c (fun k E d=>?_),Nat.le_trans h.sz c.size⟩
 ·cases e
  rcases h.hO _ d with a|a
  ·exact b.gy a
  ·have:=b.gl;simp only at a;omega
 ·rcases h.hO k d with a|a
  ·exact a
  ·omega
theorem RowI.done{w:World}{M J i q r t b c pb:Nat}{kk:UInt8}{E:Nat}{g off G H:Nat}{s:By}{Z:Nat}{P X:List Nat->Nat->Nat}{C:List Nat->(Nat->Prop)->World->Prop}{D:Nat->Prop}{A:List Nat->By}{z:List Nat}{v:Value}{O:Nat->Prop}{W f:World}(d:BoxB w i q r t b c g G D)(ac:J<=w.heap.size)(L:ZeM M J pb kk E s Z P X C){p:List Nat}(h:RowI w i q r t b c pb kk E g off G H s C D A z p v O W)(N:p.length=z.length+1){n:Value}(F:SlB i f n (A p))(l:Fr (Own v) W f)(Q:Dk W v n):RowI w i q r t b c pb kk E g off G H s C D A p p n O ((f.setCell ⟨b,0,none⟩ n).setCell ⟨c,0,none⟩ (.int .i64 ((z.length:Int)+1))):=by
 have e4:=d.e4;have e5:=d.e5;have e6:=d.e6;have aa:=d.e10;have ab:=d.e11;have en:=d.en;have ad:=h.sz;have m:∀B,B<i->¬Own v B:=fun B d e=>by have:=h.rs.2 B e;omega
 have K:∀B,B<i->¬Own n B:=fun B d e=>by have:=F.2 B e;omega
 have U:Boxed f q 168 _:=(l.block _ h.b4.lt (m _ (by omega))).trans h.b4;have V:Boxed f r 300 _:=(l.block _ h.b5.lt (m _ (by omega))).trans h.b5;have Y:Boxed f t 3 _:=(l.block _ h.b6.lt (m _ (by omega))).trans h.b6;have S:Boxed f b 59 _:=(l.block _ h.b10.lt (m _ (by omega))).trans h.b10;have T:Boxed f c 3 _:=(l.block _ h.b11.lt (m _ (by omega))).trans h.b11;have u:Fr (fun j=>Own v j\/j=b\/j=c) W ((f.setCell ⟨b,0,none⟩ n).setCell ⟨c,0,none⟩ (.int .i64 ((z.length:Int)+1))):=
  (Fr.set (X:=fun j=>Own v j\/j=b\/j=c) (Fr.then (Fr.refl _ W) l (fun _ _ e => .inl e)) ⟨b,0,none⟩ _ (.inr (.inl rfl))).set ⟨c,0,none⟩ _ (.inr (.inr rfl))
 have I:b≠c:=by omega
 refine⟨L.keeps _ _ _ _ _ h.st u (fun j y=>?_),h.hO,(U.other (by omega) _).other (by omega) _,(V.other (by omega) _).other (by omega) _,(Y.other (by omega) _).other (by omega) _,(S.set _).other I _,?_,⟨(F.1.setCell ⟨b,0,none⟩ _ (K b (by omega))).setCell ⟨c,0,none⟩ _ (K c (by omega)),F.2⟩,fun j y R=>?_,h.rd.fr u (fun x e hp o=>?_),h.fr.then u (fun k hk o=>?_),Nat.le_trans h.sz u.size⟩
 ·rcases y with a|a|a
  ·exact⟨fun o=>h.dis j o a,by have:=h.rs.2 j a;omega⟩
  ·subst a;exact⟨d.nO h.hO _ (by omega) (by omega),by omega⟩
  ·subst a;exact⟨d.nO h.hO _ (by omega) (by omega),by omega⟩
 ·rw[N];exact(T.other (fun e=>I e.symm) _).set _
 ·rcases Q j R with a|a
  ·exact h.dis j y a
  ·have:=L.lt _ _ _ h.st j y;omega
 ·cases e
  have:=d.gl;rcases o with a|a|a
  ·exact m _ (by show g<i;omega) a
  ·simp only at a;omega
  ·simp only at a;omega
 ·rcases o with a|a|a
  ·have:=h.rs.2 k a;omega
  ·omega
  ·omega
theorem RowI.own{w:World}{M n0 l p u y m n pb:Nat}{kk:UInt8}{D:Nat}{g off G I:Nat}{s:By}{sz:Nat}{P X:List Nat->Nat->Nat}{A:List Nat->(Nat->Prop)->World->Prop}{C:Nat->Prop}{H:List Nat->By}{N Q:List Nat}{v:Value}{O:Nat->Prop}{W B:World}(L:ZeM M n0 pb kk D s sz P X A)(K:BoxB w l p u y m n g G C)(h:RowI w l p u y m n pb kk D g off G I s A C H N Q v O W){row:Option Nat}(a:W.grownBy B row)(i:∀r,row=some r->l<=r/\∃o:Obj,W.heap[r]?=some o/\o.isCells=false):RowI w l p u y m n pb kk D g off G I s A C H N Q v O B:=by
 have ne:∀(j:Nat) (b:Array Value) (t:TypeId) (z:Nat×Nat),W.heap[j]?=some (Obj.cells b t z)->some j≠row:=fun j b t z d e=>by
  obtain⟨o,J,V⟩:=(i j e.symm).2;rw[d]at J;cases J;cases V
 have c:∀(j:Nat) (b:Array Value) (t:TypeId) (z:Nat×Nat),W.heap[j]?=some (Obj.cells b t z)->B.heap[j]?=some (Obj.cells b t z):=fun j b t z d=>(a.block j (Array.getElem?_eq_some_iff.1 d).1 (ne j b t z d)).trans d
 have ab:=K.gl;have aa:=K.en;refine⟨L.abides _ _ _ _ row h.st a (fun r e=>(i r e).2),h.hO,c _ _ _ _ h.b4,c _ _ _ _ h.b5,c _ _ _ _ h.b6,c _ _ _ _ h.b10,c _ _ _ _ h.b11,⟨?_,h.rs.2⟩,h.dis,?_,?_,Nat.le_trans h.sz a.size⟩
 ·rcases h.rs.1.2 with⟨e,U⟩|⟨T,S,R,e,Z,q⟩
  ·exact⟨h.rs.1.1,.inl ⟨e,U⟩⟩
  ·exact⟨h.rs.1.1,.inr ⟨T,S,R,e,c _ _ _ _ Z,q⟩⟩
 ·exact h.rd.fr (P:=fun j=>row=some j) ⟨a.os,a.tape,a.output,a.size,fun k f E=>a.block k f (fun e=>E e.symm)⟩ (fun x e _ F=>by cases e;have:=(i _ F).1;simp only at this;omega)
 ·exact h.fr.then (Y:=fun j=>row=some j) ⟨a.os,a.tape,a.output,a.size,fun k f E=>a.block k f (fun e=>E e.symm)⟩ (fun k f F=>by have:=(i _ F).1;omega)
def RowE(w:World)(n1 B4 B5 B6 B10 B11 pb:Nat)(kk:UInt8)(below:Nat)(g off len cap:Nat)(s:By)(St:List Nat->(Nat->Prop)->World->Prop)(Yo:Nat->Prop)(RB:List Nat->By)(pre:List Nat)(W:World):Prop:=∃v O,RowI w n1 B4 B5 B6 B10 B11 pb kk below g off len cap s St Yo RB pre pre v O W
def Zl4(w:World)(n1:Nat)(St:List Nat->(Nat->Prop)->World->Prop)(Yo:Nat->Prop)(RB:List Nat->By)(N:Nat)(e:Ending)(w':World):Prop:=
 ∃a' l' c' O,e = .returned (.slice a' l' c')/\SlB n1 w' (.slice a' l' c') (RB (List.range N))/\St (List.range N) O w'/\(∀j,O j->Yo j\/n1<=j)/\(∀j,O j->¬Own (.slice a' l' c') j)/\Fr Yo w w'
end
section
open Go.RowKit Go.Shelf
attribute [local go_sem] Oper.semAt_some
def QP(n1 B10 B11:Nat)(Yo:Nat->Prop)(A B:World):Prop:=A.heap.size<=B.heap.size/\∀k,k<n1->¬Yo k->k≠B10->k≠B11->B.heap[k]?=A.heap[k]?
def Jr(B4 B5 B6 B11 pb:Nat)(kk:UInt8)(below t:Nat)(V:World):Prop:=V.cell? ⟨B4,0,none⟩=some (.pointer (some ⟨pb,0,none⟩))/\V.cell? ⟨B5,0,none⟩=some (.int .u8 (kk.toNat:Int))/\V.cell? ⟨B6,0,none⟩=some (.int .i64 (below:Nat))/\V.cell? ⟨B11,0,none⟩=some (.int .i64 (t:Nat))
def K6(w:World)(n1 B4 B5 B6 B10 B11 pb:Nat)(kk:UInt8)(below:Nat)(g off len cap:Nat)(s:By)(St:List Nat->(Nat->Prop)->World->Prop)(Yo:Nat->Prop)(RB:List Nat->By)(pre pre':List Nat)(v:Value)(O0 O:Nat->Prop)(W V:World):Prop:=
 RowI w n1 B4 B5 B6 B10 B11 pb kk below g off len cap s St Yo RB pre pre' v O V/\Fr (fun j=>O0 j\/Own v j\/j=B10\/j=B11) W V
theorem Zhy(w:World)(M:Nat)(hM:M<=1000)(n0 v l m n c d pb:Nat)(kk:UInt8)(i:Nat)(ah:i<65536)(g off G J:Nat)(s:By)(K:Nat)(al:K<=63)(P X:List Nat->Nat->Nat)(H:List Nat->(Nat->Prop)->World->Prop)(A:Nat->Prop)(y:List Nat->By)
  (E:BoxB w v l m n c d g G A) (aj:n0<=w.heap.size) (L:ZeM M n0 pb kk i s K P X H) (af:∀a x,y (a++[x])=y a++DG (P a x) (X a x)) (ag:∀a,(y a).size=10*a.length)
  (a:List Nat) (x:Nat) (ak:a.length<M) (W:World) (q:OA) (u r:Nat) (O:Nat->Prop) (h:RowI w v l m n c d pb kk i g off G J s H A y a a (.slice q u r) O W):
  (∀V,Calls Tryz.prog 244 #[.int .u8 (kk.toNat:Int),.int .i64 (i:Nat),.int .i64 (a.length:Nat)] V fun e w'=>e = .returned (.int .u64 (Dd kk.toNat i a.length:Nat))/\w'=V)/\
  (∀V,K6 w v l m n c d pb kk i g off G J s H A y a a (.slice q u r) O O W V->Calls Tryz.prog 213 #[.int .u8 (kk.toNat:Int),chV g off K G x] V fun e b=>e = .returned (Dx (Dw kk s K x))/\Jr l m n d pb kk i a.length b/\b.cell? ⟨c,0,none⟩=some (.slice q u r)/\Hid (K6 w v l m n c d pb kk i g off G J s H A y a a (.slice q u r) O O W b))/\
  (∀V,K6 w v l m n c d pb kk i g off G J s H A y a a (.slice q u r) O O W V->Calls Tryz.prog 272 #[.pointer (some ⟨pb,0,none⟩),.int .u64 (Dd kk.toNat i a.length:Nat),Dx (Dw kk s K x)] V fun e b=>e = .returned (.agg #[.int .i64 (P a x:Nat),.int .u64 (X a x:Nat)])/\Jr l m n d pb kk i a.length b/\b.cell? ⟨c,0,none⟩=some (.slice q u r)/\Hid (∃O',K6 w v l m n c d pb kk i g off G J s H A y a (a++[x]) (.slice q u r) O O' W b))/\
  (∀V,(∃O',K6 w v l m n c d pb kk i g off G J s H A y a (a++[x]) (.slice q u r) O O' W V)->Calls Tryz.prog 214 #[.agg #[.int .i64 (P a x:Nat),.int .u64 (X a x:Nat)],.slice q u r] V fun e b=>∃C F D,e = .returned (.slice C F D)/\Jr l m n d pb kk i a.length b/\Jr l m n d pb kk i a.length (b.setCell ⟨c,0,none⟩ (.slice C F D))/\b.cell? ⟨c,0,none⟩=some (.slice q u r)/\b.frozen? ⟨c,0,none⟩=false/\(b.setCell ⟨c,0,none⟩ (.slice C F D)).frozen? ⟨d,0,none⟩=false/\
   Hid (KeepsOthers W ((b.setCell ⟨c,0,none⟩ (.slice C F D)).setCell ⟨d,0,none⟩ (.int .i64 ((a.length:Int)+1)))/\QP v c d A W ((b.setCell ⟨c,0,none⟩ (.slice C F D)).setCell ⟨d,0,none⟩ (.int .i64 ((a.length:Int)+1)))/\RowE w v l m n c d pb kk i g off G J s H A y (a++[x]) ((b.setCell ⟨c,0,none⟩ (.slice C F D)).setCell ⟨d,0,none⟩ (.int .i64 ((a.length:Int)+1))))):=by
 have e4:=E.e4;have e5:=E.e5;have e6:=E.e6;have am:=E.e10;have an:=E.e11;have en:=E.en;have ai:kk.toNat<256:=kk.toNat_lt;refine⟨fun V=>Um V kk.toNat i a.length ai ah (by omega),fun V Q=>?_,fun V Q=>?_,fun V Q=>?_⟩
 ·obtain⟨f,N⟩:=Q;refine(ZeK V _ _ _ _ (f.rd.chunk K x) (by rw[UZ];omega) kk).mono ?_;rintro e b ⟨rfl,hb⟩;have p:=f.below L hb;exact⟨rfl,⟨p.b4.cell,p.b5.cell,p.b6.cell,p.b11.cell⟩,p.b10.cell,p,N.then (Fr.of_below hb (X:=fun _=>False)) (fun _ _ e=>e.elim)⟩
 ·obtain⟨f,N⟩:=Q;refine(L.put a x O V ak f.st).mono ?_;rintro e b ⟨rfl,O',Y,z,q3⟩;have p:=f.put E L Y z q3;exact⟨rfl,⟨p.b4.cell,p.b5.cell,p.b6.cell,p.b11.cell⟩,p.b10.cell,O',p,N.then z (fun _ _ e => .inl e)⟩
 ·obtain⟨O',f,N⟩:=Q;have al:=f.sz;refine(Zcz V v f.sz q u r _ f.rs _ _ (L.plt a x) (L.xlt a x) (by rw[ag];omega)).mono ?_;rintro e b ⟨C,F,D,rfl,Y,z,q3⟩;rw[<-af]at Y;have hD:=f.done E aj L (by simp) Y z q3;have R:∀B,B<v->¬Own (.slice q u r) B:=fun B E e=>by have:=f.rs.2 B e;omega
  have k4:Boxed b l 168 _:=(z.block _ f.b4.lt (R _ (by omega))).trans f.b4;have k5:Boxed b m 300 _:=(z.block _ f.b5.lt (R _ (by omega))).trans f.b5;have k6:Boxed b n 3 _:=(z.block _ f.b6.lt (R _ (by omega))).trans f.b6;have ab:Boxed b c 59 _:=(z.block _ f.b10.lt (R _ (by omega))).trans f.b10;have aa:Boxed b d 3 _:=(z.block _ f.b11.lt (R _ (by omega))).trans f.b11;have S:Fr (fun j=>O j\/Own (.slice q u r) j\/j=c\/j=d) W ((b.setCell ⟨c,0,none⟩ (.slice C F D)).setCell ⟨d,0,none⟩ (.int .i64 ((a.length:Int)+1))):=
   (Fr.set (N.then z (fun _ _ e => .inr (.inl e))) ⟨c,0,none⟩ _ (.inr (.inr (.inl rfl)))).set ⟨d,0,none⟩ _ (.inr (.inr (.inr rfl)))
  refine⟨C,F,D,rfl,⟨k4.cell,k5.cell,k6.cell,aa.cell⟩,⟨(k4.other (by omega) _).cell,(k5.other (by omega) _).cell,(k6.other (by omega) _).cell,(aa.other (by omega) _).cell⟩,ab.cell,ab.frozen,(aa.other (by omega) _).frozen,⟨S.size,fun k o U ho=>?_⟩,⟨S.size,fun k U hY ac ad=>?_⟩,_,O',hD⟩
  ·refine(S.block k (Array.getElem?_eq_some_iff.1 U).1 (fun e=>?_)).trans U;have T:∀Z t,W.heap[k]? ≠ some (Obj.cells Z t (0,0)):=fun Z t I=>by rw[U]at I;cases I;cases ho
   rcases e with e|e|e|e
   ·obtain⟨Z,t,I⟩:=L.cells _ _ _ h.st k e;exact T _ _ I
   ·rcases h.rs.1.2 with⟨I,_⟩|⟨g',c2,L2,I,ae,_⟩
    ·rw[I]at e;simp[Own,Value.ownBlock]at e
    ·rw[I]at e;simp[Own,Value.ownBlock]at e;subst e;exact T _ _ ae
   ·subst e;exact T _ _ h.b10
   ·subst e;exact T _ _ h.b11
  ·refine S.block k (by have:=h.sz;omega) (fun e=>?_);rcases e with e|e|e|e
   ·rcases h.hO k e with h1|h1
    ·exact hY h1
    ·omega
   ·have:=h.rs.2 k e;omega
   ·exact ac e
   ·exact ad e
end
section
open Go.RowKit Go.Shelf
attribute [local go_sem] Oper.semAt_some
theorem ZkI(w:World)(M:Nat)(hM:M<=1000)(n0 pb:Nat)(z:Nat)(aN:z<65536)(g off p y:Nat)(s:By)(au:RdB w (some ⟨g,off,none⟩) p y s)(aQ:p<=y)(hl:p<60000)(P X:List Nat->Nat->Nat)(Q:List Nat->(Nat->Prop)->World->Prop)(G O0:Nat->Prop)(H:List Nat->By)
  (aR:n0<=w.heap.size) (L:ZeM M n0 pb 3 z s 63 P X Q) (aJ:H []=⟨#[]⟩) (aI:∀q x,H (q++[x])=H q++DG (P q x) (X q x)) (aK:∀q,(H q).size=10*q.length)
  (av:Q [] O0 w) (aH:∀j,O0 j->G j) (ak:∀j,G j->j<w.heap.size) (aP:¬G g) (aO:g<w.heap.size) (N:Nat) (hN:N=(p+63-1)/63) (aU:N<=M):
  Calls Tryz.prog 237 #[.pointer (some ⟨pb,0,none⟩),.int .u8 3,.int .i64 (z:Nat),.slice (some ⟨g,off,none⟩) p y] w (Zl4 w (w.heap.size+7) Q G H N):=by
 obtain⟨W1,e1,x1,k1,s1,b1⟩:=De w [.pointer (some ⟨pb,0,none⟩)] 168;obtain⟨W2,e2,x2,k2,s2,b2⟩:=De W1 [.int .u8 3] 300;obtain⟨W3,e3,x3,k3,s3,b3⟩:=De W2 [.int .i64 (z:Nat)] 3;obtain⟨W4,e4,x4,k4,s4,b4⟩:=De W3 [.slice none 0 0] 59;obtain⟨W5,e5,x5,k5,s5,b5⟩:=De W4 [.int .i64 0] 3;obtain⟨W6,e6,x6,k6,s6,b6⟩:=De W5 [.slice (some ⟨g,off,none⟩) p y] 59;obtain⟨R,e7,x7,Z,s7,b7⟩:=De W6 [.int .i64 63] 3;have J:Below w.heap.size w R:=b1.trans ((b2.mono (by omega)).trans ((b3.mono (by omega)).trans ((b4.mono (by omega)).trans ((b5.mono (by omega)).trans ((b6.mono (by omega)).trans (b7.mono (by omega)))))));have y1:=Z _ _ _ (k6 _ _ _ (k5 _ _ _ (k4 _ _ _ (k3 _ _ _ (k2 _ _ _ x1)))));have y2:=Z _ _ _ (k6 _ _ _ (k5 _ _ _ (k4 _ _ _ (k3 _ _ _ x2))));have y3:=Z _ _ _ (k6 _ _ _ (k5 _ _ _ (k4 _ _ _ x3)));have y4:=Z _ _ _ (k6 _ _ _ (k5 _ _ _ x4));have y5:=Z _ _ _ (k6 _ _ _ x5);have y6:=Z _ _ _ x6;have t2:W2.heap.size=w.heap.size+1+1:=by omega
 have t3:W3.heap.size=w.heap.size+1+1+1:=by omega
 have t4:W4.heap.size=w.heap.size+1+1+1+1:=by omega
 have t5:W5.heap.size=w.heap.size+1+1+1+1+1:=by omega
 have t6:W6.heap.size=w.heap.size+1+1+1+1+1+1:=by omega
 have I:R.heap.size=w.heap.size+7:=by omega
 rw[s1]at y2;rw[t2]at y3;rw[t3]at y4;rw[t4]at y5;rw[t5]at y6;rw[t6]at x7;have hB:BoxB w (w.heap.size+7) w.heap.size (w.heap.size+1) (w.heap.size+1+1) (w.heap.size+1+1+1) (w.heap.size+1+1+1+1) g p G:=⟨rfl,rfl,rfl,rfl,rfl,by omega,ak,aP,aO⟩;have aq:RowE w (w.heap.size+7) w.heap.size (w.heap.size+1) (w.heap.size+1+1) (w.heap.size+1+1+1) (w.heap.size+1+1+1+1) pb 3 z g off p y s Q G H [] R:=⟨.slice none 0 0,O0,L.abides _ _ _ _ none av ⟨J.os,J.tape,J.output,J.size,fun k hk _=>J.block k hk⟩ (fun r e=>by cases e),fun j hj => .inl (aH j hj),y1,y2,y3,y4,y5,by rw[aJ];exact SlB.nil _ _,fun j _ e=>by simp[Own,Value.ownBlock]at e,au.below J,Fr.of_below J,by omega⟩;have aF:=Db aq;have al:=Db I;have ad:=Db hB;have ay:=Db e1;have az:=Db e2;have aA:=Db e3;have aB:=Db e4;have aC:=Db e5;have aD:=Db e6;have aE:=Db e7;have am:R.cell? ⟨(w.heap.size+1+1+1+1+1),0,none⟩=some (.slice (some ⟨g,off,none⟩) p y):=(y6.cell 0).trans rfl;have an:R.cell? ⟨(w.heap.size+1+1+1+1+1+1),0,none⟩=some (.int .i64 63):=(x7.cell 0).trans rfl;have aw:=Db am;have ax:=Db an;clear x1 x2 x3 x4 x5 x6 x7 k1 k2 k3 k4 k5 k6 Z s1 s2 s3 s4 s5 s6 s7 b1 b2 b3 b4 b5 b6 b7 y1 y2 y3 y4 y5 y6 t2 t3 t4 t5 t6 I e1 e2 e3 e4 e5 e6 e7 J aq am an av au hB;refine(callsIn_wide (n:=3)).1 ?_;refine callsIn_of_wp_marks Tryz.func237 rfl trivial ?_ rfl;simp only[Tryz.ntmps237,List.size_toArray,List.length_cons,List.length_nil,Nat.reduceAdd,Nat.reduceSub,Array.replicate_succ,Array.replicate_zero,List.push_toArray,List.append_toArray,List.nil_append,List.cons_append]
 gi_wp2_with (refine⟨trivial,?_⟩;gi_at_call 172;refine(U0 _ 63 (by omega) (by omega) _ _ ⟨_,_,_,rfl⟩).mono ?_;rintro e w' ⟨rfl,rfl⟩)
 rw[show w.alloc (.cells #[.pointer (some ⟨pb,0,none⟩)] 168)=W1 from Da ay,show W1.alloc (.cells #[.int .u8 3] 300)=W2 from Da az,show W2.alloc (.cells #[.int .i64 (z:Nat)] 3)=W3 from Da aA,show W3.alloc (.cells #[.slice none 0 0] 59)=W4 from Da aB,show W4.alloc (.cells #[.int .i64 0] 3)=W5 from Da aC,show W5.alloc (.cells #[.slice (some ⟨g,off,none⟩) p y] 59)=W6 from Da aD,show W6.alloc (.cells #[.int .i64 63] 3)=R from Da aE];rename_i K0 aG;have I:=Da al;have aV:N<=1000:=by rw[hN];omega
 refine wpIn_rangeFunc_ownF (α := Nat) rfl (by omega) (gf:=220) (lb := #[.pointer (some ⟨(w.heap.size+1+1+1+1+1),0,none⟩),.pointer (some ⟨(w.heap.size+1+1+1+1+1+1),0,none⟩)]) rfl trivial (enters_of Tryz.func220 (by kernel_rfl) rfl)
  (Zdp 2 (by omega) (w.heap.size+1+1+1+1+1) (w.heap.size+1+1+1+1+1+1) g off 63 p y (by omega) (by omega) aQ (by omega) N hN R (by omega) (by omega) (Da aw) (Da ax) (QP (w.heap.size+7) (w.heap.size+1+1+1) (w.heap.size+1+1+1+1) G)
   (fun A B ap h1 h2=>⟨(World.cell?_of_block (w:=A) (a:=⟨(w.heap.size+1+1+1+1+1),0,none⟩) (ap.2 (w.heap.size+1+1+1+1+1) (by omega) (fun e=>by have:=ak _ e;omega) (by omega) (by omega))).trans h1,(World.cell?_of_block (w:=A) (a:=⟨(w.heap.size+1+1+1+1+1+1),0,none⟩) (ap.2 (w.heap.size+1+1+1+1+1+1) (by omega) (fun e=>by have:=ak _ e;omega) (by omega) (by omega))).trans h2⟩))
  (fun h1 h2=>⟨Nat.le_trans h1.1 h2.1,fun k a b c d=>(h2.2 k a b c d).trans (h1.2 k a b c d)⟩)
  (fun X l o o' hl ho _ _=>⟨by simp[World.putObj],fun k hk _ _ _=>by
   have:=I;simp only[World.putObj];rw[Array.getElem?_setIfInBounds];rw[if_neg (by omega)]⟩)
  (Below.refl _ _) (fun _=>rfl)
  (fun q X=>RowE w (w.heap.size+7) w.heap.size (w.heap.size+1) (w.heap.size+1+1) (w.heap.size+1+1+1) (w.heap.size+1+1+1+1) pb 3 z g off p y s Q G H q X)
  (fun _ _ _=>False)
  (fun q A B row hs hg hr=>by
   obtain⟨v,O,h⟩:=hs;exact⟨v,O,h.own L (Da ad) hg (fun r e=>by rw[<-I];exact hr r e)⟩)
  (fun _ _ _ _ _ hs _ _=>hs)
  (Da aF)
  (fun x=>{ tmps := #[.pointer (some ⟨pb,0,none⟩),.int .u8 3,.int .i64 (z:Nat),.slice (some ⟨g,off,none⟩) p y,.pointer (some ⟨w.heap.size,0,none⟩),.pointer (some ⟨(w.heap.size+1),0,none⟩),.pointer (some ⟨(w.heap.size+1+1),0,none⟩),undef,.slice none 0 0,.int .i64 63,.pointer (some ⟨(w.heap.size+1+1+1),0,none⟩),.pointer (some ⟨(w.heap.size+1+1+1+1),0,none⟩),chV g off 63 p x,.int .u8 3,.bool false,undef,undef,.slice (some ⟨g,off,none⟩) p y,.int .i64 63,.func (.func 220) #[] #[.pointer (some ⟨(w.heap.size+1+1+1+1+1),0,none⟩),.pointer (some ⟨(w.heap.size+1+1+1+1+1+1),0,none⟩)],chV g off 63 p x,undef,undef,undef,undef,undef,undef,undef,undef,undef,undef,undef,undef,undef,undef],defers:=[] })
  ?assign ?body ?done ?stop
 case assign=>
  intro l x X K f;clear I
  gi_wp2
  exact f
 case body=>
  rintro l q x W ⟨v,O,t⟩ aW;obtain⟨ra,rl,rc,rfl⟩:=t.rs.1.shape;obtain⟨h4,h7,h8,ao⟩:=Zhy w M hM n0 (w.heap.size+7) w.heap.size (w.heap.size+1) (w.heap.size+1+1) (w.heap.size+1+1+1) (w.heap.size+1+1+1+1) pb 3 z aN g off p y s 63 (by omega) P X Q G H (Da ad) aR L aI aK q x (by omega) W ra rl rc O t;have H4:=Db h4;have H7:=Db h7;have H8:=Db h8;have ac:=Db ao;have m:Hid (K6 w (w.heap.size+7) w.heap.size (w.heap.size+1) (w.heap.size+1+1) (w.heap.size+1+1+1) (w.heap.size+1+1+1+1) pb 3 z g off p y s Q G H q q (.slice ra rl rc) O O W W.drew):=⟨t.below L (Below.refl _ _).drew,⟨rfl,rfl,rfl,Nat.le_refl _,fun _ _ _=>rfl⟩⟩;have aL:Jr w.heap.size (w.heap.size+1) (w.heap.size+1+1) (w.heap.size+1+1+1+1) pb 3 z q.length W.drew:=⟨t.b4.cell,t.b5.cell,t.b6.cell,t.b11.cell⟩;have Y:W.drew.cell? ⟨(w.heap.size+1+1+1),0,none⟩=some (.slice ra rl rc):=t.b10.cell;clear h4 h7 h8 ao t I
  gi_step
  gi_step
  gi_step
  refine ZbI (Jr w.heap.size (w.heap.size+1) (w.heap.size+1+1) (w.heap.size+1+1+1+1) pb 3 z q.length) (by kernel_rfl) (fun hh=>by obtain⟨_,_,hh⟩:=hh;exact hh) (by kernel_rfl) aL (fun aT=>?_);refine wpAnyH_take (i:=0) (v:=?_) rfl (by kernel_rfl) (by kernel_rfl) (by kernel_rfl) (fun _ _ _ h=>h) (Or.inl ⟨by rfl,?_⟩) (by assumption) ?_
  rotate_left
  ·intro w F;(try unfold Jr at F);go_simp<;>with_reducible rfl
  (try simp only[pE])
  refine wpAnyH_take (i:=1) (v:=?_) rfl (by kernel_rfl) (by kernel_rfl) (by kernel_rfl) (fun _ _ _ h=>h) (Or.inl ⟨by rfl,?_⟩) (by assumption) ?_
  rotate_left
  ·intro w F;(try unfold Jr at F);go_simp<;>with_reducible rfl
  (try simp only[pE])
  refine wpAnyH_take (i:=2) (v:=?_) rfl (by kernel_rfl) (by kernel_rfl) (by kernel_rfl) (fun _ _ _ h=>h) (Or.inl ⟨by rfl,?_⟩) (by assumption) ?_
  rotate_left
  ·intro w F;(try unfold Jr at F);go_simp<;>with_reducible rfl
  (try simp only[pE])
  refine wpAnyH_take (i:=3) (v:=?_) rfl (by kernel_rfl) (by kernel_rfl) (by kernel_rfl) (fun _ _ _ h=>h) (Or.inl ⟨by rfl,?_⟩) (by assumption) ?_
  rotate_left
  ·intro w F;(try unfold Jr at F);go_simp<;>with_reducible rfl
  (try simp only[pE])
  refine wpAnyH_take (i:=5) (v:=?_) rfl (by kernel_rfl) (by kernel_rfl) (by kernel_rfl) (fun _ _ _ h=>h) (Or.inl ⟨by rfl,?_⟩) (by assumption) ?_
  rotate_left
  ·intro w F;(try unfold Jr at F);go_simp<;>with_reducible rfl
  (try simp only[pE])
  refine wpAnyH_take (i:=6) (v:=?_) rfl (by kernel_rfl) (by kernel_rfl) (by kernel_rfl) (fun _ _ _ h=>h) (Or.inl ⟨by rfl,?_⟩) (by assumption) ?_
  rotate_left
  ·intro w F;(try unfold Jr at F);go_simp<;>with_reducible rfl
  (try simp only[pE])
  refine wpAnyH_ready (rs:=[4,9]) (by kernel_rfl) (by simp) ?_;refine(AllReadyH.cons (i:=4) rfl ?_ (AllReadyH.cons (i:=9) rfl ?_ AllReadyH.nil))
  ·intro K f;go_simp;go_at_call 244;refine(Da H4 _).mono ?_;rintro e w' ⟨rfl,hw⟩;rw[hw];clear hw;go_wp2_with fail;refine f.out _ _ (by assumption) (fun aM=>?_);clear f K
   (try simp only[pE])
   refine wpAnyH_ready (rs:=[7,9]) (by kernel_rfl) (by simp) ?_;refine(AllReadyH.cons (i:=7) rfl ?_ (AllReadyH.cons (i:=9) rfl ?_ AllReadyH.nil))
   ·intro K f;go_simp;go_at_call 213;refine(Da H7 _ (Da m)).mono ?_;clear m;rintro e V ⟨rfl,ab,Y,m⟩;go_wp2_with fail;refine f.out _ _ ab (fun ar=>?_);clear f K
    (try simp only[pE])
    refine wpAnyH_ready (rs:=[8,9]) (by kernel_rfl) (by simp) ?_;refine(AllReadyH.cons (i:=8) rfl ?_ (AllReadyH.cons (i:=9) rfl ?_ AllReadyH.nil))
    ·intro K f;go_simp;go_at_call 272;refine(Da H8 _ (Da m)).mono ?_;clear m;rintro e V8 ⟨rfl,U,Y,m⟩;go_wp2_with fail;refine f.out _ _ U (fun af=>?_);clear f K
     (try simp only[pE])
     refine wpAnyH_ready (rs:=[9]) (by kernel_rfl) (by simp) ?_;refine(AllReadyH.cons (i:=9) rfl ?_ AllReadyH.nil)
     ·intro K f;go_simp;refine f.out _ _ (by assumption) (fun ag=>?_);clear f K
      (try simp only[pE])
      refine rk 10 (fun K f=>?_);go_simp;go_at_call 214;refine(Da ac _ (Da m)).mono ?_;clear m;rintro e ae ⟨a',l',c',rfl,C,E,ah,ai,aj,u⟩;go_wp2_with fail;refine f.out _ _ C (fun S=>?_);clear f K
      (try simp only[pE])
      refine rk 11 (fun K f=>?_);go_simp;refine f.out _ _ E (fun T=>?_);clear f K
      (try simp only[pE])
      refine wpAnyH_done (by kernel_rfl) ?_ _;have cT:=E.2.2.2;clear C S T
      gi_wp2
      exact⟨(Da u).1,(Da u).2.1,(Da u).2.2⟩
    ·intro K f;go_simp;refine f.out _ _ (by assumption) (fun ag=>?_);clear f K
     (try simp only[pE])
     refine wpAnyH_ready (rs:=[8]) (by kernel_rfl) (by simp) ?_;refine(AllReadyH.cons (i:=8) rfl ?_ AllReadyH.nil)
     ·intro K f;go_simp;go_at_call 272;refine(Da H8 _ (Da m)).mono ?_;clear m;rintro e V8 ⟨rfl,U,Y,m⟩;go_wp2_with fail;refine f.out _ _ U (fun af=>?_);clear f K
      (try simp only[pE])
      refine rk 10 (fun K f=>?_);go_simp;go_at_call 214;refine(Da ac _ (Da m)).mono ?_;clear m;rintro e ae ⟨a',l',c',rfl,C,E,ah,ai,aj,u⟩;go_wp2_with fail;refine f.out _ _ C (fun S=>?_);clear f K
      (try simp only[pE])
      refine rk 11 (fun K f=>?_);go_simp;refine f.out _ _ E (fun T=>?_);clear f K
      (try simp only[pE])
      refine wpAnyH_done (by kernel_rfl) ?_ _;have cT:=E.2.2.2;clear C S T
      gi_wp2
      exact⟨(Da u).1,(Da u).2.1,(Da u).2.2⟩
   ·intro K f;go_simp;refine f.out _ _ (by assumption) (fun ag=>?_);clear f K
    (try simp only[pE])
    refine wpAnyH_ready (rs:=[7]) (by kernel_rfl) (by simp) ?_;refine(AllReadyH.cons (i:=7) rfl ?_ AllReadyH.nil)
    ·intro K f;go_simp;go_at_call 213;refine(Da H7 _ (Da m)).mono ?_;clear m;rintro e V ⟨rfl,ab,Y,m⟩;go_wp2_with fail;refine f.out _ _ ab (fun ar=>?_);clear f K
     (try simp only[pE])
     refine wpAnyH_ready (rs:=[8]) (by kernel_rfl) (by simp) ?_;refine(AllReadyH.cons (i:=8) rfl ?_ AllReadyH.nil)
     ·intro K f;go_simp;go_at_call 272;refine(Da H8 _ (Da m)).mono ?_;clear m;rintro e V8 ⟨rfl,U,Y,m⟩;go_wp2_with fail;refine f.out _ _ U (fun af=>?_);clear f K
      (try simp only[pE])
      refine rk 10 (fun K f=>?_);go_simp;go_at_call 214;refine(Da ac _ (Da m)).mono ?_;clear m;rintro e ae ⟨a',l',c',rfl,C,E,ah,ai,aj,u⟩;go_wp2_with fail;refine f.out _ _ C (fun S=>?_);clear f K
      (try simp only[pE])
      refine rk 11 (fun K f=>?_);go_simp;refine f.out _ _ E (fun T=>?_);clear f K
      (try simp only[pE])
      refine wpAnyH_done (by kernel_rfl) ?_ _;have cT:=E.2.2.2;clear C S T
      gi_wp2
      exact⟨(Da u).1,(Da u).2.1,(Da u).2.2⟩
  ·intro K f;go_simp;refine f.out _ _ (by assumption) (fun ag=>?_);clear f K
   (try simp only[pE])
   refine wpAnyH_ready (rs:=[4]) (by kernel_rfl) (by simp) ?_;refine(AllReadyH.cons (i:=4) rfl ?_ AllReadyH.nil)
   ·intro K f;go_simp;go_at_call 244;refine(Da H4 _).mono ?_;rintro e w' ⟨rfl,hw⟩;rw[hw];clear hw;go_wp2_with fail;refine f.out _ _ (by assumption) (fun aM=>?_);clear f K
    (try simp only[pE])
    refine wpAnyH_ready (rs:=[7]) (by kernel_rfl) (by simp) ?_;refine(AllReadyH.cons (i:=7) rfl ?_ AllReadyH.nil)
    ·intro K f;go_simp;go_at_call 213;refine(Da H7 _ (Da m)).mono ?_;clear m;rintro e V ⟨rfl,ab,Y,m⟩;go_wp2_with fail;refine f.out _ _ ab (fun ar=>?_);clear f K
     (try simp only[pE])
     refine wpAnyH_ready (rs:=[8]) (by kernel_rfl) (by simp) ?_;refine(AllReadyH.cons (i:=8) rfl ?_ AllReadyH.nil)
     ·intro K f;go_simp;go_at_call 272;refine(Da H8 _ (Da m)).mono ?_;clear m;rintro e V8 ⟨rfl,U,Y,m⟩;go_wp2_with fail;refine f.out _ _ U (fun af=>?_);clear f K
      (try simp only[pE])
      refine rk 10 (fun K f=>?_);go_simp;go_at_call 214;refine(Da ac _ (Da m)).mono ?_;clear m;rintro e ae ⟨a',l',c',rfl,C,E,ah,ai,aj,u⟩;go_wp2_with fail;refine f.out _ _ C (fun S=>?_);clear f K
      (try simp only[pE])
      refine rk 11 (fun K f=>?_);go_simp;refine f.out _ _ E (fun T=>?_);clear f K
      (try simp only[pE])
      refine wpAnyH_done (by kernel_rfl) ?_ _;have cT:=E.2.2.2;clear C S T
      gi_wp2
      exact⟨(Da u).1,(Da u).2.1,(Da u).2.2⟩
 case done=>
  rintro D ys X hD rfl ⟨v,O,t⟩ f;have aS:=t.b10.cell;obtain⟨ra,rl,rc,rfl⟩:=t.rs.1.shape;have HR:=Db t;clear t I;show K0 _ _;refine aG _ _ ?_
  gi_wp2
  have t:=Da HR;have I:=Da al;refine⟨by simp,.inl ⟨_,_,rfl,run_takeDeferred f,?_⟩⟩;have hg:X.grownBy (X.putObj D (.deferred none)) (some D):=⟨rfl,rfl,rfl,by simp[World.putObj],fun k _ hk=>by
   simp only[World.putObj];rw[Array.getElem?_setIfInBounds,if_neg (fun e=>hk (by rw[e]))]⟩
  have aa:=t.own L (Da ad) hg (fun r e=>by cases e;exact⟨by omega,_,f,rfl⟩);exact⟨_,results_tmp rfl _ _ _,ra,rl,rc,O,rfl,aa.rs,aa.st,aa.hO,aa.dis,aa.fr⟩
 case stop=>
  rintro D c q X _ _ h _;exact h.elim
end
section
open Go.RowKit Go.Shelf
attribute [local go_sem] Oper.semAt_some
theorem Zoe:(Tryz.prog.info? 245).map (fun i=>(i.zero,i.size))=some (some (.agg (List.replicate 60 (.bool false)).toArray),60):=by kernel_rfl
theorem ZnD:∀w,(zeroValue 245).run Tryz.prog w = .ok (.agg (List.replicate 60 (.bool false)).toArray) w:=(zero_of_info Zoe).1
theorem Zoy(n:Nat)(a:OA)(w:World):
  CallsIn Fence.wide n Tryz.prog 115 #[.pointer a] w fun e w'=>e = .returned (.func (.func 169) #[] #[.pointer (some ⟨w.heap.size,0,none⟩)])/\w'=w.alloc (.cells #[.pointer a] 37):=by
 refine callsIn_wide.2 ?_;go_enter Tryz.func115,Tryz.ntmps115;go_wp2;go_ret;exact⟨rfl,rfl⟩
end
end Go.Proofs.YtaieidcohdhgpaaGreatDoor
