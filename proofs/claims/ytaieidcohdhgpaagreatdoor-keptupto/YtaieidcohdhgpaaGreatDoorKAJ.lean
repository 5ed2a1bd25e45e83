/- Kept. -/
import Derived.Test.YtaieidcohdhgpaaGreatDoorKAI
namespace Go.Proofs.YtaieidcohdhgpaaGreatDoor
variable{p:By}{F:Fence}{E:Ge}{L:Gf}{B a b c d l m n n0 pb q r so:Nat}{O g:Nat->Prop}{o:Oper}{P:Program}{A C W X w:World}
set_option maxHeartbeats 40000000
set_option maxRecDepth 100000
set_option linter.all false
open Tryz
open Go.RowKit
theorem M4(w:World)(b:Nat)(hb:b<=w.heap.size)(v:Value)(s:By)(h:GD b w v s)(t:By)(hl:s.size+t.size<=4000000):
  ∃i m j w',(Builtin.append_ #[59,9] 59 #[v,dU t]).run prog w=.ok (dT i m j) w'/\GD b w' (dT i m j) (s++t)/\Fr (Own v) w w'/\Dm w v (dT i m j):=by
 obtain⟨o,r,C,x,P⟩:=Bk Q0;have u:Lib.strCells t=Dd t:=rfl;have Q:∃d w',(Builtin.append_ #[59,9] 59 #[v,dU t]).run prog w=.ok d w'/\Sl w' 5 1 d (s.size+t.size) (Dd s++Dd t)/\w.grownBy w' v.ownBlock/\Dm w v d:=by
  rcases h.1.2 with⟨rfl,h0⟩|⟨g,a,L,rfl,A,h3,F,G,z⟩;obtain⟨d,w',R,y,S,_⟩:=Lib.run_append_own_string w _ 59 9 59 5 o underlying59 underlying9 r C x P dN _ (Dd s) ⟨h.1.1,Γ⟩ t (by grind [maxLen]) Ω (Aa _);rw[u]at y;exact⟨d,w',R,Sl.a3 y,S,λg q => .inr (y.lt g q).1⟩;rw[B2]at G z;by_cases B:s.size+t.size<=a;have l:=Lib.run_append_room_string w 59 9 59 5 o underlying59 underlying9 r x g _ a _ A t B Ξ;rw[u]at l;refine⟨_,_,l,⟨by rw[Ah,Dh,Dh,B2],.inr ⟨g,a,L.take s.size++Dd t++L.drop (s.size+t.size),rfl,Bo w g L.toArray _ 5 _ A,B,F,?_,?_⟩⟩,?_,λk c => .inl c⟩;grind [List.length_append,List.length_take,List.length_drop,Dh];rw[z,B2];grind [Dd,List.length_append,Dh,List.take_left];exact⟨rfl,rfl,rfl,Θ,by grind [setRow_other,Value.ownBlock]⟩;have N:=h.1.bp.cells rfl;have J:Builtin.nextslicecap (s.size+t.size) a*o.bytes<=281474976710656:=F4 Ω Γ;have l:=Lib.run_append_grow_string w 59 9 59 5 o _ underlying59 underlying9 r C _ _ a (Dd s) (by rw[Dh,x,B2]) N t Ω Ω J;rw[u]at l;have K:=grownCap_ge w (s.size+t.size) a 5;have I:grownCap w (s.size+t.size) a 5<=maxLen:=by grind [grownCap_le_maxLen,maxLen]
  have M:(Dd s++Dd t).length=(s.size+t.size)*1:=by simp_all[List.length_append,Dh,Nat.mul_one]
  refine⟨_,_,l,⟨M,.inr ⟨w.heap.size,_,((Dd s).toArray++(Dd t).toArray++Builtin.zeroCells (Value.int .u8 0).cells (grownCap w (s.size+t.size) a 5-(s.size+t.size))).toList,rfl,by exact Bv _ _,K,I,?_,?_⟩⟩,⟨rfl,rfl,rfl,Θ,λk c _=>BH w.drew _ k c⟩,λk c=>?_⟩;simp only[AF,EV,AS,EW,Dh];show _+_*1=_;omega;grind;grind [Value.ownBlock]
 obtain⟨d,w2,T,U,n,D⟩:=Q;obtain⟨i,m,j,rfl⟩:=U.a0;refine⟨i,m,j,w2,T,⟨?_,λg q=>(D g q).elim (h.2 g) Ω⟩,⟨n.os,n.tape,n.output,n.size,λk c H=>n.block k c (λe=>H e.r)⟩,D⟩;grind [Qd,ByteArray.size_append]
structure GX(w:World)(b n0 B4 B5 B7 pb db sb so:Nat)(E:Ge)(p:By)(k:Nat)(f:Int)(vd:Value)(O0:Nat->Prop)(v0:Value)(st:Pl)(O:Nat->Prop)(v:Value)(t:By)(W:World):Prop where
 st:Hv n0 pb db sb so E st O W
 hO:∀j,O j->O0 j\/w.heap.size+3<=j
 b4:Boxed W B4 168 (dP pb)
 b5:Boxed W B5 59 v
 b7:Gb W B7 141 [dU p,.int .u8 k,dI f,vd]
 rs:GD b W v t
 hv:∀j,Own v j->Own v0 j\/w.heap.size+3<=j
 ar:∀j,O j->¬Own v j
 e:Fr (λj=>O0 j\/Own v0 j) w W
 sz:w.heap.size+3<=W.heap.size
structure MA(w:World)(b n0 B4 B5 B7:Nat)(O0:Nat->Prop)(v0:Value):Prop where
 e4:B4=w.heap.size
 e5:B5=w.heap.size+1
 e7:B7=w.heap.size+2
 o0:∀j,O0 j->j<w.heap.size
 ov:∀j,Own v0 j->j<w.heap.size
 nv:∀j,Own v0 j->n0<=j
 nb:b<=w.heap.size
 gk:n0<=w.heap.size
section
variable{w:World}{b n0 B4 B5 B7 pb db sb so:Nat}{E:Ge}{p:By}{k:Nat}{f:Int}{vd:Value}{O0:Nat->Prop}{v0:Value}{st:Pl}{O:Nat->Prop}{v:Value}{t:By}{W W':World}
theorem GX.below(h:GX w b n0 B4 B5 B7 pb db sb so E p k f vd O0 v0 st O v t W)(a:Bw W W'):GX w b n0 B4 B5 B7 pb db sb so E p k f vd O0 v0 st O v t W':=
 ⟨h.st.aw (row:=none) ⟨a.os,a.tape,a.output,a.size,λk c _=>a.block k c⟩ Γ,h.hO,(a.block _ h.b4.lt).M h.b4,(a.block _ h.b5.lt).M h.b5,(a.block _ h.b7.lt).M h.b7,h.rs.below a,h.hv,h.ar,h.e.then (Fr.S a (X:=λ_=>False)) (λ_ _ e=>e.elim),Ae h.sz a.size⟩
theorem GX.au(c:MA w b n0 B4 B5 B7 O0 v0)(h:GX w b n0 B4 B5 B7 pb db sb so E p k f vd O0 v0 st O v t W){g:Value}{r:By}(m:GD b W' g r)(i:Fr (Own v) W W')(o:Dm W v g):GX w b n0 B4 B5 B7 pb db sb so E p k f vd O0 v0 st O g r (W'.setCell (dQ B5 0) g):=by
 have e4:=c.e4;have e5:=c.e5;have e7:=c.e7;have ac:=h.sz;have aa:=i.size;have ab:=c.gk;have nV:∀B,w.heap.size<=B->B<w.heap.size+3->¬Own v B:=λB l s e=>by rcases h.hv B e with a|a;have:=c.ov B a;omega;omega
 have q:∀j,Own g j->Own v0 j\/w.heap.size+3<=j:=λj d=>(o j d).elim (h.hv j) Ω;have z:∀B,w.heap.size<=B->B<w.heap.size+3->¬Own g B:=λB l s e=>by rcases q B e with a|a;have:=c.ov B a;omega;omega
 have nO:¬O B5:=λe=>by rcases h.hO _ e with a|a;have:=c.o0 _ a;omega;omega
 have l:=h.st.a9 i (λj d=>⟨λho=>h.ar j ho d,(h.hv j d).elim (c.nv j) Ω⟩);have n:Fr (λj=>j=B5) W' (W'.setCell (dQ B5 0) g):=(Fr.refl _ _).set _ _ rfl;have u:Boxed W' B4 168 _:=(i.block _ h.b4.lt Γ).M h.b4;have x:Boxed W' B5 59 _:=(i.block _ h.b5.lt Γ).M h.b5;have y:Gb W' B7 141 _:=(i.block _ h.b7.lt Γ).M h.b7;refine⟨l.a9 n Γ,h.hO,u.other Ω _,x.set _,(Aw _ _ _ _ Γ).M y,⟨m.1.setCell _ _ (z B5 Ω Ω),m.2⟩,q,λj ho d=>(o j d).elim (h.ar j ho) (λe=>?_),?_,by grind [World.setCell]⟩;obtain⟨cs,t,hb⟩:=h.st.cells ho;simp_all;refine(h.e.then i (λj d e=>(h.hv j e).elim .inr Ω)).then n Ω
end
section
open Go.RowKit Go.Shelf
attribute [local go_sem] Oper.semAt_some
def D2(last p:By)(k:Nat):By:=⟨#[UInt8.ofNat k,UInt8.ofNat (J5 last p),UInt8.ofNat (p.size-J5 last p)]⟩
def DO(last p:By):By:=p.extract (J5 last p) p.size
theorem Zg(a b:By):J5 a b<=a.size/\J5 a b<=b.size:=T6 _ _
def UP(w:World)(b n0 pb db sb so:Nat)(E:Ge)(O0:Nat->Prop)(v0:Value)(st:Pl)(t:By)(e:Ending)(w':World):Prop:=
 ∃a' l' c' O',e=dR (dT a' l' c')/\GD b w' (dT a' l' c') t/\Hv n0 pb db sb so E st O' w'/\(∀j,O' j->O0 j\/w.heap.size<=j)/\(∀j,Own (dT a' l' c') j->Own v0 j\/w.heap.size<=j)/\(∀j,O' j->¬Own (dT a' l' c') j)/\Fr (λj=>O0 j\/Own v0 j) w w'
theorem GX.post{o i:Nat}{k:Nat}{f:Int}{u:Value}{n:Value}{st:Pl}{a:OA}{t:By}(h:GX w b n0 o q r pb i m so E p k f u g n st O (dT a l c) t W){e:Ending}(s:e=dR (dT a l c)):UP w b n0 pb i m so E g n st t e W:=
 ⟨a,l,c,O,s,h.rs,h.st,λj d=>(h.hO j d).imp id (λe=>Ω),λj d=>(h.hv j d).imp id (λe=>Ω),h.ar,h.e⟩
def LK:Nat->Code->Code
 |n+1,.seq _ b=>LK n b
 |_,c=>c
def WA(w:World)(b n0 pb db sb so:Nat)(E:Ge)(st:Pl)(O0:Nat->Prop)(a0:OA)(l0 c0:Nat)(s last p:By)(k fn:Nat)(vd:Value)(Post:Ending->World->Prop):Prop:=
 ∀V a2 l2 c2 vA v13 v14 v15 v16 v17 v18 v19 v20 v21 v22 v23 v24 v25 v26 v27 v28 v29 v30 v31 v32 v33 v34 v35,V.cell? ⟨w.heap.size+1+1,1,none⟩=some (.int .u8 (k:Nat))->GX w b n0 w.heap.size (w.heap.size+1) (w.heap.size+1+1) pb db sb so E p k (fn:Nat) vd O0 (dT a0 l0 c0) st O0 (dT a2 l2 c2) (s++D2 last p k++DO last p) V->
  Code.wpIn Fence.wide 3 prog (LK 4 (Tryz.f236.body.getD .skip)) (bodyPostM Fence.wide 3 prog Tryz.f236 Post) { tmps:=#[dP pb,dT a0 l0 c0,dU last,vA,dP w.heap.size,.pointer (some ⟨w.heap.size+1,0,none⟩),undef,.pointer (some ⟨w.heap.size+1+1,0,none⟩),dN,dI (J5 last p:Nat),undef,undef,undef,v13,v14,v15,v16,v17,v18,v19,v20,v21,v22,v23,v24,v25,v26,v27,v28,v29,v30,v31,v32,v33,v34,v35,undef,undef,undef,undef,undef,undef,undef,undef,undef,undef,undef,undef,undef,undef,undef,undef,undef,undef,undef,undef,undef,undef,undef,undef,undef,undef,undef,undef,undef,undef,undef,undef,undef,undef,undef,undef,undef,undef,undef],defers:=[] } V
theorem RQ(w:World)(b n0 pb J P so:Nat)(E:Ge)(st:Pl)(g:Nat->Prop)(ac:Hv n0 pb J P so E st g w)(a:OA)(d c:Nat)(s:By)(hs:GD b w (dT a d c) s)(aU:s.size<=1000000)(am:∀j,g j->¬Own (dT a d c) j)(an:∀j,Own (dT a d c) j->n0<=j)(W:b<=w.heap.size)(f p:By)(aQ:f.size<=100000)(hp:p.size<=100000)(k fn:Nat)(hk:k<256)(x:OA)(y z:Nat)(ah:Ending->World->Prop)(ap:MA w b n0 w.heap.size (w.heap.size+1) (w.heap.size+1+1) g (dT a d c)->WA w b n0 pb J P so E st g a d c s f p k fn (dT x y z) ah):
  Cl 236 #[dP pb,dT a d c,dU f,.agg #[dU p,.int .u8 (k:Nat),dI (fn:Nat),dT x y z]] w ah:=by
 obtain⟨W1,e1,x1,k1,s1,b1⟩:=Df w [dP pb] 168;obtain⟨W2,e2,x2,k2,s2,b2⟩:=Df W1 [dT a d c] 59;obtain⟨o,e3,x3,k3,s3,b3⟩:=Df W2 [dU p,.int .u8 (k),dI (fn),dT x y z] 141;have D:=b1.M ((b2.Q Ω).M (b3.Q Ω));have y1:=k3 _ _ _ (k2 _ _ _ x1);have y2:=k3 _ _ _ x2;have t2:W2.heap.size=w.heap.size+1+1:=Ω;rw[s1]at y2;rw[t2]at x3;have al:∀j,g j->j<w.heap.size:=λj I=>by obtain⟨cs,t,W⟩:=ac.cells I;exact(Au.1 W).1
 have hB:MA w b n0 w.heap.size (w.heap.size+1) (w.heap.size+1+1) g (dT a d c):=⟨rfl,rfl,rfl,al,λj I=>hs.1.lt I,an,W,ac.2.2.1⟩;have ak:GX w b n0 w.heap.size (w.heap.size+1) (w.heap.size+1+1) pb J P so E p k (fn:Nat) (dT x y z) g (dT a d c) st g (dT a d c) s o:=⟨ac.aw (row:=none) ⟨D.os,D.tape,D.output,D.size,λk hk _=>D.block k hk⟩ (λr e=>by cases e),λj I => .inl I,y1,y2,x3,hs.below D,λj I => .inl I,am,Fr.S D,Ω⟩;obtain⟨N,L⟩:=ex (J5 f p);have aO:N<=p.size:=by rw[L];exact(Zg _ _).2
 obtain⟨R,aa⟩:∃M:Nat,M=(UInt8.ofNat N).toNat:=⟨_,rfl⟩;obtain⟨T,ab⟩:∃M:Nat,M=(UInt8.ofNat (p.size-N)).toNat:=⟨_,rfl⟩;have ad:((p.size:Int)-(N:Int))=((p.size-N:Nat):Int):=Ω;have aV:IntKind.u8.wrap (N:Int)=(R:Int):=by rw[aa];exact Up N
 have aX:IntKind.u8.wrap ((p.size:Int)-(N:Int))=(T:Int):=by rw[ab,ad];exact Up _
 have aW:(N:Int)%256=(R:Int):=by rw[aa,CR];omega
 have aY:((p.size:Int)-(N:Int))%256=(T:Int):=by rw[ab,ad,CR];omega
 clear ad;have av:=Db ak;have Q:=Db hB;have ay:=Db (ap hB);have ax:=Db L;clear ap;have HA:Hid (∀X,Bw o X->X.cell? (dQ (w.heap.size+1) 0)=some (dT a d c)/\X.cell? (dQ (w.heap.size+1+1) 0)=some (dU p)/\X.cell? (dQ (w.heap.size+1+1) 1)=some (.int .u8 (k))/\∃Y h l i G,X.alloc (.cells #[.int .u8 (k),.int .u8 (R),.int .u8 (T)] 5)=Y/\Y.cell? (dQ (w.heap.size+1) 0)=some (dT a d c)/\(Builtin.append_ #[59,59] 59 #[dT a d c,dS X.heap.size 3 3]).run prog Y=.ok (dT h l i) G/\G.cell? (dQ (w.heap.size+1) 0)=some (dT a d c)/\G.frozen? (dQ (w.heap.size+1) 0)=false/\∃Z,G.setCell (dQ (w.heap.size+1) 0) (dT h l i)=Z/\Hid (GX w b n0 w.heap.size (w.heap.size+1) (w.heap.size+1+1) pb J P so E p k (fn) (dT x y z) g (dT a d c) st g (dT h l i) (s++D2 f p k) Z)):=λX hX=>by
  have B:=(Da av).below hX;obtain⟨Y,eY,xY,kY,sY,bY⟩:=Df X [.int .u8 (k),.int .u8 (R),.int .u8 (T)] 5;have H:=B.below bY;have aE:Dd (D2 f p k)=[.int .u8 (k),.int .u8 (R:Nat),.int .u8 (T:Nat)]:=by rw[aa,ab,L,show(k:Int)=((UInt8.ofNat k).toNat:Nat) by rw[CR];omega];rfl
  obtain⟨h,l,i,G,r1,r2,O,r4⟩:=QX Y b (Ae W (Ae H.e.size (Aa _))) _ _ H.rs _ 3 3 (D2 f p k) rfl (λj u hu=>by rw[AG,Av,xY.J,<-aE];exact hu) Ω;have q5:Boxed G (w.heap.size+1) 59 (dT a d c):=(O.block _ H.b5.lt (λe=>by rcases H.hv _ e with m|m;(have:=(Da Q).ov _ m;omega);omega)).M H.b5;exact⟨B.b5.J,(B.b7.J 0).M rfl,(B.b7.J 1).M rfl,Y,h,l,i,G,eY,H.b5.J,r1,q5.J,q5.A,_,rfl,H.au (Da Q) r2 O r4⟩
 have HT:Hid (∀Z h l i,GX w b n0 w.heap.size (w.heap.size+1) (w.heap.size+1+1) pb J P so E p k (fn:Nat) (dT x y z) g (dT a d c) st g (dT h l i) (s++D2 f p k) Z->Z.cell? (dQ (w.heap.size+1) 0)=some (dT h l i)/\Z.cell? (dQ (w.heap.size+1+1) 0)=some (dU p)/\∃v F A w2,(Builtin.append_ #[59,9] 59 #[dT h l i,dU (p.extract N p.size)]).run prog Z.drew=.ok (dT v F A) w2/\w2.cell? (dQ (w.heap.size+1) 0)=some (dT h l i)/\w2.cell? (dQ (w.heap.size+1+1) 0)=some (dU p)/\w2.frozen? (dQ (w.heap.size+1) 0)=false/\∃V,w2.setCell (dQ (w.heap.size+1) 0) (dT v F A)=V/\V.cell? (dQ (w.heap.size+1) 0)=some (dT v F A)/\V.cell? (dQ (w.heap.size+1+1) 0)=some (dU p)/\V.cell? (dQ (w.heap.size+1+1) 1)=some (.int .u8 (k:Nat))/\V.cell? (dQ (w.heap.size+1+1) 2)=some (dI (fn:Nat))/\Hid (GX w b n0 w.heap.size (w.heap.size+1) (w.heap.size+1+1) pb J P so E p k (fn:Nat) (dT x y z) g (dT a d c) st g (dT v F A) (s++D2 f p k++DO f p) V)):=λZ h l i B=>by
  have q:=B.below (Ad _ _).drew;have aR:(s++D2 f p k).size=s.size+3:=by rw[Aj];rfl
  have aS:(DO f p).size<=p.size:=by unfold DO;rw[Af];omega
  have aC:DO f p=p.extract N p.size:=by unfold DO;rw[L]
  obtain⟨v,F,A,w2,r1,r2,O,r4⟩:=M4 Z.drew b (Ae W q.e.size) _ _ q.rs (DO f p) Ω;rw[aC]at r1;have q5:Boxed w2 (w.heap.size+1) 59 (dT h l i):=(O.block _ q.b5.lt (λe=>by rcases q.hv _ e with m|m;(have:=(Da Q).ov _ m;omega);omega)).M q.b5;have q7:Gb w2 (w.heap.size+1+1) 141 _:=(O.block _ q.b7.lt (λe=>by rcases q.hv _ e with m|m;(have:=(Da Q).ov _ m;omega);omega)).M q.b7;have U:=q.au (Da Q) r2 O r4;exact⟨B.b5.J,(B.b7.J 0).M rfl,v,F,A,w2,r1,q5.J,(q7.J 0).M rfl,q5.A,_,rfl,U.b5.J,(U.b7.J 0).M rfl,(U.b7.J 1).M rfl,(U.b7.J 2).M rfl,U⟩
 have ag:Hid (Cl 271 #[dU f,dU p] o λe X=>e=dR (dI (N:Nat))/\Hid (Bw o X)):=(ZhG f p o Ω Ω).Q (λe X ⟨m,_,h2⟩=>⟨by rw[m,L],h2⟩);have aT:IntKind.i64.wrap ((p.size:Int)-(N:Int))=(p.size:Int)-(N:Int):=by rw[AI];omega
 have aP:(N:Int)<=(p.size:Int):=Ω;have aq:=Db e1;have ar:=Db e2;have au:=Db e3;have ai:=(x3.J 0);have aJ:o.cell? (dQ (w.heap.size+1+1) 0)=some (dU p):=ai.M rfl;clear L aa ab ai e1 e2 e3 x1 x2 x3 k1 k2 k3 s1 s2 s3 b1 b2 b3 y1 y2 t2 al hB ak ac hs am an D;refine(Bg (n:=3)).1 ?_;refine BY func236 rfl trivial ?_ rfl;simp only[ntmps236,AS,Ay,AR,Nat.reduceAdd,Nat.reduceSub,AY,AX,Be,A5,AH,AK]
 gi_step
 refine Ck.2 (A7 ?_);go_wp2;rw[show w.alloc (.cells #[dP pb] 168)=W1 from Da aq,show W1.alloc (.cells #[dT a d c] 59)=W2 from Da ar,show W2.alloc (.cells #[dU p,.int .u8 (k:Nat),dI (fn:Nat),dT x y z] 141)=o from Da au]
 gi_step
 refine Ck.2 (A7 ?_);go_wp2_with(go_at_call 271;apply(Da ag).Q;rintro e X⟨rfl,HX⟩);obtain⟨aF,aG,aH,Y,h,l,i,G,hY,aD,ae,aK,aI,Z,hZ,af⟩:=Da HA X (Da HX);rw[<-hY]at ae;have HZ:=Db hZ;clear hY hZ aD HA ag aJ
 gi_step
 refine Ck.2 (A7 ?_);go_wp2_with(at_builtin;refine Aq _ rfl _ _ 59 59 rfl _ _ rfl rfl _ _ ae ?_);rw[Da HZ];obtain⟨m5,m7,v,F,A,w2,ao,n5,n7,aL,V,hV,v5,aM,aN,aZ,aw⟩:=Da HT Z h l i (Da af);have HV:=Db hV;clear hV ae aK aI aF aG aH HZ HT af
 gi_step
 refine F8 Rc ?_;refine Ck.2 ?_;refine Az (S:=λX=>X.cell? (dQ (w.heap.size+1+1) 0)=some (dU p)) Φ m7 (λaj=>?_);refine tk 1 ?_;refine tk 2 ?_;refine tk 3 ?_;refine tk 4 ?_;refine rk 0 (λK C=>?_);go_simp;refine C.out _ _ aj (λaz=>?_);clear C K;try simp only[pE]
 refine rk 5 (λK C=>?_);refine Kl rfl _ _ 59 9 rfl _ _ rfl rfl ao ?_;refine C.out _ _ n7 (λaA=>?_);clear C K;try simp only[pE]
 refine rk 6 (λK C=>?_);go_simp;rw[Da HV];refine C.out _ _ aM (λaB=>?_);clear C K;try simp only[pE]
 refine AL Φ ?_ _;refine ON ?_;clear az aA aB aj ao n5 n7 aL m5 m7 HV;rename_i K9 h9;refine h9 _ _ ?_;have:=Da ay V v F A;rw[<-Da ax]at this;exact this _ _ _ _ _ _ _ _ _ _ _ _ _ _ _ _ _ _ _ _ _ _ _ _ aN (Da aw)
theorem Tr{s D:Nat}{st:Pl}{o:OA}{t:By}{k fn:Nat}{x:OA}{y z:Nat}(A:MA w b n0 w.heap.size (w.heap.size+1) (w.heap.size+1+1) g (dT o r q))(J:b<=w.heap.size)(ht:t.size<=2000000){Z:World}{i:OA}(H:GX w b n0 w.heap.size (w.heap.size+1) (w.heap.size+1+1) pb s D so E p k (fn:Nat) (dT x y z) g (dT o r q) st g (dT i n l) t Z){h:Nat}(I:h=(UInt8.ofNat fn).toNat):∃Y a f c w2,Z.alloc (.cells #[.int .u8 (h:Nat)] 5)=Y/\(Builtin.append_ #[59,59] 59 #[dT i n l,dS Z.heap.size 1 1]).run prog Y=.ok (dT a f c) w2/\w2.cell? (dQ (w.heap.size+1) 0)=some (dT i n l)/\w2.frozen? (dQ (w.heap.size+1) 0)=false/\∃V,w2.setCell (dQ (w.heap.size+1) 0) (dT a f c)=V/\V.cell? (dQ (w.heap.size+1) 0)=some (dT a f c)/\V.cell? (dQ (w.heap.size+1+1) 1)=some (.int .u8 (k:Nat))/\V.cell? (dQ (w.heap.size+1+1) 3)=some (dT x y z)/\Hid (GX w b n0 w.heap.size (w.heap.size+1) (w.heap.size+1+1) pb s D so E p k (fn:Nat) (dT x y z) g (dT o r q) st g (dT a f c) (t++⟨#[UInt8.ofNat fn]⟩) V):=by
 obtain⟨Y,G,P,kY,sY,F⟩:=Df Z [.int .u8 (h)] 5;have d:=H.below F;have K:Dd ⟨#[UInt8.ofNat fn]⟩=[.int .u8 (h)]:=by rw[I];rfl
 obtain⟨a,f,c,w2,M,N,C,O⟩:=QX Y b (Ae J d.e.size) _ _ d.rs _ 1 1 _ rfl (λj u L=>by rw[AG,Av,P.J,<-K];exact L) Ω;have B:Boxed w2 (w.heap.size+1) 59 (dT i n l):=(C.block _ d.b5.lt (λe=>by rcases d.hv _ e with v|v;(have:=A.ov _ v;omega);omega)).M d.b5;have m:=d.au A N C O;exact⟨Y,a,f,c,w2,G,M,B.J,B.A,_,rfl,m.b5.J,(m.b7.J 1).M rfl,(m.b7.J 3).M rfl,m⟩
theorem T9(s a p:By)(k:Nat):(s++D2 a p k++DO a p).size<=s.size+3+p.size:=by
 rw[Aj,Aj];have h1:(D2 a p k).size=3:=rfl;have h2:(DO a p).size<=p.size:=by unfold DO;rw[Af];omega
 omega
theorem ZpC(w:World)(b n0 pb g h so:Nat)(E:Ge)(st:Pl)(f:Nat->Prop)(m:Hv n0 pb g h so E st f w)(a:OA)(d c:Nat)(s:By)(l:GD b w (dT a d c) s)(aa:s.size<=1000000)(i:∀j,f j->¬Own (dT a d c) j)(k:∀j,Own (dT a d c) j->n0<=j)(q:b<=w.heap.size)(e p:By)(r:e.size<=100000)(t:p.size<=100000)(fn:Nat)(_hfn:fn<=100000)(n:Value)(u:∃x y z,n=dT x y z):
  Cl 236 #[dP pb,dT a d c,dU e,.agg #[dU p,.int .u8 1,dI (fn:Nat),n]] w (UP w b n0 pb g h so E f (dT a d c) st (s++D2 e p 1++DO e p)):=by
 obtain⟨x,y,z,rfl⟩:=u;refine RQ w b n0 pb g h so E st f m a d c s l Ω i k q e p r t 1 fn Ω x y z _ (λhB V a2 l2 c2 vA v13 v14 v15 v16 v17 v18 v19 v20 v21 v22 v23 v24 v25 v26 v27 v28 v29 v30 v31 v32 v33 v34 v35 v71 hI=>?_);have v5:=hI.b5.J;have o:=Db hI;clear hI hB m l i k;generalize hQ:bodyPostM Fence.wide 3 prog Tryz.f236 _=Q
 unfold Tryz.f236;simp only[LK,CS];rw[<-hQ];clear hQ
 gi_wp2
 exact⟨_,EL rfl _ _ _,(Da o).post rfl⟩
theorem ZnE(w:World)(b n0 pb h k so:Nat)(E:Ge)(st:Pl)(f:Nat->Prop)(v:Hv n0 pb h k so E st f w)(a:OA)(d c:Nat)(s:By)(u:GD b w (dT a d c) s)(aa:s.size<=1000000)(r:∀j,f j->¬Own (dT a d c) j)(t:∀j,Own (dT a d c) j->n0<=j)(q:b<=w.heap.size)(e p:By)(C:e.size<=100000)(D:p.size<=100000)(fn:Nat)(_hfn:fn<=100000)(A:Value)(F:∃x y z,A=dT x y z):
  Cl 236 #[dP pb,dT a d c,dU e,.agg #[dU p,.int .u8 3,dI (fn:Nat),A]] w (UP w b n0 pb h k so E f (dT a d c) st (s++D2 e p 3++DO e p++⟨#[UInt8.ofNat fn]⟩)):=by
 obtain⟨x,y,z,rfl⟩:=F;refine RQ w b n0 pb h k so E st f v a d c s u Ω r t q e p C D 3 fn Ω x y z _ (λhB V a2 l2 c2 vA v13 v14 v15 v16 v17 v18 v19 v20 v21 v22 v23 v24 v25 v26 v27 v28 v29 v30 v31 v32 v33 v34 v35 v71 hI=>?_);obtain⟨m,g⟩:∃M:Nat,M=(UInt8.ofNat fn).toNat:=⟨_,rfl⟩;have ab:IntKind.u8.wrap (fn)=(m):=by rw[g];exact Up fn
 have ac:(fn:Int)%256=(m):=by rw[g,CR];omega
 have I:=hI.b5.J;have J:=(hI.b7.J 2).M rfl;generalize hQ:bodyPostM Fence.wide 3 prog Tryz.f236 _=Q
 unfold Tryz.f236;simp only[LK,CS];rw[<-hQ];clear hQ;obtain⟨Y3,a3,l3,c3,w3,o,i,G,H,U,n,u5,ad,ae,B⟩:=Tr hB q (by have:=T9 s e p 3;omega) hI g;rw[<-o]at i;have l:=Db n;clear o n g v u r t
 gi_step
 gi_step
 refine Ck.2 (A7 ?_);go_wp2
 gi_step
 gi_step
 gi_step
 gi_step
 gi_step
 refine Ck.2 (A7 ?_);go_wp2_with(at_builtin;refine Aq _ rfl _ _ 59 59 rfl _ _ rfl rfl _ _ i ?_);rw[Da l];clear i G H l I v71 J hI hB
 gi_wp2
 exact⟨_,EL rfl _ _ _,(Da B).post rfl⟩
end
open Go.RowKit Go.Shelf
def GN(d:By)(x:Nat):By:=Dg (LC d 64 x) 64
theorem OZ(d:By)(x:Nat):(GN d x).size=64:=Jr _ _
theorem spl_dt(c:By)(hc:c.size<=64):Gq (Dd (Dj 64)) 0 (Dd c)=Dd (Dg c 64):=by have a:Dd (Dj 64)=List.replicate 64 (.int .u8 0):=Pi 64;unfold Gq Dg;by_cases h:64<=c.size;simp_all[if_pos,KC,List.drop_eq_nil_of_le,List.length_replicate,Dh,List.drop_zero,List.take_of_length_le,Dd];rw[if_neg h,Qd,a,Cy,AH,Dh,Av,Eu];simp[Dd]
def Kf(E:Ge)(fn:Nat)(d:By)(st:Pl):Nat->List Nat->By
 |_,[]=>⟨#[]⟩
 |i,x::xs=>D7 (E.put st (De 4 fn i) (GN d x)).1 (Dr (GN d x))++Kf E fn d (E.put st (De 4 fn i) (GN d x)).2 (i+1) xs
theorem JS(a b c:By):a++b++c=a++(b++c):=by apply AW;simp
theorem Zt3(a:By):(⟨#[]⟩:By)++a=a:=by rfl
theorem ZhV(E:Ge)(fn:Nat)(d:By):∀(st:Pl) (i:Nat) (xs:List Nat) (x:Nat),Kf E fn d st i (xs++[x])=Kf E fn d st i xs++D7 (E.put (E.U (De 4 fn) (GN d) st i xs) (De 4 fn (i+xs.length)) (GN d x)).1 (Dr (GN d x))
 |st,i,[],x=>by rfl
 |st,i,y::xs,x=>by show D7 _ _++Kf E fn d _ (i+1) (xs++[x])=D7 _ _++Kf E fn d _ (i+1) xs++_;rw[ZhV E fn d _ (i+1) xs x,JS,Ay,show i+1+xs.length=i+(xs.length+1) by omega];rfl
theorem RX(E:Ge)(fn:Nat)(d:By):∀(st:Pl) (i:Nat) (xs:List Nat),(Kf E fn d st i xs).size=10*xs.length
 |st,i,[]=>rfl
 |st,i,x::xs=>by show(D7 _ _++Kf E fn d _ (i+1) xs).size=_;rw[Aj,Pg,RX E fn d _ (i+1) xs,Ay];omega
structure M6(w9:World)(b n0 n1 B4 B5 B7 Bt g:Nat)(O9:Nat->Prop)(v9:Value):Prop where
 et:Bt=w9.heap.size
 en:n1=w9.heap.size+3
 l4:B4<w9.heap.size
 l5:B5<w9.heap.size
 l7:B7<w9.heap.size
 ih:B4≠B5
 ig:B5≠B7
 o9:∀j,O9 j->j<w9.heap.size/\j≠B4/\j≠B5/\j≠B7
 ov:∀j,Own v9 j->j<w9.heap.size/\j≠B4/\j≠B5/\j≠B7
 nv:∀j,Own v9 j->n0<=j
 n5:n0<=B5
 nb:b<=w9.heap.size
 gk:n0<=w9.heap.size
 gl:g<w9.heap.size
 gO:¬O9 g
 gv:¬Own v9 g
 g5:g≠B5
structure He(w9:World)(b n0 n1 B4 B5 B7 Bt pb db sb so:Nat)(E:Ge)(p:By)(fn g off len cap:Nat)(d:By)(O9:Nat->Prop)(v9:Value)(st9:Pl)(t9:By)(pre pre':List Nat)(v:Value)(O:Nat->Prop)(W:World):Prop where
 st:Hv n0 pb db sb so E (E.U (De 4 fn) (GN d) st9 0 pre') O W
 hO:∀j,O j->O9 j\/n1<=j
 b4:Boxed W B4 168 (dP pb)
 b5:Boxed W B5 59 v
 b7:Gb W B7 141 [dU p,.int .u8 2,dI (fn:Nat),dT (some (dQ g off)) len cap]
 bt:Boxed W Bt 3 (dI (pre.length:Nat))
 rs:GD b W v (t9++Kf E fn d st9 0 pre)
 hv:∀j,Own v j->Own v9 j\/n1<=j
 ar:∀j,O j->¬Own v j
 rd:GL W (some (dQ g off)) len cap d
 e:Fr (λj=>O9 j\/Own v9 j\/j=B5) w9 W
 sz:n1<=W.heap.size
section
variable{w9:World}{b n0 n1 B4 B5 B7 Bt pb db sb so:Nat}{E:Ge}{p:By}{fn g off len cap:Nat}{d:By}{O9:Nat->Prop}{v9:Value}{st9:Pl}{t9:By}{pre pre':List Nat}{v:Value}{O:Nat->Prop}{W W':World}
theorem He.below(h:He w9 b n0 n1 B4 B5 B7 Bt pb db sb so E p fn g off len cap d O9 v9 st9 t9 pre pre' v O W)(a:Bw W W'):He w9 b n0 n1 B4 B5 B7 Bt pb db sb so E p fn g off len cap d O9 v9 st9 t9 pre pre' v O W':=
 ⟨h.st.aw (row:=none) ⟨a.os,a.tape,a.output,a.size,λk c _=>a.block k c⟩ Γ,h.hO,(a.block _ h.b4.lt).M h.b4,(a.block _ h.b5.lt).M h.b5,(a.block _ h.b7.lt).M h.b7,(a.block _ h.bt.lt).M h.bt,h.rs.below a,h.hv,h.ar,h.rd.below a,h.e.then (Fr.S a (X:=λ_=>False)) (λ_ _ e=>e.elim),Ae h.sz a.size⟩
theorem He.nO(c:M6 w9 b n0 n1 B4 B5 B7 Bt g O9 v9)(h:He w9 b n0 n1 B4 B5 B7 Bt pb db sb so E p fn g off len cap d O9 v9 st9 t9 pre pre' v O W):¬O B4/\¬O B5/\¬O B7/\¬O Bt/\¬O g:=by have l4:=c.l4;have l5:=c.l5;have l7:=c.l7;have et:=c.et;have en:=c.en;have gl:=c.gl;refine⟨λe=>?_,λe=>?_,λe=>?_,λe=>?_,λe=>?_⟩;rcases h.hO _ e with a|a;exact(c.o9 _ a).2.1 rfl;omega;rcases h.hO _ e with a|a;exact(c.o9 _ a).2.2.1 rfl;omega;rcases h.hO _ e with a|a;exact(c.o9 _ a).2.2.2 rfl;omega;rcases h.hO _ e with a|a;have:=(c.o9 _ a).1;omega;omega;rcases h.hO _ e with a|a;exact c.gO a;omega
theorem Tg(c:M6 w9 b n0 n1 B4 B5 B7 Bt g O9 v9)(f:∀j,Own v j->Own v9 j\/n1<=j):¬Own v B4/\¬Own v B5/\¬Own v B7/\¬Own v Bt/\¬Own v g:=by have l4:=c.l4;have l5:=c.l5;have l7:=c.l7;have et:=c.et;have en:=c.en;have gl:=c.gl;refine⟨λe=>?_,λe=>?_,λe=>?_,λe=>?_,λe=>?_⟩;rcases f _ e with a|a;exact(c.ov _ a).2.1 rfl;omega;rcases f _ e with a|a;exact(c.ov _ a).2.2.1 rfl;omega;rcases f _ e with a|a;exact(c.ov _ a).2.2.2 rfl;omega;rcases f _ e with a|a;have:=(c.ov _ a).1;omega;omega;rcases f _ e with a|a;exact c.gv a;omega
theorem He.put(f:M6 w9 b n0 n1 B4 B5 B7 Bt g O9 v9)(h:He w9 b n0 n1 B4 B5 B7 Bt pb db sb so E p fn g off len cap d O9 v9 st9 t9 pre pre' v O W){m:List Nat}{O':Nat->Prop}(o:Hv n0 pb db sb so E (E.U (De 4 fn) (GN d) st9 0 m) O' W')(a:Fr O W W')(i:∀j,O' j->O j\/W.heap.size<=j):He w9 b n0 n1 B4 B5 B7 Bt pb db sb so E p fn g off len cap d O9 v9 st9 t9 pre m v O' W':=by obtain⟨q,r,s,t,qg⟩:=h.nO f;have aa:=h.sz;have en:=f.en;refine⟨o,λj c=>(i j c).elim (h.hO j) Ω,(a.block _ h.b4.lt q).M h.b4,(a.block _ h.b5.lt r).M h.b5,(a.block _ h.b7.lt s).M h.b7,(a.block _ h.bt.lt t).M h.bt,⟨h.rs.1.e a (λk n ho=>h.ar k ho n),h.rs.2⟩,h.hv,λj c l=>(i j c).elim (λe=>h.ar j e l) (λe=>by have:=h.rs.1.lt l;omega),h.rd.e a Γ,h.e.then a (λj c e=>(h.hO j e).elim .inl Ω),Ae h.sz a.size⟩
theorem He.done(c:M6 w9 b n0 n1 B4 B5 B7 Bt g O9 v9){n:List Nat}(h:He w9 b n0 n1 B4 B5 B7 Bt pb db sb so E p fn g off len cap d O9 v9 st9 t9 pre n v O W)(u:n.length=pre.length+1){i:Value}(q:GD b W' i (t9++Kf E fn d st9 0 n))(m:Fr (Own v) W W')(r:Dm W v i):He w9 b n0 n1 B4 B5 B7 Bt pb db sb so E p fn g off len cap d O9 v9 st9 t9 n n i O ((W'.setCell (dQ B5 0) i).setCell (dQ Bt 0) (dI ((pre.length:Int)+1))):=by
 obtain⟨q4,q5,q7,qt,qg⟩:=h.nO c;obtain⟨F,G,H,I,rg⟩:=Tg c h.hv;have aa:=h.sz;have en:=c.en;have et:=c.et;have l4:=c.l4;have l5:=c.l5;have l7:=c.l7;have n5:=c.n5;have ab:=c.gk;have D:=c.ih;have ac:=c.ig;have s:∀j,Own i j->Own v9 j\/n1<=j:=λj f=>(r j f).elim (h.hv j) Ω;obtain⟨s4,J,s7,K,sg⟩:=Tg c s;have z:Boxed W' B4 168 _:=(m.block _ h.b4.lt F).M h.b4;have A:Boxed W' B5 59 _:=(m.block _ h.b5.lt G).M h.b5;have B:Gb W' B7 141 _:=(m.block _ h.b7.lt H).M h.b7;have C:Boxed W' Bt 3 _:=(m.block _ h.bt.lt I).M h.bt;have o:Fr (λj=>Own v j\/j=B5\/j=Bt) W ((W'.setCell (dQ B5 0) i).setCell (dQ Bt 0) (dI ((pre.length)+1))):=
  (Fr.set (Fr.then (Fr.refl _ W) m Γ) _ _ Γ).set _ _ Γ
 have w:B5≠Bt:=Ω;refine⟨h.st.a9 o (λj f=>?_),h.hO,(z.other D _).other Ω _,(A.set _).other w _,?_,?_,⟨(q.1.setCell (dQ B5 0) _ J).setCell _ _ K,q.2⟩,s,λj f y=>?_,h.rd.e o (λx e _ l=>?_),h.e.then o (λk hk l=>?_),Ae h.sz o.size⟩;rcases f with a|a|a;exact⟨λl=>h.ar j l a,(h.hv j a).elim (c.nv j) Ω⟩;simp_all;simp_all;exact(Aw _ _ _ _ Γ).M ((Aw _ _ _ _ Γ).M B);rw[u];exact(C.other Ω _).set _;rcases r j y with a|a;exact h.ar j f a;obtain⟨cs,t,hb⟩:=h.st.cells f;simp_all;cases e;rcases l with a|a|a;simp_all;exact c.g5 a;have:=c.gl;simp_all;rcases l with a|a|a;exact(h.hv k a).elim Γ Ω;omega;omega
theorem He.aq(w:M6 w9 b n0 n1 B4 B5 B7 Bt g O9 v9)(h:He w9 b n0 n1 B4 B5 B7 Bt pb db sb so E p fn g off len cap d O9 v9 st9 t9 pre pre' v O W){row:Option Nat}(a:W.grownBy W' row)(m:∀r,row=some r->n1<=r/\∃o:Obj,W.heap[r]?=some o/\o.isCells=false):He w9 b n0 n1 B4 B5 B7 Bt pb db sb so E p fn g off len cap d O9 v9 st9 t9 pre pre' v O W':=by
 have ne:∀(j:Nat) (c:Array Value) (t:TypeId) (z:Nat×Nat),W.heap[j]?=some (Obj.cells c t z)->some j≠row:=λj c t z f e=>by obtain⟨o,u,D⟩:=(m j e.r).2;rw[f]at u;cases u;cases D
 have i:∀(j:Nat) (c:Array Value) (t:TypeId) (z:Nat×Nat),W.heap[j]?=some (Obj.cells c t z)->W'.heap[j]?=some (Obj.cells c t z):=λj c t z f=>(a.block j (Au.1 f).1 (ne j c t z f)).M f;have gl:=w.gl;have en:=w.en;refine⟨h.st.aw a (λr e=>(m r e).2),h.hO,i _ _ _ _ h.b4,i _ _ _ _ h.b5,i _ _ _ _ h.b7,i _ _ _ _ h.bt,⟨?_,h.rs.2⟩,h.hv,h.ar,?_,?_,Ae h.sz a.size⟩;rcases h.rs.1.2 with⟨e,C⟩|⟨B,A,y,e,F,q⟩;exact⟨h.rs.1.1,.inl ⟨e,C⟩⟩;exact⟨h.rs.1.1,.inr ⟨B,A,y,e,i _ _ _ _ F,q⟩⟩;exact h.rd.e ⟨a.os,a.tape,a.output,a.size,λk l n=>a.block k l (λe=>n e.r)⟩ (λx e _ s=>by cases e;have:=(m _ s).1;simp only at this;omega);exact h.e.then ⟨a.os,a.tape,a.output,a.size,λk l n=>a.block k l (λe=>n e.r)⟩ (λk l s=>by have:=(m _ s).1;omega)
end
section
attribute [local go_sem] Oper.semAt_some
def QH(B4 B7 Bt pb fn t Bb:Nat)(L:Gf)(V:World):Prop:=V.cell? (dQ B4 0)=some (dP pb)/\V.cell? (dQ B7 2)=some (dI (fn:Nat))/\V.cell? (dQ Bt 0)=some (dI (t:Nat))/\V.rangeAt Bb 0 L
def Mz(w9:World)(b n0 n1 B4 B5 B7 Bt pb db sb so:Nat)(E:Ge)(p:By)(fn g off len cap:Nat)(d:By)(O9:Nat->Prop)(v9:Value)(st9:Pl)(t9:By)(pre pre':List Nat)(v:Value)(O0 O:Nat->Prop)(x:Nat)(W V:World):Prop:=
 He w9 b n0 n1 B4 B5 B7 Bt pb db sb so E p fn g off len cap d O9 v9 st9 t9 pre pre' v O V/\Fr (λj=>O0 j\/Own v j\/j=B5\/j=Bt) W V/\Gb V W.heap.size 188 (Dd (GN d x))/\(∀j,O0 j->j<W.heap.size)/\∀j,O j->j≠W.heap.size
def Px(w9:World)(b n0 n1 B4 B5 B7 Bt pb db sb so:Nat)(E:Ge)(p:By)(fn g off len cap:Nat)(d:By)(O9:Nat->Prop)(v9:Value)(st9:Pl)(t9:By)(pre:List Nat)(W:World):Prop:=
 ∃v O,He w9 b n0 n1 B4 B5 B7 Bt pb db sb so E p fn g off len cap d O9 v9 st9 t9 pre pre v O W
theorem ZnC(J:World)(M:Nat)(hM:M<=1000)(b n0 G z c q l pb L Y so:Nat)(E:Ge)(hE:GI E)(hj:∃j,j<96/\E.nd j<=0)(p:By)(fn g off X K:Nat)(ah:fn<65536)(d:By)(F:Nat->Prop)(I:Value)(m:Pl)(H:By)(au:H.size<=900000)(u:M6 J b n0 G z c q l g F I)(h1:m.U.length+M<=10000)(h2:m.ps.length+M<=1000000)(h3:m.hd<=1536)(ao:∀y∈m.U,∀i,i<M->y.1≠De 4 fn i)(a:List Nat)(x:Nat)(ap:a.length<M)(W:World)(A:OA)(C B:Nat)(O:Nat->Prop)(h:He J b n0 G z c q l pb L Y so E p fn g off X K d F I m H a a (dT A C B) O W):
  (∀V,Cl 244 #[.int .u8 4,dI (fn:Nat),dI (a.length:Nat)] V λe w'=>e=dR (.int .u64 (De 4 fn a.length:Nat))/\w'=V)/\
  (∀V,Mz J b n0 G z c q l pb L Y so E p fn g off X K d F I m H a a (dT A C B) O O x W V->Cl 272 #[dP pb,.int .u64 (De 4 fn a.length:Nat),DC (GN d x)] V λe f=>e=dR (.agg #[dI ((E.put (E.U (De 4 fn) (GN d) m 0 a) (De 4 fn a.length) (GN d x)).1:Nat),.int .u64 (Dr (GN d x):Nat)])/\QH z q l pb fn a.length W.heap.size (Dd (GN d x)) f/\f.cell? (dQ c 0)=some (dT A C B)/\Hid (∃O',Mz J b n0 G z c q l pb L Y so E p fn g off X K d F I m H a (a++[x]) (dT A C B) O O' x W f))/\
  (∀V,(∃O',Mz J b n0 G z c q l pb L Y so E p fn g off X K d F I m H a (a++[x]) (dT A C B) O O' x W V)->Cl 214 #[.agg #[dI ((E.put (E.U (De 4 fn) (GN d) m 0 a) (De 4 fn a.length) (GN d x)).1:Nat),.int .u64 (Dr (GN d x):Nat)],dT A C B] V λe f=>∃r w s,e=dR (dT r w s)/\QH z q l pb fn a.length W.heap.size (Dd (GN d x)) f/\QH z q l pb fn a.length W.heap.size (Dd (GN d x)) (f.setCell (dQ c 0) (dT r w s))/\f.cell? (dQ c 0)=some (dT A C B)/\f.frozen? (dQ c 0)=false/\(f.setCell (dQ c 0) (dT r w s)).frozen? (dQ l 0)=false/\
   Hid (KeepsOthers W ((f.setCell (dQ c 0) (dT r w s)).setCell (dQ l 0) (dI ((a.length:Int)+1)))/\PK G c l (λj=>F j\/Own I j) W ((f.setCell (dQ c 0) (dT r w s)).setCell (dQ l 0) (dI ((a.length:Int)+1)))/\Px J b n0 G z c q l pb L Y so E p fn g off X K d F I m H (a++[x]) ((f.setCell (dQ c 0) (dT r w s)).setCell (dQ l 0) (dI ((a.length:Int)+1))))):=by
 have et:=u.et;have en:=u.en;have l4:=u.l4;have l5:=u.l5;have l7:=u.l7;have al:=u.ih;have av:=u.ig;have ar:=h.sz;refine⟨λV=>Pj V 4 fn a.length Ω ah Ω,λV hV=>?_,λV hV=>?_⟩;obtain⟨n,Q,S,ad,ae⟩:=hV;obtain⟨q1,D,q3⟩:=Ge.am E (De 4 fn) (GN d) m 0 a;have ag:=Q.size;have aa:=S.lt;refine(n.st.put hE hj _ _ (OZ _ _) (λy hy e=>?_) Ω Ω (q3 h3)).Q ?_;grind [Ge.af,U0];rintro e f⟨rfl,O',r1,r2,r3⟩;have N:=Ge.ax E (De 4 fn) (GN d) m 0 a x;rw[Av]at N;rw[<-N]at r1;have T:=n.put u r1 r2 r3;have ac:Gb f W.heap.size 188 (Dd (GN d x)):=(r2.block _ aa (λe=>ae _ e rfl)).M S;refine⟨rfl,⟨T.b4.J,(T.b7.J 2).M rfl,T.bt.J,λj v hv=>by rw[ac.J,Av];omega⟩,T.b5.J,O',T,Q.then r2 (λk U e => .inl (by rcases AD k W.heap.size with P|P;exact e;omega)),ac,ad,λj hj e=>?_⟩;grind;obtain⟨O',n,Q,S,ad,ae⟩:=hV;have ag:=Q.size;have aa:=S.lt;have aq:(H++Kf E fn d m 0 a).size<=950000:=by grind [ByteArray.size_append,RX]
 apply(Wk V b (by have:=u.nb;omega) A C B _ n.rs _ _ (Nat.lt_trans (hE.co _ _ _) Ω) (Q6 _) Ω).Q;rintro e f⟨r,w,s,rfl,q1,D,q3⟩;have N:=ZhV E fn d m 0 a x;rw[Av]at N;rw[JS,<-N]at q1;have hD:=n.done u Θ q1 D q3;obtain⟨r4,r5,r7,rt,rg⟩:=Tg u n.hv;have ai:¬Own (dT A C B) W.heap.size:=λe=>by have:=h.rs.1.lt e;omega
 have k4:Boxed f z 168 _:=(D.block _ n.b4.lt r4).M n.b4;have k5:Boxed f c 59 _:=(D.block _ n.b5.lt r5).M n.b5;have k7:Gb f q 141 _:=(D.block _ n.b7.lt r7).M n.b7;have kt:Boxed f l 3 _:=(D.block _ n.bt.lt rt).M n.bt;have kL:Gb f W.heap.size 188 (Dd (GN d x)):=(D.block _ aa ai).M S;have aj:Gb (f.setCell (dQ c 0) (dT r w s)) q 141 _:=(Aw _ _ _ _ (show q≠c by omega)).M k7;have ak:Gb (f.setCell (dQ c 0) (dT r w s)) W.heap.size 188 (Dd (GN d x)):=(Aw _ _ _ _ (show W.heap.size≠c by omega)).M kL;have Z:Fr (λj=>O j\/Own (dT A C B) j\/j=c\/j=l) W ((f.setCell (dQ c 0) (dT r w s)).setCell (dQ l 0) (dI ((a.length)+1))):=
  (Fr.set (Q.then D (λ_ _ e => .inr (.inl e))) _ _ (.inr (.inr (.inl rfl)))).set _ _ (.inr (.inr (.inr rfl)))
 refine⟨r,w,s,rfl,⟨k4.J,(k7.J 2).M rfl,kt.J,λj v hv=>by rw[kL.J,Av];omega⟩,⟨(k4.other al _).J,(aj.J 2).M rfl,(kt.other (show l≠c by omega) _).J,λj v hv=>by rw[ak.J,Av];omega⟩,k5.J,k5.A,(kt.other (show l≠c by omega) _).A,⟨Z.size,λk o U ho=>?_⟩,⟨Z.size,λk U hY am an=>?_⟩,_,O',hD⟩;refine(Z.block k (Au.1 U).1 (λe=>?_)).M U;have ab:∀cs t,W.heap[k]? ≠ some (Obj.cells cs t (0,0)):=λcs t e2=>by rw[U]at e2;cases e2;cases ho
 rcases e with e|e|e|e;obtain⟨cs,t,e2⟩:=h.st.cells e;simp_all;obtain⟨R,af⟩:=h.rs.1.type e;exact ab _ _ af;subst e;exact ab _ _ h.b5;subst e;exact ab _ _ h.bt;refine Z.block k Ω (λe=>?_);rcases e with e|e|e|e;rcases h.hO k e with P|P;simp_all;omega;rcases h.hv k e with P|P;simp_all;omega;omega;omega
end
section
attribute [local go_sem] Oper.semAt_some
theorem Zge{b:Array Oper}{c:List Oper}{a:Act}{Q:Exit->Act->World->Prop}(f:o.guard=none)(t:TypeId)(ho:o.op=.alloc t){d:Array Value}(g:∀w,(zeroValue t).run P w=.ok (.agg d) w)(h:wpListIn F n P b Q c (a.put o.dst (dP w.heap.size)) (w.alloc (.cells d t))):wpListIn F n P b Q (o::c) a w:=by refine wpListIn_plain f λK e=>?_;refine⟨by grind [Oper.about],?_⟩;rw[FF F _ _ Γ];unfold execOp;simp only[ho,Instr.alloc,Cq,g,Cb];exact e _ _ h
theorem Zfs(w:World){b:Array Oper}{c:List Oper}{a:Act}{Q:Exit->Act->World->Prop}(j:o.guard=none)(d s:Operand)(t e:TypeId)(ho:o.op=.call { callee:=.builtin .copy,args:=#[d,s],argTypes:=#[t,e] })(v u:Value)(i:a.eval d=v)(l:a.eval s=u){f:Value}{w':World}(k:(Builtin.copy_ #[t,e] o.type #[v,u]).run P w=.ok f w')(h:wpListIn F n P b Q c (a.put o.dst f) w'):wpListIn F n P b Q (o::c) a w:=by refine wpListIn_plain j λK g=>?_;refine⟨?_,?_⟩;grind [Oper.about,resolve,Target.leads,Sem.run_pure];rw[FF F _ _ Γ];simp[execOp,ho,resolve,invoke,builtin,i,l,k,Result.andThen];exact g _ _ h
theorem ZnF(w:World)(b n0 pb db sb so:Nat)(E:Ge)(st:Pl)(C:Nat->Prop)(bc:Hv n0 pb db sb so E st C w)(S:OA)(l0 Y:Nat)(s:By)(hs:GD b w (dT S l0 Y) s)(bW:s.size<=600000)(a5:∀j,C j->¬Own (dT S l0 Y) j)(a9:∀j,Own (dT S l0 Y) j->n0<=j)(hb:b<=w.heap.size)(q p:By)(bA:q.size<=100000)(hp:p.size<=100000)(fn:Nat)(bS:fn<60000)(g off n z:Nat)(d:By)(ba:GL w (some (dQ g off)) n z d)(bB:n<=z)(hl:n<=60000)(a8:¬C g)(bz:¬Own (dT S l0 Y) g)(bT:g<w.heap.size)(hE:GI E)(u:∃j,j<96/\E.nd j<=0)(M:Nat)(hM:M<=1000)(h1:st.U.length+M<=10000)(h2:st.ps.length+M<=1000000)(h3:st.hd<=1536)(bx:∀y∈st.U,∀i,i<M->y.1≠De 4 fn i)(KN:Nat)(bu:KN=(n+64-1)/64)(bQ:KN<=M):
  Cl 236 #[dP pb,dT S l0 Y,dU q,.agg #[dU p,.int .u8 2,dI (fn:Nat) ,dT (some (dQ g off)) n z]] w (UP w b n0 pb db sb so E C (dT S l0 Y) (E.U (De 4 fn) (GN d) st 0 (List.range KN)) (s++D2 q p 2++DO q p++⟨#[UInt8.ofNat fn]⟩++Ju n 2++Kf E fn d st 0 (List.range KN))):=by
 refine RQ w b n0 pb db sb so E st C bc S l0 Y s hs Ω a5 a9 hb q p bA hp 2 fn Ω (some (dQ g off)) n z _ (λhB V a2 l2 c2 vA v13 v14 v15 v16 v17 v18 v19 v20 v21 v22 v23 v24 v25 v26 v27 v28 v29 v30 v31 v32 v33 v34 v35 v71 R=>?_);obtain⟨N3,aq⟩:∃M:Nat,M=(UInt8.ofNat fn).toNat:=⟨_,rfl⟩;have bY:IntKind.u8.wrap (fn:Int)=(N3:Int):=by rw[aq];exact Up fn
 have bZ:(fn:Int)%256=(N3:Int):=by rw[aq,CR];omega
 have v5:=R.b5.J;have bL:=(R.b7.J 2).M rfl;have HB:=Db hB;have bp:=Db bu;have b0:IntKind.u64.wrap (n:Int)=(n:Int):=by grind [IntKind.wrap,IntKind.bits,IntKind.signed]
 have aG:Hid (∀U T l3 Z,GX w b n0 w.heap.size (w.heap.size+1) (w.heap.size+1+1) pb db sb so E p 2 (fn:Nat) (dT (some (dQ g off)) n z) C (dT S l0 Y) st C (dT T l3 Z) (s++D2 q p 2++DO q p++⟨#[UInt8.ofNat fn]⟩) U->Cl 212 #[dT T l3 Z,.int .u64 (n:Nat),dI 2] U λe X=>∃G I H,e=dR (dT G I H)/\X.cell? (dQ (w.heap.size+1) 0)=some (dT T l3 Z)/\X.frozen? (dQ (w.heap.size+1) 0)=false/\∃f,X.setCell (dQ (w.heap.size+1) 0) (dT G I H)=f/\f.cell? (dQ (w.heap.size+1+1) 3)=some (dT (some (dQ g off)) n z)/\Hid (GX w b n0 w.heap.size (w.heap.size+1) (w.heap.size+1+1) pb db sb so E p 2 (fn:Nat) (dT (some (dQ g off)) n z) C (dT S l0 Y) st C (dT G I H) (s++D2 q p 2++DO q p++⟨#[UInt8.ofNat fn]⟩++Ju n 2) f)):=λU T l3 Z R=>by
  have bV:(s++D2 q p 2++DO q p++⟨#[UInt8.ofNat fn]⟩).size<=s.size+4+p.size:=by rw[Aj,Aj,Aj];have q1:(D2 q p 2).size=3:=rfl;have q2:(DO q p).size<=p.size:=(by grind [DO,ByteArray.size_extract]);have q3:(⟨#[UInt8.ofNat fn]⟩:By).size=1:=rfl;omega
  apply(Pk U b (Ae hb R.e.size) T l3 Z _ R.rs n Ω 2 Ω Ω).Q;rintro e X⟨G,I,H,rfl,r2,r3,r4⟩;have q5:Boxed X (w.heap.size+1) 59 (dT T l3 Z):=(r3.block _ R.b5.lt (λe=>by rcases R.hv _ e with h1|h1;(have:=(Da HB).ov _ h1;omega);omega)).M R.b5;have hF:=R.au (Da HB) r2 r3 r4;exact⟨G,I,H,rfl,q5.J,q5.A,_,rfl,(hF.b7.J 3).M rfl,hF⟩
 generalize hQ:bodyPostM Fence.wide 3 prog Tryz.f236 _=Q
 unfold Tryz.f236;simp only[LK,CS];rw[<-hQ];clear hQ;obtain⟨Y3,T,l3,Z,w3,aY,az,bC,bD,U,hU,u5,bJ,bK,aE⟩:=Tr hB hb (by have:=T9 s q p 2;omega) R aq;rw[<-aY]at az;have HU:=Db hU;clear aY hU aq bc hs a5 a9
 gi_step
 gi_step
 refine Ck.2 (A7 ?_);go_wp2
 gi_step
 gi_step
 gi_step
 gi_step
 gi_step
 refine Ck.2 (A7 ?_);go_wp2_with(at_builtin;refine Aq _ rfl _ _ 59 59 rfl _ _ rfl rfl _ _ az ?_);rw[Da HU];clear az bC bD HU v5 v71 bL R hB;have H9:=Db (Da aG U T l3 Z (Da aE));clear aG
 gi_step
 gi_step
 refine Ck.2 (A7 ?_);go_wp2
 gi_step
 gi_step
 gi_step
 gi_step
 gi_step
 refine Ck.2 (A7 ?_);go_wp2_with(go_at_call 212;apply(Da H9).Q;rintro e X9⟨G,I,H,rfl,x5,bN,f,aA,bM,aF⟩;have aI:=Db aA;clear aA);rw[Da aI];obtain⟨ah,aO,bf,bE,aC,av⟩:=Df f [dI 0] 3;obtain⟨ao,aP,bg,bd,bG,aK⟩:=Df ah [dT (some (dQ g off)) n z] 59;obtain⟨ac,aQ,aD,aB,bH,aL⟩:=Df ao [dI 64] 3;have ar:Bw f ac:=av.M ((aK.Q Ω).M (aL.Q Ω));have J:=Da aF;have af:=Da HB;have bX:=J.sz;have be:ao.heap.size=f.heap.size+1+1:=Ω;have ab:ac.heap.size=f.heap.size+3:=Ω;have yt:=aB _ _ _ (bd _ _ _ bf);have yc:=aB _ _ _ bg;rw[aC]at yc;rw[be]at aD;have bO:ah.cell? (dQ (w.heap.size+1+1) 3)=some (dT (some (dQ g off)) n z):=(av.J (p:=dQ (w.heap.size+1+1) 3) J.b7.lt).M bM;have aU:M6 f b n0 (f.heap.size+3) w.heap.size (w.heap.size+1) (w.heap.size+1+1) f.heap.size g C (dT G I H):=by refine⟨rfl,rfl,Ω,Ω,Ω,Ω,Ω,λj u=>?_,λj u=>?_,λj u=>?_,by have:=af.gk;omega,Ω,by have:=af.gk;omega,Ω,a8,λe=>?_,Ω⟩;have:=af.o0 j u;omega;have h9:=J.rs.1.lt u;rcases J.hv j u with h8|h8;have:=af.ov j h8;omega;omega;rcases J.hv j u with h8|h8;exact af.nv j h8;have:=af.gk;omega;rcases J.hv _ e with h8|h8;simp_all;omega
 have bb:GL f (some (dQ g off)) n z d:=ba.e J.e (λx e _ ho=>by cases e;exact ho.elim a8 bz);have aV:He f b n0 (f.heap.size+3) w.heap.size (w.heap.size+1) (w.heap.size+1+1) f.heap.size pb db sb so E p fn g off n z d C (dT G I H) st (s++D2 q p 2++DO q p++⟨#[UInt8.ofNat fn]⟩++Ju n 2) [] [] (dT G I H) C ac:=by have ai:=J.below ar;refine⟨ai.st,λj u => .inl u,ai.b4,ai.b5,ai.b7,yt,?_,λj u => .inl u,ai.ar,bb.below ar,Fr.S ar,Ω⟩;show GD b ac _ (_++⟨#[]⟩);rw[UJ];exact ai.rs
 have bo:=Db aV;have br:Hid ((s++D2 q p 2++DO q p++⟨#[UInt8.ofNat fn]⟩++Ju n 2).size<=900000):=by
  show(s++D2 q p 2++DO q p++⟨#[UInt8.ofNat fn]⟩++Ju n 2).size<=900000;rw[Aj,Aj,Aj,Aj,Q9];have q1:(D2 q p 2).size=3:=rfl;have q2:(DO q p).size<=p.size:=by grind [DO,ByteArray.size_extract]
  have q3:(⟨#[UInt8.ofNat fn]⟩:By).size=1:=rfl;omega
 have ak:=Db aU;have aH:=Db ab;have bq:Hid (ah.heap.size=f.heap.size+1):=aC;have bl:=Db aO;have bm:=Db aP;have bn:=Db aQ;have aM:ac.cell? (dQ (f.heap.size+1) 0)=some (dT (some (dQ g off)) n z):=(yc.J 0).M rfl;have aN:ac.cell? (dQ (f.heap.size+1+1) 0)=some (dI 64):=(aD.J 0).M rfl;have bi:=Db aM;have bj:=Db aN;clear H9 aI x5 bN u5 bJ bK aE aO aP aQ bf bg aD bE bd aB aC bG bH av aK aL ar J af be ab yt yc aU aV bb aM aN ba
 gi_step
 refine Ck.2 (A7 ?_);go_wp2;rw[show f.alloc (.cells #[dI 0] 3)=ah from Da bl]
 gi_wp2_with (refine⟨trivial,?_⟩;gi_at_call 172;apply(TS _ 64 Ω Ω _ _ ⟨_,_,_,rfl⟩).Q;rintro e w'⟨rfl,rfl⟩)
 rw[show ah.alloc (.cells #[dT (some (dQ g off)) n z] 59)=ao from Da bm,show ao.alloc (.cells #[dI 64] 3)=ac from Da bn];rw[show ah.heap.size=f.heap.size+1 from Da bq];rename_i K0 bt;have ab:=Da aH;have bR:KN<=1000:=Ω;have aJ:Hid (∀j,(C j\/Own (dT G I H) j)->j<f.heap.size):=λj u=>u.elim (λe=>((Da ak).o9 j e).1) (λe=>((Da ak).ov j e).1);refine Er (α:=Nat) rfl Ω (gf:=220) (lb:=#[dP (f.heap.size+1),dP (f.heap.size+1+1)]) rfl trivial (EX func220 Φ rfl)
  (Zhj 2 Ω (f.heap.size+1) (f.heap.size+1+1) g off 64 n z Ω Ω bB Ω KN (Da bp) ac Ω Ω (Da bi) (Da bj) (PK (f.heap.size+3) (w.heap.size+1) f.heap.size (λj=>C j\/Own (dT G I H) j))
   (λA B aT h1 h2=>⟨(AA (w:=A) (a:=dQ (f.heap.size+1) 0) (aT.2 (f.heap.size+1) Ω (λe=>by have:=Da aJ _ e;omega) Ω Ω)).M h1,(AA (w:=A) (a:=dQ (f.heap.size+1+1) 0) (aT.2 (f.heap.size+1+1) Ω (λe=>by have:=Da aJ _ e;omega) Ω Ω)).M h2⟩))
  (λh1 h2=>⟨Ae h1.1 h2.1,λk a b c d=>(h2.2 k a b c d).M (h1.2 k a b c d)⟩)
  (λX l o o' hl ho _ _=>⟨Ξ,λk hk _ _ _=>by have:=ab;simp only[World.putObj];grind⟩)
  (Ad _ _) (λ_=>rfl)
  (λaa X=>Px f b n0 (f.heap.size+3) w.heap.size (w.heap.size+1) (w.heap.size+1+1) f.heap.size pb db sb so E p fn g off n z d C (dT G I H) st (s++D2 q p 2++DO q p++⟨#[UInt8.ofNat fn]⟩++Ju n 2) aa X)
  (λ_ _ _=>False)
  (λaa A B row hs hg hr=>by obtain⟨v,O,h⟩:=hs;exact⟨v,O,h.aq (Da ak) hg (λr e=>by rw[<-ab];exact hr r e)⟩)
  (λ_ _ _ _ _ hs _ _=>hs)
  ⟨_,_,Da bo⟩
  (λx=>{ tmps:=List.toArray ((dP pb)::(dT S l0 Y)::(dU q)::vA::(dP w.heap.size)::(dP (w.heap.size+1))::undef::(dP (w.heap.size+1+1))::dN::(dI (J5 q p:Nat))::(dP f.heap.size)::(LN g off 64 n x)::undef::v13::v14::v15::v16::v17::v18::v19::v20::v21::v22::v23::v24::v25::v26::v27::v28::v29::v30::v31::v32::v33::v34::v35::(.pointer (some (dQ (w.heap.size+1+1) 1)))::(.int .u8 2)::(dV false)::undef::(dT a2 l2 c2)::(.pointer (some (dQ (w.heap.size+1+1) 2)))::(dI (fn:Nat))::(.int .u8 (N3:Nat))::(dS V.heap.size 1 1)::(dT T l3 Z)::(.pointer (some (dQ (w.heap.size+1+1) 1)))::(.int .u8 2)::(dV false)::undef::(dT T l3 Z)::(.pointer (some (dQ (w.heap.size+1+1) 3)))::(dT (some (dQ g off)) n z)::(dI (n:Nat))::(.int .u64 (n:Nat))::(dT G I H)::(.pointer (some (dQ (w.heap.size+1+1) 3)))::(dT (some (dQ g off)) n z)::(.func (.func 220) #[] #[.pointer (some ⟨f.heap.size+1,0,none⟩),.pointer (some ⟨f.heap.size+1+1,0,none⟩)])::(LN g off 64 n x)::undef::undef::undef::undef::undef::undef::undef::undef::undef::undef::undef::undef::undef::undef::undef::[]),defers:=[] })
  ?assign ?body ?done ?stop
 case assign=>
  intro l x X K m;clear ab
  gi_wp2
  omega
 case body=>
  rintro l aa x W⟨v,O,L⟩ bU;obtain⟨ra,rl,rc,rfl⟩:=L.rs.1.a0;obtain⟨h4,h6,h8⟩:=ZnC f M hM b n0 (f.heap.size+3) w.heap.size (w.heap.size+1) (w.heap.size+1+1) f.heap.size pb db sb so E hE u p fn g off n z Ω d C (dT G I H) st _ (Da br) (Da ak) h1 h2 h3 bx aa x Ω W ra rl rc O L;have H4:=Db h4;have H6:=Db h6;have H8:=Db h8;obtain⟨V1,aR,bh,bF,bI,ap⟩:=Df W (Dd (Dj 64)) 188;obtain⟨V2,aZ,au,aS⟩:=T7 V1 W.heap.size 188 _ bh 0 64 64 _ _ _ _ ((L.rd.below ap).fy 64 x) (by grind [Ru]) (by simp_all[Dh,JA]);rw[spl_dt _ (by grind [Ru])]at au;have aj:Bw W V2:=ap.grown aS ap.size (λk e=>by cases e;omega);have ax:Bw W V2.drew:=⟨aj.os,aj.tape,aj.output,aj.size,aj.block⟩;have N:=L.below ax;have aw:∀j,O j->j<W.heap.size:=λj u=>by obtain⟨cs,t,hb⟩:=L.st.cells u;exact(Au.1 hb).1
  have F:Hid (Mz f b n0 (f.heap.size+3) w.heap.size (w.heap.size+1) (w.heap.size+1+1) f.heap.size pb db sb so E p fn g off n z d C (dT G I H) st (s++D2 q p 2++DO q p++⟨#[UInt8.ofNat fn]⟩++Ju n 2) aa aa (dT ra rl rc) O O x W V2.drew):=⟨N,Fr.S ax,au,aw,λj u e=>by have:=aw j u;omega⟩;have bv:QH w.heap.size (w.heap.size+1+1) f.heap.size pb fn aa.length W.heap.size (Dd (GN d x)) V2.drew:=⟨N.b4.J,(N.b7.J 2).M rfl,N.bt.J,λj v hv=>by rw[Gb.J (w:=V2.drew) au,Av];exact hv⟩;have ay:V2.drew.cell? (dQ (w.heap.size+1) 0)=some (dT ra rl rc):=N.b5.J;have bs:=Db aR;have bk:(Builtin.copy_ #[59,59] 3 #[dS W.heap.size 64 64,LN g off 64 n x]).run prog V1=.ok (goInt (LC d 64 x).size) V2:=aZ;clear aZ h4 h6 h8 L N ab aR bh bF bI ap au aS aj ax aw
  gi_step
  gi_step
  gi_step
  refine wpIn_region_lit ?_;refine Zge rfl 188 rfl Ky ?_;refine wpListIn_nil ?_;try simp only[pE]
  rw[show W.alloc (.cells (Dd (Dj 64)).toArray 188)=V1 from Da bs]
  gi_step
  gi_step
  gi_step
  refine wpIn_region_lit ?_
  gi_wp2_with (refine Zfs _ rfl _ _ 59 59 rfl _ _ rfl rfl bk ?_)
  refine ZdN (QH w.heap.size (w.heap.size+1+1) f.heap.size pb fn aa.length W.heap.size (Dd (GN d x))) Φ (λhh=>by obtain⟨_,_,hh⟩:=hh;exact hh) Φ bv (λbP=>?_);refine tv 0 (?_) rfl (Or.inl ⟨by rfl,?_⟩) ?_
  rotate_left
  .intro w ag
   (try unfold QH at ag)
   go_simp<;>with_reducible rfl
  try simp only[pE]
  refine tv 1 (?_) rfl (Or.inl ⟨by rfl,?_⟩) ?_
  rotate_left
  .intro w ag
   (try unfold QH at ag)
   go_simp<;>with_reducible rfl
  try simp only[pE]
  refine tv 2 (?_) rfl (Or.inl ⟨by rfl,?_⟩) ?_
  rotate_left
  .intro w ag
   (try unfold QH at ag)
   go_simp<;>with_reducible rfl
  try simp only[pE]
  refine tv 3 (?_) rfl (Or.inl ⟨by rfl,?_⟩) ?_
  rotate_left
  .intro w ag
   (try unfold QH at ag)
   go_simp<;>with_reducible rfl
  try simp only[pE]
  refine A4 (i:=5) (v:=DC (GN d x)) rfl Φ Φ Φ (λ_ _ _ h=>h) (CW (by rfl) 188 _ rfl W.heap.size 0 rfl (Dd (GN d x)) _ (λX hX=>hX.2.2.2) Kv rfl (by rw[D4,Dh,OZ])) Ψ ?_;try simp only[pE]
  refine Eo (rs:=[4,7]) Φ Θ ?_;refine(BK (i:=4) rfl ?_ (BK (i:=7) rfl ?_ Ee))
  .intro K m;go_simp;go_at_call 244;apply(Da H4 _).Q;rintro e w'⟨rfl,hw⟩;rw[hw];clear hw;go_wp2_with fail;refine m.out _ _ Ψ (λbw=>?_);clear m K;try simp only[pE]
   refine Eo (rs:=[6,7]) Φ Θ ?_;refine(BK (i:=6) rfl ?_ (BK (i:=7) rfl ?_ Ee))
   focus
    intro K m;go_simp;go_at_call 272;apply(Da H6 _ (Da F)).Q;clear F;rintro e V6⟨rfl,an,ay,F⟩;go_wp2_with fail;refine m.out _ _ an (λaW=>?_);clear m K;try simp only[pE]
    refine rk 7 (λK m=>?_);go_simp;refine m.out _ _ Ψ (λaX=>?_)
   rotate_left
   focus
    intro K m;go_simp;refine m.out _ _ Ψ (λaX=>?_);clear m K;try simp only[pE]
    refine rk 6 (λK m=>?_);go_simp;go_at_call 272;apply(Da H6 _ (Da F)).Q;clear F;rintro e V6⟨rfl,an,ay,F⟩;go_wp2_with fail;refine m.out _ _ an (λaW=>?_)
   all_goals
    clear m K;try simp only[pE]
    refine rk 8 (λK m=>?_);go_simp;go_at_call 214;apply(Da H8 _ (Da F)).Q;clear F;rintro e V8⟨a',l',c',rfl,ad,ae,a1,a6,a7,P⟩;go_wp2_with fail;refine m.out _ _ ad (λal=>?_);clear m K;try simp only[pE]
    refine rk 9 (λK m=>?_);go_simp;refine m.out _ _ ae (λam=>?_);clear m K;try simp only[pE]
    refine AL Φ ?_ _;have cT:=ae.2.2.1;clear ad al am
    gi_wp2
    exact⟨(Da P).1,(Da P).2.1,(Da P).2.2⟩
  .intro K m;go_simp;refine m.out _ _ Ψ (λaX=>?_);clear m K;try simp only[pE]
   refine rk 4 (λK m=>?_);go_simp;go_at_call 244;apply(Da H4 _).Q;rintro e w'⟨rfl,hw⟩;rw[hw];clear hw;go_wp2_with fail;refine m.out _ _ Ψ (λbw=>?_);clear m K;try simp only[pE]
   refine rk 6 (λK m=>?_);go_simp;go_at_call 272;apply(Da H6 _ (Da F)).Q;clear F;rintro e V6⟨rfl,an,ay,F⟩;go_wp2_with fail;refine m.out _ _ an (λaW=>?_);clear m K;try simp only[pE]
   refine rk 8 (λK m=>?_);go_simp;go_at_call 214;apply(Da H8 _ (Da F)).Q;clear F;rintro e V8⟨a',l',c',rfl,ad,ae,a1,a6,a7,P⟩;go_wp2_with fail;refine m.out _ _ ad (λal=>?_);clear m K;try simp only[pE]
   refine rk 9 (λK m=>?_);go_simp;refine m.out _ _ ae (λam=>?_);clear m K;try simp only[pE]
   refine AL Φ ?_ _;have cT:=ae.2.2.1;clear ad al am
   gi_wp2
   exact⟨(Da P).1,(Da P).2.1,(Da P).2.2⟩
 case done=>
  rintro D ys XX hD rfl⟨v,O,L⟩ m;have c5:=L.b5.J;obtain⟨ra,rl,rc,rfl⟩:=L.rs.1.a0;have HR:=Db L;clear L ab;show K0 _ _;refine bt _ _ ?_
  gi_wp2
  have L:=Da HR;have ab:=Da aH;have J:=Da aF;refine⟨Θ,.inl ⟨_,_,rfl,BT m,?_⟩⟩;have hg:XX.grownBy (XX.putObj D (.deferred none)) (some D):=⟨rfl,rfl,rfl,by simp[World.putObj],λk _ hk=>by simp only[World.putObj];rw[Cc,if_neg (λe=>hk (by rw[e]))]⟩;have N:=L.aq (Da ak) hg (λr e=>by cases e;exact⟨Ω,_,m,rfl⟩);have aA:=J.e.size;refine⟨_,EL rfl _ _ _,ra,rl,rc,O,rfl,N.rs,N.st,λj u=>(N.hO j u).imp id (λe=>Ω),λj u=>?_,N.ar,J.e.then N.e (λk hk e=>?_)⟩;rcases N.hv j u with e|e;exact(J.hv j e).imp id (λe=>Ω);exact .inr Ω;rcases e with e|e|e;exact .inl e;exact(J.hv k e).elim .inr (λe=>Ω);omega
 case stop=>
  rintro D c aa X _ _ h _;exact h.elim
end
section
attribute [local go_sem] Oper.semAt_some
theorem ZpS(n:Nat)(a e m:Nat)(w:World)(h:a<w.heap.size)(c:w.cell? (dQ a 0)=some dN)(g:World->World->Prop):
  SeqStopsK Fence.wide n prog 220 #[dP a,dP e] (λk:Nat => #[LN 0 0 m 0 k]) g (λo=>o=[]) (λ_=>False) 0 w:=λl J Jx W d i _ j b=>by
 have c1:=(d.J h).M c;have f:=Db b;clear j d c i b;refine CA func220 rfl trivial ?_ rfl;simp only[ntmps220,AS,Ay,AR,Nat.reduceAdd,Nat.reduceSub,AY,AX,Be,A5,AH,AK]
 gi_wp2
 refine wpIn_loop_once ?_
 gi_wp2
 go_end0
 exact⟨⟨_,rfl⟩,.inl ⟨[],rfl,Da f⟩⟩
theorem GX.aq{s x:Nat}{k:Nat}{f:Int}{D:Value}{u:Nat->Prop}{C:Value}{st:Pl}{v:Value}{t:By}{i:World}(h:GX w b n0 m n s pb x B so E p k f D u C st O v t W){row:Option Nat}(a:W.grownBy i row)(l:∀r,row=some r->w.heap.size<=r/\∃o:Obj,W.heap[r]?=some o/\o.isCells=false):GX w b n0 m n s pb x B so E p k f D u C st O v t i:=by
 have ne:∀(j:Nat) (c:Array Value) (t:TypeId) (z:Nat×Nat),W.heap[j]?=some (Obj.cells c t z)->some j≠row:=λj c t z d e=>by obtain⟨o,y,J⟩:=(l j e.r).2;rw[d]at y;cases y;cases J
 have g:∀(j:Nat) (c:Array Value) (t:TypeId) (z:Nat×Nat),W.heap[j]?=some (Obj.cells c t z)->i.heap[j]?=some (Obj.cells c t z):=λj c t z d=>(a.block j (Au.1 d).1 (ne j c t z d)).M d;refine⟨h.st.aw a (λr e=>(l r e).2),h.hO,g _ _ _ _ h.b4,g _ _ _ _ h.b5,g _ _ _ _ h.b7,⟨?_,h.rs.2⟩,h.hv,h.ar,?_,Ae h.sz a.size⟩;rcases h.rs.1.2 with⟨e,I⟩|⟨H,G,F,e,K,q⟩;exact⟨h.rs.1.1,.inl ⟨e,I⟩⟩;exact⟨h.rs.1.1,.inr ⟨H,G,F,e,g _ _ _ _ K,q⟩⟩;exact h.e.then ⟨a.os,a.tape,a.output,a.size,λk A L=>a.block k A (λe=>L e.r)⟩ (λk A M=>by have:=(l _ M).1;omega)
theorem Zlo(w:World)(b n0 pb C H so:Nat)(E:Ge)(st:Pl)(g:Nat->Prop)(ap:Hv n0 pb C H so E st g w)(i:OA)(q n:Nat)(s:By)(G:GD b w (dT i q n) s)(aW:s.size<=600000)(an:∀j,g j->¬Own (dT i q n) j)(ao:∀j,Own (dT i q n) j->n0<=j)(T:b<=w.heap.size)(d p:By)(aF:d.size<=100000)(hp:p.size<=100000)(fn:Nat)(_hfn:fn<60000):
  Cl 236 #[dP pb,dT i q n,dU d,.agg #[dU p,.int .u8 2,dI (fn:Nat),dN]] w (UP w b n0 pb C H so E g (dT i q n) st (s++D2 d p 2++DO d p++⟨#[UInt8.ofNat fn]⟩++Ju 0 2)):=by
 refine RQ w b n0 pb C H so E st g ap i q n s G Ω an ao T d p aF hp 2 fn Ω none 0 0 _ (λhB V a2 l2 c2 vA v13 v14 v15 v16 v17 v18 v19 v20 v21 v22 v23 v24 v25 v26 v27 v28 v29 v30 v31 v32 v33 v34 v35 v71 f=>?_);obtain⟨P,O⟩:∃M:Nat,M=(UInt8.ofNat fn).toNat:=⟨_,rfl⟩;have aY:IntKind.u8.wrap (fn)=(P):=by rw[O];exact Up fn
 have aZ:(fn:Int)%256=(P):=by rw[O,CR];omega
 have v5:=f.b5.J;have aP:=(f.b7.J 2).M rfl;have HB:=Db hB;have ac:Hid (∀U m t o,GX w b n0 w.heap.size (w.heap.size+1) (w.heap.size+1+1) pb C H so E p 2 (fn:Nat) dN g (dT i q n) st g (dT m t o) (s++D2 d p 2++DO d p++⟨#[UInt8.ofNat fn]⟩) U->Cl 212 #[dT m t o,.int .u64 0,dI 2] U λe X=>∃u y v,e=dR (dT u y v)/\X.cell? (dQ (w.heap.size+1) 0)=some (dT m t o)/\X.frozen? (dQ (w.heap.size+1) 0)=false/\∃a,X.setCell (dQ (w.heap.size+1) 0) (dT u y v)=a/\a.cell? (dQ (w.heap.size+1+1) 3)=some dN/\Hid (GX w b n0 w.heap.size (w.heap.size+1) (w.heap.size+1+1) pb C H so E p 2 (fn:Nat) dN g (dT i q n) st g (dT u y v) (s++D2 d p 2++DO d p++⟨#[UInt8.ofNat fn]⟩++Ju 0 2) a)):=λU m t o f=>by
  have aV:(s++D2 d p 2++DO d p++⟨#[UInt8.ofNat fn]⟩).size<=s.size+4+p.size:=by rw[Aj,Aj,Aj];have q1:(D2 d p 2).size=3:=rfl;have q2:(DO d p).size<=p.size:=(by unfold DO;rw[Af];omega);have q3:(⟨#[UInt8.ofNat fn]⟩:By).size=1:=rfl;omega
  apply(Pk U b (Ae T f.e.size) m t o _ f.rs 0 Ω 2 Ω Ω).Q;rintro e X⟨u,y,v,rfl,r2,r3,r4⟩;have q5:Boxed X (w.heap.size+1) 59 (dT m t o):=(r3.block _ f.b5.lt (λe=>by rcases f.hv _ e with h1|h1;(have:=(Da HB).ov _ h1;omega);omega)).M f.b5;have hF:=f.au (Da HB) r2 r3 r4;exact⟨u,y,v,rfl,q5.J,q5.A,_,rfl,(hF.b7.J 3).M rfl,hF⟩
 generalize hQ:bodyPostM Fence.wide 3 prog Tryz.f236 _=Q
 unfold Tryz.f236;simp only[LK,CS];rw[<-hQ];clear hQ;obtain⟨Y3,m,t,o,w3,al,Z,aH,aI,U,hU,u5,aN,aO,ab⟩:=Tr hB T (by have:=T9 s d p 2;omega) f O;rw[<-al]at Z;have HU:=Db hU;clear al hU O ap G an ao
 gi_step
 gi_step
 refine Ck.2 (A7 ?_);go_wp2
 gi_step
 gi_step
 gi_step
 gi_step
 gi_step
 refine Ck.2 (A7 ?_);go_wp2_with(at_builtin;refine Aq _ rfl _ _ 59 59 rfl _ _ rfl rfl _ _ Z ?_);rw[Da HU];clear Z aH aI HU v5 v71 aP f hB;have H9:=Db (Da ac U m t o (Da ab));clear ac
 gi_step
 gi_step
 refine Ck.2 (A7 ?_);go_wp2
 gi_step
 gi_step
 gi_step
 gi_step
 gi_step
 refine Ck.2 (A7 ?_);go_wp2_with(go_at_call 212;apply(Da H9).Q;rintro e X9⟨u,y,v,rfl,x5,aT,a,aq,aS,aB⟩;have ae:=Db aq;clear aq);rw[Da ae];obtain⟨z,ai,aQ,aJ,aa,S⟩:=Df a [dI 0] 3;obtain⟨R,aj,av,aK,aL,af⟩:=Df z [dN] 59;obtain⟨J,ak,aR,ar,aM,ag⟩:=Df R [dI 64] 3;have am:Bw a J:=S.M ((af.Q Ω).M (ag.Q Ω));have L:=Da aB;have aX:=L.sz;have I:J.heap.size=a.heap.size+3:=Ω;have yc:=ar _ _ _ av;rw[aa]at yc;have aU:z.cell? (dQ (w.heap.size+1+1) 3)=some dN:=(S.J (p:=dQ (w.heap.size+1+1) 3) L.b7.lt).M aS;have aA:=Db (L.below am);have ad:=Db I;have aC:Hid (z.heap.size=a.heap.size+1):=aa;have ax:=Db ai;have ay:=Db aj;have az:=Db ak;have ah:J.cell? (dQ (a.heap.size+1) 0)=some dN:=(yc.J 0).M rfl;have aw:=Db ah;clear H9 ae x5 aT u5 aN aO ab ai aj ak aQ av aR aJ aK ar aa aL aM S af ag am L I yc ah
 gi_step
 refine Ck.2 (A7 ?_);go_wp2;rw[show a.alloc (.cells #[dI 0] 3)=z from Da ax]
 gi_wp2_with (refine⟨trivial,?_⟩;gi_at_call 172;apply(TS _ 64 Ω Ω _ _ ⟨_,_,_,rfl⟩).Q;rintro e w'⟨rfl,rfl⟩)
 rw[show z.alloc (.cells #[dN] 59)=R from Da ay,show R.alloc (.cells #[dI 64] 3)=J from Da az];rw[show z.heap.size=a.heap.size+1 from Da aC];rename_i K0 aD;have I:=Da ad;refine Er (α:=Nat) rfl Ω (gf:=220) (lb:=#[dP (a.heap.size+1),dP (a.heap.size+1+1)]) rfl trivial (EX func220 Φ rfl)
  (ZpS 2 (a.heap.size+1) (a.heap.size+1+1) 64 J Ω (Da aw) (λ_ _=>True))
  (λ_ _=>trivial)
  (λ_ _ _ _ _ _ _ _=>trivial)
  (Ad _ _) (λ_=>rfl)
  (λ_ X=>GX w b n0 w.heap.size (w.heap.size+1) (w.heap.size+1+1) pb C H so E p 2 (fn:Nat) dN g (dT i q n) st g (dT u y v) (s++D2 d p 2++DO d p++⟨#[UInt8.ofNat fn]⟩++Ju 0 2) X)
  (λ_ _ _=>False)
  (λau A B row G Y hr=>G.aq Y (λr e=>⟨by have:=(hr r e).1;omega,(hr r e).2⟩))
  (λ_ _ _ _ _ G _ _=>G)
  (Da aA)
  (λx=>{ tmps:=List.toArray ((dP pb)::(dT i q n)::(dU d)::vA::(dP w.heap.size)::(dP (w.heap.size+1))::undef::(dP (w.heap.size+1+1))::dN::(dI (J5 d p:Nat))::(dP a.heap.size)::(LN 0 0 64 0 x)::undef::v13::v14::v15::v16::v17::v18::v19::v20::v21::v22::v23::v24::v25::v26::v27::v28::v29::v30::v31::v32::v33::v34::v35::(.pointer (some (dQ (w.heap.size+1+1) 1)))::(.int .u8 2)::(dV false)::undef::(dT a2 l2 c2)::(.pointer (some (dQ (w.heap.size+1+1) 2)))::(dI (fn:Nat))::(.int .u8 (P:Nat))::(dS V.heap.size 1 1)::(dT m t o)::(.pointer (some (dQ (w.heap.size+1+1) 1)))::(.int .u8 2)::(dV false)::undef::(dT m t o)::(.pointer (some (dQ (w.heap.size+1+1) 3)))::dN::(dI 0)::(.int .u64 0)::(dT u y v)::(.pointer (some (dQ (w.heap.size+1+1) 3)))::dN::(.func (.func 220) #[] #[.pointer (some ⟨a.heap.size+1,0,none⟩),.pointer (some ⟨a.heap.size+1+1,0,none⟩)])::(LN 0 0 64 0 x)::undef::undef::undef::undef::undef::undef::undef::undef::undef::undef::undef::undef::undef::undef::undef::[]),defers:=[] })
  ?assign ?body ?done ?stop
 case assign=>
  intro l x X K N;clear I
  gi_wp2
  exact N
 case body=>
  rintro l au x W F aG;exact absurd aG Ω
 case done=>
  rintro D ys XX hD rfl F N;have c5:=F.b5.J;have HR:=Db F;clear F I;show K0 _ _;refine aD _ _ ?_
  gi_wp2
  have F:=Da HR;have I:=Da ad;refine⟨Θ,.inl ⟨_,_,rfl,BT N,?_⟩⟩;have Y:XX.grownBy (XX.putObj D (.deferred none)) (some D):=⟨rfl,rfl,rfl,by simp[World.putObj],λk _ hk=>by simp only[World.putObj];rw[Cc,if_neg (λe=>hk (by rw[e]))]⟩;have aE:=F.aq Y (λr e=>by cases e;exact⟨Ω,_,N,rfl⟩);exact⟨_,EL rfl _ _ _,aE.post rfl⟩
 case stop=>
  rintro D c au X _ _ h _;exact h.elim
end
def TT(t:TypeId):Bool:=t==37 || t==9 || t==247 || t==144 || t==4 || t==307 || t==260 || t==141 || t==245
def QW(o:Obj):Prop:=o.isCells=false\/∃cs t fr,o=.cells cs t fr/\TT t=true
def G0(B:Nat)(A A':World):Prop:=∃row,A.grownBy A' row/\∀r,row=some r->B<=r/\∃o,A.heap[r]?=some o/\QW o
theorem G0.Q{a:World}(h:G0 B A a)(hB:b<=B):G0 b A a:=by obtain⟨row,c,hr⟩:=h;exact⟨row,c,Γ⟩
theorem G0.put{o:Obj}(a:Obj)(hB:B<=r)(h:A.heap[r]?=some o)(hm:QW o):G0 B A (A.putObj r a):=
 ⟨some r,FV A r a,Γ⟩
theorem G0.below{a:World}(h:Bw A a):G0 B A a:=
 ⟨none,⟨h.os,h.tape,h.output,h.size,λk b _=>h.block k b⟩,Γ⟩
theorem G0.alloc(A:World)(o:Obj):G0 B A (A.alloc o):=⟨none,Sk A o,Γ⟩
theorem G0.same{a:World}(h:G0 B A a){k:Nat}{o:Obj}(b:A.heap[k]?=some o)(hn:k<B\/¬QW o):a.heap[k]?=some o:=by obtain⟨row,c,hr⟩:=h;refine(c.block k (Au.1 b).1 ?_).M b;grind
theorem Yk{a:Array Value}{t:TypeId}{b:Nat×Nat}(h:QW (.cells a t b)):TT t=true:=by rcases h with h|⟨aa,t',ab,e,h⟩;grind [Obj.isCells];simp_all
theorem G0.row{a:World}(h:G0 B A a){k:Nat}{t:TypeId}(b:Gb A k t L)(hn:k<B\/TT t=false):Gb a k t L:=by refine h.same b ?_;grind [Yk]
theorem Vu(r:Loop):QW (.loop r):=.inl rfl
def Nb(gf:Nat)(lb:Array Value)(encs:Nat->Array Value)(N:Nat)(Kp:Nat->World->World->Prop)(w0:World):Prop:=
 ∀(l:Nat) (J:Nat->World->Prop) (W:World),Bw w0 W->(∀k A A',J k A->G0 W.heap.size A A'->J k A')->
  (∀k W1,k<N->J k W1->YieldAt Fence.wide 1 prog l (encs k) W1 λe W'=>e=dR (dV true)/\J (k+1) W'/\Kp W.heap.size W1 W')->
  J 0 W->Calls prog gf (#[.func (.yield l) #[] #[]]++lb) W λe W'=>(∃v,e=dR v)/\J N W'
def Yv(B:Nat)(Kp:World->World->Prop)(I:World->Prop)(W:World):Exit->Act->World->Prop
 |.normal,_,W'=>KeepsFrom B W W'/\Kp W W'/\I W'
 |_,_,_=>False
theorem ZgC{g:Operand}{F:Array Tmp}{assign body:Code}{Q:Exit->Act->World->Prop}{a:Act}{gf:Nat}{lb:Array Value}(hg:a.eval g=.func (.func gf) #[] lb)(eg:∀args w,(callFunc gf args).run prog w=.ok (.enter gf args) w){z:Nat->Array Value}{i:Nat->World->World->Prop}{N:Nat}{x:World}(au:Nb gf lb z N i x)(S:Bw x w)(G:∀{A B C:World},i (w.heap.size+2) A B->i (w.heap.size+2) B C->i (w.heap.size+2) A C)(R:∀(W:World) (o o':Obj),W.heap[w.heap.size+1]?=some o->o.isCells=false->i (w.heap.size+2) W (W.putObj (w.heap.size+1) o'))(ar:∀k,k<N->(z k).size=F.size)(I:Nat->World->Prop)(m:∀k A A',I k A->G0 w.heap.size A A'->I k A')(Y:I 0 w)(y:Nat->Act->World->Prop)(Z:∀k d A A',y k d A->A.heap.size<=A'.heap.size->G0 w.heap.size A A'->(∀j,w.heap.size+2<=j->A'.heap[j]?=A.heap[j]?)->y k d A')(ad:∀(k:Nat) (W:World) (K:Act->World->Prop),k<N->I k W->w.heap.size+2<=W.heap.size->(∀d W',KeepsFrom w.heap.size W W'->i (w.heap.size+2) W W'->I k W'->y k d W'->K d W')->
   assign.wpIn (Fence.wide.inRound (w.heap.size+1)) 1 prog (Exit.then K (λ_ _ _=>False)) { tmps:=(F.zip (z k)).foldl (λt (p,v)=>t.setIfInBounds p v) a.tmps,defers:=[] } W)(ag:∀(k:Nat) (d:Act) (W:World),k<N->w.heap.size+2<=W.heap.size->I k W->y k d W->body.wpIn (Fence.wide.inRound (w.heap.size+1)) 1 prog (Yv w.heap.size (i (w.heap.size+2)) (I (k+1)) W) d W)(ah:∀(W:World),w.heap.size+2<=W.heap.size->I N W->W.heap[w.heap.size]?=some (.deferred (some []))->Q .normal { a with defers:={ target:=.collected w.heap.size,args:=#[] }::a.defers } W):
  (Code.rangeFunc g F assign body).wpIn Fence.wide n prog Q a w:=by
 refine wpIn_rangeFunc ?_;intro fn ai;rw[show Fence.wide.round=none from rfl];obtain⟨f,u⟩:∃f:LoopState->Option Code->Loop,f=λst pe=>{ state:=st,pending:=pe,fn,tmps:=a.tmps,params:=F,assign,body,defers:=w.heap.size }:=⟨_,rfl⟩;obtain⟨c,H⟩:∃c,(w.alloc (.deferred (some []))).alloc (.loop (f .ready none))=c:=⟨_,rfl⟩;have X:c.heap.size=w.heap.size+2:=by rw[<-H];simp
 have ac:c.heap[w.heap.size+1]?=some (.loop (f .ready none)):=by grind [World.alloc_heap_new,World.size_alloc]
 have ab:c.heap[w.heap.size]?=some (.deferred (some [])):=by grind [Below.heap_alloc,trans,World.alloc_heap_new]
 have aa:I 0 c:=by rw[<-H];exact m _ _ _ (m _ _ _ Y (G0.alloc _ _)) (G0.alloc _ _)
 have af:Bw x c:=by rw[<-H];exact S.M ((((Ad _ w).alloc (Aa _) _).alloc Θ _).Q S.size)
 refine⟨w.heap.size+1,[{ target:=.collected w.heap.size,args:=#[] }],c,{ target:=.fn (.func gf) lb,args:=#[.func (.yield (w.heap.size+1)) #[] #[]] },c,gf,
  #[.func (.yield (w.heap.size+1)) #[] #[]]++lb,c,?_,?_,?_,?_,λh=>(by cases h),?_⟩
 grind [run_enterLoop_outer]
 .simp only[resolve,hg];simp[go_sem]
 intro f' aw;trivial;grind [invoke];refine Bg.2 ((au _
  (λk W=>I k W/\W.heap[w.heap.size+1]?=some _/\W.heap[w.heap.size]?=some _)
  c af
  (λs A B M D=>by rw[X]at D;exact⟨m s A B M.1 (D.Q Ω),D.same M.2.1 (.inl Ω),D.same M.2.2 (.inl Ω)⟩)
  ?_ ⟨aa,ac,ab⟩).Q ?_)
 rintro k W L⟨J,b,r⟩;rw[X];have ap:w.heap.size+1<W.heap.size:=(Au.1 b).1;have O:=run_yield (P:=prog) (args:=z k) b (by rw[u];exact ar k L);rw[u]at O;refine⟨fn,_,assign,body,O,roundIn_of_wpIn ai (ad k W _ L J Ω ?_)⟩;clear O;intro d l V an ak ae;replace b:=V.same _ _ Ω b rfl;replace r:=V.same _ _ (Aa _) r rfl;have aq:w.heap.size+1<l.heap.size:=(Au.1 b).1;refine⟨_,run_beginRound b (by rw[u]),?_⟩;have ao:(l.putObj (w.heap.size+1) (.loop { f .ready none with state:=.busy })).heap[w.heap.size+1]?=some (.loop { f .ready none with state:=.busy }):=World.putObj_heap_same aq;have al:(l.putObj (w.heap.size+1) (.loop { f .ready none with state:=.busy })).heap[w.heap.size]?=some (.deferred (some [])):=(BZ Ω).M r;have av:i (w.heap.size+2) l (l.putObj (w.heap.size+1) (.loop { f .ready none with state:=.busy })):=R _ _ _ b rfl;have T:G0 w.heap.size l (l.putObj (w.heap.size+1) (.loop { f .ready none with state:=.busy })):=G0.put _ Ω b (Vu _);refine wpIn_mono (ag k d _ L Γ (m _ _ _ ak T) (Z k d _ _ ae Θ T (λj hj=>BZ Ω))) ?_;rintro e a3 W3 q;cases e with
 |normal=>
  obtain⟨U,am,aj⟩:=q;have E:=U.same _ _ Ω ao rfl;have ax:=(Au.1 E).1;have hr:=run_endRound (P:=prog) none E;refine⟨_,_,hr,rfl,⟨m _ _ _ aj (G0.put _ Ω E (Vu _)),?_,(BZ Ω).M (U.same _ _ (Aa _) al rfl)⟩,G an (G (G av am) (R _ _ _ E rfl))⟩;grind [World.putObj_heap_same]
 |ret=>exact q.elim
 |exit id=>exact q.elim
 |goto t=>exact q.elim
 |panic ch=>exact q.elim
 |outgrown=>exact q.elim
 rintro e W2⟨⟨v,rfl⟩,J,b,r⟩;have ap:=(Au.1 b).1;exact⟨none,_,by have:=run_endLoop (P:=prog) b (by rw[u];simp);rw[u]at this;exact this,ah _ (by simp;omega) (m _ _ _ J (G0.put _ Ω b (Vu _))) ((BZ Ω).M r)⟩
section
attribute [local go_sem] Oper.semAt_some
def LU(es:LS)(k:Nat):Array Value:=
 match es[k]? with
 |some x => #[.string x.1,.agg #[.pointer x.2.p,dI x.2.f]]
 |none => #[]
theorem Tp{a:LS}{k:Nat}{x:By×VS}(h:a[k]?=some x):LU a k = #[dU x.1,.agg #[.pointer x.2.p,dI x.2.f]]:=by grind [LU]
theorem ZpH(a:LS)(k:Nat)(h:k<a.length):(LU a k).size=2:=by simp_all[Tp]
theorem OB(l h t ho g C:Nat)(a:LS)(ab:a.length<=10000)(m:World->World->Prop)(J:Nat->World->Prop)(W:World)(G:∀A B,m A B->B.heap[g]?=A.heap[g]?)(E:∀k A A',J k A->G0 W.heap.size A A'->J k A')(s:∀k W1,k<a.length->J k W1->YieldAt Fence.wide 1 prog l (LU a k) W1 λe c=>e=dR (dV true)/\J (k+1) c/\m W1 c)(aa:W.cell? (dQ h 0)=some (.pointer (some (dQ t ho))))(hc:W.cell? (dQ t ho)=some (dS g a.length C))(I:g<W.heap.size)(d:∀j u,(Ds a)[j]?=some u->W.cell? (dQ g j)=some u)(D:J 0 W):
  Cl 222 #[.func (.yield l) #[] #[],dP h] W λe c=>(∃v,e=dR v)/\J a.length c:=by
 refine(Bg (n:=2)).1 ?_;refine CA func222 rfl trivial ?_ rfl;simp only[ntmps222,AS,Ay,AR,Nat.reduceAdd,Nat.reduceSub,AY,AX,Be,A5,AH,AK]
 gi_wp2
 gi_loopw [10] (λi wr=>∃k:Nat,k<=a.length/\i=dI k/\J k wr/\Hid (wr.heap[g]?=W.heap[g]?))
  (λi _=>a.length-(intOf i).toNat)
 case atStart=>exact⟨0,Ao _,rfl,D,rfl⟩
 case round=>
  obtain⟨k,hk,rfl,r,b⟩:=hrel;by_cases w:k<a.length
  .obtain⟨x,f⟩:∃x,a[k]?=some x:=⟨_,Ab w⟩;have q:=UZ a k x f;have q0:=(AA (Da b)).M (d _ _ q.1);have q1:=(AA (Da b)).M (d _ _ q.2.1);have q2:=(AA (Da b)).M (d _ _ q.2.2);have K:g<wr.heap.size:=(by have p:=Da b;rw[Eh I]at p;exact(Au.1 p).1);have z:Hid (∀o,(wr.alloc o).heap[g]?=W.heap[g]?):=λo=>(BH wr o g K).M (Da b);have y:=s k (wr.alloc (.cells #[dU x.1,.pointer x.2.p,dI x.2.f] 310)) w (E _ _ _ r (G0.alloc _ _));rw[Tp f]at y;obtain⟨fn,tmps,assign,body,hy,H⟩:=y;have HX:=Db f;clear q f d s
   gi_wp2
   apply H.Q;rintro e W3⟨rfl,F,L⟩
   gi_wp2
   go_roundw
   case rel=>exact⟨k+1,Ω,by go_num,F,(G _ _ L).M (Da z _)⟩
   case measure=>simp[intOf];omega
  .obtain rfl:k=a.length:=Ω
   gi_wp2
   go_end0
   exact⟨⟨_,rfl⟩,r⟩
theorem Zr4(b c ho:Nat)(v:Value)(a:LS)(F:a.length<=10000)(w:World)(s:b<w.heap.size)(C:c<w.heap.size)(i:Nat->World->World->Prop)(x:∀g,v.ownBlock=some g->∀n A B,i n A B->B.heap[g]?=A.heap[g]?)(r:w.cell? (dQ b 0)=some (.pointer (some (dQ c ho))))(D:w.cell? (dQ c ho)=some v)(y:Sl w 310 3 v a.length (Ds a)):
  Nb 222 #[dP b] (LU a) a.length i w:=λl J W d t z k=>by
 have m:=(d.J s).M r;have o:=(d.J C).M D;rcases y.2 with⟨rfl,E⟩|⟨g,q,R,rfl,f,_,_,_,hT⟩;obtain rfl:a=[]:=AC E;exact((Bg ).1 (ZD (α:=Nat) _ 2 trivial rfl l b c ho (λ_=>J 0) W m o k)).Q λe W' h=>h;exact OB l b c ho g q a F _ J W (x g rfl _) t z m o (As f.lt d.size) (λj u hu=>by rw[d.J (p:=dQ g j) f.lt,f.J];grind) k
end
structure It where
 ns:LY
 k:Nat
 f:Nat
abbrev Gi:=Nat->Bool
def Gi.add(S:Gi)(n:Nat):Gi:=λk=>if k=n then true else S k
abbrev Ek:=By×Option Nat
def Hx(rec:LY->Gi->List It×Gi)(ns:LY)(S:Gi)(x:Ek):List It×Gi:=
 match x.2 with
 |none=>(⟨ns++[x.1],1,0⟩::(rec (ns++[x.1]) S).1,(rec (ns++[x.1]) S).2)
 |some f=>if S f then([⟨ns++[x.1],3,f⟩],S) else([⟨ns++[x.1],2,f⟩],S.add f)
def GS(rec:LY->Gi->List It×Gi)(ns:LY):List Ek->Gi->List It×Gi
 |[],S=>([],S)
 |x::l,S=>((Hx rec ns S x).1++(GS rec ns l (Hx rec ns S x).2).1,(GS rec ns l (Hx rec ns S x).2).2)
def DY(ch:LY->List Ek):Nat->LY->Gi->List It×Gi
 |0,_,S=>([],S)
 |d+1,ns,S=>GS (DY ch d) ns (ch ns) S
theorem V3(c:LY->Gi->List It×Gi)(ns:LY):∀(a b:List Ek) (S:Gi),GS c ns (a++b) S=((GS c ns a S).1++(GS c ns b (GS c ns a S).2).1,(GS c ns b (GS c ns a S).2).2)
 |[],b,S=>by simp[GS]
 |x::a,b,S=>by simp only[AK,GS,V3 c ns a b,Ar]
theorem Zrv(b:LY->Gi->List It×Gi)(ns:LY)(a:List Ek)(x:Ek)(S:Gi):GS b ns (a++[x]) S=((GS b ns a S).1++(Hx b ns (GS b ns a S).2 x).1,(Hx b ns (GS b ns a S).2 x).2):=by grind [V3,GS]
theorem Yc(a:LY->Gi->List It×Gi)(ns:LY)(l:List Ek)(k:Nat)(x:Ek)(h:l[k]?=some x)(S:Gi):
  GS a ns (l.take (k+1)) S=((GS a ns (l.take k) S).1++(Hx a ns (GS a ns (l.take k) S).2 x).1,(Hx a ns (GS a ns (l.take k) S).2 x).2):=by
 rw[Br,h,EH,Zrv]
theorem itL_at(a:LY->Gi->List It×Gi)(ns:LY)(l:List Ek)(k:Nat)(x:Ek)(h:l[k]?=some x)(S:Gi)(j:Nat)(y:It)(hj:(Hx a ns (GS a ns (l.take k) S).2 x).1[j]?=some y):(GS a ns l S).1[(GS a ns (l.take k) S).1.length+j]?=some y:=by have e:l=l.take (k+1)++l.drop (k+1):=Ξ;rw[e,V3];rw[<-e];show((GS a ns (l.take (k+1)) S).1++_)[(GS a ns (l.take k) S).1.length+j]?=some y;rw[Yc a ns l k x h S];rw[Ap Γ,AJ Ω];rw[show(GS a ns (l.take k) S).1.length+j-(GS a ns (l.take k) S).1.length=j by omega];omega
def Jk(x:By×VS):Ek:=(x.1,if x.2.p.isSome then none else some x.2.f.toNat)
def KY(dv:NV)(x:It):Value:=.agg #[dU (jn x.ns),.int .u8 x.k,dI x.f,if x.k=2 then dv x.f else dN]
def LA(dv:NV)(L:List It)(k:Nat):Array Value:=
 match L[k]? with
 |some x => #[KY dv x]
 |none => #[]
theorem Tq{a:NV}{L:List It}{k:Nat}{x:It}(h:L[k]?=some x):LA a L k = #[KY a x]:=by grind [LA]
theorem ZpG(a:NV)(L:List It)(k:Nat)(h:k<L.length):(LA a L k).size=1:=by simp_all[Tq]
def Lh(n0 n1:Nat)(A B:World):Prop:=Below n0 A B/\∀k o,n1<=k->A.heap[k]?=some o->QW o->B.heap[k]?=some o
theorem Lh.M{B:World}(h:Lh n0 a A B)(k:Lh n0 a B C):Lh n0 a A C:=⟨h.1.M k.1,λi o b ho c=>k.2 i o b (h.2 i o b ho c) c⟩
theorem Lh.row{B:World}(h:Lh n0 c A B){k:Nat}{t:TypeId}(b:Gb A k t L)(e:k<n0\/c<=k/\TT t=true):Gb B k t L:=by rcases e with a|⟨a,d⟩;exact(h.1.block k a).M b;exact h.2 k _ a b (.inr ⟨_,_,_,rfl,d⟩)
def Hm(n0 n1 qb:Nat)(A B:World):Prop:=Below n0 A B/\∀k o,n1<=k->A.heap[k]?=some o->QW o->k≠qb->B.heap[k]?=some o
theorem Hm.M{B:World}(h:Hm n0 a b A B)(k:Hm n0 a b B C):Hm n0 a b A C:=⟨h.1.M k.1,λi o c ho d e=>k.2 i o c (h.2 i o c ho d e) d e⟩
theorem Lh.wk{B:World}(h:Lh n0 a A B)(d:Nat):Hm n0 a d A B:=⟨h.1,λk o b ho c _=>h.2 k o b ho c⟩
theorem Hm.below{B:World}(h:Bw A B)(a:n0<=A.heap.size):Hm n0 b c A B:=
 ⟨h.Q a,λk _o _ ho _ _=>(h.block k (Au.1 ho).1).M ho⟩
theorem Hm.e{B:World}(h:Fr (λk=>k=a) A B)(hn:n0<=a)(hA:n0<=A.heap.size):Hm n0 c a A B:=
 ⟨⟨h.os,h.tape,h.output,h.size,λk hk=>h.block k Ω Ω⟩,λk o _ ho _ b=>(h.block k (Au.1 ho).1 b).M ho⟩
theorem Hm.row{B:World}(h:Hm n0 c d A B){k:Nat}{t:TypeId}(b:Gb A k t L)(g:k<n0\/c<=k/\k≠d/\TT t=true):Gb B k t L:=by rcases g with a|⟨a,f,e⟩;exact(h.1.block k a).M b;exact h.2 k _ a b (.inr ⟨_,_,_,rfl,e⟩) f
theorem Hm.bn{e:Nat}{a:World}(h:Hm n0 d e X A)(f:G0 B A a)(hB:X.heap.size<=B)(j:n0<=X.heap.size):Hm n0 d e X a:=by obtain⟨row,c,hr⟩:=f;refine⟨h.1.grown c (Ae j h.1.size) Γ,λk o g ho i l=>?_⟩;have b:=h.2 k o g ho i l;refine(c.block k (Au.1 b).1 ?_).M b;grind
def Mb(s:By)(k:Nat)(f:Int)(vd:Value):Value:=.agg #[dU s,.int .u8 k,dI f,vd]
def K4(S:Nat->Bool):Gf:=(List.range 60).map (λj => dV (S j))
theorem Zf1(S:Nat->Bool):(K4 S).length=60:=by rfl
theorem OX(S:Nat->Bool)(j:Nat)(h:j<60):(K4 S)[j]?=some (dV (S j)):=by simp[K4,h]
theorem Zop(S:Nat->Bool)(j:Nat)(h:j<60):(K4 S).set j (dV true)=K4 (λk=>if k=j then true else S k):=by apply C1;intro k;by_cases a:k<60;rw[OX _ k a];by_cases e:j=k;grind [List.getElem?_set_self,Zf1];rw[A3 e,OX _ k a,if_neg Ω];grind [List.getElem?_eq_none,List.length_set,Zf1]
theorem Zru(w:World)(t q:OA)(s:By)(a:Addr)(n:Int):
  Cl 218 #[.pointer t,dU s,.agg #[.pointer (some a),dI n],.pointer q] w λe w'=>e=dR (Mb s 1 0 dN)/\Bw w w':=by
 obtain⟨o,g,k,r,j,d⟩:=Df w [.pointer (some a),dI n] 260;obtain⟨W2,h,b,i,u,f⟩:=Df o [dU ⟨#[]⟩,.int .u8 0,dI 0,dN] 141;have p:=d.M (f.Q Ω);have c0:=(i _ _ _ k).J 0;rw[j]at b;have l:=Db g;have m:=Db h;clear g h k r j d i u f;go_enter func218,ntmps218;go_upto_region 1 with fail;rw[Da l,Da m];obtain⟨b0,d,f,b3⟩:=b.c3;obtain⟨g0,g1,g2,g3⟩:=b.f3;go_wp2;have c:=Ke b (dU s) (.int .u8 1) (dI 0) dN;exact Am (by simp[results,results218,go_sem,(c.J 0),(c.J 1),(c.J 2),(c.J 3),Mb]) rfl ⟨rfl,QS p Ω _ _ _ _⟩
theorem Zo8(w:World)(t:OA)(s:By)(n:Nat)(z:n<60)(o:Nat)(S:Nat->Bool)(l:Gb w o 245 (K4 S))(x:S n=true):
  Cl 218 #[.pointer t,dU s,.agg #[.pointer none,dI (n:Nat)],dP o] w λe w'=>e=dR (Mb s 3 (n:Nat) dN)/\Bw w w':=by
 obtain⟨v,j,h,m,p,f⟩:=Df w [.pointer none,dI (n)] 260;obtain⟨i,k,q,d,A,g⟩:=Df v [dU ⟨#[]⟩,.int .u8 0,dI 0,dN] 141;have b:=f.M (g.Q Ω);have c0:=(d _ _ _ h).J 0;have c1:=(d _ _ _ h).J 1;have ab:=((d _ _ _ (m _ _ _ l)).J n).M (by rw[OX _ _ z,x]);rw[p]at q;have aa:(n)<60:=Ω;have r:=Db j;have u:=Db k;clear j k h m p f d A g l;go_enter func218,ntmps218;go_upto_region 1 with fail;rw[Da r,Da u];go_upto_region 3 with fail
 go_quiet (fail)
 have a:Gb (i.drewN nq) (w.heap.size+1) 141 _:=q;obtain⟨b0,f,g,b3⟩:=a.c3;obtain⟨g0,g1,g2,g3⟩:=a.f3;go_wp2;have c:=Ke a (dU s) (.int .u8 3) (dI (n:Nat)) dN;have y:Bw w (i.drewN nq):=⟨b.os,b.tape,b.output,b.size,b.block⟩;exact Am (by simp[results,results218,go_sem,(c.J 0),(c.J 1),(c.J 2),(c.J 3),Mb]) rfl ⟨rfl,QS y Ω _ _ _ _⟩
def Zsb(w:World)(s:By)(n:Nat)(qb:Nat)(S:Nat->Bool)(vd:Value)(e:Ending)(w':World):Prop:=
 e=dR (Mb s 2 (n:Nat) vd)/\Gb w' qb 245 (K4 (λk=>if k=n then true else S k))/\Fr (λk=>k=qb) w w'
theorem Zo9(w:World)(tb Z:Nat)(V:NV)(E:NS)(vi:Value)(G:Gh)(I:LF)(C:IB)(_h:TW w tb Z V E vi G I C)(av:I.length<=10000)(s:By)(n:Nat)(Q:n<60)(r:VF)(aj:((n:Int),r)∈I)(c:Nat)(S:Nat->Bool)(R:Gb w c 245 (K4 S))(hS:S n=false)(_hqt:c≠tb)(ag:∀w',Fr (λk=>k=c) w w'->TW w' tb Z V E vi G I C):
  Cl 218 #[dP tb,dU s,.agg #[.pointer none,dI (n:Nat)],dP c] w (Zsb w s n c S (dT r.a r.l r.c)):=by
 obtain⟨M,e1,x1,k1,s1,N⟩:=Df w [.pointer none,dI (n)] 260;obtain⟨f,e2,x2,U,s2,O⟩:=Df M [dU ⟨#[]⟩,.int .u8 0,dI 0,dN] 141;have B:Bw w f:=N.M (O.Q Ω);have aH:=R.lt;have t:=U _ _ _ x1;have J:=U _ _ _ (k1 _ _ _ R);obtain⟨c0,c1⟩:=t.c1;have aC:f.cell? (dQ c n)=some (dV false):=(J.J n).M (by rw[OX _ _ Q,hS]);have aB:f.frozen? (dQ c n)=false:=J.A n;rw[s1]at x2;have aF:w.heap.size<=w.heap.size+1:=Ω;have aG:(n:Int)<60:=Ω;have aa:Hid (∀d:World,d.heap=f.heap->d.os=f.os->d.tape=f.tape->d.output=f.output->d.cell? (dQ w.heap.size 1)=some (dI (n:Nat))/\d.cell? (dQ c n)=some (dV false)/\d.frozen? (dQ c n)=false/\∃a,d.setCell (dQ c n) (dV true)=a/\Gb a w.heap.size 260 [.pointer none,dI (n:Nat)]/\Gb a (w.heap.size+1) 141 [dU ⟨#[]⟩,.int .u8 0,dI 0,dN]/\Hid (∀W,Bw a W->Cl 175 #[.pointer (some (dQ tb 1)),dI (n:Nat)] W λe w'=>e=dR (.tuple #[.agg #[dT r.a r.l r.c,dI r.f],dV true])/\Bw W w')/\Hid (Fr (λk=>k=c) w a)/\Hid (Gb a c 245 (K4 (λk=>if k=n then true else S k)))):=λd x ho ht hu=>by
  have T:Gb d c 245 (K4 S):=by unfold Gb;rw[x];exact J
  have ak:Gb d w.heap.size 260 [.pointer none,dI (n:Nat)]:=by unfold Gb;rw[x];exact t
  have aE:Gb d (w.heap.size+1) 141 [dU ⟨#[]⟩,.int .u8 0,dI 0,dN]:=by unfold Gb;rw[x];exact x2
  have j:Fr (λk=>k=c) w (d.setCell (dQ c n) (dV true)):=
   Fr.set (X:=λk=>k=c) (w':=d) ⟨ho.M B.os,ht.M B.tape,hu.M B.output,by rw[x];exact B.size,λk D _=>by rw[x];exact B.block k D⟩ (dQ c n) _ rfl
  refine⟨(ak.J 1).M rfl,(T.J n).M (by rw[OX _ _ Q,hS]),T.A n,_,rfl,(Aw _ _ _ _ (show w.heap.size≠c by omega)).M ak,(Aw _ _ _ _ (show w.heap.size+1≠c by omega)).M aE,?_,j,?_⟩;exact λW A=>Q8 W tb Z V E vi G I C (ag W ⟨A.os.M j.os,A.tape.M j.tape,A.output.M j.output,Ae j.size A.size,λk D ay=>(A.block k (As D j.size)).M (j.block k D ay)⟩) av n r aj;show Gb _ _ _ _;rw[<-Zop S n Q];exact Gb.set T n (dV true)
 have am:=Db e1;have an:=Db e2;clear e1 e2 x1 k1 s1 N U s2 O ag aj R J x2 t;go_enter func218,ntmps218;go_upto_region 1 with fail;rw[show w.alloc (.cells #[.pointer none,dI (n:Nat)] 260)=M from Da am,show M.alloc (.cells #[dU ⟨#[]⟩,.int .u8 0,dI 0,dN] 141)=f from Da an];go_upto_region 3 with fail
 go_quiet (fail)
 obtain⟨Wq,o⟩:=ex (f.drewN nq);rw[<-o];obtain⟨P,dn,df,a,ah,u,z2,ab,ao,ac⟩:=Da aa Wq.drew (by rw[o];rfl) (by rw[o];rfl) (by rw[o];rfl) (by rw[o];rfl);clear o;have ad:=Db ah;have al:=u;clear ah aa aC aB c0 c1;go_upto_region 5 with fail;refine Az (S:=λX=>X.cell? (dQ w.heap.size 1)=some (dI (n:Nat))) Φ P (λau=>?_);refine tk 0 ?_;refine tk 1 ?_;refine tk 2 ?_;refine tk 3 ?_;refine tk 4 ?_;refine rk 5 (λK hK=>?_);go_simp;rw[show(Wq.setCell (dQ c n) (dV true)).drew=a from Da ad];refine hK.out _ _ ((u.J 1).M rfl) (λar=>?_);clear hK K;try simp only[pE]
 refine AL Φ ?_ _;obtain⟨a0,a1⟩:=u.c1;have ax:w.heap.size+1<a.heap.size:=z2.lt;have az:¬a.heap.size=w.heap.size:=Ω;have aA:¬w.heap.size=a.heap.size:=Ω;clear u P dn df au ar ad;go_upto_region 6 with fail;go_region_held3 (λW=>W.cell? (dQ w.heap.size 1)=some (dI (n:Nat))) (go_keep)
  (first|(go_at_call 175;apply(Da ab _ (by first|exact(Ad _ a).drew|exact((Ad _ a).drew).alloc (Aa _) _|exact((Ad _ a).alloc (Aa _) _).drew)).Q;rintro e w'⟨rfl,H⟩;have q:Bw a w':=(by first|exact((Ad _ a).drew).M (H.Q Θ)|exact(((Ad _ a).alloc (Aa _) _).drew).M (H.Q Θ));have m0:=(q.J (p:=dQ w.heap.size 1) (by show w.heap.size<a.heap.size;omega)).M a1;(try(have z:Gb w' a.heap.size 217 [dN,dI 0]:=(H.block a.heap.size Θ).M (D9 a [dN,dI 0] 217);obtain⟨z0,u⟩:=z.c1;obtain⟨aI,aJ⟩:=z.f1))))
 case' refine_2.refine_3.refine_3.refine_3.refine_3.refine_3.refine_1.refine_2.refine_3.refine_3.refine_3.refine_1.refine_2.refine_1.refine_2.refine_3=>
  obtain⟨h,y,l,aw,aD,ai⟩:=Df w' [dT r.a r.l r.c,dI r.f] 217;rw[y];have i:Bw a h:=q.M (ai.Q q.size);have ae:a.heap.size<=w'.heap.size:=q.size;obtain⟨L,m⟩:=ex w'.heap.size;rw[<-m]at l ae ⊢;clear y aw aD ai m
 case' refine_2.refine_3.refine_3.refine_3.refine_3.refine_3.refine_2.refine_1.refine_2.refine_1.refine_2.refine_3.refine_3.refine_3.refine_1.refine_2.refine_3=>
  have l:Gb ((w'.setCell (dQ a.heap.size 0) (dT r.a r.l r.c)).setCell (dQ a.heap.size 1) (dI r.f)) a.heap.size 217 [dT r.a r.l r.c,dI r.f]:=by have:=(z.set 0 (dT r.a r.l r.c)).set 1 (dI r.f);simpa using this
  have i:Bw a ((w'.setCell (dQ a.heap.size 0) (dT r.a r.l r.c)).setCell (dQ a.heap.size 1) (dI r.f)):=(q.setCell (p:=dQ a.heap.size 0) (Aa _) _).setCell (p:=dQ a.heap.size 1) (Aa _) _;obtain⟨h,y⟩:∃h,(w'.setCell (dQ a.heap.size 0) (dT r.a r.l r.c)).setCell (dQ a.heap.size 1) (dI r.f)=h:=⟨_,rfl⟩;rw[y]at l i ⊢;obtain⟨L,m⟩:=ex a.heap.size;have ae:a.heap.size<=L:=Ω;rw[<-m]at l;rw[show(Value.pointer (some { block:=a.heap.size,off:=0 }))=Value.pointer (some { block:=L,off:=0 }) by rw[m]];clear y m
 all_goals
  have g:Gb h (w.heap.size+1) 141 [dU ⟨#[]⟩,.int .u8 0,dI 0,dN]:=(i.block _ ax).M z2;have t:Gb h w.heap.size 260 [.pointer none,dI (n:Nat)]:=(i.block _ al.lt).M al;have aq:=Db ((i.block _ (Da ac).lt).M (Da ac));have ap:=Db ((Da ao).then (Fr.S (X:=λ_=>False) i) (λ_ _ e=>e.elim));obtain⟨b0,N,O,b3⟩:=g.c3;obtain⟨f0,f1,f2,f3⟩:=g.f3;obtain⟨c0,c1⟩:=l.c1;have P:=t.J 1;clear az aA H q m0 i ab l;go_wp2;have F:=Ke g (dU s) (.int .u8 2) (dI (n:Nat)) (dT r.a r.l r.c);have af:=((((Fr.refl (λk=>k=w.heap.size+1) h).set ⟨w.heap.size+1,0,none⟩ (dU s) rfl).set ⟨w.heap.size+1,1,none⟩ (.int .u8 2) rfl).set ⟨w.heap.size+1,2,none⟩ (dI (n:Nat)) rfl).set ⟨w.heap.size+1,3,none⟩ (dT r.a r.l r.c) rfl;exact Am (v:=Mb s 2 (n:Nat) (dT r.a r.l r.c)) (by simp[results,results218,go_sem,(F.J 0),(F.J 1),(F.J 2),(F.J 3),Mb]) rfl ⟨rfl,(Gb.e (Da aq) (X:=λk=>k=w.heap.size+1) af Ω),(Da ap).then (Y:=λk=>k=w.heap.size+1) af (λk D e=>Ω)⟩
theorem G0.e{b:World}(h:Fr (λk=>k=a) A b)(f:B<=a){c:Array Value}{t:TypeId}{d:Nat×Nat}(ho:A.heap[a]?=some (.cells c t d))(i:TT t=true):G0 B A b:=
 ⟨some a,⟨h.os,h.tape,h.output,h.size,λk g aa=>h.block k g Γ⟩,λr e=>by cases e;exact⟨f,_,ho,.inr ⟨_,_,_,rfl,i⟩⟩⟩
theorem SX:∀(ns:LY),GO ns->(jn ns).size<=13*ns.length
 |[],_=>by simp[Qy,jl]
 |n::ns,h=>by
  have ih:=SX ns (λm a=>h m (AO _ a));have h1:n.size<=12:=by have:=h n Θ;unfold DZ at this;simp only[AQ,An]at this;exact this.1.2
  rw[Qy]at ih ⊢;rw[Jo];have h2:n.data.toList.length=n.size:=AF;grind
theorem ZtA(ns:LY)(n:By):jn (ns++[n])=jn ns++⟨#[47]⟩++n:=by grind [Qa,Ki,K6,Q1,ByteArray.data_append,Array.toList_append]
theorem Zrt(a:NV)(ns:LY):KY a ⟨ns,1,0⟩=.agg #[dU (jn ns),.int .u8 1,dI 0,dN]:=rfl
theorem Zx(a:NV)(ns:LY)(f:Nat):KY a ⟨ns,2,f⟩=.agg #[dU (jn ns),.int .u8 2,dI (f:Nat),a f]:=rfl
theorem Zo4(a:NV)(ns:LY)(f:Nat):KY a ⟨ns,3,f⟩=.agg #[dU (jn ns),.int .u8 3,dI (f:Nat),dN]:=rfl
theorem ZtE(s:By)(v:Value):Mb s 1 0 v=.agg #[dU s,.int .u8 1,dI 0,v]:=rfl
theorem ZtD(s:By)(f:Nat)(v:Value):Mb s 2 (f:Nat) v=.agg #[dU s,.int .u8 2,dI (f:Nat),v]:=rfl
theorem ZtC(s:By)(f:Nat)(v:Value):Mb s 3 (f:Nat) v=.agg #[dU s,.int .u8 3,dI (f:Nat),v]:=rfl
structure Mq(w0:World)(tb rd:Nat)(V:NV)(E:NS)(vi:Value)(G:Gh)(I:LF)(C:IB)(ch:LY->List Ek)(dv:NV):Prop where
 tw:TW w0 tb rd V E vi G I C
 ok:Gp G
 gl:G.length<=10000
 il:I.length<=10000
 ch:∀ns b,Gd G rd ns b->ch ns=(E b).map Jk
 num:∀x∈G,x.2.p=none->∃(n:Nat) (r:VF),x.2.f=n/\n<60/\((n:Int),r)∈I/\dv n=dT r.a r.l r.c
structure LD(w0:World)(qb:Nat)(J:Nat->World->Prop)(K:Nat)(S:Gi)(X:World):Prop where
 j:J K X
 t:Bw w0 X
 s:Gb X qb 245 (K4 S)
theorem LD.bn{c:World}{J:Nat->World->Prop}{K:Nat}{S:Gi}{d:World}(h:LD c b J K S X){e:Nat}(g:∀k A A',J k A->G0 e A A'->J k A')(a:G0 B X d)(f:e<=B)(j:b<B)(h0:c.heap.size<=B):LD c b J K S d:=
 ⟨g _ _ _ h.j (a.Q f),by obtain⟨row,i,hr⟩:=a;exact h.t.grown i h.t.size Γ,a.row h.s (.inl j)⟩
def TP(w0:World)(n1 qb:Nat)(J:Nat->World->Prop)(K:Nat)(S:Gi)(w:World)(e:Ending)(w':World):Prop:=
 e=dR (dV true)/\LD w0 qb J K S w'/\Hm w0.heap.size n1 qb w w'
theorem Hm.a9(h:Hm n0 a b A C)(hB:a<=B)(hq:b<B):KeepsFrom B A C:=
 ⟨h.1.size,λk o hk ho c=>h.2 k o Ω ho (.inl c) Ω⟩
