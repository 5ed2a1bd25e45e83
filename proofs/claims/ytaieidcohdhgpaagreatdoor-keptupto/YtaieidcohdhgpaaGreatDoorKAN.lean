/- Kept. -/
import Derived.Test.YtaieidcohdhgpaaGreatDoorKAM
import Derived.Laws.CopyOwn
namespace Go.Proofs.YtaieidcohdhgpaaGreatDoor
variable{a:Act}{K:Act->World->Prop}{Q:Exit->Act->World->Prop}{R:Gf}{F ns:LY}{L:List (By×Int)}{B b c j tb vb:Nat}{o:Oper}{P:Program}{E:Prop}{f v:Value}{W w:World}
set_option maxHeartbeats 40000000
set_option maxRecDepth 100000
set_option linter.all false
open Tryz
open Go.RowKit
variable{Z:Nat->Prop}
theorem UQ{a:OA}{m:Nat}{s:By}(h:Sl W 5 1 (dT a m c) m (Dd s))(d:m=s.size):(convert 59 9 (dT a m c)).run prog W=.ok (dU s) W:=by
 rcases h.2 with⟨e,h0⟩|⟨g,aa,R,e,j,ac,ab,hl,ht⟩;obtain⟨rfl,rfl,rfl⟩:=e;rw[FR W 59 9 5 0 underlying59 underlying5 underlying9];congr 2;apply ByteArray.ext;exact(Array.size_eq_zero_iff.1 d.r).r;obtain⟨rfl,-,rfl⟩:=e;subst d;refine Go.Lib.run_convert_whole W 59 5 9 underlying59 underlying5 underlying9 g 0 s (λi f=>?_) c;rw[Av,j.J];have b:(R.take (s.size*1))[i]?=(Dd s)[i]? := by grind
 rw[Ej Ω]at b;rw[b];unfold Dd;rw[A8,Ec,Eh f];rfl
def P7(w:World)(e:Ending)(w':World):Prop:=(∃a n c,e=dR (.tuple #[dT a n c,dV true]))/\Bw w w'
def LJ(w:World)(P:Prop)(e:Ending)(w':World):Prop:=(∃a n c,∃b:Bool,e=dR (.tuple #[dT a n c,dV b])/\(P->b=true))/\Bw w w'
theorem LJ.i3{P:Prop}{e:Ending}{w':World}(h:LJ w P e w')(hP:P):P7 w e w':=by obtain⟨⟨a,n,c,b,h1,h2⟩,d⟩:=h;exact⟨Γ,d⟩
theorem Ys(w:World)(vb tb n l:Nat)(kp ep fs:Value)(L:List (By×Int))(F:LY)(h:List (By×Int))(f:LY)(D:D8 w l vb n kp ep fs)(p:Md Z w vb tb n L F h f)(X:Jf L F)(k q a b:Int)(Q:a<=9223372036854775807)(S:b<=9223372036854775807)(s t u:By)(hs:s.size<=2000000):
  Cl 51 #[dP l,.agg (Gm k q a b s t u).toArray] w (LJ w (L=h/\F=f)):=by
 have A:Bw w (w.alloc (.cells (Gm k q a b s t u).toArray 51)):=(Ad _ _).alloc (Aa _) _;have j:=K1.begin D p (Gm k q a b s t u);have E:Hid (∀W,Bw w W->Cl 55 #[dP vb,dU s,dI a,dI b] W λe w'=>(∃x m c,e=dR (.tuple #[dT x m c,dI (JL h f s a b).2])/\m=(JL h f s a b).1.size/\Sl w' 5 1 (dT x m c) m (Dd (JL h f s a b).1))/\Bw W w'):=λW B=>
  NU (p.below B) s Ω a b Q S
 have J:Hid (∀W,Bw w W->Cl 112 #[dP n,dU s,dI a,dI b] W λe w'=>e=dR (.tuple #[dU (JL L F s a b).1,dI (JL L F s a b).2])/\Bw W w'):=λW B=>by obtain⟨G,I,C,ρ,vl,vf,hv,af,ac,ag,hn,_⟩:=p.below B;exact ZqU W n vl vf L F ac.toGj X.fv s Ω a b Q S
 have ae:=Gb.lt D;obtain⟨R,y⟩:=ex (JL L F s a b);obtain⟨N,z⟩:=ex (JL h f s a b);have M:Hid (L=h/\F=f->N=R):=by rintro⟨rfl,rfl⟩;exact z.M y.r
 rw[<-z]at E;rw[<-y]at J;clear y z D p X;go_enter func51,ntmps51;obtain⟨W,P,-,-,aa,-⟩:=Df w (Gm k q a b s t u) 51;rw[P]at j A;have o2:=j.o.J 2;have o3:=j.o.J 3;have o4:=j.o.J 4;have x0:=j.c0;have x1:=j.c1;have g:=Db aa;have H:=Db A;clear j A aa;go_upto_region 1 with fail;clear P;go_region_held3 (λW=>W.cell? (dQ l 0)=some (dP vb)/\W.cell? (dQ w.heap.size 4)=some (dU s)/\W.cell? (dQ w.heap.size 2)=some (dI a)/\W.cell? (dQ w.heap.size 3)=some (dI b)) (go_keep)
  (first|(go_at_call 55;apply(Da E _ (Da H).drew).Q;rintro e r⟨⟨x,m,c,rfl,Y,O⟩,T⟩;have d:Bw W r:=(Ad _ _).drew.M T;have HS:=Db O;have HM:=Db Y;have y2:=(d.J (by rw[Da g];simp)).M o2;have y3:=(d.J (by rw[Da g];simp)).M o3;have y4:=(d.J (by rw[Da g];simp)).M o4;have z0:=(d.J (by rw[Da g];show l<_;omega)).M x0;have z1:=(d.J (by rw[Da g];show l<_;omega)).M x1;have v:=Db ((Da H).M (d.Q (by rw[Da g];omega)));have ab:w.heap.size+1<=r.heap.size:=(by rw[<-Da g];exact d.size);have o:=Db ab;clear ab O Y T d))
 clear x0 x1 o2 o3 o4;go_upto_region 2 with fail;go_region_held3 (λW=>W.cell? (dQ l 1)=some (dP n)/\W.cell? (dQ w.heap.size 4)=some (dU s)/\W.cell? (dQ w.heap.size 2)=some (dI a)/\W.cell? (dQ w.heap.size 3)=some (dI b)) (go_keep)
  (first|(go_at_call 112;apply(Da J _ (Da v).drew).Q;rintro e w2⟨rfl,U⟩;have i:Bw r w2:=(Ad _ _).drew.M U;have ad:=UQ ((Da HS).kept (λk hk _=>i.block k hk)) (Da HM);have V:=(Da v).M (i.Q (Da v).size);have K:=Db V;have q1:=(i.J (by have:=Da o;show l<_;omega)).M z1;have q2:=(i.J (by have:=Da o;show w.heap.size<_;omega)).M y2;have q3:=(i.J (by have:=Da o;show w.heap.size<_;omega)).M y3;have q4:=(i.J (by have:=Da o;show w.heap.size<_;omega)).M y4;clear U i V))
 clear z0 z1 y2 y3 y4;by_cases hq:N.1.toList=R.1.toList
 .go_wp2_with(go_at_call 16;apply(Qn _ _).Q;rintro e w4⟨rfl,rfl⟩)
  go_ret2
  exact⟨⟨_,_,_,_,rfl,λe=>by simp[Da M e]⟩,Da K⟩
 .go_wp2
  go_ret2
  exact⟨⟨_,_,_,_,rfl,λe=>absurd (by rw[Da M e]) hq⟩,Da K⟩
theorem ZqW(w:World)(vb tb c d:Nat)(g ep fs:Value)(L:List (By×Int))(F:LY)(m:D8 w d vb c g ep fs)(e:Md Z w vb tb c L F L F)(k f a b:Int)(i:a<=9223372036854775807)(j:b<=9223372036854775807)(s t u:By)(l:s.size<=2000000):
  Cl 51 #[dP d,.agg (Gm k f a b s t u).toArray] w (P7 w):=
 (Ys w vb tb c d g ep fs L F L F m e e.jf k f a b i j s t u l).Q λ_ _ h=>h.i3 ⟨rfl,rfl⟩
variable{Z:Nat->Prop}
theorem NF(w:World)(vb tb g f:Nat)(h ep fs:Value)(L:List (By×Int))(F:LY)(l:D8 w f vb g h ep fs)(k:Md Z w vb tb g L F L F)(d a b:Int)(s t u:By)(o:a<=9223372036854775807)(p:b<=9223372036854775807)(hs:s.size<=1048576):
  Cl 36 #[dP f,.agg (Gm 7 d a b s t u).toArray] w (Kw Z w vb tb g f h ep fs L F):=by
 have c:=K1.begin l k (Gm 7 d a b s t u);have m:Hid (∀W,K1 Z w W vb tb g f h ep fs w.heap.size (Gm 7 d a b s t u) L F L F->Cl 51 #[dP f,.agg (Gm 7 d a b s t u).toArray] W (P7 W)):=λW j=>
  ZqW W vb tb g f h ep fs L F j.x j.md 7 d a b o p s t u Ω
 clear l k;go_enter func36,ntmps36;obtain⟨W,n,-,-,-,-⟩:=Df w (Gm 7 d a b s t u) 51;rw[n]at c;obtain⟨o0,o1,o2,o3,o4,o5,o6⟩:=c.o.c6;have i:=Db c;clear c;go_wp2_with(apply(Da m _ (Da i)).Q;rintro e w1⟨⟨xa,xn,xc,rfl⟩,q⟩);go_ret;exact((Da i).below q).post
theorem ND(w:World)(vb tb d c:Nat)(h ep fs:Value)(L:List (By×Int))(F:LY)(l:D8 w c vb d h ep fs)(k:Md Z w vb tb d L F L F)(g a b:Int)(s t u:By)(hs:s.size<=1048576):
  Cl 36 #[dP c,.agg (Gm 9 g a b s t u).toArray] w (Kw Z w vb tb d c h ep fs L F):=by
 have f:=K1.begin l k (Gm 9 g a b s t u);have m:Hid (∀W,K1 Z w W vb tb d c h ep fs w.heap.size (Gm 9 g a b s t u) L F L F->Cl 50 #[dP c,dU s] W λe w'=>e=dR (dV true)/\Bw W w'):=λW j=>
  ZqF W vb tb d c h ep fs L F j.x j.md s Ω
 clear l k;go_enter func36,ntmps36;obtain⟨W,n,-,-,-,-⟩:=Df w (Gm 9 g a b s t u) 51;rw[n]at f;have o0:=f.o.J 0;have o4:=f.o.J 4;have i:=Db f;go_wp2_with(apply(Da m _ (Da i)).Q;rintro e w1⟨rfl,o⟩);go_ret;exact((Da i).below o).post
theorem MS(w:World)(vb tb d f:Nat)(i ep fs:Value)(L:List (By×Int))(F:LY)(p:D8 w f vb d i ep fs)(o:Md Z w vb tb d L F L F)(h a b:Int)(s t u:By):
  Cl 36 #[dP f,.agg (Gm 10 h a b s t u).toArray] w (Kw Z w vb tb d f i ep fs L F):=by
 have g:=K1.begin p o (Gm 10 h a b s t u);have j:Hid (∀W,K1 Z w W vb tb d f i ep fs w.heap.size (Gm 10 h a b s t u) L F L F->Cl 34 #[dP vb] W λe w'=>e=dR (dI (JM L F))/\K1 Z w w' vb tb d f i ep fs w.heap.size (Gm 10 h a b s t u) L F L F):=λW c=>
  (WX c.md).Q (λe w' ⟨r,v⟩=>⟨r,c.below v⟩)
 have k:Hid (∀W,K1 Z w W vb tb d f i ep fs w.heap.size (Gm 10 h a b s t u) L F L F->Cl 52 #[dP d] W λe w'=>e=dR (dI (JM L F))/\w'=W):=λW c=>by obtain⟨G,I,C,ρ,z,y,hv,aa,x,ab,hn⟩:=c.md;exact R7 W d z y L F x.toGj.c
 obtain⟨R,m⟩:=ex (JM L F);rw[<-m]at j k;clear m p o;go_enter func36,ntmps36;obtain⟨W,n,-,-,-,-⟩:=Df w (Gm 10 h a b s t u) 51;rw[n]at g;have o0:=g.o.J 0;have x0:=g.c0;have x1:=g.c1;have q:=Db g;clear g;go_upto_region 1 with fail;clear n;go_upto_region 22 with fail;go_region_held3 (λW=>W.cell? (dQ f 0)=some (dP vb)/\W.cell? (dQ f 1)=some (dP d)) (go_keep)
  (first|(go_at_call 34;apply(Da j _ ((Da q).below (Ad _ _).drew)).Q;rintro e w1⟨rfl,c⟩;have m0:=c.c0;have m1:=c.c1;have l:=Db c;clear c)|(go_at_call 52;apply(Da k _ (Da l)).Q;rintro e w3⟨rfl,rfl⟩))
 all_goals
  go_wp2;go_ret;exact(Da l).post
theorem NM(w:World)(vb tb e f:Nat)(i ep fs:Value)(L:List (By×Int))(F:LY)(h:D8 w f vb e i ep fs)(g:Md Z w vb tb e L F L F)(d a b:Int)(s t u:By)(k:Int)(l:k<=0\/10<k):
  Cl 36 #[dP f,.agg (Gm k d a b s t u).toArray] w (Kw Z w vb tb e f i ep fs L F):=by
 have c:=K1.begin h g (Gm k d a b s t u);clear h g;have e1:(k==1)=false:=Γ;have e2:(k==2)=false:=Γ;have e3:(k==3)=false:=Γ;have e4:(k==4)=false:=Γ;have e5:(k==5)=false:=Γ;have e6:(k==6)=false:=Γ;have e7:(k==7)=false:=Γ;have e8:(k==8)=false:=Γ;have e9:(k==9)=false:=Γ;have aa:(k==10)=false:=Γ;clear l;go_enter func36,ntmps36;obtain⟨W,j,-,-,-,-⟩:=Df w (Gm k d a b s t u) 51;rw[j]at c;have o0:=c.o.J 0;go_wp2;go_ret;exact(Da (Db c)).post
variable{Z:Nat->Prop}
def Hs(Z:Nat->Prop)(w:World)(vb tb rb:Nat)(L:List (By×Int))(F:LY)(L':List (By×Int))(F':LY)(B:Nat):Prop:=
 ∃G I C ρ vl vf,Gt w vb tb/\PS w tb G I C/\L6 Z w tb rb vl vf L F/\Rl G I C ρ L' F'/\TX G I/\Lg Z tb w/\∀x∈I,∀g,x.2.a=some g->g.block≠B
section
variable{w w':World}{vb tb rb B:Nat}{L L' L1:List (By×Int)}{F F' F1:LY}{G G':Gh}{I I':LF}{C C':IB}{ρ ρ':Int->Nat}{vl vf:Value}
theorem Hs.md(h:Hs Z w vb tb rb L F L' F' B):Md Z w vb tb rb L F L' F':=by obtain⟨G,I,C,ρ,vl,vf,e,b,c,d,a,f,_⟩:=h;exact⟨G,I,C,ρ,vl,vf,e,b,c,d,a,f⟩
theorem Hs.pg(f:Lg Z tb w)(c:Gt w vb tb)(a:L6 Z w tb rb vl vf L F)(b:Fr (DV tb w) w w')(i:PS w' tb G' I' C')(j:Rl G' I' C' ρ' L' F')(h:TX G' I')(m:∀x∈I',∀g,x.2.a=some g->g.block≠B):Fr (JT Z tb w) w w'/\Hs Z w' vb tb rb L F L' F' B:=by obtain⟨l,_⟩:=Md.pg f c a b i j h;refine⟨l,G',I',C',ρ',vl,vf,(by obtain⟨d,s,c⟩:=c;exact⟨d,s,by grind [Gb.jt]⟩),i,?_,j,h,f.e b (λ_ e=>f.pg e),m⟩;refine⟨a.e b (λk p ⟨⟨t,R,n,ht⟩,_⟩=>?_),a.lo⟩;obtain⟨t',R',o,aa⟩:=Kb a.toGj p;have:=n.type o;grind
theorem Hs.dw(h:Hs Z w vb tb rb L F L' F' B){f:FuncId}{args:Array Value}(x:∀vl vf,Gj w rb vl vf L F->Calls prog f args w λe w'=>e=dR v/\Gc w rb vl vf w' L1 F1):
  Calls prog f args w λe w'=>e=dR v/\Fr (JT Z tb w) w w'/\Hs Z w' vb tb rb L1 F1 L' F' B:=by
 obtain⟨G,I,C,ρ,vl,vf,j,g,b,o,n,l,r⟩:=h;refine(x vl vf b.toGj).Q (λe w' i=>⟨i.1,?_⟩);obtain⟨H,D,p,m,q⟩:=i.2;have A:∀k t R,Jp rb vl vf k->Gb w k t R->t=89\/t=103\/t=9:=λk t R a c=>by obtain⟨t',R',u,aa⟩:=Kb b.toGj a;have:=c.type u;simp_all
 have y:=(Md.dw l j g b o n i.2).1;refine⟨y,G,I,C,ρ,H,D,(by obtain⟨d,s,j⟩:=j;exact⟨d,s,by grind [Gb.jt]⟩),?_,⟨p,λk a=>(q k a).elim (b.lo k) (λh e=>by have:=l.lt k e;omega)⟩,o,n,l.e m b.lo,r⟩;refine g.e m (λa=>?_) (λk t R a c=>?_);obtain⟨t,R,c,z⟩:=Kb b.toGj a;obtain⟨rd,V,E,vi,h⟩:=g;have:=h.pk.2 t R c;subst this
 revert z;decide
 .rcases A k t R a c with rfl|rfl|rfl<;>decide
theorem Md.fresh(h:Md Z w vb tb rb L F L' F')(hB:w.heap.size<=B):Hs Z w vb tb rb L F L' F' B:=by obtain⟨G,I,C,ρ,vl,vf,i,a,d,f,b,k⟩:=h;refine⟨G,I,C,ρ,vl,vf,i,a,d,f,b,k,λx j g hg=>?_⟩;obtain⟨rd,V,E,vi,h⟩:=a;rcases(h.av x j).2 with⟨e,_⟩|⟨g',aa,R,e,c,_⟩;simp_all;have:=c.lt;grind
theorem Hs.below(h:Hs Z w vb tb rb L F L' F' B)(a:Bw w w'):Hs Z w' vb tb rb L F L' F' B:=by obtain⟨G,I,C,ρ,vl,vf,b,⟨j,V,E,k,h⟩,c,g,f,i,e⟩:=h;exact⟨G,I,C,ρ,vl,vf,(by obtain⟨d,s,b⟩:=b;exact⟨d,s,Gb.jt (Z:=Z) (tb:=tb) b (Fr.S a) Δ⟩),⟨j,V,E,k,h.below a (Aa _)⟩,⟨c.e (X:=λ_=>False) (Fr.S a) Γ,c.lo⟩,g,f,i.e (X:=λ_=>False) (Fr.S a) Γ,e⟩
theorem Hs.cr(h:Hs Z w vb tb rb L F L' F' B)(b:Gb w B 5 R)(j:Nat)(v:Value):Hs Z (w.setCell (dQ B j) v) vb tb rb L F L' F' B:=by
 obtain⟨G,I,C,ρ,vl,vf,l,⟨z,V,E,A,h⟩,f,q,p,u,m⟩:=h;have a:Fr (λk=>k=B) w (w.setCell (dQ B j) v):=(Fr.refl _ _).set _ _ rfl;refine⟨G,I,C,ρ,vl,vf,Gt.e l a (λe=>?_),⟨z,V,E,A,h.pk.e a (λe=>?_),h.t.e a (λe=>?_),h.d.e a (λk t c e n=>?_),h.i.e a (λg i e=>?_),h.si,λx s=>(h.av x s).e a (λg i e=>?_),h.lo⟩,⟨f.e a (λk o e=>?_),f.lo⟩,q,p,u.set b v,m⟩;subst e;obtain⟨c,r⟩:=l.row;have:=b.type r;grind;subst e;have:=h.pk.2 _ _ b;grind;subst e;have:=b.type h.t;grind;subst e;have:=b.type n;grind;subst e;obtain⟨c,d⟩:=h.i.type i;have:=b.type d;grind;cases ha:x.2.a with
 |none=>grind [Value.ownBlock]
 |some y=>
  grind [Value.ownBlock]
 subst e;obtain⟨t,c,d,ht⟩:=Kb f.toGj o;have:=b.type d;grind
end
section
variable{w:World}{vb tb rb:Nat}{L:List (By×Int)}{F:LY}
theorem ZsM{L':List (By×Int)}{F':LY}(h:Hs Z w vb tb rb L F L' F' B)(hB:B<w.heap.size)(p:By)(hp:p.size<=2000000)(i:Int)(d:By)(ag:d.size<=2000000)(N:OA)(O:Nat)(hd:Sl w 5 1 (dT N d.size O) d.size (Dd d)):
  Cl 59 #[dP vb,dU p,dI i,dT N d.size O] w λe w'=>e=dR (dI (DT L' F' p i d).1)/\Fr (JT Z tb w) w w'/\Hs Z w' vb tb rb L F (DT L' F' p i d).2.1 (DT L' F' p i d).2.2 B:=by
 obtain⟨G,I,C,ρ,vl,vf,y,ai,H,b,E,K,hN⟩:=h;have ak:=b.lG;have al:=b.lI;have hC:=b.e3;refine(MQ w vb tb y p i _ _ (λe w' W=>?_) (ZkO w tb G I C ai b.ok Ω Ω b.cf b.d7 (λx m=>by rw[b.eu x m];grind) hC p hp i d ag N O hd)).Q ?_;rcases W with⟨_,D,_⟩|⟨_,⟨u,r,a,c,_,_,_,_,_,I',_,⟨D,_⟩|⟨D,_⟩⟩|⟨_,_,f,I1,X,a,c,_,_,_,_,_,_,⟨D,_⟩|⟨D,_⟩⟩⟩;simp_all;simp_all;simp_all;simp_all;simp_all;intro e w' W;obtain⟨e1,e2⟩:=b.ga p i d;rcases W with⟨am,rfl,n,j⟩|⟨A,⟨u,r,a,c,o,hu,R,V,n,I',l,P⟩|⟨o,n,f,I1,X,a,c,V,ah,aa,S,U,l,P⟩⟩;grind [Hs.pg];have v:=b.ew R (WQ (Y8 A) (hC _ R)) l;have J:=v.num.df;rw[<-P4]at J;rw[(e2 A).1 u o hu];unfold Qb;rw[<-J];rcases P with⟨rfl,Q,aj,j,q,t⟩|⟨rfl,T,j⟩;rw[if_pos Q];refine⟨rfl,Hs.pg K y H n j (b.dn q t j.gj Γ) (E.same b.num.nd q t) Γ⟩;rw[if_neg Ω];refine⟨rfl,Hs.pg K y H n j v (E.gx R l T) (λx m=>?_)⟩;rcases(l.2 x).1 m with rfl|⟨m,_⟩;intro g hg;rcases V with e|e;grind;grind;grind;obtain⟨e4,Y,a2,a3,M⟩:=(e2 A).2 o;have ab:=WQ (s:=⟨#[]⟩) (Y8 A) (by simp[ByteArray.size]);have J:∀z:IB,z f=Il ⟨#[]⟩ i d->(∀x∈I,z x.1=C x.1)->DL (X.map (·.2.l))=JM (L'++[(p,(F'.length:Int))]) (F'++[Il ⟨#[]⟩ i d]):=λz h1 h2=>by rw[P4];exact(b.er Y a2 o a3 M aa S U ab l h1 h2).num.df
 rw[e4];unfold Qb;rw[<-(J (λk=>if k=(f) then Il ⟨#[]⟩ i d else C k) Θ Γ)];rcases P with⟨rfl,Q,I3,C3,j,q,t,ac⟩|⟨rfl,T,z,j,ae,af⟩;rw[if_pos Q];refine⟨rfl,Hs.pg K y H n j (b.dn q t j.gj ac) (E.same b.num.nd q t) Γ⟩;rw[if_neg Ω];have v:=b.er Y a2 o a3 M aa S U ab l ae af;refine⟨rfl,Hs.pg K y H n j v (E.er b.ok v.ok M ah S U l T) (λx m=>?_)⟩;rcases(l.2 x).1 m with rfl|⟨m,an⟩;intro g hg;rcases V with e|e;simp_all;grind;grind
end
variable{Z:Nat->Prop}
abbrev IZ:Value:=.int .u8 77
def Kq(u:By)(j:Nat):Gf:=Dd u++(List.replicate j IZ++List.replicate (8-j) (.int .u8 0))
theorem Si(u:By)(h:j<=8):(Kq u j).length=u.size+8:=by grind [Kq,Dh]
theorem ZqP(u:By)(h:j<8):(Kq u j).set (u.size+j) IZ=Kq u (j+1):=by
 unfold Kq;rw[BN _ _ (by grind [Dh]),Dh,BM,BN _ _ Θ,BB,Cw,
  show 8-j=(8-(j+1))+1 by omega,Ff,Fp,List.replicate_succ',Ar]
 rfl
def Qs(u:By)(j:Nat):Gf:=List.replicate j IZ++(Kq u 8).drop j
theorem ZkY(u:By)(h:j<=u.size+8):(Qs u j).length=u.size+8:=by simp_all[Qs,List.length_append,List.length_replicate,List.length_drop,Si,Nat.le_refl]
theorem ZqN(u:By)(h:j<u.size+8):(Qs u j).set j IZ=Qs u (j+1):=by unfold Qs;have hl:=Si u (Aa 8);rw[BN _ _ Θ,BB,Cw,A2 Ω,Fp,List.replicate_succ',Ar];rfl
theorem ZqO(u:By)(h1:u.size<=j)(h:j<u.size+8):(Qs u j)[j]?=some IZ:=by unfold Qs;rw[AJ Θ,BB,Cw,BF,Ep];unfold Kq;rw[AJ (by grind [Dh]),Dh,Ap Γ,Et,if_pos Ω]
theorem TD{N:Nat}{u:By}(h:Gb W B 5 (Kq u 8))(hu:u.size<=1048576)(a:N=u.size+8):Sl W 5 1 (dS B u.size N) u.size (Dd u):=by subst a;refine⟨by grind [Dh],.inr ⟨B,u.size+8,_,rfl,h,Ω,by grind [maxLen],by simp_all[Si,Nat.le_refl],?_⟩⟩;simp_all[Kq,Nat.mul_one,List.take_append_of_le_length,Dh,List.take_of_length_le]
theorem K1.cr{d i g:Nat}{ep fs:Value}{O:Gf}{b:List (By×Int)}{a:LY}(h:K1 Z w W vb tb d i f ep fs g O L F b a)(l:Hs Z W vb tb d L F b a B)(c:Gb W B 5 R)(k:w.heap.size<=B)(j:Nat)(v:Value):K1 Z w (W.setCell (dQ B j) v) vb tb d i f ep fs g O L F b a:=by refine⟨h.e.ext ((Ad _ _).setCell (p:=dQ B j) k v),(l.cr c j v).md,Gb.a1 h.x _ _ (λe=>?_),h.o.a1 _ _ (λe=>?_)⟩;subst e;have:=c.type h.x;grind;subst e;have:=c.type h.o;grind
def Wt(Z:Nat->Prop)(w:World)(vb tb rb xb:Nat)(kp ep fs:Value)(R R':Int×List (By×Int)×LY)(e:Ending)(w':World):Prop:=
 e=dR (dV (R'.1==R.1))/\Fr (JT Z tb w) w w'/\D8 w' xb vb rb kp ep fs/\Md Z w' vb tb rb R.2.1 R.2.2 R'.2.1 R'.2.2
theorem Z4(w:World)(vb tb d v:Nat)(A ep fs:Value)(L:List (By×Int))(F:LY)(l:List (By×Int))(h:LY)(hx:D8 w v vb d A ep fs)(hm:Md Z w vb tb d L F l h)(ah:Jf L F)(hF:F.length+1<=2000000)(k x a b:Int)(s t u:By)(hs:s.size<=1048576)(hu:u.size<=1048576):
  Cl 37 #[dP v,.agg (Gm k x a b s t u).toArray] w (Wt Z w vb tb d v A ep fs (DT L F s a u) (DT l h s a u)):=by
 obtain⟨i0,aL,aN,aO,aP⟩:=Bk Q0;have C:=K1.begin hx hm (Gm k x a b s t u);obtain⟨W,hW,-,-,ar,-⟩:=Df w (Gm k x a b s t u) 51;rw[hW]at C;obtain⟨B,am⟩:=ex W.heap.size;have HA:Hid (∀f X cd,K1 Z w f vb tb d v A ep fs w.heap.size (Gm k x a b s t u) L F l h->Hs Z f vb tb d L F l h B->B<f.heap.size->Sl f 5 1 (dT X u.size cd) u.size (Dd u)->Cl 59 #[dP vb,dU s,dI a,dT X u.size cd] f λe w'=>e=dR (dI (DT l h s a u).1)/\K1 Z w w' vb tb d v A ep fs w.heap.size (Gm k x a b s t u) L F (DT l h s a u).2.1 (DT l h s a u).2.2/\Fr (JT Z tb f) f w'/\Hs Z w' vb tb d L F (DT l h s a u).2.1 (DT l h s a u).2.2 B):=λf X cd m z aa hd=>
  (ZsM z aa s Ω a u Ω X cd hd).Q (λe w' ⟨o,y,H⟩=>⟨o,m.cp y H.md,y,H⟩)
 have HB:Hid (∀f,K1 Z w f vb tb d v A ep fs w.heap.size (Gm k x a b s t u) L F (DT l h s a u).2.1 (DT l h s a u).2.2->Hs Z f vb tb d L F (DT l h s a u).2.1 (DT l h s a u).2.2 B->Cl 47 #[dP d,dU s,dI a,dU u] f λe w'=>e=dR (dI (DT L F s a u).1)/\K1 Z w w' vb tb d v A ep fs w.heap.size (Gm k x a b s t u) (DT L F s a u).2.1 (DT L F s a u).2.2 (DT l h s a u).2.1 (DT l h s a u).2.2/\Fr (JT Z tb f) f w'/\Hs Z w' vb tb d (DT L F s a u).2.1 (DT L F s a u).2.2 (DT l h s a u).2.1 (DT l h s a u).2.2 B):=λf m z=>
  (z.dw (λvl vf hr=>Zn0 f d vl vf L F hr ah.fv (by have:=ah.len;omega) hF s Ω a u Ω)).Q (λe w' ⟨o,y,H⟩=>⟨o,m.next y H.md,y,H⟩)
 obtain⟨R,hR⟩:=ex (DT L F s a u);obtain⟨n,ag⟩:=ex (DT l h s a u);rw[<-ag]at HA;rw[<-hR,<-ag]at HB ⊢;clear hR ag hx hm ah;obtain⟨N,hN⟩:=ex (u.size+8);have aH:Hid (∀D:World,D.ownsRow 0 5 1 (dS W.heap.size N N) N (madeCells (Value.int .u8 0).cells (N*1)).toList->W.grownBy D none->∃f,(Builtin.copy_ #[59,9] 3 #[dS W.heap.size N N,dU u]).run prog D=.ok (goInt u.size) f/\Hid (Gb f W.heap.size 5 (Kq u 0))/\Hid (Bw W f)):=by
  subst hN;intro D ab M;have hS:=Sl.a3 ab;have hb:=QE M;have e1:(madeCells (Value.int .u8 0).cells ((u.size+8)*1)).toList=List.replicate (u.size+8) (.int .u8 0):=by rw[B2];exact CT (.int .u8 0) _
  rw[e1]at hS;rcases hS.2 with⟨e,_⟩|⟨g,aR,Q,e,hr,o,y,H,h4⟩;cases e;simp only[BC,CX,FT]at e;obtain⟨⟨rfl,-,-⟩,-,rfl⟩:=e;rw[Ak Ω]at h4;subst h4;refine⟨_,Lib.run_copy_row_string D 59 9 3 5 W.heap.size 0 _ _ u _ 5 underlying59 Vi hr Ω Θ,?_,below_setRow hb (Aa _) _⟩;have:=Bo D W.heap.size _ (List.take 0 (List.replicate (u.size+8) (Value.int .u8 0)).toArray.toList++Lib.byteCells u.data.toList++List.drop (0+u.size) (List.replicate (u.size+8) (Value.int .u8 0)).toArray.toList).toArray 5 _ hr;show Gb _ _ _ _;unfold Gb;rw[this];congr 3;unfold Kq Dd Lib.byteCells;simp
 have o2:=C.o.J 2;have o4:=C.o.J 4;have o6:=C.o.J 6;have x0:=C.c0;have x1:=C.c1;have HK:=Db C;have al:=Db ar;have P:=Db am;clear C ar am;go_enter func37,ntmps37;go_upto_region 1 with fail;clear hW;have aM:IntKind.i64.wrap ((u.size:Int)+8)=(N:Int):=by rw[AI];omega
 have r:=Db hN;have aS:N<=1048584:=Ω;clear hN;go_upto_region 2 with fail;go_wp2_with(first|(at_make;refine Ct _ rfl _ _ 59 rfl 0 5 i0 (.int .u8 0) 1 underlying59 aL aN aO _ _ _ _ N rfl rfl rfl rfl (by rw[aP];omega) (by unfold maxLen;omega) (Ao _) ?_;intro w1 ab M;obtain⟨D,ap,aD,aE⟩:=Da aH w1 ab M;have aQ:w1.cell? (dQ w.heap.size 6)=some (dU u):=((QE M).J (p:=dQ w.heap.size 6) (by rw[Da al];simp)).M o6;clear ab M)|(at_builtin;refine Vb _ rfl _ _ 59 9 rfl _ _ rfl rfl ap ?_));clear ap aQ aM
 go_loopw [7] (λi wr=>∃q:Nat,u.size<=q/\q<=N/\i=dI q/\Hid (Gb wr W.heap.size 5 (Kq u (q-u.size)))/\Hid (Bw W wr)) (λi _=>N-(intOf i).toNat)
 case atStart=>exact⟨u.size,Aa _,by have:=Da r;omega,rfl,by rw[Cw];exact aD,aE⟩
 case round=>
  obtain⟨q,aU,aV,rfl,J,ac⟩:=hrel;by_cases aa:q<N
  .obtain⟨O,an⟩:∃O,wr.cell? (dQ W.heap.size q)=some O:=⟨_,((Da J).J q).M (Ab (by rw[Si u (by have:=Da r;omega)];have:=Da r;omega))⟩;have aK:=(Da J).A q;have ak:Hid (Gb (wr.setCell (dQ W.heap.size q) IZ) W.heap.size 5 (Kq u (q+1-u.size))):=(by have o:=(Da J).set q IZ;have y:=ZqP u (j:=q-u.size) (by have:=Da r;omega);rw[show u.size+(q-u.size)=q by omega,show q-u.size+1=q+1-u.size by omega]at y;rw[y]at o;exact o);have aj:Hid (Bw W (wr.setCell (dQ W.heap.size q) IZ)):=(Da ac).setCell (p:=dQ W.heap.size q) (Aa _) _;go_wp2
   go_roundw
   case rel=>first|exact⟨q+1,Ω,Ω,by go_num,ak,aj⟩|((repeat apply Exists.intro);exact⟨⟨q+1,Ω,Ω,by go_num,ak,aj⟩,rfl⟩)
   case measure=>simp[intOf];omega
  .obtain rfl:q=N:=Ω;have E:=(Da HK).below (Da ac);have aq:Gb wr W.heap.size 5 (Kq u 8):=(by have o:=Da J;rw[show q-u.size=8 by have:=Da r;omega]at o;exact o);have ao:Hs Z wr vb tb d L F l h B:=((Da HK).md.fresh (CV (Da P).r)).below (Da ac);have o2:=E.o.J 2;have o4:=E.o.J 4;have o6:=E.o.J 6;have x0:=E.c0;have x1:=E.c1;have au:=Db E;have ae:=Db aq;have ay:=Db ao;clear E aq ao aa J;go_upto_region 8 with fail;go_region_held3 (λW=>W.cell? (dQ v 0)=some (dP vb)/\W.cell? (dQ w.heap.size 4)=some (dU s)/\W.cell? (dQ w.heap.size 2)=some (dI a)) (go_keep)
    (first|(go_at_call 59;apply(Da HA _ _ _ ((Da au).below (Ad _ _).drew) ((Da ay).below (Ad _ _).drew) (by rw[Da P];exact(Da ae).lt) (TD (W:=wr.drew) (Da ae) hu (Da r))).Q;rintro e w2⟨rfl,m,K,z⟩;have m0:=m.c0;have m1:=m.c1;have m2:=m.o.J 2;have m4:=m.o.J 4;have m6:=m.o.J 6;have aF:Hid (Gb w2 W.heap.size 5 (Kq u 8)):=Gb.jt (W:=wr.drew) (Da ae) K Δ;have av:=Db m;have az:=Db z;clear m K z))
   clear o2 o4 o6 x0 x1;go_upto_region 9 with fail;go_region_held3 (λW=>W.cell? (dQ v 1)=some (dP d)/\W.cell? (dQ w.heap.size 4)=some (dU s)/\W.cell? (dQ w.heap.size 2)=some (dI a)/\W.cell? (dQ w.heap.size 6)=some (dU u)) (go_keep)
    (first|(go_at_call 47;apply(Da HB _ ((Da av).below (Ad _ _).drew) ((Da az).below (Ad _ _).drew)).Q;rintro e I⟨rfl,m,K,z⟩;have n1:=m.c1;have n2:=m.o.J 2;have n4:=m.o.J 4;have n6:=m.o.J 6;have af:Hid (Gb I W.heap.size 5 (Kq u 8)):=Gb.jt (W:=w2.drew) (Da aF) K Δ;have aw:=Db m;have aA:=Db z;clear m K z))
   clear m0 m1 m2 m4 m6 n1 n2 n4;have aI:=UQ (TD (W:=I) (Da af) hu (Da r)) rfl;have aJ:=UQ (TD (W:=I.drew) (Da af) hu (Da r)) rfl;go_upto_region 10 with fail;go_region_held3 (λY=>Y.cell? (dQ w.heap.size 6)=some (dU u)/\(convert 59 9 (dS W.heap.size u.size q)).run prog Y=.ok (dU u) Y) (go_keep) (first|fail)
   clear n6 aI aJ;have aG:Hid (Gb I.drew W.heap.size 5 (Qs u 0)):=Da af;have ax:Hid (K1 Z w I.drew vb tb d v A ep fs w.heap.size (Gm k x a b s t u) R.2.1 R.2.2 n.2.1 n.2.2):=(Da aw).below (Ad _ _).drew;have aB:Hid (Hs Z I.drew vb tb d R.2.1 R.2.2 n.2.1 n.2.2 B):=(Da aA).below (Ad _ _).drew;go_wp2_with fail
   go_loopw [11,10] (λi bb wq=>∃c:Nat,c<=q/\i=dI c/\bb=dV true/\Hid (Gb wq W.heap.size 5 (Qs u c))/\Hid (K1 Z w wq vb tb d v A ep fs w.heap.size (Gm k x a b s t u) R.2.1 R.2.2 n.2.1 n.2.2)/\Hid (Hs Z wq vb tb d R.2.1 R.2.2 n.2.1 n.2.2 B)) (λi _ _=>q-(intOf i).toNat)
   case atStart=>exact⟨0,Ao _,rfl,rfl,aG,ax,aB⟩
   case round=>
    obtain⟨c,aW,rfl,rfl,G,T,aC⟩:=hrel;by_cases aa:c<q
    .have V:Hid (Gb (wr.setCell (dQ W.heap.size c) IZ) W.heap.size 5 (Qs u (c+1))):=(by have o:=(Da G).set c IZ;rw[ZqN u (by have:=Da r;omega)]at o;exact o);have ai:Hs Z wr vb tb d R.2.1 R.2.2 n.2.1 n.2.2 W.heap.size:=(by have o:=Da aC;rw[Da P]at o;exact o);have S:Hid (K1 Z w (wr.setCell (dQ W.heap.size c) IZ) vb tb d v A ep fs w.heap.size (Gm k x a b s t u) R.2.1 R.2.2 n.2.1 n.2.2):=(Da T).cr ai (Da G) (by rw[Da al];omega) c IZ;have U:Hid (Hs Z (wr.setCell (dQ W.heap.size c) IZ) vb tb d R.2.1 R.2.2 n.2.1 n.2.2 B):=(by show Hs _ _ _ _ _ _ _ _ _ _;rw[Da P];exact ai.cr (Da G) c IZ);have aK:=(Da G).A c;clear ai;by_cases aT:c<u.size
     focus
      obtain⟨O,an⟩:∃O,wr.cell? (dQ W.heap.size c)=some O:=⟨_,((Da G).J c).M (Ab (by rw[ZkY u (by have:=Da r;omega)];have:=Da r;omega))⟩
     rotate_left
     focus
      have an:wr.cell? (dQ W.heap.size c)=some (.int .u8 77):=((Da G).J c).M (ZqO u Ω (by have:=Da r;omega))
     all_goals
      go_wp2
      go_roundw
      case rel=>first|exact⟨c+1,Ω,by go_num,rfl,V,S,U⟩|((repeat apply Exists.intro);exact⟨⟨c+1,Ω,by go_num,rfl,V,S,U⟩,rfl⟩)
      case measure=>simp[intOf];omega
    .obtain rfl:c=q:=Ω;go_wp2_with(go_at_call 16;apply(Qn _ _).Q;rintro e w4⟨rfl,rfl⟩);go_ret;exact⟨rfl,(Da T).e,(Da T).x,(Da T).md⟩
theorem ZI(w:World)(vb tb c d:Nat)(e ep fs:Value)(L:List (By×Int))(F:LY)(m:D8 w d vb c e ep fs)(f:Md Z w vb tb c L F L F)(i:F.length+1<=2000000)(k g a b:Int)(s t u:By)(j:s.size<=1048576)(l:u.size<=1048576):
  Cl 37 #[dP d,.agg (Gm k g a b s t u).toArray] w (Kw Z w vb tb c d e ep fs (DT L F s a u).2.1 (DT L F s a u).2.2):=
 (Z4 w vb tb c d e ep fs L F L F m f f.jf i k g a b s t u j l).Q λ_ _ h=>⟨by rw[h.1,beq_self_eq_true],h.2⟩
theorem NK(w:World)(vb tb g d:Nat)(h ep fs:Value)(L:List (By×Int))(F:LY)(k:D8 w d vb g h ep fs)(j:Md Z w vb tb g L F L F)(f a b:Int)(s t u:By)(r:F.length+1<=2000000)(y:s.size<=1048576)(z:u.size<=1048576):
  Cl 36 #[dP d,.agg (Gm 2 f a b s t u).toArray] w (Kw Z w vb tb g d h ep fs (DT L F s a u).2.1 (DT L F s a u).2.2):=by
 have c:=K1.begin k j (Gm 2 f a b s t u);have l:Hid (∀W,K1 Z w W vb tb g d h ep fs w.heap.size (Gm 2 f a b s t u) L F L F->Cl 37 #[dP d,.agg (Gm 2 f a b s t u).toArray] W λe w'=>e=dR (dV true)/\Kw Z w vb tb g d h ep fs (DT L F s a u).2.1 (DT L F s a u).2.2 (dR (dV true)) w'):=λW i=>
  (ZI W vb tb g d h ep fs L F i.x i.md r 2 f a b s t u y z).Q (λe w' ⟨n,o,p,q⟩=>⟨n,rfl,i.e.dh o,p,q⟩)
 clear k j;go_enter func36,ntmps36;obtain⟨W,v,-,-,-,-⟩:=Df w (Gm 2 f a b s t u) 51;rw[v]at c;obtain⟨o0,o1,o2,o3,o4,o5,o6⟩:=c.o.c6;have m:=Db c;go_wp2_with(apply(Da l _ (Da m)).Q;rintro e w1⟨rfl,x⟩);go_ret;exact x
variable{Z:Nat->Prop}
def OL(Z:Nat->Prop):Prop:=∀(w:World) (vb tb rb xb:Nat) (kp ep fs:Value) (L:List (By×Int)) (F:LY) (L':List (By×Int)) (F':LY),D8 w xb vb rb kp ep fs->Md Z w vb tb rb L F L' F'->Jf L F->∀s:By,s.size<=2000000->
 Cl 49 #[dP xb,dU s] w (LJ w (L=L'/\F=F'))
theorem Zob(L:List (By×Int))(F:LY)(p:By)(n:Int):(JI L F p n).2.length<=F.length+1:=by grind [JI]
theorem ZhJ(L:List (By×Int))(F:LY)(p:By)(i:Int)(d:By):(DT L F p i d).2.2.length<=F.length+1:=by grind [Ko,DT,Qb]
theorem NE(w:World)(vb tb f c:Nat)(i ep fs:Value)(L:List (By×Int))(F:LY)(n:D8 w c vb f i ep fs)(m:Md Z w vb tb f L F L F)(g a b:Int)(s t u:By)(l:OL Z)(hs:s.size<=1048576):
  Cl 36 #[dP c,.agg (Gm 8 g a b s t u).toArray] w (Kw Z w vb tb f c i ep fs L F):=by
 have d:=K1.begin n m (Gm 8 g a b s t u);have o:Hid (∀W,K1 Z w W vb tb f c i ep fs w.heap.size (Gm 8 g a b s t u) L F L F->Cl 49 #[dP c,dU s] W (P7 W)):=λW j=>
  (l W vb tb f c i ep fs L F L F j.x j.md j.md.jf s Ω).Q λ_ _ h=>h.i3 ⟨rfl,rfl⟩
 clear n m l;go_enter func36,ntmps36;obtain⟨W,p,-,-,-,-⟩:=Df w (Gm 8 g a b s t u) 51;rw[p]at d;have o0:=d.o.J 0;have o4:=d.o.J 4;have k:=Db d;clear d;go_wp2_with(apply(Da o _ (Da k)).Q;rintro e w1⟨⟨xa,xn,xc,rfl⟩,q⟩);go_ret;exact((Da k).below q).post
def Zum(Z:Nat->Prop)(w:World)(vb tb rb xb:Nat)(kp ep fs:Value)(F:LY)(e:Ending)(w':World):Prop:=∃L' F',Kw Z w vb tb rb xb kp ep fs L' F' e w'/\F'.length<=F.length+1
theorem ZqD(w:World)(vb tb c d:Nat)(f ep fs:Value)(L:List (By×Int))(F:LY)(j:D8 w d vb c f ep fs)(i:Md Z w vb tb c L F L F)(g a b:Int)(s t u:By)(x:OL Z)(p:F.length+1<=2000000)(k:Int)(q:a<=9223372036854775807)(r:b<=9223372036854775807)(l:s.size<=1048576)(n:t.size<=1048576)(y:u.size<=1048576):
  Cl 36 #[dP d,.agg (Gm k g a b s t u).toArray] w (Zum Z w vb tb c d f ep fs F):=by
 have m:=Ef F.length;by_cases o:k<=0\/10<k;exact(NM w vb tb c d f ep fs L F j i g a b s t u k o).Q (λe w' h=>⟨_,_,h,m⟩);have v:k=1\/k=2\/k=3\/k=4\/k=5\/k=6\/k=7\/k=8\/k=9\/k=10:=Ω;rcases v with rfl|rfl|rfl|rfl|rfl|rfl|rfl|rfl|rfl|rfl;exact(NL w vb tb c d f ep fs L F j i g a b s t u l).Q (λe w' h=>⟨_,_,h,m⟩);exact(NK w vb tb c d f ep fs L F j i g a b s t u p l y).Q (λe w' h=>⟨_,_,h,ZhJ _ _ _ _ _⟩);exact(NJ w vb tb c d f ep fs L F j i g a b s t u l).Q (λe w' h=>⟨_,_,h,Zob _ _ _ _⟩);exact(NI w vb tb c d f ep fs L F j i g a b s t u l n).Q (λe w' h=>⟨_,_,h,m⟩);exact(NH w vb tb c d f ep fs L F j i g a b s t u l n).Q (λe w' h=>⟨_,_,h,m⟩);exact(NG w vb tb c d f ep fs L F j i g a b s t u l).Q (λe w' h=>⟨_,_,h,m⟩);exact(NF w vb tb c d f ep fs L F j i g a b s t u q r l).Q (λe w' h=>⟨_,_,h,m⟩);exact(NE w vb tb c d f ep fs L F j i g a b s t u x l).Q (λe w' h=>⟨_,_,h,m⟩);exact(ND w vb tb c d f ep fs L F j i g a b s t u l).Q (λe w' h=>⟨_,_,h,m⟩);exact(MS w vb tb c d f ep fs L F j i g a b s t u).Q (λe w' h=>⟨_,_,h,m⟩)
theorem Znt(w:World)(x:OA)(k c a b:Int)(s t u:By)(hk:k<=10):
  Cl 38 #[.pointer x,.agg (Gm k c a b s t u).toArray] w λe w'=>e=dR (dV true)/\Bw w w':=by
 have e1:(k==11)=false:=Γ;have e2:(k==12)=false:=Γ;obtain⟨W,hW,d,-,-,hb⟩:=Df w (Gm k c a b s t u) 51;have o0:=d.J 0;go_enter func38,ntmps38;go_wp2;go_ret;simp_all
variable{Z:Nat->Prop}
theorem TV(hl:OL Z)(w:World)(vb tb b:Nat)(L:List (By×Int))(F:LY)(j:List (By×Int))(d:LY)(q:Md Z w vb tb b L F j d)(v:Jf L F):
  Cl 18 #[dP vb,dP b] w (LH w (L=j/\F=d)):=by
 obtain⟨M,A,t⟩:∃M A,Gj w b M A L F:=by obtain⟨G,I,C,ρ,M,A,hv,am,t,an,hn,_⟩:=q;exact⟨M,A,t.toGj⟩
 have ak:=v.len;obtain⟨Y,cv,rfl,ah⟩:=t.sl.ao;have P:Hid (∀a,Bw w a->a.cell? (dQ b 0)=some (dT Y L.length cv)/\∀m x,L[m]?=some x->∃g,Y=some (dQ g 0)/\a.cell? (dQ g (m*2))=some (dU x.1)/\a.cell? (dQ g (m*2+1))=some (dI x.2)/\x.1.size<=2000000):=λa c=>by have o:=t.e (Fr.S c) (λ_ _=>id);refine⟨o.c.c0,λm x hx=>?_⟩;obtain⟨a',c',e',ai⟩:=o.sl.ao;simp only[BC,true_and]at e';obtain⟨rfl,rfl⟩:=e';obtain⟨g,l,K,h4⟩:=ai m x hx;exact⟨g,l,K,h4,(t.ok x (Ai hx)).1⟩
 obtain⟨W,hW,k,-,-,ac⟩:=Df w [dP vb,dP b,dN,dN,dU ⟨#[]⟩] 55;have hq:∀a,Bw w a->Gb a w.heap.size 55 [dP vb,dP b,dN,dN,dU ⟨#[]⟩]->D8 a w.heap.size vb b dN dN (dU ⟨#[]⟩)/\Md Z a vb tb b L F j d:=λa c k=>⟨k,q.below c⟩;have S:Hid (∀a s,s.size<=2000000->Bw w a->D8 a w.heap.size vb b dN dN (dU ⟨#[]⟩)->Cl 49 #[dP w.heap.size,dU s] a (LJ a (L=j/\F=d))):=λa s y c k=>hl a vb tb b _ _ _ _ L F j d k (q.below c) v s y;have HS:Hid (∀a s,s.size<=2000000->Bw w a->D8 a w.heap.size vb b dN dN (dU ⟨#[]⟩)->Cl 50 #[dP w.heap.size,dU s] a (LH a (L=j/\F=d))):=λa s y c k=>YU a vb tb b _ _ _ _ L F j d k (q.below c) v s y;have HR:Hid (∀a s,s.size<=2000000->Bw w a->D8 a w.heap.size vb b dN dN (dU ⟨#[]⟩)->Cl 51 #[dP w.heap.size,.agg (Gm 0 0 0 1281 s ⟨#[]⟩ ⟨#[]⟩).toArray] a (LJ a (L=j/\F=d))):=λa s y c k=>Ys a vb tb b _ _ _ _ L F j d k (q.below c) v 0 0 0 1281 Ω Ω s _ _ y;have T:Hid (∀a,Bw w a->Cl 34 #[dP vb] a λe w'=>e=dR (dI (JM j d))/\Bw w w'):=λa c=>(WX (q.below c)).Q (λe w' h=>⟨h.1,c.M (h.2.Q c.size)⟩);have V:Hid (∀a,Bw w a->Cl 52 #[dP b] a λe w'=>e=dR (dI (JM L F))/\w'=a):=λa c=>R7 a b _ A L F (t.e (Fr.S c) (λ_ _=>id)).c;have B:Hid (∀a H,Bw a H->Bw w a->D8 a w.heap.size vb b dN dN (dU ⟨#[]⟩)->Bw w H/\D8 H w.heap.size vb b dN dN (dU ⟨#[]⟩)):=λa H c o l=>⟨o.M (c.Q o.size),Gb.e l (X:=λ_=>False) (Fr.S c) id⟩;have D:Hid (Bw w W/\D8 W w.heap.size vb b dN dN (dU ⟨#[]⟩)):=⟨ac,k⟩;obtain⟨U,N⟩:=ex (JM L F);obtain⟨U',O⟩:∃U,U=JM j d:=⟨_,rfl⟩;have HE:Hid (L=j/\F=d->U'=U):=by rintro⟨rfl,rfl⟩;exact O.M N.r
 rw[<-O]at T;rw[<-N]at V;clear N O v q t ah hq k ac;go_enter func18,ntmps18;go_upto_region 2 with fail;clear hW;go_wp2_with(go_at_call 49;apply(Da S _ _ (by simp[ByteArray.size]) (Da D).1 (Da D).2).Q;rintro e w1⟨⟨xa,xn,xc,b1,rfl,o⟩,aa⟩;have af:=Db (Da B _ _ aa (Da D).1 (Da D).2);have ae:=Db o;clear aa o)
 go_loopw [7,8] (λok i wr=>∃(m:Nat) (u:Bool),m<=L.length/\ok=dV u/\i=dI m/\Hid (L=j/\F=d->u=true)/\Hid (Bw w wr/\D8 wr w.heap.size vb b dN dN (dU ⟨#[]⟩))) (λ_ i _=>L.length-(intOf i).toNat)
 case atStart=>exact⟨0,b1,Ao _,rfl,rfl,ae,af⟩
 case round=>
  obtain⟨m,u,q,rfl,rfl,R,f⟩:=hrel;have aj:=(Da P wr (Da f).1).1;by_cases ag:m<L.length
  .obtain⟨g,rfl,p0,p1,z⟩:=(Da P wr (Da f).1).2 m _ (Ab ag);obtain⟨⟨ps,pf⟩,ad⟩:∃x,x=L[m]:=⟨_,rfl⟩;rw[<-ad]at p0 p1 z;simp only at p0 p1 z;clear ad;cases u
   .go_wp2;go_ret;exact⟨⟨false,rfl,Da R⟩,(Da f).1⟩
   by_cases al:pf<0
   .go_wp2_with(go_at_call 49;apply(Da S _ _ z (Da f).1 (Da f).2).Q;rintro e w2⟨⟨ya,yn,yc,J,rfl,l⟩,p⟩;have r:=Db (Da B _ _ p (Da f).1 (Da f).2);have n:=Db l;clear p l)
    go_roundw
    case rel=>first|exact⟨m+1,J,Ω,rfl,by go_num,n,r⟩|((repeat apply Exists.intro);exact⟨⟨m+1,J,Ω,rfl,by go_num,n,r⟩,rfl⟩)
    case measure=>simp[intOf];omega
   .go_wp2_with(first|(go_at_call 50;apply(Da HS _ _ z (Da f).1 (Da f).2).Q;rintro e w2⟨⟨J,rfl,l⟩,p⟩;have r:=Db (Da B _ _ p (Da f).1 (Da f).2);have n:=Db l;clear p l)|(go_at_call 51;apply(Da HR _ _ z (Da r).1 (Da r).2).Q;rintro e w3⟨⟨ya,yn,yc,b3,rfl,K⟩,ab⟩;have E:=Db (Da B _ _ ab (Da r).1 (Da r).2);have Q:=Db K;clear ab K;cases J))
    .go_roundw
     case rel=>first|exact⟨m+1,false,Ω,rfl,by go_num,n,E⟩|((repeat apply Exists.intro);exact⟨⟨m+1,false,Ω,rfl,by go_num,n,E⟩,rfl⟩)
     case measure=>simp[intOf];omega
    .go_roundw
     case rel=>first|exact⟨m+1,b3,Ω,rfl,by go_num,Q,E⟩|((repeat apply Exists.intro);exact⟨⟨m+1,b3,Ω,rfl,by go_num,Q,E⟩,rfl⟩)
     case measure=>simp[intOf];omega
  .obtain rfl:m=L.length:=Ω;cases u
   .go_wp2;go_ret;exact⟨⟨false,rfl,Da R⟩,(Da f).1⟩
   go_wp2_with(first|(go_at_call 34;apply(Da T _ (Da f).1).Q;rintro e w2⟨rfl,p⟩;have n:=Db p;clear p)|(go_at_call 52;apply(Da V _ (Da n)).Q;rintro e w3⟨rfl,rfl⟩));go_ret;exact⟨⟨_,rfl,λe=>by simp[Da HE e]⟩,Da n⟩
theorem Zpn(c:OL Z)(w:World)(vb tb a:Nat)(L:List (By×Int))(F:LY)(b:Md Z w vb tb a L F L F):
  Cl 18 #[dP vb,dP a] w λe w'=>e=dR (dV true)/\Bw w w':=
 (TV c w vb tb a L F L F b b.jf).Q λ_ _ ⟨⟨_,h1,h2⟩,h3⟩=>Γ
variable{Z:Nat->Prop}
theorem Wi{c:Array Oper}(hg:o.guard=none)(f:FuncId)(x:Operand)(t:TypeId)(ab:o.op=Op.call { callee:=Callee.value (.func f),args:=#[x],argTypes:=#[t] })(u:Value)(hx:a.eval x=u)(aa:(callFunc f #[u]).run P w=.ok (.enter f #[u]) w){b:Ending->World->Prop}(g:Calls P f #[u] w b)(d:∀e w',b e w'->∃v,e=dR v/\K (a.put o.dst v) w'):
  if Region.wanted o (yielded c a.tmps)=true then Oper.wp P o a w K Q else E:=by
 have k:Region.wanted o (yielded c a.tmps)=true:=by grind [Region.wanted]
 rw[if_pos k];unfold Oper.wp;have hf:a.eval (.func f)=.func (.func f) #[] #[]:=rfl;have h:(execOp a.eval o).run P w=.ok (.enter f #[u]) w:=by grind [execOp,resolve,Deferred.ofValue,invoke]
 rw[h,Oper.upon_enter];refine g.Q (λe w' j=>?_);obtain⟨v,rfl,i⟩:=d e w' j;exact i
theorem ZdO{p:Array Oper}(k:o.guard=none)(d x:Operand)(c e:TypeId)(l:o.op=Op.call { callee:=Callee.builtin Builtin.append,args:=#[d,x],argTypes:=#[c,e] })(v u:Value)(j:a.eval d=v)(n:a.eval x=u){f:Value->World->Prop}(m:∃b w',(Builtin.append_ #[c,e] o.type #[v,u]).run P w=.ok b w'/\f b w')(i:∀b w',f b w'->K (a.put o.dst b) w'):
  if Region.wanted o (yielded p a.tmps)=true then Oper.wp P o a w K Q else E:=by
 obtain⟨b,w',g,h⟩:=m;exact Kl k d x c e l v u j n g (i b w' h)
theorem MX:(prog.info? 30).map (λi=>(i.zero,i.size,i.bytes))=some (some (.pointer none),1,8):=Φ
theorem NA:prog.underlying 52=some (.slice 30):=Φ
theorem Md.hu{n:Nat}{g:List (By×Int)}{f:LY}(h:Md Z w vb tb n L F g f)(a:Gb w b 55 R)(j:Nat)(v:Value):Md Z (w.setCell (dQ b j) v) vb tb n L F g f:=by obtain⟨G,I,C,ρ,z,y,m,l,d,s,r,x⟩:=h;have c:Fr (λk=>k=b) w (w.setCell (dQ b j) v):=(Fr.refl _ _).set _ _ rfl;refine⟨G,I,C,ρ,z,y,Gt.e m c (λe=>?_),l.e c (λe=>?_) (λk t i e o=>?_),⟨d.e c (λk q e=>?_),d.lo⟩,s,r,x.set a v⟩;subst e;obtain⟨i,u⟩:=m.row;have:=a.type u;grind;obtain⟨rd,V,E,vi,h⟩:=l;subst e;have:=h.pk.2 _ _ a;grind;subst e;have:=a.type o;grind;subst e;obtain⟨t,i,p,ht⟩:=Kb d.toGj q;have:=a.type p;grind
variable{Z:Nat->Prop}
theorem Rl.gz(C:IB)(ρ : Int->Nat):Rl [] [] C ρ [] []:=by refine⟨rfl,⟨Γ,Γ,Γ,Eg,Γ⟩,⟨Eg,Γ,Γ,Γ,Γ,Γ,Γ⟩,Γ,Γ,Γ,Θ,Θ,Γ⟩
theorem YG{a:OA}{l:Nat}{s:By}(h:GD b W (dT a l c) s):(convert 59 9 (dT a l c)).run prog W=.ok (dU s) W:=by have d:=Sl.len h.1;subst d;exact UQ h.1 rfl
variable{Z:Nat->Prop}
structure En where
 n:By
 d:Bool
 s:Int
 l:Int
def Mp(x:En):Gf:=[dU x.n,dV x.d,dI x.s,dI x.l]
def Jm(es:List En):Gf:=es.flatMap Mp
theorem Zje(a b:List En):Jm (a++b)=Jm a++Jm b:=by simp[Jm]
theorem ZnM(b:List En):∀u∈Jm b,u.oneCell'=true:=by intro u a;simp only[Jm,Ez,Mp,AM,Ey,or_false]at a;obtain⟨x,_,rfl|rfl|rfl|rfl⟩:=a<;>simp[Value.oneCell']
theorem ZpV(b:List En)(k:Nat)(x:En)(h:b[k]?=some x):(Jm b)[k*4]?=some (dU x.n)/\(Jm b)[k*4+1]?=some (dV x.d)/\(Jm b)[k*4+2]?=some (dI x.s)/\(Jm b)[k*4+3]?=some (dI x.l):=by
 induction b generalizing k with
 |nil=>grind
 |cons a l ih=>
  cases k with
  |zero=>grind [Jm,Mp]
  |succ k=>
   have:=ih k h;simp only[Jm,A9]at this ⊢;have e:∀r,(Mp a++List.flatMap Mp l)[(k+1)*4+r]?=(List.flatMap Mp l)[k*4+r]? := by grind [List.getElem?_append_right,Mp]
   have e0:=e 0;simp_all
def Wu(w:World)(a:OA)(L:List En):Prop:=∀(k:Nat) (x:En),L[k]?=some x->∃g,a=some (dQ g 0)/\w.cell? (dQ g (k*4))=some (dU x.n)/\w.cell? (dQ g (k*4+1))=some (dV x.d)/\w.cell? (dQ g (k*4+2))=some (dI x.s)/\w.cell? (dQ g (k*4+3))=some (dI x.l)
theorem Sl.gd{L:List En}(h:Sl w 112 4 v L.length (Jm L)):∃a c,v=dT a L.length c/\Wu w a L:=by
 rcases h.2 with⟨rfl,e⟩|⟨g,d,R,rfl,n,hc,aa,hL,hT⟩;have:=AC e;subst this;exact⟨none,0,rfl,λk x h=>Γ⟩;have b:∀j u,(Jm L)[j]?=some u->w.cell? (dQ g j)=some u:=λj u hu=>by rw[n.J];grind
 refine⟨_,d,rfl,λk x o=>?_⟩;obtain⟨f,i,l,m⟩:=ZpV L k x o;exact⟨g,rfl,b _ _ f,b _ _ i,b _ _ l,b _ _ m⟩
theorem N2(s g:By)(b a:Bool)(c e d f:Int):∃q:Bool,(s=g->b=a->c=e->d=f->q=false)/\∀w:World,(binOp .neq 112 (.agg #[dU s,dV b,dI c,dI d]) (.agg #[dU g,dV a,dI e,dI f])).run prog w=.ok (dV q) w:=by go_simp;grind
theorem Zoq(w:World)(s vb:Value)(A B:List En)(K:A.length<=2000000)(L:B.length<=2000000)(o:Sl w 112 4 s A.length (Jm A))(p:Sl w 112 4 vb B.length (Jm B)):
  Cl 110 #[s,vb] w (LH w (A=B)):=by
 have t:Hid (∀W,Bw w W->∃a c,s=dT a A.length c/\Wu W a A):=λW h=>(o.kept (λk r _=>h.block k r)).gd;have u:Hid (∀W,Bw w W->∃a c,vb=dT a B.length c/\Wu W a B):=λW h=>(p.kept (λk r _=>h.block k r)).gd;obtain⟨a1,c1,rfl,-⟩:=o.gd;obtain⟨a2,c2,rfl,-⟩:=p.gd;clear o p;by_cases v:A.length=B.length
 .obtain⟨n,b⟩:∃n,B.length=n:=Γ;have d:=v.M b;have HL:Hid (A.length=n/\B.length=n):=⟨d,b⟩;rw[d]at K t ⊢;rw[b]at u ⊢;clear v d b L;go_enter func110,ntmps110;go_wp2_with fail
  go_loopw [5] (λi wr=>∃m:Nat,m<=n/\i=dI m/\Hid (Bw w wr)) (λi _=>n-(intOf i).toNat)
  case atStart=>exact⟨0,Ao _,rfl,Ad _ _⟩
  case round=>
   obtain⟨m,hm,rfl,f⟩:=hrel;by_cases ab:m<n
   .obtain⟨y1,z1,d,G⟩:=Da t wr (Da f);obtain⟨y2,z2,b,H⟩:=Da u wr (Da f);simp only[BC,true_and]at d b;obtain⟨rfl,rfl⟩:=d;obtain⟨rfl,rfl⟩:=b;have z:m<A.length:=(by grind [Da]);have C:m<B.length:=(by grind [Da]);obtain⟨g,rfl,M,N,O,P⟩:=G m _ (Ab z);obtain⟨j,rfl,Q,R,S,T⟩:=H m _ (Ab C);obtain⟨x,E⟩:=ex (A[m]);obtain⟨y,F⟩:=ex (B[m]);have I:Hid (A=B->x=y):=(by intro e;simp_all);rw[<-E]at M N O P;rw[<-F]at Q R S T;obtain⟨q,D,hq⟩:=N2 x.n y.n x.d y.d x.s y.s x.l y.l;have J:=Db D;have l:Hid (∀W,Bw wr W->Bw w W):=λW h=>(Da f).M (h.Q (Da f).size);clear E F G H D z C;go_upto_region 6 with fail;go_region_held3 (λW=>W.cell? (dQ g (m*4))=some (dU x.n)/\W.cell? (dQ g (m*4+1))=some (dV x.d)/\W.cell? (dQ g (m*4+2))=some (dI x.s)/\W.cell? (dQ g (m*4+3))=some (dI x.l)/\W.cell? (dQ j (m*4))=some (dU y.n)/\W.cell? (dQ j (m*4+1))=some (dV y.d)/\W.cell? (dQ j (m*4+2))=some (dI y.s)/\W.cell? (dQ j (m*4+3))=some (dI y.l)) (go_keep) (first|fail)
    all_goals
     cases q
     .go_wp2
      go_roundw
      case rel=>first|exact⟨m+1,Ω,by go_num,Da l _ (Ad _ _).drew⟩|((repeat apply Exists.intro);exact⟨⟨m+1,Ω,by go_num,Da l _ (Ad _ _).drew⟩,rfl⟩)
      case measure=>grind [intOf]
     .go_wp2;go_ret;exact⟨⟨false,rfl,λe=>by have:=Da I e;subst this;exact absurd (Da J rfl rfl rfl rfl) Δ⟩,Da l _ (Ad _ _).drew⟩
   .obtain rfl:m=n:=Ω;go_wp2;go_ret;exact⟨Ξ,Da f⟩
 .go_enter func110,ntmps110;have aa:¬(A.length)=(B.length):=Ω;go_wp2;go_ret;exact⟨⟨false,rfl,Γ⟩,Ad _ _⟩
variable{Z:Nat->Prop}
def Rp(es:List En)(k:Int)(w:World)(e:Ending)(w':World):Prop:=
 (∃a n c,e=dR (.tuple #[dT a n c,dI k])/\Sl w' 112 4 (dT a n c) es.length (Jm es))/\Bw w w'
def YP(Z:Nat->Prop):Prop:=∀(vb tb rb:Nat) (s:By),s.size<=2000000->∃f:List (By×Int)->LY->List En×Int,∀(L:List (By×Int)) (F:LY) (L':List (By×Int)) (F':LY),Jf L F->(f L F).1.length<=2000000/\∀W,Md Z W vb tb rb L F L' F'->
 Cl 56 #[dP vb,dU s] W (Rp (f L' F').1 (f L' F').2 W)/\Cl 109 #[dP rb,dU s] W (Rp (f L F).1 (f L F).2 W)
theorem Rz(a:YP Z):OL Z:=by
 intro w vb tb n B kp ep fs L F c b m h H s J;obtain⟨f,l⟩:=a vb tb n s J;obtain⟨y,j⟩:=l L F c b H;have z:=(l c b c b h.jf).1;have K:w.cell? (dQ B 0)=some (dP vb):=(Gb.J m 0).M rfl;have i:=(j w h).1;have D:Hid (∀W,Bw w W->W.cell? (dQ B 1)=some (dP n)):=λW a=>((Gb.e m (X:=λ_=>False) (Fr.S a) id).J 1).M rfl;have o:Hid (∀W,Bw w W->Cl 109 #[dP n,dU s] W (Rp (f L F).1 (f L F).2 W)):=λW a=>(j W (h.below a)).2;obtain⟨R,p⟩:=ex (f L F);obtain⟨E,r⟩:=ex (f c b);have HE:Hid (L=c/\F=b->E=R):=by rintro⟨rfl,rfl⟩;simp_all
 rw[<-p]at o y;rw[<-r]at i z;clear j h m a l p r;go_enter func49,ntmps49;go_wp2_with fail;apply i.Q;rintro e A⟨⟨a1,n1,c1,rfl,t⟩,d⟩;have M:=Da D A d;have C:=Db t;clear i t K;go_wp2_with fail;apply(Da o A d).Q;rintro e w2⟨⟨a2,n2,c2,rfl,u⟩,v⟩;have g:=d.M (v.Q d.size);have G:=Zoq w2 _ _ _ _ z y ((Da C).kept (λk I _=>v.block k I)) u;clear u M;go_wp2_with(first|(go_at_call 110;apply G.Q;rintro e w3⟨⟨q,rfl,hq⟩,x⟩;cases q)|(go_at_call 16;apply(Qn _ _).Q;rintro e w4⟨rfl,rfl⟩))
 .go_ret2
  exact⟨⟨_,_,_,_,rfl,by grind [Da]⟩,g.M (x.Q g.size)⟩
 .go_ret2
  exact⟨⟨_,_,_,_,rfl,by grind [Da]⟩,g.M (x.Q g.size)⟩
theorem Yj{l:List (By×Int)}{x y:By×Int}:y∈Kn l x↔y=x\/y∈l:=by unfold Kn;have h:=Bz (Kj x l) l;grind
theorem Sf{L:List (By×Int)}{d:By}{y:By×Int}:∀k,k<=L.length->(y∈D6 L d k↔y∈L.take k/\DN d y=true)
 |0,_=>by simp[D6]
 |k+1,hk=>by have ih:=Sf (L:=L) (d:=d) (y:=y) k Ω;have c:k<L.length:=Ω;rw[Br,Ab c];simp only[D6,Ab c,EH];by_cases e:DN d L[k]=true;rw[if_pos e,Yj,ih,Al,Ax];constructor;rintro(rfl|⟨a,b⟩);exact⟨.inr rfl,e⟩;exact⟨.inl a,b⟩;rintro⟨a|rfl,b⟩;exact .inr ⟨a,b⟩;exact .inl rfl;grind
def Jz(L:List (By×Int))(F:LY)(x:By×Int):En:=
 if x.2<0 then⟨Q2 x.1,true,(L.countP (DN x.1):Nat),1⟩ else⟨Q2 x.1,false,((F[x.2.toNat]?.getD ⟨#[]⟩).size:Nat),(L.countP (DF x.2):Nat)⟩
theorem ZsP(L:List (By×Int))(F:LY)(x:By×Int):Ql L F x=.agg #[dU (Jz L F x).n,dV (Jz L F x).d,dI (Jz L F x).s,dI (Jz L F x).l]:=by grind [Ql,Jz]
def JE(L:List (By×Int))(F:LY)(p:By):List En×Int:=
 if JV L p≠0 then([],JV L p) else
 if (p.toList==[47])=true then((D6 L ⟨#[]⟩ L.length).map (Jz L F),0) else
 match GC L p with
 |none=>([],3)
 |some f=>if 0<=f then([],4) else((D6 L p L.length).map (Jz L F),0)
theorem WM:(prog.info? 112).map (λi=>(i.zero,i.size,i.bytes))=some (some (.agg #[dU ⟨#[]⟩,dV false,dI 0,dI 0]),4,40):=Φ
theorem MC:prog.underlying 99=some (.slice 112):=Φ
theorem Ox(w:World)(v:Value)(b:List En)(e:Sl w 112 4 v b.length (Jm b))(hl:b.length+1<=2000000)(x:En)(nb:Nat)(g:Gb w nb 112 (Mp x)):
  ∃d w2,(Builtin.append_ #[99,99] 99 #[v,dS nb 1 1]).run prog w=.ok d w2/\∃a n c,d=dT a n c/\Sl w2 112 4 (dT a n c) (b++[x]).length (Jm (b++[x]))/\w.grownBy w2 v.ownBlock/\Dm w v (dT a n c):=by
 obtain⟨m,f,i,k,l⟩:=Bk WM;obtain⟨d,w2,r1,o,r3,r4⟩:=J1 w 99 99 112 m _ 4 40 MC f i k l rfl Δ v _ _ e _ 1 1 _ rfl
  (λj u h=>by rw[AG,Av,g.J];omega) (λu h=>ZnM [x] u (by grind [Jm])) (by grind [maxLen]) Ω
 obtain⟨a,n,c,rfl⟩:=o.a0;grind [List.length_append,Zje,Jm]
def MN(w wr:World)(L:List (By×Int))(F:LY)(T:List (By×Int))(o i:Value):Prop:=
 ∃k:Nat,k<=T.length/\i=dI k/\Sl wr 112 4 o ((T.take k).map (Jz L F)).length (Jm ((T.take k).map (Jz L F)))/\Bw w wr/\∀j,o.ownBlock=some j->w.heap.size<=j
theorem Zri(w:World)(u:Nat)(vl V:Value)(L:List (By×Int))(F:LY)(h:Gj w u vl V L F)(al:∀x∈L,x.2<F.length)(hL:L.length+1<=2000000)(p:By)(hp:p.size<=2000000):
  Cl 109 #[dP u,dU p] w (Rp (JE L F p).1 (JE L F p).2 w):=by
 obtain⟨R,b⟩:=ex (JE L F p);rw[<-b];unfold JE at b;have z:=Db h;have ar:=Db al;have Q:=Ra w u _ V L F h p hp;have X:Hid (∀W d,Bw w W->Cl 163 #[dP u,dU d] W λe w'=>∃v,e=dR v/\Sl w' 103 2 v (D6 L d L.length).length (DQ (D6 L d L.length))/\Bw W w'/\∀j,v.ownBlock=some j->W.heap.size<=j):=λW d B=>Znx W u vl V L F (h.at B) hL d;obtain⟨av,cv,rfl,ap⟩:=h.sl.ao;have aw:=Db ap;have aJ:=h.hd.lt;obtain⟨E,aj⟩:=ex (JV L p);rw[<-aj]at Q b;have af:=Db b;clear h ap al aj b;go_enter func109,ntmps109;go_wp2_with fail;apply Q.Q;rintro e w1⟨rfl,l⟩;have b:=Da af;clear Q af;by_cases A:E≠0
 .rw[if_pos A]at b;have aF:(E != 0)=true:=by rw[EC];exact A
  have s:=Db b;clear b A;go_wp2
  go_ret2
  rw[Da s];exact⟨⟨_,_,_,rfl,rfl,.inl ⟨rfl,rfl⟩⟩,l⟩
 rw[if_neg A]at b;obtain rfl:E=0:=Ω;by_cases G:(p.toList==[47])=true
 focus
  rw[if_pos G]at b;have I:=Da X w1 ⟨#[]⟩ l;obtain⟨d,D⟩:=ex ((⟨#[]⟩:By));rw[<-D]at I b;have q:=Db b;have HD:=Db D;clear A b D;go_wp2_with fail;have b:=Da q;rw[<-Da HD];clear HD q
 rotate_left
 focus
  rw[FM]at G;rw[if_neg (by rw[G];simp)]at b;have q:=Db b;clear A b;go_wp2_with fail;apply(((Da z).at l).find p).Q;rintro e w'⟨r,⟨rfl,aB⟩,hw⟩;rw[hw];clear hw;have b:=Da q;clear q;rcases aB with⟨rfl,am⟩|⟨k,x,rfl,S,f,ak⟩
  .rw[((KJ (.inl ⟨rfl,am⟩)).elim (λh=>h.2) (λ⟨_,_,h,_⟩=>Ω))]at b;have s:=Db b;clear b am;go_wp2
   go_ret2
   rw[Da s];exact⟨⟨_,_,_,rfl,rfl,.inl ⟨rfl,rfl⟩⟩,l⟩
  rw[GG.d5 S f ak]at b;have aH:=(Ac.1 S).1;obtain⟨g,rfl,q0,q1⟩:=(Da aw) k x S;have aE:=(l.J (p:=⟨g,k*2+1,none⟩) ((Da z).sl.lt rfl)).M q1;have aI:=(Da z).nl;have aA:=((Da z).at l).c.c0;clear ak S q0 q1;by_cases hf:0<=x.2
  .simp only[if_pos hf]at b;have s:=Db b;clear b;go_wp2
   go_ret2
   rw[Da s];exact⟨⟨_,_,_,rfl,rfl,.inl ⟨rfl,rfl⟩⟩,l⟩
  simp only[if_neg hf]at b;have I:=Da X w1 p l;have q:=Db b;clear b;go_wp2_with fail;have b:=Da q;obtain⟨d,D⟩:=ex p;rw[<-D]at I b ⊢;clear D aE aA hf f q
 all_goals
  apply I.Q;rintro e w2⟨vT,rfl,Y,ah,aD⟩;obtain⟨T,N⟩:=ex (D6 L d L.length);rw[<-N]at Y b;have az:T.length<=L.length:=by rw[N];exact O6 L d _
  have Z:∀x∈T,x∈L:=λx f=>by rw[N]at f;exact BS ((Sf L.length (Aa _)).1 f).1
  obtain⟨aT,cT,rfl,an⟩:=Y.ao;have ax:Hid (∀wr,Bw w2 wr->∀(k:Nat) x,T[k]?=some x->∃g,aT=some ⟨g,0,none⟩/\wr.cell? ⟨g,k*2,none⟩=some (dU x.1)/\wr.cell? ⟨g,k*2+1,none⟩=some (dI x.2)):=λwr B k x f=>by obtain⟨g,e1,e2,e3⟩:=an k x f;have hg:g<w2.heap.size:=Ag _ _ e2;exact⟨g,e1,(B.J (p:=⟨g,k*2,none⟩) hg).M e2,(B.J (p:=⟨g,k*2+1,none⟩) hg).M e3⟩
  have ay:Hid (∀wr x,Bw w wr->x∈T->Cl 166 #[dP u,.agg #[dU x.1,dI x.2]] wr λe w'=>e=dR (.agg #[dU (Jz L F x).n,dV (Jz L F x).d,dI (Jz L F x).s,dI (Jz L F x).l])/\Bw wr w'):=λwr x B f=>by have ho:=(Da z).ok x (Z x f);have:=YZ wr u _ V L F ((Da z).at B) x.1 x.2 ho.1 ho.2 (Da ar x (Z x f));rw[show(x.1,x.2)=x from rfl,ZsP]at this;exact this
  have s:=Db b;have ad:=Db (l.M (ah.Q l.size));clear b N Z Y an I aD l ah X;go_wp2_with fail
  go_loopw [10,11] (λo i wr=>MN w2 wr L F T o i) (λ_ i _=>T.length-(intOf i).toNat)
  case atStart=>exact⟨0,Ao _,rfl,⟨rfl,.inl ⟨rfl,rfl⟩⟩,Ad _ _,λj J=>by simp[Value.ownBlock]at J⟩
  case round=>
   obtain⟨k,Q,rfl,t,C,U⟩:=hrel;have O:Bw w wr:=(Da ad).M (C.Q (Da ad).size);obtain⟨ao,no,co,rfl⟩:=t.a0;by_cases aC:k<T.length
   .obtain⟨x,f⟩:∃x,T[k]?=some x:=⟨_,Ab aC⟩;obtain⟨gT,rfl,t0,t1⟩:=Da ax wr C k x f;have ab:=Da ay wr x O (Ai f);obtain⟨y,hy⟩:=ex (Jz L F x);obtain⟨M,P⟩:=ex ((T.take k).map (Jz L F));have ae:Hid ((T.take (k+1)).map (Jz L F)=M++[y]):=(by show _=_;rw[Br,f,EH,AE,A6,CF,<-P,<-hy]);rw[<-P]at t;rw[<-hy]at ab;have ac:Hid (∀m,Bw wr m->∃a n c K,(Builtin.append_ #[99,99] 99 #[dT ao no co,dS m.heap.size 1 1]).run prog (m.alloc (.cells #[dU y.n,dV y.d,dI y.s,dI y.l] 112))=.ok (dT a n c) K/\Hid (MN w2 K L F T (dT a n c) (dI (k+1:Nat)))):=λm H=>by have ai:Bw wr (m.alloc (.cells #[dU y.n,dV y.d,dI y.s,dI y.l] 112)):=H.alloc H.size _;obtain⟨v',K,r1,a,n,c,rfl,r2,r3,r4⟩:=Ox (m.alloc (.cells #[dU y.n,dV y.d,dI y.s,dI y.l] 112)) (dT ao no co) M (t.kept (λj J _=>ai.block j J)) (by rw[P,AT,AP];omega) y m.heap.size (Bv m _);have aa:Bw w2 (m.alloc (.cells #[dU y.n,dV y.d,dI y.s,dI y.l] 112)):=C.M (ai.Q C.size);refine⟨a,n,c,K,r1,k+1,Ω,rfl,?_,aa.M (Pm r3 U aa.size),λj J=>(r4 j J).elim (U j) (λh=>Ae aa.size h)⟩;rw[Da ae];exact r2
    have ag:=Db ab;have aG:=az;clear hy P ae ab f U t O C;go_wp2_with fail;apply(Da ag).Q;rintro e m⟨rfl,H⟩;obtain⟨a4,n4,c4,K,s1,au⟩:=Da ac m H;clear ag ac H t0 t1;go_wp2_with(at_builtin;refine Aq _ rfl _ _ 99 99 rfl _ _ rfl rfl _ _ s1 ?_;clear s1)
    go_roundw
    case rel=>exact(by have:=Da au;obtain⟨k',G,h2,h3⟩:=this;exact⟨k',G,(by rw[<-h2];go_num),h3⟩)
    case measure=>simp[intOf];omega
   .obtain rfl:k=T.length:=Ω;rw[BD]at t;have HS:=Db t;have aq:=Db O;clear t U O C;go_wp2
    go_ret2
    rw[Da s];exact⟨⟨_,_,_,rfl,Da HS⟩,Da aq⟩
section
open Go.RowKit Go.Shelf
attribute [local go_sem] Oper.semAt_some
theorem ZeU{F:Fence}{n:Nat}{f:Array Oper}(hg:o.guard=none)(d x:Operand)(e g:TypeId)(l:o.op=Op.call { callee:=Callee.builtin Builtin.append,args:=#[d,x],argTypes:=#[e,g] })(v u:Value)(k:a.eval d=v)(q:a.eval x=u){c:Value->World->Prop}(m:∃b w',(Builtin.append_ #[e,g] o.type #[v,u]).run P w=.ok b w'/\c b w')(j:∀b w',c b w'->K (a.put o.dst b) w'):
  if Region.wanted o (yielded f a.tmps)=true then Oper.wpIn F n P o a w K Q else E:=by
 obtain⟨b,w',h,i⟩:=m;have p:Region.wanted o (yielded f a.tmps)=true:=by grind [Region.wanted]
 rw[if_pos p];refine⟨?_,?_⟩;grind [Oper.about,resolve,Target.leads,Sem.run_pure];rw[FF F _ _ Ξ];simp[execOp,l,resolve,invoke,builtin,k,q,h,Result.andThen];exact j _ _ i
theorem ZjK{l n:Nat}{g:Array Oper}(hg:o.guard=none)(f:FuncId)(h i j:Operand)(t:Array TypeId)(ab:o.op=Op.call { callee:=Callee.value (.func f),args:=#[h,i,j],argTypes:=t })(b u2 c:Value)(h1:a.eval h=b)(h2:a.eval i=u2)(h3:a.eval j=c)(aa:(callFunc f #[b,u2,c]).run P w=.ok (.enter f #[b,u2,c]) w){d:Ending->World->Prop}(m:Calls P f #[b,u2,c] w d)(k:∀e w',d e w'->∃v,e=dR v/\K (a.put o.dst v) w'):
  if Region.wanted o (yielded g a.tmps)=true then Oper.wpIn (Fence.wide.inRound l) n P o a w K Q else E:=by
 have s:Region.wanted o (yielded g a.tmps)=true:=by grind [Region.wanted]
 rw[if_pos s];have hf:a.eval (.func f)=.func (.func f) #[] #[]:=rfl;have p:(execOp a.eval o).run P w=.ok (.enter f #[b,u2,c]) w:=by grind [execOp,resolve,Deferred.ofValue,invoke]
 refine⟨λ_ _=>trivial,?_⟩;rw[FF _ _ _ Ξ,p,Oper.uponIn_enter];refine⟨by grind [Fence.inRound,Fence.wide],(CQ l (Bg.2 m)).Q (λe w' r=>?_)⟩;obtain⟨v,rfl,q⟩:=k e w' r;exact q
def IM(G:Gh)(I:LF)(ns:LY)(xs:LS)(es:List En):Prop:=
 es.length=xs.length/\∀(j:Nat) x y,xs[j]?=some x->es[j]?=some y->QP G I (ns++[x.1]) x.1 x.2 (.agg #[dU y.n,dV y.d,dI y.s,dI y.l])
theorem IM.ei{G:Gh}{I:LF}{c:LS}{d:List En}(h:IM G I ns c d){x:By×VS}{y:En}(hx:QP G I (ns++[x.1]) x.1 x.2 (.agg #[dU y.n,dV y.d,dI y.s,dI y.l])):IM G I ns (c++[x]) (d++[y]):=by refine⟨by simp[h.1],λj f g e b=>?_⟩;rcases CY j c.length with a|a|a;rw[Ap a]at e;rw[Ap (by rw[h.1];omega)]at b;exact h.2 j f g e b;subst a;rw[<-h.1,List.getElem?_concat_length]at b;simp_all;grind
def Ni(w:World)(tb BL:Nat)(G:Gh)(I:LF)(ns:LY)(xs:LS)(W:World):Prop:=
 ∃v es,Gb W BL 99 [v]/\Gb W w.heap.size 37 [dP tb]/\Sl W 112 4 v es.length (Jm es)/\IM G I ns xs es/\Bw w W/\(∀g,v.ownBlock=some g->w.heap.size<=g)
theorem Sq{k:Nat}{t:TypeId}(h:Gb W k t R){o:Obj}(ho:W.heap[k]?=some o):o.isCells=true:=by rw[h]at ho;cases ho;rfl
theorem Ni.aq{α : Type}(o : α -> By×VS)(w:World)(tb BL:Nat)(G:Gh)(I:LF)(ns:LY)(B:Nat)(hB:w.heap.size<=B):OwnFrom B (λ(f:List α) W=>Ni w tb BL G I ns (f.map o) W):=by rintro f X Y row⟨v,g,i,j,b,l,c,m⟩ a aa;have d:∀k t R,Gb X k t R->Gb Y k t R:=λk t R h=>h.kept a (by grind [Sq]);refine⟨v,g,d _ _ _ i,d _ _ _ j,b.kept (λk n e=>a.block k n (λe'=>?_)),l,c.grown a c.size Γ,m⟩;obtain⟨R,hR⟩:=b.type e;grind [Sq]
end
theorem ZU{α : Type}(lt : α -> α -> Prop)(d:∀x,¬lt x x)(g:∀x y z,lt x y->lt y z->lt x z):∀(a b:List α),a.Pairwise lt->b.Pairwise lt->(∀x,x∈a↔x∈b)->a=b
 |[],b,_,_,h=>by
  cases b with
  |nil=>rfl
  |cons y b=>exact absurd ((h y).2 (BV ..)) Θ
 |x::a,[],_,_,h=>absurd ((h x).1 (BV ..)) Θ
 |x::a,y::b,ha,hb,h=>by
  rw[CC]at ha hb;have j:x=y:=by rcases AM.1 ((h x).1 (BV ..)) with e|i;exact e;rcases AM.1 ((h y).2 (BV ..)) with e|k;exact e.r;exact absurd (g _ _ _ (ha.1 y k) (hb.1 x i)) (d x)
  subst j;rw[ZU lt d g a b ha.2 hb.2 (λz=>?_)];constructor;intro c;rcases AM.1 ((h z).1 (AO _ c)) with e|f;subst e;exact absurd (ha.1 z c) (d z);exact f;intro c;rcases AM.1 ((h z).2 (AO _ c)) with e|f;subst e;exact absurd (hb.1 z c) (d z);exact f
def N6(x y:By×Int):Prop:=Ho x.1 y.1=true
theorem Zpd(y:By×Int)(l:List (By×Int))(x:By×Int):Kn (y::l) x=if Ho y.1 x.1=true then y::Kn l x else x::y::l:=by grind [Kn,Kj]
theorem Yb(x:By×Int):∀(l:List (By×Int)),l.Pairwise N6->(∀y∈l,y.1≠x.1)->(Kn l x).Pairwise N6
 |[],_,_=>by simp[Kn,Kj]
 |y::l,h,hne=>by
  rw[Zpd];rw[CC]at h;split;rename_i c;rw[CC];refine⟨λz a=>?_,Yb x l h.2 (λz a=>hne z (AO _ a))⟩;rcases Yj.1 a with rfl|a;exact c;simp_all;have b:Ho x.1 y.1=true:=by grind [Z5,List.mem_cons_self]
  rw[CC,CC];refine⟨λz a=>?_,h⟩;rcases AM.1 a with rfl|a;exact b;exact Pd b (h.1 z a)
theorem Zg3{L:List (By×Int)}(c:∀(i j:Nat) x y,L[i]?=some x->L[j]?=some y->x.1=y.1->i=j)(d:By):∀k,k<=L.length->(D6 L d k).Pairwise N6
 |0,_=>List.Pairwise.nil
 |k+1,hk=>by have ih:=Zg3 c d k Ω;have b:k<L.length:=Ω;simp only[D6,Ab b];split;refine Yb _ _ ih (λy f e=>?_);obtain⟨j,a⟩:=BO.1 (((Sf k Ω).1 f).1);rw[AZ]at a;split at a;have:=c j k y _ a (Ab b) e;omega;cases a;exact ih
theorem Zp2(p a b:List UInt8):Op.bytesLess (p++a) (p++b)=Op.bytesLess a b:=by
 induction p with
 |nil=>rfl
 |cons x p ih=>grind [Op.bytesLess]
theorem ltS_jn(ns:LY)(a b:By):Ho (jn (ns++[a])) (jn (ns++[b]))=Ho a b:=by grind [Ho,QU,K6,Zp2,Q1,ByteArray.toList_eq,Op.bytesLess]
section
variable{G:Gh}{I:LF}{C:IB}{ρ : Int->Nat}{L:List (By×Int)}{F:LY}
theorem Rl.fk(h:Rl G I C ρ L F)(t:GO ns){c:LS}(u:GA c)(k:Ib G ns c):D6 L (jn ns) L.length=c.map (λx=>(jn (ns++[x.1]),DP ρ x.2)):=by
 refine ZU N6 (by grind [N6,UB]) (λx y z m o=>Pd m o) _ _ (Zg3 h.jf.un _ _ (Aa _)) ?_ (λy=>?_);rw[Bj,A1];intro i j q s r;show Ho _ _=true;rw[ltS_jn];exact u i j _ _ r (Ab q) (Ab s);rw[Sf _ (Aa _),BD];constructor;rintro⟨a,hq⟩;rw[h.b9]at a;obtain⟨z,b,rfl⟩:=AB.1 a;obtain⟨d,n,e⟩:=Uk (h.ok.ne z b);have f:=h.ok.az z b;have g:(DX (jn z.1)).toList=(jn ns).toList:=by grind [DN,vw]
 rw[e]at g f;rw[OR d n (QT (f n Θ))]at g;have p:=OG f.left t (Ul g);subst p;refine AB.2 ⟨(n,z.2),(k n z.2).2 Γ,?_⟩;show(jn (d++[n]),DP ρ z.2)=(jn z.1,DP ρ z.2);rw[e];intro a;obtain⟨z,b,rfl⟩:=AB.1 a;have l:=(k _ _).1 b;refine⟨by rw[h.b9];exact AB.2 ⟨_,l,rfl⟩,?_⟩;simp only[DN];rw[OR ns z.1 (QT ((h.ok.az _ l) _ Θ))];simp
theorem Rl.toldT(h:Rl G I C ρ L F){n:By}{u:VS}(f:(ns++[n],u)∈G){y:En}(g:QP G I (ns++[n]) n u (.agg #[dU y.n,dV y.d,dI y.s,dI y.l])):Jz L F (jn (ns++[n]),DP ρ u)=y:=by
 have a:=h.ok.az _ f;unfold Jz;simp only;rw[(Z9 ns n (QT (a n Θ))),(h.cj a)];obtain⟨yn,yd,ys,yl⟩:=y;rcases g with⟨c,e⟩|⟨c,r,b,e⟩;rw[if_pos ((QC ρ u).2 c)];simp at e;obtain⟨rfl,rfl,rfl,rfl⟩:=e;rfl;have d:DP ρ u=(ρ u.f):=by grind [DP]
 rw[if_neg Ω,d];simp at e;obtain⟨rfl,rfl,rfl,rfl⟩:=e;rw[(h.num.size _ b),(h.num.ae _ b),Bf]
theorem Rl.gc(h:Rl G I C ρ L F)(f:GO ns){a:LS}(g:GA a)(d:Ib G ns a){b:List En}(c:IM G I ns a b):b=(D6 L (jn ns) L.length).map (Jz L F):=by
 rw[h.fk f g d,BP];apply C1;intro j;rw[A8];cases hx:a[j]? with
 |none=>
  have:=E9.1 hx;rw[Bp (by rw[c.1];omega)];rfl
 |some x=>
  have e:j<b.length:=by rw[c.1];grind
  rw[Ab e];congr 1;exact(h.toldT ((d _ _).1 (Ai hx)) (c.2 j x _ hx (Ab e))).r
def IE(G:Gh)(p:By):Int:=if Hk G p≠0 then Hk G p else if Dc p=[] then 0 else match Gr G (Dc p) with|none=>3|some u=>if u.p.isSome=true then 0 else 4
theorem Rl.hf(h:Rl G I C ρ L F)(p:By):IE G p=(JE L F p).2/\(IE G p≠0->(JE L F p).1=[])/\(IE G p=0->Di p=true/\(JE L F p).1=(D6 L (jn (Dc p)) L.length).map (Jz L F)):=by
 have d:∀(k:Int) (es:List En),IE G p=k->JE L F p=(es,k)->(k≠0->es=[])->(k=0->Di p=true/\es=(D6 L (jn (Dc p)) L.length).map (Jz L F))->IE G p=(JE L F p).2/\(IE G p≠0->(JE L F p).1=[])/\(IE G p=0->Di p=true/\(JE L F p).1=(D6 L (jn (Dc p)) L.length).map (Jz L F)):=Γ;have b:=h.hs p;by_cases c:Di p=false;rw[c]at b;simp only[FD]at b;refine d 1 [] ?_ ?_ (λ_=>rfl) (λe=>by cases e);unfold IE Hk DA;simp[c];unfold JE;rw[b];rfl;have c:Di p=true:=Ξ;rw[c]at b;simp only[BW,ES]at b;by_cases f:GJ G (Dw [] (Dc p))=0;rw[f]at b;have m:DA G p true=0:=by grind [DA]
 by_cases g:Dc p=[];refine d 0 _ ?_ (show JE L F p=((D6 L ⟨#[]⟩ _).map _,0) from ?_) Ω (λ_=>⟨c,by rw[g];rfl⟩);grind [IE,Hk];unfold JE;rw[b];simp[((JN c).2 g)];have hr:¬(p.toList==[47])=true:=by grind [JN]
 have j:=h.lk c g;obtain⟨ep,hm⟩:=J8 c g;cases hat:Gr G (Dc p) with
 |none=>
  rw[hat]at j;have i:Hk G p=3:=by grind [Hk]
  refine d 3 [] ?_ ?_ Γ Ω;grind [IE];unfold JE;grind
 |some u=>
  rw[hat]at j;have i:Hk G p=0:=by grind [Hk]
  cases hu:u.p with
  |none=>
   have l:DP ρ u=(ρ u.f):=(by grind [DP]);refine d 4 [] ?_ ?_ Γ Ω;grind [IE];unfold JE;grind
  |some a=>
   have l:DP ρ u = -1:=(by grind [DP]);refine d 0 _ ?_ (show JE L F p=((D6 L p L.length).map (Jz L F),0) from ?_) Ω Γ;grind [IE];unfold JE;grind
 have m:DA G p true=GJ G (Dw [] (Dc p)):=by grind [DA]
 have i:Hk G p=GJ G (Dw [] (Dc p)):=by simp_all[Hk]
 refine d _ [] ?_ ?_ (λ_=>rfl) (λe=>absurd e f);unfold IE;rw[i,if_pos f];unfold JE;rw[b,if_pos f]
end
section
open Go.RowKit Go.Shelf
attribute [local go_sem] Oper.semAt_some
def Nh(w:World)(G:Gh)(I:LF)(ns:LY)(xs:LS)(e:Ending)(w':World):Prop:=
 (∃a n c es,e=dR (.tuple #[dT a n c,dI 0])/\Sl w' 112 4 (dT a n c) es.length (Jm es)/\IM G I ns xs es)/\Bw w w'
theorem Znm(w:World)(tb rd:Nat)(V:NV)(E:NS)(vi:Value)(G:Gh)(I:LF)(C:IB)(h:TW w tb rd V E vi G I C)(hG:Gp G)(an:G.length<=10000)(a0:I.length<=10000)(aC:Hq G I)(p:By)(hp:p.size<=2000000)(aS:Hk G p=0)(b:Nat)(hd:Gd G rd (Dc p) b)(ao:Dc p=[]\/Gr G (Dc p)=some ⟨some (dQ b 0),0⟩):
  Cl 120 #[dP tb,dU p] w (Nh w G I (Dc p) (E b)):=by
 have aH:∀o,Bw w (w.alloc o):=λo=>(Ad _ _).alloc (Aa _) o;have aA:Hid (∀o,Cl 177 #[dP tb,dU p] (w.alloc o) λe w'=>∃d n,e=dR (.tuple #[Dk d n true ⟨some (dQ b 0),0⟩,dI 0])/\Below (w.alloc o).heap.size (w.alloc o) w'):=λo=>
  (R3 (w.alloc o) tb rd V E vi G I C (h.below (aH o) (Aa _)) hG an p hp).Q (λe w' ⟨bg,H⟩=>by rcases bg with⟨bc,_⟩|⟨_,bs,d,n,u,bi,rfl⟩;exact absurd aS bc;refine⟨d,n,?_,H⟩;rcases U7 h.d bi with⟨e,_⟩|⟨_,T,M,Z⟩|⟨_,b',M,Z,_⟩;cases e;rcases ao with h4|h4;exact absurd h4 T;rw[h4]at M;cases M;cases Z;have:=Z.func hG hd;subst this;rw[M])
 have hS:=h.d.sl (Dc p) b hd;have ba:=h.d.le hG hd;have aP:=h.d.row (Dc p) b hd;have hc:=aP.J 0;have aL:b<w.heap.size:=aP.lt;have az:Hid (∀W,Bw w W->Cl 178 #[dP b] W λe w'=>e=dR (dI (E b).length)/\w'=W):=λW H=>LR W b 0 (V b) (E b).length (Ds (E b)) ((H.J (p:=dQ b 0) aL).M hc) (hS.kept (λk s _=>H.block k s));obtain⟨i0,a9,bl,bm,bn⟩:=Bk WM;have HH:=Db h;have aX:=Db aC;have bo:=Db ao;clear h aC aS aH ao;refine(Bg (n:=3)).1 ?_;refine BY func120 rfl trivial ?_ rfl;simp only[ntmps120,AS,Ay,AR,Nat.reduceAdd,Nat.reduceSub,AY,AX,Be,A5,AH,AK]
 gi_wp2_with fail
 refine⟨trivial,?_⟩;apply(Bg.2 (Da aA _)).Q;rintro e w1⟨d,n,rfl,ap⟩;have H:Bw w w1:=((Ad _ w).alloc (Aa _) _).M (ap.Q Θ);have aO:Gb w1 w.heap.size 37 [dP tb]:=(ap.block _ Θ).M (D9 w [dP tb] 37);unfold Dk;clear aA ap;obtain⟨U,aE,aU,aM,aR,aJ⟩:=Df w1 (DS d n true ⟨some (dQ b 0),0⟩) 262;have ak:=aM _ _ _ aO;have ad:Bw w U:=H.M (aJ.Q H.size);have aB:=Db aE;have aZ:=Db aR;clear aE aM aO aR aJ
 gi_upto_region 4 with fail
 rw[Da aB];have a3:=aU.J 3;clear aB
 gi_wp2_with fail
 refine⟨trivial,?_⟩;apply(Bg.2 (Da az U ad)).Q;rintro e w'⟨rfl,hw⟩;rw[hw];clear hw
 gi_wp2_with (first|(gi_at_make;refine wpListIn_make_own _ rfl _ _ 99 rfl w.heap.size 112 i0 _ 4 MC a9 bl bm _ _ _ (E b).length rfl rfl rfl (by rw[bn];omega) (by unfold maxLen;omega) ad.size ?_;intro f aN ai)|(refine⟨trivial,?_⟩;gi_at_call 179;apply(P9 _ _ trivial rfl _ _).Q;rintro e w'⟨rfl,rfl⟩))
 obtain⟨q,ac⟩:∃q,(f.alloc (Obj.cells #[Value.slice (some { block:=U.heap.size,off:=0 }) 0 (E b).length] 99)).alloc (Obj.cells #[Value.pointer (some { block:=b,off:=0 })] 307)=q:=⟨_,rfl⟩;rw[ac];have bt:q.heap.size=f.heap.size+2:=by rw[<-ac];simp
 have aq:Bw w f:=ad.grown ai ad.size (λk e=>by cases e);have ag:Bw f q:=by rw[<-ac];exact((Ad _ f).alloc (Aa _) _).alloc Θ _
 have am:Bw w q:=aq.M (ag.Q aq.size);have aG:Gb q f.heap.size 99 [dS U.heap.size 0 (E b).length]:=by rw[<-ac];exact(D9 f _ 99).alloc _
 have a6:Boxed q (f.heap.size+1) 307 (dP b):=by rw[<-ac];have:=Fx (f.alloc (Obj.cells #[Value.slice (some { block:=U.heap.size,off:=0 }) 0 (E b).length] 99)) 307 (dP b);simpa using this
 have aF:Gb q w.heap.size 37 [dP tb]:=(ag.block _ (As ak.lt ai.size)).M ((ai.block _ ak.lt Θ).M ak);have a4:Sl q 310 3 (V b) (E b).length (Ds (E b)):=hS.kept (λk s _=>am.block k s);have a8:q.cell? (dQ b 0)=some (V b):=(am.J (p:=dQ b 0) aL).M hc;have aD:Sl q 112 4 (dS U.heap.size 0 (E b).length) ([]:List En).length (Jm []):=(Sl.a3 aN).kept (λk s _=>ag.block k s);have a2:Ni w tb f.heap.size G I (Dc p) [] q:=⟨_,[],aG,aF,aD,⟨rfl,λj x y hx=>by simp at hx⟩,am,λg J=>by simp[Value.ownBlock]at J;subst J;exact ad.size⟩;have aI:(E b).attach.map (λx=>x.1)=E b:=CD _;have aQ:=aq.size;clear ac az aG aF aD ag aN ai ak aU a3 aZ;refine Fa (α:={ x // x∈E b }) rfl Ω (gf:=222) (lb:=#[.pointer (some ⟨f.heap.size+1,0,none⟩)]) rfl trivial (EX func222 Φ rfl)
  (VM Fence.wide 2 trivial rfl Ω (f.heap.size+1) w.heap.size b 0 (V b) (λx=>x.1) (E b).attach (by simpa using Ae ba an) q Ω Ω Ω a6.J a8 (by rw[aI];simpa using a4) (λg J=>hS.lt J))
  belowK_t (EU Ω) (Ad _ _) (λ_=>rfl)
  (λae W=>Ni w tb f.heap.size G I (Dc p) (ae.map (λx=>x.1)) W)
  (λ_ _ _=>False)
  (Ni.aq (λx:{ x // x∈E b }=>x.1) w tb f.heap.size G I (Dc p) _ Ω)
  (λ_ _ _ _ _ hs _ _=>hs)
  a2
  (λx a' W=>∃L,f.heap.size<L/\Gb W L 260 [.pointer x.1.2.p,dI x.1.2.f]/\a'={ tmps:=#[dP tb,dU p,dP w.heap.size,undef,dN,dI 0,dP w1.heap.size,dI 0,dP b,dP f.heap.size,dU x.1.1,dP L,.tuple #[.agg #[.pointer d,dU n,dV true,dP b,dI 0],dI 0],dP tb,dU p,.tuple #[.agg #[.pointer d,dU n,dV true,dP b,dI 0],dI 0],.agg #[.pointer d,dU n,dV true,dP b,dI 0],dI 0,dI 0,dV false,undef,.pointer (some (dQ w1.heap.size 3)),.pointer (some (dQ w1.heap.size 3)),dP b,dP b,dV false,dP b,dP b,dP b,dI ((E b).length:Nat),dS U.heap.size 0 (E b).length,dP b,dP b,dP b,.func (.func 222) #[] #[.pointer (some ⟨f.heap.size+1,0,none⟩)],dU x.1.1,.agg #[.pointer x.1.2.p,dI x.1.2.f],undef,undef,undef,undef,undef,undef,undef,undef],defers:=[] })
  (λx a' _ X Y row hs J hr=>by obtain⟨L,T,M,Z⟩:=hs;exact⟨L,T,(U5 (β:=Unit) L 260 (λ_=>_)).from _ () X Y row M J hr,Z⟩)
  ?assign ?body ?done ?stop
 case assign=>
  rintro l ae x W K hJ z;have a1:=hJ;obtain⟨v,S,A,O,P,Q,B,j6⟩:=hJ;have aj:=A.lt;clear A O P Q j6
  gi_wp2
  exact z _ _ ((El _ _).from _) ((Ad _ W).alloc B.size _) ((Ni.aq (λx:{ x // x∈E b }=>x.1) w tb f.heap.size G I (Dc p) w.heap.size (Aa _)).alloc _ a1) ⟨W.heap.size,aj,D9 W _ _,rfl⟩
 case body=>
  rintro l ae x a' W br⟨r,hr⟩ ⟨v,S,A,O,P,Q,B,j6⟩ ⟨L,bq,bX,rfl⟩ aj;have bb:prog.follows .mixedOrders=true:=Φ;have bf:S.length<(E b).length:=by rw[Q.1,AT];simpa using aj
  have au:=(Da HH).d;have av:=(au.en (Dc p) b hd x.1.1 x.1.2).1 x.2;have aV:x.1.1.size<=2000000:=by have T:=hG.az _ av x.1.1 Θ;simp only[DZ,AQ,An]at T;have:=T.1.2;omega
  have HT:Hid (Cl 180 #[dP tb,dU x.1.1,.agg #[.pointer x.1.2.p,dI x.1.2.f]] W.drew λe w'=>∃y:En,e=dR (.agg #[dU y.n,dV y.d,dI y.s,dI y.l])/\QP G I (Dc p++[x.1.1]) x.1.1 x.1.2 (.agg #[dU y.n,dV y.d,dI y.s,dI y.l])/\Bw W w'):=
   (ZZ W.drew tb rd V E vi G I C ((Da HH).below (B.M ((Ad _ W).drew.Q B.size)) (Aa _)) hG an a0 (Da aX) x.1.1 aV (Dc p++[x.1.1]) x.1.2 (by
    rcases au.sub hd x.2 with be|⟨b',bk,bj⟩;exact .inr ⟨be,_,av,rfl⟩;exact .inl ⟨b',bk,bj⟩)).Q (λe w' ⟨v,T,M,Z⟩=>by
    obtain⟨yb,yc,yd,rfl⟩:=Wg M;exact⟨⟨x.1.1,yb,yc,yd⟩,T,M,(Ad _ W).drew.M Z⟩)
  have ah:=A.lt;have ar:∀g,v.ownBlock=some g->∃R,Gb W g 112 R:=λg J=>P.type J;have aT:v.ownBlock≠some f.heap.size:=λe=>by obtain⟨R,N⟩:=ar _ e;have:=N.type A;revert this;decide
  have aW:Hid (∀(i:World) (y:En),Bw W i->QP G I (Dc p++[x.1.1]) x.1.1 x.1.2 (.agg #[dU y.n,dV y.d,dI y.s,dI y.l])->
    ∃v' t,(Builtin.append_ #[99,99] 99 #[v,dS i.heap.size 1 1]).run prog (i.alloc (.cells #[dU y.n,dV y.d,dI y.s,dI y.l] 112))=.ok v' t/\∃a m c,v'=dT a m c/\t.cell? (dQ f.heap.size 0)=some v/\t.frozen? (dQ f.heap.size 0)=false/\
     Hid (KeepsFrom q.heap.size W (t.setCell (dQ f.heap.size 0) (dT a m c))/\Below w.heap.size W (t.setCell (dQ f.heap.size 0) (dT a m c))/\Ni w tb f.heap.size G I (Dc p) ((ae++[x]).map (λx=>x.1)) (t.setCell (dQ f.heap.size 0) (dT a m c)))):=λi y aa al=>by
   obtain⟨F,af⟩:=ex (i.alloc (.cells #[dU y.n,dV y.d,dI y.s,dI y.l] 112));have bh:Gb F i.heap.size 112 (Mp y):=(by rw[af];exact D9 i _ 112);have ab:Bw W F:=(by rw[af];exact aa.alloc aa.size _);rw[<-af];clear af;have k1:Gb F f.heap.size 99 [v]:=(ab.block _ ah).M A;have k2:Gb F w.heap.size 37 [dP tb]:=(ab.block _ O.lt).M O;have k3:Sl F 112 4 v S.length (Jm S):=P.kept (λk s _=>ab.block k s);obtain⟨v',t,r1,a,m,c,rfl,r2,r3,r4⟩:=Ox F v S k3 Ω y i.heap.size bh;have q1:Gb t f.heap.size 99 [v]:=(r3.block _ k1.lt (λe=>aT e.r)).M k1;have q2:Gb t w.heap.size 37 [dP tb]:=(r3.block _ k2.lt (λe=>by obtain⟨R,N⟩:=ar _ e.r;have:=N.type O;revert this;decide)).M k2;have a7:Below w.heap.size W F:=ab.Q B.size;have aK:Below w.heap.size W t:=a7.grown r3 (Ae B.size ab.size) (λk e=>j6 k e);have bd:(Value.slice a m c).ownBlock≠some f.heap.size:=λe=>by obtain⟨R,N⟩:=r2.type e;have:=N.type q1;revert this;decide
   refine⟨_,t,r1,a,m,c,rfl,(q1.J 0).M rfl,q1.A 0,?_,aK.setCell (p:=dQ f.heap.size 0) aQ _,dT a m c,S++[y],q1.set 0 _,q2.a1 _ _ (λe=>by have e':f.heap.size=w.heap.size:=e;rw[e']at q1;have:=q1.type q2;revert this;decide),r2.setCell _ _ bd,?_,(B.M aK).setCell (p:=dQ f.heap.size 0) aQ _,λg J=>(r4 g J).elim (j6 g) (λh=>Ae (Ae B.size ab.size) h)⟩;have kk:KeepsOthers F t:=⟨r3.size,λk o s ho=>(r3.block k (Au.1 s).1 (λe=>by obtain⟨R,N⟩:=k3.type e.r;rw[Sq N s]at ho;cases ho)).M s⟩;exact(((Ws ab).M kk).M (B3 _ _ _)).from _;rw[AE];exact Q.ei al
  have c9:W.cell? (dQ f.heap.size 0)=some v:=(A.J 0).M rfl;have c2:W.cell? (dQ w.heap.size 0)=some (dP tb):=(O.J 0).M rfl;have x0:W.cell? (dQ L 0)=some (.pointer x.1.2.p):=(bX.J 0).M rfl;have x1:W.cell? (dQ L 1)=some (dI x.1.2.f):=(bX.J 1).M rfl;have ax:Hid (∀i,Bw W i->i.cell? (dQ f.heap.size 0)=some v/\f.heap.size<i.heap.size):=λi H=>⟨(H.J (p:=dQ f.heap.size 0) ah).M c9,As ah H.size⟩;have bp:=Db A;clear A O P Q B j6 bX ar aT ah au av aV bf hr aj
  gi_wp2
  refine wpIn_region_any bb ?_
  (try(change wpAnyIn _ _ _ _ _ _ _ _ _ (World.drew _)))
  repeat(first|exact AllReadyIn.nil|refine AllReadyIn.cons rfl (λK z=>?_) ?_|(refine ZjK rfl 180 _ _ _ _ rfl _ _ _ ?_ ?_ ?_ ?_ (Da HT) ?_;(first|rfl|simp[Act.eval]);(first|rfl|simp[Act.eval]);(first|rfl|simp[Act.eval]);go_simp;rintro e i⟨y,rfl,al,aa⟩;refine⟨_,rfl,z _ _ ?_⟩;clear z K;have m9:=(Da ax i aa).1;have ml:=(Da ax i aa).2;have bu:¬f.heap.size=i.heap.size:=Ω;have bv:¬i.heap.size=f.heap.size:=Ω;have aw:=Db (Da aW i y aa al);clear aa al)|(refine ZeU rfl _ _ 99 99 rfl _ _ ?_ ?_ (Da aw) ?_;(first|rfl|simp[Act.eval]);(first|rfl|simp[Act.eval]);rintro v5 t⟨a5,m5,c5,rfl,z9,zf,HF⟩;refine z _ _ ?_;clear z K aw)|refine Bq (rs:=[4]) (by decide +kernel) Θ ?_|refine Bq (rs:=[5]) (by decide +kernel) Θ ?_|refine Bq (rs:=[6]) (by decide +kernel) Θ ?_|refine Bq (rs:=[7]) (by decide +kernel) Θ ?_|refine Bq (rs:=[0,4]) (by decide +kernel) Θ ?_|refine Bq (rs:=[0,5]) (by decide +kernel) Θ ?_|refine Bq (rs:=[0]) (by decide +kernel) Θ ?_|refine Bq (rs:=[1]) (by decide +kernel) Θ ?_|refine Bq (rs:=[2]) (by decide +kernel) Θ ?_|refine Bq (rs:=[3]) (by decide +kernel) Θ ?_|refine Bq (rs:=[0,1]) (by decide +kernel) Θ ?_|refine Bq (rs:=[0,2]) (by decide +kernel) Θ ?_|refine Bq (rs:=[0,3]) (by decide +kernel) Θ ?_|refine Bq (rs:=[1,2]) (by decide +kernel) Θ ?_|refine Bq (rs:=[1,3]) (by decide +kernel) Θ ?_|refine Bq (rs:=[2,3]) (by decide +kernel) Θ ?_|refine Bq (rs:=[0,1,2]) (by decide +kernel) Θ ?_|refine Bq (rs:=[0,1,3]) (by decide +kernel) Θ ?_|refine Bq (rs:=[0,2,3]) (by decide +kernel) Θ ?_|refine Bq (rs:=[1,2,3]) (by decide +kernel) Θ ?_|refine Bq (rs:=[0,1,2,3]) (by decide +kernel) Θ ?_|(refine wpAnyIn_done (by decide +kernel) ?_ _;exact Da HF)|(go_simp;refine z _ _ ?_;clear z K))
 case done=>
  rintro D ys W hD rfl⟨v,S,A,O,P,Q,B,j6⟩ z;have c9:W.cell? (dQ f.heap.size 0)=some v:=(A.J 0).M rfl;rw[aI]at Q;obtain⟨a,m,c,rfl⟩:=P.a0;have ay:=Db P;have aY:=Db Q;clear A O P Q j6
  gi_wp2
  refine⟨Θ,.inl ⟨_,_,rfl,BT z,?_⟩⟩;refine⟨.tuple #[dT a m c,dI 0],?_,⟨a,m,c,S,rfl,(Da ay).kept (λk s e=>?_),Da aY⟩,B.M (EU (w:=w) (Aa _) W D _ _ Ω z rfl rfl)⟩
  .simp[results,results120,go_sem]
  refine(FV W D (.deferred none)).block k s (λe'=>?_);obtain⟨R,N⟩:=(Da ay).type e;cases e';have:=Sq N z;cases this
 case stop=>
  rintro D c ae W _ _ h _;exact h.elim
end
variable{Z:Nat->Prop}
theorem Znl(w:World)(tb s:Nat)(V:NV)(E:NS)(t:Value)(G:Gh)(I:LF)(C:IB)(h:TW w tb s V E t G I C)(x:Gp G)(y:G.length<=10000)(p:By)(A:p.size<=2000000)(r:IE G p≠0):
  Cl 120 #[dP tb,dU p] w λe w'=>e=dR (.tuple #[dN,dI (IE G p)])/\Bw w w':=by
 have b:∀o,Bw w (w.alloc o):=λo=>(Ad _ _).alloc (Aa _) o;obtain⟨k,m⟩:=ex (IE G p);have g:Hid (∀o,Cl 177 #[dP tb,dU p] (w.alloc o) λe w'=>(e=dR (.tuple #[DE,dI k])\/∃d n f,k=4/\e=dR (.tuple #[Dk d n true ⟨none,f⟩,dI 0]))/\Below (w.alloc o).heap.size (w.alloc o) w'):=λo=>
  (R3 _ tb s V E t G I C (h.below (b o) (Aa _)) x y p A).Q (λe w' ⟨c,a⟩=>by
   refine⟨?_,a⟩;rcases c with⟨r,rfl⟩|⟨ac,ab,d,n,u,B,rfl⟩;simp_all[IE];have q:IE G p=if Dc p=[] then 0 else match Gr G (Dc p) with|none=>3|some u=>if u.p.isSome=true then 0 else 4:=by unfold IE;grind
   rcases U7 h.d B with⟨e,_⟩|⟨_,v,i,j⟩|⟨_,b',i,j,h4⟩;grind;right;rw[if_neg v,i]at q;simp only[j]at q;refine⟨d,n,u.f,Ω,?_⟩;obtain⟨up,uf⟩:=u;simp_all;simp_all)
 rw[<-m];have z:k≠0:=Ω;have aa:(k != 0)=true:=Ξ;clear h m r z;go_enter func120,ntmps120;go_wp2_with fail;apply(Da g _).Q;rintro e w1⟨c,l⟩;have a:=(b _).M (l.Q Θ);clear g b l;rcases c with rfl|⟨d,n,f,rfl,rfl⟩
 .unfold DE Dk;go_wp2
  go_ret2
  exact⟨rfl,a.alloc a.size _⟩
 .unfold Dk;go_wp2
  go_ret2
  exact⟨rfl,a.alloc a.size _⟩
theorem Sa:YP Z:=by
 intro vb tb P s q;refine⟨λL F=>JE L F s,λL F L' F' h=>⟨?_,λW w=>⟨?_,?_⟩⟩⟩;show(JE L F s).1.length<=2000000;unfold JE;split;simp;split;rw[AT];have:=O6 L ⟨#[]⟩ L.length;have:=h.len;omega;split;simp;split;simp;rw[AT];have:=O6 L s L.length;have:=h.len;omega;obtain⟨G,I,C,ρ,B,z,r,⟨i,V,E,A,g⟩,y,d,x,_⟩:=w;have aa:=d.lG;have ab:=d.lI;obtain⟨t,D,H⟩:=d.hf s;by_cases f:IE G s=0;obtain⟨ac,J⟩:=H f;have O:Hk G s=0:=by unfold IE at f;omega
 obtain⟨b,m,k⟩:∃b,Gd G i (Dc s) b/\(Dc s=[]\/Gr G (Dc s)=some ⟨some (dQ b 0),0⟩):=by
  by_cases p:Dc s=[];exact⟨i,.inl ⟨p,rfl⟩,.inl p⟩;unfold IE at f;cases k:Gr G (Dc s) with
  |none=>simp_all
  |some u=>
   rcases g.d.c9 _ (JZ k) with j|⟨b,j⟩;simp_all;simp only at j;exact⟨b,.inr (by grind [JZ]),.inr (by rw[j])⟩
 have M:GO (Dc s):=by by_cases p:Dc s=[];intro n x;grind;grind [J8]
 apply(MG W vb tb r s _ (λe w' ⟨⟨a,n,c,K,o,_⟩,_⟩=>⟨a,n,c,0,o⟩) (Znm W tb i V E A G I C g d.ok Ω Ω d.d7 s q O b m k)).Q;rintro e w'⟨⟨a,n,c,K,rfl,v,N⟩,l⟩;have:=d.gc M (g.d.ak _ b m) (g.d.en _ b m) N;rw[this]at v;rw[<-t,f,J];exact⟨⟨a,n,c,rfl,v⟩,l⟩;apply(MG W vb tb r s _ (λe w' ⟨o,_⟩=>⟨none,0,0,_,o⟩) (Znl W tb i V E A G I C g d.ok Ω s q f)).Q;rintro e w'⟨rfl,l⟩;rw[D f,<-t];exact⟨⟨none,0,0,rfl,rfl,.inl ⟨rfl,rfl⟩⟩,l⟩;obtain⟨G,I,C,ρ,B,z,r,ad,y,d,x,_⟩:=w;exact Zri W P B z L F y.toGj h.fv (by have:=h.len;omega) s q
theorem Zng(w:World)(vb q d:Nat)(k g:OA)(o n i h:Nat)(fs:Value)(m:Nat)(y:D8 w d vb q (dT k o n) (dT g i h) fs)(s:Nat->World->Prop)(t:Nat->Value->World->Prop)(Q:World->Prop)(I:∀W,Bw w W->Cl 106 #[dP q] W λe b=>∃pb,e=dR (dP pb)/\Bw w b/\s pb b)(F:∀pb b nb,s pb b->Gb b nb 30 [dP pb]->∃v' w',(Builtin.append_ #[52,52] 52 #[dT k o n,dS nb 1 1]).run prog b=.ok v' w'/\∃a l c,v'=dT a l c/\Gb w' d 55 [dP vb,dP q,dT k o n,dT g i h,fs]/\t pb (dT a l c) (w'.setCell (dQ d 2) (dT a l c)))(H:∀pb b W,s pb b->Bw b W->s pb W)(J:∀pb v W f,t pb v W->Bw W f->Cl 30 #[dP vb] f λe w'=>e=dR (dI m)/\w'=f)(G:∀pb v W f nb,t pb v W->Bw W f->Gb f nb 3 [dI m]->∃v' w',(Builtin.append_ #[53,53] 53 #[dT g i h,dS nb 1 1]).run prog f=.ok v' w'/\∃a l c,v'=dT a l c/\Gb w' d 55 [dP vb,dP q,v,dT g i h,fs]/\Q (w'.setCell (dQ d 3) (dT a l c))):
  Cl 86 #[dP d] w λe w'=>e=dR (.tuple #[])/\Q w':=by
 have S:=Db I;have P:Hid (∀pb b,s pb b->∃v' w',(Builtin.append_ #[52,52] 52 #[dT k o n,dS b.heap.size 1 1]).run prog (b.alloc (.cells #[dP pb] 30))=.ok v' w'/\∃a l c,v'=dT a l c/\Gb w' d 55 [dP vb,dP q,dT k o n,dT g i h,fs]/\Hid (t pb (dT a l c) (w'.setCell (dQ d 2) (dT a l c)))):=λpb b A=>
  F pb (b.alloc (.cells #[dP pb] 30)) b.heap.size (H pb b _ A ((Ad _ _).alloc (Aa _) _)) (D9 b _ 30)
 have T:=Db J;have R:Hid (∀pb v W f nb,t pb v W->Gb f nb 3 [dI m]->Bw W f->∃v' w',(Builtin.append_ #[53,53] 53 #[dT g i h,dS nb 1 1]).run prog f=.ok v' w'/\∃a l c,v'=dT a l c/\Gb w' d 55 [dP vb,dP q,v,dT g i h,fs]/\Hid (Q (w'.setCell (dQ d 3) (dT a l c)))):=λpb v W f nb A Y Z=>G pb v W f nb A Z Y;have D:w.cell? (dQ d 2)=some (dT k o n):=(Gb.J y 2).M rfl;have x1:w.cell? (dQ d 1)=some (dP q):=(Gb.J y 1).M rfl;have K:=Gb.lt y;clear y I F H J G;go_enter func86,ntmps86;go_wp2_with fail;go_region_law (first|(refine Wi rfl 106 _ 30 rfl _ (by simp[Act.eval]) (by go_simp) (Da S _ (by first|exact(Ad _ _).drew|exact Ad _ _)) ?_;rintro e b⟨pb,rfl,r,L⟩;refine⟨_,rfl,?_⟩;have E:=Db L;clear L;have m2:=(r.J (p:=dQ d 2) K).M D;have ac:(b.alloc (.cells #[dP pb] 30)).cell? (dQ d 2)=some (dT k o n):=((r.alloc r.size _).J (p:=dQ d 2) K).M D;have aa:¬d=b.heap.size:=(by have:=r.size;omega);have ab:¬b.heap.size=d:=(by have:=r.size;omega))|(refine ZdO rfl _ _ 52 52 rfl _ _ (by simp[Act.eval]) (by simp[Act.eval]) (Da P _ _ (Da E)) ?_;rintro v2 w2⟨M,O,N,rfl,x,z⟩;have X:=x.J 2;have V:=x.A 2))
 all_goals
  have u:=x.set 2 (dT M O N);obtain⟨j,B⟩:=ex (w2.setCell (dQ d 2) (dT M O N));rw[<-B]at u z;try rw[<-B]
  have y3:j.cell? (dQ d 3)=some (dT g i h):=(u.J 3).M rfl;have y0:j.cell? (dQ d 0)=some (dP vb):=(u.J 0).M rfl;have ad:d<j.heap.size:=u.lt;have ae:¬d=j.heap.size:=Ω;have af:¬j.heap.size=d:=Ω;clear B u x r aa ab x1 D m2 ac E X V;go_wp2_with fail;go_region_law (first|(refine Wi rfl 30 _ 25 rfl _ (by simp[Act.eval]) (by go_simp) (Da T _ _ _ _ (Da z) (by first|exact(Ad _ _).drew|exact Ad _ _)) ?_;rintro e w4⟨rfl,rfl⟩;refine⟨_,rfl,?_⟩)|(refine ZdO rfl _ _ 53 53 rfl _ _ (by simp[Act.eval]) (by simp[Act.eval]) (Da R _ _ _ _ _ (Da z) (D9 _ _ _) (by first|exact(Ad _ _).drew.alloc Θ _|exact(Ad _ _).alloc Θ _)) ?_;rintro v5 w5⟨ea,el,ec,rfl,C,U⟩;have g3:=C.J 3;have f3:=C.A 3))
  all_goals
   clear C;go_wp2
   go_end0
   exact⟨rfl,Da U⟩
def PF(pB:NB):NB
 |0=>⟨#[]⟩
 |k+1=>pB k
theorem GT.len{s:By}(h:GT b s f W):QN b W=s.size:=by obtain⟨a,l,c,d,e,_⟩:=h;rw[TZ ((d.J 0).M (show _=Option.some (Value.slice a l c) from rfl))];exact e.1


def La(v:Value):Gf:=v :: dN :: dI 0 :: .int .u64 0::(List.replicate 1536 (dV false)++(List.replicate 8 (dI 0)++[dN]))
theorem ZtK:(prog.info? 197).map (λi=>(i.zero,i.size))=some (some (.agg (La (.pointer none)).toArray),1549):=Φ
theorem ZsK:∀w,(zeroValue 197).run prog w=.ok (.agg (La (.pointer none)).toArray) w:=(Fj ZtK).1
theorem ZsW:(prog.info? 197).map (·.size)=some 1549:=Φ
theorem ZrX(a:Nat):prog.built 197 [(0,dP a)]=some (La (dP a)).toArray:=Φ
theorem ZhW(v:Value):(La v).length=1549:=by simp[La]
theorem Zs1(b:Nat):(La (dP b)).toArray.all (·.oneCell')=true:=by refine CH (λu a=>?_);rcases AM.1 a with rfl|a;rfl;rcases AM.1 a with rfl|a;rfl;rcases AM.1 a with rfl|a;rfl;rcases AM.1 a with rfl|a;rfl;rcases Al.1 a with a|a;rw[List.eq_of_mem_replicate a];rfl;rcases Al.1 a with a|a;rw[List.eq_of_mem_replicate a];rfl;rw[Ax.1 a];rfl
theorem rdZ_tk(v:Value)(p:Nat)(h:p<1536):(La v)[4+p]?=some (dV false):=by rw[C9 4 p];show(List.replicate 1536 (Value.bool false)++_)[p]? = _;rw[Ap Γ,Et,if_pos h]
theorem rdZ_tn(v:Value)(b:Nat)(h:b<8):(La v)[1540+b]?=some (dI 0):=by rw[show 1540+b=(1536+b)+4 by omega];show(List.replicate 1536 (Value.bool false)++_)[1536+b]? = _;rw[AJ Γ,BB,show 1536+b-1536=b by omega,Ap Ξ,Et,if_pos h]
theorem Zs0(v:Value):(La v)[1548]?=some dN:=by rfl
def Jv:Gg:=⟨[],λ_=>false,λ_=>0,⟨#[]⟩⟩
theorem Gv.start{e:Nat}(i:Gb W c 197 (La (dP e))){d:World}{n0:Nat}(a:Below n0 d W)(g:n0<=d.heap.size)(f:n0<=c):Gv d n0 c e 0 0 Jv dN dN W:=
 ⟨⟨_,i,rfl,rfl,rfl,rfl,λp h=>rdZ_tk _ p h,λb a=>rdZ_tn _ b a,Zs0 _⟩,⟨[],⟨λj k x y _ hx=>Γ,rfl,by grind [Jv]⟩,rfl,Γ⟩,GD.nil _ _,by grind [Own,Value.ownBlock],by grind [Own,Value.ownBlock],a,f,g⟩
theorem GW.start(N:Nat->Nat)(P:Nat->Nat->Nat)(ch:Nat->List UInt8)(B c:Nat):GW N P ch B c Jv:=
 ⟨λy e=>(by cases e),λb k _ a=>(by cases a),λp d=>(by cases d),λb _=>Ao _,rfl,by show 0=KO (λ_=>0) (B+1);rw[VE,F2]⟩
theorem L4.start(N:Nat->Nat)(b:Nat):L4 N b 0 Jv:=⟨rfl,λb' _=>by rfl⟩
def Gu(E:Ge)(r:Nat):Nat:=(E.at r).getD 0
theorem Ge.cs(E:Ge)(st:Pl)(r:Nat)(b:By):st.ps.length<=(E.put st r b).2.ps.length:=by unfold Ge.put;grind
theorem Ge.al(E:Ge)(R:Nat->Nat)(B:NB):∀(st:Pl) (i:Nat) (xs:List Nat),st.ps.length<=(E.U R B st i xs).ps.length
 |_,_,[]=>Aa _
 |st,i,x::xs=>Ae (E.cs st _ _) (Ge.al E R B _ _ xs)
theorem Ge.ea{E:Ge}{st:Pl}{r:Nat}{b:By}(h:(E.put st r b).2.ps.length<=st.ps.length):(E.put st r b).1=Gu E r/\E.at r=some (Gu E r)/\E.D[Gu E r]?=some b/\(E.put st r b).2.ps=st.ps:=by
 cases hs:E.aj r b with
 |none=>
  grind [D5,Ge.put,List.length_append]
 |some q=>
  have c:E.put st r b=(q,⟨st.hd,st.U++[(r,q)],st.ps⟩):=by grind [Ge.put]
  unfold Ge.aj at hs;split at hs;rename_i q' a;split at hs;rename_i d;cases hs;have e:Gu E r=q:=by unfold Gu;rw[a];rfl
  rw[c,e];exact⟨rfl,a,d.1,rfl⟩;simp_all;simp_all
theorem Ge.be{E:Ge}{R:Nat->Nat}{B:NB}{st:Pl}:∀(n:Nat),(E.U R B st 0 (List.range n)).ps.length<=st.ps.length->
  BL (Kr E R B st 0 (List.range n))=Ja (λk=>Ji (Gu E (R k)) (Dr (B k))) n/\(E.U R B st 0 (List.range n)).ps=st.ps/\(E.U R B st 0 (List.range n)).U=st.U++(List.range n).map (λk=>(R k,Gu E (R k)))/\∀k,k<n->E.at (R k)=some (Gu E (R k))/\E.D[Gu E (R k)]?=some (B k)
 |0,_=>⟨rfl,rfl,by grind [Ge.U],by omega⟩
 |n+1,h=>by rw[B8]at h ⊢;have e:=Ge.ax E R B st 0 (List.range n) n;rw[Av,Bl]at e;rw[e]at h;have h1:=E.cs (E.U R B st 0 (List.range n)) (R n) (B n);have h2:=Ge.al E R B st 0 (List.range n);obtain⟨f,g,i,j⟩:=Ge.be (E:=E) (R:=R) (B:=B) (st:=st) n Ω;obtain⟨c,l,m,o⟩:=Ge.ea (E:=E) (st:=E.U R B st 0 (List.range n)) (r:=R n) (b:=B n) Ω;have a:=RZ E R B st 0 (List.range n) n;rw[Av,Bl]at a;refine⟨?_,?_,?_,λk hk=>?_⟩;rw[a,Kg,f,Xa,c];rfl;rw[e,o,g];rw[e,Ge.a6,i,c,AE,Ar];rfl;by_cases d:k=n;subst d;exact⟨l,m⟩;exact j k Ω
def IQ(b:Nat):UInt8:=if b=0 then 3 else 2
def Ij(b:Nat):Nat:=if b=0 then 63 else 60
def G9(E:Ge)(t:By):NB
 |0=>t
 |b+1=>⟨(Ja (λk=>Ji (Gu E (Dz b k)) (Dr (Dy (IQ b) (G9 E t b) (Ij b) k))) (((G9 E t b).size+Ij b-1)/Ij b)).toArray⟩
def nR(E:Ge)(t:By)(b:Nat):Nat:=((G9 E t b).size+Ij b-1)/Ij b
theorem OJ(E:Ge)(t:By)(b:Nat):BL (G9 E t (b+1))=Ja (λk=>Ji (Gu E (Dz b k)) (Dr (Dy (IQ b) (G9 E t b) (Ij b) k))) (nR E t b):=by rfl
theorem OW(E:Ge)(t:By)(b:Nat):(G9 E t (b+1)).size=10*nR E t b:=by rw[<-Jn,OJ,UE (λk=>Qe _ _)]
def PL(E:Ge)(t:By)(b:Nat):Prop:=∀k,k<nR E t b->E.at (Dz b k)=some (Gu E (Dz b k))/\E.D[Gu E (Dz b k)]?=some (Dy (IQ b) (G9 E t b) (Ij b) k)
theorem Zv(E:Ge)(d:Nat):∀(b:Nat) (st:Pl) (s:By),st.ps.length<=(DU E d b st s).2.ps.length:=by
 induction d with
 |zero=>exact λ_ _ _=>Aa _
 |succ d ih=>
  intro b st s;unfold DU;split;exact Ae (Ge.al E _ _ _ _ _) (ih _ _ _);simp_all
theorem Zry(E:Ge)(t:By)(d:Nat):∀(b:Nat) (st:Pl),(DU E d (b+1) st (G9 E t (b+1))).2.ps.length<=st.ps.length->(G9 E t (b+1)).size<=10*6 ^ d->1<=nR E t b->
  ∃B,b<=B/\B<=b+d/\nR E t B=1/\(DU E d (b+1) st (G9 E t (b+1))).1=G9 E t (B+1)/\(∀a,b<a->a<=B->PL E t a)/\(∀a,b<=a->a<B->1<nR E t a)/\∀y,y∈(DU E d (b+1) st (G9 E t (b+1))).2.U↔y∈st.U\/∃a k,b<a/\a<=B/\k<nR E t a/\y=(Dz a k,Gu E (Dz a k)):=by
 induction d with
 |zero=>
  intro b st _ f i;have:=OW E t b;rw[Nat.pow_zero]at f;exact⟨b,Aa _,Aa _,Ω,rfl,Ω,Ω,λy=>⟨.inl,λe=>e.elim id Ω⟩⟩
 |succ d ih=>
  intro b st h f i;have ad:=OW E t b;unfold DU at h ⊢;by_cases m:10<(G9 E t (b+1)).size;rw[if_pos m]at h ⊢;have n:nR E t (b+1)=((G9 E t (b+1)).size+60-1)/60:=by rfl
  have q:(DG E 2 60 (b+1) st (G9 E t (b+1))).2.ps.length<=st.ps.length:=by grind [Nat.le_trans,Zv]
  have hR:∀k,De (2:UInt8).toNat (b+1) k=Dz (b+1) k:=λk=>by rfl
  obtain⟨u,v,w,p4⟩:=Ge.be _ q;have l:IQ (b+1)=2:=by rfl
  have s:Ij (b+1)=60:=by rfl
  have g:(DG E 2 60 (b+1) st (G9 E t (b+1))).1=G9 E t (b+2):=by refine K5 ?_;rw[OJ,n,l,s];exact u
  have o:PL E t (b+1):=λk aa=>by simp_all
  rw[g]at h ⊢;have ac:=OW E t (b+1);have r:(G9 E t (b+2)).size<=10*6 ^ d:=by grind
  obtain⟨B,q1,q2,x,z,A,C,q7⟩:=ih _ _ (by have p:(DG E 2 60 (b+1) st (G9 E t (b+1))).2.ps=st.ps:=v;rw[p];omega) r Ω;refine⟨B,Ω,Ω,x,z,λa j c=>?_,λa j c=>?_,λy=>?_⟩;by_cases e:a=b+1;rw[e];exact o;exact A a Ω c;by_cases e:a=b;rw[e];omega;exact C a Ω c;have ab:(DG E 2 60 (b+1) st (G9 E t (b+1))).2.U=st.U++(List.range (((G9 E t (b+1)).size+60-1)/60)).map (λk=>(Dz (b+1) k,Gu E (Dz (b+1) k))):=by refine Eq.M w ?_;rfl
  grind;grind
