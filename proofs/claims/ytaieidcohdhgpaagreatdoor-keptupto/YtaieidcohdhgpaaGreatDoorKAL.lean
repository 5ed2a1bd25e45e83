/- Kept. -/
import Derived.Test.YtaieidcohdhgpaaGreatDoorKAK
namespace Go.Proofs.YtaieidcohdhgpaaGreatDoor
variable{E:Ge}{s:KS}{D:LY}{L:List It}{N:List Nat}{C:NB}{B b c g j l n o p r tb vb:Nat}{a:OA}{F st:Pl}{P:Program}{ve vf:Value}{W w w':World}
set_option maxHeartbeats 40000000
set_option maxRecDepth 100000
set_option linter.all false
open Tryz
open Go.RowKit
def Qg:LI:=[(((De 3 0 0:Nat):Int),((16:Nat):Int))]
def SC(D:LY):KS:=⟨[],15,0,0,D⟩
theorem ZqJ(C:NB)(D:LY):Dn (SC D) false C []=(D7 16 (Dr Jl),⟨17,[(De 3 0 0,16)],[(16,Jl)]⟩):=by show DU (Do [] false 15 D) 8 1 (DG (Do [] false 15 D) 3 63 0 ⟨16,[],[]⟩ (⟨#[]⟩++⟨#[0]⟩)).2 (DG (Do [] false 15 D) 3 63 0 ⟨16,[],[]⟩ (⟨#[]⟩++⟨#[0]⟩)).1=_;rfl
theorem ZqK(C:NB)(D:LY):DK 512 (SC D) C []=(D7 16 (Dr Jl),⟨17,[(De 3 0 0,16)],[(16,Jl)]⟩):=by unfold DK;rw[ZqJ];rfl
theorem TW.empty{V:NV}{E:NS}{e:Value}{C:IB}(h:TW w tb c V E e [] [] C):MM w tb c V E e [] [] C (λ_=>[]) (λ_ => dN) (λ_=>⟨#[]⟩):=by
 have f:E c=[]:=by
  cases hl:E c with
  |nil=>rfl
  |cons x l=>
   have:=(h.d.en [] c (.inl ⟨rfl,rfl⟩) x.1 x.2).1 Ξ;grind
 refine⟨⟨h,⟨λx a=>(by cases a),λx a=>(by cases a),λx a=>(by cases a),Eg,λ_ _ _ a=>(by cases a)⟩,Ao _,Ao _,λns b d=>?_,λx a=>(by cases a)⟩,?_,λy k=>(by cases k)⟩;rcases d with⟨rfl,rfl⟩|d;rw[f];rfl;cases d;exact⟨Ao _,λx a=>(by cases a),λx a=>(by cases a),λx a=>(by cases a),λx a=>(by cases a),λi j x y _ g=>(by cases g)⟩
def Zqk(w:World)(stb db:Nat)(vf vn:Value)(D:LY)(e:Ending)(w':World):Prop:=
 ∃va vw ve ps ep,e=dR (.tuple #[])/\Id w' stb db va ((16:Nat):Int) (Dr Jl:Nat) ((1:Nat):Int) vf vn vw ve ((Jd D [(16,Jl)]).set 1 (Ha 1 16 (Dr Jl))) ps ep/\ps.length<=100/\Dm w dN vw/\Fr (Hn stb db vn dN dN) w w'/\Sl w' 350 2 va 1 (DH Qg)/\(∀k,Own va k->¬Hn stb db vn vw ve k)/\∀k,Own va k->w.heap.size<=k
theorem Znv(w:World)(m n tb:Nat)(t u:Value)(D:LY)(F:D.length=1536)(h:Id w m n dN ((15:Nat):Int) 0 ((0:Nat):Int) t u dN dN D [] []){C:IB}(L:PS w tb [] [] C):
  Cl 74 #[dP m,dP tb] w (Zqk w m n t u D):=by
 obtain⟨rd,V,E,vi,G⟩:=L;have J:∀k,¬Own dN k:=by grind [Own,Value.ownBlock]
 have K:H3 (SC D):=⟨λj k x y _ I=>(by cases I),Ao _,by show 15<1536;omega,F,λx d=>(by cases d)⟩;apply(Zf9 ⟨h,⟨rfl,.inl ⟨rfl,rfl⟩⟩,Γ⟩ K ⟨1,Ω,by show Dl [] 1<=0;decide⟩ G.empty (Ao _) (Ao _) (by show 0+1<_;omega)).Q;rintro e w'⟨rfl,b,O,P,N,s,v,c,o,p,g4,z,g6,A,B,_⟩;have a:=ZqK (λ_=>⟨#[]⟩) D;have H:Dp (λ_=>([]))=[]:=rfl;rw[H]at o p;rw[a]at p;rcases o with⟨h0,_⟩|⟨_,f,g,i,r,l⟩;simp_all;rw[a]at f g i l;have q:b.es=Qg:=by
  obtain⟨x,d⟩:∃x,b.es=[x]:=by
   match b.es,(f.2.1) with
   |[x],_=>simp_all
  obtain⟨y,M,e⟩:=(f.2.2 x).1 Ξ;rw[d,e,Ax.1 M];rfl
 obtain⟨aa,ac,ad,ab,D'⟩:=b;dsimp only at q g i r l;subst q g i r;subst l;have h2:s.length<=2:=Ω;exact⟨O,P,N,s,v,rfl,c.st,Ω,z,B,c.sk,c.ok,λk a=>(A k a).elim (λe=>absurd e (J k)) id⟩
def JO:LY:=(((Jd KR [(16,Jl)]).set 1 (Ha 1 16 (Dr Jl))).set 0 (Ha 0 16 (Dr Jl)))
def Zhz(w:World)(db:Nat)(vn:Value)(e:Ending)(w':World):Prop:=
 ∃stb vf' va,e=dR (dP stb)/\w.heap.size<=stb/\Id w' stb db va ((16:Nat):Int) (Dr Jl:Nat) ((1:Nat):Int) vf' vn dN dN JO [] []/\Hg w' vf' JO/\Sl w' 350 2 va 1 (DH Qg)/\(∀k,Own vf' k->w.heap.size<=k/\k≠stb/\¬Own va k/\k≠db/\¬Own vn k)/\(∀k,Own va k->w.heap.size<=k/\k≠stb/\k≠db/\¬Own vn k)/\Fr (λk=>k=db\/Own vn k) w w'
theorem Zkm(w:World)(c tb:Nat)(u f:Value)(h:Jg w c u f dN dN KR)(A:¬Own f c){C:IB}(B:PS w tb [] [] C):
  Cl 99 #[dP c,dP tb] w (Zhz w c f):=by
 obtain⟨W,z,J,G,sW,g⟩:=Df w [dP c,dN,dI 15,.int .u64 0,.int .u64 0] 179;have b:∀k,¬Own dN k:=λk e=>by simp[Own,Value.ownBlock]at e
 have ac:=h.1.lt;have D:Id W w.heap.size c dN ((15:Nat)) 0 ((0:Nat)) u f dN dN KR [] []:=by refine⟨J,⟨G _ _ _ h.1,⟨h.2.1.1.kept (λk a _=>g.block k a),h.2.1.2⟩,h.2.2⟩,Iq.nil _,⟨rfl,.inl ⟨rfl,rfl⟩⟩,Ω,⟨λe=>?_,b _,b _⟩,⟨A,b _,b _⟩,λk _=>b k,λk _=>b k,λk _=>b k⟩;have:=h.2.1.1.lt e;omega
 obtain⟨y,x⟩:=ex (IF 0 (Ha 0 16 (Dr Jl)));have O:Hid (Cl 74 #[dP w.heap.size,dP tb] W λe X=>e=dR (.tuple #[])/\(X.cell? (dQ w.heap.size 4)=some (.int .u64 1)/\X.cell? (dQ w.heap.size 2)=some (dI 16)/\X.cell? (dQ w.heap.size 3)=some (.int .u64 (Dr Jl)))/\
   Hid (Cl 160 #[.agg #[.int .u64 0,dI 16,.int .u64 (Dr Jl)]] X.drew λe Y=>e=dR y/\(Y.cell? (dQ w.heap.size 4)=some (.int .u64 1)/\Y.cell? (dQ w.heap.size 2)=some (dI 16)/\Y.cell? (dQ w.heap.size 3)=some (.int .u64 (Dr Jl)))/\
    Hid (Cl 159 #[dP c,y] Y λe Z=>e=dR (.tuple #[])/\(Z.cell? (dQ w.heap.size 4)=some (.int .u64 1)/\Z.cell? (dQ w.heap.size 2)=some (dI 16)/\Z.cell? (dQ w.heap.size 3)=some (.int .u64 (Dr Jl)))/\
     Hid (Cl 161 #[dP c] Z λe V=>e=dR (.tuple #[])/\Hid (Zhz w c f (dR (dP w.heap.size)) V))))):=by
  have ae:PS W tb [] [] C:=by obtain⟨rd,V,E,vi,T⟩:=B;exact⟨rd,V,E,vi,T.below g (Aa _)⟩
  apply(Znv W _ c tb u f KR Ug D ae).Q;rintro e X⟨I,av,ag,au,aj,rfl,t,an,s2,r,s5,s,s7⟩;refine⟨rfl,⟨(t.row.J 4).M rfl,(t.row.J 2).M rfl,(t.row.J 3).M rfl⟩,?_⟩;apply(VC _ 0 16 _ Ω Ω (Q6 _)).Q;rintro e Y⟨rfl,p⟩;have j:Bw X Y:=⟨p.os,p.tape,p.output,p.size,p.block⟩;have q:=t.below j;have H:=s5.kept (λk a _=>j.block k a);refine⟨by rw[x],⟨(q.row.J 4).M rfl,(q.row.J 2).M rfl,(q.row.J 3).M rfl⟩,?_⟩;rw[x];apply(q.bu Ω 0 Ω _ (OQ _ _ _)).Q;intro e Z F;obtain⟨ai,d,u2,n⟩:=q.c8 F;have af:Sl Z 350 2 I 1 (DH Qg):=H.e n (λk a e=>s k a (by rcases e with e|e|e;exact .inr (.inl e);exact .inr (.inr (.inl e));exact .inr (.inr (.inr (.inl e)))));refine⟨F.1,⟨(d.row.J 4).M rfl,(d.row.J 2).M rfl,(d.row.J 3).M rfl⟩,?_⟩;apply(Ziv Z c u f ai ag _ d.a2 d.nd.1).Q;rintro e V⟨rfl,ah,v1,v2,m,v4⟩;have ao:w.heap.size+1<=X.heap.size:=by have:=r.size;omega
  have ap:=j.size;have aq:=n.size;have ad:∀k,k<w.heap.size->¬(k=c\/Own f k)->¬Hn w.heap.size c f dN dN k:=λk a l e=>by rcases e with e|e|e|e|e;omega;exact l (.inl e);exact l (.inr e);exact b _ e;exact b _ e
  refine⟨rfl,w.heap.size,ah,I,rfl,Aa _,⟨d.row.e m (λe=>d.ne e),v1,Iq.nil _,⟨rfl,.inl ⟨rfl,rfl⟩⟩,d.ne,⟨d.ns.1,b _,b _⟩,⟨d.nd.1,b _,b _⟩,λk _=>b k,λk _=>b k,λk _=>b k⟩,v2,af.e m (λk a e=>s k a (.inr (.inl e))),λk a=>?_,λk a=>?_,?_⟩;have h1:=v4 k a;refine⟨Ω,Ω,λe=>(by have:=(λk a=>H.lt a) k e;omega),λe=>(by have:=d.a2.1.lt;omega),λe=>(by have:=d.a2.2.1.1.lt e;omega)⟩;exact⟨(by have:=s7 k a;omega),λe=>s k a (.inl e),λe=>s k a (.inr (.inl e)),λe=>s k a (.inr (.inr (.inl e)))⟩;refine⟨m.os.M (n.os.M (j.os.M (r.os.M g.os))),m.tape.M (n.tape.M (j.tape.M (r.tape.M g.tape))),m.output.M (n.output.M (j.output.M (r.output.M g.output))),by have:=m.size;omega,λk a l=>?_⟩;rw[m.block k Ω (λe=>l (.inl e)),n.block k Ω (λe=>by rcases e with e|e|e;exact l (.inl e);exact l (.inr e);exact(λe=>(s2 k e).elim (b _) (λe=>Ω)) e),j.block k Ω,r.block k Ω (ad k a l),g.block k a]
 have Q:=Db z;have ar:IntKind.u64.wrap (1-1)=0:=Δ;clear h A B z J G sW g D b ac x;go_enter func99,ntmps99;go_upto_region 2 with fail;rw[show w.alloc (.cells #[dP c,dN,dI 15,.int .u64 0,.int .u64 0] 179)=W from Da Q];go_upto_region 3 with(go_at_call 74;apply(Da O).Q;rintro e X⟨rfl,U,L⟩);refine Az (S:=λX=>X.cell? (dQ w.heap.size 4)=some (.int .u64 1)/\X.cell? (dQ w.heap.size 2)=some (dI 16)/\X.cell? (dQ w.heap.size 3)=some (.int .u64 (Dr Jl:Nat))) Φ U (λam=>?_);refine tk 0 ?_;refine tk 1 ?_;refine tk 2 ?_;refine tk 3 ?_;refine tk 4 ?_;refine A4 (i:=5) (v:=.int .u64 0) rfl Φ Φ Φ (λ_ _ _ h=>h) (Or.inl ⟨by rfl,?_⟩) Ψ ?_
 .intro w R;(try dsimp only at R);go_simp;rfl
 try simp only[pE]
 refine tk 6 ?_;refine tk 7 ?_;refine tk 8 ?_;refine tk 9 ?_;refine tk 10 ?_;refine A4 (i:=11) (v:=.agg #[.int .u64 0,dI 16,.int .u64 (Dr Jl:Nat)]) rfl Φ Φ Φ (λ_ _ _ h=>h) (Or.inl ⟨by rfl,λV _=>VY V 191 _ rfl (vs:=#[(0,.int .u64 0),(1,.agg #[dI 16,.int .u64 (Dr Jl:Nat)])]) (by simp[Act.eval]) (Da (Db (TQ 0 16 (Dr Jl:Nat))))⟩) Ψ ?_;try simp only[pE]
 refine rk 12 (λK o=>?_);go_simp;go_at_call 160;apply(Da L).Q;rintro e Y⟨rfl,aa,M⟩;go_wp2_with fail;refine o.out _ _ aa (λak=>?_);clear o K;try simp only[pE]
 refine rk 13 (λK o=>?_);go_simp;go_at_call 159;apply(Da M).Q;rintro e Z⟨rfl,ab,N⟩;go_wp2_with fail;refine o.out _ _ ab (λal=>?_);clear o K;try simp only[pE]
 refine AL Φ ?_ _;go_wp2_with(go_at_call 161;apply(Da N).Q;rintro e V⟨rfl,P⟩);go_ret;exact Da P
def Gt(w:World)(vb tb:Nat):Prop:=∃d s:Nat,Gb w vb 41 [dP vb,dP tb,dP d,dP s]
theorem Gt.c0(h:Gt w vb tb):w.cell? (dQ vb 0)=some (dP vb):=by obtain⟨d,s,h⟩:=h;exact(Gb.J h 0).M rfl
theorem Gt.c1(h:Gt w vb tb):w.cell? (dQ vb 1)=some (dP tb):=by obtain⟨d,s,h⟩:=h;exact(Gb.J h 1).M rfl
theorem Gt.alloc(h:Gt w vb tb)(o:Obj):Gt (w.alloc o) vb tb:=by obtain⟨d,s,h⟩:=h;exact⟨d,s,Gb.alloc h o⟩
theorem Gt.row(h:Gt w vb tb):∃R,Gb w vb 41 R:=by obtain⟨d,s,h⟩:=h;grind
theorem Gt.e{X:Nat->Prop}(h:Gt w vb tb)(b:Fr X w w')(a:¬X vb):Gt w' vb tb:=by obtain⟨d,s,h⟩:=h;exact⟨d,s,Gb.e h b a⟩
theorem ZrH(a:Addr)(w:World):(binOp .eql 25 (.pointer (some a)) (.pointer (some a))).run prog w=.ok (dV true) w:=by obtain⟨j,hj⟩:∃j,prog.info? 41=some j:=Option.isSome_iff_exists.1 Φ;grind [run_eql_ptr_same,underlying25]
theorem Kx(w:World)(vb tb:Nat)(h:Gt w vb tb):Cl 53 #[dP vb] w λe w'=>e=dR (dV true)/\w'=w:=by have h0:=Gt.c0 h;have hq:=ZrH;go_enter func53,ntmps53;go_wp2;go_ret;simp_all
theorem MV(w:World)(vb tb:Nat)(h:Gt w vb tb)(p:By)(Q:Ending->World->Prop)(b:∀e w',Q e w'->∃n:Int,e=dR (dI n))(c:Cl 122 #[dP tb,dU p] w Q):Cl 58 #[dP vb,dU p] w Q:=by have d:=Kx w vb tb h;have h1:=Gt.c1 h;go_enter func58,ntmps58;go_wp2_with(apply d.Q;rintro e w'⟨rfl,rfl⟩);apply c.Q;intro e f a;obtain⟨n,rfl⟩:=Da (Db b) e f a;go_wp2;exact a
theorem MQ(w:World)(vb tb:Nat)(h:Gt w vb tb)(p:By)(i:Int)(x:Value)(Q:Ending->World->Prop)(b:∀e w',Q e w'->∃n:Int,e=dR (dI n))(c:Cl 123 #[dP tb,dU p,dI i,x] w Q):Cl 59 #[dP vb,dU p,dI i,x] w Q:=by have d:=Kx w vb tb h;have h1:=Gt.c1 h;go_enter func59,ntmps59;go_wp2_with(apply d.Q;rintro e w'⟨rfl,rfl⟩);apply c.Q;intro e f a;obtain⟨n,rfl⟩:=Da (Db b) e f a;go_wp2;exact a
theorem SJ(w:World)(vb tb:Nat)(h:Gt w vb tb)(p:By)(i:Int)(Q:Ending->World->Prop)(b:∀e w',Q e w'->∃n:Int,e=dR (dI n))(c:Cl 124 #[dP tb,dU p,dI i] w Q):Cl 60 #[dP vb,dU p,dI i] w Q:=by have d:=Kx w vb tb h;have h1:=Gt.c1 h;go_enter func60,ntmps60;go_wp2_with(apply d.Q;rintro e w'⟨rfl,rfl⟩);apply c.Q;intro e f a;obtain⟨n,rfl⟩:=Da (Db b) e f a;go_wp2;exact a
theorem N8(w:World)(vb tb:Nat)(h:Gt w vb tb)(p q:By)(Q:Ending->World->Prop)(b:∀e w',Q e w'->∃n:Int,e=dR (dI n))(c:Cl 125 #[dP tb,dU p,dU q] w Q):Cl 61 #[dP vb,dU p,dU q] w Q:=by have d:=Kx w vb tb h;have h1:=Gt.c1 h;go_enter func61,ntmps61;go_wp2_with(apply d.Q;rintro e w'⟨rfl,rfl⟩);apply c.Q;intro e f a;obtain⟨n,rfl⟩:=Da (Db b) e f a;go_wp2;exact a
theorem N4(w:World)(vb tb:Nat)(h:Gt w vb tb)(p q:By)(Q:Ending->World->Prop)(b:∀e w',Q e w'->∃n:Int,e=dR (dI n))(c:Cl 126 #[dP tb,dU p,dU q] w Q):Cl 62 #[dP vb,dU p,dU q] w Q:=by have d:=Kx w vb tb h;have h1:=Gt.c1 h;go_enter func62,ntmps62;go_wp2_with(apply d.Q;rintro e w'⟨rfl,rfl⟩);apply c.Q;intro e f a;obtain⟨n,rfl⟩:=Da (Db b) e f a;go_wp2;exact a
theorem ZsY(w:World)(vb tb:Nat)(h:Gt w vb tb)(p:By)(Q:Ending->World->Prop)(b:∀e w',Q e w'->∃n:Int,e=dR (dI n))(c:Cl 127 #[dP tb,dU p] w Q):Cl 63 #[dP vb,dU p] w Q:=by have d:=Kx w vb tb h;have h1:=Gt.c1 h;go_enter func63,ntmps63;go_wp2_with(apply d.Q;rintro e w'⟨rfl,rfl⟩);apply c.Q;intro e f a;obtain⟨n,rfl⟩:=Da (Db b) e f a;go_wp2;exact a
theorem MR(w:World)(vb tb:Nat)(h:Gt w vb tb)(Q:Ending->World->Prop)(b:∀e w',Q e w'->∃n:Int,e=dR (dI n))(c:Cl 82 #[dP tb] w Q):Cl 34 #[dP vb] w Q:=by have d:=Kx w vb tb h;have h1:=Gt.c1 h;go_enter func34,ntmps34;go_wp2_with(apply d.Q;rintro e w'⟨rfl,rfl⟩);apply c.Q;intro e f a;obtain⟨n,rfl⟩:=Da (Db b) e f a;go_wp2;exact a
theorem NT(w:World)(vb tb:Nat)(h:Gt w vb tb)(p:By)(i n:Int)(Q:Ending->World->Prop)(d:∀e w',Q e w'->∃a n c k,e=dR (.tuple #[dT a n c,dI k]))(f:Cl 119 #[dP tb,dU p,dI i,dI n] w Q):Cl 55 #[dP vb,dU p,dI i,dI n] w Q:=by have g:=Kx w vb tb h;have h1:=Gt.c1 h;go_enter func55,ntmps55;go_wp2_with(apply g.Q;rintro e w'⟨rfl,rfl⟩);apply f.Q;intro e j b;obtain⟨a,n,c,k,rfl⟩:=Da (Db d) e j b;go_wp2;exact b
theorem MG(w:World)(vb tb:Nat)(h:Gt w vb tb)(p:By)(Q:Ending->World->Prop)(d:∀e w',Q e w'->∃a n c k,e=dR (.tuple #[dT a n c,dI k]))(f:Cl 120 #[dP tb,dU p] w Q):Cl 56 #[dP vb,dU p] w Q:=by have g:=Kx w vb tb h;have h1:=Gt.c1 h;go_enter func56,ntmps56;go_wp2_with(apply g.Q;rintro e w'⟨rfl,rfl⟩);apply f.Q;intro e i b;obtain⟨a,n,c,k,rfl⟩:=Da (Db d) e i b;go_wp2;exact b
theorem NN(w:World)(vb tb:Nat)(h:Gt w vb tb)(p:By)(Q:Ending->Prop)(l:∀e,Q e->∃a b c d k,e=dR (.tuple #[.agg #[dU a,dV b,dI c,dI d],dI k]))(m:∀W,Bw w W->Cl 121 #[dP tb,dU p] W λe w'=>Q e/\Bw W w'):
  Cl 57 #[dP vb,dU p] w λe w'=>Q e/\Bw w w':=by
 have i:∀o,Bw w (w.alloc o):=λo=>(Ad _ _).alloc (Aa _) o;have q:=λo=>Kx _ vb tb (Gt.alloc h o);have t:=λo=>(Gt.c1 (Gt.alloc h o));have n:=λo=>m _ (i o);have s:=Db l;clear l h m;go_enter func57,ntmps57;go_wp2_with(go_at_call 53;apply(q _).Q;rintro e w'⟨rfl,rfl⟩);apply(n _).Q;rintro e v⟨r,j⟩;obtain⟨a,b,c,d,k,rfl⟩:=Da s e r;have u:=(i _).M (j.Q Θ);have f:Gb v w.heap.size 112 _:=(j.block _ Θ).M (Da (Db (D9 w [dU ⟨#[]⟩,dV false,dI 0,dI 0] 112)));clear n i j q t;obtain⟨b0,b1,b2,b3⟩:=f.c3;obtain⟨g0,g1,g2,g3⟩:=f.f3;go_wp2;have g:=Ke f (dU a) (dV b) (dI c) (dI d);exact Am (by simp[results,results57,go_sem,(g.J 0),(g.J 1),(g.J 2),(g.J 3)]) rfl
   ⟨r,QS u (Aa _) _ _ _ _⟩
def Zug(w:World)(e:Ending)(w':World):Prop:=
 ∃tb,e=dR (dP tb)/\w.heap.size<tb/\PS w' tb [] [] (λ_=>⟨#[]⟩)/\Bw w w'/\∃rb vi,Gb w' tb 214 [dP rb,vi]/\Gb w' rb 229 [dN]
theorem Yl(w:World)(i:GU w):Cl 95 #[] w (Zug w):=by
 go_enter func95,ntmps95;go_wp2;go_ret;have e:Bw w ((w.alloc (.cells #[dN] 229)).alloc (.cells #[dP w.heap.size,dN] 214)):=((Ad _ w).alloc (Aa _) _).alloc Θ _;refine⟨_,rfl,Θ,⟨w.heap.size,λ_ => dN,λ_=>[],dN,?_,?_,?_,?_,?_,?_,Θ,by grind [Value.ownBlock]⟩,e,w.heap.size,dN,?_,(D9 w [dN] 229).alloc _⟩;exact i.e (X:=λ_=>False) (Fr.S e) id;have:=D9 (w.alloc (.cells #[dN] 229)) [dP w.heap.size,dN] 214;rw[show(w.alloc (.cells #[dN] 229)).heap.size=w.heap.size+1 by simp]at this;exact this;have c:∀ns b,Gd [] w.heap.size ns b->ns=[]/\b=w.heap.size:=λns b h=>h.elim id Γ;refine⟨Γ,λns b h=>?_,λns b h=>⟨rfl,.inl ⟨rfl,rfl⟩⟩,λns b h=>?_,λns b h=>?_,λns l b h d=>(c _ _ h).1.M (c _ _ d).1.r,λns l b b' g h d _ _=>(c _ _ h).2.M (c _ _ d).2.r,λns b h=>⟨CV (c _ _ h).2.r,λg f=>by simp[Value.ownBlock]at f⟩⟩;obtain⟨-,rfl⟩:=c _ _ h;exact((D9 w _ 229).alloc _);exact λj k x y _ h=>by simp at h
 intro a s;simp;exact⟨rfl,Γ⟩;exact λj k x y _ h=>Γ;simp_all;have:=D9 (w.alloc (.cells #[dN] 229)) [dP w.heap.size,dN] 214;rw[show(w.alloc (.cells #[dN] 229)).heap.size=w.heap.size+1 by simp]at this;exact this
def Hd(w:World)(vb tb db stb:Nat):Prop:=Gb w vb 41 [dP vb,dP tb,dP db,dP stb]
theorem Hd.ai{a:Nat}(h:Hd w vb tb a b):Gt w vb tb:=⟨a,b,h⟩
theorem ZeE(w:World)(tb a c:Nat):Cl 77 #[dP tb,dP a,dP c] w λe w'=>e=dR (dP w.heap.size)/\Hd w' w.heap.size tb a c/\Bw w w'/\w.heap.size<w'.heap.size:=by obtain⟨W,hW,b,hk,aa,g⟩:=Df w [.pointer none,dP tb,dP a,dP c] 41;go_enter func77,ntmps77;go_upto_region 2 with fail;have b0:=b.J 0;have g0:=b.A 0;have f:=Db b;have d:=Db g;go_wp2;go_ret;exact⟨rfl,(Da f).set 0 _,(Da d).setCell (p:=dQ w.heap.size 0) (Aa _) _,by grind [Da,World.setCell]⟩
def SZ(w:World)(tb:Nat)(e:Ending)(w':World):Prop:=
 ∃vb db stb vf vn va,e=dR (dP vb)/\Hd w' vb tb db stb/\Id w' stb db va ((16:Nat):Int) (Dr Jl:Nat) ((1:Nat):Int) vf vn dN dN JO [] []/\Hg w' vf JO/\Sl w' 350 2 va 1 (DH Qg)/\Bw w w'/\w.heap.size<=vb/\w.heap.size<=db/\w.heap.size<=stb/\vb≠db/\vb≠stb/\(∀k,Own vf k->w.heap.size<=k/\k≠stb/\k≠db/\¬Own va k/\¬Own vn k/\k≠vb)/\(∀k,Own va k->w.heap.size<=k/\k≠stb/\k≠db/\¬Own vn k/\k≠vb)/\(∀k,Own vn k->w.heap.size<=k/\k≠vb)
theorem ZhH(w:World)(tb:Nat){C:IB}(F:PS w tb [] [] C):
  Cl 40 #[dP tb] w (SZ w tb):=by
 have r:Hid (Cl 98 #[] w λe X=>∃b,e=dR (dP b)/\Hid (Cl 99 #[dP b,dP tb] X λe Y=>∃c,e=dR (dP c)/\Hid (Cl 77 #[dP tb,dP b,dP c] Y λe Z=>∃vb,e=dR (dP vb)/\Hid (SZ w tb (dR (dP vb)) Z)))):=by
  apply(ZoM w).Q;rintro e X⟨b,J,o,rfl,z,t,-,d,-,A,-⟩;refine⟨b,rfl,?_⟩;have x:=d.size;have G:PS X tb [] [] C:=by obtain⟨H,V,E,K,u⟩:=F;exact⟨H,V,E,K,u.below d (Aa _)⟩
  apply(Zkm X b tb J o t Γ G).Q;rintro e Y⟨c,I,n,rfl,ab,g,i,m,D,B,f⟩;refine⟨c,rfl,?_⟩;apply(ZeE Y tb b c).Q;rintro e Z⟨rfl,v,h,aa⟩;have y:Bw w Y:=⟨f.os.M d.os,f.tape.M d.tape,f.output.M d.output,Ae x f.size,λk a=>(f.block k Ω Γ).M (d.block k a)⟩;have l1:=g.a2.1.lt;have l2:=g.row.lt;have ac:∀k,Own n k->w.heap.size<=k\/k<w.heap.size:=Ω;refine⟨Y.heap.size,rfl,Y.heap.size,b,c,I,o,n,rfl,v,g.below h,⟨i.1.kept (λk a _=>h.block k a),i.2⟩,m.kept (λk a _=>h.block k a),y.M (h.Q Ω),Ω,z,Ω,Ω,Ω,λk a=>?_,λk a=>?_,λk a=>?_⟩;have j:=D k a;have l:=i.1.lt a;grind;have j:=B k a;have l:=m.lt a;grind;have j:=A k a;have l:=g.a2.2.1.1.lt a;omega
 go_enter func40,ntmps40;go_wp2_with(first|(apply(Da r).Q;rintro e X⟨b,rfl,p⟩)|(apply(Da p).Q;rintro e Y⟨c,rfl,q⟩)|(apply(Da q).Q;rintro e Z⟨vb,rfl,s⟩));go_ret;exact Da s
def VJ(w:World)(e:Ending)(w':World):Prop:=
 ∃tb w1,w.heap.size<tb/\Bw w w1/\tb<w1.heap.size/\PS w' tb [] [] (λ_=>⟨#[]⟩)/\SZ w1 tb e w'
theorem Zll(w:World)(k:GU w):Cl 71 #[] w (VJ w):=by
 have d:Hid (Cl 95 #[] w λe X=>∃tb,e=dR (dP tb)/\Hid (Cl 40 #[dP tb] X λe Y=>∃vb,e=dR (dP vb)/\Hid (VJ w (dR (dP vb)) Y))):=by apply(Yl w k).Q;rintro e X⟨tb,rfl,j,a,i,rb,vi,m,hr⟩;refine⟨tb,rfl,?_⟩;apply(ZhH X tb a).Q;intro e Y b;have l:=b;obtain⟨vb,db,aa,vf,vn,va,rfl,h1,h2,h3,h4,g,h6⟩:=b;refine⟨vb,rfl,tb,X,j,i,m.lt,?_,l⟩;obtain⟨n,V,E,o,h⟩:=a;exact⟨n,V,E,o,h.below g (Aa _)⟩
 go_enter func71,ntmps71;go_wp2_with(first|(apply(Da d).Q;rintro e X⟨tb,rfl,c⟩)|(apply(Da c).Q;rintro e Y⟨vb,rfl,f⟩));go_ret;exact Da f
theorem WL(w:World)(vb tb a o:Nat)(h:Hd w vb tb a o)(c d vw b:Value)(D:LY)(l:Jg w a c d vw b D):Cl 28 #[dP vb] w (GF w D):=by have m:=Kx w vb tb h.ai;have f:=Db (Zny w a c d vw b D l);have c2:w.cell? (dQ vb 2)=some (dP a):=(Gb.J h 2).M rfl;go_enter func28,ntmps28;go_wp2_with(first|(apply m.Q;rintro e w'⟨rfl,rfl⟩)|(apply(Da f).Q;rintro e w'⟨j,n,k,rfl,g⟩;have i:=Db g));go_ret;exact⟨j,n,k,rfl,Da i⟩
theorem Xe(w:World)(vb tb b i:Nat)(h:Hd w vb tb b i)(a:OA)(l c:Nat)(d:w.cell? (dQ b 3)=some (dT a l c)):Cl 30 #[dP vb] w λe w'=>e=dR (dI l)/\w'=w:=by have g:=Kx w vb tb h.ai;have f:=Zln w b a l c d;have c2:w.cell? (dQ vb 2)=some (dP b):=(Gb.J h 2).M rfl;go_enter func30,ntmps30;go_wp2_with(first|(apply g.Q;rintro e w'⟨rfl,rfl⟩)|(apply f.Q;rintro e w'⟨rfl,rfl⟩));go_ret;simp_all
theorem XE(b:Nat->Int):∀(i f m:Nat),i<=f->(∀a,a<i->0<b ((m+a)%96))->¬0<b ((m+i)%96)->D5 b f (16*m)=16*(m+i)
 |0,f,m,_,_,h=>by rw[VD (λe=>h (by have:=e.2;rwa [show 16*m/16%96=(m+0)%96 by omega]at this))];rfl
 |i+1,f,m,hf,hl,h=>by
  cases f with
  |zero=>omega
  |succ f=>
   rw[YR ⟨Ω,by rw[show 16*m/16%96=(m+0)%96 by omega];exact(hl 0 Ω)⟩,show 16*m+16=16*(m+1) by omega];rw[XE b i f _ Ω (λa aa=>by have:=hl (a+1) Ω;rwa [show m+(a+1)=m+1+a by omega]at this) (by rwa [show m+(i+1)=m+1+i by omega]at h)];omega
def JC(nd:Nat->Int)(c:Nat):Nat->Nat
 |0=>0
 |j+1=>JC nd c j+if 0<j/\nd ((c+j)%96)<=0 then 1 else 0
theorem Zn(a:Nat->Int)(c:Nat):∀(m j:Nat),JC a c (j+1)<JC a c (j+1+m)->∃b,j<b/\b<=j+m/\a ((c+b)%96)<=0/\(∀i,j<i->i<b->0<a ((c+i)%96))/\JC a c b=JC a c (j+1)
 |0,j,h=>by grind
 |m+1,j,h=>by
  by_cases f:a ((c+(j+1))%96)<=0;grind;have e:JC a c (j+1+1)=JC a c (j+1):=by
   conv=>lhs;unfold JC
   rw[if_neg (λe=>f e.2)];rfl
  obtain⟨b,q1,q2,k,l,n⟩:=Zn a c m _ (by rw[e,show j+1+1+m=j+1+(m+1) by omega];exact h);refine⟨b,Ω,Ω,k,λi h1 d=>?_,by rw[n,e]⟩;by_cases g:i=j+1;subst g;omega;exact l i Ω d
def Qh(c p:Nat):Nat:=(p/16+96-c)%96
structure RI(nd:Nat->Int)(tp j o:Nat)(N:List Nat):Prop where
 jl:j<=95
 o1:1<=o
 o2:o<=16
 e:j=0/\tp%16<o\/0<j/\nd ((tp/16+j)%96)<=0
 mem:∀p∈N,p<1536/\(Qh (tp/16) p=0/\tp<p/\(j=0->p%16<o)\/0<Qh (tp/16) p/\nd (p/16)<=0/\(Qh (tp/16) p<j\/Qh (tp/16) p=j/\p%16<o))
 ha:N.Nodup
 io:16*JC nd (tp/16) j+(if 0<j then o else 0)<=N.length
theorem RI.next{d:Nat->Int}(h:RI d c j o N)(ag:c<1536)(ac:N.length<16*(JC d (c/16) 96)):
  ∃f o',RI d c f o' (N++[D5 d 96 (16*((c/16+j)%96)+o)%1536])/\D5 d 96 (16*((c/16+j)%96)+o)%1536+1=16*((c/16+f)%96)+o':=by
 have s:=h.jl;have h2:=h.o1;have h3:=h.o2;have ab:=h.io;by_cases ho:o<16;have e:D5 d 96 (16*((c/16+j)%96)+o)=16*((c/16+j)%96)+o:=by grind [VD]
 rw[e,FG Ω];generalize hp:16*((c/16+j)%96)+o=p
 have v:p%16=o:=Ω;have u:p/16=(c/16+j)%96:=Ω;have t:Qh (c/16) p=j:=by grind [Qh]
 refine⟨j,o+1,⟨s,Ω,Ω,h.e.imp Ω id,λq l=>?_,?_,?_⟩,Ω⟩;rcases Al.1 l with g|g;obtain⟨x,m⟩:=h.mem q g;omega;rw[Ax.1 g];refine⟨Ω,?_⟩;rcases h.e with⟨e,r⟩|⟨e,r⟩;omega;simp_all;rw[CZ];refine⟨h.ha,Θ,λa i b k e=>?_⟩;rw[Ax.1 k]at e;obtain⟨_,m⟩:=h.mem a i;grind;grind;obtain rfl:o=16:=Ω;have aa:16*JC d (c/16) (j+1)<=N.length:=by unfold JC;grind
 have ae:j+1<=96:=Ω;obtain⟨f,g,q2,q3,y,q5⟩:=Zn d (c/16) (95-j) j Γ;have e:D5 d 96 (16*((c/16+j)%96)+16)=16*((c/16+j)%96+1+(f-j-1)):=by rw[show 16*((c/16+j)%96)+16=16*((c/16+j)%96+1) by omega];refine XE d _ 96 _ Ω (λw ad=>?_) ?_;have:=y (j+1+w) Ω Ω;grind;grind
 rw[e];generalize hp:16*((c/16+j)%96+1+(f-j-1))%1536=p
 have af:p=16*((c/16+f)%96):=Ω;have v:p%16=0:=Ω;have u:p/16=(c/16+f)%96:=Ω;have t:Qh (c/16) p=f:=by grind [Qh]
 refine⟨f,1,⟨Ω,Ω,Ω,Ω,λq l=>?_,?_,?_⟩,Ω⟩;rcases Al.1 l with n|n;obtain⟨x,m⟩:=h.mem q n;grind;grind;rw[CZ];refine⟨h.ha,Θ,λa i b k e=>?_⟩;rw[Ax.1 k]at e;obtain⟨_,m⟩:=h.mem a i;grind;grind
theorem RI.start(b:Nat->Int)(a:Nat)(_h:a<1536):RI b a 0 (a%16+1) []:=
 ⟨Ω,Ω,Ω,Ω,Γ,Eg,by simp[JC]⟩
theorem Zpr(d:Nat->Int)(n:∀j,0<=d j)(c:Nat)(m:c<96)(ab:0<d c):16*JC d c 96=D3 d 96:=by
 have f:∀k,D3 d k=16*(List.range k).countP (λj=>decide (d j=0)):=λk=>by
  induction k with
  |zero=>rfl
  |succ k ih=>
   unfold D3;rw[ih,B8,AU,Bm];by_cases e:d k=0<;>simp[e]<;>omega
 have g:∀k,JC d c k=(List.range k).countP (λj=>decide (0<j/\d ((c+j)%96)<=0)):=λk=>by
  induction k with
  |zero=>rfl
  |succ k ih=>
   unfold JC;rw[ih,B8,AU,Bm];by_cases e:0<k/\d ((c+k)%96)<=0<;>simp[e]
 rw[f,g];congr 1;have h:(List.range 96).countP (λj=>decide (0<j/\d ((c+j)%96)<=0))=((List.range 96).map (λj=>(c+j)%96)).countP (λj=>decide (d j=0)):=by rw[BJ];refine FA (λj hj=>?_);simp only[Function.comp,An];constructor;have:=n ((c+j)%96);omega;intro q;refine⟨?_,Ω⟩;rcases Bn j with e|e;subst e;rw[Ep,FG m]at q;omega;exact e
 rw[h];refine(UG _ _ ?_ (λx o=>?_) Θ).countP_eq _;rw[BX,Bj];refine List.Pairwise.imp_of_mem (λ{a b} i l aa e=>?_) (BX.1 List.nodup_range);rw[Cz]at i l;omega;obtain⟨y,hy,rfl⟩:=AB.1 o;exact Cz.2 Ω
theorem Ge.bm{E:Ge}{Q:Pl->Prop}(f:∀st r s,s.size=64->(∀y∈st.U,y.1≠r)->Q st->Q (E.put st r s).2)(R:Nat->Nat)(g:∀a b,R a=R b->a=b)(B:NB)(d:∀x,(B x).size=64):
  ∀(st:Pl) (i:Nat) (xs:List Nat),(∀y∈st.U,∀j,i<=j->j<i+xs.length->y.1≠R j)->Q st->Q (E.U R B st i xs)
 |_,_,[],_,h=>h
 |st,i,x::xs,hf,h=>by refine Ge.bm f R g B d _ _ xs (λy c j h1 h2=>?_) (f st _ _ (d x) (λy c=>Γ) h);rw[Ge.a6]at c;rcases Al.1 c with q|q;exact hf y q j Ω (by rw[Ay];omega);rw[Ax.1 q];exact λe=>by have:=g _ _ e;omega
theorem ZW{E:Ge}{Q:Pl->Prop}(g:∀st r s,s.size=64->(∀y∈st.U,y.1≠r)->Q st->Q (E.put st r s).2)(C:NB):∀(last:By) (st:Pl) (xs:List It),
  (∀x∈xs,x.k=1\/x.k=2\/x.k=3)->(∀x∈xs,x.k=2->(C x.f).size<=1280)->(∀x∈xs,x.f<60)->xs.Pairwise (λx y=>x.k=2->y.k=2->x.f≠y.f)->(∀y∈st.U,∀x∈xs,x.k=2->∀j,j<20->y.1≠De 4 x.f j)->Q st->Q (Dq E C last st xs).2
 |_,_,[],_,_,_,_,_,h=>h
 |last,st,x::xs,hk,hz,hf,hp,hy,h=>by
  rw[CC]at hp;have l:Q (Dv E C last st x).2/\∀y∈(Dv E C last st x).2.U,y∈st.U\/(x.k=2/\∃j,j<20/\y.1=De 4 x.f j):=by unfold Dv;rcases hk x Θ with e|e|e;simp_all;rw[if_neg Ω,if_neg Ω];have hn:=PP (hz x Θ e);refine⟨Ge.bm g _ (λa b=>U0) _ (λz=>OZ _ z) st 0 _ (λy c j _ f=>?_) h,λy c=>?_⟩;rw[Bl]at f;exact hy y c x Θ e j Ω;rcases Ge.af E _ _ st 0 _ y c with q|⟨j,_,d,o⟩;exact .inl q;rw[Bl]at d;exact .inr ⟨e,j,Ω,o⟩;simp_all
  refine ZW g C _ _ xs Γ Γ Γ hp.2 (λy c z k m j hj e=>?_) l.1;rcases l.2 y c with q|⟨n,i,hi,d⟩;grind;have h1:=hf x Θ;have f:=hf z (AO _ k);exact hp.1 z k n m (R4 Ω Ω Ω Ω (d.r.M e))
theorem Zu{E:Ge}{Q:Pl->Prop}(c:∀st r s,s.size=64->(∀y∈st.U,y.1≠r)->Q st->Q (E.put st r s).2):∀(d below:Nat) (st:Pl) (s:By),Iz d below st s->Q st->Q (DU E d below st s).2
 |0,_,_,_,_,h=>h
 |d+1,below,st,s,hi,h=>by unfold DU;split;rename_i i;obtain⟨d',e,f,_⟩:=hi.next i E;cases e;have hb:=hi.bd;have aa:=hi.n1;refine Zu c d _ _ _ f (Ge.bm c _ (λa b=>U0) _ (by grind [UW]) _ _ _ (λy k j _ g=>?_) h);rw[Bl]at g;exact hi.pk.fresh Ω y k j Ω;omega
theorem GV.hx(h:GV C L):L.Pairwise (λx y=>x.k=2->y.k=2->x.f≠y.f):=by rw[A1];intro i j c e d a b;exact h.fresh i j _ _ d (Ab c) (Ab e) a b
theorem Znu{Q:Pl->Prop}(f:∀st r s,s.size=64->(∀y∈st.U,y.1≠r)->Q st->Q (E.put st r s).2)(c:GV C L)(d:Nat)(k:d<=1536)(h:Q ⟨d,[],[]⟩):Q (JK E C ⟨d,[],[]⟩ L).2:=by
 obtain⟨t1,t2,t3,t4,o⟩:=UO E C ⟨#[]⟩ ⟨d,[],[]⟩ L (λz g=>⟨c.c7 z g,c.size z g,c.a8 z g⟩);have ab:=c.len;refine Zu f _ _ _ _ (YX c E _ rfl rfl k) (Ge.bm f _ (λa b=>U0) _ (by grind [UW]) _ _ _ (λy n j _ l e=>?_) (ZW f C ⟨#[]⟩ _ L c.a8 c.size c.num c.hx Γ h));rw[Bl,Aj]at l;have aa:j<600:=by have:(⟨#[0]⟩:By).size=1:=rfl;omega
 rcases o y n with q|⟨x,m,_,i,hi,q⟩;grind;have hf:=c.num x m;have:=O7 (kk':=3) Ω Ω Ω Ω (q.r.M e);omega
structure Gy(s:KS):Prop where
 ok:H3 s
 hp:∀x∈s.es,x.2.toNat/16=s.tp/16->x.2.toNat<=s.tp
 inj:∀x∈s.es,∀y∈s.es,x.2=y.2->x=y
 ic:0<Dl s.es (s.tp/16)
 e:512<=D3 (Dl s.es) 96
 lo:∀x∈s.es,16<=x.2.toNat
 tp:15<=s.tp
theorem Gy.free(h:Gy s):512<=16*JC (Dl s.es) (s.tp/16) 96:=by rw[Zpr _ (Sg _) _ (by have:=h.ok.tp;omega) h.ic];exact h.e
theorem PQ{a:LI}{x:Int×Int}(h:x∈a):0<Dl a (x.2.toNat/16):=by grind [Dl,List.countP_pos_iff]
theorem RI.bg(b:Gy s)(h:RI (Dl s.es) s.tp j o N)(c:p∈N)(r:Int):(r,(p:Int))∉s.es:=λa=>by obtain⟨m1,d⟩:=h.mem p c;rcases d with⟨q1,e,_⟩|⟨_,e,_⟩;have:=b.hp _ a (by grind [Int.toNat_natCast,Qh]);omega;have:=PQ a;grind
structure PI(s:KS)(st:Pl):Prop where
 ri:∃j o,RI (Dl s.es) s.tp j o (st.ps.map (·.1))/\st.hd=16*((s.tp/16+j)%96)+o
 mem:∀y∈st.U,y.2∈st.ps.map (·.1)\/((y.1:Int),(y.2:Int))∈s.es
 nd:(st.U.map (·.2)).Nodup
 le:st.ps.length<=st.U.length
 e9:(st.U.map (·.1)).Nodup
theorem PI.put(f:Gy s){cl:Bool}(h:PI s st)(hl:st.U.length<512)(r:Nat)(b:By)(A:∀y∈st.U,y.1≠r):PI s ((Do s.es cl s.tp s.D).put st r b).2:=by
 obtain⟨j,o,l,w⟩:=h.ri;have t:∀q:Nat,((st.U++[(r,q)]).map (λy:Nat×Nat=>y.1)).Nodup:=λq=>by rw[AE,CZ];refine⟨h.e9,Θ,λa g b d e=>?_⟩;obtain⟨y,c,rfl⟩:=AB.1 g;simp only[A6,CF,Ax]at d;exact A y c (e.M d)
 unfold Ge.put;split;rename_i q i;have n:((r:Int),(q:Int))∈s.es:=by unfold Ge.aj at i;split at i;rename_i q' z;split at i;cases i;exact((f.ok.bk cl).a7 z).1;simp_all;simp_all
 refine⟨Γ,λy c=>?_,?_,by rw[Ah];have:=h.le;grind,t q⟩;rcases Al.1 c with e|e;exact h.mem y e;simp_all;rw[AE,CZ];refine⟨h.nd,Θ,λa g b d e=>?_⟩;obtain⟨y,c,rfl⟩:=AB.1 g;simp only[A6,CF,Ax]at d;rw[d]at e;rcases h.mem y c with m|m;rw[e]at m;exact l.bg f m _ n;rw[e]at m;have:=f.inj _ m _ n rfl;grind;obtain⟨u,v,k,p⟩:=l.next f.ok.tp (by rw[AT];have:=h.le;have:=f.free;omega);rw[<-w]at k p;have x:(st.ps++[(D5 (Dl s.es) 96 st.hd%1536,b)]).map (·.1)=st.ps.map (·.1)++[D5 (Dl s.es) 96 st.hd%1536]:=Ξ;refine⟨⟨u,v,?_,p⟩,λy c=>?_,?_,?_,t _⟩;show RI (Dl s.es) s.tp u v ((st.ps++[(D5 (Dl s.es) 96 st.hd%1536,b)]).map (·.1));simp_all;show y.2∈(st.ps++[(D5 (Dl s.es) 96 st.hd%1536,b)]).map (·.1)\/_;rw[x];rcases Al.1 c with e|e;exact(h.mem y e).imp Γ id;rw[Ax.1 e];exact .inl (Cg _ (Ax.2 rfl));show((st.U++[(r,D5 (Dl s.es) 96 st.hd%1536)]).map (·.2)).Nodup;rw[AE,CZ];refine⟨h.nd,Θ,λa g b d e=>?_⟩;obtain⟨y,c,rfl⟩:=AB.1 g;simp only[A6,CF,Ax]at d;rw[d]at e;rcases h.mem y c with m|m;rw[e]at m;have:=k.ha;grind;exact k.bg f Γ _ m;have:=h.le;simp_all
theorem PI.all(a:Gy s)(cl:Bool)(d:GV C L)(c:(Dn s cl C L).2.U.length<=512):PI s (Dn s cl C L).2:=by have e:=a.ok.tp;refine Znu (Q:=λst=>st.U.length<=512->PI s st) (λst r b hb hr h aa=>?_) d _ Ω (λ_=>?_) c;grind [Ge.a6,List.length_append,List.length_singleton,put];exact⟨⟨0,s.tp%16+1,RI.start _ _ e,Γ⟩,Γ,Eg,Aa _,Eg⟩
theorem T4(E:Ge)(fn:Nat)(d:By):∀(st:Pl) (i:Nat) (xs:List Nat),Kf E fn d st i xs=Kr E (De 4 fn) (GN d) st i xs
 |_,_,[]=>rfl
 |st,i,x::xs=>by show D7 _ _++Kf E fn d _ (i+1) xs=D7 _ _++Kr E _ _ _ (i+1) xs;rw[T4 E fn d _ (i+1) xs]
def Gx(F st:Pl):Prop:=(∀y∈st.U,y∈F.U)/\∀x∈st.ps,x∈F.ps
theorem Ge.dy(E:Ge)(st:Pl)(r:Nat)(b:By):∀x∈st.ps,x∈(E.put st r b).2.ps:=by grind [Ge.put,List.mem_append_left]
theorem Gx.put{b:By}(h:Gx F (E.put st r b).2):Gx F st:=
 ⟨λy hy=>h.1 y (by grind [Ge.a6,List.mem_append_left]),λx a=>h.2 x (E.dy st r b x a)⟩
theorem Gx.U{E:Ge}{F:Pl}{R:Nat->Nat}{B:NB}:∀{st:Pl} {i:Nat} {xs:List Nat},Gx F (E.U R B st i xs)->Gx F st
 |_,_,[],h=>h
 |_,_,_::_,h=>Gx.put (Gx.U h)
theorem Gx.hn{a:By}{x:It}(h:Gx F (Dv E C a st x).2):Gx F st:=by grind [Dv,Gx.U]
theorem Gx.ad{E:Ge}{F:Pl}{C:NB}:∀{last:By} {st:Pl} {xs:List It},Gx F (Dq E C last st xs).2->Gx F st
 |_,_,[],h=>h
 |_,_,_::_,h=>Gx.hn (Gx.ad h)
theorem Gx.f6{E:Ge}{F:Pl}:∀{d below:Nat} {st:Pl} {s:By},Gx F (DU E d below st s).2->Gx F st
 |0,_,_,_,h=>h
 |d+1,below,st,s,h=>by unfold DU at h;split at h;exact Gx.U (Gx.f6 h);exact h
theorem Gx.row{b:UInt8}{a:Nat}{s:By}(h:Gx F (DG E b c a st s).2):Gx F st:=
 Gx.U h
def lk(h0:Nat)(st:Pl):Pl:=⟨h0,st.U,[]⟩
structure Hi(E E':Ge)(F:Pl):Prop where
 ix:∀y∈F.U,E'.at y.1=some y.2
 new:∀x∈F.ps,E'.D[x.1]?=some x.2
 hz:∀r q,E.at r=some q->E'.D[q]?=E.D[q]?
 cl:E'.cl=false
section
variable{E E':Ge}{F:Pl}
theorem Hi.put(K:Hi E E' F){b:By}(h:Gx F (E.put st r b).2)(c:Nat):E'.put (lk c st) r b=((E.put st r b).1,lk c (E.put st r b).2):=by
 have f:(r,(E.put st r b).1)∈F.U:=h.1 _ (by rw[Ge.a6];exact Cg _ (Ax.2 rfl));have d:E'.D[(E.put st r b).1]?=some b:=by
  cases hs:E.aj r b with
  |some q=>
   have a:(E.put st r b).1=q:=(by grind [Ge.put]);rw[a];unfold Ge.aj at hs;split at hs;rename_i q' g;split at hs;cases hs;rw[K.hz r q g];simp_all;simp_all;simp_all
  |none=>
   have a:E.put st r b=(D5 E.nd 96 st.hd%1536,⟨D5 E.nd 96 st.hd%1536+1,st.U++[(r,D5 E.nd 96 st.hd%1536)],st.ps++[(D5 E.nd 96 st.hd%1536,b)]⟩):=(by grind [Ge.put]);rw[a]at h ⊢;exact K.new _ (h.2 _ (Cg _ (Ax.2 rfl)))
 have aa:E'.aj r b=some (E.put st r b).1:=by unfold Ge.aj;rw[(K.ix _ f)];simp only;rw[if_pos ⟨d,λe=>by rw[K.cl]at e;grind⟩]
 show(match E'.aj r b with|some q=>_|none=>_)=_;grind [lk,Ge.a6]
theorem Hi.U(K:Hi E E' F)(R:Nat->Nat)(B:NB)(a:Nat):∀(st:Pl) (i:Nat) (xs:List Nat),Gx F (E.U R B st i xs)->E'.U R B (lk a st) i xs=lk a (E.U R B st i xs)/\Kr E' R B (lk a st) i xs=Kr E R B st i xs
 |_,_,[],_=>⟨rfl,rfl⟩
 |st,i,x::xs,h=>by have b:=K.put (Gx.U h) a;obtain⟨c,d⟩:=K.U R B a _ _ xs h;constructor;show E'.U R B (E'.put (lk a st) (R i) (B x)).2 (i+1) xs=_;rw[b];exact c;show D7 (E'.put (lk a st) (R i) (B x)).1 _++Kr E' R B (E'.put (lk a st) (R i) (B x)).2 (i+1) xs=_;rw[b];rw[d];rfl
theorem Hi.hn(K:Hi E E' F)(C:NB)(a:By)(b:Nat)(st:Pl)(x:It)(h:Gx F (Dv E C a st x).2):Dv E' C a (lk b st) x=((Dv E C a st x).1,lk b (Dv E C a st x).2):=by unfold Dv at h ⊢;split;rfl;rename_i c;rw[if_neg c]at h;split;rfl;rename_i d;rw[if_neg d]at h;obtain⟨g1,g2⟩:=K.U _ _ b st 0 _ h;grind [T4]
theorem Hi.ad(K:Hi E E' F)(C:NB)(a:Nat):∀(last:By) (st:Pl) (xs:List It),Gx F (Dq E C last st xs).2->Dq E' C last (lk a st) xs=((Dq E C last st xs).1,lk a (Dq E C last st xs).2)
 |_,_,[],_=>rfl
 |last,st,x::xs,h=>by show((Dv E' C last (lk a st) x).1++(Dq E' C (jn x.ns) (Dv E' C last (lk a st) x).2 xs).1,(Dq E' C (jn x.ns) (Dv E' C last (lk a st) x).2 xs).2)=_;rw[(K.hn C last a st x (Gx.ad h))];rw[(K.ad C a _ _ xs h)];rfl
theorem Hi.row(K:Hi E E' F)(b:UInt8)(c a:Nat)(d:Nat)(st:Pl)(s:By)(h:Gx F (DG E b c a st s).2):DG E' b c a (lk d st) s=((DG E b c a st s).1,lk d (DG E b c a st s).2):=by obtain⟨g1,g2⟩:=K.U _ _ d st 0 _ h;grind [DG]
theorem Hi.f6(K:Hi E E' F)(a:Nat):∀(d below:Nat) (st:Pl) (s:By),Gx F (DU E d below st s).2->DU E' d below (lk a st) s=((DU E d below st s).1,lk a (DU E d below st s).2)
 |0,_,_,_,_=>rfl
 |d+1,below,st,s,h=>by unfold DU at h ⊢;split;rename_i b;rw[if_pos b]at h;rw[(K.row 2 60 below a st s (Gx.f6 h))];exact K.f6 a d _ _ _ h;rfl
end
theorem Hi.cw{b:Ge}(K:Hi E b F)(C:NB)(a:Nat)(st:Pl)(L:List It)(h:Gx F (JK E C st L).2):JK b C (lk a st) L=((JK E C st L).1,lk a (JK E C st L).2):=by
 obtain⟨T,f⟩:=ex (Dq E C ⟨#[]⟩ st L);obtain⟨R,c⟩:=ex (DG E 3 63 0 T.2 (T.1++⟨#[0]⟩));have e:JK E C st L=DU E 8 1 R.2 R.1:=by rw[c,f];rfl
 rw[e]at h ⊢;have d:=Gx.f6 h;have k:Gx F T.2:=by rw[c]at d;exact Gx.row d
 have i:=K.ad C a _ st L (by rw[<-f];exact k);rw[<-f]at i;have g:=K.row 3 63 0 a T.2 (T.1++⟨#[0]⟩) (by rw[<-c];exact d);rw[<-c]at g;have j:JK b C (lk a st) L=DU b 8 1 (lk a R.2) R.1:=by unfold JK;rw[i];show DU b 8 1 (DG b 3 63 0 (lk a T.2) (T.1++⟨#[0]⟩)).2 (DG b 3 63 0 (lk a T.2) (T.1++⟨#[0]⟩)).1=_;rw[g]
 rw[j];exact K.f6 a 8 1 _ _ h
theorem U8:∀(qs:LB) (D:LY) (p:Nat),p∉qs.map (·.1)->(Jd D qs)[p]?=D[p]?
 |[],_,_,_=>rfl
 |x::qs,D,p,h=>by rw[A6,AM,not_or]at h;show(Jd (D.set x.1 x.2) qs)[p]? = _;rw[U8 qs _ p h.2,A3 (λe=>h.1 e.r)]
theorem Pb:∀(qs:LB) (D:LY),(Jd D qs).length=D.length
 |[],_=>rfl
 |x::qs,D=>by show(Jd (D.set x.1 x.2) qs).length=_;rw[Pb qs,B9]
theorem Y5:∀(qs:LB) (D:LY),(qs.map (·.1)).Nodup->(∀x∈qs,x.1<D.length)->∀x∈qs,(Jd D qs)[x.1]?=some x.2
 |[],_,_,_,x,a=>by cases a
 |y::qs,D,hn,hl,x,a=>by rw[A6,Cf]at hn;show(Jd (D.set y.1 y.2) qs)[x.1]? = _;rcases AM.1 a with rfl|a;rw[U8 qs _ _ hn.1,Cr (hl _ Θ)];exact Y5 qs _ hn.2 (λz b=>by rw[B9];exact hl z (AO _ b)) x a
structure Gw(s:KS)(C:NB)(L:List It):Prop where
 ps:(Dn s false C L).2.ps=[]
 es:Hr (Dn s false C L).2.U s.es
 tp:GK (Dn s false C L).1=s.tp
 tx:GQ (Dn s false C L).1=s.tx
theorem Hr.at{b:List (Nat×Nat)}{a:LI}(h:Hr b a)(f:(b.map (·.1)).Nodup)(cl:Bool)(i:Nat)(D:LY){y:Nat×Nat}(c:y∈b):(Do a cl i D).at y.1=some y.2:=by
 unfold Ge.at;cases hf:a.find? (λx=>x.1==(y.1:Int)) with
 |none=>exact absurd ((h.2.2 _).2 ⟨y,c,rfl⟩) (λe=>by have:=Ea.1 hf _ e;simp at this)
 |some z=>
  show(a.find? (λx=>x.1==(y.1:Int))).map _=_;rw[hf];have d:=List.find?_some hf;obtain⟨u,g,rfl⟩:=(h.2.2 z).1 (EZ hf);simp only[ET]at d;have:=Kz f (by exact g) (by rw[show u.1=y.1 by omega];exact c);simp[this]
theorem Gw.cw{mf:Nat}{a:KS}(b:Gy s)(t:GV C L){cl:Bool}(g:DK mf s C L=Dn s cl C L)(G:(Dn s cl C L).2.U.length<=512)(l:Hr (DK mf s C L).2.U a.es)(w:a.tp=GK (DK mf s C L).1)(A:a.tx=GQ (DK mf s C L).1)(B:a.D=(Jd s.D (DK mf s C L).2.ps).set ((s.tn+1)%2) (Ha (s.tn+1) a.tp a.tx)):
  Gw a C L/\(Dn a false C L).1=(DK mf s C L).1/\(Dn a false C L).2.U=(DK mf s C L).2.U:=by
 have d:=PI.all b cl t G;have k:=UA t _ (b.ok.bk cl) (s.tp+1) (by have:=b.ok.tp;omega);change M7 (Dn s cl C L) at k;rw[<-g]at d k;obtain⟨j,o,i,_⟩:=d.ri;have E:∀x∈(DK mf s C L).2.ps,16<=x.1:=λx f=>by obtain⟨m1,K⟩:=i.mem _ (AB.2 ⟨x,f,rfl⟩);have aa:=b.tp;rcases K with⟨_,q,_⟩|⟨_,q,_⟩;omega;rcases AD x.1 16 with e|e;have v:x.1/16=0:=Ω;rw[v]at q;have hn:=Sg s.es 0;unfold Dl at q;simp at q;omega;exact e
 have u:∀p,16<=p->a.D[p]?=(Jd s.D (DK mf s C L).2.ps)[p]? := λp d=>by rw[B,A3 Ω]
 have D:Hi (Do s.es cl s.tp s.D) (Do a.es false a.tp a.D) (DK mf s C L).2:=by refine⟨λy I=>l.at d.e9 false _ _ I,λx f=>?_,λr q H=>?_,rfl⟩;show a.D[x.1]? = _;rw[u _ (E x f)];exact Y5 _ _ i.ha (λz J=>by rw[b.ok.dl];exact(k.pl.2 z J).1) x f;show a.D[q]?=s.D[q]?;have n:=((b.ok.bk cl).a7 H).1;have m:=b.lo _ n;simp only[Bf]at m;rw[u q m,U8 _ _ _ (λe=>i.bg b e _ n)]
 have F:=D.cw C (a.tp+1) _ L (by show Gx _ (Dn s cl C L).2;rw[<-g];exact⟨λ_ h=>h,λ_ h=>h⟩);have c:Dn a false C L=((DK mf s C L).1,lk (a.tp+1) (DK mf s C L).2):=by rw[g];exact F
 refine⟨⟨by rw[c];rfl,by rw[c];exact l,by rw[c];exact w.r,by rw[c];exact A.r⟩,by rw[c],by rw[c];rfl⟩
theorem Lz : (prog.fieldsOf 207).toList.map (λf => (f.name, f.type, f.offset)) = [("Place", 3, 0), ("Block", 188, 1)]:=by kernel_rfl
theorem ZsO:prog.underlying 207=some (.struct (prog.fieldsOf 207)):=Φ
theorem ZtM:prog.stoodInHeld 207=false:=Φ
theorem ZrB:prog.eqGuardType prog.depth 207=false:=Φ
theorem NX(w:World)(a:Array Value)(k:Nat)(v:Value)(h:a[k]?=some v):(part 3 a k).run prog w=.ok v w:=by simp_all[part,isAgg,run_underlying,underlying3]
theorem XS(w:World)(p:Nat)(s:By)(a:s.size=64):(part 188 (Gz p s).toArray 1).run prog w=.ok (DC s) w:=by
 obtain⟨i0,aa,ab,ac,ad⟩:=Bk Rf;have e:(Gz p s).toArray.extract 1 (1+64)=(Dd s).toArray:=by apply Array.ext';simp only[Array.toList_extract,List.extract_eq_take_drop];show List.take (1+64-1) (List.drop 1 (dI (p)::Dd s))=Dd s;rw[Fh,Cs,Ak (by rw[Dh,a];decide)]
 simp_all[part,isAgg,run_underlying,sizeOf,typeInfo,DC]
theorem N7{α : Type}{l:List α}(h:l.length=2):∃a b,l=[a,b]:=by
 match l,h with
 |[a,b],_=>simp_all
theorem SI(w : World)(d : Nat)(xs ys : Array Value)(f0 f1 : Field)(n0 : f0.name≠ "_")(n1 : f1.name≠ "_")(u0 u1 v0 v1 : Value)(r0 r1 : Bool)(hx0:(part f0.type xs f0.offset).run P w=.ok u0 w)(hy0:(part f0.type ys f0.offset).run P w=.ok v0 w)(e0:(Op.equalIn d f0.type u0 v0).run P w=.ok r0 w)(hx1:(part f1.type xs f1.offset).run P w=.ok u1 w)(hy1:(part f1.type ys f1.offset).run P w=.ok v1 w)(e1:(Op.equalIn d f1.type u1 v1).run P w=.ok r1 w):
  (Op.eqFields d xs ys [f0,f1]).run P w=.ok (r0 && r1) w:=by
 unfold Op.eqFields;rw[if_pos n0];simp only[Cq,hx0,hy0,e0,Cb];cases r0;simp;simp only[Bool.not_true,Bool.false_eq_true,ES];unfold Op.eqFields;rw[if_pos n1];simp only[Cq,hx1,hy1,e1,Cb];cases r1;simp;rfl
theorem MZ(w:World)(a b:Nat)(s t:By)(l:s.size=64)(m:t.size=64):(binOp .eql 207 (IF a s) (IF b t)).run prog w=.ok (dV (decide (a=b/\s=t))) w:=by
 obtain⟨fs,k⟩:=ex ((prog.fieldsOf 207).toList);have d:=Lz;rw[<-k]at d;obtain⟨i,j,e⟩:=N7 (show fs.length=2 by have:=Cp List.length d;grind);rw[e]at d;simp only[A6,CF,Fu,Cu,and_true]at d;obtain⟨⟨n0,t0,f⟩,⟨n1,t1,g⟩⟩:=d;have p0:∀(c:Nat) (u:By),(part 3 (Gz c u).toArray 0).run prog w=.ok (dI (c)) w:=by grind [NX,Gz]
 have i0:(Op.equalIn 9999 3 (dI (a)) (dI (b))).run prog w=.ok (((a:Nat))==((b:Nat):Int)) w:=by grind [run_equalIn_int,underlying3]
 have h:(Op.equalIn 9999 188 (DC s) (DC t)).run prog w=.ok (decide (s=t)) w:=by rw[RJ,RJ,run_equalIn_bytes w 9997 188 5 64 P2 underlying5 (λw=>Φ) s.data.toList t.data.toList Ξ Ξ];congr 1;rw[Em,ET,An];grind [WideShapes.bytes_inj]
 have n:=XS w a s l;have o:=XS w b t m;have aa:(Op.eqFields 9999 (Gz a s).toArray (Gz b t).toArray fs).run prog w=.ok (decide (a=b/\s=t)) w:=by rw[e,SI w 9999 _ _ i j Ξ Ξ _ _ _ _ _ _ (by rw[t0,f];rfl) (by rw[t0,f];rfl) (by rw[t0];rfl) (by rw[t1,g];exact n) (by rw[t1,g];exact o) (by rw[t1];exact h)];grind
 have h1:=run_eql_struct (P:=prog) w 207 (Gz a s).toArray (Gz b t).toArray;have h2:=run_equalIn_struct (P:=prog) w 9999 207 (Gz a s).toArray (Gz b t).toArray ZsO ZtM;simp_all[IF]
def LM(s:By):By:=s.extract 5 64
def Lp(s:By):Nat:=Dx (Dg (LM s) 8).data.toList
def IR(s:By):By:=(LM s).extract 8 (LM s).size
theorem ckT_lt(s:By):Lp s<18446744073709551616:=by have:=Uw (Dg (LM s) 8).data.toList;rw[AF,show(Dg (LM s) 8).data.size=8 from Jr _ 8]at this;exact this
theorem XA(s:By):GQ s<18446744073709551616:=by have:=Uw (Dg (s.extract 2 s.size) 8).data.toList;rw[AF,show(Dg (s.extract 2 s.size) 8).data.size=8 from Jr _ 8]at this;exact this
def QY(i:Nat)(s:By):Bool:=decide (Lp s%2=i/\Ha (Lp s) (GK (IR s)) (GQ (IR s))=s)
def VL(w:World)(i:Nat)(s:By)(e:Ending)(w':World):Prop:=
 e=dR (.tuple #[.agg #[.int .u64 (Lp s:Nat),dI (GK (IR s):Nat),.int .u64 (GQ (IR s):Nat)],dV (QY i s)])/\Bw w w'
theorem ZgJ(w:World)(db:Nat)(vf vw ve:Value)(a:OA)(l c:Nat)(D:LY)(h:Jg w db vf (dT a l c) vw ve D)(i:Nat)(s:By)(hi:D[i]?=some s):
  Cl 201 #[dP db,dI i] w (VL w i s):=by
 have P:=h.2.1.2 s (Ai hi);obtain⟨W1,e1,x1,k1,s1,C⟩:=Df w [.int .u64 0,dI 0,.int .u64 0] 191;obtain⟨T,G⟩:=ex (Lp s);obtain⟨f,F⟩:=ex (GK (IR s));obtain⟨g,J⟩:=ex (GQ (IR s));obtain⟨VB,aa⟩:=ex (DC s);obtain⟨VK,ac⟩:=ex (IF (T%2) (Ha T f g));obtain⟨VI,ab⟩:=ex (IF i s);obtain⟨W,ag⟩:=ex (QY i s);have aB:Hid (∀V x y,(eqGuard .eql 207 x y VK VI).run prog V=.ok () V):=λV x y=>by rw[ac,ab];exact run_eqGuard_agg V _ 207 x y _ _ ZrB
 have aC:Hid (∀V,(binOp .eql 207 VK VI).run prog V=.ok (dV W) V):=λV=>by rw[ac,ab,MZ V _ _ _ _ (OQ _ _ _) P,ag,G,F,J];rfl
 have az:Hid (prog.built 207 [(0,dI (i)),(1,VB)]=some (Gz i s).toArray):=by rw[aa];exact TR i s P
 have aG:=Db ab;have am:=Db aa;have HA:Hid (Cl 239 #[dP db,dI i] W1 λe X=>e=dR VB/\∃Y Z,X.alloc (.cells (Dd (Dj 64)).toArray 188)=Y/\Gb Y X.heap.size 188 (Dd (Dj 64))/\Y.setRow X.heap.size (Dd s).toArray=Z/\∃U,Z.alloc (.cells #[dT (some (dQ X.heap.size 5)) 59 59] 287)=U/\
   Hid (Cl 240 #[dP Z.heap.size,dI 8] U λe A=>e=dR (.int .u64 (T))/\Hid (Cl 238 #[dP Z.heap.size] A λe d=>e=dR (.agg #[dI (f),.int .u64 (g)])/\∃q,d.alloc (.cells #[.int .u64 (T),dI (f),.int .u64 (g)] 191)=q/\
    q.cell? (dQ d.heap.size 0)=some (.int .u64 (T))/\q.cell? (dQ d.heap.size 1)=some (dI (f))/\q.cell? (dQ d.heap.size 2)=some (.int .u64 (g))/\q.rangeAt X.heap.size 0 (Dd s)/\
    Hid (Cl 160 #[.agg #[.int .u64 (T),dI (f),.int .u64 (g)]] q.drew λe m=>e=dR VK/\(m.cell? (dQ d.heap.size 0)=some (.int .u64 (T))/\m.cell? (dQ d.heap.size 1)=some (dI (f))/\m.cell? (dQ d.heap.size 2)=some (.int .u64 (g))/\m.rangeAt X.heap.size 0 (Dd s))/\Gb m w.heap.size 191 [.int .u64 0,dI 0,.int .u64 0]/\Hid (Bw w m)/\Hid (w.heap.size≠d.heap.size/\w.heap.size≠X.heap.size))))):=by
  apply(TB W1 db vf vw ve a l c D ⟨k1 _ _ _ h.1,⟨h.2.1.1.kept (λk O _=>C.block k O),h.2.1.2⟩,h.2.2⟩ i s hi).Q;rintro e X⟨rfl,I⟩;obtain⟨Y,eY,R,kY,sY,bY⟩:=Df X (Dd (Dj 64)) 188;have aT:=I.size;have xZ:Gb (Y.setRow X.heap.size (Dd s).toArray) X.heap.size 188 (Dd s):=Bo Y _ _ _ 188 _ R;have bZ:Bw X (Y.setRow X.heap.size (Dd s).toArray):=bY.M ⟨rfl,rfl,rfl,Θ,λj hj=>Bc Y _ j _ Ω⟩;obtain⟨Z,B⟩:∃Z,Y.setRow X.heap.size (Dd s).toArray=Z:=⟨_,rfl⟩;rw[B]at xZ bZ;have sZ:Z.heap.size=X.heap.size+1:=by rw[<-B];simp[World.setRow,sY]
  obtain⟨U,eU,xU,kU,sU,bU⟩:=Df Z [dT (some (dQ X.heap.size 5)) 59 59] 287;have y1:Gb U w.heap.size 191 [.int .u64 0,dI 0,.int .u64 0]:=(bU.block _ Ω).M ((bZ.block _ Ω).M ((I.block _ x1.lt).M x1));have yB:=kU _ _ _ xZ;have aM:GL U (some (dQ X.heap.size 5)) 59 59 (LM s):=by refine⟨by unfold LM;rw[Af,P];rfl,λe=>(by cases e),λj v n=>⟨_,rfl,?_⟩⟩;rw[AG,yB.J];unfold LM at n;rw[KC,AZ]at n;split at n;rw[BF]at n;exact n;cases n
  have au:∀x,some ((dQ X.heap.size 5):Addr)=some x->x.block≠Z.heap.size:=λx e=>by cases e;show X.heap.size≠Z.heap.size;omega
  refine⟨by rw[aa],Y,Z,eY,R,B,U,eU,?_⟩;apply(Sh U _ _ 59 59 _ xU aM (Aa _) au 8 Ω Ω).Q;rintro e A⟨rfl,a2,c2,q1,q2,q3,q4,t⟩;refine⟨by rw[G];rfl,?_⟩;have aU:=t.size;apply(RC A _ a2 _ c2 _ q1 q2 q3 (λx e=>by obtain⟨y,e2,e3⟩:=q4 x e;rw[<-e3];exact au y e2) Ω).Q;rintro e d⟨rfl,a3,c3,r1,r2,r3,r4,u⟩;obtain⟨q,aK,Q,aw,aW,aJ⟩:=Df d [.int .u64 (T),dI (f),.int .u64 (g)] 191;have aV:=u.size;have aO:=yB.e t (show ¬X.heap.size=Z.heap.size by omega);have ai:=aw _ _ _ (aO.e u (show ¬X.heap.size=Z.heap.size by omega));have aN:=y1.e t (show ¬w.heap.size=Z.heap.size by omega);have ax:=aw _ _ _ (aN.e u (show ¬w.heap.size=Z.heap.size by omega));have av:Bw w q:=by have h1:Below w.heap.size U A:=⟨t.os,t.tape,t.output,t.size,λk O=>t.block k Ω Ω⟩;have h2:Below w.heap.size A d:=⟨u.os,u.tape,u.output,u.size,λk O=>u.block k Ω Ω⟩;exact(C.M ((I.Q Ω).M ((bZ.Q Ω).M (bU.Q Ω)))).M (h1.M (h2.M (aJ.Q Ω)))
  refine⟨by rw[F,J];rfl,q,aK,(Q.J 0).M rfl,(Q.J 1).M rfl,(Q.J 2).M rfl,λj v n=>by rw[ai.J,Av];exact n,?_⟩;apply(VC _ T f g (by rw[G];exact ckT_lt s) (by rw[F];exact Te _) (by rw[J];exact XA _)).Q;rintro e m⟨rfl,L⟩;have ad:Bw q m:=⟨L.os,L.tape,L.output,L.size,L.block⟩;have z3:Gb m d.heap.size 191 _:=(ad.block _ Q.lt).M Q;have zB:Gb m X.heap.size 188 (Dd s):=(ad.block _ ai.lt).M ai;exact⟨by rw[ac],⟨(z3.J 0).M rfl,(z3.J 1).M rfl,(z3.J 2).M rfl,λj v n=>by rw[zB.J,Av];exact n⟩,(ad.block _ ax.lt).M ax,av.M (ad.Q av.size),Ω,Ω⟩
 have ap:(Dd s).length=64:=by rw[Dh,P]
 have af:=Db ap;have aA:=Db e1;have ak:Hid (VL w i s=λe w'=>e=dR (.tuple #[.agg #[.int .u64 (T),dI (f),.int .u64 (g)],dV W])/\Bw w w'):=by show _=_;unfold VL;rw[G,F,J,ag]
 rw[Da ak];have aP:=Db (TQ (T:Nat) (f:Nat) (g));clear ak e1 x1 k1 s1 C h hi G F J aa ac ab ag P ap;go_enter func201,ntmps201;go_upto_region 1 with fail;rw[Da aA];go_upto_region 2 with(first|(go_at_call 239;apply(Da HA).Q;rintro e X⟨rfl,Y,Z,hY,R,B,U,hU,HB⟩;have HY:=Db hY;have aI:=Db R;have HZ:=Db B;have HU:=Db hU;clear hY R B hU)|(refine JG rfl 188 rfl Ky ?_;rw[Da HY])|(refine Bh rfl 188 _ _ rfl _ (Dd s).toArray rfl (Da am) 188 _ (Da aI) (by rw[D4];simp[Da af]) (by simp[Da af,Dh,JA]) (KI _) ?_;rw[Da HZ]));go_upto_region 3 with fail;rw[Da HU];go_upto_region 4 with(first|(go_at_call 240;apply(Da HB).Q;rintro e A⟨rfl,HC⟩)|(go_at_call 238;apply(Da HC).Q;rintro e d⟨rfl,q,an,u0,u1,u2,ur,HP⟩;have aD:=Db an;have aE:=Db ur;clear an ur));rw[Da aD];refine Az (S:=λV=>V.cell? _=some (.int .u64 (T:Nat))/\V.cell? (dQ d.heap.size 1)=some (dI (f:Nat))/\V.cell? (dQ d.heap.size 2)=some (.int .u64 (g:Nat))/\V.rangeAt X.heap.size 0 (Dd s)) Φ ⟨u0,u1,u2,Da aE⟩ (λaS=>?_);refine tk 0 ?_;refine tk 1 ?_;refine tk 3 ?_;refine A4 (i:=4) (v:=VB) rfl Φ Φ Φ (λ_ _ _ h=>h) (by rw[Da am];exact CW (by rfl) 188 _ rfl X.heap.size 0 rfl (Dd s) _ (λX I=>I.2.2.2) Kv rfl (by rw[D4,Da af])) Ψ ?_;try simp only[pE]
 refine A4 (i:=5) (v:=VI) rfl Φ Φ Φ (λ_ _ _ h=>h) (Or.inl ⟨by rfl,λV _=>by rw[Da aG];exact Zhd V 207 0 1 _ _ rfl (dI (i:Nat)) VB rfl rfl (Da az)⟩) Ψ ?_;try simp only[pE]
 refine rk 2 (λK E=>?_);go_simp;go_at_call 160;apply(Da HP).Q;rintro e m⟨rfl,N,z,aj,al⟩;go_wp2_with fail;refine E.out _ _ N (λaQ=>?_);clear E K;try simp only[pE]
 refine A4 (i:=6) (v:=dV W) rfl Φ Φ Φ (λ_ _ _ h=>h) (Or.inl ⟨by rfl,λV _=>VX V .eql 207 _ _ _ rfl VK VI rfl rfl (Da aB V _ _) (Da aC V)⟩) Ψ ?_;try simp only[pE]
 obtain⟨ae,ar⟩:=Da al;obtain⟨b0,C,b2⟩:=z.c2;obtain⟨g0,g1,g2⟩:=z.f2;obtain⟨r,H⟩:∃V,((m.setCell (dQ w.heap.size 0) (.int .u64 (T:Nat))).setCell (dQ w.heap.size 1) (dI (f:Nat))).setCell (dQ w.heap.size 2) (.int .u64 (g:Nat))=V:=⟨_,rfl⟩;have x5:Gb r w.heap.size 191 [.int .u64 (T:Nat),dI (f:Nat),.int .u64 (g:Nat)]:=by rw[<-H];exact((z.set 0 (.int .u64 (T:Nat))).set 1 (dI (f:Nat))).set 2 (.int .u64 (g:Nat))
 have ao:Bw w r:=by rw[<-H];exact(((Da aj).setCell (p:=dQ w.heap.size 0) (Aa _) _).setCell (p:=dQ w.heap.size 1) (Aa _) _).setCell (p:=dQ w.heap.size 2) (Aa _) _
 have aq:Fr (λk=>k=w.heap.size) m r:=by rw[<-H];exact(((Fr.refl (λk=>k=w.heap.size) m).set (dQ w.heap.size 0) (.int .u64 (T:Nat)) rfl).set (dQ w.heap.size 1) (dI (f:Nat)) rfl).set (dQ w.heap.size 2) (.int .u64 (g:Nat)) rfl
 have M:∀(k o:Nat) (v:Value),k≠w.heap.size->m.cell? (dQ k o)=some v->r.cell? (dQ k o)=some v:=λk o v O n=>(AA (a:=dQ k o) (aq.block k (Ag _ _ n) O)).M n;have aL:r.cell? (dQ d.heap.size 0)=some (.int .u64 (T:Nat))/\r.cell? (dQ d.heap.size 1)=some (dI (f:Nat))/\r.cell? (dQ d.heap.size 2)=some (.int .u64 (g:Nat))/\r.rangeAt X.heap.size 0 (Dd s):=
  ⟨M _ _ _ ae.r N.1,M _ _ _ ae.r N.2.1,M _ _ _ ae.r N.2.2.1,λj v n=>M _ _ _ ar.r (N.2.2.2 j v n)⟩
 have aF:=Db H;have aH:=Db x5;have ay:=Db ao;clear H x5 ao aq M ae ar z aj al;refine rk 7 (λK E=>?_);go_simp;rw[Da aF];refine E.out _ _ aL (λaR=>?_);clear E K;try simp only[pE]
 refine tk 8 ?_;refine AL Φ ?_ _;clear b0 C b2 g0 g1 g2;go_wp2;have ah:=Da aH;exact Am (v:=.tuple #[.agg #[.int .u64 (T:Nat),dI (f:Nat),.int .u64 (g:Nat)],dV W]) (by simp[results,results201,go_sem,(ah.J 0),(ah.J 1),(ah.J 2)]) rfl ⟨rfl,Da ay⟩
def Qj(s0 s1:By):Option (Nat×Nat×Nat):=
 if QY 0 s0=true/\QY 1 s1=true then
  if Lp s0=(Lp s1+1)%18446744073709551616 then some (Lp s0,GK (IR s0),GQ (IR s0))
  else if Lp s1=(Lp s0+1)%18446744073709551616 then some (Lp s1,GK (IR s1),GQ (IR s1))
  else none
 else none
def K3(o:Option (Nat×Nat×Nat)):Value:=
 match o with
 |some (t,p,x) => .tuple #[.agg #[.int .u64 (t:Nat),dI (p:Nat),.int .u64 (x:Nat)],.bool true]
 |none => .tuple #[.agg #[.int .u64 0,dI 0,.int .u64 0],.bool false]
theorem Vh{t:TypeId}{a b c:Value}(h:Gb w g t [a,b,c])(x y z:Value):Gb (((w.setCell (dQ g 0) x).setCell (dQ g 1) y).setCell (dQ g 2) z) g t [x,y,z]:=((h.set 0 x).set 1 y).set 2 z
theorem Ph(h:Below n w w')(a:n<=g)(x y z:Value):Below n w (((w'.setCell (dQ g 0) x).setCell (dQ g 1) y).setCell (dQ g 2) z):=
 ((h.setCell a _).setCell a _).setCell a _
theorem ZiL(w:World)(s:Nat)(H vw G:Value)(a:OA)(l c:Nat)(D:LY)(h:Jg w s H (dT a l c) vw G D)(j m:By)(h0:D[0]?=some j)(h1:D[1]?=some m):
  Cl 135 #[dP s] w λe w'=>e=dR (K3 (Qj j m))/\Bw w w':=by
 obtain⟨N,e1,x1,k1,z1,O⟩:=Df w [.int .u64 0,dI 0,.int .u64 0] 191;have P:∀X,Bw w X->Jg X s H (dT a l c) vw G D:=λX hb=>⟨(hb.block _ h.1.lt).M h.1,⟨h.2.1.1.kept (λk hk _=>hb.block k hk),h.2.1.2⟩,h.2.2⟩;obtain⟨f,V⟩:=ex (Lp j);obtain⟨o,S⟩:=ex (GK (IR j));obtain⟨q,aa⟩:=ex (GQ (IR j));obtain⟨g,W⟩:=ex (Lp m);obtain⟨p,U⟩:=ex (GK (IR m));obtain⟨r,ab⟩:=ex (GQ (IR m));obtain⟨J,Q⟩:=ex (QY 0 j);obtain⟨K1,R⟩:=ex (QY 1 m);have HC:Hid (Cl 201 #[dP s,dI 0] N λe X=>e=dR (.tuple #[.agg #[.int .u64 (f),dI (o),.int .u64 (q)],dV J])/\∃Y,X.alloc (.cells #[.int .u64 (f),dI (o),.int .u64 (q)] 191)=Y/\
   Hid (Cl 201 #[dP s,dI 1] Y λe x=>e=dR (.tuple #[.agg #[.int .u64 (g),dI (p),.int .u64 (r)],dV K1])/\∃n,x.alloc (.cells #[.int .u64 (g),dI (p),.int .u64 (r)] 191)=n/\Gb n w.heap.size 191 [.int .u64 0,dI 0,.int .u64 0]/\Gb n X.heap.size 191 [.int .u64 (f),dI (o),.int .u64 (q)]/\Gb n x.heap.size 191 [.int .u64 (g),dI (p),.int .u64 (r)]/\Hid (Bw w n))):=by
  apply(ZgJ N s H vw G a l c D (P N O) 0 j h0).Q;rintro e X⟨rfl,Z⟩;obtain⟨Y,eY,xY,kY,sY,bY⟩:=Df X [.int .u64 (f),dI (o),.int .u64 (q)] 191;have au:=Z.size;have ah:=O.M (Z.Q Ω);have F:=ah.M (bY.Q ah.size);refine⟨by rw[V,S,aa,Q],Y,eY,?_⟩;apply(ZgJ Y s H vw G a l c D (P Y F) 1 m h1).Q;rintro e x⟨rfl,E⟩;obtain⟨n,al,aq,ai,av,ak⟩:=Df x [.int .u64 (g),dI (p),.int .u64 (r)] 191;have ar:=E.size;have y1:=kY _ _ _ ((Z.block _ x1.lt).M x1);refine⟨by rw[W,U,ab,R],n,al,ai _ _ _ ((E.block _ y1.lt).M y1),ai _ _ _ ((E.block _ xY.lt).M xY),aq,F.M ((E.Q F.size).M (ak.Q (by have:=F.size;omega)))⟩
 have B:Hid (Qj j m=if J=true/\K1=true then if f=(g+1)%18446744073709551616 then some (f,o,q) else if g=(f+1)%18446744073709551616 then some (g,p,r) else none else none):=by show Qj j m=_;unfold Qj;rw[V,S,aa,W,U,ab,Q,R]
 have ao:IntKind.u64.wrap ((f)+1)=(((f+1)%18446744073709551616:Nat)):=by simp[IntKind.wrap,IntKind.bits,IntKind.signed]
 have ap:IntKind.u64.wrap ((g)+1)=(((g+1)%18446744073709551616:Nat)):=by simp[IntKind.wrap,IntKind.bits,IntKind.signed]
 obtain⟨K,ae⟩:=ex ((f+1)%18446744073709551616);obtain⟨L,af⟩:=ex ((g+1)%18446744073709551616);rw[<-ae]at ao B;rw[<-af]at ap B;obtain⟨LV,C⟩:=ex (K3 (Qj j m));rw[<-C];rw[Da B]at C;have u:=Db C;have aj:=Db e1;clear C B ae af e1 x1 k1 z1 O P h h0 h1 V S aa W U ab Q R;go_enter func135,ntmps135;go_upto_region 1 with fail;rw[Da aj];go_upto_region 2 with(go_at_call 201;apply(Da HC).Q;rintro e X⟨rfl,Y,hY,ac⟩;have HY:=Db hY;clear hY);rw[Da HY];go_upto_region 3 with(go_at_call 201;apply(Da ac).Q;rintro e x⟨rfl,n,ag,i,r1,r2,t⟩;have ad:=Db ag;clear ag);rw[Da ad];obtain⟨a0,a1,a2⟩:=i.c2;obtain⟨f0,f1,f2⟩:=i.f2;obtain⟨c0,c1,c2⟩:=r1.c2;obtain⟨d0,d1,d2⟩:=r2.c2;clear HC ac HY ad;cases J
 .go_wp2;have d:=Vh i (.int .u64 0) (dI 0) (.int .u64 0);exact Am (v:=K3 none) (by simp[results,results135,go_sem,(d.J 0),(d.J 1),(d.J 2),K3]) rfl ⟨by rw[Da u];simp,Ph (Da t) (Aa _) _ _ _⟩
 .cases K1
  .go_wp2;have d:=Vh i (.int .u64 0) (dI 0) (.int .u64 0);exact Am (v:=K3 none) (by simp[results,results135,go_sem,(d.J 0),(d.J 1),(d.J 2),K3]) rfl ⟨by rw[Da u];simp,Ph (Da t) (Aa _) _ _ _⟩
  .by_cases y:f=L
   .have am:((f)==(L))=true:=(by rw[y];simp);have A:=Db y;clear y;go_wp2;have d:=Vh i (.int .u64 (f:Nat)) (dI (o:Nat)) (.int .u64 (q:Nat));exact Am (v:=K3 (some (f,o,q))) (by simp[results,results135,go_sem,(d.J 0),(d.J 1),(d.J 2),K3]) rfl ⟨by rw[Da u];simp[Da A],Ph (Da t) (Aa _) _ _ _⟩
   .have am:((f)==(L))=false:=(by rw[Bs];omega);have A:=Db y;clear y;by_cases z:g=K
    .have an:((g)==(K))=true:=(by rw[z];simp);have I:=Db z;clear z;go_wp2;have d:=Vh i (.int .u64 (g:Nat)) (dI (p:Nat)) (.int .u64 (r:Nat));exact Am (v:=K3 (some (g,p,r))) (by simp[results,results135,go_sem,(d.J 0),(d.J 1),(d.J 2),K3]) rfl ⟨by rw[Da u];simp[Da A,Da I],Ph (Da t) (Aa _) _ _ _⟩
    .have an:((g)==(K))=false:=(by rw[Bs];omega);have I:=Db z;clear z;go_wp2;have d:=Vh i (.int .u64 0) (dI 0) (.int .u64 0);exact Am (v:=K3 none) (by simp[results,results135,go_sem,(d.J 0),(d.J 1),(d.J 2),K3]) rfl ⟨by rw[Da u];simp[Da A,Da I],Ph (Da t) (Aa _) _ _ _⟩
theorem Zct{fn:Func}{p q:Tmp}{ty:TypeId}(h:fn.results = #[.cell p ty,.tmp q])(tmps:Array Value)(w:World)(g:Nat)(t:TypeId)(a:Array Value)(b:Nat×Nat)(d:TypeDesc)(hp:tmps.getD p undef=dP g)(e:w.heap[g]?=some (.cells a t b))(j:P.underlying ty=some d)(c:(match d with|.struct _|.array _ _=>true|_=>false)=true)(f:(P.info? ty).map (·.size)=some a.size):
  (results fn tmps).run P w=.ok (.tuple #[.agg a,tmps.getD q undef]) w:=by
 have i:tmps[p]?.getD undef=dP g:=Ξ;simp[results,h,i,asAddr,run_loadVar_row w g t ty a b d e j c f]
theorem ZsU(L a:Gf)(h:a.length=L.length):Gq L 0 a=a:=by grind [Gq]
def Zr6(w:World)(rb p:Nat)(L:Gf)(s:By)(e:Ending)(w':World):Prop:=
 e=dR (.tuple #[DC s,dV true])/\Gb w' rb 197 (L.set (4+p) (dV true))/\Fr (λk=>k=rb) w w'
theorem ZsQ(w:World)(b i:Nat)(L:Gf)(J:Gb w b 197 L)(ab:L[0]?=some (dP i))(vf vw ve:Value)(a:OA)(l c:Nat)(D:LY)(h:Jg w i vf (dT a l c) vw ve D)(ag:b≠i)(ah:¬Own (dT a l c) b)(p x:Nat)(aI:16<=p)(aJ:p<1536)(H:L[4+p]?=some (dV false))(s:By)(O:D[p]?=some s):
  Cl 241 #[dP b,.agg #[dI (p:Nat),.int .u64 (x:Nat)]] w (Zr6 w b p L s):=by
 have ai:=h.2.1.2 s (Ai O);obtain⟨E,e1,x1,k1,z1,b1⟩:=Df w [dI (p),.int .u64 (x)] 175;obtain⟨j,e2,R,Q,z2,b2⟩:=Df E (Dd (Dj 64)) 188;rw[z1]at R;have r:=b1.M (b2.Q Ω);have aK:=J.lt;have T:=Q _ _ _ x1;have U:=Q _ _ _ (k1 _ _ _ J);obtain⟨VB,I⟩:=ex (DC s);have W:Hid (∀f:World,f.heap=j.heap->f.os=j.os->f.tape=j.tape->f.output=j.output->f.cell? (dQ w.heap.size 0)=some (dI (p))/\f.cell? (dQ b (4+p))=some (dV false)/\f.frozen? (dQ b (4+p))=false/\∃d,f.setCell (dQ b (4+p)) (dV true)=d/\d.cell? (dQ w.heap.size 0)=some (dI (p))/\d.cell? (dQ b 0)=some (dP i)/\
   Hid (Cl 239 #[dP i,dI (p)] d.drew λe X=>e=dR VB/\X.cell? (dQ w.heap.size 0)=some (dI (p))/\X.cell? (dQ b 0)=some (dP i)/\Gb X (w.heap.size+1) 188 (Dd (Dj 64))/\∃Z,X.setRow (w.heap.size+1) (Dd s).toArray=Z/\Z.cell? (dQ w.heap.size 0)=some (dI (p))/\Z.cell? (dQ b 0)=some (dP i)/\Gb Z (w.heap.size+1) 188 (Dd s)/\Hid (Gb Z b 197 (L.set (4+p) (dV true))/\Fr (λk=>k=b) w Z))):=λf u ho ht hu=>by
  have N:Gb f b 197 L:=by unfold Gb;rw[u];exact U
  have ao:Gb f w.heap.size 175 [dI (p),.int .u64 (x)]:=by unfold Gb;rw[u];exact T
  have az:Gb f (w.heap.size+1) 188 (Dd (Dj 64)):=by unfold Gb;rw[u];exact R
  obtain⟨d,n⟩:∃X,f.setCell (dQ b (4+p)) (dV true)=X:=⟨_,rfl⟩;have t:Fr (λk=>k=b) w d:=by rw[<-n];exact Fr.set ⟨ho.M r.os,ht.M r.tape,hu.M r.output,by rw[u];exact r.size,λk A _=>by rw[u];exact r.block k A⟩ _ _ rfl
  have M:Gb d b 197 (L.set (4+p) (dV true)):=by rw[<-n];exact N.set _ _
  have P:Gb d w.heap.size 175 [dI (p:Nat),.int .u64 (x)]:=by rw[<-n];exact(Aw _ _ _ _ (show w.heap.size≠b by omega)).M ao
  have aj:Gb d (w.heap.size+1) 188 (Dd (Dj 64)):=by rw[<-n];exact(Aw _ _ _ _ (show w.heap.size+1≠b by omega)).M az
  have G:(L.set (4+p) (dV true))[0]?=some (dP i):=by rw[A3 Ω];exact ab
  have ad:Fr (λk=>k=b) w d.drew:=⟨t.os,t.tape,t.output,t.size,t.block⟩;refine⟨(ao.J 0).M rfl,(N.J _).M H,N.A _,d,n,(P.J 0).M rfl,(M.J 0).M G,?_⟩;apply(TB d.drew i vf vw ve a l c D ⟨h.1.e ad (λ(e:i=b)=>ag e.r),⟨h.2.1.1.e ad (λg hg (e:g=b)=>ah (by rw[<-e];exact hg)),h.2.1.2⟩,h.2.2⟩ p s O).Q;rintro e X⟨rfl,y⟩;have C:Bw d X:=⟨y.os,y.tape,y.output,y.size,y.block⟩;have ae:Gb X b 197 _:=(C.block _ M.lt).M M;have an:Gb X w.heap.size 175 _:=(C.block _ P.lt).M P;have ak:Gb X (w.heap.size+1) 188 _:=(C.block _ aj.lt).M aj;have so:∀k,k≠w.heap.size+1->(X.setRow (w.heap.size+1) (Dd s).toArray).heap[k]?=X.heap[k]? := λk A=>Bc X _ k _ A;have af:Gb (X.setRow (w.heap.size+1) (Dd s).toArray) b 197 _:=(so _ Ω).M ae;have aA:Gb (X.setRow (w.heap.size+1) (Dd s).toArray) w.heap.size 175 _:=(so _ Ω).M an;refine⟨by rw[I],(an.J 0).M rfl,(ae.J 0).M G,ak,_,rfl,(aA.J 0).M rfl,(af.J 0).M G,Bo X _ _ _ 188 _ ak,af,?_⟩;have z:Fr (λk=>k=b) w X:=t.then (Fr.S (X:=λ_=>False) C) (λ_ _ e=>e.elim);exact⟨z.os,z.tape,z.output,by simp[World.setRow];exact z.size,λk A ay=>(so k Ω).M (z.block k A ay)⟩
 have F:j.cell? (dQ w.heap.size 0)=some (dI (p:Nat)):=(T.J 0).M rfl;have ct:j.cell? (dQ b (4+p))=some (dV false):=(U.J _).M H;have aF:¬((p:Int)<16):=Ω;have aG:¬((1536:Int)<=(p:Int)):=Ω;have aH:(p:Int)<1536:=Ω;have ac:(Dd s).length=64:=by rw[Dh,ai]
 have B:=Db ac;have ar:=Db I;have ap:=Db e1;have aq:=Db e2;clear e1 e2 x1 R k1 Q z1 z2 b1 b2 T U J ab h ag ah H O ai I ac r;go_enter func241,ntmps241;go_upto_region 1 with(refine JG rfl 188 rfl Ky ?_);rw[show w.alloc (.cells #[dI (p:Nat),.int .u64 (x:Nat)] 175)=E from Da ap,show E.alloc (.cells (Dd (Dj 64)).toArray 188)=j from Da aq]
 go_quiet (fail)
 obtain⟨Wq,o⟩:∃X,j.drewN nq=X:=⟨_,rfl⟩;rw[o];have hq:=Da W Wq.drew (by rw[<-o];rfl) (by rw[<-o];rfl) (by rw[<-o];rfl) (by rw[<-o];rfl);clear W o F ct;obtain⟨F,ct,aE,d,n,c3,d3,Y⟩:=hq;have au:=Db n;clear n;go_upto_region 3 with fail;refine Az (S:=λX=>X.cell? (dQ w.heap.size 0)=some (dI (p:Nat))) Φ F (λax=>?_);refine tk 0 ?_;refine tk 1 ?_;refine tk 2 ?_;refine tk 3 ?_;refine tk 4 ?_;refine tk 5 ?_;refine rk 6 (λK m=>?_);go_simp;rw[show(Wq.setCell (dQ b (4+p)) (dV true)).drew=d from Da au];refine m.out _ _ c3 (λaB=>?_);clear m K;try simp only[pE]
 refine AL Φ ?_ _;go_upto_region 4 with fail;refine Az (S:=λX=>X.cell? (dQ w.heap.size 0)=some (dI (p:Nat))/\X.cell? (dQ b 0)=some (dP i)) Φ ⟨c3,d3⟩ (λax=>?_);refine tk 0 ?_;refine tk 1 ?_;refine tk 2 ?_;refine tk 3 ?_;refine tk 4 ?_;refine tk 5 ?_;refine rk 6 (λK m=>?_);go_simp;go_at_call 239;apply(Da Y).Q;rintro e X⟨rfl,cX,dX,al,Z,hZ,cZ,dZ,am,aa⟩;have av:=Db al;have aw:=Db am;have HZ:=Db hZ;clear Y al am hZ;go_wp2_with fail;refine m.out _ _ ⟨cX,dX⟩ (λaC=>?_);clear m K;try simp only[pE]
 refine rk 7 (λK m=>?_);refine ZeD rfl 188 _ _ rfl (w.heap.size+1) 0 188 (Dd (Dj 64)) (Dd s) rfl (Da ar) (Da av) (by rw[Da B,Dh,JA];omega) (by rw[D4,Da B]) (K7 s) Z (by rw[ZsU _ _ (by rw[Da B,Dh,JA])];exact Da HZ) ?_;refine m.out _ _ ⟨cZ,dZ⟩ (λaD=>?_);clear m K;try simp only[pE]
 refine tk 8 ?_;refine AL Φ ?_ _;go_wp2_with fail;refine Am (v:=.tuple #[DC s,dV true]) ?_ rfl ⟨rfl,(Da aa).1,(Da aa).2⟩;exact Zct (fn:=Tryz.f241) (p:=4) (q:=5) (ty:=188) rfl _ _ (w.heap.size+1) 188 (Dd s).toArray (0,0) _ rfl (Da aw) P2 rfl (by rw[D4];simp[Da B])
structure Gg where
 a4:List (Nat×Nat)
 tk:Nat->Bool
 tn:Nat->Nat
 t:By
structure Gv(w0:World)(n0 rb db tp tx:Nat)(q:Gg)(va vt:Value)(W:World):Prop where
 row:∃L,Gb W rb 197 L/\L[0]?=some (dP db)/\L[1]?=some va/\L[2]?=some (dI (tp:Nat))/\L[3]?=some (.int .u64 (tx:Nat))/\(∀p,p<1536->L[4+p]?=some (dV (q.tk p)))/\(∀b,b<8->L[1540+b]?=some (dI (q.tn b:Nat)))/\L[1548]?=some vt
 es:∃es,Hr q.a4 es/\Sl W 350 2 va es.length (DH es)
 ad:GD n0 W vt q.t
 oa:∀k,Own va k->n0<=k/\k≠rb/\¬Own vt k
 ot:¬Own vt rb
 aa:Below n0 w0 W
 lo:n0<=rb
 sz:n0<=w0.heap.size
section
variable{w0:World}{n0 rb db tp tx:Nat}{q:Gg}{va vt:Value}{W W':World}
theorem Gv.e(h:Gv w0 n0 rb db tp tx q va vt W){Z:Nat->Prop}(a:Fr Z W W')(c:∀k,Z k->n0<=k/\k≠rb/\¬Own va k/\¬Own vt k):Gv w0 n0 rb db tp tx q va vt W':=by obtain⟨L,l,j⟩:=h.row;obtain⟨d,f,i⟩:=h.es;have hs:=h.aa.size;have m:=h.sz;exact⟨⟨L,l.e a Γ,j⟩,⟨d,f,i.e a (λg b e=>(c g e).2.2.1 b)⟩,⟨h.ad.1.e a (λg b e=>(c g e).2.2.2 b),h.ad.2⟩,h.oa,h.ot,h.aa.M ⟨a.os,a.tape,a.output,a.size,λk hk=>a.block k Ω Γ⟩,h.lo,m⟩
theorem Gv.below(h:Gv w0 n0 rb db tp tx q va vt W)(a:Bw W W'):Gv w0 n0 rb db tp tx q va vt W':=h.e (Z:=λ_=>False) (Fr.S a) Γ
theorem Gv.lt(h:Gv w0 n0 rb db tp tx q va vt W):rb<W.heap.size/\(∀k,Own va k->k<W.heap.size)/\(∀k,Own vt k->k<W.heap.size):=by obtain⟨L,c,_⟩:=h.row;obtain⟨es,_,b⟩:=h.es;exact⟨c.lt,λk a=>b.lt a,λk a=>h.ad.1.lt a⟩
theorem Gv.set(h:Gv w0 n0 rb db tp tx q va vt W)(a:Fr (λk=>k=rb) W W'){L:Gf}{c:Gg}(hr:Gb W' rb 197 L)(hL:L[0]?=some (dP db)/\L[1]?=some va/\L[2]?=some (dI (tp:Nat))/\L[3]?=some (.int .u64 (tx:Nat))/\(∀p,p<1536->L[4+p]?=some (dV (c.tk p)))/\(∀b,b<8->L[1540+b]?=some (dI (c.tn b:Nat)))/\L[1548]?=some vt)(h1:c.a4=q.a4)(j:c.t=q.t):Gv w0 n0 rb db tp tx c va vt W':=by obtain⟨f,g1,i⟩:=h.es;have hs:=h.aa.size;have l:=h.sz;have aa:=h.lo;exact⟨Γ,⟨f,Ξ,i.e a (λg d e=>(h.oa g d).2.1 e)⟩,⟨by rw[j];exact h.ad.1.e a (λg d e=>h.ot (by rw[<-e];exact d)),h.ad.2⟩,h.oa,h.ot,h.aa.M ⟨a.os,a.tape,a.output,a.size,λk hk=>a.block k Ω Ω⟩,h.lo,l⟩
def Gg.take(q:Gg)(p:Nat):Gg:={ q with tk:=λk=>if k=p then true else q.tk k }
def Gg.a5(q:Gg)(b:Nat):Gg:={ q with tn:=λk=>if k=b then q.tn b+1 else q.tn k }
def Gg.put(q:Gg)(r p:Nat):Gg:={ q with a4:=q.a4++[(r,p)] }
def Gg.au(q:Gg)(s:By):Gg:={ q with t:=q.t++s }
theorem Gv.bl(h:Gv w0 n0 rb db tp tx q va vt W){n vw m:Value}(d:Jg w0 db n (dT a l c) vw m D)(i:db<n0/\∀k,Own (dT a l c) k->k<n0){x:Nat}(r:16<=p)(j:p<1536)(f:q.tk p=false){s:By}(v:D[p]?=some s):
  Cl 241 #[dP rb,.agg #[dI (p:Nat),.int .u64 (x:Nat)]] W λe w'=>e=dR (.tuple #[DC s,dV true])/\Gv w0 n0 rb db tp tx (q.take p) va vt w'/\Fr (λk=>k=rb) W w':=by
 obtain⟨L,t,w,l1,l2,l3,y,z,l6⟩:=h.row;have ab:=h.lo;apply(ZsQ W rb db L t w n vw m a l c D ⟨(h.aa.block _ i.1).M d.1,⟨d.2.1.1.kept (λk _ f=>h.aa.block k (i.2 k f)),d.2.1.2⟩,d.2.2⟩ Ω Γ p x r j (by rw[y p j,f]) s v).Q;rintro e w'⟨rfl,u,g⟩;refine⟨rfl,h.set g u ⟨Ξ,Γ,Γ,Γ,λk aa=>?_,λb o=>by rw[A3 Ω];exact z b o,Γ⟩ rfl rfl,g⟩;show _=some (Value.bool (if k=p then true else q.tk k));grind
theorem Gv.a5(h:Gv w0 n0 rb db tp tx q va vt W)(hb:b<8):Gv w0 n0 rb db tp tx (q.a5 b) va vt (W.setCell (dQ rb (1540+b)) (dI ((q.tn b+1:Nat):Int))):=by obtain⟨L,c,l0,l1,l2,l3,d,l5,l6⟩:=h.row;refine h.set ((Fr.refl _ _).set _ _ rfl) (c.set _ _) ⟨Ξ,Γ,Γ,Γ,λk a=>by rw[A3 Ω];exact d k a,λk a=>?_,Γ⟩ rfl rfl;show _=some (Value.int .i64 ((if k=b then q.tn b+1 else q.tn k:Nat)));grind
theorem Gv.au(h:Gv w0 n0 rb db tp tx q va vt W){s:By}{c:Value}(i:GD n0 W' c (q.t++s))(b:Fr (Own vt) W W')(j:Dm W vt c):Gv w0 n0 rb db tp tx (q.au s) va c (W'.setCell (dQ rb 1548) c):=by obtain⟨L,r,l0,l1,l2,l3,t,u,v⟩:=h.row;obtain⟨aa,p,ab⟩:=h.lt;obtain⟨m,n,o⟩:=h.es;have ac:=h.lo;have l:¬Own c rb:=λe=>(j rb e).elim h.ot (λe=>Ω);have d:Fr (λk=>k=rb) W' (W'.setCell (dQ rb 1548) c):=(Fr.refl _ _).set _ _ rfl;refine⟨⟨_,(r.e b h.ot).set 1548 c,Ξ,Ξ,Ξ,Ξ,λk a=>by rw[A3 Ω];exact t k a,λk a=>by rw[A3 Ω];exact u k a,by rw[Cr (Ac.1 v).1]⟩,⟨m,n,(o.e b (λg f e=>(h.oa g f).2.2 e)).e d (λg f e=>(h.oa g f).2.1 e)⟩,⟨i.1.setCell _ _ l,i.2⟩,λk a=>⟨(h.oa k a).1,(h.oa k a).2.1,(λk a e=>(j k e).elim (h.oa k a).2.2 (λe=>by have:=p k a;omega)) k a⟩,l,?_,h.lo,h.sz⟩;exact h.aa.M ⟨d.os.M b.os,d.tape.M b.tape,d.output.M b.output,Ae b.size d.size,λk a=>(d.block k (by have:=b.size;omega) (λe=>Ω)).M (b.block k Ω (λe=>by have:=h.ad.2 k e;omega))⟩
theorem Gv.cn(h:Gv w0 n0 rb db tp tx q va vt W)(ae:∀y∈q.a4,y.1≠r)(ac:q.a4.length<=9999):
  Cl 243 #[.pointer (some (dQ rb 1)),.int .u64 (r:Nat),dI (p:Nat)] W λe w'=>e=dR (.tuple #[])/\∃c,Gv w0 n0 rb db tp tx (q.put r p) c vt w'/\Fr (λk=>k=rb\/Own va k) W w'/\Dm W va c:=by
 obtain⟨L,i,l0,n,l2,l3,D,E,l6⟩:=h.row;obtain⟨t,f,v⟩:=h.es;obtain⟨aa,ab,w⟩:=h.lt;have C:=h.sz;have hs:=h.aa.size;have ad:=h.lo;refine(TM W rb 1 va t _ (p) ((i.J 1).M n) (i.A 1) (λe=>(h.oa rb e).2.1 rfl) v (by rw[f.2.1];omega) f.1 (λx B e=>?_)).Q ?_;obtain⟨y,m,rfl⟩:=(f.2.2 x).1 B;grind;rintro e w'⟨rfl,c,u,m1,F,G,H,I,o,d⟩;have b:Fr (λk=>k=rb\/Own va k) W w':=⟨d.os,d.tape,d.output,d.size,λk a j=>d.block k a (λe=>j (.inl e)) (λe=>j (.inr e))⟩;have A:Gb w' rb 197 (L.set 1 c):=by unfold Gb;rw[d.head];exact i.set 1 c
 have z:∀k,Own c k->n0<=k/\k≠rb/\¬Own vt k:=λk a=>(o k a).elim (h.oa k) (λe=>⟨Ω,Ω,λs=>by have:=w k s;omega⟩);refine⟨rfl,c,⟨⟨_,A,Ξ,by rw[Cr (Ac.1 n).1],Ξ,Ξ,λk a=>by rw[A3 Ω];exact D k a,λk a=>by rw[A3 Ω];exact E k a,Ξ⟩,⟨u,⟨G,by rw[H,f.2.1];show _=(q.a4++[(r,p)]).length;rw[Ah];rfl,λx=>?_⟩,F⟩,⟨h.ad.1.e b (λg l e=>e.elim (λe=>h.ot (by rw[<-e];exact l)) (λe=>(h.oa g e).2.2 l)),h.ad.2⟩,z,h.ot,h.aa.M ⟨b.os,b.tape,b.output,b.size,λk a=>b.block k Ω (λe=>e.elim (λe=>Ω) (λe=>by have:=(h.oa k e).1;omega))⟩,h.lo,C⟩,b,o⟩;rw[I x,f.2.2 x];show _↔∃y∈q.a4++[(r,p)],_;constructor;rintro(rfl|⟨y,m,rfl⟩);exact⟨(r,p),Θ,rfl⟩;exact⟨y,Ba _ m,rfl⟩;grind
theorem Gv.cells(h:Gv w0 n0 rb db tp tx q va vt W):W.cell? (dQ rb 0)=some (dP db)/\W.cell? (dQ rb 1)=some va/\W.cell? (dQ rb 1548)=some vt/\W.frozen? (dQ rb 1548)=false/\(∀b,b<8->W.cell? (dQ rb (1540+b))=some (dI (q.tn b:Nat))/\W.frozen? (dQ rb (1540+b))=false):=by obtain⟨L,a,d,e,l2,l3,l4,f,g⟩:=h.row;exact⟨(a.J 0).M d,(a.J 1).M e,(a.J 1548).M g,a.A 1548,λb c=>⟨(a.J _).M (f b c),a.A _⟩⟩
end
def Uc(w0:World)(n0 rb db tp tx:Nat)(W:World)(va vt:Value)(b:Nat)(q':Gg)(e:Ending)(w':World):Prop:=
 e=dR (.tuple #[dI (b:Nat),dV true])/\∃va' vt',Gv w0 n0 rb db tp tx q' va' vt' w'/\Fr (λk=>k=rb\/Own va k\/Own vt k) W w'/\Dm W va va'/\Dm W vt vt'
def DW(s:By):By:=s.extract 1 64
theorem ZtN(w U:World)(n0 d J tp tx:Nat)(q:Gg)(H vt:Value)(h:Gv U n0 d J tp tx q H vt w){vw:Value}(hD:Jg U J vf (dT a l c) vw ve D)(aw:J<n0/\∀k,Own (dT a l c) k->k<n0)(p x:Nat)(aV:16<=p)(aW:p<1536)(hk:q.tk p=false)(s:By)(hs:D[p]?=some s)(aA:s.data[0]?=some 3)(ht:q.t.size<=1000000)(ax:∀y∈q.a4,y.1≠De 3 0 (q.tn 0))(au:q.a4.length<=9999)(aC:q.tn 0<60000):
  Cl 202 #[dP d,.agg #[dI (p:Nat),.int .u64 (x:Nat)]] w (Uc U n0 d J tp tx w H vt 0 ((((q.take p).au (DW s)).put (De 3 0 (q.tn 0)) p).a5 0)):=by
 have ah:=hD.2.1.2 s (Ai hs);obtain⟨B,E,C,rfl⟩:=h.ad.1.a0;obtain⟨aT,aq,ar⟩:=h.lt;obtain⟨W1,e1,W,k1,s1,b1⟩:=Df w [dI (p),.int .u64 (x)] 175;have a8:=Ae h.sz h.aa.size;obtain⟨m,G⟩:=ex (q.tn 0);have a4:m<60000:=by rw[G];exact aC
 obtain⟨VB,af⟩:=ex (DC s);have ac:Hid (Cl 241 #[dP d,.agg #[dI (p),.int .u64 (x)]] W1 λe X=>e=dR (.tuple #[VB,dV true])/\∃Y Z,X.alloc (.cells (Dd (Dj 64)).toArray 188)=Y/\Gb Y X.heap.size 188 (Dd (Dj 64))/\Y.setRow X.heap.size (Dd s).toArray=Z/\Z.cell? (dQ X.heap.size 0)=some (.int .u8 3)/\Z.cell? (dQ d 1548)=some (dT B E C)/\
   ∃o z t n,(Builtin.append_ #[59,59] 59 #[dT B E C,dT (some (dQ X.heap.size 1)) 63 63]).run prog Z.drew=.ok (dT o z t) n/\n.cell? (dQ d 1548)=some (dT B E C)/\n.frozen? (dQ d 1548)=false/\∃I,n.setCell (dQ d 1548) (dT o z t)=I/\I.cell? (dQ d 1540)=some (dI (m))/\I.cell? (dQ w.heap.size 0)=some (dI (p))/\
    Hid (Cl 243 #[.pointer (some (dQ d 1)),.int .u64 ((3*4294967296+0*65536+m:Nat)),dI (p)] I.drew λe A=>e=dR (.tuple #[])/\A.cell? (dQ d 1540)=some (dI (m))/\A.cell? (dQ w.heap.size 0)=some (dI (p))/\A.frozen? (dQ d 1540)=false/\
     Hid (Uc U n0 d J tp tx w H (dT B E C) 0 ((((q.take p).au (DW s)).put (De 3 0 (q.tn 0)) p).a5 0) (dR (.tuple #[dI 0,dV true])) (A.setCell (dQ d 1540) (dI ((m)+1))).drew))):=by
  apply((h.below b1).bl hD aw aV aW hk hs).Q;rintro e X⟨rfl,hX,ag⟩;have aS:=(Fr.S b1).then ag (λ_ _ e=>e);have a6:=ag.size;obtain⟨Y,eY,xY,kY,sY,bY⟩:=Df X (Dd (Dj 64)) 188;have xZ:Gb (Y.setRow X.heap.size (Dd s).toArray) X.heap.size 188 (Dd s):=Bo Y _ _ _ 188 _ xY;have F:Bw X (Y.setRow X.heap.size (Dd s).toArray):=bY.M ⟨rfl,rfl,rfl,Θ,λj hj=>Bc Y _ j _ Ω⟩;obtain⟨Z,P⟩:∃Z,Y.setRow X.heap.size (Dd s).toArray=Z:=⟨_,rfl⟩;rw[P]at xZ F;have aQ:=hX.below F;have N:Bw X Z.drew:=⟨F.os,F.tape,F.output,F.size,F.block⟩;have ab:=hX.below N;have a1:Gb Z.drew X.heap.size 188 (Dd s):=xZ;obtain⟨o,z,t,n,r1,r2,R,r4⟩:=QX _ n0 (by have:=N.size;omega) (dT B E C) _ ab.ad (dQ X.heap.size 1) 63 63 (DW s) (by unfold DW;rw[Af,ah];rfl) (λj u M=>by rw[AG,a1.J];unfold DW at M;rw[KC,AZ]at M;split at M;rw[BF]at M;exact M;cases M) (by show q.t.size+63<=_;omega);have aB:=ab.au r2 R r4;have a9:=R.size;have a7:=N.size;have b0:Gb X w.heap.size 175 _:=(ag.block _ W.lt (show ¬w.heap.size=d by omega)).M W;have b6:Gb (n.setCell (dQ d 1548) (dT o z t)) w.heap.size 175 _:=(Aw _ _ _ _ (show w.heap.size≠d by omega)).M ((R.block _ Ω (λe=>by have:=ar _ e;omega)).M ((N.block _ b0.lt).M b0));obtain⟨L,aX,_,_,_,_,_,_,l6⟩:=ab.row;have az:Gb n d 197 L:=aX.e R ab.ot;refine⟨by rw[af],Y,Z,eY,xY,P,?_,aQ.cells.2.2.1,o,z,t,n,r1,(az.J 1548).M l6,az.A 1548,_,rfl,?_,(b6.J 0).M rfl,?_⟩;rw[xZ.J];have h0:s.data.toList[0]?=some 3:=by rw[Ec];exact aA
  show(Dd s)[0]? = _;unfold Dd;rw[A8,h0];rfl;rw[G];exact(aB.cells.2.2.2.2 0 Ω).1;have aY:Gv U n0 d J tp tx ((q.take p).au (DW s)) H (dT o z t) (n.setCell (dQ d 1548) (dT o z t)).drew:=aB.below ⟨rfl,rfl,rfl,Aa _,λ_ _=>rfl⟩;apply(aY.cn (r:=De 3 0 m) (p:=p) (by rw[G];exact ax) au).Q;rintro e A⟨rfl,a0,al,ao,aU⟩;have b7:Gb A w.heap.size 175 _:=(ao.block _ b6.lt (λe=>e.elim (λe=>Ω) (λe=>by have:=aq _ e;omega))).M b6;have c3:=al.cells.2.2.2.2 0 Ω;have ap:=al.a5 (b:=0) Ω;have aZ:(((q.take p).au (DW s)).put (De 3 0 m) p).tn 0=m:=G.r;rw[aZ]at ap;have aK:Fr (λk=>k=d) A (A.setCell (dQ d 1540) (dI ((m+1:Nat):Int))):=(Fr.refl _ _).set _ _ rfl;rw[show((m:Int)+1)=((m+1:Nat)) by omega];refine⟨rfl,by rw[G];exact c3.1,(b7.J 0).M rfl,c3.2,rfl,a0,dT o z t,by rw[<-G];exact(ap.below ⟨rfl,rfl,rfl,Aa _,λ_ _=>rfl⟩),?_,λg hg=>(aU g hg).imp id (λe=>?_),λg hg=>(r4 g hg).imp id (λe=>Ω)⟩;have f1:Fr (λk=>k=d\/Own H k\/Own (dT B E C) k) w Z.drew:=(aS.Q (Y:=λk=>k=d\/Own H k\/Own (dT B E C) k) (λk _ e => .inl e)).then (Fr.S (X:=λ_=>False) N) (λ_ _ e=>e.elim);have f3:Fr (λk=>k=d\/Own H k\/Own (dT B E C) k) w (n.setCell (dQ d 1548) (dT o z t)).drew:=by have:=Fr.set (f1.then R (λk _ e => .inr (.inr e))) (dQ d 1548) (dT o z t) (.inl rfl);exact⟨this.os,this.tape,this.output,this.size,this.block⟩
  have O:=(f3.then ao (λk _ e=>e.elim .inl (λe => .inr (.inl e)))).then aK (λk _ e => .inl e);exact⟨O.os,O.tape,O.output,O.size,O.block⟩;have:(n.setCell (dQ d 1548) (dT o z t)).drew.heap.size=n.heap.size:=by simp[World.setCell,World.drew]
  omega
 have an:(Dd s).length=64:=by rw[Dh,ah]
 have ai:=Db an;have aH:=Db af;have aE:=Db e1;have d1:=W.ca 0;have d2:=W.ca 1;obtain⟨QF,ak⟩:=ex (((((q.take p).au (DW s)).put (De 3 0 (q.tn 0)) p).a5 0));rw[<-ak]at ac ⊢;clear G e1 W k1 s1 b1 h hD aw hk hs aA ht ax au aC ah af an ak aT aq ar;go_enter func202,ntmps202;go_upto_region 1 with fail;rw[show w.alloc (.cells #[dI (p:Nat),.int .u64 (x:Nat)] 175)=W1 from Da aE];go_upto_region 2 with(first|(go_at_call 241;apply(Da ac).Q;rintro e X⟨rfl,Y,Z,hY,xY,P,z0,z1,o,z,t,n,ay,z5,z6,I,am,ad,ae,aj⟩;have HY:=Db hY;have aI:=Db xY;have HZ:=Db P;have aJ:=Db am;have aG:=Db ay;clear hY xY P am ay d1 d2 ac)|(refine JG rfl 188 rfl Ky ?_;rw[show X.alloc (.cells (Dd (Dj 64)).toArray 188)=Y from Da HY])|(refine Bh rfl 188 _ _ rfl X.heap.size (Dd s).toArray rfl (Da aH) 188 _ (Da aI) (by rw[D4];simp[Da ai]) (by simp[Da ai,Dh,JA]) (KI _) ?_;rw[Da HZ]));go_upto_region 8 with fail;refine Az (S:=λV=>True) Φ trivial (λaa=>?_);refine tk 0 ?_;refine tk 1 ?_;refine tk 2 ?_;refine tk 3 ?_;refine tk 5 ?_;refine rk 4 (λK f=>?_);go_simp;refine f.out _ _ trivial (λaN=>?_);clear f K;try simp only[pE]
 refine rk 6 (λK f=>?_);refine Kl rfl _ _ 59 59 rfl _ _ rfl rfl (Da aG) ?_;refine f.out _ _ trivial (λaO=>?_);clear f K;try simp only[pE]
 refine tk 7 ?_;refine tk 8 ?_;refine rk 9 (λK f=>?_);go_simp;rw[show n.setCell (dQ d 1548) (dT o z t)=I from Da aJ];refine f.out _ _ trivial (λaP=>?_);clear f K;try simp only[pE]
 refine AL Φ ?_ _;clear aa aN aO aP z0 z1 z5 z6;go_upto_region 13 with fail;refine Az (S:=λV=>V.cell? (dQ d 1540)=some (dI (m:Nat))/\V.cell? (dQ w.heap.size 0)=some (dI (p:Nat))) Φ ⟨ad,ae⟩ (λaa=>?_);refine tk 0 ?_;refine tk 1 ?_;refine tk 2 ?_;refine tk 3 ?_;refine tk 4 ?_;refine tk 5 ?_;refine tk 6 ?_;refine tk 7 ?_;refine tk 8 ?_;refine tk 9 ?_;refine tk 10 ?_;refine tk 11 ?_;refine tk 13 ?_;refine tk 14 ?_;refine rk 12 (λK f=>?_);go_simp;go_at_call 244;apply(Da (λV=>Pj V 3 0 m Ω Ω Ω) _).Q;rintro e w'⟨rfl,aD⟩;rw[aD];clear aD;go_wp2_with fail;refine f.out _ _ ⟨ad,ae⟩ (λaL=>?_);clear f K;try simp only[pE]
 refine rk 15 (λK f=>?_);go_simp;go_at_call 243;apply(Da aj).Q;rintro e A⟨rfl,y1,y2,y3,aF⟩;go_wp2_with fail;refine f.out _ _ ⟨y1,y2⟩ (λaM=>?_);clear f K;try simp only[pE]
 refine AL Φ ?_ _;clear aa aL aM ad ae aj;go_upto_region 14 with fail;refine Az (S:=λV=>True) Φ trivial (λaa=>?_);refine tk 0 ?_;refine tk 1 ?_;refine tk 2 ?_;refine tk 3 ?_;refine tk 4 ?_;refine tk 7 ?_;refine tk 8 ?_;refine rk 5 (λK f=>?_);go_simp;refine f.out _ _ trivial (λa3=>?_);clear f K;try simp only[pE]
 refine A4 (i:=6) (v:=dI ((m+1:Nat):Int)) rfl Φ Φ Φ (λ_ _ _ h=>h) (Or.inl ⟨by rfl,by intro w aR;(try dsimp only at aR);go_simp;rw[AI];omega⟩) Ψ ?_;try simp only[pE]
 refine tk 9 ?_;refine rk 10 (λK f=>?_);go_simp;refine f.out _ _ trivial (λa2=>?_);clear f K;try simp only[pE]
 refine AL Φ ?_ _;go_wp2;exact Am (v:=.tuple #[dI 0,dV true]) (by simp[results,results202,go_sem]) rfl (Da aF)
theorem ZtO(w B:World)(n0 d u E F:Nat)(q:Gg)(z A:Value)(h:Gv B n0 d u E F q z A w){vw:Value}(W:Jg B u vf (dT a l c) vw ve D)(au:u<n0/\∀k,Own (dT a l c) k->k<n0)(p x:Nat)(aO:16<=p)(aP:p<1536)(hk:q.tk p=false)(s:By)(hs:D[p]?=some s)(aw:s.data[0]?=some 2)(b:Nat)(hb:b<8)(m:Gg)(an:∀Z Bb,Gv B n0 d u E F (q.take p) z A Z->Gb Z Bb 188 (Dd s)->w.heap.size<Bb->Cl 242 #[dP d,.agg #[dT (some (dQ Bb 1)) 63 63]] Z (Uc B n0 d u E F Z z A b m))(av:∀y∈m.a4,y.1≠De 2 b (m.tn b))(ar:m.a4.length<=9999)(az:m.tn b<60000):
  Cl 202 #[dP d,.agg #[dI (p:Nat),.int .u64 (x:Nat)]] w (Uc B n0 d u E F w z A b ((m.put (De 2 b (m.tn b)) p).a5 b)):=by
 have ax:=W.2.1.2 s (Ai hs);obtain⟨aM,ae,aq⟩:=h.lt;obtain⟨W1,e1,L,k1,s1,O⟩:=Df w [dI (p),.int .u64 (x)] 175;have a2:=Ae h.sz h.aa.size;obtain⟨f,C⟩:=ex (m.tn b);have aV:f<60000:=by rw[C];exact az
 obtain⟨VB,aa⟩:=ex (DC s);have N:Hid (Cl 241 #[dP d,.agg #[dI (p),.int .u64 (x)]] W1 λe X=>e=dR (.tuple #[VB,dV true])/\∃Y Z,X.alloc (.cells (Dd (Dj 64)).toArray 188)=Y/\Gb Y X.heap.size 188 (Dd (Dj 64))/\Y.setRow X.heap.size (Dd s).toArray=Z/\Z.cell? (dQ X.heap.size 0)=some (.int .u8 2)/\
   Hid (Cl 242 #[dP d,.agg #[dT (some (dQ X.heap.size 1)) 63 63]] Z λe o=>e=dR (.tuple #[dI (b),dV true])/\o.cell? (dQ d (1540+b))=some (dI (f))/\o.cell? (dQ w.heap.size 0)=some (dI (p))/\
    Hid (Cl 243 #[.pointer (some (dQ d 1)),.int .u64 ((2*4294967296+b*65536+f:Nat)),dI (p)] o.drew λe t=>e=dR (.tuple #[])/\t.cell? (dQ d (1540+b))=some (dI (f))/\t.cell? (dQ w.heap.size 0)=some (dI (p))/\t.frozen? (dQ d (1540+b))=false/\
     Hid (Uc B n0 d u E F w z A b ((m.put (De 2 b (m.tn b)) p).a5 b) (dR (.tuple #[dI (b),dV true])) (t.setCell (dQ d (1540+b)) (dI ((f)+1))).drew)))):=by
  apply((h.below O).bl W au aO aP hk hs).Q;rintro e X⟨rfl,hX,ad⟩;have aL:=(Fr.S O).then ad (λ_ _ e=>e);have aW:=ad.size;obtain⟨Y,eY,M,kY,sY,bY⟩:=Df X (Dd (Dj 64)) 188;have xZ:Gb (Y.setRow X.heap.size (Dd s).toArray) X.heap.size 188 (Dd s):=Bo Y _ _ _ 188 _ M;have G:Bw X (Y.setRow X.heap.size (Dd s).toArray):=bY.M ⟨rfl,rfl,rfl,Θ,λj hj=>Bc Y _ j _ Ω⟩;obtain⟨Z,J⟩:∃Z,Y.setRow X.heap.size (Dd s).toArray=Z:=⟨_,rfl⟩;rw[J]at xZ G;have aZ:=G.size;have b0:Gb X w.heap.size 175 _:=(ad.block _ L.lt (show ¬w.heap.size=d by omega)).M L;have ai:Gb Z w.heap.size 175 _:=(G.block _ b0.lt).M b0;refine⟨by rw[aa],Y,Z,eY,M,J,?_,?_⟩;rw[xZ.J];have h0:s.data.toList[0]?=some 2:=by rw[Ec];exact aw
  show(Dd s)[0]? = _;unfold Dd;rw[A8,h0];rfl;apply(an Z X.heap.size (hX.below G) xZ Ω).Q;rintro e o⟨rfl,aS,aB,al,ab,n1,n2⟩;have P:Gb o w.heap.size 175 _:=(ab.block _ ai.lt (λe=>by rcases e with e|e|e;omega;have:=ae _ e;omega;have:=aq _ e;omega)).M ai;have aX:=ab.size;refine⟨rfl,by rw[C];exact(al.cells.2.2.2.2 b hb).1,(P.J 0).M rfl,?_⟩;have aQ:Gv B n0 d u E F m aS aB o.drew:=al.below ⟨rfl,rfl,rfl,Aa _,λ_ _=>rfl⟩;apply(aQ.cn (r:=De 2 b f) (p:=p) (by rw[C];exact av) ar).Q;rintro e t⟨rfl,aR,am,ac,aN⟩;have aY:=ac.size;have b7:Gb t w.heap.size 175 _:=(ac.block _ P.lt (λe=>e.elim (λe=>Ω) (λe=>(n1 _ e).elim (λe=>by have:=ae _ e;omega) (λe=>Ω)))).M P;have c3:=am.cells.2.2.2.2 b hb;have ap:=am.a5 hb;have ay:(m.put (De 2 b f) p).tn b=f:=C.r;rw[ay]at ap;have aG:Fr (λk=>k=d) t (t.setCell (dQ d (1540+b)) (dI ((f+1:Nat)))):=(Fr.refl _ _).set _ _ rfl;rw[show((f:Int)+1)=((f+1:Nat):Int) by omega];have a3:o.drew.heap.size=o.heap.size:=rfl;have aK:t.cell? (dQ d (1540+b))=some (dI (f:Nat)):=c3.1.M (by rw[show(m.put (De 2 b f) p).tn b=f from ay]);refine⟨rfl,aK,(b7.J 0).M rfl,c3.2,rfl,aR,aB,by rw[<-C];exact(ap.below ⟨rfl,rfl,rfl,Aa _,λ_ _=>rfl⟩),?_,λg hg=>(aN g hg).elim (λe=>(n1 g e).imp id (λe=>Ω)) (λe => .inr Ω),λg hg=>(n2 g hg).imp id (λe=>Ω)⟩;have H:=((aL.Q (Y:=λk=>k=d\/Own z k\/Own A k) (λk _ e => .inl e)).then (Fr.S (X:=λ_=>False) G) (λ_ _ e=>e.elim)).then ab (λk _ e=>e);have f3:Fr (λk=>k=d\/Own z k\/Own A k) w o.drew:=⟨H.os,H.tape,H.output,H.size,H.block⟩;have I:=(f3.then ac (λk hk e=>e.elim .inl (λe=>(n1 k e).elim (λe => .inr (.inl e)) (λe=>Ω)))).then aG (λk _ e => .inl e);exact⟨I.os,I.tape,I.output,I.size,I.block⟩
 have ao:(Dd s).length=64:=by rw[Dh,ax]
 have ag:=Db ao;have aE:=Db aa;have aC:=Db e1;have d1:=L.ca 0;have d2:=L.ca 1;obtain⟨QF,ak⟩:=ex (((m.put (De 2 b (m.tn b)) p).a5 b));rw[<-ak]at N ⊢;have a0:¬(8:Int)<=(b:Int):=Ω;have a1:(b:Int)<8:=Ω;clear C e1 L k1 s1 O h W au hk hs aw av ar az ax aa ao ak aM ae aq an;go_enter func202,ntmps202;go_upto_region 1 with fail;rw[show w.alloc (.cells #[dI (p:Nat),.int .u64 (x:Nat)] 175)=W1 from Da aC];go_upto_region 2 with(first|(go_at_call 241;apply(Da N).Q;rintro e X⟨rfl,Y,Z,hY,M,J,z0,af⟩;have HY:=Db hY;have aF:=Db M;have HZ:=Db J;clear hY M J d1 d2 N)|(refine JG rfl 188 rfl Ky ?_;rw[show X.alloc (.cells (Dd (Dj 64)).toArray 188)=Y from Da HY])|(refine Bh rfl 188 _ _ rfl X.heap.size (Dd s).toArray rfl (Da aE) 188 _ (Da aF) (by rw[D4];simp[Da ag]) (by simp[Da ag,Dh,JA]) (KI _) ?_;rw[Da HZ]));go_upto_region 11 with(go_at_call 242;apply(Da af).Q;rintro e o⟨rfl,R,U,ah⟩);clear af z0;go_upto_region 13 with fail;refine Az (S:=λV=>V.cell? (dQ d (1540+b))=some (dI (f:Nat))/\V.cell? (dQ w.heap.size 0)=some (dI (p:Nat))) Φ ⟨R,U⟩ (λaj=>?_);refine tk 0 ?_;refine tk 1 ?_;refine tk 2 ?_;refine tk 3 ?_;refine tk 4 ?_;refine tk 5 ?_;refine tk 6 ?_;refine tk 7 ?_;refine tk 8 ?_;refine tk 9 ?_;refine tk 10 ?_;refine tk 11 ?_;refine tk 13 ?_;refine tk 14 ?_;refine rk 12 (λK n=>?_);go_simp;go_at_call 244;apply(Da (λV=>Pj V 2 b f Ω Ω Ω) _).Q;rintro e w'⟨rfl,aA⟩;rw[aA];clear aA;go_wp2_with fail;refine n.out _ _ ⟨R,U⟩ (λaH=>?_);clear n K;try simp only[pE]
 refine rk 15 (λK n=>?_);go_simp;go_at_call 243;apply(Da ah).Q;rintro e t⟨rfl,y1,y2,y3,aD⟩;go_wp2_with fail;refine n.out _ _ ⟨y1,y2⟩ (λaI=>?_);clear n K;try simp only[pE]
 refine AL Φ ?_ _;clear aj aH aI R U ah;go_upto_region 14 with fail;refine Az (S:=λV=>True) Φ trivial (λaj=>?_);refine tk 0 ?_;refine tk 1 ?_;refine tk 2 ?_;refine tk 3 ?_;refine tk 4 ?_;refine tk 7 ?_;refine tk 8 ?_;refine rk 5 (λK n=>?_);go_simp;refine n.out _ _ trivial (λaU=>?_);clear n K;try simp only[pE]
 refine A4 (i:=6) (v:=dI ((f+1:Nat):Int)) rfl Φ Φ Φ (λ_ _ _ h=>h) (Or.inl ⟨by rfl,by intro w aJ;(try dsimp only at aJ);go_simp;rw[AI];omega⟩) Ψ ?_;try simp only[pE]
 refine tk 9 ?_;refine rk 10 (λK n=>?_);go_simp;refine n.out _ _ trivial (λaT=>?_);clear n K;try simp only[pE]
 refine AL Φ ?_ _;go_wp2;exact Am (v:=.tuple #[dI (b:Nat),dV true]) (by simp[results,results202,go_sem]) rfl (Da aD)
def Dt(T:By):NB
 |0=>T
 |j+1=>(Dt T j).extract 10 (Dt T j).size
theorem Va(T:By):∀j,(Dt T j).size=T.size-10*j
 |0=>by simp[Dt]
 |j+1=>by unfold Dt;rw[Af,Va T j];omega
theorem Gv.ne{p:World}{n0 d i:Nat}{q:Gg}{f g:Value}(h:Gv p n0 d i n o q f g W){t:TypeId}{L:Gf}(b:Gb W B t L)(k:t≠197)(l:t≠350)(m:t≠5):B≠d/\¬Own f B/\¬Own g B:=by obtain⟨Lr,c,_⟩:=h.row;obtain⟨es,_,j⟩:=h.es;refine⟨λe=>?_,λe=>?_,λe=>?_⟩;subst e;unfold Gb at b c;rw[b]at c;cases c;exact k rfl;obtain⟨R,a⟩:=j.type e;unfold Gb at b a;rw[b]at a;cases a;exact l rfl;obtain⟨R,a⟩:=h.ad.1.type e;unfold Gb at b a;rw[b]at a;cases a;exact m rfl
structure Nx(w w0:World)(n0 rb db tp tx:Nat)(va0 vt0:Value)(Bb:Nat)(s:By)(q:Gg)(j:Nat)(va vt:Value)(wr:World):Prop where
 rd:Gv w0 n0 rb db tp tx q va vt wr
 bf:∃a2 c2,Gb wr w.heap.size 287 [dT a2 (63-10*j) c2]/\GL wr a2 (63-10*j) c2 (Dt (DW s) j)/\63-10*j<=c2/\∀x,a2=some x->x.block=Bb
 bb:Gb wr Bb 188 (Dd s)
 e:Fr (λk=>k=rb\/Own va0 k\/Own vt0 k) w wr
 na:Dm w va0 va
 nt:Dm w vt0 vt
theorem GL.row{b:World}{s:By}(h:GL W a l c s)(hb:∀x,a=some x->x.block=B)(hB:b.heap[B]?=W.heap[B]?):GL b a l c s:=
 ⟨h.1,h.2.1,λj v d=>by obtain⟨x,hx,hc⟩:=h.2.2 j v d;grind [World.cell?_of_block,Addr.ag]⟩
def QN(B:Nat)(wr:World):Nat:=
 match wr.cell? (dQ B 0) with
 |some (.slice _ l _)=>l
 |_=>0
theorem TZ{wr:World}(h:wr.cell? (dQ B 0)=some (dT a l c)):QN B wr=l:=by grind [QN]
