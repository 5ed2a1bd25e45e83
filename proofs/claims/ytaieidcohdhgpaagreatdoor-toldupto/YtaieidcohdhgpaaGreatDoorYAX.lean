/- Told. -/
import Derived.Test.YtaieidcohdhgpaaGreatDoorYAW
namespace Go.Proofs.YtaieidcohdhgpaaGreatDoor
set_option maxHeartbeats 40000000
set_option maxRecDepth 100000
open Tryz
open Go.RowKit
def Ia(n0:Nat)(w:World)(vb stb db:Nat):Prop:=∃vk vf vn,Hc w stb db vk IX vf vn (.slice none 0 0) (.slice none 0 0) [] []/\Hd w vf Jj/\(∀k,Own vf k->¬GY stb db vn (.slice none 0 0) (.slice none 0 0) k/\n0<=k)/\(∀k,GY stb db vn (.slice none 0 0) (.slice none 0 0) k->n0<=k/\k≠vb)/\∀k,Own vk k->n0<=k
theorem Ia.below{d:Nat}{w w':World}{f e a:Nat}(h:Ia d w f e a)(c:Bw w w'):Ia d w' f e a:=by
 obtain⟨m,l,n,g,b,i⟩:=h;exact⟨m,l,n,g.below c,⟨b.1.kept (λk j _=>c.block k j),b.2⟩,i⟩
theorem Vt{w w':World}{e:Ending}(v:0<w.heap.size)(h:Rv w e w'):∃f tb b d,e=.returned (.pointer (some ⟨f,0,none⟩))/\Hv w.heap.size w w' f tb b d [] [] (λ_=>⟨#[]⟩)/\Ia w.heap.size w' f d b:=by
 obtain⟨tb,w1,h1,o,h3,x,f,b,d,n,i,g,rfl,z,D,E,F,G,q6,q7,q8,H,A,B,s,C⟩:=h;have y:=o.size;have c:∀k,¬Own (.slice none 0 0) k:=λk e=>by simp[Own,Value.ownBlock]at e
 have q:Hc w' d b g IX n i (.slice none 0 0) (.slice none 0 0) [] []:=⟨D,F,λk a e=>by
  obtain⟨_,j,l,t,_⟩:=s k a;rcases e with e|e|e|e|e
  ·exact j e
  ·exact l e
  ·exact t e
  ·exact c k e
  ·exact c k e⟩
 have p:∀k,GY d b i (.slice none 0 0) (.slice none 0 0) k->w.heap.size<=k/\k≠f:=λk a=>by
  rcases a with e|e|e|e|e
  ·exact⟨by omega,λm=>A (m.symm.trans e)⟩
  ·exact⟨by omega,λm=>H (m.symm.trans e)⟩
  ·have:=C k e;exact⟨by omega,this.2⟩
  ·exact absurd e (c k)
  ·exact absurd e (c k)
 have r:∀k,Own g k->w.heap.size<=k:=λk a=>by have:=(s k a).1;omega
 refine⟨f,tb,b,d,rfl,⟨z,x,⟨IX,g,n,i,_,_,[],[],q,rfl,Yj,ks0_ck,Aa _,Au _,Au _,p,r⟩,o.trans (G.mono y),by omega,by omega,Aa _,v⟩,g,n,i,q,E,λk a=>?_,p,r⟩;obtain⟨a1,j,l,_,u,_⟩:=B k a;refine⟨λe=>?_,by omega⟩;rcases e with e|e|e|e|e
 ·exact j e
 ·exact l e
 ·exact u e
 ·exact c k e
 ·exact c k e
theorem ZnK:GG (λ_=>none) IX:=
 ⟨λ_=>⟨#[]⟩,[],λi j x y _ a=>(by cases a),λx a=>(by cases a),⟨λx a=>(by cases a),λx a=>(by cases a),CG,CG,Au _,λx a=>(by cases a),λx a=>(by cases a)⟩,Zkw _,λx a=>(by cases a),λi b t e=>(by cases e),λi b e u c=>(by cases c)⟩
theorem Hv.lg{n1:Nat}{d w:World}{c tb a b:Nat}(h:Hv n1 d w c tb a b [] [] (λ_=>⟨#[]⟩)):GL 0 n1 d w c tb a b (λ_=>none) (GG (λ_=>none)):=
 ⟨h.vol,⟨[],[],_,h.ps,F5.empty⟩,h.st.mono (λs e=>by subst e;exact ZnK),h.bel,h.lo⟩
def Rw(w:World)(e:Ending)(w':World):Prop:=∃vb tb db stb,e=.returned (.pointer (some ⟨vb,0,none⟩))/\GL 0 w.heap.size w w' vb tb db stb (λ_=>none) (GG (λ_=>none))/\Ia w.heap.size w' vb stb db
theorem Zi1(w:World)(K:Gd w):Cl 23 #[] w (Rw w):=by
 have h0:0<w.heap.size:=by
  obtain⟨⟨m,hm⟩,_⟩:=K;exact Am _ _ hm
 have Z:Hid (Cl 71 #[] w λe X=>∃k:Nat,e=.returned (.pointer (some ⟨k,0,none⟩))/\Hid (Cl 71 #[] X λe Y=>∃d:Nat,e=.returned (.pointer (some ⟨d,0,none⟩))/\
   Hid (Cl 58 #[.pointer (some ⟨d,0,none⟩),.string qa] Y λe b=>e=.returned (.int .i64 0)/\∃f,(convert 59 59 (.slice (some ⟨b.heap.size,0,none⟩) 3 3)).run prog (b.alloc (.cells #[.int .u8 120,.int .u8 121,.int .u8 122] 5))=.ok (.slice (some ⟨b.heap.size,0,none⟩) 3 3) f/\
   Hid (Cl 59 #[.pointer (some ⟨d,0,none⟩),.string Ht,.int .i64 3,.slice (some ⟨b.heap.size,0,none⟩) 3 3] f λe y=>e=.returned (.int .i64 0)/\
   Hid (Cl 55 #[.pointer (some ⟨d,0,none⟩),.string Ht,.int .i64 0,.int .i64 9] y λe q=>∃x:Nat,e=.returned (.tuple #[.slice (some ⟨x,0,none⟩) 6 6,.int .i64 0])/\
   Hid (Cl 61 #[.pointer (some ⟨d,0,none⟩),.string Ht,.string qg] q λe z=>e=.returned (.int .i64 0)/\
   Hid (Cl 63 #[.pointer (some ⟨d,0,none⟩),.string qa] z λe A=>e=.returned (.int .i64 7)/\
   Hid (Cl 57 #[.pointer (some ⟨d,0,none⟩),.string qg] A λe h=>e=.returned (.tuple #[.agg #[.string ng,.bool false,.int .i64 6,.int .i64 2],.int .i64 0])/\∃l,h.alloc (.cells #[.string ng,.bool false,.int .i64 6,.int .i64 2] 112)=l/\
   Hid (Cl 26 #[.pointer (some ⟨d,0,none⟩)] l λe a=>e=.returned (.int .i64 0)/\a.cell? ⟨h.heap.size,2,none⟩=some (.int .i64 6)/\a.cell? ⟨h.heap.size,3,none⟩=some (.int .i64 2)/\(∀W,Bw a W->(convert 59 9 (.slice (some ⟨x,0,none⟩) 6 6)).run prog W=.ok (.string ⟨#[0,0,0,120,121,122]⟩) W)/\
   Hid (∀W,Bw a W->Cl 34 #[.pointer (some ⟨d,0,none⟩)] W λe c=>e=.returned (.int .i64 1)/\Bw W c/\Hid (Rw w (.returned (.pointer (some ⟨k,0,none⟩))) c))))))))))):=by
  refine(Xb w K).mono ?_;intro e X hX;obtain⟨k,tb,db,aq,rfl,o,al⟩:=Vt h0 hX;refine⟨k,rfl,?_⟩;have au:=o.bel.size;have an:Gd X:=by
   obtain⟨rd,V,E,vi,G⟩:=o.ps;exact G.pk
  refine(Xb X an).mono ?_;intro e Y hY;obtain⟨d,tx,dx,sx,rfl,hx,_⟩:=Vt (by omega) hY;refine⟨d,rfl,?_⟩;refine(XT hx).mono ?_;rintro e b⟨rfl,nb,D⟩;obtain⟨f,B⟩:=ex (b.alloc (.cells #[.int .u8 120,.int .u8 121,.int .u8 122] 5 (3,4)));have b2:Bw b f:=by rw[B];exact(Ak _ _).alloc (Aa _) _
  refine⟨rfl,f,by rw[B];exact FK b 59 5 _ 3 3 underlying59 underlying5,?_⟩;have hh:f.heap[b.heap.size]?=some (.cells #[.int .u8 120,.int .u8 121,.int .u8 122] 5 (3,4)):=by
   rw[B];show(b.heap.push _)[b.heap.size]? = _;exact Array.getElem?_push_size
  have ak:∀j,f.cell? ⟨b.heap.size,j,none⟩=(Dc d3)[j]? := λj=>by
   unfold World.cell?;rw[hh,show Dc d3=(#[Value.int .u8 120,.int .u8 121,.int .u8 122]:Array Value).toList from rfl,CF]
   rfl
  have ao:Gp f (some ⟨b.heap.size,0,none⟩) 3 3 d3:=⟨rfl,(λe=>by cases e),λj v o=>⟨_,rfl,by
   rw[AI,Av,ak];exact o⟩⟩
  refine(XK (D.below b2) _ 3 ao).mono ?_;rintro e y⟨rfl,I2,C2,r,ho,hc⟩;refine⟨rfl,?_⟩;refine(rdX' r ho hc).mono ?_;rintro e q⟨x,rfl,hS,b4⟩;refine⟨x,rfl,?_⟩;have F:=r.below b4;refine(XU F ho).mono ?_;rintro e z⟨rfl,⟨I3,h5,t⟩,k5⟩;refine⟨rfl,?_⟩;refine(XQ h5 t).mono ?_;rintro e A⟨rfl,h6,k6⟩;refine⟨rfl,?_⟩;refine(XP h6 t).mono ?_;rintro e h⟨rfl,b7⟩;obtain⟨l,e8,x8,k8,z8,b8⟩:=De h [.string ng,.bool false,.int .i64 6,.int .i64 2] 112;refine⟨rfl,l,e8,?_⟩;have h8:=(h6.below b7).below b8;refine(MU h8 t hc).mono ?_;rintro e a⟨rfl,ac,ah,aa,k9⟩;have r9:=k9 _ _ _ x8 (.inr rfl);have am:H0 q a:=((k5.trans k6).trans ((H0.below b7).trans (H0.below b8))).trans k9;have ai:∀W,Bw a W->Sl W 5 1 (.slice (some ⟨x,0,none⟩) 6 6) 6 (Dc s6):=λW i=>by
   refine⟨hS.1,?_⟩;rcases hS.2 with⟨e,_⟩|⟨g,ag,L,e,hR,D,h2,r,F⟩
   ·cases e
   ·have ab:=am _ _ _ hR (.inl rfl);exact .inr ⟨g,ag,L,e,(i.block _ ab.lt).trans ab,D,h2,r,F⟩
  refine⟨rfl,(r9.cell 2).trans rfl,(r9.cell 3).trans rfl,λW i=>Va (ai W i) rfl,λW i=>?_⟩;obtain⟨rd,V,E,vi,G⟩:=ah;refine(XM (nb:=nb) (I:=I3) (C:=C2) (tb:=tx) ⟨dx,sx,(i.block _ (FX.lt ac)).trans ac⟩ ⟨rd,V,E,vi,G.below i (Aa _)⟩ t).mono ?_;rintro e c⟨rfl,s⟩;refine⟨rfl,s,k,tb,db,aq,rfl,?_⟩;have ap:=aa.size;have av:=i.size;have ae:=aa.trans ((i.mono ap).trans (s.mono (by omega)));exact⟨o.lg.below ae,al.below ae⟩
 clear K h0;go_enter func23,ntmps23;go_upto_region 2 with(go_at_call 71;refine(Da Z).mono ?_;rintro e X⟨k,rfl,N⟩);go_upto_region 3 with(go_at_call 71;refine(Da N).mono ?_;rintro e Y⟨d,rfl,O⟩);clear Z N;go_upto_region 5 with fail;go_upto_region 6 with(go_at_call 58;refine(Da O).mono ?_;rintro e b⟨rfl,f,aj,P⟩);clear O;go_upto_region 7 with(go_at_call 59;refine(Da P).mono ?_;rintro e y⟨rfl,Q⟩);clear P;go_upto_region 8 with(go_at_call 55;refine(Da Q).mono ?_;rintro e q⟨x,rfl,R⟩);clear Q;go_upto_region 9 with(go_at_call 61;refine(Da R).mono ?_;rintro e z⟨rfl,S⟩);clear R;go_upto_region 10 with(go_at_call 63;refine(Da S).mono ?_;rintro e A⟨rfl,T⟩);clear S;go_upto_region 11 with(go_at_call 57;refine(Da T).mono ?_;rintro e h⟨rfl,l,ad,U⟩;have af:=Db ad;clear ad);rw[show h.alloc (.cells #[.string ng,.bool false,.int .i64 6,.int .i64 2] 112)=l from Da af];clear T;go_upto_region 12 with(go_at_call 26;refine(Da U).mono ?_;rintro e a⟨rfl,c2,c3,J,M⟩);clear U;have n:Bw a a:=Ak _ _;have ar:=J _ n;have HC:Hid (Cl 34 #[.pointer (some ⟨d,0,none⟩)] a λe c=>e=.returned (.int .i64 1)/\c.cell? ⟨h.heap.size,2,none⟩=some (.int .i64 6)/\c.cell? ⟨h.heap.size,3,none⟩=some (.int .i64 2)/\(convert 59 9 (.slice (some ⟨x,0,none⟩) 6 6)).run prog c=.ok (.string ⟨#[0,0,0,120,121,122]⟩) c/\Hid (Rw w (.returned (.pointer (some ⟨k,0,none⟩))) c)):=by
  refine(Da M _ n).mono ?_;rintro e c⟨rfl,s,u⟩;have H:Bw a c:=n.trans (s.mono n.size);exact⟨rfl,(H.cell (p:=⟨h.heap.size,2,none⟩) (Am _ _ c2)).trans c2,(H.cell (p:=⟨h.heap.size,3,none⟩) (Am _ _ c3)).trans c3,J c H,u⟩
 clear J M n aj;go_wp2_with(go_at_call 34;refine(Da HC).mono ?_;rintro e c⟨rfl,g2,g3,gc,u⟩);go_ret;exact Da u
theorem Zi4(w:World)(a:OA)(l c:Nat)(s:By)(h:Gp w a l c s)(n:Nat):
  ∀W:World,W.ownsRow 0 5 1 (.slice (some ⟨w.heap.size,0,none⟩) n n) n (madeCells (Value.int .u8 0).cells (n*1)).toList->w.grownBy W none->∃f k,(Builtin.copy_ #[59,59] 3 #[.slice (some ⟨w.heap.size,0,none⟩) n n,.slice a l c]).run prog W=.ok (goInt k) f/\Hid (Sl f 5 1 (.slice (some ⟨w.heap.size,0,none⟩) n n) n (Dc (Di s n))/\Bw w f):=by
 intro W F I;have m:=Sl.of_owns F;have i:=KX I;have z:(madeCells (Value.int .u8 0).cells (n*1)).toList=List.replicate n (.int .u8 0):=by rw[BS];exact ER (.int .u8 0) n
 rw[z]at m;have K:=h.below i
 cases a with
 |none=>
  have r:s.size=0:=by
   rcases Cj s.size with e|e
   ·exact e
   ·obtain⟨x,N,_⟩:=h.2.2 0 ((Dc s)[0]'(by rw[Dg];exact e)) (Ac _)
    cases N
  have J:l=0:=by rw[h.1,r]
  have G:=h.2.1 rfl;subst J G;refine⟨W,0,Rg W _ _ _,?_,i⟩;have:Dc (Di s n)=List.replicate n (.int .u8 0):=by
   have M:s=⟨#[]⟩:=by
    apply A8;have:s.data.toList.length=0:=by rw[<-r];exact AG
    rw[AA this]
   unfold Di;by_cases t:n<=s.size
   ·rw[if_pos t];have:n=0:=by omega
    subst this;rw[Jp];simp
   ·rw[if_neg t,Jz,Ky,r,M];simp[Dc]
  rw[this];exact m
 |some x=>
  rcases m.2 with⟨e,_⟩|⟨g,aa,L,e,E,h1,A,B,C⟩
  ·cases e
  ·cases e
   have D:L=List.replicate n (.int .u8 0):=by
    rw[<-C,Ag (by omega)]
   have o:((Dc s).take (Nat.min l n)).length=Nat.min l n*1:=by
    rw[An,Dg,h.1,BS];exact BB (FE _ _)
   obtain⟨f,Q,u,R⟩:=JS (P:=prog) W 59 59 3 5 1 w.heap.size 0 n n x l c L 5 ((Dc s).take (Nat.min l n)) underlying59 Q3 E o
    (λj v d=>by
     rw[Ao]at d
     split at d
     ·obtain⟨y,e,O⟩:=K.2.2 j v d;cases e;exact O
     ·cases d) (by rw[o,B];have:Nat.min l n<=n:=Nat.min_le_right _ _;omega) (λv d=>Ko s v (Bv d))
   refine⟨f,_,Q,?_,?_⟩
   ·have H:F2 L 0 ((Dc s).take (Nat.min l n))=Dc (Di s n):=by
     unfold F2;rw[o,D,Cs,AD,Av,BS,CP];unfold Di;by_cases q:n<=s.size
     ·have p:Nat.min l n=n:=by rw[h.1];exact C9 q
      rw[if_pos q,Jp,p];simp
     ·have p:Nat.min l n=s.size:=by rw[h.1];exact BB (by omega)
      rw[if_neg q,Jz,Ky,p,Ag (by rw[Dg];exact Aa _)]
    rw[H]at u;refine⟨by rw[Dg,Jc];omega,.inr ⟨w.heap.size,n,_,rfl,u,Aa _,A,by rw[Dg,Jc];omega,by rw[Ag (by rw[Dg,Jc];omega)]⟩⟩
   ·exact i.grown R i.size (λk e=>by cases e;exact Aa _)
theorem Xn(w:World)(a:OA)(l c:Nat)(s:By)(h:Gp w a l c s)(n:Nat)(W:World)(m:W.ownsRow 0 5 1 (.slice (some ⟨w.heap.size,0,none⟩) n n) n (madeCells (Value.int .u8 0).cells (n*1)).toList)(o:w.grownBy W none):
  ∃d k,(Builtin.copy_ #[59,59] 3 #[.slice (some ⟨w.heap.size,0,none⟩) n n,.slice a l c]).run prog W=.ok (goInt k) d/\FX d w.heap.size 5 (Dc (Di s n))/\Bw w d:=by
 obtain⟨d,k,p,i⟩:=Zi4 w a l c s h n W m o;refine⟨d,k,p,?_,(Da i).2⟩;rcases(Da i).1.2 with⟨e,_⟩|⟨g,aa,L,e,j,h1,h2,h3,f⟩
 ·cases e
 ·simp only[Bu,Em,Addr.mk.injEq]at e;obtain⟨⟨rfl,-,-⟩,-,rfl⟩:=e;rw[Ag (by omega)]at f;rw[<-f];exact j
theorem WA(s:By):Di s s.size=s:=by
 unfold Di;rw[if_pos (Aa _)];apply A8;rw[Cb,BV,E9];exact Ag (Ee AG)
theorem ZnD(s d:By)(p m:Nat)(hm:m=max s.size (p+d.size)):F2 (Dc (Di s m)) p (Dc d)=Dc (I4 s p d):=by
 unfold F2 I4;rw[Jz,Jz,Dg];by_cases h:p+d.size<=s.size
 ·rw[show m=s.size by omega,WA];have a:(Dc s).take p=Dc (Di s p):=by
   unfold Di;rw[if_pos (by omega),Jp,BV,E9]
  rw[a]
  congr 1
  split
  ·rw[Jp,Ag (by rw[Az,Dg];exact Aa _)]
  ·rw[CN (by rw[Dg];omega)];rfl
 ·have aa:m=p+d.size:=by omega
  have e:Dc (Di s m)=Dc s++List.replicate (m-s.size) (.int .u8 0):=by
   unfold Di;rw[if_neg (by omega),Jz,Ky]
  rw[e,if_neg (by omega)];have a:(Dc s++List.replicate (m-s.size) (Value.int .u8 0)).take p=Dc (Di s p):=by
   unfold Di;by_cases c:p<=s.size
   ·rw[if_pos c,Jp,BV,E9,A3 (by rw[Dg];exact c)]
   ·rw[if_neg c,Jz,Ky,Ca,Ag (by rw[Dg];omega),Dg,BM]
    congr 2
    omega
  rw[a,CN (by rw[Ab,Dg,Bj];omega)]
  rfl
def G0(w:World)(o:Option By)(v:Value):Prop:=(o=none/\v=.slice none 0 0)\/∃s g,o=some s/\v=.slice (some ⟨g,0,none⟩) s.size s.size/\FX w g 5 (Dc s)
structure GP(n0:Nat)(w:World)(sb:Nat)(b:Nat->Option By)(vs:NV):Prop where
 row:FX w sb 62 ((List.range 8).map vs)
 at':∀i,i<8->G0 w (b i) (vs i)
 lo:n0<=sb
theorem G0.kp{w w':World}{o:Option By}{v:Value}(h:G0 w o v)(e:GM w w'):G0 w' o v:=by
 rcases h with h|⟨s,g,a,c,d⟩
 ·exact .inl h
 ·exact .inr ⟨s,g,a,c,e g 5 _ d (.inr (.inl rfl))⟩
theorem G0.rd{w:World}{o:Option By}{v:Value}(h:G0 w o v):∃a l c,v=.slice a l c/\Gp w a l c (o.getD ⟨#[]⟩):=by
 rcases h with⟨rfl,rfl⟩|⟨s,g,rfl,rfl,f⟩
 ·exact⟨none,0,0,rfl,rfl,λ_=>rfl,λj v d=>by simp[Dc]at d⟩
 ·refine⟨_,_,_,rfl,rfl,(λe=>by cases e),λj v d=>⟨_,rfl,?_⟩⟩;rw[AI,Av,f.cell];exact d
section
variable{n0:Nat}{w w':World}{sb:Nat}{b:Nat->Option By}{vs:NV}
theorem GP.kp(h:GP n0 w sb b vs)(a:GM w w'):GP n0 w' sb b vs:=⟨a sb 62 _ h.row (.inl rfl),λi c=>(h.at' i c).kp a,h.lo⟩
theorem GP.cell(h:GP n0 w sb b vs){i:Nat}(a:i<8):w.cell? ⟨sb,i,none⟩=some (vs i):=by
 rw[h.row.cell,Bc,Cd a];rfl
theorem GP.set(h:GP n0 w sb b vs){i:Nat}(m:i<8){o:Option By}{v:Value}(x:G0 w o v):GP n0 (w.setCell ⟨sb,i,none⟩ v) sb (JW b i o) (λj=>if j=i then v else vs j):=by
 have r:∀g L,FX w g 5 L->FX (w.setCell ⟨sb,i,none⟩ v) g 5 L:=λg L l=>by
  have t:g≠sb:=λe=>by
   subst e;have:=l.type h.row
   revert this;decide
  exact l.fr ((Fr.of_below (X:=λk=>k=sb) (Ak _ _)).set ⟨sb,i,none⟩ v rfl) t
 have f:∀{o:Option By} {u:Value},G0 w o u->G0 (w.setCell ⟨sb,i,none⟩ v) o u:=λd=>by
  rcases d with d|⟨s,g,n,p,q⟩
  ·exact .inl d
  ·exact .inr ⟨s,g,n,p,r g _ q⟩
 refine⟨?_,λj a=>?_,h.lo⟩
 ·have:=h.row.set i v;have e:((List.range 8).map vs).set i v=(List.range 8).map (λj=>if j=i then v else vs j):=by
   apply Ep;intro j;rw[Fl,Bc,Bc,AL,AU];by_cases c:i=j
   ·subst c;rw[if_pos rfl,if_pos m,Cd m];simp
   ·rw[if_neg c];by_cases a:j<8
    ·rw[Cd a];simp[show ¬j=i from λe=>c e.symm]
    ·rw[BA (by rw[AU];omega)]
     rfl
  rw[e]at this;exact this
 ·show G0 _ (if j=i then o else b j) (if j=i then v else vs j)
  split
  ·exact f x
  ·exact f (h.at' j a)
theorem GL.setS{N:Nat}{j:World}{g tb c f:Nat}{K:KS->Prop}{a:Nat->Option By}(h:GL N n0 j w g tb c f a K)(d:GP n0 w sb b vs)(i:Nat)(v:Value):GL N n0 j (w.setCell ⟨sb,i,none⟩ v) g tb c f a K:=by
 refine h.fr62 (X:=λk=>k=sb) ?_ (λk t R e l=>?_) (λk e=>by rw[e];exact d.lo)
 ·exact(Fr.of_below (Ak _ _)).set ⟨sb,i,none⟩ v rfl
 ·subst e;exact l.type d.row
end
def JI(b:Nat->Option By):Nat->Nat
 |0=>0
 |k+1=>JI b k+if (b k).isSome=true then 1 else 0
def JZ(b:Nat->Option By):Nat->Nat
 |0=>0
 |k+1=>JZ b k+if (b k).isSome=true then(((b k).getD ⟨#[]⟩).size+63)/64 else 0
def LK(b:Nat->Option By)(k:Nat):List Nat:=(List.range k).filter (λi=>(b i).isSome)
theorem SL(b:Nat->Option By):∀k,(LK b k).length=JI b k
 |0=>rfl
 |k+1=>by
  unfold LK JI;rw[Cp,List.filter_append,Ab,<-SL b k];unfold LK
  cases h:(b k).isSome<;>simp[h]
theorem SM(b:Nat->Option By):∀k,((LK b k).map (λi=>(((b i).getD ⟨#[]⟩).size+63)/64)).sum=JZ b k
 |0=>rfl
 |k+1=>by
  unfold LK JZ;rw[Cp,List.filter_append,Bq,List.sum_append,<-SM b k];unfold LK
  cases h:(b k).isSome<;>simp[h]
theorem SV(b:Nat->Option By):∀k,JI b k<=k
 |0=>Aa _
 |k+1=>by
  have:=SV b k;unfold JI
  split<;>omega
section
variable{b:Nat->Option By}{G:Gh}{I:LF}{CI:IB}
def Nl(G:Gh)(i:Nat):LY×VS:=([fn i],(Gl G [fn i]).getD ⟨none,0⟩)
theorem F5.perm(h:F5 b G I CI):List.Perm ((LK b 8).map (Nl G)) G:=by
 have q:∀{l:List (LY×VS)},(l.map (·.1)).Nodup->l.Nodup:=λ{l} p=>by
  rw[AJ,Bl]at p;rw[AJ];exact p.imp (λ{a b} t e=>t (by rw[e]))
 have n:∀i,i∈LK b 8->i<8/\∃s,b i=some s:=λi c=>by
  obtain⟨d,r⟩:=EN.1 c;exact⟨A4.1 d,E8.1 r⟩
 refine(Cv (q ?_) (q h.fl.nd)).2 (λx=>?_)
 ·rw[Ci,AJ,Bl];have:(LK b 8).Nodup:=List.nodup_range.filter _;rw[AJ]at this;refine this.imp_of_mem (λ{i j} c v u e=>u ?_);have m:[fn i]=[fn j]:=e;injection m with m;exact Q4 (n i c).1 (n j v).1 m
 ·constructor
  ·intro k;obtain⟨i,c,rfl⟩:=As.1 k;obtain⟨g,s,y⟩:=n i c;obtain⟨f,d,_⟩:=h.yes i g s y;unfold Nl;rw[KL h.fl.nd d];exact d
  ·intro k;obtain⟨i,g,e⟩:=h.nm x k;have o:(x.1,x.2)∈G:=k;rw[e]at o;refine As.2 ⟨i,EN.2 ⟨A4.2 g,?_⟩,?_⟩
   ·cases hb:b i with
    |none=>exact absurd o (h.no i g hb _)
    |some s=>rfl
   ·unfold Nl;rw[KL h.fl.nd o];exact FP e.symm rfl
theorem F5.glen(h:F5 b G I CI):G.length=JI b 8:=by
 have:=h.perm.length_eq;rw[AL,SL]at this;exact this.symm
theorem F5.pnum(h:F5 b G I CI)(j:Gm I):List.Perm (I.map (·.1)) (G.map (λy=>y.2.f)):=by
 refine(Cv j.nd ?_).2 (λf=>?_)
 ·rw[AJ,Bl];have g:=h.fl.nd;rw[AJ,Bl]at g;refine g.imp_of_mem (λ{x y} d a k e=>k ?_);rw[h.fl.inj x d y a e]
 ·constructor
  ·intro c;obtain⟨x,d,rfl⟩:=As.1 c;obtain⟨_,_,y,a,e⟩:=h.fl.back x d;exact As.2 ⟨y,a,e⟩
  ·intro c;obtain⟨y,a,rfl⟩:=As.1 c;obtain⟨r,i⟩:=h.fl.num y a;exact As.2 ⟨_,i,rfl⟩
theorem F5.usage(h:F5 b G I CI)(l:Gm I):DO (I.map (·.2.l))=JZ b 8:=by
 have c:DO (I.map (·.2.l))=((I.map (·.1)).map (λf=>((CI f).size+63)/64)).sum:=by
  unfold DO;rw[Ci,Ci]
  congr 1
  refine Cq (λx m=>?_);show(x.2.l+63)/64=((CI x.1).size+63)/64;rw[(h.fl.back x m).2.1]
 rw[c,((h.pnum l).map _).sum_nat,Ci,<-(h.perm.map _).sum_nat,Ci,<-SM]
 congr 1
 refine Cq (λi k=>?_);obtain⟨g,j⟩:=EN.1 k;obtain⟨s,a⟩:=E8.1 j;obtain⟨f,d,e⟩:=h.yes i (A4.1 g) s a;show((CI (Nl G i).2.f).size+63)/64=_;unfold Nl;rw[KL h.fl.nd d,a];show((CI (f:Int)).size+63)/64=_;rw[e];rfl
theorem F5.elen(h:F5 b G I CI){w:World}{tb c:Nat}{V:NV}{E:NS}{p:Value}(g:TW w tb c V E p G I CI):(E c).length=JI b 8:=by
 have j:FY G c [] c:=.inl ⟨rfl,rfl⟩;have k:=(g.d.srt [] c j).nodup;have m:=Qh ((E c).map (λx=>([x.1],x.2))) G (by
  rw[AJ,Bl]at k ⊢;refine k.imp (λ{a b} l e=>l ?_);rw[A9]at e;have:=e.1;injection this) (λx i=>by
  obtain⟨y,d,rfl⟩:=As.1 i;exact(h.fl.root g d).1)
 have o:=Qh (G.map (·.1)) ((E c).map (λx=>[x.1])) h.fl.nd (λx i=>by
  obtain⟨y,d,rfl⟩:=As.1 i;obtain⟨n,f,rfl,_⟩:=h.fl.fil y d;exact As.2 ⟨_,(g.d.en [] c j n _).2 d,rfl⟩)
 rw[AL]at m;rw[AL,AL]at o;have:=h.glen;omega
end
section
variable{w:World}{vb:Nat}{b:Nat->Option By}
def Mg(w:World)(o:Option By)(e:Ending)(w':World):Prop:=
 ((o=none/\e=.returned (.tuple #[.slice none 0 0,.int .i64 3]))\/∃s x,o=some s/\e=.returned (.tuple #[.slice (some ⟨x,0,none⟩) s.size s.size,.int .i64 0])/\Sl w' 5 1 (.slice (some ⟨x,0,none⟩) s.size s.size) s.size (Dc s))/\Bw w w'
theorem Zn0(s:By)(h:s.size<=1280):Lc s 0 1280=s:=by
 unfold Lc;have a:min (0:Int).toNat s.size=0:=by simp
 have c:min (1280:Int).toNat (s.size-0)=s.size:=by show min 1280 _=_;omega
 rw[a,c,Av];apply A8;rw[Cb,BV,E9];exact Ag (Ee AG)
theorem M0(h:ID w vb b){i:Nat}(j:i<8):Cl 55 #[.pointer (some ⟨vb,0,none⟩),.string (GC i),.int .i64 0,.int .i64 1280] w (Mg w (b i)):=by
 obtain⟨tb,G,I,CI,F,⟨J,V,E,K,o⟩,a⟩:=h;have ab:=a.fl.le;have ac:=a.fl.ilen o.si;have r:∀e w',QB w G CI (GC i) 0 1280 e w'->Mg w (b i) e w':=by
  rintro e w'⟨q,y⟩;refine⟨?_,y⟩;have k:Lo G (GC i) 0 1280=DJ G (GC i) true:=rfl
  cases hbi:b i with
  |none=>
   have n:=a.nofile j hbi;rcases q with⟨_,rfl⟩|⟨c,_⟩
   ·refine .inl ⟨rfl,?_⟩;rw[k,n]
   ·rw[k,n]at c;cases c
  |some s=>
   have c:=a.file j hbi;obtain⟨f,t,v,l⟩:=a.at j hbi;rcases q with⟨B,_⟩|⟨_,u,p,_,x,m,rfl,_,d⟩
   ·exact absurd (k.trans c) B
   ·rw[t]at p
    cases p
    have D:s.size<=1280:=by have:=a.fl.sz _ v;rw[<-l];exact this
    have z:CI (f:Int)=s:=l;rw[show CI (VS.mk none (f:Int)).f=s from z,Zn0 s D]at d;have A:m=s.size:=by
     rcases d.2 with⟨e,_⟩|⟨g,aa,L,e,_,_,_,_,h4⟩
     ·cases e
     ·have:=d.1;rw[Dg]at this;omega
    subst A;exact .inr ⟨s,x,rfl,rfl,d⟩
 exact(L6 w vb tb F (GC i) 0 1280 (QB w G CI (GC i) 0 1280) (λe w' C=>by
  rcases(r e w' C).1 with⟨_,rfl⟩|⟨s,x,_,rfl,_⟩
  ·exact⟨_,_,_,_,rfl⟩
  ·exact⟨_,_,_,_,rfl⟩) (WH w tb J V E K G I CI o a.fl.gok (by omega) (by omega) a.fl.flok (λx H=>(a.fl.csz H).1) (GC i) (by have:=(Ke j).2.2;omega) 0 1280 (by omega) (by omega))).mono r
theorem Mj(h:ID w vb b):Cl 34 #[.pointer (some ⟨vb,0,none⟩)] w λe w'=>e=.returned (.int .i64 (JZ b 8:Nat))/\Bw w w':=by
 obtain⟨tb,G,I,CI,f,⟨rd,V,E,i,a⟩,c⟩:=h;have aa:=c.fl.le;have ab:=c.fl.ilen a.si;refine Sn w vb tb f _ (λe w' d=>⟨_,d.1⟩) ?_;rw[<-c.usage a.si];exact RN w tb _ i I a.t a.i (by omega) (λx g=>by have:=(c.fl.csz g).2.1;omega)
theorem M9(h:ID w vb b):Cl 56 #[.pointer (some ⟨vb,0,none⟩),.string ⟨#[47]⟩] w λe w'=>(∃a c,e=.returned (.tuple #[.slice a (JI b 8) c,.int .i64 0]))/\Bw w w':=by
 obtain⟨tb,G,I,CI,t,⟨f,V,E,u,i⟩,d⟩:=h;have ab:=d.fl.le;have ac:=d.fl.ilen i.si;have j:Df ⟨#[47]⟩=[]:=by kernel_rfl
 have q:DS ⟨#[47]⟩=true:=by kernel_rfl
 have s:Hx G ⟨#[47]⟩=0:=by
  unfold Hx DN;rw[q,j]
  rfl
 have k:∀e w',Pj w G I (Df ⟨#[47]⟩) (E f) e w'->(∃a c,e=.returned (.tuple #[.slice a (JI b 8) c,.int .i64 0]))/\Bw w w':=by
  rintro e w'⟨⟨a,n,c,es,rfl,l,m⟩,o⟩;refine⟨?_,o⟩;have p:n=JI b 8:=by
   rw[<-d.elen i,<-m.1];rcases l.2 with⟨e,h0⟩|⟨g,aa,L,e,_⟩
   ·simp only[Bu]at e;omega
   ·simp only[Bu]at e;exact e.2.1
  subst p;exact⟨a,c,rfl⟩
 exact(M8 w vb tb t ⟨#[47]⟩ (Pj w G I (Df ⟨#[47]⟩) (E f)) (λe w' r=>by
  obtain⟨⟨a,c,rfl⟩,_⟩:=k e w' r;exact⟨_,_,_,_,rfl⟩) (Zks w tb f V E u G I CI i d.fl.gok (by omega) (by omega) d.fl.flok ⟨#[47]⟩ (by show 1<=_;omega) s f (.inl ⟨j,rfl⟩) (.inl j))).mono k
end
theorem Tv{b:Nat->Option By}(h:∀i,i<8->((b i).getD ⟨#[]⟩).size<=1280):∀k,k<=8->JZ b k<=20*k
 |0,_=>Aa _
 |k+1,hk=>by
  have ih:=Tv h k (by omega);have:=h k (by omega);unfold JZ
  split<;>omega
theorem ID.sizes{w:World}{g:Nat}{b:Nat->Option By}(h:ID w g b){i:Nat}(e:i<8):((b i).getD ⟨#[]⟩).size<=1280:=by
 obtain⟨tb,G,I,CI,_,_,a⟩:=h
 cases hb:b i with
 |none=>show 0<=1280;omega
 |some s=>
  obtain⟨f,c,d⟩:=a.yes i e s hb;have:=a.fl.sz _ c;show s.size<=1280;rw[<-d];exact this
theorem Zmu(w:World):(binOp .eql 59 (.slice none 0 0) (.slice none 0 0)).run prog w=.ok (.bool true) w:=Lib.run_eql_slice_nil w 59 5 none 0 0 0 0 underlying59
theorem ZkI(a:Addr)(l c:Nat)(w:World):(binOp .eql 59 (.slice (some a) l c) (.slice none 0 0)).run prog w=.ok (.bool false) w:=Lib.run_eql_slice_nil w 59 5 (some a) l c 0 0 underlying59
theorem Wt{S:Nat}{w:World}{r q:Nat}{b:Nat->Option By}{vs:NV}(h:ID w r b)(I:GP S w q b vs):
  Cl 29 #[.pointer (some ⟨q,0,none⟩),.pointer (some ⟨r,0,none⟩)] w λe w'=>e=.returned (.bool true)/\Bw w w':=by
 have C:Hid (∀i,i<8->((b i).getD ⟨#[]⟩).size<=1280):=λi R=>h.sizes R
 have E:=Db I;have N:=Db h;clear h I;have ac:=Zmu;have ad:=ZkI;go_enter func29,ntmps29;go_wp2
 go_loopw [5,6,7] (λn T i wr=>∃k:Nat,k<=8/\n=.int .i64 (JI b k:Nat)/\T=.int .i64 (JZ b k:Nat)/\i=.int .i64 k/\Hid (Bw w wr)) (λ_ _ i _=>8-(intOf i).toNat)
 case atStart=>exact⟨0,by omega,rfl,rfl,rfl,Ak _ _⟩
 case round=>
  obtain⟨k,A,rfl,rfl,rfl,l⟩:=hrel;have o:=(Da N).below (Da l);have J:=(Da E).kp (GM.below (Da l));have af:=Tv (Da C) k A;have aa:=SV b k;by_cases j:k<8
  ·have ab:(k:Int)<8:=by omega
   have M:Hid (Cl 72 #[.int .i64 k] wr λe X=>e=.returned (.string (GC k))/\Hid (Cl 55 #[.pointer (some ⟨r,0,none⟩),.string (GC k),.int .i64 0,.int .i64 1280] X λe Y=>Hid (Bw w Y)/\((b k=none/\e=.returned (.tuple #[.slice none 0 0,.int .i64 3])/\Y.cell? ⟨q,k,none⟩=some (.slice none 0 0))\/∃s x g,b k=some s/\e=.returned (.tuple #[.slice (some ⟨x,0,none⟩) s.size s.size,.int .i64 0])/\Y.cell? ⟨q,k,none⟩=some (.slice (some ⟨g,0,none⟩) s.size s.size)/\(convert 59 9 (.slice (some ⟨x,0,none⟩) s.size s.size)).run prog Y.drew=.ok (.string s) Y.drew/\(convert 59 9 (.slice (some ⟨g,0,none⟩) s.size s.size)).run prog Y.drew=.ok (.string s) Y.drew))):=by
    refine(Og wr k j).mono ?_;rintro e X⟨rfl,m⟩;refine⟨rfl,?_⟩;refine(M0 (o.below m) j).mono ?_;rintro e Y⟨Q,z⟩;have p:Bw w X:=(Da l).trans (m.mono (Da l).size);have K:Bw w Y:=p.trans (z.mono p.size);have B:=(Da E).kp (GM.below K);refine⟨K,?_⟩;have F:=B.cell j;rcases Q with⟨d,rfl⟩|⟨s,x,d,rfl,P⟩
    ·rcases B.at' k j with⟨_,D⟩|⟨s,g,f,_⟩
     ·exact .inl ⟨d,rfl,by rw[<-D];exact F⟩
     ·rw[d]at f;cases f
    ·rcases B.at' k j with⟨f,_⟩|⟨s',g,f,D,H⟩
     ·rw[d]at f;cases f
     ·rw[d]at f
      cases f
      have G:Bw Y Y.drew:=(Ak _ _).drew;refine .inr ⟨s,x,g,d,rfl,by rw[<-D];exact F,Va (P.kept (λk A _=>G.block k A)) rfl,Va ⟨by rw[Dg,BS],.inr ⟨g,s.size,_,rfl,(G.block _ H.lt).trans H,Aa _,?_,by rw[Dg,BS],by rw[Ag (by rw[Dg];omega)]⟩⟩ rfl⟩;have:=Da C k j;rw[d]at this;have h2:s.size<=1280:=this;unfold maxLen;omega
   clear o J;go_upto_region 9 with(first|(go_at_call 72;refine(Da M).mono ?_;rintro e X⟨rfl,u⟩)|(go_at_call 55;refine(Da u).mono ?_;rintro e Y⟨t,⟨d,rfl,O⟩|⟨s,x,g,d,rfl,O,v1,v2⟩⟩))
   ·have v:JI b (k+1)=JI b k:=by
     show JI b k+(if (b k).isSome=true then 1 else 0)=_;rw[d];rfl
    have y:JZ b (k+1)=JZ b k:=by
     show JZ b k+(if (b k).isSome=true then _ else 0)=_;rw[d];rfl
    go_wp2
    go_roundw
    case rel=>exact⟨k+1,by omega,by rw[v],by rw[y],by go_num,t⟩
    case measure=>simp[intOf];omega
   ·have ae:s.size<=1280:=by
     have:=Da C k j;rw[d]at this;exact this
    have v:JI b (k+1)=JI b k+1:=by
     show JI b k+(if (b k).isSome=true then 1 else 0)=_;rw[d];rfl
    have y:JZ b (k+1)=JZ b k+(s.size+63)/64:=by
     show JZ b k+(if (b k).isSome=true then _ else 0)=_;rw[d];rfl
    go_upto_region 14 with fail
    go_region_held3 (λW=>W.cell? ⟨q,k,none⟩=some (.slice (some ⟨g,0,none⟩) s.size s.size)/\(convert 59 9 (.slice (some ⟨x,0,none⟩) s.size s.size)).run prog W=.ok (.string s) W/\(convert 59 9 (.slice (some ⟨g,0,none⟩) s.size s.size)).run prog W=.ok (.string s) W) (go_keep) (fail)
    go_wp2;refine⟨⟨k+1,by omega,Cu (Value.int .i64) (by rw[v];omega),Cu (Value.int .i64) (by rw[y];omega),by go_num,(Da t).drew⟩,by simp[intOf];omega⟩
  ·obtain rfl:k=8:=by omega
   have L:Hid (Cl 56 #[.pointer (some ⟨r,0,none⟩),.string ⟨#[47]⟩] wr λe X=>∃a c,e=.returned (.tuple #[.slice a (JI b 8) c,.int .i64 0])/\Hid (Cl 34 #[.pointer (some ⟨r,0,none⟩)] X λe Y=>e=.returned (.int .i64 (JZ b 8:Nat))/\Hid (Bw w Y))):=by
    refine(M9 o).mono ?_;rintro e X⟨⟨a,c,rfl⟩,m⟩;refine⟨a,c,rfl,?_⟩;refine(Mj (o.below m)).mono ?_;rintro e Y⟨rfl,z⟩;have p:Bw w X:=(Da l).trans (m.mono (Da l).size);exact⟨rfl,p.trans (z.mono p.size)⟩
   clear o J;go_wp2_with(first|(go_at_call 56;refine(Da L).mono ?_;rintro e X⟨a,c,rfl,u⟩)|(go_at_call 34;refine(Da u).mono ?_;rintro e Y⟨rfl,t⟩));go_ret;exact⟨by simp,Da t⟩
def Vh(N n0:Nat)(w0 w:World)(vb tb db stb sb:Nat)(K:KS->Prop)(e:Ending)(w':World):Prop:=e=.returned (.bool true)/\∃b vs,GL N n0 w0 w' vb tb db stb b K/\GP n0 w' sb b vs/\XJ sb w w'
section
variable{N n0:Nat}{w0 w:World}{vb tb db stb sb:Nat}{b:Nat->Option By}{vs:NV}{K:KS->Prop}
theorem GH.tdiv{c:Int}(h:GH c)(m:Nat):GH (c.tdiv m):=by
 obtain⟨h1,h2⟩:=h;unfold GH;rcases Int.le_total 0 c with d|d
 ·rw[FO d];have f:=Int.ediv_nonneg d (cP m);have g:=Int.ediv_le_self (b:=(m:Int)) d;omega
 ·have e:c.tdiv m = -((-c)/(m:Int)):=by
   rw[<-FO (by omega),Int.neg_tdiv,Int.neg_neg]
  rw[e];have f:=Int.ediv_nonneg (a:=-c) (by omega) (cP m);have g:=Int.ediv_le_self (a:=-c) (b:=(m:Int)) (by omega);omega
theorem GL.sizes(h:GL N n0 w0 w vb tb db stb b K){i:Nat}(e:i<8):Hid (((b i).getD ⟨#[]⟩).size<=1280):=by
 show((b i).getD ⟨#[]⟩).size<=1280;obtain⟨G,I,CI,_,a⟩:=h.tr
 cases hb:b i with
 |none=>show 0<=1280;omega
 |some s=>
  obtain⟨f,c,d⟩:=a.yes i e s hb;have:=a.fl.sz _ c;show s.size<=1280;rw[<-d];exact this
theorem KH(h:GL N n0 w0 w vb tb db stb b K)(hs:GP n0 w sb b vs){i:Nat}(r:i<8)(c:Int)(hc:GH c)(n p q m:Nat)(an:n<=1280)(hq:p+q=n)(a:OA)(l t:Nat)(u:vs i=.slice a l t)(H:m=if 0<q then max l n else l)(U:q=0->p=0)(pv:Int)(ai:pv=(p:Int))(J:Nat)(af:J=m-p):
  Cl 73 #[.int .i64 c,.int .i64 (q:Nat)] w λe X=>∃D:Nat,e=.returned (.slice (some ⟨D,0,none⟩) q q)/\Hid (Cl 72 #[.int .i64 i] X λe x=>e=.returned (.string (GC i))/\Hid (Cl 59 #[.pointer (some ⟨vb,0,none⟩),.string (GC i),.int .i64 pv,.slice (some ⟨D,0,none⟩) q q] x λe Y=>e=.returned (.int .i64 0)/\Y.cell? ⟨sb,i,none⟩=some (.slice a l t)/\
   Hid (∀W:World,W.ownsRow 0 5 1 (.slice (some ⟨Y.heap.size,0,none⟩) m m) m (madeCells (Value.int .u8 0).cells (m*1)).toList->Y.grownBy W none->W.cell? ⟨sb,i,none⟩=some (.slice a l t)/\∃f kk,(Builtin.copy_ #[59,59] 3 #[.slice (some ⟨Y.heap.size,0,none⟩) m m,.slice a l t]).run prog W=.ok (goInt kk) f/\
   ∃g k2,(Builtin.copy_ #[59,59] 3 #[.slice (some ⟨Y.heap.size,p,none⟩) J J,.slice (some ⟨D,0,none⟩) q q]).run prog f=.ok (goInt k2) g/\g.cell? ⟨sb,i,none⟩=some (.slice a l t)/\g.frozen? ⟨sb,i,none⟩=false/\
   Hid (Vh N n0 w0 w vb tb db stb sb K (.returned (.bool true)) (g.setCell ⟨sb,i,none⟩ (.slice (some ⟨Y.heap.size,0,none⟩) m m)))))):=by
 subst ai af;refine(Zje w c q hc (by omega)).mono ?_;rintro e X⟨d,Q,rfl,M,E⟩;refine⟨w.heap.size,rfl,?_⟩;refine(Og X i r).mono ?_;rintro e x⟨rfl,z⟩;refine⟨rfl,?_⟩;have O:FX x w.heap.size 5 (Dc d):=(z.block _ M.lt).trans M;have h2:=(h.below E).below z;have ak:=(hs.kp (GM.below E)).kp (GM.below z);have am:Sl x 5 1 (.slice (some ⟨w.heap.size,0,none⟩) d.size d.size) d.size (Dc d):=⟨by rw[Dg,BS],.inr ⟨w.heap.size,d.size,_,rfl,O,Aa _,by unfold maxLen;omega,by rw[Dg,BS],by rw[Ag (by rw[Dg];omega)]⟩⟩;have Z:=Mi h2 r p d (by omega) (some ⟨w.heap.size,0,none⟩) d.size am;rw[Q]at Z;refine Z.mono ?_;rintro e Y⟨rfl,hY,G⟩;have B:=ak.kp G.k6;have P:FX Y w.heap.size 5 (Dc d):=G.k6 _ _ _ O (.inr (.inl rfl));refine⟨rfl,by rw[<-u];exact B.cell r,λW ag S=>?_⟩;have ab:=KX S;have al:=B.kp (GM.below ab);refine⟨by rw[<-u];exact al.cell r,?_⟩;obtain⟨a',l',c',C,I⟩:=(B.at' i r).rd;rw[u]at C;simp only[Bu]at C;obtain⟨rfl,rfl,rfl⟩:=C;have ad:=I.1;obtain⟨s,V⟩:=ex ((b i).getD ⟨#[]⟩);rw[<-V]at I ad;obtain⟨f,kk,r1,r2,L⟩:=Xn Y a l t s I m W ag S;refine⟨f,kk,r1,?_⟩;have aa:FX f w.heap.size 5 (Dc d):=(L.block _ P.lt).trans P;have aj:Gp f (some ⟨w.heap.size,0,none⟩) q q d:=⟨Q.symm,(λe=>by cases e),λj v u=>⟨_,rfl,by rw[AI,Av,aa.cell];exact u⟩⟩;have ae:p+q<=m\/q=0:=by
  by_cases y:0<q
  ·rw[if_pos y]at H;left;omega
  ·right;omega
 have ao:p<=m:=by
  rcases ae with e|e
  ·omega
  ·have:=U e;omega
 obtain⟨g,q1,q2,q3⟩:=NR f Y.heap.size 5 _ r2 p (m-p) (m-p) (some ⟨w.heap.size,0,none⟩) q q d aj (by omega) (by rw[Dg,Jc];omega);have R:F2 (Dc (Di s m)) p (Dc d)=Dc (MO (b i) p d)/\(MO (b i) p d).size=m:=by
  unfold MO Hu;rw[<-V,Bp];by_cases y:0<q
  ·rw[if_neg (by omega)];rw[if_pos y]at H;refine⟨ZnD s d p m (by omega),?_⟩;rw[Ug];omega
  ·rw[if_pos (by omega)];rw[if_neg y]at H;have ah:=U (by omega);subst ah;have T:m=s.size:=by omega
   refine⟨?_,T.symm⟩;have ac:Dc d=[]:=AA (by rw[Dg];omega);rw[ac,T,WA];unfold F2;simp
 rw[R.1]at q2;have F:Bw Y g:=L.grown q3 L.size (λk e=>by cases e;exact Aa _);have A:=B.kp (GM.below F);refine⟨g,d.size,q1,by rw[<-u];exact A.cell r,A.row.frozen i,rfl,_,_,(hY.below F).setS A i _,A.set r (o:=some (MO (b i) p d)) (.inr ⟨_,Y.heap.size,rfl,by rw[R.2],q2⟩),Hb.set ((((Hb.below E).trans (Hb.below z)).trans G).trans (Hb.below F)) _ _ _⟩
theorem ZZ(h:GL N n0 w0 w vb tb db stb b K)(D:GP n0 w sb b vs){i:Nat}(c:i<8)(n:Nat)(A:n<=1280){s:By}{g:Nat}(u:b i=some s)(f:vs i=.slice (some ⟨g,0,none⟩) s.size s.size)(x:FX w g 5 (Dc s)):
  Cl 72 #[.int .i64 i] w λe X=>e=.returned (.string (GC i))/\Hid (Cl 60 #[.pointer (some ⟨vb,0,none⟩),.string (GC i),.int .i64 (n:Nat)] X λe Y=>e=.returned (.int .i64 0)/\
   Hid (∀W:World,W.ownsRow 0 5 1 (.slice (some ⟨Y.heap.size,0,none⟩) n n) n (madeCells (Value.int .u8 0).cells (n*1)).toList->Y.grownBy W none->W.cell? ⟨sb,i,none⟩=some (.slice (some ⟨g,0,none⟩) s.size s.size)/\∃a kk,(Builtin.copy_ #[59,59] 3 #[.slice (some ⟨Y.heap.size,0,none⟩) n n,.slice (some ⟨g,0,none⟩) s.size s.size]).run prog W=.ok (goInt kk) a/\a.cell? ⟨sb,i,none⟩=some (.slice (some ⟨g,0,none⟩) s.size s.size)/\a.frozen? ⟨sb,i,none⟩=false/\
   Hid (Vh N n0 w0 w vb tb db stb sb K (.returned (.bool true)) (a.setCell ⟨sb,i,none⟩ (.slice (some ⟨Y.heap.size,0,none⟩) n n))))):=by
 refine(Og w i c).mono ?_;rintro e X⟨rfl,m⟩;refine⟨rfl,?_⟩;refine(OY (h.below m) c u n A).mono ?_;rintro e Y⟨rfl,t,z⟩;have k:Hb w Y:=(Hb.below m).trans z;have q:=D.kp k.k6;have y:=k.k6 _ _ _ x (.inr (.inl rfl));refine⟨rfl,λW B p=>?_⟩;have r:=KX p;refine⟨by rw[<-f];exact(q.kp (GM.below r)).cell c,?_⟩;have C:Gp Y (some ⟨g,0,none⟩) s.size s.size s:=⟨rfl,(λe=>by cases e),λj v f=>⟨_,rfl,by rw[AI,Av,y.cell];exact f⟩⟩;obtain⟨a,kk,E,F,l⟩:=Xn Y _ _ _ s C n W B p;have d:=q.kp (GM.below l);exact⟨a,kk,E,by rw[<-f];exact d.cell c,d.row.frozen i,rfl,_,_,(t.below l).setS d i _,d.set c (o:=some (Di s n)) (.inr ⟨_,Y.heap.size,rfl,by rw[Jc],F⟩),Hb.set (k.trans (Hb.below l)) _ _ _⟩
theorem Zk8(h:GL N n0 w0 w vb tb db stb b K)(z:GP n0 w sb b vs)(c:Int)(hc:GH c):
  Cl 25 #[.pointer (some ⟨sb,0,none⟩),.pointer (some ⟨vb,0,none⟩),.int .i64 c] w (Vh N n0 w0 w vb tb db stb sb K):=by
 obtain⟨c8,h8⟩:∃x,x=c.tdiv 8:=⟨_,rfl⟩;obtain⟨aa,ag⟩:∃x,x=c.tdiv 32:=⟨_,rfl⟩;have ae:GH c8:=by rw[h8];exact hc.tdiv 8
 have ad:GH aa:=by rw[ag];exact hc.tdiv 32
 obtain⟨i,hi⟩:∃x,x=Kj c 8:=⟨_,rfl⟩;obtain⟨k,hk⟩:∃x,x=Kj c8 4:=⟨_,rfl⟩;obtain⟨n,hn⟩:∃x,x=Kj aa 1281:=⟨_,rfl⟩;have A:i<8:=by rw[hi];exact NX _ (by omega)
 have az:k<4:=by rw[hk];exact NX _ (by omega)
 have Z:n<=1280:=by have:=NX aa (n:=1281) (by omega);omega
 have p1:=Oh w c 8 hc (by omega) (by omega);have p2:=Oh w c8 4 ae (by omega) (by omega);have p3:=Oh w aa 1281 ad (by omega) (by omega);rw[<-hi]at p1;rw[<-hk]at p2;rw[<-hn]at p3;have w8:IntKind.i64.wrap (c.tdiv 8)=c8:=by rw[<-h8,AV];have:=ae.1;have:=ae.2;omega
 have aA:IntKind.i64.wrap (c.tdiv 32)=aa:=by rw[<-ag,AV];have:=ad.1;have:=ad.2;omega
 have P1:=Db p1;have P2:=Db p2;have P3:=Db p3;have I:=Db hc;clear p1 p2 p3 hi hk hn ae ad hc h8 ag;have ab:=z.cell A;go_enter func25,ntmps25;go_upto_region 2 with(go_at_call 24;refine(Da P1).mono ?_;rintro e w'⟨rfl,rfl⟩);go_upto_region 3 with(go_at_call 24;refine(Da P2).mono ?_;rintro e w'⟨rfl,rfl⟩);go_upto_region 4 with(go_at_call 24;refine(Da P3).mono ?_;rintro e w'⟨rfl,rfl⟩);clear P1 P2 P3;have ay:=z.row.frozen i;obtain⟨H,C,E,F,G⟩:=BT KG;by_cases an:k=0
 ·subst an;rcases z.at' i A with⟨hb,u⟩|⟨s,g,hb,u,hg⟩
  ·rw[u]at ab;by_cases W:n=0
   ·subst W;have f:=Db (KH h z A c (Da I) 0 0 0 0 (by omega) rfl none 0 0 u (by rw[if_neg (by omega)]) (λ_=>rfl) 0 rfl 0 rfl);clear z h u;go_upto_region 18 with(go_at_call 73;refine(Da f).mono ?_;rintro e X⟨D,rfl,d⟩);clear f;go_upto_region 19 with(first|(go_at_call 72;refine(Da d).mono ?_;rintro e R⟨rfl,v⟩)|(go_at_call 59;refine(Da v).mono ?_;rintro e Y⟨rfl,O,r⟩));clear d v;go_upto_region 22 with fail;go_upto_region 23 with(at_make;refine Bz _ rfl _ _ 59 rfl 0 5 H (.int .u8 0) 1 underlying59 C E F _ _ _ _ 0 rfl rfl rfl rfl (by rw[G];omega) (by unfold maxLen;omega) (Au _) ?_;intro w1 m j;obtain⟨L,J,kk,t,Q,S,y,M,P,B⟩:=Da r w1 m j;clear m j);clear r;go_upto_region 24 with(at_builtin;refine D4 _ rfl _ _ 59 59 rfl _ _ rfl rfl t ?_);clear t;go_upto_region 25 with(at_builtin;refine D4 _ rfl _ _ 59 59 rfl _ _ rfl rfl y ?_);clear y;go_wp2;go_ret;exact Da B
   ·have aj:0<n:=by omega
    have f:=Db (KH h z A c (Da I) n 0 n n Z (by omega) none 0 0 u (by rw[if_pos (by omega)];omega) (by omega) 0 rfl n rfl);have U:min (0:Int) (n:Int)=0:=by omega
    clear z h u;go_upto_region 18 with(go_at_call 73;refine(Da f).mono ?_;rintro e X⟨D,rfl,d⟩);clear f;go_upto_region 19 with(first|(go_at_call 72;refine(Da d).mono ?_;rintro e R⟨rfl,v⟩)|(go_at_call 59;refine(Da v).mono ?_;rintro e Y⟨rfl,O,r⟩));clear d v;go_upto_region 22 with fail;go_upto_region 23 with(at_make;refine Bz _ rfl _ _ 59 rfl 0 5 H (.int .u8 0) 1 underlying59 C E F _ _ _ _ n rfl rfl rfl rfl (by rw[G];omega) (by unfold maxLen;omega) (Au _) ?_;intro w1 m j;obtain⟨L,J,kk,t,Q,S,y,M,P,B⟩:=Da r w1 m j;clear m j);clear r;go_upto_region 24 with(at_builtin;refine D4 _ rfl _ _ 59 59 rfl _ _ rfl rfl t ?_);clear t;go_upto_region 25 with(at_builtin;refine D4 _ rfl _ _ 59 59 rfl _ _ rfl rfl y ?_);clear y;go_wp2;go_ret;exact Da B
  ·rw[u]at ab;have HP:Hid (Cl 72 #[.int .i64 i] w' λe X=>e=.returned (.string (GC i))/\Hid (Cl 63 #[.pointer (some ⟨vb,0,none⟩),.string (GC i)] X λe Y=>e=.returned (.int .i64 0)/\Y.cell? ⟨sb,i,none⟩=some (vs i)/\Y.frozen? ⟨sb,i,none⟩=false/\Hid (Vh N n0 w0 w' vb tb db stb sb K (.returned (.bool true)) (Y.setCell ⟨sb,i,none⟩ (.slice none 0 0))))):=by
    refine(Og w' i A).mono ?_;rintro e X⟨rfl,hX⟩;refine⟨rfl,?_⟩;refine(YB (h.below hX) A hb).mono ?_;rintro e Y⟨rfl,hY,ak⟩;have af:=(z.kp (GM.below hX)).kp ak.k6;refine⟨rfl,af.cell A,af.row.frozen i,rfl,_,_,?_,af.set A (o:=none) (.inl ⟨rfl,rfl⟩),Hb.set ((Hb.below hX).trans ak) _ _ _⟩;exact hY.setS af i _
   clear z h hg;go_wp2_with(first|(go_at_call 72;refine(Da HP).mono ?_;rintro e X⟨rfl,d⟩)|(go_at_call 63;refine(Da d).mono ?_;rintro e Y⟨rfl,O,fY,f⟩));go_ret;exact Da f
 ·by_cases ao:k=1
  ·subst ao;rcases z.at' i A with⟨hb,u⟩|⟨s,g,hb,u,hg⟩
   ·rw[u]at ab;by_cases W:n=0
    ·subst W;have f:=Db (KH h z A c (Da I) 0 0 0 0 (by omega) rfl none 0 0 u (by rw[if_neg (by omega)]) (λ_=>rfl) 0 rfl 0 rfl);clear z h u;go_upto_region 18 with(go_at_call 73;refine(Da f).mono ?_;rintro e X⟨D,rfl,d⟩);clear f;go_upto_region 19 with(first|(go_at_call 72;refine(Da d).mono ?_;rintro e R⟨rfl,v⟩)|(go_at_call 59;refine(Da v).mono ?_;rintro e Y⟨rfl,O,r⟩));clear d v;go_upto_region 22 with fail;go_upto_region 23 with(at_make;refine Bz _ rfl _ _ 59 rfl 0 5 H (.int .u8 0) 1 underlying59 C E F _ _ _ _ 0 rfl rfl rfl rfl (by rw[G];omega) (by unfold maxLen;omega) (Au _) ?_;intro w1 m j;obtain⟨L,J,kk,t,Q,S,y,M,P,B⟩:=Da r w1 m j;clear m j);clear r;go_upto_region 24 with(at_builtin;refine D4 _ rfl _ _ 59 59 rfl _ _ rfl rfl t ?_);clear t;go_upto_region 25 with(at_builtin;refine D4 _ rfl _ _ 59 59 rfl _ _ rfl rfl y ?_);clear y;go_wp2;go_ret;exact Da B
    ·have aj:0<n:=by omega
     have f:=Db (KH h z A c (Da I) n 0 n n Z (by omega) none 0 0 u (by rw[if_pos (by omega)];omega) (by omega) 0 rfl n rfl);have U:min (0:Int) (n:Int)=0:=by omega
     clear z h u;go_upto_region 18 with(go_at_call 73;refine(Da f).mono ?_;rintro e X⟨D,rfl,d⟩);clear f;go_upto_region 19 with(first|(go_at_call 72;refine(Da d).mono ?_;rintro e R⟨rfl,v⟩)|(go_at_call 59;refine(Da v).mono ?_;rintro e Y⟨rfl,O,r⟩));clear d v;go_upto_region 22 with fail;go_upto_region 23 with(at_make;refine Bz _ rfl _ _ 59 rfl 0 5 H (.int .u8 0) 1 underlying59 C E F _ _ _ _ n rfl rfl rfl rfl (by rw[G];omega) (by unfold maxLen;omega) (Au _) ?_;intro w1 m j;obtain⟨L,J,kk,t,Q,S,y,M,P,B⟩:=Da r w1 m j;clear m j);clear r;go_upto_region 24 with(at_builtin;refine D4 _ rfl _ _ 59 59 rfl _ _ rfl rfl t ?_);clear t;go_upto_region 25 with(at_builtin;refine D4 _ rfl _ _ 59 59 rfl _ _ rfl rfl y ?_);clear y;go_wp2;go_ret;exact Da B
   ·rw[u]at ab;have HP:=Db (ZZ h z A n Z hb u hg);clear z h hg;go_wp2_with(first|(go_at_call 72;refine(Da HP).mono ?_;rintro e X⟨rfl,d⟩)|(go_at_call 60;refine(Da d).mono ?_;rintro e Y⟨rfl,r⟩)|(at_make;refine Bz _ rfl _ _ 59 rfl 0 5 H (.int .u8 0) 1 underlying59 C E F _ _ _ _ n rfl rfl rfl rfl (by rw[G];omega) (by unfold maxLen;omega) (Au _) ?_;intro w1 m j;obtain⟨L,J,kk,t,M,P,f⟩:=Da r w1 m j;clear m j)|(at_builtin;refine D4 _ rfl _ _ 59 59 rfl _ _ rfl rfl t ?_));go_ret;exact Da f
  ·obtain⟨a,l,c0,u,al⟩:=(z.at' i A).rd;rw[u]at ab;have ac:Hid (l<=1280):=by
    rw[show l=_ from al.1];exact Da (h.sizes A)
   clear al;by_cases ap:k=2
   ·subst ap;by_cases W:n=0
    ·subst W;have f:=Db (KH h z A c (Da I) 0 0 0 l (by omega) rfl a l c0 u (by rw[if_neg (by omega)]) (λ_=>rfl) 0 rfl l rfl);have ah:l<=1280:=Da ac;have U:min (0:Int) (l:Int)=0:=by omega
     clear z h u;go_upto_region 18 with(go_at_call 73;refine(Da f).mono ?_;rintro e X⟨D,rfl,d⟩);clear f;go_upto_region 19 with(first|(go_at_call 72;refine(Da d).mono ?_;rintro e R⟨rfl,v⟩)|(go_at_call 59;refine(Da v).mono ?_;rintro e Y⟨rfl,O,r⟩));clear d v;go_upto_region 22 with fail;go_upto_region 23 with(at_make;refine Bz _ rfl _ _ 59 rfl 0 5 H (.int .u8 0) 1 underlying59 C E F _ _ _ _ l rfl rfl rfl rfl (by rw[G];omega) (by unfold maxLen;omega) (Au _) ?_;intro w1 m j;obtain⟨L,J,kk,t,Q,S,y,M,P,B⟩:=Da r w1 m j;clear m j);clear r;go_upto_region 24 with(at_builtin;refine D4 _ rfl _ _ 59 59 rfl _ _ rfl rfl t ?_);clear t;go_upto_region 25 with(at_builtin;refine D4 _ rfl _ _ 59 59 rfl _ _ rfl rfl y ?_);clear y;go_wp2;go_ret;exact Da B
    ·obtain⟨p,hp⟩:=ex (n/2);obtain⟨q,hq⟩:=ex (n-p);have ed:(n:Int)/2=(p:Int):=by omega
     have ew:IntKind.i64.wrap ((n:Int)-(p:Int))=(q:Int):=by rw[AV];omega
     have ax:(n:Int)-(p:Int)=(q:Int):=by omega
     have aj:0<q:=by omega
     have ah:l<=1280:=Da ac;by_cases ar:l<n
     ·obtain⟨T,V⟩:=ex (n-p);have f:=Db (KH h z A c (Da I) n p q n Z (by omega) a l c0 u (by rw[if_pos (by omega)];omega) (by omega) (p:Nat) rfl T V);have U:min (p:Int) (n:Int)=(p:Int):=by omega
      have au:n-p=T:=V.symm;have av:¬n=p:=by omega
      have aq:p<=n:=by omega
      have aw:p<=1280:=by omega
      have am:=Db (And.intro hp hq);clear hp hq V;have ai:(l:Int)<(n:Int):=by omega
      clear z h u;go_upto_region 18 with(go_at_call 73;refine(Da f).mono ?_;rintro e X⟨D,rfl,d⟩);clear f;go_upto_region 19 with(first|(go_at_call 72;refine(Da d).mono ?_;rintro e R⟨rfl,v⟩)|(go_at_call 59;refine(Da v).mono ?_;rintro e Y⟨rfl,O,r⟩));clear d v;go_upto_region 22 with fail;go_upto_region 23 with(at_make;refine Bz _ rfl _ _ 59 rfl 0 5 H (.int .u8 0) 1 underlying59 C E F _ _ _ _ n rfl rfl rfl rfl (by rw[G];omega) (by unfold maxLen;omega) (Au _) ?_;intro w1 m j;obtain⟨L,J,kk,t,Q,S,y,M,P,B⟩:=Da r w1 m j;clear m j);clear r;go_upto_region 24 with(at_builtin;refine D4 _ rfl _ _ 59 59 rfl _ _ rfl rfl t ?_);clear t;go_upto_region 25 with(at_builtin;refine D4 _ rfl _ _ 59 59 rfl _ _ rfl rfl y ?_);clear y;go_wp2;go_ret;exact Da B
     ·obtain⟨T,V⟩:=ex (l-p);have f:=Db (KH h z A c (Da I) n p q l Z (by omega) a l c0 u (by rw[if_pos (by omega)];omega) (by omega) (p:Nat) rfl T V);have U:min (p:Int) (l:Int)=(p:Int):=by omega
      have au:l-p=T:=V.symm;have av:¬l=p:=by omega
      have aq:p<=l:=by omega
      have aw:p<=1280:=by omega
      have am:=Db (And.intro hp hq);clear hp hq V;have ai:¬(l:Int)<(n:Int):=by omega
      clear z h u;go_upto_region 18 with(go_at_call 73;refine(Da f).mono ?_;rintro e X⟨D,rfl,d⟩);clear f;go_upto_region 19 with(first|(go_at_call 72;refine(Da d).mono ?_;rintro e R⟨rfl,v⟩)|(go_at_call 59;refine(Da v).mono ?_;rintro e Y⟨rfl,O,r⟩));clear d v;go_upto_region 22 with fail;go_upto_region 23 with(at_make;refine Bz _ rfl _ _ 59 rfl 0 5 H (.int .u8 0) 1 underlying59 C E F _ _ _ _ l rfl rfl rfl rfl (by rw[G];omega) (by unfold maxLen;omega) (Au _) ?_;intro w1 m j;obtain⟨L,J,kk,t,Q,S,y,M,P,B⟩:=Da r w1 m j;clear m j);clear r;go_upto_region 24 with(at_builtin;refine D4 _ rfl _ _ 59 59 rfl _ _ rfl rfl t ?_);clear t;go_upto_region 25 with(at_builtin;refine D4 _ rfl _ _ 59 59 rfl _ _ rfl rfl y ?_);clear y;go_wp2;go_ret;exact Da B
   ·have e3:k=3:=by omega
    subst e3;by_cases W:n=0
    ·subst W;have f:=Db (KH h z A c (Da I) 0 0 0 l (by omega) rfl a l c0 u (by rw[if_neg (by omega)]) (λ_=>rfl) 0 rfl l rfl);have ah:l<=1280:=Da ac;have U:min (0:Int) (l:Int)=0:=by omega
     clear z h u;go_upto_region 18 with(go_at_call 73;refine(Da f).mono ?_;rintro e X⟨D,rfl,d⟩);clear f;go_upto_region 19 with(first|(go_at_call 72;refine(Da d).mono ?_;rintro e R⟨rfl,v⟩)|(go_at_call 59;refine(Da v).mono ?_;rintro e Y⟨rfl,O,r⟩));clear d v;go_upto_region 22 with fail;go_upto_region 23 with(at_make;refine Bz _ rfl _ _ 59 rfl 0 5 H (.int .u8 0) 1 underlying59 C E F _ _ _ _ l rfl rfl rfl rfl (by rw[G];omega) (by unfold maxLen;omega) (Au _) ?_;intro w1 m j;obtain⟨L,J,kk,t,Q,S,y,M,P,B⟩:=Da r w1 m j;clear m j);clear r;go_upto_region 24 with(at_builtin;refine D4 _ rfl _ _ 59 59 rfl _ _ rfl rfl t ?_);clear t;go_upto_region 25 with(at_builtin;refine D4 _ rfl _ _ 59 59 rfl _ _ rfl rfl y ?_);clear y;go_wp2;go_ret;exact Da B
    ·have aj:0<n:=by omega
     have ah:l<=1280:=Da ac;by_cases ar:l<n
     ·have f:=Db (KH h z A c (Da I) n 0 n n Z (by omega) a l c0 u (by rw[if_pos (by omega)];omega) (by omega) 0 rfl n rfl);have U:min (0:Int) (n:Int)=0:=by omega
      have ai:(l:Int)<(n:Int):=by omega
      clear z h u;go_upto_region 18 with(go_at_call 73;refine(Da f).mono ?_;rintro e X⟨D,rfl,d⟩);clear f;go_upto_region 19 with(first|(go_at_call 72;refine(Da d).mono ?_;rintro e R⟨rfl,v⟩)|(go_at_call 59;refine(Da v).mono ?_;rintro e Y⟨rfl,O,r⟩));clear d v;go_upto_region 22 with fail;go_upto_region 23 with(at_make;refine Bz _ rfl _ _ 59 rfl 0 5 H (.int .u8 0) 1 underlying59 C E F _ _ _ _ n rfl rfl rfl rfl (by rw[G];omega) (by unfold maxLen;omega) (Au _) ?_;intro w1 m j;obtain⟨L,J,kk,t,Q,S,y,M,P,B⟩:=Da r w1 m j;clear m j);clear r;go_upto_region 24 with(at_builtin;refine D4 _ rfl _ _ 59 59 rfl _ _ rfl rfl t ?_);clear t;go_upto_region 25 with(at_builtin;refine D4 _ rfl _ _ 59 59 rfl _ _ rfl rfl y ?_);clear y;go_wp2;go_ret;exact Da B
     ·have f:=Db (KH h z A c (Da I) n 0 n l Z (by omega) a l c0 u (by rw[if_pos (by omega)];omega) (by omega) 0 rfl l rfl);have U:min (0:Int) (l:Int)=0:=by omega
      have ai:¬(l:Int)<(n:Int):=by omega
      clear z h u;go_upto_region 18 with(go_at_call 73;refine(Da f).mono ?_;rintro e X⟨D,rfl,d⟩);clear f;go_upto_region 19 with(first|(go_at_call 72;refine(Da d).mono ?_;rintro e R⟨rfl,v⟩)|(go_at_call 59;refine(Da v).mono ?_;rintro e Y⟨rfl,O,r⟩));clear d v;go_upto_region 22 with fail;go_upto_region 23 with(at_make;refine Bz _ rfl _ _ 59 rfl 0 5 H (.int .u8 0) 1 underlying59 C E F _ _ _ _ l rfl rfl rfl rfl (by rw[G];omega) (by unfold maxLen;omega) (Au _) ?_;intro w1 m j;obtain⟨L,J,kk,t,Q,S,y,M,P,B⟩:=Da r w1 m j;clear m j);clear r;go_upto_region 24 with(at_builtin;refine D4 _ rfl _ _ 59 59 rfl _ _ rfl rfl t ?_);clear t;go_upto_region 25 with(at_builtin;refine D4 _ rfl _ _ 59 59 rfl _ _ rfl rfl y ?_);clear y;go_wp2;go_ret;exact Da B
end
def XF(w:World)(a:OA)(xs:List Int):Prop:=∀(j:Nat) v,xs[j]?=some v->∃g f,a=some ⟨g,f,none⟩/\w.cell? ⟨g,f+j,none⟩=some (.int .i64 v)
theorem GL.pk{N d:Nat}{g w:World}{f tb a e:Nat}{b:Nat->Option By}{K:KS->Prop}(h:GL N d g w f tb a e b K):Gd w:=by
 obtain⟨G,I,CI,⟨rd,V,E,vi,c⟩,_⟩:=h.tr;exact c.pk
def Zg(w:World)(e:Ending)(w':World):Prop:=e=.returned (.bool true)/\Bw w w'
theorem IG.en{M:List (By×By)}(h:IG M):IV (Ij M):=by
 rw[<-dmF_M (M:=M) (C:=CM M) (λ_ _=>rfl)];refine O8 _ _ ⟨[115,105,108],116,rfl,by decide⟩ (λ_ a=>(by simp[BL]at a)) (λy b=>?_);rw[KT]at b;obtain⟨i,c,rfl⟩:=As.1 b;have a:=(K4 (A4.1 c)).2;exact⟨λn d=>(by rw[Ad.1 d];exact h.nm _ a),λ_=>h.sz _ a⟩
def MC(w : World) : Prop:=Lib.TabIs prog w "internal/strconv.uint64pow10" .u64 Lib.pow10Tab
theorem ZY{N:Nat}{w wr:World}{vb tb db stb sb:Nat}{b:Nat->Option By}{vs:NV}{K:KS->Prop}(he:GU w)(htab:MC w)(h:GL N w.heap.size w wr vb tb db stb b K)(hs:GP w.heap.size wr sb b vs):
  ∃S:By,S.size<=100000/\Hid (Cl 19 #[.pointer (some ⟨vb,0,none⟩)] wr λe Y=>e=.returned (.string S)/\Hid (Cl 15 #[.string S] Y λe Z=>∃xb:Nat,e=.returned (.tuple #[.pointer (some ⟨xb,0,none⟩),.int .i64 0])/\Hid (Cl 29 #[.pointer (some ⟨sb,0,none⟩),.pointer (some ⟨xb,0,none⟩)] Z λe U=>e=.returned (.bool true)/\
   Hid (Cl 28 #[.pointer (some ⟨xb,0,none⟩)] U λe U1=>∃a l c,e=.returned (.slice a l c)/\Hid (Cl 27 #[.slice a l c] U1 λe U2=>∃yb:Nat,e=.returned (.tuple #[.pointer (some ⟨yb,0,none⟩),.int .i64 0])/\Hid (Cl 29 #[.pointer (some ⟨sb,0,none⟩),.pointer (some ⟨yb,0,none⟩)] U2 λe U3=>e=.returned (.bool true)/\
    Hid (∀U',Bw U3 U'->Cl 19 #[.pointer (some ⟨xb,0,none⟩)] U' λe U4=>e=.returned (.string S)/\Hid (∀U'',Bw U4 U''->Cl 19 #[.pointer (some ⟨yb,0,none⟩)] U'' λe U5=>e=.returned (.string S)/\Hid (∀V,Bw U5 V->Cl 15 #[.string (S++⟨#[10]⟩)] V λe U6=>e=.returned (.tuple #[.pointer none,.int .i64 11])/\Hid (Bw w U6)))))))))):=by
 have h4:4<=w.heap.size:=by
  obtain⟨_,_,_,q⟩:=he;have:3<w.heap.size:=Am _ _ q;omega
 have hE:∀{X:World},Bw w X->GU X:=λhb=>he.fr (X:=λ_=>False) (Fr.of_below hb) (λ_ _ e=>e)
 have hTb : ∀ {X : World}, Bw w X → Lib.TabBelow prog w.heap.size X "internal/strconv.uint64pow10" .u64 Lib.pow10Tab:=λhb => (Lib.tabBelow_of_tabIs htab).on hb
 have hvl:=h.vl;have hpk:∀{X:World},Bw wr X->Gd X:=λhb=>h.pk.fr (X:=λ_=>False) (Fr.of_below hb) (λe=>e)
 have hbw:=h.bel;have hws:=hbw.size;obtain⟨G,I,CI,⟨rd,V,E,vi,hT⟩,hst⟩:=h.tr;obtain⟨M,hM,hd⟩:=hst.mb hT;have hEn:IV (Ij M):=hM.1.en;refine⟨ba (Ij M),by rw[JM];exact PH hM,?_⟩;refine(hvl.dump hM hws (hTb hbw)).mono ?_;rintro e Y⟨rfl,hY⟩;refine⟨rfl,?_⟩;have bY:Bw w Y:=hbw.trans (hY.mono hws);have sY:=bY.size;refine(restore_yes Y (hpk hY) (hE bY) w.heap.size sY (hTb bY) (by omega) hM).mono ?_;rintro e Z⟨xb,rfl,hx,hZ⟩;refine⟨xb,rfl,?_⟩;have bZ:Bw w Z:=bY.trans (hZ.mono sY);have hsZ:=(hs.kp (GM.below hY)).kp (GM.below hZ);refine(Wt hx.vl hsZ).mono ?_;rintro e U⟨rfl,hU⟩;refine⟨rfl,?_⟩;have bU:Bw w U:=bZ.trans (hU.mono bZ.size);have hxU:=hx.below hU;have hsU:=hsZ.kp (GM.below hU);obtain⟨tb1,db1,stb1,G1,I1,C1,va,vf,vn,s,k1,k2,k3,k4,k5,k6,k7,k8⟩:=hxU;refine(Mp U xb tb1 db1 stb1 k1 vf vn _ _ s.D k4.st.disk).mono ?_;rintro e U1⟨a,l,c,rfl,hSl,hU1⟩;refine⟨a,l,c,rfl,?_⟩;have bU1:Bw w U1:=bU.trans (hU1.mono bU.size);have hwU1:Bw wr U1:=hY.trans ((hZ.mono hY.size).trans ((hU.mono (Af hY.size hZ.size)).trans (hU1.mono (Af hY.size (Af hZ.size hU.size)))));refine(M5 k6 k7 (by omega) k5 U1 a l c hSl.1 k4.st.disk.2.1.2 (hpk hwU1)).mono ?_;rintro e U2⟨yb,rfl,hy,hU2⟩;refine⟨yb,rfl,?_⟩;have bU2:Bw w U2:=bU1.trans (hU2.mono bU1.size);have hsU2:=(hsU.kp (GM.below hU1)).kp (GM.below hU2);refine(Wt hy hsU2).mono ?_;rintro e U3⟨rfl,hU3⟩;refine⟨rfl,λU' hU'=>?_⟩;have bU3:Bw w U':=(bU2.trans (hU3.mono bU2.size)).trans (hU'.mono (Af bU2.size hU3.size));have hxV:ID U' xb b:=((((hx.vl.below hU).below hU1).below hU2).below hU3).below hU';have hyV:ID U' yb b:=(hy.below hU3).below hU';refine(hxV.dump hM bU3.size (hTb bU3)).mono ?_;rintro e U4⟨rfl,hU4⟩;refine⟨rfl,λU'' hU''=>?_⟩;have bU4:Bw w U'':=(bU3.trans (hU4.mono bU3.size)).trans (hU''.mono (Af bU3.size hU4.size));refine(((hyV.below hU4).below hU'').dump hM bU4.size (hTb bU4)).mono ?_;rintro e U5⟨rfl,hU5⟩;refine⟨rfl,λV' hV'=>?_⟩;have bU5:Bw w V':=(bU4.trans (hU5.mono bU4.size)).trans (hV'.mono (Af bU4.size hU5.size));have e10:ba (Ij M)++⟨#[10]⟩=ba (Ij M++[10]):=Ku (by rw[Jy,Jo,Jo];rfl);rw[e10];have hpV:Gd V':=by
  obtain⟨_,_,_,_,_,⟨_,_,_,_,ht⟩,_⟩:=((hyV.below hU4).below hU'').below hU5;exact ht.pk.fr (X:=λ_=>False) (Fr.of_below hV') (λe=>e)
 refine(restore_no V' hpV (hE bU5) w.heap.size bU5.size (hTb bU5) (by have:=bU5.size;omega) hM hEn).mono ?_;rintro e U6⟨rfl,hU6⟩;exact⟨rfl,bU5.trans (hU6.mono bU5.size)⟩
def ToE(w wr:World)(vb sb:Nat):Prop:=
  ∃S:By,S.size<=100000/\Hid (Cl 19 #[.pointer (some ⟨vb,0,none⟩)] wr λe Y=>e=.returned (.string S)/\Hid (Cl 15 #[.string S] Y λe Z=>∃xb:Nat,e=.returned (.tuple #[.pointer (some ⟨xb,0,none⟩),.int .i64 0])/\Hid (Cl 29 #[.pointer (some ⟨sb,0,none⟩),.pointer (some ⟨xb,0,none⟩)] Z λe U=>e=.returned (.bool true)/\
   Hid (Cl 28 #[.pointer (some ⟨xb,0,none⟩)] U λe U1=>∃a l c,e=.returned (.slice a l c)/\Hid (Cl 27 #[.slice a l c] U1 λe U2=>∃yb:Nat,e=.returned (.tuple #[.pointer (some ⟨yb,0,none⟩),.int .i64 0])/\Hid (Cl 29 #[.pointer (some ⟨sb,0,none⟩),.pointer (some ⟨yb,0,none⟩)] U2 λe U3=>e=.returned (.bool true)/\
    Hid (∀U',Bw U3 U'->Cl 19 #[.pointer (some ⟨xb,0,none⟩)] U' λe U4=>e=.returned (.string S)/\Hid (∀U'',Bw U4 U''->Cl 19 #[.pointer (some ⟨yb,0,none⟩)] U'' λe U5=>e=.returned (.string S)/\Hid (∀V,Bw U5 V->Cl 15 #[.string (S++⟨#[10]⟩)] V λe U6=>e=.returned (.tuple #[.pointer none,.int .i64 11])/\Hid (Bw w U6))))))))))
theorem Zlb(w:World)(hp:Gd w)(he:GU w)(ad:MC w)(a:OA)(xs:List Int)(ai:Nat)(hx:XF w a xs)(af:∀x∈xs,GH x)(hl:xs.length<=1048576):
  Cl 13 #[.slice a xs.length ai] w (Zg w):=by
 obtain⟨c,y⟩:∃n,n=xs.length:=⟨_,rfl⟩;have P:=Db (Zi1 w hp);rw[<-y];have m:=Db hx;have ah:=Db af;have HL:=Db y;have N:=Db he;have R:=Db ad;have au:c<=1048576:=by omega
 clear hx af y hp hl he ad;go_enter func13,ntmps13;go_upto_region 2 with(go_at_call 23;refine(Da P).mono ?_;rintro e X⟨k,tb,r,B,rfl,aa,_⟩;have l:=Db aa;clear aa);clear P;go_upto_region 4 with fail;go_upto_region 5 with fail;obtain⟨Y,Z,C,kY,sY,W⟩:=De X [.slice none 0 0,.slice none 0 0,.slice none 0 0,.slice none 0 0,.slice none 0 0,.slice none 0 0,.slice none 0 0,.slice none 0 0] 62;rw[show X.alloc (.cells #[.slice none 0 0,.slice none 0 0,.slice none 0 0,.slice none 0 0,.slice none 0 0,.slice none 0 0,.slice none 0 0,.slice none 0 0] 62)=Y from Z];obtain⟨j,z⟩:∃s,s=X.heap.size:=⟨_,rfl⟩;rw[<-z]at C ⊢;have O:Hid (∃M b vs,GL M w.heap.size w Y k tb r B b QD/\GP w.heap.size Y j b vs):=by
  refine⟨0,λ_=>none,λ_ => .slice none 0 0,((Da l).below W).any (λ_ e=>e.any),⟨C,λi _ => .inl ⟨rfl,rfl⟩,?_⟩⟩;rw[z];exact(Da l).bel.size
 clear Z C kY sY W l z;go_wp2
 go_loopw [5] (λi wr=>∃(q:Nat),q<=c/\q<=40/\i=.int .i64 q/\Hid (∃M b vs,GL M w.heap.size w wr k tb r B b QD/\GP w.heap.size wr j b vs)) (λi _=>40-(intOf i).toNat)
 case atStart=>exact⟨0,Au _,Au _,rfl,O⟩
 case round=>
  obtain⟨q,hq,an,rfl,h⟩:=hrel;clear O;by_cases ab:q<c/\q<40
  ·obtain⟨aw,av⟩:=ab;have Q:Hid (∀d,GH d->Cl 25 #[.pointer (some ⟨j,0,none⟩),.pointer (some ⟨k,0,none⟩),.int .i64 d] wr λe Y=>e=.returned (.bool true)/\Hid (∃M b vs,GL M w.heap.size w Y k tb r B b QD/\GP w.heap.size Y j b vs)):=λd hd=>by
    obtain⟨M,b,vs,t,g2⟩:=Da h;refine(Zk8 t g2 d hd).mono ?_;rintro e Y⟨rfl,b',aq,q1,q2,_⟩;exact⟨rfl,M,b',aq,q1,q2⟩
   obtain⟨v,A⟩:∃v,xs[q]?=some v:=⟨_,Ac (by have:=Da HL;omega)⟩;have ae:GH v:=Da ah v (Ar A);obtain⟨g,f,ha,u⟩:=Da m q v A;have ar:wr.cell? ⟨g,f+q,none⟩=some (.int .i64 v):=by
    obtain⟨M,b,vs,t,_⟩:=Da h;exact(t.bel.cell (p:=⟨g,f+q,none⟩) (Am _ _ u)).trans u
   have ag:=Db (Da Q v ae);subst ha;have ac:(q:Int)<(c:Int):=by omega
   have ao:(q:Int)<40:=by omega
   clear Q u A ae m h;go_wp2_with(go_at_call 25;refine(Da ag).mono ?_;rintro e Y1⟨rfl,HZ⟩)
   go_roundw
   case rel=>exact⟨q+1,by omega,by omega,by go_num,HZ⟩
   case measure=>simp[intOf];omega
  ·have L:Hid (ToE w wr k j):=by
    obtain⟨M,b,vs,h1,h2⟩:=Da h;exact ZY (Da N) (Da R) h1 h2
   clear h m N R;obtain⟨S,hS,D⟩:=Da L;clear L;have am:¬(q:Int)<(c:Int)\/(q:Int)<(c:Int)/\¬(q:Int)<40:=by omega
   clear ab hq an;rcases am with ac|⟨ac,ao⟩
   all_goals
    go_upto_region 12 with(go_at_call 19;refine(Da D).mono ?_;rintro e Y1⟨rfl,E⟩);go_upto_region 13 with(go_at_call 15;refine(Da E).mono ?_;rintro e Z1⟨xb,rfl,F⟩);go_upto_region 15 with fail;go_upto_region 16 with(go_at_call 29;refine(Da F).mono ?_;rintro e U⟨rfl,G⟩);go_upto_region 17 with(first|(go_at_call 28;refine(Da G).mono ?_;rintro e U1⟨a1,s1,c1,rfl,H⟩)|(go_at_call 27;refine(Da H).mono ?_;rintro e U2⟨yb,rfl,I⟩));go_upto_region 18 with(go_at_call 29;refine(Da I).mono ?_;rintro e o⟨rfl,J⟩);clear D E F G H I;have al:Bw o o:=Ak _ _;go_upto_region 20 with(first|(go_at_call 19;refine(Da J _ (by first|assumption|exact al.drew)).mono ?_;rintro e T⟨rfl,K⟩;clear J;have aj:=Ak T.heap.size T)|(go_at_call 19;refine(Da K _ (by first|assumption|exact aj.drew)).mono ?_;rintro e V⟨rfl,H9⟩;clear K;have ak:=Ak V.heap.size V));have ap:S.size+1<=140737488355328:=by omega
    have ax:(S++(⟨#[10]⟩:By)).size<=140737488355328:=by rw[Ai];exact ap
    go_wp2_with(go_at_call 15;refine(Da H9 _ (by first|assumption|exact ak.drew)).mono ?_;rintro e U6⟨rfl,HB⟩);go_ret;exact⟨rfl,Da HB⟩
end Go.Proofs.YtaieidcohdhgpaaGreatDoor
