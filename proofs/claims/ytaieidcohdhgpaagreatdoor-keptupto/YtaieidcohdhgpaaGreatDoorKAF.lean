/- Kept. -/
import Derived.Test.YtaieidcohdhgpaaGreatDoorKAE
namespace Go.Proofs.YtaieidcohdhgpaaGreatDoor
variable{p s:By}{R:Gf}{G:Gh}{C:IB}{I:LF}{a ns t:LY}{x:LY×VS}{E:NS}{V:NV}{B b c d l tb:Nat}{u:VS}{f v:Value}{w w' w2:World}
set_option maxHeartbeats 40000000
set_option maxRecDepth 100000
set_option linter.all false
open Tryz
open Go.RowKit
def JW(G:Gh)(ds:LY):Bool:=decide (G.countP (GH ds)<20/\G.length<100)
def Iu(G:Gh)(p q:By):Int:=if Di q=false then 1 else if Gk G p true≠0 then Gk G p true else if DR G (Dc q)≠0 then DR G (Dc q) else if JW G (Dc q).dropLast=false then 8 else 0
def PZ(w:World)(tb:Nat)(G:Gh)(I:LF)(C:IB)(p q:By)(e:Ending)(w':World):Prop:=
 e=dR (dI (Iu G p q))/\Fr (DV tb w) w w'/\((Iu G p q≠0/\PS w' tb G I C)\/(Iu G p q=0/\∃u r I',Gr G (Dc p)=some u/\u.p=none/\(u.f,r)∈I/\Gs I I' u.f ⟨r.a,r.l,r.c,r.f+1⟩/\PS w' tb (G++[(Dc q,⟨none,u.f⟩)]) I' C))
theorem Pe(c:Di p=true){n:By}(aa:Dc p=a++[n]):n.size<=2000000:=by
 cases hr:(p.toList==[47]) with
 |true=>simp_all[UC]
 |false=>
  have b:=(Uj c hr).2.1 n Ξ;simp only[DZ,AQ,An]at b;omega
theorem Hq.Q(h:Hq G I)(a:Gr G ns=some u)(b:u.p=none):∃r,(u.f,r)∈I/\0<r.f/\r.f<=10000:=h _ (JZ a) b
theorem Yg(w:World)(tb g:Nat)(V:NV)(E:NS)(j:Value)(G:Gh)(I:LF)(C:IB)(h:TW w tb g V E j G I C)(i:Gp G)(k:G.length<=10000)(_hIl:I.length<=10000)(b:LY)(a:Nat)(c:Gd G g b a)(n:By)(l:n.size<=2000000)(ab:Gr G (b++[n])=none)(f:Int):
  Cl 183 #[Dk (some (dQ a 0)) n false ⟨none,0⟩,.agg #[.pointer none,dI f]] w λe w'=>e=dR (.tuple #[])/\∃V' E',TW w' tb g V' E' j (G++[(b++[n],⟨none,f⟩)]) I C/\Fr (DV tb w) w w':=by
 apply(Vm w a n l false _ ⟨none,f⟩ _ _ (h.d.row b a c) (h.d.sl b a c) (Ae (h.d.le i c) k) (h.d.ak b a c) (λx m e=>by have:=(h.d.en b a c _ _).1 m;grind [Ux])).Q;rintro e w'⟨rfl,v',aa,o,p,q,q4,r,s,d⟩;exact⟨rfl,_,_,TW.d9 h (h.d.row b a c) (h.d.sl b a c) d (h.d.g9 i c o p q r s d),Fr.ay (h.f7 c) (h.d.row b a c) (h.d.sl b a c) d⟩
theorem Ze0(w:World)(tb c:Nat)(V:NV)(E:NS)(g:Value)(G:Gh)(I:LF)(C:IB)(h:TW w tb c V E g G I C)(N:Gp G)(O:G.length<=10000)(v:I.length<=10000)(a:LY)(j:Nat)(A:Gd G c a j)(n:By)(hn:n.size<=2000000)(R:Gr G (a++[n])=none)(f:Int)(r:VF)(D:(f,r)∈I)(ak:0<=r.f)(al:r.f<=10000):
  Cl 192 #[dP tb,Dk (some (dQ j 0)) n false ⟨none,0⟩,dI f] w λe w'=>(JW G a=false/\e=dR (dI 8)/\Bw w w')\/
   (JW G a=true/\e=dR (dI 0)/\Fr (DV tb w) w w'/\∃t s b,TW w' tb c t s g (G++[(a++[n],⟨none,f⟩)]) b C/\Gs I b f ⟨r.a,r.l,r.c,r.f+1⟩):=by
 unfold Dk;obtain⟨W,P,l,hk,am,m⟩:=Df w (DS (some (dQ j 0)) n false ⟨none,0⟩) 262;have Z:=Zf7 W tb c V E g G I C (h.below m (Aa _)) N O a j A;have L:Hid (∀X,Bw w X->Cl 175 #[.pointer (some (dQ tb 1)),dI f] X λe w'=>e=dR (.tuple #[.agg #[dT r.a r.l r.c,dI r.f],dV true])/\Bw X w'):=λX x=>Q8 X tb c V E g G I C (h.below x (Aa _)) v f r D;have ae:Hid (∀X,Bw w X->_):=λX x=>ZhY w tb c V E g G I C h v f r D (r.f+1) X x;have ad:Hid _:=λX b hX=>Yg X tb c V E g G b C hX N O;have ac:=Db A;have ab:=Db R;have HI:=Db v;have M:=Db P;have aj:=l.lt;clear P hk h A R D;go_enter func192,ntmps192;go_upto_region 1 with fail;rw[Da M];clear M;have i:=l.J 0;go_wp2_with fail;apply Z.Q;rintro e w4⟨rfl,y⟩;have F:Gb w4 w.heap.size 262 _:=(y.block _ l.lt).M l;have k:=m.M (y.Q m.size);clear Z i l aj;rw[show decide _=JW G a from rfl];cases hmb:JW G a with
 |false=>
  go_wp2;go_ret;exact .inl ⟨hmb,rfl,k⟩
 |true=>
  have U:=Da L w4 k;go_wp2_with fail;apply U.Q;rintro e q⟨rfl,z⟩;have aa:Gb q w.heap.size 262 _:=(z.block _ F.lt).M F;have o:=k.M (z.Q k.size);clear U L;obtain⟨W6,Q,H,Y,an,S⟩:=Df q [dT r.a r.l r.c,dI (r.f+1)] 217;have J:=Y _ _ _ aa;have ag:=o.M (S.Q o.size);go_upto_region 5 with fail;try rw[Q]
  obtain⟨i,u⟩:=H.c1;have T:=o.size;have af:=Db J;have ai:=J.lt;clear Q Y H aa F S z y k o m J;go_region_held3 (λW=>W.cell? (dQ q.heap.size 0)=some (dT r.a r.l r.c)/\W.cell? (dQ q.heap.size 1)=some (dI (r.f+1))) (go_keep)
   (first|(go_at_call 228;apply(Da ae _ ag.drew).Q;rintro e w7⟨rfl,⟨⟨b,q1,q2⟩,q3⟩,p⟩;have m0:=(AA (p _ (Ag _ _ i) T)).M i;have m1:=(AA (p _ (Ag _ _ u) T)).M u))
  all_goals
   have d:Gb w7 w.heap.size 262 _:=(p _ ai (Aa _)).M (Da af);have B:=Da ad w7 b q1 (by rw[q2.1];omega) a j (Da ac) n hn (Da ab) f;unfold Dk at B;obtain⟨b0,b1,b2,b3,b4⟩:=d.c4;have K:=Db B;clear B i u m0 m1 p d;go_wp2_with fail;apply(Da K).Q;rintro e w8⟨rfl,t,s,h8,ah⟩;clear K b0 b1 b2 b3 b4;go_wp2;go_ret;exact .inr ⟨hmb,rfl,q3.ab ah,t,s,b,h8,q2⟩
theorem Znn(w:World)(tb:Nat)(G:Gh)(I:LF)(C:IB)(h:PS w tb G I C)(Q:Gp G)(R:G.length<=10000)(aF:I.length<=10000)(ai:Hq G I)(p q:By)(hp:p.size<=2000000)(hq:q.size<=2000000):
  Cl 125 #[dP tb,dU p,dU q] w (PZ w tb G I C p q):=by
 obtain⟨B,V,E,D,h⟩:=h;have l:Hid (∀W,Bw w W->Iu G p q≠0->PZ w tb G I C p q (dR (dI (Iu G p q))) W):=λW g i=>⟨rfl,Fr.S g,.inl ⟨i,B,V,E,D,h.below g (Aa _)⟩⟩;have ap:=Zij w tb B V E D G I C h Q R p q hp hq;have HH:=Db h;have aA:=Db ai;clear ai h;go_enter func125,ntmps125;go_wp2_with fail;apply ap.Q;rintro e w1⟨Z,g⟩;clear ap;rcases Z with⟨hn,rfl⟩|⟨Y,a,c,S,⟨i,rfl⟩|⟨he,aM,d,n,t,u,aa,rfl⟩⟩
 .have b:Hid (Iu G p q=1):=by show _=_;simp_all[Iu,if_pos]
  clear hn;unfold DE Dk;go_wp2;go_ret;have:=Da l _ (g.alloc g.size (.cells (DS none ⟨#[]⟩ false ⟨none,0⟩).toArray 262)) (by grind [Da]);rw[Da b]at this;exact this
 .have b:Hid (Iu G p q=DA G p true):=by show _=_;have:Gk G p true=DA G p true:=(by simp_all[Gk,if_pos]);simp_all[Iu,if_neg,if_pos]
  have aB:=Db i;have aL:(DA G p true != 0)=true:=Ξ;obtain⟨A,o⟩:=ex ((Dc q).length);rw[<-o];clear i Y S o;unfold DE Dk;go_wp2;go_ret;have:=Da l _ (g.alloc g.size (.cells (DS none ⟨#[]⟩ false ⟨none,0⟩).toArray 262)) (by grind [Da]);rw[Da b]at this;exact this
 .have aS:=Db aa;have aQ:=Db he;have ag:=Db Y;have aD:=Db S;obtain⟨A,o⟩:=ex ((Dc q).length);have aC:=Db o;rw[<-o];have aq:=λW=>R8 d n t u W;have ac:=Db aq;have aO:=ZV aa;clear aa he Y o S aq aM;unfold Dk;obtain⟨W,hW,s,y,aU,T⟩:=Df w1 (DS d n t u) 262;have am:=g.M (T.Q g.size);have ax:=Db T;have HW:=Db hW;clear hW y T;go_upto_if 21 with fail;rw[Da HW];clear HW;obtain⟨L,M,N,O,P⟩:=s.c4;go_wp2_with fail;apply(Da ac _).Q;rintro e w2⟨rfl,al⟩;have v:=am.M (al.Q am.size);have aE:Hid (Sl w2 9 1 (.slice a (Dc q).length c) (Dc q).length ((Dc q).map .string)):=((Da aD).kept (λk y _=>(Da ax).block k y)).kept (λk y _=>al.block k y);clear ac L M N O P s;have aR:Hid (Gk G p true≠0->Iu G p q=Gk G p true):=λi=>by unfold Iu;rw[if_neg (by grind [Da]),if_pos i]
  rcases aO with⟨rfl,f,j⟩|⟨rfl,f,j⟩|⟨rfl,f,j,H⟩
  .have x:Gk G p true=3:=(by unfold Gk;rw[if_neg (by grind [Da]),if_neg f,j]);have b:Hid (Iu G p q=3):=Ξ;clear x f j;rw[if_pos rfl];go_wp2;go_ret;have:=Da l _ v (by rw[Da b];decide);rw[Da b]at this;exact this
  .have x:Gk G p true=5:=(by unfold Gk;rw[if_neg (by grind [Da])];grind);have b:Hid (Iu G p q=5):=Ξ;rw[if_neg Θ,if_pos f];clear x f j;go_wp2;go_ret;have:=Da l _ v (by rw[Da b];decide);rw[Da b]at this;exact this
  .have x:Gk G p true=0:=(by unfold Gk;rw[if_neg (by grind [Da]),if_neg j,H];grind);have b:Hid (Iu G p q=if DR G (Dc q)≠0 then DR G (Dc q) else if JW G (Dc q).dropLast=false then 8 else 0):=(by show _=_;unfold Iu;rw[if_neg (by grind [Da]),if_neg Ω]);rw[if_neg Θ,if_neg Ξ];have aw:=Db H;have HU:=Db f;obtain⟨r,ar,aT,aN⟩:=Hq.Q (Da aA) H f;have ad:=Db ar;have U:=U3 w2 tb B V E D G I C ((Da HH).below v (Aa _)) Q R _ (QA (Da ag)) a c (Da aE);rw[<-Da aC]at U;clear x f j H ar;go_wp2_with fail;apply U.Q;rintro e w3⟨Z,aG⟩;have K:=v.M (aG.Q v.size);clear U;rcases Z with⟨i,rfl⟩|⟨aJ,ds,m,db,av,an,ak,rfl⟩
   .have ab:Hid (Iu G p q=DR G (Dc q)):=Ξ;have aB:=Db i;have aL:(DR G (Dc q) != 0)=true:=Ξ;clear i;unfold DE Dk;go_wp2;go_ret;have:=Da l _ (K.alloc K.size (.cells (DS none ⟨#[]⟩ false ⟨none,0⟩).toArray 262)) (by grind [Da]);rw[Da ab]at this;exact this
   .have ab:Hid (Iu G p q=if JW G ds=false then 8 else 0):=Ξ;have af:=Db av;have ay:=Db an;have aP:=Db ak;clear aJ av an ak;unfold Dk;obtain⟨W3,aj,z,aK,aV,aI⟩:=Df w3 (DS (some (dQ db 0)) m false ⟨none,0⟩) 262;have J:=K.M (aI.Q K.size);have X:=Ze0 W3 tb B V E D G I C ((Da HH).below J (Aa _)) Q R aF ds db (Da ay) m (Pe (Da ag) (Da af)) (by grind [Da]) _ r (Da ad) Ω aN;unfold Dk at X;have ae:=Db X;have ah:=Db aj;clear aj aK X;go_upto_if 38 with fail;rw[Da ah];clear ah;obtain⟨L,M,N,O,P⟩:=z.c4;go_wp2_with fail;apply(Da ae).Q;rintro e w6 hq;clear ae L M N O P;rcases hq with⟨au,rfl,aH⟩|⟨au,rfl,ao,V',E',I',q1,q2⟩
    .have F:Hid (Iu G p q=8):=Ξ;go_wp2;go_ret;have:=Da l w6 (J.M (aH.Q J.size)) (by grind [Da]);rw[Da F]at this;exact this
    .have F:Hid (Iu G p q=0):=Ξ;have az:Hid (PZ w tb G I C p q (dR (dI 0)) w6):=
      ⟨by rw[Da F],Fr.pg J ao,.inr ⟨Da F,u,r,I',Da aw,Da HU,Da ad,q2,by rw[Da af];exact⟨B,V',E',D,q1⟩⟩⟩
     clear q1 q2 ao au;go_wp2;go_ret;exact Da az
theorem Dh(s:By):(Dd s).length=s.size:=by simp_all[Dd,List.length_map,Array.length_toList]
theorem K7(s:By):∀u∈Dd s,u.oneCell'=true:=λu a=>by obtain⟨b,_,rfl⟩:=AB.1 a;rfl
def GL(w:World)(a:OA)(l c:Nat)(s:By):Prop:=l=s.size/\(a=none->c=0)/\∀j v,(Dd s)[j]?=some v->∃x,a=some x/\w.cell? (x.add j)=some v
theorem GL.below{a:OA}(h:GL w a l c s)(d:Bw w w'):GL w' a l c s:=
 ⟨h.1,h.2.1,λj v f=>by obtain⟨x,e,b⟩:=h.2.2 j v f;exact⟨x,e,(d.J (p:=x.add j) (Ag _ _ b)).M b⟩⟩
theorem Sl.cc{a:OA}(h:Sl w 5 1 (dT a l c) l (Dd s)):GL w a l c s:=by refine⟨by have:=h.1;grind [Dh],λe=>?_,λj v hv=>?_⟩;rcases h.2 with⟨e,_⟩|⟨g,b,L,e,_⟩;simp_all;grind;rcases h.2 with⟨e,h0⟩|⟨g,b,L,e,d,_,_,_,hT⟩;have h1:=h.1;simp_all;cases e;refine⟨_,rfl,?_⟩;rw[AG,Av,d.J];grind
theorem Vi:(prog.info? 5).map (·.size)=some 1:=Φ
theorem ZrM(w:World)(g n c:Nat):(Builtin.copy_ #[59,59] 3 #[dS g n c,dN]).run prog w=.ok (goInt 0) w:=by rfl
theorem Qd(a b:By):Dd (a++b)=Dd a++Dd b:=by unfold Dd;rw[Ci,Ew,AE]
theorem KC(s:By)(i j:Nat):Dd (s.extract i j)=((Dd s).drop i).take (j-i):=by grind [Dd,Lib.extract_data,List.map_drop,List.map_take]
theorem Vc(n:Nat):Dd ⟨(List.replicate n 0).toArray⟩=List.replicate n (.int .u8 0):=by unfold Dd;simp
theorem Wo(w:World)(a:OA)(l c:Nat)(s:By)(h:GL w a l c s)(_hs:s.size<=2000000)(n:Nat)(hn:n<=2000000):
  Cl 176 #[dT a l c,dI n] w λe w'=>∃x,e=dR (dS x n n)/\w.heap.size<=x/\Sl w' 5 1 (dS x n n) n (Dd (Dg s n))/\Bw w w':=by
 obtain⟨R,H,P,Q,ad⟩:=Bk Q0;have D:∀W:World,W.ownsRow 0 5 1 (dS w.heap.size n n) n (madeCells (Value.int .u8 0).cells (n*1)).toList->w.grownBy W none->∃b k,(Builtin.copy_ #[59,59] 3 #[dS w.heap.size n n,dT a l c]).run prog W=.ok (goInt k) b/\Hid (Sl b 5 1 (dS w.heap.size n n) n (Dd (Dg s n))/\Bw w b):=by
  intro W B F;have i:=Sl.a3 B;have d:=QE F;have t:(madeCells (Value.int .u8 0).cells (n*1)).toList=List.replicate n (.int .u8 0):=by rw[B2];exact CT _ n
  rw[t]at i;have N:=h.below d;cases a with
  |none=>
   have O:s.size=0:=(by rcases Bn s.size with e|e;omega;obtain⟨x,hx,_⟩:=h.2.2 0 ((Dd s)[0]'(by grind [Dh])) (Ab _);grind);have I:l=0:=(by rw[h.1,O]);have C:=h.2.1 rfl;subst I C;refine⟨W,0,ZrM W _ _ _,?_,d⟩;have:Dd (Dg s n)=List.replicate n (.int .u8 0):=(by have ac:s=⟨#[]⟩:=(by apply AW;simp_all);unfold Dg;by_cases J:n<=s.size;rw[if_pos J];have:n=0:=Ω;grind [KC];simp_all[Dd]);simp_all
  |some x=>
   rcases i.2 with⟨e,_⟩|⟨g,aa,L,e,A,h1,u,h3,h4⟩;grind;cases e;have z:L=List.replicate n (.int .u8 0):=(by grind);have m:((Dd s).take (Nat.min l n)).length=Nat.min l n*1:=(by rw[AP,Dh,h.1,B2];simp_all);obtain⟨b,S,p,T⟩:=Qc W 59 59 3 5 1 _ 0 n n x l c L 5 _ underlying59 Vi A m
    (λj v f=>by rw[AZ]at f;split at f;obtain⟨y,e,hy⟩:=N.2.2 j v f;simp_all;simp_all) Γ (by grind [K7,List.mem_of_mem_take])
   refine⟨b,_,S,?_,?_⟩;have E:Gq L 0 ((Dd s).take (Nat.min l n))=Dd (Dg s n):=(by unfold Gq;rw[m,z,Cy,AH,Av,B2,Eu];unfold Dg;by_cases K:n<=s.size;have o:Nat.min l n=n:=(by rw[h.1];simp_all);simp_all[KC];have o:Nat.min l n=s.size:=(by rw[h.1];grind);rw[if_neg K,Qd,Vc,o,Ak (by simp_all[Dh])]);rw[E]at p;refine⟨by grind [Dh,Jr],.inr ⟨w.heap.size,n,_,rfl,p,Aa _,u,by grind [Dh,Jr],by rw[Ak (by grind [Dh,Jr])]⟩⟩;exact d.grown T d.size Γ
 have q:=Db D;go_enter func176,ntmps176;go_wp2_with(first|(refine Ct _ rfl _ _ 59 rfl 0 5 R (.int .u8 0) 1 underlying59 H P Q _ _ _ _ n rfl rfl rfl rfl Γ (by grind [maxLen]) (Ao _) ?_;intro U M G;obtain⟨b,k,ab,r⟩:=Da q U M G)|(at_builtin));go_ret;obtain⟨p1,p2⟩:=Da (Da r);simp_all
theorem Zia(s:By)(n:Nat):Dd (Dg s n)=(Dd s++List.replicate n (Value.int .u8 0)).take n:=by unfold Dg;by_cases h:n<=s.size;simp_all[KC,List.take_append_of_le_length,Dh];rw[if_neg h,Qd,Vc,BU,Ak (by grind [Dh]),Dh,BQ,BI Ω]
theorem ZoE(s d:By)(i M:Nat)(hM:M=max s.size (i+d.size)):Gq (Dd (Dg s M)) i (Dd d)=Dd (I8 s i d):=by
 unfold Gq I8;rw[Qd,Qd,Zia,Zia,Dh];have a:((Dd s++List.replicate M (Value.int .u8 0)).take M).take i=(Dd s++List.replicate i (Value.int .u8 0)).take i:=by rw[Cj,BI Ω];rw[BU,BU,BQ,BQ];congr 2;omega
 rw[a];congr 1;by_cases c:i+d.size<s.size;rw[if_pos c];have b:M=s.size:=Ω;rw[b,A0 (by rw[Dh];omega),Ak (by rw[Dh];omega),KC];rw[Ak (by rw[AN,Dh];omega)];simp_all[if_neg,Dd]
theorem Zn3(s:By)(m:Nat)(d:By):(I8 s m d).size=max (m+d.size) s.size:=OY s m d
theorem ZiP(w:World)(a:OA)(l c:Nat)(s:By)(h:GL w a l c s)(hs:s.size<=1280)(i:Nat)(f:OA)(E n:Nat)(d:By)(S:GL w f E n d)(hi:i+d.size<=1280):
  Cl 187 #[dT a l c,dI i,dT f E n] w λe w'=>((d.size=0/\e=dR (dT a l c))\/(0<d.size/\∃x m,e=dR (dS x m m)/\w.heap.size<=x/\Sl w' 5 1 (dS x m m) m (Dd (I8 s i d))))/\Bw w w':=by
 obtain⟨U,R,D⟩:=h;obtain⟨T,P,o⟩:=S;subst U T;have J:Hid (GL w a s.size c s):=⟨rfl,R,D⟩;have I:Hid (GL w f d.size n d):=⟨rfl,P,o⟩;clear D o;by_cases p:d.size=0
 .have K:((d.size)==0)=true:=Ξ;have r:=Db p;clear p;go_enter func187,ntmps187;go_wp2;go_ret;exact⟨.inl ⟨Da r,rfl⟩,Ad _ _⟩
 .have K:((d.size)==0)=false:=Ξ;obtain⟨M,A⟩:=ex (max s.size (i+d.size));have t:=Db A;have G:Hid (max (s.size:Int) ((i)+(d.size))=(M)):=by show _=_;omega
  have C:=Wo w a _ c s (Da J) Ω M Ω;have u:=Db C;have ac:i<M:=Ω;have ab:M<=2000000:=Ω;clear C A;go_enter func187,ntmps187;go_wp2_with fail;rw[Da G];apply(Da u).Q;rintro e F⟨x,rfl,X,B,q⟩;have Q:∃b k,(Builtin.copy_ #[59,59] 3 #[dT (some (dQ x i)) (M-i) (M-i),dT f d.size n]).run prog F=.ok (goInt k) b/\Hid (Sl b 5 1 (dS x M M) M (Dd (I8 s i d))/\Bw w b):=by
   have o:=(Da I).below q;cases f with
   |none=>
    exfalso;have ae:0<d.size:=Ω;obtain⟨y,hy,_⟩:=o.2.2 0 ((Dd d)[0]'(by grind [Dh])) (Ab _);grind
   |some y=>
    rcases B.2 with⟨e,_⟩|⟨g,aa,L,e,O,h1,h2,h3,h4⟩;omega;cases e;have N:L=Dd (Dg s M):=Γ;have V:Nat.min d.size (M-i)=d.size:=(by grind [Nat.min_eq_left,Da]);obtain⟨b,q1,q2,q3⟩:=Qc F 59 59 3 5 1 x i _ (M-i) y _ n L 5 (Dd d) underlying59 Vi O (by rw[Dh,V,B2])
     (λj v W=>by obtain⟨z,e,hz⟩:=o.2.2 j v W;simp_all) (by grind [Dh,Da]) (K7 d)
    refine⟨b,_,q1,?_,q.grown q3 q.size Γ⟩;rw[N,ZoE s d i M (Da t)]at q2;have ag:(Dd (I8 s i d)).length=M:=(by grind [Dh,Zn3,Da]);exact⟨Ω,Γ⟩
  obtain⟨b,k,af,H⟩:=Q;have r:=Db p;clear B q u t p;go_wp2_with(first|(at_builtin));go_ret;obtain⟨Y,Z⟩:=Da (Da H);exact⟨.inr ⟨Γ,x,M,rfl,X,Y⟩,Z⟩
def Lj(G:Gh)(p:By)(i n:Int):Int:=Gk G p (decide (0<=i/\0<=n))
def S1(w:World)(G:Gh)(C:IB)(p:By)(i n:Int)(e:Ending)(w':World):Prop:=
 ((Lj G p i n≠0/\e=dR (.tuple #[dN,dI (Lj G p i n)]))\/
  (Lj G p i n=0/\∃u,Gr G (Dc p)=some u/\u.p=none/\∃x m,e=dR (.tuple #[dS x m m,dI 0])/\w.heap.size<=x/\Sl w' 5 1 (dS x m m) m (Dd (Uo (C u.f) i n))))/\Bw w w'
theorem O4{b:Bool}(h:Gk G p b=0):b=true:=by
 cases b with
 |true=>rfl
 |false=>
  have hl:DA G p false≠0:=by grind [DA]
  simp_all[Gk]
theorem Znf(w:World)(tb rd:Nat)(V:NV)(E:NS)(vi:Value)(G:Gh)(I:LF)(C:IB)(h:TW w tb rd V E vi G I C)(hG:Gp G)(ax:G.length<=10000)(ay:I.length<=10000)(ae:Hq G I)(hC:∀x∈I,(C x.1).size<=1280)(p:By)(hp:p.size<=2000000)(i n:Int)(hi:i<=9223372036854775807)(hn:n<=9223372036854775807):
  Cl 119 #[dP tb,dU p,dI i,dI n] w (S1 w G C p i n):=by
 have aj:=Zf8 w tb rd V E vi G I C h hG ax p hp (decide (0<=i/\0<=n));have HH:=Db h;have aw:=Db ae;have HC:=Db hC;have f:=Db aj;clear h ae hC aj;have ab:∀b:Bool,b=decide (0<=i/\0<=n)->Hid (b=decide (0<=i/\0<=n)):=λ_ h=>h;by_cases ai:0<=i
 .by_cases ak:0<=n
  .have q:=ab true (CM ⟨ai,ak⟩).r;rw[<-Da q]at f;go_enter func119,ntmps119;go_wp2_with fail;apply(Da f).Q;rintro e w1⟨H,o⟩;have l:Hid (Lj G p i n=Gk G p true):=(by show _=_;unfold Lj;rw[<-Da q]);clear f;rcases H with⟨c,rfl⟩|⟨A,aD,u,X,hu,rfl⟩
   .have al:(Gk G p true != 0)=true:=(by simpa using c);have t:=Db c;clear c;go_wp2
    go_ret2
    exact⟨.inl ⟨by rw[Da l];exact Da t,by rw[Da l];rfl⟩,o⟩
   .obtain⟨r,ac,aE,aF⟩:=Hq.Q (Da aw) X hu;have T:=(Da HH).below o (Aa _);have ah:=Q8 w1 tb rd V E vi G I C T ay _ r ac;have HE:=Db A;have ar:=Db X;have HU:=Db hu;have ad:=Db ac;clear A aD X hu ac T aE aF;go_wp2_with fail;apply ah.Q;rintro e w2⟨rfl,af⟩;have M:=o.M (af.Q o.size);have U:=(Da HH).below M (Aa _);have z:=U.av _ (Da ad);have aq:=Da HC _ (Da ad);simp only at z aq;obtain⟨s,hs⟩:=ex (C u.f);rw[<-hs]at z aq;have HS:=Db hs;clear hs U ah;obtain⟨ra,rl,J,rf⟩:=r;simp only at z;have aC:rl=s.size:=(by have:=z.1;rw[Dh]at this;omega);subst aC;obtain⟨k,N⟩:∃k:Nat,(k)=min i (s.size):=⟨(min i (s.size)).toNat,Ω⟩;have HK:Hid (min i (s.size)=(k)):=N.r;have aL:k<=s.size:=Ω;obtain⟨m,hm⟩:∃m:Nat,(m)=min n ((s.size-k:Nat)):=⟨(min n ((s.size-k:Nat))).toNat,Ω⟩;have HM:Hid (min n ((s.size)-(k))=(m)):=(by show _=_;omega);have au:Hid (Uo s i n=Dg (s.extract k s.size) m):=(by show _=_;have e1:min i.toNat s.size=k:=Ω;have e2:min n.toNat (s.size-k)=m:=Ω;unfold Uo Dg;rw[e1,e2,if_pos (by simp[ByteArray.size_extract];omega)];apply Qa;rw[BG,BG,BG];simp;rw[Cj];congr 1;have:s.size=s.data.size:=rfl;omega);clear N hm;go_upto_region 5 with fail;obtain⟨W,hW,hx,aB,aH,Y⟩:=Df w2 [dT ra s.size J,dI rf] 217;have Z:=M.M (Y.Q M.size);have aa:=z.kept (λk N _=>Y.block k N);rw[hW];obtain⟨a0,a1⟩:=hx.c1;clear hW aB aH Y z M o af hx;have D:Hid (∀(K:OA) (d:Nat),GL W K (s.size-k) d (s.extract k s.size)->Cl 176 #[dT K (s.size-k) d,dI (m)] W λe w'=>∃x,e=dR (dS x m m)/\Hid (S1 w G C p i n (dR (.tuple #[dS x m m,dI 0])) w')):=(by intro K d aG;apply(Wo W K _ d _ aG (by simp[ByteArray.size_extract];omega) m (by have:=Da HM;omega)).Q;rintro e w'⟨x,rfl,aI,az,aA⟩;refine⟨x,rfl,.inr ⟨(Da l).M (Da HE),u,Da ar,Da HU,x,m,rfl,Ae Z.size aI,?_⟩,Z.M (aA.Q Z.size)⟩;rw[<-Da HS,Da au];exact az);have Q:Hid (min n ((s.size-k:Nat))=(m)):=(by have:=Da HM;show _=_;omega);have aK:=Da HK;rcases aa.2 with⟨e,h0⟩|⟨g,aJ,L,e,hR,T,U,h3,h4⟩
    .simp only[BC]at e;obtain⟨rfl,e2,rfl⟩:=e;have am:GL W none (s.size-k) 0 (s.extract k s.size):=⟨by simp[ByteArray.size_extract],λ_=>rfl,λj v a=>by have:(Dd (s.extract k s.size)).length=0:=(by rw[Dh];simp[ByteArray.size_extract];omega);rw[AC this]at a;simp at a⟩;have hc:=Da D none 0 am;obtain rfl:k=0:=Ω;have R:Hid (min n 0=(m)):=(by have:=Da Q;show _=_;omega);have S:s.size-0=0:=Ω;rw[S]at hc;have B:=Db hc;clear hc am D aa;go_wp2_with fail;rw[Da R];apply(Da B).Q;rintro e w'⟨x,rfl,F⟩;go_wp2
     go_ret2
     exact Da (Da F)
    .simp only[BC]at e;obtain⟨rfl,_,rfl⟩:=e;have ag:∀j v,(Dd s)[j]?=some v->W.cell? (dQ g j)=some v:=λj v a=>by rw[hR.J];rw[<-h4,AZ]at a;split at a;exact a;cases a
     have an:∀d,GL W (some (dQ g k)) (s.size-k) d (s.extract k s.size):=λd=>⟨by simp[ByteArray.size_extract],λe=>(by cases e),λj v a=>by
      refine⟨_,rfl,?_⟩;rw[AG];refine ag _ _ ?_;rw[KC,AZ]at a;split at a
      rwa [BF]at a
      cases a⟩
     have ao:J=k->GL W (some (dQ g 0)) (s.size-k) 0 (s.extract k s.size):=λe=>⟨by simp[ByteArray.size_extract],λe=>(by cases e),λj v a=>by have:(Dd (s.extract k s.size)).length=0:=(by rw[Dh];simp[ByteArray.size_extract];omega);rw[AC this]at a;simp at a⟩;have O:Hid (∀d,_):=λd=>Da D _ _ (an d);have P:Hid _:=λe=>Da D _ _ (ao e);clear an ao ag D aa hR h3 h4;by_cases ap:J=k
     .have y:=Da P ap;have S:s.size-k=0:=Ω;rw[S]at y;have R:Hid (min n 0=(m)):=(by have:=Da Q;show _=_;omega);have B:=Db y;subst ap;clear y O P;go_wp2_with fail;all_goals
       rw[Da R];apply(Da B).Q;rintro e w'⟨x,rfl,F⟩;go_wp2
       go_ret2
       exact Da (Da F)
     .have aM:k<J:=Ω;have y:=Da O (J-k);have B:=Db y;clear y O P;go_wp2_with fail;all_goals
       rw[Da Q];apply(Da B).Q;rintro e w'⟨x,rfl,F⟩;go_wp2
       go_ret2
       exact Da (Da F)
  .have q:=ab false (Cd (λh=>ak h.2)).r;rw[<-Da q]at f;have c:Gk G p false≠0:=λe=>by have:=O4 e;cases this
   have al:(Gk G p false != 0)=true:=(by simpa using c);have l:Hid (Lj G p i n=Gk G p false):=(by show _=_;unfold Lj;rw[<-Da q]);have t:=Db c;clear c;go_enter func119,ntmps119;go_wp2_with fail;apply(Da f).Q;rintro e w1⟨H,o⟩;rcases H with⟨_,rfl⟩|⟨A,_⟩
   .clear f;go_wp2
    go_ret2
    exact⟨.inl ⟨by rw[Da l];exact Da t,by rw[Da l];rfl⟩,o⟩
   exact absurd A (Da t)
 .have q:=ab false (Cd (λh=>ai h.1)).r;rw[<-Da q]at f;have c:Gk G p false≠0:=λe=>by have:=O4 e;cases this
  have al:(Gk G p false != 0)=true:=by simpa using c
  have l:Hid (Lj G p i n=Gk G p false):=by show _=_;unfold Lj;rw[<-Da q]
  have t:=Db c;clear c;go_enter func119,ntmps119;go_wp2_with fail;apply(Da f).Q;rintro e w1⟨H,o⟩;rcases H with⟨_,rfl⟩|⟨A,_⟩
  .clear f;go_wp2
   go_ret2
   exact⟨.inl ⟨by rw[Da l];exact Da t,by rw[Da l];rfl⟩,o⟩
  exact absurd A (Da t)
theorem ZgL(w:World)(tb c:Nat)(V:NV)(E:NS)(d:Value)(G:Gh)(I:LF)(C:IB)(h:TW w tb c V E d G I C)(l:I.length<=10000)(n:Int)(g r:VF)(p:(n,g)∈I)(s:By)(o:Sl w 5 1 (dT r.a r.l r.c) r.l (Dd s)):
  Cl 228 #[.pointer (some (dQ tb 1)),dI n,.agg #[dT r.a r.l r.c,dI r.f]] w λe w'=>e=dR (.tuple #[])/\(∃a,TW w' tb c V E d G a (λk=>if k=n then s else C k)/\Gs I a n r)/\Fr (DV tb w) w w'/\∀k t R,Gb w k t R->t≠214->t≠293->Gb w' k t R:=by
 apply(Zf2 w tb c V E d G I C h l n g r p s o).Q;rintro e w'⟨rfl,⟨a,q,u,v⟩,f⟩;refine⟨rfl,⟨a,q,u,v⟩,Fr.dg h f,λk t R b i j=>b.e f (λe=>?_)⟩;rcases e with rfl|e;exact i (b.type h.t);obtain⟨R',m⟩:=h.i.type e;exact j (b.type m)
theorem Zik(j g i c:Nat)(u:FrameMode)(w:World)(tb p:Nat)(V:NV)(E:NS)(q:Value)(G:Gh)(I:LF)(C:IB)(h:TW w tb p V E q G I C)(F:I.length<=10000)(n:Int)(y r:VF)(J:(n,y)∈I)(s:By)(x:Sl w 5 1 (dT r.a r.l r.c) r.l (Dd s))(a:Int)(d:Gb w j 26 [dI a])(l:Gb w g 37 [dP tb])(m:Gb w i 3 [dI n])(f:Gb w c 217 [dT r.a r.l r.c,dI r.f]):
  CallsD prog 230 #[dP j,dP g,dP i,dP c] u w λe M w'=>M=u/\(e=dR (.tuple #[])/\Gb w' j 26 [dI a]/\Fr (DV tb w) w w'/\((a=0/\w'=w)\/(a≠0/\∃I',TW w' tb p V E q G I' (λk=>if k=n then s else C k)/\Gs I I' n r))):=by
 have a0:=d.J 0;by_cases o:a=0
 .have H:(a != 0)=false:=Ξ
  go_enter_d func230,ntmps230
  go_wp2
  go_end0
  exact⟨rfl,d,Fr.refl _ _,.inl ⟨o,rfl⟩⟩
 .have H:(a != 0)=true:=Ξ;have D:Hid _:=λW v=>ZgL W tb p V E q G I C (h.below v (Aa _)) F n y r J s (x.kept (λk K _=>v.block k K));have b0:=l.J 0;have c0:=m.J 0;obtain⟨d0,d1⟩:=f.c1;have HA:=Db o;have B:=Db d;have z:=Db l;have A:=Db m;have t:=Db f;clear h x o d l m f
  go_enter_d func230,ntmps230
  go_wp2_with fail;go_region_held3 (λW=>W.cell? (dQ g 0)=some (dP tb)/\W.cell? (dQ i 0)=some (dI n)/\W.cell? (dQ c 0)=some (dT r.a r.l r.c)/\W.cell? (dQ c 1)=some (dI r.f)) (go_keep)
   (first|(go_at_call 228;apply(Da D _ (Ad _ w).drew).Q;rintro e aa⟨rfl,q1,L,b⟩;have m0:=(b _ _ _ (Da z) Δ Δ).J 0;have m1:=(b _ _ _ (Da A) Δ Δ).J 0;have m2:=(b _ _ _ (Da t) Δ Δ).J 0;have m3:=(b _ _ _ (Da t) Δ Δ).J 1))
  all_goals
   go_end0
   exact⟨rfl,b _ _ _ (Da B) Δ Δ,Fr.pg (Ad _ w).drew L,Γ⟩
theorem TW.a1{a:Nat}{c:Value}(h:TW w tb a V E c G I C){t:TypeId}(f:Gb w b t R)(hb:b≠0)(ht:t≠214/\t≠229/\t≠310/\t≠293/\t≠5)(j:Nat)(u:Value):TW (w.setCell (dQ b j) u) tb a V E c G I C:=
 h.e (X:=λk=>k=b) ((Fr.refl _ _).set _ u rfl) Ω (λk t' R' e d=>by subst e;rw[d.type f];omega)
theorem Sl.pg{n:Nat}{a:Gf}(h:Sl w 5 1 v n a)(d:Fr (DV tb w) w w'):Sl w' 5 1 v n a:=
 h.e d (λg e ⟨⟨t,R,b,ht⟩,_⟩=>by obtain⟨R',c⟩:=h.type e;have:=c.type b;grind)
theorem Fr.ext{X:Nat->Prop}{c:World}(h:Fr X w c)(a:Below w.heap.size c w2):Fr X w w2:=
 ⟨a.os.M h.os,a.tape.M h.tape,a.output.M h.output,Ae h.size a.size,λk b d=>(a.block k b).M (h.block k b d)⟩
def Ia(w:World)(tb rd:Nat)(V:NV)(E:NS)(vi:Value)(G:Gh)(I:LF)(C:IB)(n:Int)(r:VF)(s:By)(e:Ending)(w':World):Prop:=
 Fr (DV tb w) w w'/\∃I',Gs I I' n r/\
  ((e=dR (dI 9)/\160<DL (I'.map (·.2.l))/\∃I'',TW w' tb rd V E vi G I'' C/\I''.length=I.length/\∀x,x∈I''↔x∈I)\/
   (e=dR (dI 0)/\DL (I'.map (·.2.l))<=160/\TW w' tb rd V E vi G I' (λk=>if k=n then s else C k)))
theorem G3.nd(h:G3 I):(I.map (·.1)).Nodup:=by unfold List.Nodup;rw[A1];intro i j hi hj a e;have aa:j<I.length:=Γ;rw[FK,FK]at e;have:=h i j I[i] I[j] a (Ab _) (Ab _);have:=Bd this;omega
theorem Vn(w:World)(tb N:Nat)(V:NV)(E:NS)(D:Value)(G:Gh)(I:LF)(C:IB)(h:TW w tb N V E D G I C)(Q:I.length<=10000)(aD:∀x∈I,x.2.l<=2000000)(n:Int)(c:VF)(aA:(n,c)∈I)(J:OA)(dl K:Nat)(aM:dl<=2000000)(s:By)(ay:Sl w 5 1 (dT J dl K) dl (Dd s)):
  Cl 189 #[dP tb,dI n,dT J dl K] w (Ia w tb N V E D G I C n ⟨J,dl,K,c.f⟩ s):=by
 have a6:∀(fn:Fn) (first cap:Array Value) (w:World),(Instr.makeFunc fn first cap).run prog w=.ok (.func fn first cap) w:=λ_ _ _ _=>rfl;have P:=Db h;have aI:=Db ay;have H:=Db aA;have aJ:=Db aD;clear h ay aA aD
 go_enter_defers func189,ntmps189
 go_wp2_with fail;obtain⟨W1,aq,aG,aQ,ak,av⟩:=Df w [dP tb] 37;obtain⟨W2,ar,aH,aC,aF,aw⟩:=Df W1 [dI n] 3;obtain⟨a,au,ac,ai,aX,j⟩:=Df W2 [dI 0] 26;rw[aq,ar,au];have y1:=ai _ _ _ (aC _ _ _ aG);have Y:=ai _ _ _ aH;have v:Bw w a:=(av.M (aw.Q Ω)).M (j.Q Ω);rw[ak]at Y;rw[aF,ak]at ac;have aE:a.heap.size=w.heap.size+3:=Ω;clear aq ar au aQ aC ai av aw j aG aH ak aF aX;have an:Hid (∀W,Bw w W->_):=λW hb=>Q8 W tb N V E D G I C ((Da P).below hb (Aa _)) Q n c (Da H);have a0:=y1.J 0;have a1:=Y.J 0;have ae:=v.drew;have ao:=Db aE;have a5:w.heap.size+1+1<a.heap.size:=Ω;have aT:¬a.heap.size=w.heap.size:=Ω;have aU:¬a.heap.size=w.heap.size+1:=Ω;have aV:¬w.heap.size=a.heap.size:=Ω;have aW:¬w.heap.size+1=a.heap.size:=Ω;clear aE;go_region_held3 (λW=>W.cell? (dQ w.heap.size 0)=some (dP tb)/\W.cell? ⟨w.heap.size+1,0,none⟩=some (dI n)) (go_keep)
  (first|(go_at_call 175;apply(Da an _ (by first|exact v.drew|exact ae.alloc ae.size _|exact(v.alloc v.size _).drew)).Q;rintro e w'⟨rfl,T⟩;have j:Bw a w':=(by first|exact((Ad _ a).drew).M (T.Q Θ)|exact(((Ad _ a).alloc (Aa _) _).drew).M (T.Q Θ)|exact(((Ad _ a).drew).alloc Θ _).M (T.Q Θ));have m0:=(j.J (p:=dQ w.heap.size 0) (by rw[Da ao];simp)).M a0;have m1:=(j.J (p:=⟨w.heap.size+1,0,none⟩) (by rw[Da ao];simp)).M a1;(try(have z:Gb w' a.heap.size 217 [dN,dI 0]:=(T.block a.heap.size Θ).M (D9 a [dN,dI 0] 217);obtain⟨z0,z1⟩:=z.c1;obtain⟨a8,a9⟩:=z.f1))))
 case' refine_2.refine_3.refine_3.refine_3.refine_3.refine_1.refine_2.refine_3.refine_3.refine_3.refine_1.refine_2.refine_1.refine_2.refine_3=>
  obtain⟨g,S,B,aR,aY,ax⟩:=Df w' [dT c.a c.l c.c,dI c.f] 217;rw[S];have u:Bw a g:=j.M (ax.Q j.size);have ad:a.heap.size<=w'.heap.size:=j.size;obtain⟨i,L⟩:=ex w'.heap.size;rw[<-L]at B ad ⊢;clear S aR aY ax L
 case' refine_2.refine_3.refine_3.refine_3.refine_3.refine_2.refine_1.refine_2.refine_1.refine_2.refine_3.refine_3.refine_3.refine_1.refine_2.refine_3=>
  have B:Gb ((w'.setCell (dQ a.heap.size 0) (dT c.a c.l c.c)).setCell (dQ a.heap.size 1) (dI c.f)) a.heap.size 217 [dT c.a c.l c.c,dI c.f]:=by have:=(z.set 0 (dT c.a c.l c.c)).set 1 (dI c.f);simpa using this
  have u:Bw a ((w'.setCell (dQ a.heap.size 0) (dT c.a c.l c.c)).setCell (dQ a.heap.size 1) (dI c.f)):=(j.setCell (p:=dQ a.heap.size 0) (Aa _) _).setCell (p:=dQ a.heap.size 1) (Aa _) _;obtain⟨g,S⟩:∃g,(w'.setCell (dQ a.heap.size 0) (dT c.a c.l c.c)).setCell (dQ a.heap.size 1) (dI c.f)=g:=⟨_,rfl⟩;rw[S]at B u ⊢;have ad:a.heap.size<=a.heap.size:=Aa _;obtain⟨i,L⟩:=ex a.heap.size;have ad:a.heap.size<=i:=Ω;rw[<-L]at B;rw[show(Value.pointer (some { block:=a.heap.size,off:=0 }))=Value.pointer (some { block:=i,off:=0 }) by rw[L]];clear S L
 all_goals
  have y3:Gb g w.heap.size 37 _:=(u.block _ y1.lt).M y1;have y4:Gb g (w.heap.size+1) 3 _:=(u.block _ Y.lt).M Y;have y6:Gb g (w.heap.size+1+1) 26 _:=(u.block _ ac.lt).M ac;have af:Bw w g:=v.M (u.Q v.size);clear ac y1 Y v u a0 a1 an ae aT aU aV aW T j m0 m1;have aK:Hid (∀W,Bw g W->_):=λW hb=>ZgL W tb N V E D G I C (((Da P).below af (Aa _)).below hb (Aa _)) Q n c ⟨J,dl,K,c.f⟩ (Da H) s (((Da aI).kept (λk d _=>af.block k d)).kept (λk d _=>hb.block k d));have b0:=y3.J 0;have b1:=y4.J 0;have b2:=B.J 1;have Y3:=Db y3;have Y4:=Db y4;have Y6:=Db y6;have Y7:=Db B;clear y3 y4 y6 B;go_wp2_with fail;go_region_held3 (λW=>W.cell? (dQ w.heap.size 0)=some (dP tb)/\W.cell? ⟨w.heap.size+1,0,none⟩=some (dI n)/\W.cell? (dQ i 1)=some (dI c.f)) (go_keep)
   (first|(go_at_call 228;apply(Da aK _ (Ad _ g).drew).Q;rintro e O⟨rfl,q1,q2,r⟩;have m0:=(r _ _ _ (Da Y3) Δ Δ).J 0;have m1:=(r _ _ _ (Da Y4) Δ Δ).J 0;have m2:=(r _ _ _ (Da Y7) Δ Δ).J 1))
  obtain⟨o,Z,M⟩:=q1;have aP:=M;have ab:∀x∈o,x.2.l<=2000000:=λx A=>by rcases(M.2 x).1 A with rfl|⟨a3,_⟩;exact aM;exact Da aJ x a3
  have am:=ZhL O tb _ D o Z.t Z.i (by rw[M.1];exact Q) ab;have z3:Gb O w.heap.size 37 _:=r _ _ _ (Da Y3) Δ Δ;have z4:Gb O (w.heap.size+1) 3 _:=r _ _ _ (Da Y4) Δ Δ;have z6:Gb O (w.heap.size+1+1) 26 _:=r _ _ _ (Da Y6) Δ Δ;have z7:Gb O i 217 _:=r _ _ _ (Da Y7) Δ Δ;have F:Hid (Fr (DV tb w) w O):=Fr.pg af.drew q2;have al:=XZ (o.map (·.2.l)) (λm hm=>by obtain⟨y,hy,e⟩:=AB.1 hm;rw[<-e];exact ab y hy);rw[AT]at al;have aZ:DL (o.map (·.2.l))<=400000000:=Ae al (by rw[M.1];omega);obtain⟨U,hU⟩:=ex (DL (o.map (·.2.l)));rw[<-hU]at am aZ;have HU:=Db hU;have q:=Db M;have H5:=Db Z;have a4:=Db ab;clear q2 r al hU M aP Z m2 ab;go_wp2_with fail;apply am.Q;rintro e w6⟨rfl,l⟩;have t3:Gb w6 w.heap.size 37 _:=(l.block _ z3.lt).M z3;have t4:Gb w6 (w.heap.size+1) 3 _:=(l.block _ z4.lt).M z4;have t:Gb w6 (w.heap.size+1+1) 26 _:=(l.block _ z6.lt).M z6;have t7:Gb w6 i 217 _:=(l.block _ z7.lt).M z7;have c6:=t.J 0;have f6:=t.A 0;clear am;by_cases aN:160<U
  .have aO:(160:Int)<(U:Int):=Ω;go_wp2;have d6:=t.set 0 (dI 9);have a7:w.heap.size≠w.heap.size+1+1:=Ω;have d3:=t3.a1 ⟨w.heap.size+1+1,0,none⟩ (dI 9) (by show w.heap.size+1+1≠w.heap.size;omega);have d4:=t4.a1 ⟨w.heap.size+1+1,0,none⟩ (dI 9) (by show w.heap.size+1+1≠w.heap.size+1;omega);have d7:=t7.a1 ⟨w.heap.size+1+1,0,none⟩ (dI 9) (by show w.heap.size+1+1≠i;omega);have aa:=((Da H5).below l (Aa _)).a1 t Ω Δ 0 (dI 9);have X:=(((Da P).av _ (Da H)).pg (Da F)).kept (λk d _=>l.block k d);have ah:=X.setCell ⟨w.heap.size+1+1,0,none⟩ (dI 9) (λe=>by obtain⟨R,hR⟩:=X.type e;have:=hR.type t;revert this;decide);refine leaves_cons (f:=230) (args:=#[.pointer (some ⟨w.heap.size+1+1,0,none⟩),dP w.heap.size,.pointer (some ⟨w.heap.size+1,0,none⟩),dP i]) Θ (by simp[go_sem]) ?_;apply(Zik _ _ _ _ .returning _ tb N V E D G o _ aa (by rw[(Da q).1];exact Q) n ⟨J,dl,K,c.f⟩ c (((Da q).2 _).2 (.inl rfl)) (C n) ah 9 (by simpa using d6) d3 d4 d7).Q;rintro e u' w7⟨rfl,rfl,aj,az,ag⟩;have hc:=aj.J 0;refine⟨dI 9,by simp[results,results189,go_sem,hc],?_⟩;rcases ag with⟨h0,_⟩|⟨_,aL,ap,aB⟩;exact absurd h0 Δ;have hC:(λk=>if k=n then C n else(λk=>if k=n then s else C k) k)=C:=(by funext k;by_cases d:k=n;simp[d];simp[d]);rw[hC]at ap;refine⟨((Da F).ext ((l.Q (Da F).size).setCell (p:=⟨w.heap.size+1+1,0,none⟩) (by show w.heap.size<=w.heap.size+1+1;omega) (dI 9))).ab az,o,Da q,.inl ⟨rfl,by rw[<-Da HU];exact aN,aL,ap,aB.1.M (Da q).1,λx=>?_⟩⟩;rw[aB.2 x,(Da q).2 x];constructor;rintro(rfl|⟨rfl|⟨A,_⟩,aS⟩);exact Da H;exact absurd rfl aS;exact A;intro A;by_cases d:x.1=n;left;have:x=(n,x.2):=(by rw[<-d]);rw[this]at A ⊢;rw[Kz (Da P).si.nd A (Da H)];exact .inr ⟨.inr ⟨A,d⟩,d⟩
  .have aO:¬(160:Int)<(U:Int):=Ω;go_wp2;have d6:=t.set 0 (dI 0);have d3:=t3.a1 ⟨w.heap.size+1+1,0,none⟩ (dI 0) (by show w.heap.size+1+1≠w.heap.size;omega);have d4:=t4.a1 ⟨w.heap.size+1+1,0,none⟩ (dI 0) (by show w.heap.size+1+1≠w.heap.size+1;omega);have d7:=t7.a1 ⟨w.heap.size+1+1,0,none⟩ (dI 0) (by show w.heap.size+1+1≠i;omega);have aa:=((Da H5).below l (Aa _)).a1 t Ω Δ 0 (dI 0);have X:=(((Da P).av _ (Da H)).pg (Da F)).kept (λk d _=>l.block k d);have ah:=X.setCell ⟨w.heap.size+1+1,0,none⟩ (dI 0) (λe=>by obtain⟨R,hR⟩:=X.type e;have:=hR.type t;revert this;decide);refine leaves_cons (f:=230) (args:=#[.pointer (some ⟨w.heap.size+1+1,0,none⟩),dP w.heap.size,.pointer (some ⟨w.heap.size+1,0,none⟩),dP i]) Θ (by simp[go_sem]) ?_;apply(Zik _ _ _ _ .returning _ tb N V E D G o _ aa (by rw[(Da q).1];exact Q) n ⟨J,dl,K,c.f⟩ c (((Da q).2 _).2 (.inl rfl)) (C n) ah 0 (by simpa using d6) d3 d4 d7).Q;rintro e u' w7⟨rfl,rfl,aj,az,ag⟩;have hc:=aj.J 0;refine⟨dI 0,by simp[results,results189,go_sem,hc],?_⟩;rcases ag with⟨_,a2⟩|⟨h0,_⟩;rw[a2];exact⟨(Da F).ext ((l.Q (Da F).size).setCell (p:=⟨w.heap.size+1+1,0,none⟩) (by show w.heap.size<=w.heap.size+1+1;omega) (dI 0)),o,Da q,.inr ⟨rfl,by rw[<-Da HU];omega,aa⟩⟩;exact absurd rfl h0
def VH(w:World)(tb:Nat)(G:Gh)(I:LF)(C:IB)(n:Int)(r:VF)(s:By)(e:Ending)(w':World):Prop:=
 Fr (DV tb w) w w'/\∃I',Gs I I' n r/\
  ((e=dR (dI 9)/\160<DL (I'.map (·.2.l))/\∃I'',PS w' tb G I'' C/\I''.length=I.length/\∀x,x∈I''↔x∈I)\/
   (e=dR (dI 0)/\DL (I'.map (·.2.l))<=160/\PS w' tb G I' (λk=>if k=n then s else C k)))
theorem Ia.ps{g:World}{n:Int}{r:VF}{e:Ending}(h:Ia w tb d V E f G I C n r s e w')(q:Bw g w):VH g tb G I C n r s e w':=by obtain⟨m,i,o,p⟩:=h;refine⟨Fr.pg q m,i,o,?_⟩;rcases p with⟨a,b,j,c,k,l⟩|⟨a,b,c⟩;exact .inl ⟨a,b,j,⟨d,V,E,f,c⟩,k,l⟩;exact .inr ⟨a,b,d,V,E,f,c⟩
def MK(G:Gh)(p:By)(n:Int):Int:=Gk G p (decide (0<=n/\n<=1280))
def PY(w:World)(tb:Nat)(G:Gh)(I:LF)(C:IB)(p:By)(n:Int)(e:Ending)(w':World):Prop:=
 (MK G p n≠0/\e=dR (dI (MK G p n))/\Fr (DV tb w) w w'/\PS w' tb G I C)\/
 (MK G p n=0/\∃u r a c,Gr G (Dc p)=some u/\u.p=none/\(u.f,r)∈I/\VH w tb G I C u.f ⟨a,n.toNat,c,r.f⟩ (Dg (C u.f) n.toNat) e w')
theorem ZpL(w:World)(tb:Nat)(G:Gh)(I:LF)(C:IB)(h:PS w tb G I C)(hG:Gp G)(ah:G.length<=10000)(Q:I.length<=10000)(P:Hq G I)(Z:∀x∈I,x.2.l<=2000000)(O:∀x∈I,(C x.1).size<=1280)(p:By)(hp:p.size<=2000000)(n:Int):
  Cl 124 #[dP tb,dU p,dI n] w (PY w tb G I C p n):=by
 obtain⟨t,V,E,v,h⟩:=h;have aa:=Zf8 w tb t V E v G I C h hG ah p hp (decide (0<=n/\n<=1280));have M:=Db h;have ae:=Db P;have HC:=Db O;have af:=Db Z;have g:=Db aa;have y:Hid (∀b,b=decide (0<=n/\n<=1280)->∀W,Bw w W->Gk G p b≠0->PY w tb G I C p n (dR (dI (Gk G p b))) W):=λb a W o j=>by subst a;exact .inl ⟨j,rfl,Fr.S o,t,V,E,v,h.below o (Aa _)⟩
 clear h P O aa Z;by_cases i:0<=n/\n<=1280
 .have a:=CM i;rw[a]at g;have am:=i.1;have an:=i.2;have q:=Db a;clear i a;go_enter func124,ntmps124;go_wp2_with fail;apply(Da g).Q;rintro e l⟨d,c⟩;clear g;rcases d with⟨j,rfl⟩|⟨k,ap,u,B,J,rfl⟩
  .have ao:(Gk G p true != 0)=true:=Ξ;have f:=Db (Da y true (Da q).r l c j);clear j;go_wp2;go_ret;exact Da f
  .obtain⟨r,H,aq,ar⟩:=Hq.Q (Da ae) B J;have Y:=Q8 l tb t V E v G I C ((Da M).below c (Aa _)) Q _ r H;have HE:=Db k;have ad:=Db B;have HU:=Db J;have z:=Db H;clear k ap B J H aq ar;go_wp2_with fail;apply Y.Q;rintro e w2⟨rfl,S⟩;have F:=c.M (S.Q c.size);go_upto_region 5 with fail;obtain⟨W,R,K,al,au,o⟩:=Df w2 [dT r.a r.l r.c,dI r.f] 217;have D:=F.M (o.Q F.size);rw[R];obtain⟨a0,a1⟩:=K.c1;have A:=(Da M).below D (Aa _);obtain⟨m,hm⟩:∃m:Nat,n=(m):=⟨n.toNat,Ω⟩;have U:=A.av _ (Da z);have ac:=Wo W _ _ _ _ U.cc (by grind [Nat.le_trans,Da]) m Ω;subst hm;have N:=Db ac;have ag:=Db A;clear R al au o K Y c S F U ac A;go_wp2_with fail;apply(Da N).Q;rintro e w3⟨x,rfl,av,ai,T⟩;have X:=Vn w3 tb t V E v G I C ((Da ag).below T (Aa _)) Q (Da af) _ r (Da z) _ m m Ω _ ai;have L:=Db X;have aj:=D.M (T.Q D.size);clear X N;go_wp2_with fail;apply(Da L).Q;rintro e w4 d;have ab:=d.ps aj;have f:Hid (PY w tb G I C p (m) e w4):=.inr ⟨by grind [MK,Da],u,r,some _,m,Da ad,Da HU,Da z,ab⟩;have ak:e=dR (dI 9)\/e=dR (dI 0):=(by obtain⟨_,I',_,⟨e1,_⟩|⟨e1,_⟩⟩:=d;simp_all;simp_all);clear d ab L;rcases ak with rfl|rfl
   .go_wp2;go_ret;exact Da f
   .go_wp2;go_ret;exact Da f
 .have a:=Cd i;rw[a]at g;have j:Gk G p false≠0:=by grind [O4]
  have ao:(Gk G p false != 0)=true:=Ξ;have s:=Db j;have q:=Db a;clear j a;by_cases am:0<=n
  focus
   have an:¬n<=1280:=Ω
  rotate_left
  all_goals
   clear i;go_enter func124,ntmps124;go_wp2_with fail;apply(Da g).Q;rintro e l⟨d,c⟩;rcases d with⟨_,rfl⟩|⟨k,_⟩
   .have f:=Db (Da y false (Da q).r l c (Da s));clear g;go_wp2;go_ret;exact Da f
   exact absurd k (Da s)
def LW(name:By)(n:Nat):Value:=.agg #[dU name,dV true,dI (n:Int),dI 1]
def Mm(name:By)(n:Nat)(l:Int):Value:=.agg #[dU name,dV false,dI (n:Int),dI l]
theorem Ke{t:TypeId}{e g i:Value}(h:Gb w b t [e,f,g,i])(a c u2 d:Value):Gb ((((w.setCell (dQ b 0) a).setCell (dQ b 1) c).setCell (dQ b 2) u2).setCell (dQ b 3) d) b t [a,c,u2,d]:=by have:=(((h.set 0 a).set 1 c).set 2 u2).set 3 d;simp_all
theorem QS{c:World}(h:Below B w c)(a:B<=b)(d e u2 f:Value):Below B w ((((c.setCell (dQ b 0) d).setCell (dQ b 1) e).setCell (dQ b 2) u2).setCell (dQ b 3) f):=
 (((h.setCell a _).setCell a _).setCell a _).setCell a _
theorem Zm8(w:World)(tb A:Nat)(V:NV)(E:NS)(T:Value)(G:Gh)(I:LF)(C:IB)(h:TW w tb A V E T G I C)(J:Gp G)(K:G.length<=10000)(j:By)(N:j.size<=2000000)(ns:LY)(b:Nat)(l:Gd G A ns b):
  Cl 180 #[dP tb,dU j,.agg #[dP b,dI 0]] w λe w'=>e=dR (LW j (G.countP (GH ns)))/\Bw w w':=by
 have HH:=Db h;have u:=h.d.len J l;have g:=λ(W) (p)=>LR W b 0 _ _ _ ((h.d.below p (Aa _)).row ns b l |>.J 0) ((h.d.below p (Aa _)).sl ns b l);rw[u]at g;have L:G.countP (GH ns)<=10000:=Ae AV K;obtain⟨c,t⟩:=ex (G.countP (GH ns));rw[<-t]at g L ⊢;have F:=Db g;clear g t u h;go_enter func180,ntmps180;go_wp2_with fail;obtain⟨H,n,z,M,x,q⟩:=Df w [dP b,dI 0] 260;obtain⟨W2,o,i,v,O,r⟩:=Df H [dU ⟨#[]⟩,dV false,dI 0,dI 0] 112;have k:=q.M (r.Q Ω);have m:=v _ _ _ z;rw[x]at i;rw[n,o];clear n o M v q r z;apply(VT _ _ N).Q;rintro e B⟨rfl,f⟩;have D:Gb B w.heap.size 260 _:=(f.block _ m.lt).M m;have a:Gb B (w.heap.size+1) 112 _:=(f.block _ i.lt).M i;have s:=k.M (f.Q k.size);obtain⟨a0,a1⟩:=D.c1;obtain⟨b0,b1,b2,b3⟩:=a.c3;obtain⟨f0,f1,f2,f3⟩:=a.f3;clear m i k f x O;go_wp2_with(first|(go_at_call 178;apply(Da F _ s).Q;rintro e w'⟨rfl,y⟩;rw[y];clear y));have d:=Ke a (dU j) (dV true) (dI (c:Int)) (dI 1);obtain⟨P,Q,R,S⟩:=d.c3;exact Am (by simp[results,results180,go_sem,P,Q,R,S,LW]) rfl ⟨rfl,QS s (Ef _) _ _ _ _⟩
theorem Zm7(w:World)(tb P:Nat)(V:NV)(E:NS)(Q:Value)(G:Gh)(I:LF)(C:IB)(h:TW w tb P V E Q G I C)(U:I.length<=10000)(s:By)(hn:s.size<=2000000)(n:Int)(r:VF)(L:(n,r)∈I):
  Cl 180 #[dP tb,dU s,.agg #[.pointer none,dI n]] w λe w'=>e=dR (Mm s r.l r.f)/\Bw w w':=by
 have A:Hid _:=λW X=>Q8 W tb P V E Q G I C (h.below X (Aa _)) U n r L;clear h L;go_enter func180,ntmps180;go_wp2_with fail;obtain⟨S,D,O,Z,N,H⟩:=Df w [.pointer none,dI n] 260;obtain⟨W2,F,q,M,ae,J⟩:=Df S [dU ⟨#[]⟩,dV false,dI 0,dI 0] 112;have v:=H.M (J.Q Ω);have x:=M _ _ _ O;rw[N]at q;rw[D,F];clear D F Z M H J O;apply(VT _ _ hn).Q;rintro e a⟨rfl,c⟩;have y:Gb a w.heap.size 260 _:=(c.block _ x.lt).M x;have R:Gb a (w.heap.size+1) 112 _:=(c.block _ q.lt).M q;have i:=v.M (c.Q v.size);obtain⟨a0,T⟩:=y.c1;have ab:w.heap.size+1<a.heap.size:=R.lt;have ac:¬a.heap.size=w.heap.size:=Ω;have ad:¬w.heap.size=a.heap.size:=Ω;have u:=i.drew;clear x q v c N ae;go_upto_region 4 with fail;go_region_held3 (λW=>W.cell? (dQ w.heap.size 1)=some (dI n)) (go_keep)
  (first|(go_at_call 175;apply(Da A _ (by first|exact i.drew|exact u.alloc u.size _|exact(i.alloc i.size _).drew)).Q;rintro e w'⟨rfl,o⟩;have c:Bw a w':=(by first|exact((Ad _ a).drew).M (o.Q Θ)|exact(((Ad _ a).alloc (Aa _) _).drew).M (o.Q Θ));have m0:=(c.J (by show w.heap.size<a.heap.size;omega)).M T;(try(have z:Gb w' a.heap.size 217 [dN,dI 0]:=(o.block _ Θ).M (D9 a _ 217);obtain⟨z0,y⟩:=z.c1;obtain⟨ag,ah⟩:=z.f1))))
 case' refine_2.refine_3.refine_3.refine_3.refine_3.refine_3.refine_1.refine_2.refine_3.refine_3.refine_3.refine_1.refine_2.refine_1.refine_2.refine_3=>
  obtain⟨l,k,f,aa,af,K⟩:=Df w' [dT r.a r.l r.c,dI r.f] 217;rw[k];have j:=c.M (K.Q c.size);have B:a.heap.size<=w'.heap.size:=c.size;obtain⟨t,g⟩:=ex w'.heap.size;rw[<-g]at f B ⊢;clear k aa af K g
 case' refine_2.refine_3.refine_3.refine_3.refine_3.refine_3.refine_2.refine_1.refine_2.refine_1.refine_2.refine_3.refine_3.refine_3.refine_1.refine_2.refine_3=>
  have f:Gb ((w'.setCell (dQ a.heap.size 0) (dT r.a r.l r.c)).setCell (dQ a.heap.size 1) (dI r.f)) a.heap.size 217 [dT r.a r.l r.c,dI r.f]:=by have:=(z.set 0 (dT r.a r.l r.c)).set 1 (dI r.f);simpa using this
  have j:Bw a ((w'.setCell (dQ a.heap.size 0) (dT r.a r.l r.c)).setCell (dQ a.heap.size 1) (dI r.f)):=(c.setCell (Aa _) _).setCell (p:=dQ a.heap.size 1) (Aa _) _;obtain⟨l,k⟩:∃l,(w'.setCell (dQ a.heap.size 0) (dT r.a r.l r.c)).setCell (dQ a.heap.size 1) (dI r.f)=l:=⟨_,rfl⟩;rw[k]at f j ⊢;obtain⟨t,g⟩:=ex a.heap.size;have B:a.heap.size<=t:=Ω;rw[<-g]at f;rw[show(Value.pointer (some { block:=a.heap.size,off:=0 }))=Value.pointer (some { block:=t,off:=0 }) by rw[g]];clear k g
 all_goals
  have d:Gb l (w.heap.size+1) 112 _:=(j.block _ ab).M R;have Y:=i.M (j.Q i.size);obtain⟨b0,b1,b2,b3⟩:=d.c3;obtain⟨f0,f1,f2,f3⟩:=d.f3;obtain⟨c0,c1⟩:=f.c1;clear ac ad u o c m0 j A f;go_wp2;have m:=Ke d (dU s) (dV false) (dI (r.l:Int)) (dI r.f);obtain⟨r0,r1,r2,r3⟩:=m.c3;exact Am (by simp[results,results180,go_sem,r0,r1,r2,r3,Mm]) rfl ⟨rfl,QS Y (Ef _) _ _ _ _⟩
def QP(G:Gh)(I:LF)(ns:LY)(name:By)(u:VS)(v:Value):Prop:=
 (u.p.isSome=true/\v=LW name (G.countP (GH ns)))\/(u.p=none/\∃r,(u.f,r)∈I/\v=Mm name r.l r.f)
theorem ZZ(w:World)(tb c:Nat)(V:NV)(E:NS)(g:Value)(G:Gh)(I:LF)(C:IB)(h:TW w tb c V E g G I C)(l:Gp G)(m:G.length<=10000)(n:I.length<=10000)(k:Hq G I)(a:By)(j:a.size<=2000000)(ns:LY)(u:VS)(p:(∃b,u=⟨some (dQ b 0),0⟩/\Gd G c ns b)\/(u.p=none/\∃x∈G,x.2=u)):
  Cl 180 #[dP tb,dU a,.agg #[.pointer u.p,dI u.f]] w λe w'=>∃v,e=dR v/\QP G I ns a u v/\Bw w w':=by
 rcases p with⟨b,rfl,o⟩|⟨f,x,q,rfl⟩;apply(Zm8 w tb c V E g G I C h l m a j ns b o).Q;rintro e w'⟨rfl,d⟩;exact⟨_,rfl,.inl ⟨rfl,rfl⟩,d⟩;obtain⟨r,i,_,_⟩:=k x q f;rw[f];apply(Zm7 w tb c V E g G I C h n a j _ r i).Q;rintro e w'⟨rfl,d⟩;exact⟨_,rfl,.inr ⟨f,r,i,rfl⟩,d⟩
theorem Wg{a:By}(h:QP G I ns a u v):∃b c d,v=.agg #[dU a,dV b,dI c,dI d]:=by rcases h with⟨_,rfl⟩|⟨_,r,_,rfl⟩;exact⟨_,_,_,rfl⟩;exact⟨_,_,_,rfl⟩
def S2(w:World)(G:Gh)(I:LF)(p:By)(e:Ending)(w':World):Prop:=
 ((Hk G p≠0/\e=dR (.tuple #[Qz,dI (Hk G p)]))\/
  (Hk G p=0/\∃v,((Dc p=[]/\v=LW ⟨#[]⟩ (G.countP (GH [])))\/∃ds n u,Dc p=ds++[n]/\Gr G (Dc p)=some u/\QP G I (Dc p) n u v)/\e=dR (.tuple #[v,dI 0])))/\Bw w w'
theorem Znb(w:World)(tb M:Nat)(V:NV)(E:NS)(N:Value)(G:Gh)(I:LF)(C:IB)(h:TW w tb M V E N G I C)(U:Gp G)(X:G.length<=10000)(ah:I.length<=10000)(T:Hq G I)(p:By)(x:p.size<=2000000):
  Cl 121 #[dP tb,dU p] w (S2 w G I p):=by
 have B:∀o,Bw w (w.alloc o):=λo=>(Ad _ _).alloc (Aa _) o;have ac:=λo=>R3 _ tb M V E N G I C (h.below (B o) (Aa _)) U X p x;have P:=Db (D9 w [dU ⟨#[]⟩,dV false,dI 0,dI 0] 112);have O:=Db h;have ad:=Db T;clear h T;go_enter func121,ntmps121;go_wp2_with fail;apply(ac _).Q;rintro e z⟨ak,D⟩;have j:=(B _).M (D.Q Θ);have t:Gb z w.heap.size 112 _:=(D.block _ Θ).M (Da P);have an:w.heap.size<z.heap.size:=t.lt;clear ac B D P;rcases ak with⟨s,rfl⟩|⟨he,aa,d,n,u,y,rfl⟩
 .have ae:=Db s;have ao:(Hk G p != 0)=true:=by simpa using s
  clear s;unfold DE Dk;go_upto_if 15 with fail;obtain⟨W,l,i,r,al,q⟩:=Df z Qi 262;have a:=r _ _ _ t;have m:=j.M (q.Q j.size);rw[l];clear l t j r q;obtain⟨b0,b1,b2,b3⟩:=a.c3;obtain⟨g0,g1,g2,g3⟩:=a.f3;go_wp2;have c:=Ke a (dU ⟨#[]⟩) (dV false) (dI 0) (dI 0);obtain⟨H,J,K,L⟩:=c.c3;exact Am (by simp[results,results121,go_sem,H,J,K,L,Qz]) rfl
   ⟨.inl ⟨Da ae,rfl⟩,QS m (Aa _) _ _ _ _⟩
 .have Q:=Db y;have HE:=Db he;have Z:=U7 (Da O).d y;have aj:n.size<=2000000:=by rcases y with⟨_,_,rfl,_⟩|⟨ds,db,g,_⟩;exact Ao _;exact Pe aa g
  clear y he aa;unfold Dk;go_upto_if 15 with fail;obtain⟨W,l,i,r,al,q⟩:=Df z (DS d n true u) 262;have a:=r _ _ _ t;have m:=j.M (q.Q j.size);rw[l];clear l t j r q;obtain⟨a0,a1,a2,a3,a4⟩:=i.c4;have ab:=ZZ W tb M V E N G I C ((Da O).below m (Aa _)) U X ah (Da ad) n aj _ u (by rcases Z with⟨g,_⟩|⟨_,_,A,k⟩|⟨_,b,A,k,_⟩;cases g;exact .inr ⟨k,_,JZ A,rfl⟩;exact .inl ⟨b,A,k⟩);have R:=Db ab;clear ab Z;go_wp2_with fail;apply(Da R).Q;rintro e w3⟨v,rfl,F,Y⟩;obtain⟨vb,vc,vd,rfl⟩:=Wg F;have f:Gb w3 w.heap.size 112 _:=(Y.block _ a.lt).M a;have ai:=m.M (Y.Q m.size);obtain⟨b0,b1,b2,b3⟩:=f.c3;obtain⟨g0,g1,g2,g3⟩:=f.f3;have S:=Db F;clear F R a i;go_wp2;have c:=Ke f (dU n) (dV vb) (dI vc) (dI vd);obtain⟨H,J,K,L⟩:=c.c3;refine Am (v:=.tuple #[.agg #[dU n,dV vb,dI vc,dI vd],dI 0]) (by simp[results,results121,go_sem,H,J,K,L]) rfl
   ⟨.inr ⟨Da HE,_,?_,rfl⟩,QS ai (Aa _) _ _ _ _⟩
  rcases Da Q with⟨g,_,k,_,h5⟩|⟨ds,db,g,_⟩;refine .inl ⟨g,?_⟩;rcases Da S with⟨_,e⟩|⟨x,_⟩;rw[e,g,k];rw[h5]at x;cases x;have s:Dc p≠[]:=by rw[g];simp
  obtain⟨af,am,ag,_,_,h4⟩:=(Da Q).in s;exact .inr ⟨af,n,u,ag,h4,Da S⟩
theorem Gb.pg{k:Nat}{t:TypeId}(h:Gb w k t R)(b:Fr (DV tb w) w w')(c:¬(t=214\/t=229\/t=310\/t=293)):Gb w' k t R:=
 h.e b (λ⟨⟨t',R',a,aa⟩,_⟩=>c (by rw[h.type a];omega))
theorem ZgA(z J L K:Nat)(u:FrameMode)(w:World)(tb y:Nat)(V:NV)(E:NS)(Y:Value)(G:Gh)(I:LF)(C:IB)(h:TW w tb y V E Y G I C)(P:Gp G)(ac:G.length<=10000)(ad:I.length<=10000)(b:LY)(a:Nat)(c:Gd G y b a)(n:By)(t:Bool)(X:VS)(f:Int)(ah:(b++[n],(⟨none,f⟩:VS))∈G)(r:VF)(ag:(f,r)∈I)(hr:r.f=1)(d:Int)(p:Gb w z 26 [dI d])(j:Gb w J 262 (DS (some (dQ a 0)) n t X))(O:Gb w L 37 [dP tb])(N:Gb w K 3 [dI f]):
  CallsD prog 229 #[dP z,dP J,dP L,dP K] u w λe u' w'=>u'=u/\(e=dR (.tuple #[])/\Gb w' z 26 [dI d]/\Fr (DV tb w) w w'/\((d=0/\w'=w)\/(d≠0/\∃V' E' H o,TW w' tb y V' E' H (Ly G (b++[n])) o C/\Vf I o f))):=by
 have a0:=p.J 0;by_cases D:d=0
 .have af:(d != 0)=false:=Ξ
  go_enter_d func229,ntmps229
  go_wp2
  go_end0
  exact⟨rfl,p,Fr.refl _ _,.inl ⟨D,rfl⟩⟩
 .have af:(d != 0)=true:=Ξ;have S:=(h.d.en b a c n _).2 ah;have F:=Vs w a n t X _ _ _ (h.d.row b a c) (h.d.sl b a c) (Ae (h.d.le P c) ac) (h.d.ak b a c) S;unfold Dk at F;have M:=Db F;have HH:=Db h;have HA:=Db D;obtain⟨c0,c1,c2,c3,c4⟩:=j.c4;have H8:=Db p;have H4:=Db O;have Z:=Db N;clear F h S D p O N
  go_enter_d func229,ntmps229
  go_wp2_with fail;apply(Da M).Q;rintro e w2⟨rfl,v',ak,x,i,l,q4,U,W,m⟩;have g:=Da HH;have s:=g.d.row b a c;have v:=g.d.sl b a c;have q:∀k t R,Gb w k t R->t≠229->t≠310->Gb w2 k t R:=λk t R B A h2=>B.e m (λe=>by rcases e with rfl|e;exact A (B.type s);obtain⟨R',ae⟩:=v.type e;exact h2 (B.type ae));have Q:=TW.d9 g s v m (g.d.gs P c (O1 G _) x i l U W m);have T:=ZgE w2 tb y _ _ Y _ I C Q ad f r ag Ω Ω;have ab:=Db T;have aa:Hid (Fr (DV tb w) w w2):=Fr.ay (g.f7 c) s v m;have k8:=q _ _ _ (Da H8) Δ Δ;have k4:=q _ _ _ (Da H4) Δ Δ;have ai:=q _ _ _ (Da Z) Δ Δ;have d4:=k4.J 0;have aj:=ai.J 0;clear g s v q Q T x i l q4 U W m M c0 c1 c2 c3 c4;go_wp2_with fail;apply(Da ab).Q;rintro e w3⟨rfl,⟨H,o,x,i⟩,l⟩;go_wp2
  go_end0
  refine⟨rfl,k8.pg l Δ,(Da aa).ab l,.inr ⟨Da HA,_,_,H,o,x,?_⟩⟩;rcases i with⟨_,i⟩|⟨A,_⟩;exact i;exact absurd hr A
def QR(i:Int)(d:By):Bool:=decide (0<=i/\i<=1280-(d.size:Int))
def IC(G:Gh)(I:LF)(p:By)(i:Int)(d:By):Int:=if DA G p (QR i d)≠0 then DA G p (QR i d) else if Dc p=[] then 5 else match Gr G (Dc p) with|some u=>if u.p.isSome=true then 5 else 0|none=>if Je G I (Dc p).dropLast=false then 8 else 0
def Il(s:By)(i:Int)(d:By):By:=if d.size=0 then s else I8 s i.toNat d
def Na(w:World)(a0 a:OA):Prop:=a=a0\/∀g,a=some g->w.heap.size<=g.block
theorem Na.Q{b a:OA}(h:Na w' b a)(hs:w.heap.size<=w'.heap.size):Na w b a:=h.elim .inl (λh => .inr Γ)
def Pr(w:World)(tb:Nat)(G:Gh)(I:LF)(C:IB)(ns:LY)(f:Int)(r:VF)(s:By)(e:Ending)(w':World):Prop:=
 Fr (DV tb w) w w'/\∃(I1 I2:LF),I1.length=I.length+1/\(∀x,x∈I1↔x=(f,⟨none,0,0,1⟩)\/x∈I)/\Gs I1 I2 f r/\
  ((e=dR (dI 9)/\160<DL (I2.map (·.2.l))/\∃I3 C3,PS w' tb G I3 C3/\I3.length=I.length/\(∀x,x∈I3↔x∈I)/\∀x∈I,C3 x.1=C x.1)\/
   (e=dR (dI 0)/\DL (I2.map (·.2.l))<=160/\∃C2,PS w' tb (G++[(ns,⟨none,f⟩)]) I2 C2/\C2 f=s/\∀x∈I,C2 x.1=C x.1))
def Zsa(w:World)(tb:Nat)(G:Gh)(I:LF)(C:IB)(ns:LY)(s:By)(e:Ending)(w':World):Prop:=
 Fr (DV tb w) w w'/\∃(f:Nat) (I1 I2:LF) (a:OA) (c:Nat),Na w none a/\f<=I.length/\(∀x∈I,x.1≠f)/\I1.length=I.length+1/\(∀x,x∈I1↔x=((f:Int),⟨none,0,0,1⟩)\/x∈I)/\Gs I1 I2 f ⟨a,s.size,c,1⟩/\
  ((e=dR (dI 9)/\160<DL (I2.map (·.2.l))/\∃I3 C3,PS w' tb G I3 C3/\I3.length=I.length/\(∀x,x∈I3↔x∈I)/\∀x∈I,C3 x.1=C x.1)\/
   (e=dR (dI 0)/\DL (I2.map (·.2.l))<=160/\∃C2,PS w' tb (G++[(ns,⟨none,(f:Int)⟩)]) I2 C2/\C2 f=s/\∀x∈I,C2 x.1=C x.1))
def OH(w:World)(tb:Nat)(G:Gh)(I:LF)(C:IB)(p:By)(i:Int)(d:By)(e:Ending)(w':World):Prop:=
 (IC G I p i d≠0/\e=dR (dI (IC G I p i d))/\Fr (DV tb w) w w'/\PS w' tb G I C)\/
 (IC G I p i d=0/\((∃u r a c,Gr G (Dc p)=some u/\u.p=none/\(u.f,r)∈I/\Na w r.a a/\VH w tb G I C u.f ⟨a,(Il (C u.f) i d).size,c,r.f⟩ (Il (C u.f) i d) e w')\/
  (Gr G (Dc p)=none/\Zsa w tb G I C (Dc p) (Il ⟨#[]⟩ i d) e w')))
theorem ZnB(w:World)(tb d:Nat)(V:NV)(E:NS)(f:Value)(G:Gh)(I:LF)(C:IB)(h:TW w tb d V E f G I C)(g:I.length<=10000)(l:∀x∈I,x.2.l<=2000000)(n:Int)(c:VF)(k:(n,c)∈I)(a:OA)(dl b:Nat)(j:dl<=2000000)(s:By)(i:Sl w 5 1 (dT a dl b) dl (Dd s)):
  Cl 189 #[dP tb,dI n,dT a dl b] w λe w'=>∃x:Int,e=dR (dI x)/\Ia w tb d V E f G I C n ⟨a,dl,b,c.f⟩ s (dR (dI x)) w':=by
 apply(Vn w tb d V E f G I C h g l n c k a dl b j s i).Q;intro e w' m;have o:=m;obtain⟨_,I',_,⟨rfl,_⟩|⟨rfl,_⟩⟩:=o;simp_all;simp_all
theorem Gp.add(h:Gp G)(hn:GO ns)(ab:ns≠[])(hl:ns.length<=6)(aa:Gr G ns=none)(ac:∀d n,ns=d++[n]->d=[]\/∃v,(d,v)∈G/\v.p.isSome=true)(u:VS):Gp (G++[(ns,u)]):=by refine⟨λx c=>?_,λx c=>?_,λx c=>?_,?_,λd n v c=>?_⟩;rcases Al.1 c with c|c;exact h.az x c;simp_all;rcases Al.1 c with c|c;exact h.ne x c;simp_all;rcases Al.1 c with c|c;exact h.le x c;simp_all;rw[AE,CZ];refine⟨h.nd,Θ,λa ha b hb=>?_⟩;grind [Ux];rcases Al.1 c with c|c;rcases h.up d n v c with e|⟨v',ad,hs⟩;simp_all;grind;grind
theorem Gd.up(h:Gd G c a b):a=[]\/∃v,(a,v)∈G/\v.p.isSome=true:=by rcases h with⟨rfl,_⟩|h;simp_all;grind
theorem Zjo{P:Program}{fn:Func}{R:Ending->World->Prop}{tmps:Array Value}(h:Leaves P fn tmps R [] .returning w):bodyPostD P fn R Exit.ret { tmps:=tmps,defers:=[] } w:=h
theorem ZM(w:World)(a:OA)(l c:Nat)(s:By)(h:Sl w 5 1 (dT a l c) l (Dd s))(y:s.size<=1280)(i:Nat)(b:OA)(j f:Nat)(d:By)(p:GL w b j f d)(q:i+d.size<=1280):
  Cl 187 #[dT a l c,dI i,dT b j f] w λe w'=>∃oa oc,e=dR (.slice oa (Il s i d).size oc)/\Sl w' 5 1 (.slice oa (Il s i d).size oc) (Il s i d).size (Dd (Il s i d))/\Bw w w'/\Na w a oa:=by
 apply(ZiP w a l c s h.cc y i b j f d p q).Q;rintro e w'⟨v,g⟩;rcases v with⟨o,rfl⟩|⟨o,x,m,rfl,hx,n⟩;have:Il s i d=s:=by simp_all[Il]
 rw[this];have t:=h.cc.1;subst t;exact⟨a,c,rfl,h.kept (λk r _=>g.block k r),g,.inl rfl⟩;have:Il s i d=I8 s i d:=by unfold Il;grind
 rw[this];have u:=n.cc.1;subst u;exact⟨_,_,rfl,n,g,.inr Γ⟩
theorem Ze1(w:World)(tb b:Nat)(V:NV)(E:NS)(vi:Value)(G:Gh)(I:LF)(C:IB)(h:TW w tb b V E vi G I C)(hG:Gp G)(bf:G.length<=9000)(bg:I.length<=9000)(aH:∀x∈I,x.2.l<=2000000)(a:LY)(d:Nat)(ab:Gd G b a d)(n:By)(hn:n.size<=2000000)(v:GO (a++[n])/\(a++[n]).length<=6)(au:Gr G (a++[n])=none)(f:Int)(hf:∀x∈I,x.1≠f)(H:OA)(dl J:Nat)(aZ:dl<=2000000)(s:By)(aA:Sl w 5 1 (dT H dl J) dl (Dd s)):
  Cl 185 #[dP tb,Dk (some (dQ d 0)) n false ⟨none,0⟩,dI f,dT H dl J] w λe w'=>(Je G I a=false/\e=dR (dI 8)/\Bw w w')\/(Je G I a=true/\(∃x:Int,e=dR (dI x))/\Pr w tb G I C (a++[n]) f ⟨H,dl,J,1⟩ s e w'):=by
 have bi:∀(fn:Fn) (first cap:Array Value) (w:World),(Instr.makeFunc fn first cap).run prog w=.ok (.func fn first cap) w:=λ_ _ _ _=>rfl;unfold Dk;obtain⟨W1,aV,aL,a2,N,av⟩:=Df w [dP tb] 37;obtain⟨W2,aW,aM,aG,af,aw⟩:=Df W1 (DS (some (dQ d 0)) n false ⟨none,0⟩) 262;obtain⟨W3,aX,aN,ad,aK,ax⟩:=Df W2 [dI f] 3;obtain⟨W4,aY,aO,M,a7,ay⟩:=Df W3 [dI 0] 26;have L:=((av.M (aw.Q Ω)).M (ax.Q Ω)).M (ay.Q Ω);have O:=M _ _ _ (ad _ _ _ (aG _ _ _ aL));have B:=M _ _ _ (ad _ _ _ aM);have P:=M _ _ _ aN;have Q:=aO;rw[N]at B;rw[af,N]at P;rw[aK,af,N]at Q;have am:=Db (Zf6 W4 tb b V E vi G I C (h.below L (Aa _)) hG Ω Ω a d ab);have HH:=Db h;have HD:=Db aA;have bc:=Db aH;have HF:=Db hf;have R:=Db ab;have ag:=Db au;have aS:=Db v;have HW:Hid ((((w.alloc (.cells #[dP tb] 37)).alloc (.cells #[dP d,dU n,dV false,.pointer none,dI 0] 262)).alloc (.cells #[dI f] 3)).alloc (.cells #[dI 0] 26)=W4):=by simp_all
 clear h aA aH hf ab au v aV aW aX aY aL aM aN aO a2 aG ad M av aw ax ay N af aK a7
 go_enter_defers func185,ntmps185
 go_upto_region 1 with fail;rw[Da HW];clear HW;have Y:=O.J 0;have a5:=B.J 0;go_wp2_with fail;apply(Da am).Q;rintro e c⟨rfl,o⟩;have x4:Gb c w.heap.size 37 _:=(o.block _ O.lt).M O;have x5:Gb c (w.heap.size+1) 262 _:=(o.block _ B.lt).M B;have x6:Gb c (w.heap.size+1+1) 3 _:=(o.block _ P.lt).M P;have A:Gb c (w.heap.size+1+1+1) 26 _:=(o.block _ Q.lt).M Q;have u:=L.M (o.Q L.size);rw[show decide _=Je G I a from rfl];clear am Y a5 O B P Q o L;cases hmb:Je G I a with
 |false=>
  have c8:=A.J 0;have f8:=A.A 0;go_wp2;have d8:=(A.set 0 (dI 8)).J 0;refine Zjo ?_;exact⟨dI 8,by simp[results,results185,go_sem]at d8 ⊢;simp[d8],.inl ⟨hmb,rfl,u.setCell (p:=⟨w.heap.size+1+1+1,0,none⟩) Γ _⟩⟩
 |true=>
  have an:Hid (∀X,Bw c X->Cl 228 #[.pointer (some (dQ tb 1)),dI f,.agg #[dN,dI 1]] X λe w'=>e=dR (.tuple #[])/\(∃z F,TW w' tb b V E z G F (λk=>if k=f then⟨#[]⟩ else C k)/\F.length=I.length+1/\∀x,x∈F↔x=(f,⟨none,0,0,1⟩)\/x∈I)/\Fr (DV tb c) c w'):=λX hb=>by have hX:=(Da HH).below (u.M (hb.Q u.size)) (Aa _);apply(Zk1 X tb b V E vi G I C hX Ω f ⟨none,0,0,1⟩ (Da HF) ⟨#[]⟩ ⟨rfl,Γ⟩).Q;rintro e w'⟨rfl,⟨z,F,q1,q2,q3⟩,q4⟩;exact⟨rfl,Γ,by grind [Fr.pg,Fr.dg]⟩
  have Y:=x4.J 0;have Z:=x6.J 0;have T:=Db x4;have X5:=Db x5;have U:=Db x6;have X8:=Db A;have az:Bw c c:=Ad _ _;clear x4 x5 x6 A;go_upto_region 3 with fail;go_region_held3 (λW=>W.cell? (dQ w.heap.size 0)=some (dP tb)/\W.cell? ⟨w.heap.size+1+1,0,none⟩=some (dI f)) (go_keep)
   (first|(go_at_call 228;apply(Da an _ az.drew).Q;rintro e w6⟨rfl,⟨z,m,q1,q2,q3⟩,i⟩;have m4:=((Da T).pg i Δ).J 0;have m6:=((Da U).pg i Δ).J 0))
  all_goals
   have z4:=(Da T).pg i Δ;have l:=(Da X5).pg i Δ;have z6:=(Da U).pg i Δ;have z8:=(Da X8).pg i Δ;have ac:=Yg w6 tb b V E z G m _ q1 hG Ω Ω a d (Da R) n hn (Da ag) f;unfold Dk at ac;have ah:=Db ac;have t:=Db q3;have ak:=Db q2;have aj:=Db i;obtain⟨b0,b1,b2,b3,b4⟩:=l.c4;clear ac q1 q2 q3 i an T X5 U X8 Y Z m4 m6 az;have Z:=z6.J 0;go_wp2_with fail;apply(Da ah).Q;rintro e w7⟨rfl,V',E',h7,j⟩;have s4:=z4.pg j Δ;have s6:=z6.pg j Δ;have aQ:Hid (Fr (DV tb w) w w7):=(Fr.pg u (Da aj)).ab j;have HT:=Db h7;have al:Hid ((f,(⟨none,0,0,1⟩:VF))∈m):=(Da t _).2 (.inl rfl);have ar:m.length<=10000:=(by grind [Da]);have aC:=ZnB w7 tb b V' E' z _ m _ h7 ar (λx hx=>by rcases(Da t x).1 hx with rfl|hx;simp_all;grind [Da]) f ⟨none,0,0,1⟩ (Da al) H dl J aZ s (Da ((((Da HD).kept (λk hk _=>u.block k hk)).pg (Da aj)).pg j));have ai:=Db aC;have c4:=s4.J 0;have c6:=s6.J 0;have S4:=Db s4;have S5:=Db (l.pg j Δ);have S6:=Db s6;have S8:=Db (z8.pg j Δ);clear aC h7 j ah b0 b1 b2 b3 b4 Z z4 l z6 z8 s4 s6;go_wp2_with fail;apply(Da ai).Q;rintro e w8⟨x,rfl,hq⟩;obtain⟨r,S,aF,q⟩:=hq;have g4:=(Da S4).pg r Δ;have g5:=(Da S5).pg r Δ;have g6:=(Da S6).pg r Δ;have g:=(Da S8).pg r Δ;have k8:=g.J 0;have f8:=g.A 0;have aR:=Db r;have aP:=Db q;have D:=Db aF;have G4:=Db g4;have G5:=Db g5;have G6:=Db g6;have G8:=Db g;clear r q aF ai c4 c6 S4 S5 S6 S8 g4 g5 g6 g;go_wp2;have g:=Da G8;have ao:Fr (DV tb w) w (w8.setCell ⟨w.heap.size+1+1+1,0,none⟩ (dI x)):=((Da aQ).ab (Da aR)).ext ((Ad _ _).setCell (p:=⟨w.heap.size+1+1+1,0,none⟩) Γ _);have d8:=g.set 0 (dI x);have d4:=(Da G4).a1 ⟨w.heap.size+1+1+1,0,none⟩ (dI x) Γ;have d5:=(Da G5).a1 ⟨w.heap.size+1+1+1,0,none⟩ (dI x) Γ;have d6:=(Da G6).a1 ⟨w.heap.size+1+1+1,0,none⟩ (dI x) Ξ;have v:=Da aS;have ap:Gp (G++[(a++[n],(⟨none,f⟩))]):=hG.add v.1 Θ v.2 (Da ag) (λbd n' e=>by obtain⟨rfl,rfl⟩:=Qu e;exact(Da R).up) _;have aq:(G++[(a++[n],(⟨none,f⟩:VS))]).length<=10000:=(by simp;omega);have aB:Gd (G++[(a++[n],(⟨none,f⟩))]) b a d:=(Da R).elim .inl (λh => .inr (Ba _ h));have aJ:(a++[n],(⟨none,f⟩))∈G++[(a++[n],(⟨none,f⟩))]:=Θ;have a0:∀y,y∈G↔y∈Ly (G++[(a++[n],(⟨none,f⟩))]) (a++[n]):=λy=>by rw[O1,Al,Ax];constructor;grind [Ux,Da];grind
   have aa:w.heap.size+1+1+1≠0:=Ω;have be:=Da HF;refine leaves_cons (f:=229) (args:=#[.pointer (some ⟨w.heap.size+1+1+1,0,none⟩),.pointer (some ⟨w.heap.size+1,0,none⟩),dP w.heap.size,.pointer (some ⟨w.heap.size+1+1,0,none⟩)]) Θ (by simp[go_sem]) ?_;rcases Da aP with⟨e9,a1,aT,K,bh,aI⟩|⟨e0,a3,K⟩
   .have ba:x=9:=Ξ;subst ba;apply(ZgA _ _ _ _ _ _ tb b _ _ _ _ aT _ (K.a1 g aa Δ 0 _) ap aq Ω a d aB n false _ f aJ _ ((aI _).2 (Da al)) rfl 9 Ξ d5 d4 d6).Q;rintro e u' w9⟨rfl,rfl,ae,aD,q⟩;refine⟨dI 9,by simp[results,results185,go_sem,(ae.J 0)],?_⟩;rcases q with⟨h0,_⟩|⟨_,V7,E7,bb,I7,aU,aE⟩;omega;refine .inr ⟨hmb,⟨_,rfl⟩,ao.ab aD,m,S,Da ak,Da t,Da D,.inl ⟨rfl,a1,I7,_,⟨b,V7,E7,bb,aU.ey a0⟩,?_,λy=>?_,Γ⟩⟩;have h1:=aE.1;grind [Da];rw[aE.2 y,aI y,Da t y];grind
   .have a9:x=0:=Ξ;subst a9;apply(ZgA _ _ _ _ _ _ tb b _ _ _ _ S _ (K.a1 g aa Δ 0 _) ap aq (by rw[(Da D).1];exact ar) a d aB n false _ f aJ _ (((Da D).2 _).2 (.inl rfl)) rfl 0 Ξ d5 d4 d6).Q;rintro e u' w9⟨rfl,rfl,ae,aD,q⟩;refine⟨dI 0,by simp[results,results185,go_sem,(ae.J 0)],?_⟩;rcases q with⟨_,a8⟩|⟨h0,_⟩;rw[a8];refine .inr ⟨hmb,⟨_,rfl⟩,ao,m,S,Da ak,Da t,Da D,.inr ⟨rfl,a3,_,⟨b,_,_,_,K.a1 g aa Δ 0 _⟩,Θ,λy hy=>?_⟩⟩;grind;omega
theorem Zn1(w:World)(tb:Nat)(G:Gh)(I:LF)(C:IB)(h:PS w tb G I C)(hG:Gp G)(be:G.length<=9000)(bf:I.length<=9000)(aI:∀x∈I,0<=x.1)(aH:Hq G I)(aN:∀x∈I,x.2.l<=2000000)(hC:∀x∈I,(C x.1).size<=1280)(p:By)(hp:p.size<=2000000)(i:Int)(d:By)(bg:d.size<=2000000)(P:OA)(Q:Nat)(hd:GL w P d.size Q d):
  Cl 123 #[dP tb,dU p,dI i,dT P d.size Q] w (OH w tb G I C p i d):=by
 obtain⟨N,V,E,O,h⟩:=h;have ae:Hid (∀W,Bw w W->IC G I p i d≠0->OH w tb G I C p i d (dR (dI (IC G I p i d))) W):=λW j g => .inl ⟨g,rfl,Fr.S j,N,V,E,O,h.below j (Aa _)⟩;have HH:=Db h;have aQ:=Db aH;have HC:=Db hC;have aC:=Db aN;have aS:=Db aI;have HD:=Db hd;have H:=Db (Se w tb N V E O G I C h hG Ω p hp (QR i d));clear h aH hC aN hd aI;obtain⟨av,ax⟩:=ex (QR i d);have aj:=Db ax;rw[<-ax]at H;have aX:(av=true/\0<=i/\i<=1280-(d.size))\/(av=false/\0<=i/\¬i<=1280-(d.size))\/(av=false/\¬0<=i):=by grind [QR,decide_eq_true,decide_eq_false]
 clear ax;rcases aX with⟨rfl,aF,aW⟩|⟨rfl,aF,aW⟩|⟨rfl,aF⟩
 .go_enter func123,ntmps123;go_wp2_with fail;apply(Da H).Q;rintro e w1⟨A,j⟩;clear H;rcases A with⟨g,rfl⟩|⟨Z,ar,sd,n,t,u,az,rfl⟩
  .have s:Hid (IC G I p i d=DA G p true):=(by show _=_;unfold IC;rw[<-Da aj,if_pos g]);have ak:=Db g;have aO:(DA G p true != 0)=true:=Ξ;clear g;unfold DE Dk;go_wp2;go_ret;have:=Da ae _ (j.alloc j.size (.cells (DS none ⟨#[]⟩ false ⟨none,0⟩).toArray 262)) (by grind [Da]);rw[Da s]at this;exact this
  .have aY:=U7 (Da HH).d az;have aU:=Db az;have bc:=Db Z;have aT:=Db ar;clear az Z ar;unfold Dk;go_upto_if 32 with fail;obtain⟨W,hW,l,hk,ah,aK⟩:=Df w1 (DS sd n t u) 262;have m:=j.M (aK.Q j.size);rw[hW];have aP:Hid (w.heap.size<=w1.heap.size):=j.size;obtain⟨F,aG⟩:=ex w1.heap.size;rw[<-aG]at l aP ⊢;clear hW hk aK j ah aG;obtain⟨c0,c1,c2,c3,c4⟩:=l.c4;have HX:=Db l;clear l;have bd:Hid (IC G I p i d=if Dc p=[] then 5 else match Gr G (Dc p) with|some u=>if u.p.isSome=true then 5 else 0|none=>if Je G I (Dc p).dropLast=false then 8 else 0):=by show _=_;unfold IC;rw[<-Da aj,if_neg (by grind [Da])]<;>rfl
   obtain⟨k,hk⟩:∃k:Nat,i=(k):=⟨i.toNat,Ω⟩;subst hk;rcases aY with⟨rfl,g,U⟩|⟨rfl,g,U,hu⟩|⟨rfl,b,rfl,aq,a4⟩
   .obtain⟨B,v,ag,aq,a9,bb⟩:∃B v,Dc p=B++[n]/\Gd G N B v/\sd=some (dQ v 0)/\u=⟨none,0⟩:=(by rcases Da aU with⟨y,_⟩|⟨B,v,y,R,h3,_,h5⟩;simp_all;simp_all);subst a9 bb;have au:=Db U;have aV:Hid (IC G I p (k) d=if Je G I B=false then 8 else 0):=Ξ;obtain⟨S,J⟩:=ex (Il ⟨#[]⟩ (k) d);have ao:S.size<=2000000:=(by rw[J];unfold Il;split;decide;rw[OY];have h0:(⟨#[]⟩:By).size=0:=rfl;omega);have al:Hid (∀X,Bw W X->Cl 187 #[dN,dI (k),dT P d.size Q] X λe w'=>∃a c,e=dR (dT a S.size c)/\Hid (Sl w' 5 1 (dT a S.size c) S.size (Dd S))/\Bw X w'/\Hid (Na X none a)):=λX z=>by have o:=m.M (z.Q m.size);have y:Sl X 5 1 dN 0 (Dd ⟨#[]⟩):=⟨rfl,Γ⟩;exact(ZM X none 0 0 _ y Δ k P _ Q d ((Da HD).below o) Ω).Q Γ
    have aR:Hid (∀X,Bw W X->Cl 186 #[dP tb] X λe w'=>∃f:Nat,e=dR (dI f)/\Hid (f<=I.length/\∀x∈I,x.1≠f)/\Bw X w'):=λX z=>by have o:=m.M (z.Q m.size);have hT:=(Da HH).below o (Aa _);exact(Zpq X tb _ O I hT.t hT.i Ω hT.si (Da aS)).Q Γ
    have aD:Hid (∀X (f:Nat) a c,Bw W X->Hid (f<=I.length/\∀x∈I,x.1≠f)->Hid (Sl X 5 1 (dT a S.size c) S.size (Dd S))->Hid (Na W none a)->Cl 185 #[dP tb,Dk (some (dQ v 0)) n false ⟨none,0⟩,dI f,dT a S.size c] X λe w'=>∃x:Int,e=dR (dI x)/\OH w tb G I C p (k) d (dR (dI x)) w'/\Gb w' F 262 (DS (some (dQ v 0)) n false ⟨none,0⟩)):=λX f a c z hf am T=>by have o:=m.M (z.Q m.size);have aA:Gb X F 262 (DS (some (dQ v 0)) n false ⟨none,0⟩):=(z.block _ (Da HX).lt).M (Da HX);have ag:=Da (Db ag);have ar:=Da aT;have a5:GO (B++[n])/\(B++[n]).length<=6:=(by grind [UC,Uj]);apply(Ze1 X tb N V E O G I C ((Da HH).below o (Aa _)) hG Ω Ω (Da aC) B v (Da (Db aq)) n (Pe ar ag) a5 Ξ f (Da hf).2 a _ c ao S (Da am)).Q;rintro e w' (⟨hm,rfl,L⟩|⟨hm,⟨x,rfl⟩,aM,I1,I2,y,R,h3,h4⟩);have:=Da ae w' (o.M (L.Q o.size)) (by grind [Da]);rw[Da aV,hm]at this;exact⟨8,rfl,this,(L.block _ aA.lt).M aA⟩;refine⟨x,rfl,.inr ⟨by grind [Da],.inr ⟨Da au,Fr.pg o aM,f,I1,I2,a,c,(Da T).Q m.size,(Da hf).1,(Da hf).2,y,R,Ξ,?_⟩⟩,aA.pg aM Δ⟩;rw[<-J,ag];exact h4
    unfold Dk at aD;clear ag aq U g ao J;have aL:Bw W W.drew:=(Ad _ _).drew;have q:=(Da HX).lt;go_upto_region 6 with fail;go_region_held3 (λW=>W.cell? (dQ F 0)=some (dP v)/\W.cell? (dQ F 1)=some (dU n)/\W.cell? (dQ F 2)=some (dV false)/\W.cell? (dQ F 3)=some (.pointer none)/\W.cell? (dQ F 4)=some (dI 0)) (go_keep)
     (first|(go_at_call 186;apply(Da aR _ Ψ).Q;rintro e w3⟨f,rfl,hf,K⟩;have D:=aL.M (K.Q aL.size);have m0:=(D.J q).M c0;have m1:=(D.J q).M c1;have m2:=(D.J q).M c2;have m3:=(D.J q).M c3;have m4:=(D.J q).M c4)|(go_at_call 187;apply(Da al _ Ψ).Q;rintro e w4⟨a,c,rfl,an,ap,T⟩;have Y:=D.M (ap.Q D.size);have n0:=(Y.J q).M c0;have n1:=(Y.J q).M c1;have n2:=(Y.J q).M c2;have n3:=(Y.J q).M c3;have n4:=(Y.J q).M c4)|(go_at_call 185;apply(Da aD _ f a c Y hf an ((Da T).Q D.size)).Q;rintro e w5⟨x,rfl,hq,ai⟩;have HQ:=Db hq;obtain⟨o0,o1,o2,o3,o4⟩:=ai.c4;clear hq))
    all_goals
     go_wp2;go_ret;exact Da HQ
   .obtain⟨up,uf⟩:=u;simp only at hu;subst hu;have s:Hid (IC G I p (k) d=0):=Ξ;obtain⟨r,ay,a7,a8⟩:=Hq.Q (Da aQ) U rfl;simp only at ay;have au:=Db U;have ac:=Db ay;have M:Cl 188 #[Dk sd n true ⟨none,uf⟩] W λe w'=>e=dR (.tuple #[dI uf,dI 0])/\Bw W w':=R8 sd n true _ W;unfold Dk at M;have ab:=Db M;clear g U a7 a8 ay M;go_wp2_with fail;apply(Da ab).Q;rintro e w2⟨rfl,K⟩;have L:=m.M (K.Q m.size);clear ab c0 c1 c2 c3 c4 K;go_wp2_with fail;apply(Da (Db (Q8 w2 tb N V E O G I C ((Da HH).below L (Aa _)) Ω uf r (Da ac)))).Q;rintro e w3⟨rfl,ap⟩;have aw:=L.M (ap.Q L.size);clear ap;go_upto_region 11 with fail;obtain⟨X,z,l,a2,ba,o⟩:=Df w3 [dT r.a r.l r.c,dI r.f] 217;have af:=aw.M (o.Q aw.size);rw[z];obtain⟨a0,a1⟩:=l.c1;have aE:Hid (TW X tb N V E O G I C):=(Da HH).below af (Aa _);have ah:=Da HC _ (Da ac);simp only at ah;obtain⟨S,J⟩:=ex (Il (C uf) (k) d);have ao:S.size<=2000000:=(by grind [Il,OY]);have al:Hid (Cl 187 #[dT r.a r.l r.c,dI (k),dT P d.size Q] X λe w'=>∃a ol c,e=dR (dT a ol c)/\Hid (ol=S.size/\Sl w' 5 1 (dT a ol c) ol (Dd S))/\Bw X w'/\Hid (Na X r.a a)):=(by have y:=(Da aE).av _ (Da ac);have R:=(Da HD).below af;exact(ZM X _ _ _ _ y ah k P _ Q d R Ω).Q (λe w' ⟨a,c,y,R,h3,h4⟩=>⟨a,_,c,y,by rw[J];exact⟨rfl,R⟩,h3,h4⟩));have HS:=Db J;clear z a2 ba o l L aw ah J;go_wp2_with fail;apply(Da al).Q;rintro e w5⟨a,ol,c,rfl,an,aJ,T⟩;obtain⟨a3,am⟩:=Da an;subst a3;have aB:=Db (Vn w5 tb N V E O G I C ((Da aE).below aJ (Aa _)) Ω (Da aC) uf r (Da ac) a _ c ao S am);clear al am an a0 a1;go_wp2_with fail;apply(Da aB).Q;rintro e w6 A;have a6:=A.ps (af.M (aJ.Q af.size));have aa:Hid (OH w tb G I C p (k) d e w6):=.inr ⟨Da s,.inl ⟨_,r,a,c,Da au,rfl,Da ac,((Da T).Q af.size),by grind [Da]⟩⟩;have aZ:e=dR (dI 9)\/e=dR (dI 0):=(by obtain⟨_,I',_,⟨e1,_⟩|⟨e1,_⟩⟩:=A;exact .inl e1;simp_all);clear A a6 aB T;rcases aZ with rfl|rfl
    .go_wp2;go_ret;exact Da aa
    .go_wp2;go_ret;exact Da aa
   .have s:Hid (IC G I p (k) d=5):=(by grind);have M:Cl 188 #[Dk sd n true ⟨some (dQ b 0),0⟩] W λe w'=>e=dR (.tuple #[dI 0,dI 5])/\Bw W w':=R8 sd n true _ W;unfold Dk at M;have ab:=Db M;clear a4 aq M;go_wp2_with fail;apply(Da ab).Q;rintro e w2⟨rfl,K⟩;have aa:=Db (Da ae w2 (m.M (K.Q m.size)) (by grind [Da]));rw[Da s]at aa;clear ab c0 c1 c2 c3 c4 K;go_wp2;go_ret;exact Da aa
 rotate_left
 all_goals
  have g:DA G p false≠0:=by grind [DA]
  have aO:(DA G p false != 0)=true:=Ξ;have s:Hid (IC G I p i d=DA G p false):=by show _=_;unfold IC;rw[<-Da aj,if_pos g]
  have ak:=Db g;clear g;go_enter func123,ntmps123;go_wp2_with fail;apply(Da H).Q;rintro e w1⟨A,j⟩;clear H;rcases A with⟨_,rfl⟩|⟨Z,_⟩
  .unfold DE Dk;go_wp2;go_ret;have:=Da ae _ (j.alloc j.size (.cells (DS none ⟨#[]⟩ false ⟨none,0⟩).toArray 262)) (by grind [Da]);rw[Da s]at this;exact this
  exact absurd Z (Da ak)
theorem ZkO(w:World)(tb:Nat)(G:Gh)(I:LF)(C:IB)(h:PS w tb G I C)(f:Gp G)(g:G.length<=9000)(k:I.length<=9000)(j:∀x∈I,0<=x.1)(e:Hq G I)(n:∀x∈I,x.2.l<=2000000)(c:∀x∈I,(C x.1).size<=1280)(p:By)(o:p.size<=2000000)(i:Int)(d:By)(m:d.size<=2000000)(a:OA)(b:Nat)(l:Sl w 5 1 (dT a d.size b) d.size (Dd d)):
  Cl 123 #[dP tb,dU p,dI i,dT a d.size b] w (OH w tb G I C p i d):=Zn1 w tb G I C h f g k j e n c p o i d m a b l.cc
def Ld(a t ns:LY):LY:=if a <+: ns then t++ns.drop a.length else ns
def Le(G:Gh)(a t:LY):Gh:=G.map (λx=>(Ld a t x.1,x.2))
theorem J0(a t r:LY):Ld a t (a++r)=t++r:=by unfold Ld;simp
theorem JF(h:¬a <+: ns):Ld a t ns=ns:=by simp_all[Ld]
structure Ii(G:Gh)(a t:LY)(u:VS):Prop where
 ok:Gp G
 an:(a,u)∈G
 fo:∀v,(t,v)∉G
 nt:¬a <+: t
 az:GO t
 ne:t≠[]
 le:t.length<=6
 up:∀ds n,t=ds++[n]->ds=[]\/∃v,(ds,v)∈G/\v.p.isSome=true
 ir:∀x∈G,a <+: x.1->x.1.length-a.length+t.length<=6
theorem Ii.fh(h:Ii G a t u)(f:x∈G):¬t <+: x.1:=λc=>by rcases AD t.length x.1.length with b|b;obtain⟨v,d,_⟩:=h.ok.d4 f h.ne (by simp_all[qB]);exact h.fo v d;have e:=c.eq_of_length_le b;exact h.fo x.2 Ξ
theorem Ii.inj(h:Ii G a t u){y:LY×VS}(g:x∈G)(i:y∈G)(e:Ld a t x.1=Ld a t y.1):x.1=y.1:=by by_cases c:a <+: x.1;obtain⟨r,f⟩:=c;rw[<-f,J0]at e;by_cases b:a <+: y.1;obtain⟨s,d⟩:=b;grind [J0,List.append_cancel_left];rw[JF b]at e;exact absurd ⟨r,e⟩ (h.fh i);rw[JF c]at e;by_cases b:a <+: y.1;obtain⟨s,d⟩:=b;rw[<-d,J0]at e;exact absurd ⟨s,e.r⟩ (h.fh g);rw[JF b]at e;exact e
theorem Q7{v:VS}:(ns,v)∈Le G a t↔∃y,(y,v)∈G/\Ld a t y=ns:=by unfold Le;rw[AB];constructor;rintro⟨x,d,e⟩;obtain⟨b,c⟩:=Fy e;exact⟨x.1,by rw[<-c];exact d,b⟩;rintro⟨y,f,e⟩;exact⟨(y,v),f,by rw[<-e]⟩
theorem Ii.ij(h:Ii G a t u):Gp (Le G a t):=by refine⟨λx d=>?_,λx d=>?_,λx d=>?_,?_,λk n v d=>?_⟩;obtain⟨y,b,rfl⟩:=AB.1 d;show GO (Ld a t y.1);by_cases c:a <+: y.1;obtain⟨r,f⟩:=c;rw[<-f,J0];have:=h.ok.az y b;rw[<-f]at this;exact h.az.append this.right;rw[JF c];exact h.ok.az y b;obtain⟨y,b,rfl⟩:=AB.1 d;show Ld a t y.1≠[];by_cases c:a <+: y.1;obtain⟨r,f⟩:=c;rw[<-f,J0];simp[h.ne];rw[JF c];exact h.ok.ne y b;obtain⟨y,b,rfl⟩:=AB.1 d;show(Ld a t y.1).length<=6;by_cases c:a <+: y.1;have hd:=h.ir y b c;obtain⟨r,f⟩:=c;grind [J0];rw[JF c];exact h.ok.le y b;unfold Le;rw[BP];exact Wh _ (Vd h.ok.nd) (λx d y b e=>by have l:=h.inj d b e;have:x.2=y.2:=Kz h.ok.nd d Ξ;grind);obtain⟨y,b,e⟩:=Q7.1 d;by_cases c:a <+: y;obtain⟨r,rfl⟩:=c;rw[J0]at e;by_cases f:r=[];subst f;rw[Ca]at e;rcases h.up k n e with l|⟨j,i,g⟩;simp_all;refine .inr ⟨j,Q7.2 ⟨k,i,JF (λhp=>h.nt Γ)⟩,g⟩;obtain⟨r',m,rfl⟩:=Uk f;rw[<-Ar]at e;obtain⟨l,_⟩:=Qu e;rw[<-Ar]at b;rcases h.ok.up _ _ _ b with o|⟨j,i,g⟩;have:=h.ok.ne _ h.an;simp_all;grind [Q7,J0];rw[JF c]at e;subst e;rcases h.ok.up _ _ _ b with o|⟨j,i,g⟩;simp_all;grind [Q7,JF,List.prefix_append]
theorem Ii.di(h:Ii G a t u){c:LY}(f:Gd (Le G a t) d c b):∃ns,Gd G d ns b/\c=Ld a t ns:=by rcases f with⟨rfl,rfl⟩|i;refine⟨[],.inl ⟨rfl,rfl⟩,(JF (λg=>?_)).r⟩;exact h.ok.ne _ h.an (List.prefix_nil.1 g);obtain⟨y,j,e⟩:=Q7.1 i;exact⟨y,.inr j,e.r⟩
theorem GB.move(h:GB w G l V E){g k:LY}{i z:By}(c:Ii G (g++[i]) (k++[z]) u){C:Nat}(v:Gd G l g B)(D:Gd G l k C){A:NV}{p:NS}(N:IJ w2 l (λb=>∃ns,Gd G l ns b) A p)(M:∀b,(∃ns,Gd G l ns b)->∀m x,(m,x)∈p b↔(b=C/\(m,x)=(z,u))\/((m,x)∈E b/\¬(b=B/\m=i))):GB w2 (Le G (g++[i]) (k++[z])) l A p:=by
 refine N.w (λns b t=>?_) (λx o=>?_) (λab b t=>?_) (λac ad b K L=>?_);obtain⟨ns,a,_⟩:=c.di t;grind;obtain⟨y,j,rfl⟩:=AB.1 o;exact h.c9 y j;obtain⟨ns,a,rfl⟩:=c.di t;intro m x;rw[M b ⟨ns,a⟩ m x];have Q:¬(g++[i]) <+: k:=λd=>c.nt (d.M (EI k _));constructor;rintro(⟨rfl,e⟩|⟨o,P⟩);obtain⟨rfl,rfl⟩:=Fy e;obtain rfl:=h.inj ns k b a D;rw[JF Q];exact Q7.2 ⟨_,c.an,by have:=J0 (g++[i]) (ns++[m]) [];simp_all⟩;have T:=(h.en ns b a m x).1 o;refine Q7.2 ⟨_,T,?_⟩;by_cases d:(g++[i]) <+: ns;obtain⟨r,rfl⟩:=d;grind [J0,List.append_assoc];rw[JF d];refine JF (λS=>?_);rcases List.prefix_concat_iff.1 S with e|aa;obtain⟨f,n⟩:=Qu e;subst f;exact P ⟨a.func c.ok v,n.r⟩;simp_all;intro o;obtain⟨y,j,e⟩:=Q7.1 o;by_cases q:(g++[i]) <+: y;obtain⟨r,rfl⟩:=q;rw[J0]at e;by_cases F:r=[];subst F;rw[Ca]at e j;obtain⟨f,n⟩:=Qu e;left;have R:ns=k:=by by_cases d:(g++[i]) <+: ns;obtain⟨r,rfl⟩:=d;rw[J0]at f;have:=Cp List.length f;grind;grind [JF]
 subst R;exact⟨a.func c.ok D,by rw[n,Kz c.ok.nd j c.an]⟩;obtain⟨Y,U,rfl⟩:=Uk F;rw[<-Ar]at e;obtain⟨f,n⟩:=Qu e;subst n;right;by_cases d:(g++[i]) <+: ns;obtain⟨r2,rfl⟩:=d;rw[J0]at f;have:=Ev f;subst this;refine⟨(h.en _ b a U x).2 (by rw[<-Ar]at j;exact j),λ⟨s,_⟩=>?_⟩;subst s;have:=h.inj _ _ _ a v;simp_all;rw[JF d]at f;exfalso;rcases a with⟨J,_⟩|a;rw[J]at f;simp at f;exact c.fh a ⟨Y,f⟩;rw[JF q]at e;by_cases d:(g++[i]) <+: ns;obtain⟨r,rfl⟩:=d;rw[J0,Ar]at e;exact absurd ⟨r++[m],e.r⟩ (c.fh j);rw[JF d]at e;subst e;right;refine⟨(h.en ns b a m x).2 j,λ⟨s,O⟩=>?_⟩;subst s O;have:=h.inj _ _ _ a v;subst this;exact q (List.prefix_refl _);obtain⟨W,H,rfl⟩:=c.di K;obtain⟨X,I,rfl⟩:=c.di L;rw[h.inj W X b H I]
