/- Kept. -/
import Derived.Test.YtaieidcohdhgpaaGreatDoorKAN
namespace Go.Proofs.YtaieidcohdhgpaaGreatDoor
variable{E:Ge}{s:KS}{L:List It}{C:NB}{T b c i k n n0 p r rb x:Nat}{M:Nat->Prop}{W w0:World}
set_option maxHeartbeats 40000000
set_option maxRecDepth 100000
set_option linter.all false
open Go.RowKit
theorem Zhf(E:Ge)(C:NB)(a:By)(st:Pl)(x:It):st.ps.length<=(Dv E C a st x).2.ps.length:=by unfold Dv;split;simp_all;split;simp_all;grind [Ge.al]
theorem ZgH(E:Ge)(C:NB):∀(last:By) (st:Pl) (L:List It),st.ps.length<=(Dq E C last st L).2.ps.length
 |_,_,[]=>Aa _
 |last,st,x::xs=>Ae (Zhf E C last st x) (ZgH E C _ _ xs)
theorem Ve(l:List UInt8):BL ⟨l.toArray⟩=l:=by rfl
structure My(s:KS):Prop where
 ok:H3 s
 inj:∀x∈s.es,∀y∈s.es,x.2=y.2->x=y
 lo:∀x∈s.es,16<=x.2.toNat
theorem Gy.w(h:Gy s):My s:=⟨h.ok,h.inj,h.lo⟩
theorem ZhU:∀(a b:List UInt8),a.take (Kd a b)=b.take (Kd a b)
 |[],b=>by unfold Kd;simp
 |x::a,[]=>by unfold Kd;simp
 |x::a,y::b=>by unfold Kd;by_cases h:x=y;subst h;have:=ZhU a b;simp[this];simp[h]
theorem Ut(l:List UInt8)(h:n=l.length)(s:By)(r:List UInt8)(hs:BL s=l++r):BL (Dg s n)=l/\BL (s.extract n s.size)=r:=by grind [Jn,List.length_append,Ub,Km,List.append_assoc,List.take_left,List.drop_left,List.take_of_length_le]
theorem Pf(u:UInt8):Dx [u]=u.toNat:=by rfl
theorem Qw(h:n<256):(UInt8.ofNat n).toNat=n:=Ξ
theorem RK(s:List UInt8)(m:Nat):∀n,Ja (λi=>(((s.drop (i*m)).take m)++List.replicate m 0).take m) n=(s++List.replicate (m*n) 0).take (m*n)
 |0=>by rfl
 |n+1=>by unfold Ja;rw[RK s m n];have e:m*(n+1)=m*n+m:=Nat.mul_succ m n;rw[e,List.take_add];congr 1;rw[<-Fz,<-Ar,A0 (l₁:=s++List.replicate (m*n) 0) Ξ];rw[Nat.mul_comm n m,FL];rcases Nat.le_total (m*n) s.length with h|h;rw[show m*n-s.length=0 by omega,Cs];rw[BU,Cj,Nat.min_self,BU,AP,AN,BQ,BQ];grind;rw[EF h,List.take_nil,AH,AH,Eu,BQ,BQ];congr 1;omega
theorem GM.ext{a b:LI}(f:GM a)(g:GM b)(h:∀x,x∈a↔x∈b):a=b:=by refine List.Perm.eq_of_pairwise (le:=λx y=>Hf x.1 y.1=true) (λx y _ _ k l=>?_) ?_ ?_ ((Cm f.nodup g.nodup).2 h);unfold Hf at k l;grind;rw[A1];exact λi j c e d=>f i j _ _ d (Ab c) (Ab e);rw[A1];exact λi j c e d=>g i j _ _ d (Ab c) (Ab e)
section
variable{D:LY}{R:NB}{N:Nat->Nat}{P X:Nat->Nat->Nat}{B:Nat}
theorem YL(a:Rows D R N P X B):GW N P (λi=>BL (LX R i)) B (B+1) (JY N P (LX R) B 0 Jv)/\∀b,b<=B->(JY N P (LX R) B 0 Jv).tn b=N b:=by have ht:=a.top;obtain⟨c,⟨h2,d⟩,_⟩:=VA a (cb:=LX R) (λ_=>rfl) B (Aa _) 0 Jv Ω (by grind [GW.start]) (L4.start N B);refine⟨c,λb hb=>?_⟩;rcases AD b B with h|h;rw[d b h];have hg:=Rows.fm a (B-b) b Ω;simp_all;grind
theorem ZnA(a:Rows D R N P X B):∃z,BL (JY N P (LX R) B 0 Jv).t=BL (R 0)++List.replicate z 0/\z<=62:=by
 obtain⟨b,c⟩:=YL a;have e:(λi=>BL (LX R i))=(λi=>((((BL (R 0)).drop (i*63)).take 63)++List.replicate 63 0).take 63):=by grind [LX,Tc,LC,Km]
 have hn:=a.n0;rw[b.g5,c 0 (Ao _),e,RK];rw[BU,Ak (by grind [Jn]),Jn,BQ];grind
end
structure QI(E:Ge)(M:Nat->Prop)(n:Nat)(q:Gg):Prop where
 a4:∀y,y∈q.a4↔M y.1/\y.2=Gu E y.1
 tk:∀p,q.tk p=true->∃r,M r/\p=Gu E r
 len:q.a4.length<=n
theorem QI.put{q:Gg}(h:QI E M n q)(r:Nat):QI E (λk=>M k\/k=r) (n+1) ((q.take (Gu E r)).put r (Gu E r)):=by refine⟨λy=>?_,λp b=>?_,?_⟩;show y∈q.a4++[(r,Gu E r)]↔_;rw[Al,h.a4,Ax];grind;have a:(if p=Gu E r then true else q.tk p)=true:=b;split at a;simp_all;obtain⟨r',h1,h2⟩:=h.tk p a;grind;show(q.a4++[_]).length<=_;have:=h.len;simp_all
theorem QI.congr{a:Nat->Prop}{q:Gg}(h:QI E M n q)(c:∀r,M r↔a r)(d:n<=b):QI E a b q:=
 ⟨λy=>by rw[h.a4,c],λp e=>by obtain⟨r,h1,h2⟩:=h.tk p e;grind,Ae h.len d⟩
def gi(L:List It)(k:Nat):It:=(L[k]?).getD ⟨[],2,0⟩
theorem Qm(h:k<L.length):L[k]?=some (gi L k)/\gi L k∈L:=by unfold gi;rw[Ab h];exact⟨rfl,BE h⟩
theorem Ym{m y:Nat}(a:x<256 ^ m)(b:y<256 ^ m)(h:DM x m=DM y m):x=y:=by rw[<-K8 m x a,h,K8 m y b]
section
variable{D0 D1:LY}{R0 R1:NB}{N0 N1:Nat->Nat}{P0 P1 X0 X1:Nat->Nat->Nat}{B0 B1:Nat}
theorem Zrp(c:Nat):IQ (c+1)=2:=by rfl
theorem ZqA(c:Nat):Ij (c+1)=60:=by rfl
theorem Rows.at(h:Rows D0 R0 N0 P0 X0 B0)(hb:b<=B0)(a:i<N0 b):D0[P0 b i]?=some (Dy (IQ b) (R0 b) (Ij b) i):=by rcases Bn b with rfl|hp;exact h.d0 i a;obtain⟨c,rfl⟩:∃c,b=c+1:=Ξ;exact h.d1 c Ω i a
theorem Rows.cf(h:Rows D0 R0 N0 P0 X0 B0):∀j b,b+j=B0->1<=N0 b
 |0,b,e=>by have:=h.top;rw[show b=B0 by omega];omega
 |j+1,b,e=>by have h1:=Rows.cf h j (b+1) Ω;have h2:=h.nn b Ω;omega
theorem ZQ(c:Rows D0 R0 N0 P0 X0 B0)(a:Rows D1 R1 N1 P1 X1 B1)(hB:B1<=B0)(hD:∀b k,b<=B0->k<N0 b->D1[P0 b k]?=D0[P0 b k]?)(hT:P1 B1 0=P0 B1 0):
  ∀j b,b+j=B1->∀k,k<N1 b->k<N0 b/\P1 b k=P0 b k/\Dy (IQ b) (R1 b) (Ij b) k=Dy (IQ b) (R0 b) (Ij b) k:=by
 have ac:∀b k,b<=B1->k<N1 b->k<N0 b->P1 b k=P0 b k->Dy (IQ b) (R1 b) (Ij b) k=Dy (IQ b) (R0 b) (Ij b) k:=λb k g l h e=>by have a1:=a.at g l;have a0:=c.at Ω h;grind
 intro j
 induction j with
 |zero=>
  intro b e k d;have ht:=a.top;have hp:=c.cf (B0-b) b Ω;grind
 |succ j ih=>
  intro b e k d;have ab:=a.nn b Ω;obtain⟨c1,c2,f⟩:=ih (b+1) Ω (k/6) Ω;rw[Zrp,ZqA]at f;have s1:=(T3 (λi=>(a.px b i).1) (λi=>(a.px b i).2) (a.rr b Ω) (k/6) (k%6) Ω).1;have s0:=(T3 (λi=>(c.px b i).1) (λi=>(c.px b i).2) (c.rr b Ω) (k/6) (k%6) Ω).1;have aa:=(a.pl b k Ω d).1;grind
end
theorem Ziq{f g:Nat->List UInt8}:∀n,(∀k,k<n->f k=g k)->Ja f n=Ja g n
 |0,_=>rfl
 |n+1,h=>by show Ja f n++f n=Ja g n++g n;rw[Ziq n (λk hk=>h k Ω),h n Ω]
theorem ZhN{t1 t0:By}(hn:t1.size<=63*n)(hs:∀k,k<n->Dy 3 t1 63 k=Dy 3 t0 63 k):∃r,BL t1++r=BL t0++List.replicate (63*n) 0:=by
 have e:∀(s:By) (k:Nat),BL (DW (Dy 3 s 63 k))=((((BL s).drop (k*63)).take 63)++List.replicate 63 0).take 63:=by grind [Tc,LC,Km]
 have h1:=RK (BL t1) 63 n;have h0:=RK (BL t0) 63 n;have hc:Ja (λi=>((((BL t1).drop (i*63)).take 63)++List.replicate 63 0).take 63) n=Ja (λi=>((((BL t0).drop (i*63)).take 63)++List.replicate 63 0).take 63) n:=by grind [Ziq,BL,List.replicate]
 grind [BL,Jn,List.take_append,List.take_of_length_le,List.replicate,List.append_assoc,List.take_append_drop]
def PX(E:Ge)(st:Pl)(s:By):Prop:=∃st0 r b,st=(E.put st0 r b).2/\(s.size<=10->s=D7 (E.put st0 r b).1 (Dr b))
theorem Zd(E:Ge)(b:UInt8)(a c:Nat)(st:Pl)(s:By)(hn:1<=(s.size+a-1)/a):PX E (DG E b a c st s).2 (DG E b a c st s).1:=by obtain⟨n,d⟩:∃n,(s.size+a-1)/a=n+1:=⟨(s.size+a-1)/a-1,Ω⟩;have hz:=U6 E b a c st s;refine⟨E.U (De b.toNat c) (Dy b s a) st 0 (List.range n),De b.toNat c n,Dy b s a n,?_,λhs=>?_⟩;unfold DG;rw[d,B8];have e:=Ge.ax E (De b.toNat c) (Dy b s a) st 0 (List.range n) n;simp_all;obtain rfl:n=0:=Ω;unfold DG;rw[d];rfl
theorem YN(E:Ge):∀(d below:Nat) (st:Pl) (s:By),PX E st s->PX E (DU E d below st s).2 (DU E d below st s).1
 |0,_,_,_,h=>h
 |d+1,below,st,s,h=>by unfold DU;split;exact YN E d _ _ _ (Zd E 2 60 below st s Ω);exact h
theorem Yq(c:H3 s)(cl:Bool)(h:GV C L):∃st0 r b,(Dn s cl C L).2=((Do s.es cl s.tp s.D).put st0 r b).2/\GK (Dn s cl C L).1=((Do s.es cl s.tp s.D).put st0 r b).1/\(r,GK (Dn s cl C L).1)∈(Dn s cl C L).2.U/\GK (Dn s cl C L).1<1536:=by
 have a:=UA h _ (c.bk cl) (s.tp+1) (by have:=c.tp;omega);change M7 (Dn s cl C L) at a;have f:PX (Do s.es cl s.tp s.D) (Dn s cl C L).2 (Dn s cl C L).1:=YN _ 8 1 _ _ (Zd _ 3 63 0 _ _ (by rw[Aj,show(⟨#[0]⟩:By).size=1 from rfl];omega));obtain⟨st0,r,b,d,e⟩:=f;have e3:=e (by rw[a.n3];omega);have g:(r,((Do s.es cl s.tp s.D).put st0 r b).1)∈(Dn s cl C L).2.U:=by rw[d,Ge.a6];exact Cg _ (Ax.2 rfl)
 have aa:=a.pl.1 _ g;grind [GK,Dn,Do,Xz]
theorem puts_len(E:Ge)(R:Nat->Nat)(B:NB):∀(st:Pl) (i:Nat) (xs:List Nat),(E.U R B st i xs).U.length=st.U.length+xs.length
 |st,i,[]=>rfl
 |st,i,x::xs=>by show(E.U R B (E.put st (R i) (B x)).2 (i+1) xs).U.length=_;rw[puts_len E R B _ (i+1) xs,Ge.a6,Ah,BA,Ay];omega
theorem ZP(E:Ge)(c:UInt8)(a b:Nat)(st:Pl)(s:By):(DG E c a b st s).2.U.length=st.U.length+(s.size+a-1)/a:=by grind [DG,puts_len,List.length_range]
theorem VV(c:Nat)(p:Nat->Bool):(List.range 96).countP p=(List.range 96).countP (λi=>p ((c+i)%96)):=by
 have d:(List.range 96).countP (λi=>p ((c+i)%96))=((List.range 96).map (λj=>(c+j)%96)).countP p:=by rfl
 rw[d];refine((UG _ _ ?_ (λx h=>?_) Θ).countP_eq _).r;rw[BX,Bj];refine List.Pairwise.imp_of_mem (λ{a b} f g aa e=>?_) (BX.1 List.nodup_range);rw[Cz]at f g;omega;obtain⟨y,hy,rfl⟩:=AB.1 h;exact Cz.2 Ω
theorem Zin{α : Type}(p a b c d : α -> Bool):∀(l:List α),(∀x∈l,p x=true->a x=true\/b x=true\/c x=true\/d x=true)->l.countP p<=l.countP a+l.countP b+l.countP c+l.countP d
 |[],_=>by simp
 |x::l,h=>by have ih:=Zin p a b c d l Γ;grind
theorem Zgb(f:Nat->Int):∀k,D3 f k=16*(List.range k).countP (λj=>decide (f j=0))
 |0=>rfl
 |k+1=>by unfold D3;rw[Zgb f k,B8,AU,Bm];by_cases e:f k=0<;>simp[e]<;>omega
theorem Zkt(a:LI)(n:Nat):a.countP (λx=>decide (x.2.toNat/16<n+1))=a.countP (λx=>decide (x.2.toNat/16<n))+a.countP (λx=>x.2.toNat/16==n):=by
 induction a with
 |nil=>rfl
 |cons x l ih=>
  grind
theorem Zh6(a:LI):∀n,9*(List.range n).countP (λj=>decide (8<Dl a j))<=(if n=0 then 0 else 2)+a.countP (λx=>decide (x.2.toNat/16<n))
 |0=>by simp
 |n+1=>by have ih:=Zh6 a n;rw[B8,AU,Bm,Zkt,show(if n+1=0 then 0 else 2)=2 from if_neg Ω];by_cases h:8<Dl a n;unfold Dl at h;grind;grind
theorem Zj1(e:Nat->Int)(c d:Nat):∀k,(List.range k).countP (λi=>decide (0<i/\e ((c+i)%96)<=0/\i<=d))<=JC e c (min k (d+1))
 |0=>by simp
 |k+1=>by
  have ih:=Zj1 e c d k;rw[B8,AU,Bm];by_cases f:k<=d;rw[show min k (d+1)=k by omega]at ih;rw[show min (k+1) (d+1)=k+1 by omega]
  conv=>rhs;unfold JC
  by_cases h:0<k/\e ((c+k)%96)<=0;rw[if_pos h,if_pos (by simp;exact⟨h.1,h.2,f⟩)];omega;rw[if_neg h,if_neg (by simp;intro a b;exact absurd ⟨a,b⟩ h)];omega;grind
theorem ZrT(s:KS)(C:NB)(L:List It):∀y∈(Dn s true C L).2.U,y.2∈(Dn s true C L).2.ps.map (·.1)\/y.2/16=s.tp/16\/8<Dl s.es (y.2/16):=by refine Vr (Q:=λst=>∀y∈st.U,y.2∈st.ps.map _\/y.2/16=s.tp/16\/8<Dl _ (y.2/16)) (λst r b hb h y c=>?_) C ⟨s.tp+1,[],[]⟩ L Γ;unfold Ge.put at c ⊢;split at c;rename_i q a;rcases Al.1 c with e|e;grind;unfold Ge.aj at a;split at a;split at a;rename_i q' aa d;cases a;have h2:¬(q/16≠s.tp/16/\Dl s.es (q/16)<=8):=λe=>d.2 ⟨rfl,e.1,e.2⟩;grind;simp_all;simp_all;grind
theorem ZnI(b:Gy s)(k:GV C L)(hl:(Dn s true C L).2.U.length<=352)(ad:s.es.length<=352):512<=D3 (LL (Dn s true C L).2.U) 96:=by
 have d:=PI.all b true k Ω;have af:=b.ok.tp;obtain⟨j,o,a,_⟩:=d.ri;have ae:=d.le;obtain⟨c,ab⟩:=ex (s.tp/16);have aa:c<96:=Ω;rw[Zgb];have f:=List.length_eq_countP_add_countP (p:=λj=>decide (LL (Dn s true C L).2.U j=0)) (l:=List.range 96);rw[Bl]at f;have hb:=Zin (λi=>decide (¬(decide (LL (Dn s true C L).2.U ((c+i)%96)=0)=true))) (λi=>decide (i=0)) (λi=>decide ((c+i)%96=0)) (λi=>decide (8<Dl s.es ((c+i)%96))) (λi=>decide (0<i/\Dl s.es ((c+i)%96)<=0/\i<=j)) (List.range 96) (λi g h=>by
  rw[Cz]at g;simp only[An]at h ⊢;by_cases h0:(c+i)%96=0;omega;have m:0<(Dn s true C L).2.U.countP (λy=>y.2/16==(c+i)%96):=by unfold LL at h;omega
  obtain⟨y,n,he⟩:=Fi.1 m;have ac:y.2/16=(c+i)%96:=Γ;rcases(ZrT s C L) y n with e|e|e;obtain⟨m1,m2⟩:=a.mem _ e;grind [Qh];omega;grind)
 have r1:=VV c (λj=>decide (¬(decide (LL (Dn s true C L).2.U j=0)=true)));have r2:=VV c (λj=>decide (j=0));have r3:=VV c (λj=>decide (8<Dl s.es j));have k0:(List.range 96).countP (λi=>decide (i=0))=1:=Δ;have k3:=Zh6 s.es 96;have ag:s.es.countP (λx=>decide (x.2.toNat/16<96))<=s.es.length:=AV;have k4:=Zj1 (Dl s.es) c j 96;have k5:JC (Dl s.es) c (min 96 (j+1))<=JC (Dl s.es) c j+1:=by have:=a.jl;rw[show min 96 (j+1)=j+1 by omega];show JC (Dl s.es) c j+(if _ then 1 else 0)<=_;grind
 have k6:=a.io;grind
theorem Uz(mf:Nat)(s:KS)(C:NB)(L:List It):∃cl,DK mf s C L=Dn s cl C L/\(cl=false->¬D3 (LL (Dn s false C L).2.U) 96<mf):=by unfold DK;split;simp_all;simp_all
theorem Zj0:∀{l:List (Nat×Nat)},(l.map (·.2)).Nodup->∀{a b:Nat×Nat},a∈l->b∈l->a.2=b.2->a=b
 |[],_,a,_,h,_,_=>by cases h
 |x::l,hn,a,b,ha,hb,e=>by rw[A6,Cf]at hn;rcases AM.1 ha with f|g;rcases AM.1 hb with c|d;rw[f,c];exact absurd (AB.2 ⟨b,d,by rw[<-f];exact e.r⟩) hn.1;rcases AM.1 hb with c|d;exact absurd (AB.2 ⟨a,g,by rw[<-c];exact e⟩) hn.1;exact Zj0 hn.2 g d e
theorem RI.ge(a:Gy s){j o:Nat}{N:List Nat}(h:RI (Dl s.es) s.tp j o N)(b:p∈N):16<=p/\p<1536:=by obtain⟨m1,m2⟩:=h.mem p b;have aa:=a.tp;grind [Nat.lt_or_ge,Dl]
structure Hj(mf:Nat)(C:NB)(L:List It)(s s':KS):Prop where
 ne:(DK mf s C L).2.ps≠[]
 es:Hr (DK mf s C L).2.U s'.es
 tp:s'.tp=GK (DK mf s C L).1
 tx:s'.tx=GQ (DK mf s C L).1
 tn:s'.tn=s.tn+1
 D:s'.D=(Jd s.D (DK mf s C L).2.ps).set ((s.tn+1)%2) (Ha (s.tn+1) s'.tp s'.tx)
theorem Ht.ce{mf:Nat}{s':KS}(h:Ht mf C L s s'):((DK mf s C L).2.ps=[]/\s'=s)\/Hj mf C L s s':=
 h.imp id (λ⟨a,b,c,d,e,f⟩=>⟨a,b,c,d,e,f⟩)
section
variable{mf:Nat}{C C0:NB}{L L0:List It}{s s':KS}
theorem PT(h:GI E)(r:Nat):Gu E r<65536:=by
 unfold Gu;cases e:E.at r with
 |none=>simp_all
 |some q=>have:=(h.a7 e).2;grind
theorem ZqS{f:Nat}(h1:b<60000)(h2:k<60000)(h3:f<60000)(h4:i<60000):Dz b k≠De 4 f i:=by grind [Dz,De]
theorem GM.hh{b:LI}(h:GM b){x y:Int×Int}(f:x∈b)(g:y∈b)(e:x.1=y.1):x=y:=by obtain⟨i,c⟩:=BO.1 f;obtain⟨j,d⟩:=BO.1 g;rcases CY i j with a|a|a;have:=h i j x y a c d;grind [KK];simp_all;have:=h j i y x a d c;grind [KK]
theorem GI.gn(h:GI E){q:Nat}(a:((r:Int),(q:Int))∈E.eb):E.at r=some q:=by
 cases e:E.at r with
 |none=>
  grind [Ge.at,Option.map_eq_none_iff,List.find?_eq_none]
 |some q'=>
  have h1:=h.ak.hh a (h.a7 e).1 rfl;grind
end
theorem BL_ckB(T p x:Nat):∃Z:List UInt8,Z.length=41/\BL (Ha T p x)=1::(BL KQ++(DM T 8++(Ji p x++Z))):=by
 have hS:BL (Oq T p x)=BL KQ++(DM T 8++Ji p x):=by rfl
 have d:(BL KQ++(DM T 8++Ji p x)).length=22:=by rfl
 have b:BL (IU T p x)=1::((BL KQ++(DM T 8++Ji p x))++List.replicate 41 0):=by rfl
 unfold Ha;obtain⟨N,c⟩:=ex (Dr ((IU T p x).extract 0 56));rw[<-c];have a:BL (Ju N 8)=DM N 8:=Ve _;refine⟨List.replicate 33 0++DM N 8,by rw[Ah,Js,BB],?_⟩;rw[Kg,a,Km,b,Cs,show 56-0=55+1 from rfl,Fe,BU,Ak Ω,d,BQ,show min (55-22) 41=33 from rfl];rfl
theorem Tl(hT:T<18446744073709551616)(hp:p<65536)(hx:x<18446744073709551616):Lp (Ha T p x)=T/\GK (IR (Ha T p x))=p/\GQ (IR (Ha T p x))=x:=by
 obtain⟨Z,a,e⟩:=BL_ckB T p x;have b:(BL KQ).length=4:=rfl;have hR:BL (LM (Ha T p x))=DM T 8++(Ji p x++Z):=by unfold LM;rw[Km,e,show(5)=4+1 from rfl,Fh,EO b];refine Ak ?_;rw[Ah,Ah,Js,Qe,a];decide
 have hz:(LM (Ha T p x)).size=59:=by grind [Jn,List.length_append,Js,Qe]
 have hQ:BL (IR (Ha T p x))=Ji p x++Z:=by grind [IR,Km,List.drop_left',Js,List.take_of_length_le,List.length_append,Qe]
 have hq:(IR (Ha T p x)).size=51:=by grind [Jn,List.length_append,Qe]
 refine⟨?_,?_,?_⟩;show Dx (BL (Dg (LM (Ha T p x)) 8))=T;grind [Ub,List.append_assoc,List.take_left',Js,K8];grind [Td,Ji,List.append_assoc,List.take_left',Js,K8];grind [WS,Ji,List.append_assoc,List.drop_left',Js,List.take_left',K8]
theorem ck_ok(hT:T<18446744073709551616)(hp:p<65536)(hx:x<18446744073709551616):QY (T%2) (Ha T p x)=true:=by grind [Tl,QY]
structure Hp(s:KS):Prop where
 tx:s.tx<18446744073709551616
 tn:1<=s.tn
 aq:s.D[s.tn%2]?=some (Ha s.tn s.tp s.tx)
 hz:∃p x,p<65536/\x<18446744073709551616/\s.D[(s.tn+1)%2]?=some (Ha (s.tn-1) p x)
theorem Hp.ci(h:Hp s)(ab:s.tp<1536)(aa:s.tn+1<18446744073709551616):∃s0 s1,s.D[0]?=some s0/\s.D[1]?=some s1/\Qj s0 s1=some (s.tn,s.tp,s.tx):=by obtain⟨p,x,c,d,ho⟩:=h.hz;have h1:=h.tn;obtain⟨a1,a2,a3⟩:=Tl (T:=s.tn) (p:=s.tp) (x:=s.tx) Ω Ω h.tx;obtain⟨b1,b2,b3⟩:=Tl (T:=s.tn-1) (p:=p) (x:=x) Ω c d;have f:=ck_ok (T:=s.tn) (p:=s.tp) (x:=s.tx) Ω Ω h.tx;have g:=ck_ok (T:=s.tn-1) (p:=p) (x:=x) Ω c d;rcases Nat.mod_two_eq_zero_or_one s.tn with e|e;have a:(s.tn+1)%2=1:=Ω;have b:(s.tn-1)%2=1:=Ω;refine⟨_,_,by rw[<-e];exact h.aq,by rw[<-a];omega,?_⟩;rw[e]at f;rw[b]at g;unfold Qj;grind;have a:(s.tn+1)%2=0:=Ω;have b:(s.tn-1)%2=0:=Ω;refine⟨_,_,by rw[<-a];omega,by rw[<-e];exact h.aq,?_⟩;unfold Qj;grind
def Lk:KS:=⟨Qg,16,Dr Jl,1,JO⟩
theorem YK:JO.length=1536:=by grind [JO,List.length_set,Pb,Ug]
theorem Zrm(C:NB):Dn Lk false C []=(D7 16 (Dr Jl),⟨17,[(De 3 0 0,16)],[]⟩):=by show DU (Do Qg false 16 JO) 8 1 (DG (Do Qg false 16 JO) 3 63 0 ⟨17,[],[]⟩ (⟨#[]⟩++⟨#[0]⟩)).2 (DG (Do Qg false 16 JO) 3 63 0 ⟨17,[],[]⟩ (⟨#[]⟩++⟨#[0]⟩)).1=_;rfl
theorem UL(x:Int×Int)(h:x∈Lk.es):x=(((De 3 0 0:Nat):Int),((16:Nat):Int)):=Ax.1 h
theorem XM:GM Lk.es:=λj k x y aa hj a=>by have:=(Ac.1 a).1;have hl:Lk.es.length=1:=rfl;omega
theorem Tx:Gy Lk:=by refine⟨⟨XM,by show 1<=_;omega,by show 16<1536;omega,YK,λx a=>?_⟩,λx a _=>?_,λx a y b _=>?_,?_,?_,λx a=>?_,by show 15<=16;omega⟩;rw[UL x a];exact⟨16,rfl,Ω⟩;rw[UL x a];exact Aa _;rw[UL x a,UL y b];exact PQ (Ax.2 rfl);show 512<=D3 (Dl Qg) 96;grind [D3,Dl,Qg,Oh];rw[UL x a];omega
theorem Znq(C:NB):Gw Lk C []:=by have e:=Zrm C;refine⟨by rw[e],⟨XM,by rw[e];rfl,λx=>?_⟩,by rw[e];rfl,by rw[e];rfl⟩;rw[e];constructor;intro a;exact⟨_,Ax.2 rfl,UL x a⟩;rintro⟨y,b,rfl⟩;rw[Ax.1 b];exact Ax.2 rfl
theorem Tf:Hp Lk:=by
 have a:Lk.tx<18446744073709551616:=by exact Q6 Jl
 have b:=Q6 Jl;refine⟨a,by show 1<=1;omega,?_,16,Dr Jl,Ω,b,?_⟩;rfl;rfl
open Tryz
theorem Zjk:prog.built 188 []=some (Dd (Dj 64)).toArray:=Φ
theorem ZiB{b:Array Oper}{c:List Oper}{o:Oper}{a:Act}{w:World}{Q:Exit->Act->World->Prop}(e:o.guard=none)(ho:o.op=.build 188 #[])(h:wpList prog b Q c (a.put o.dst (DC (Dj 64))) w):wpList prog b Q (o::c) a w:=by refine EK e λK d=>?_;unfold Oper.wp execOp;simp only[ho,FJ,CF,Instr.build,Cq,Zjk];exact d _ _ h
theorem take_no(w:World)(d:Nat)(L:Gf)(r:Gb w d 197 L)(p x:Nat)(o:p<16\/1536<=p\/p<1536/\L[4+p]?=some (dV true)):
  Cl 241 #[dP d,.agg #[dI (p:Nat),.int .u64 (x:Nat)]] w λe w'=>e=dR (.tuple #[DC (Dj 64),dV false])/\Bw w w':=by
 obtain⟨b,k,u,t,A,h⟩:=Df w [dI (p:Nat),.int .u64 (x:Nat)] 175;obtain⟨a,l,f,c,J,i⟩:=Df b (Dd (Dj 64)) 188;rw[A]at f;have n:Bw w a:=h.M (i.Q Ω);have y:=c _ _ _ u;have z:=c _ _ _ (t _ _ _ r);have c0:a.cell? (dQ w.heap.size 0)=some (dI (p:Nat)):=(y.J 0).M rfl;have C:=Db k;have D:=Db l;have E:=Db f;have B:=Db n;have H:(p:Int)<16\/¬(p:Int)<16/\(1536:Int)<=(p:Int)\/¬(p:Int)<16/\(p:Int)<1536/\¬(1536:Int)<=(p:Int)/\a.cell? (dQ d (4+p))=some (dV true):=by rcases AD p 16 with e|e;exact .inl Ω;rcases o with q|q|⟨q1,I⟩;omega;exact .inr (.inl ⟨Ω,Ω⟩);exact .inr (.inr ⟨Ω,Ω,Ω,(z.J _).M I⟩)
 clear k l u f t c A J h i y z r n o;rcases H with m|⟨m,F⟩|⟨m,F,h3,h4⟩;all_goals
  go_enter func241,ntmps241;go_upto_region 1 with(refine JG rfl 188 rfl Ky ?_);rw[show w.alloc (.cells #[dI (p:Nat),.int .u64 (x:Nat)] 175)=b from Da C,show b.alloc (.cells (Dd (Dj 64)).toArray 188)=a from Da D]
  go_quiet (fail)
  have s:Gb (a.drewN nq) (w.heap.size+1) 188 (Dd (Dj 64)):=Da E;have g:=Db s;clear s;go_wp2_with(first|(refine ZiB rfl rfl ?_)|(refine Bh rfl 188 _ _ rfl (w.heap.size+1) (Dd (Dj 64)).toArray rfl rfl 188 _ (Da g) (by rw[D4];simp[Dh,JA]) Θ (KI _) ?_));have G:Gb ((a.drewN nq).setRow (w.heap.size+1) (Dd (Dj 64)).toArray) (w.heap.size+1) 188 (Dd (Dj 64)):=Bo _ _ _ _ 188 _ (Da g);refine Am (v:=.tuple #[DC (Dj 64),dV false]) ?_ rfl ⟨rfl,?_⟩;exact Zct (fn:=Tryz.f241) (p:=4) (q:=5) (ty:=188) rfl _ _ (w.heap.size+1) 188 (Dd (Dj 64)).toArray (0,0) _ rfl G P2 rfl (by rw[D4];simp[Dh,JA]);exact(below_drewN (Da B) nq).M ⟨rfl,rfl,rfl,Θ,λj hj=>Bc _ _ j _ Ω⟩
structure II(w0:World)(n0 rb:Nat)(w':World):Prop where
 aa:Below n0 w0 w'
 sz:n0<=w0.heap.size
 row:∃(a:OA) (l c tp tx:Nat),w'.cell? (dQ rb 1)=some (dT a l c)/\w'.cell? (dQ rb 2)=some (dI (tp:Nat))/\w'.cell? (dQ rb 3)=some (.int .u64 (tx:Nat))
theorem II.step{b:World}(h:II w0 n0 rb W)(d:Below n W b)(k:n0<=n)(m:rb<n):II w0 n0 rb b:=by obtain⟨a,l,c,tp,tx,f,g,i⟩:=h.row;have e:∀j,b.cell? (dQ rb j)=W.cell? (dQ rb j):=λj=>AA (d.block _ m);exact⟨h.aa.M (d.Q k),h.sz,a,l,c,tp,tx,(e 1).M f,(e 2).M g,(e 3).M i⟩
theorem II.below{b:World}(h:II w0 n0 rb W)(e:Bw W b):II w0 n0 rb b:=by obtain⟨a,l,c,tp,tx,d,_⟩:=h.row;obtain⟨cs,t,z,f⟩:=Zip d;exact h.step e (Ae h.sz h.aa.size) (Au.1 f).1
theorem Gv.no{db tp tx:Nat}{q:Gg}{va vt:Value}(h:Gv w0 n0 rb db tp tx q va vt W):II w0 n0 rb W:=by obtain⟨L,b,l0,d,e,f,_⟩:=h.row;obtain⟨es,_,g⟩:=h.es;obtain⟨a,l,c,rfl⟩:=g.a0;exact⟨h.aa,h.sz,a,l,c,tp,tx,(b.J 1).M d,(b.J 2).M e,(b.J 3).M f⟩
def GNo(w0:World)(n0 rb:Nat)(e:Ending)(w':World):Prop:=e=dR (.tuple #[dI 0,dV false])/\II w0 n0 rb w'
section
variable{w w0:World}{n0 rb db tp tx:Nat}{q:Gg}{va vt:Value}{vf vw ve:Value}{a:OA}{l c:Nat}{D:LY}
theorem Gv.cz(h:Gv w0 n0 rb db tp tx q va vt w)(hp:p<16\/1536<=p\/q.tk p=true):
  Cl 241 #[dP rb,.agg #[dI (p:Nat),.int .u64 (x:Nat)]] w λe w'=>e=dR (.tuple #[DC (Dj 64),dV false])/\Bw w w':=by
 obtain⟨L,b,l0,l1,l2,l3,l4,l5,l6⟩:=h.row;refine Go.Proofs.YtaieidcohdhgpaaGreatDoor.take_no w rb L b p x ?_;grind
theorem R9(h:Gv w0 n0 rb db tp tx q va vt w)(E:Jg w0 db vf (dT a l c) vw ve D)(R:db<n0/\∀k,Own (dT a l c) k->k<n0)(p x:Nat)(an:(p<16\/1536<=p\/q.tk p=true)\/∃(s:By) (f:UInt8),16<=p/\p<1536/\q.tk p=false/\D[p]?=some s/\s.data[0]?=some f/\(f≠3/\f≠2\/f=2/\∀Z Bb,Gv w0 n0 rb db tp tx (q.take p) va vt Z->Gb Z Bb 188 (Dd s)->w.heap.size<Bb->Cl 242 #[dP rb,.agg #[dT (some (dQ Bb 1)) 63 63]] Z λe w'=>∃(b:Nat) (F:Bool),e=dR (.tuple #[dI (b:Nat),dV F])/\(F=true->8<=b)/\II w0 n0 rb w')):
  Cl 202 #[dP rb,.agg #[dI (p:Nat),.int .u64 (x:Nat)]] w (GNo w0 n0 rb):=by
 obtain⟨C,N,G,k1,s1,K⟩:=Df w [dI (p),.int .u64 (x)] 175;have z:=h.below K;have ar:=Ae h.sz h.aa.size;have H:=Db N;have ao:C.cell? (dQ w.heap.size 0)=some (dI (p)):=(G.J 0).M rfl;have ap:C.cell? (dQ w.heap.size 1)=some (.int .u64 (x)):=(G.J 1).M rfl;have T:(Dd (Dj 64)).length=64:=by rw[Dh,JA]
 have ai:=Db T;rcases an with hp|⟨s,f,ak,al,hk,S,af,am⟩;have t:Hid (Cl 241 #[dP rb,.agg #[dI (p),.int .u64 (x)]] C λe X=>e=dR (.tuple #[DC (Dj 64),dV false])/\∃Y Z,X.alloc (.cells (Dd (Dj 64)).toArray 188)=Y/\Gb Y X.heap.size 188 (Dd (Dj 64))/\Y.setRow X.heap.size (Dd (Dj 64)).toArray=Z/\Hid (II w0 n0 rb Z)):=by apply(z.cz hp).Q;rintro e X⟨rfl,Q⟩;obtain⟨Y,O,d,kY,sY,L⟩:=Df X (Dd (Dj 64)) 188;have M:Bw X (Y.setRow X.heap.size (Dd (Dj 64)).toArray):=L.M ⟨rfl,rfl,rfl,Θ,λj hj=>Bc Y _ j _ Ω⟩;exact⟨rfl,Y,_,O,d,rfl,((z.below Q).below M).no⟩
 clear h E R N G k1 s1 K z T;go_enter func202,ntmps202;go_upto_region 1 with fail;rw[Da H];go_wp2_with(first|(go_at_call 241;apply(Da t).Q;rintro e X⟨rfl,Y,Z,g,d,i,o⟩;have v:=Db g;have u:=Db d;have y:=Db i;clear g d i)|(refine JG rfl 188 rfl Ky ?_;rw[Da v])|(refine Bh rfl 188 _ _ rfl X.heap.size (Dd (Dj 64)).toArray rfl rfl 188 _ (Da u) (by rw[D4];simp[Da ai]) Θ (KI _) ?_;rw[Da y]));exact Am (by simp[results,results202,go_sem]) rfl ⟨rfl,Da o⟩;obtain⟨VB,P⟩:=ex (DC s);have ag:=E.2.1.2 s (Ai S);have ad:(Dd s).length=64:=by rw[Dh,ag]
 have B:=Db ad;have W:=Db P;have t:Hid (Cl 241 #[dP rb,.agg #[dI (p),.int .u64 (x)]] C λe X=>e=dR (.tuple #[VB,dV true])/\∃Y Z,X.alloc (.cells (Dd (Dj 64)).toArray 188)=Y/\Gb Y X.heap.size 188 (Dd (Dj 64))/\Y.setRow X.heap.size (Dd s).toArray=Z/\Z.cell? (dQ X.heap.size 0)=some (.int .u8 (f.toNat))/\Hid (II w0 n0 rb Z)/\Hid (Gv w0 n0 rb db tp tx (q.take p) va vt Z/\Gb Z X.heap.size 188 (Dd s)/\w.heap.size<X.heap.size)):=by
  apply(z.bl E R ak al hk S).Q;rintro e X⟨rfl,Q,aj⟩;have aq:=aj.size;obtain⟨Y,O,d,kY,sY,L⟩:=Df X (Dd (Dj 64)) 188;have xZ:Gb (Y.setRow X.heap.size (Dd s).toArray) X.heap.size 188 (Dd s):=Bo Y _ _ _ 188 _ d;have M:Bw X (Y.setRow X.heap.size (Dd s).toArray):=L.M ⟨rfl,rfl,rfl,Θ,λj hj=>Bc Y _ j _ Ω⟩;have aa:=Q.below M;refine⟨by rw[P],Y,_,O,d,rfl,?_,aa.no,aa,xZ,Ω⟩;rw[xZ.J];have h0:s.data.toList[0]?=some f:=by rw[Ec];exact af
  show(Dd s)[0]? = _;unfold Dd;rw[A8,h0];rfl
 obtain⟨m,r⟩:∃n:Nat,n=f.toNat:=⟨_,rfl⟩;rw[<-r]at t;have A:((m)=3->f=3)/\((m)=2->f=2)/\(f=2->m=2):=⟨λe=>FW.1 (by rw[<-r];show m=3;omega),λe=>FW.1 (by rw[<-r];show m=2;omega),λe=>by rw[r,e];rfl⟩;clear h E R N G k1 s1 K z T P ag ad hk S af;rcases am with⟨n3,U⟩|⟨U,ab⟩;have i3:¬(m)=3:=λe=>n3 (A.1 e);have i2:¬(m)=2:=λe=>U (A.2.1 e);clear A r;go_enter func202,ntmps202;go_upto_region 1 with fail;rw[Da H];go_wp2_with(first|(go_at_call 241;apply(Da t).Q;rintro e X⟨rfl,Y,Z,g,d,i,z0,o,-⟩;have v:=Db g;have u:=Db d;have y:=Db i;clear g d i)|(refine JG rfl 188 rfl Ky ?_;rw[Da v])|(refine Bh rfl 188 _ _ rfl _ (Dd s).toArray rfl (Da W) 188 _ (Da u) (by rw[D4];simp[Da B]) (by simp[Da B,Dh,JA]) (KI _) ?_;rw[Da y]));exact Am (by simp[results,results202,go_sem]) rfl ⟨rfl,Da o⟩;obtain rfl:m=2:=A.2.2 U;have ah:=Db ab;clear A r ab;go_enter func202,ntmps202;go_upto_region 1 with fail;rw[Da H];go_upto_region 11 with(first|(go_at_call 241;apply(Da t).Q;rintro e X⟨rfl,Y,Z,g,d,i,z0,-,J⟩;have v:=Db g;have u:=Db d;have y:=Db i;clear g d i)|(refine JG rfl 188 rfl Ky ?_;rw[Da v])|(refine Bh rfl 188 _ _ rfl _ (Dd s).toArray rfl (Da W) 188 _ (Da u) (by rw[D4];simp[Da B]) (by simp[Da B,Dh,JA]) (KI _) ?_;rw[Da y])|(go_at_call 242;apply(Da ah _ _ (Da J).1 (Da J).2.1 (Da J).2.2).Q;rintro e Y2⟨b,F,rfl,ae,ac⟩;have o:=Db ac;have I:=Db ae;clear ac ae));rcases F with _|_
 .clear I;go_wp2;exact Am (by simp[results,results202,go_sem]) rfl ⟨rfl,Da o⟩
 .have h8:(8)<=(b):=by have:=Da I (by first|rfl|trivial);omega
  clear I;go_wp2;exact Am (by simp[results,results202,go_sem]) rfl ⟨rfl,Da o⟩
end
def QJ(w0:World)(n0 rb db tp tx:Nat)(W:World)(va vt:Value)(r:Option (Nat×Gg))(e:Ending)(w':World):Prop:=
 match r with
 |none=>GNo w0 n0 rb e w'
 |some (b,q')=>Uc w0 n0 rb db tp tx W va vt b q' e w'
def Kc(T:By)(g:Nat->Gg->Option (Nat×Gg)):Nat->Nat->Nat->Gg->Option (Nat×Gg)
 |0,_,b,q=>some (b+1,q)
 |k+1,j,b,q=>if GK (Dt T j)=0/\GQ (Dt T j)=0 then some (b+1,q) else
  match g (GK (Dt T j)) q with
  |none=>none
  |some (b',q')=>Kc T g k (j+1) b' q'
theorem Zi0(w m:World)(n0 d n o r:Nat)(D:Gg)(f i:Value)(h:Gv m n0 d n o r D f i w)(l:Nat)(s:By)(hs:s.size=64)(hB:Gb w l 188 (Dd s))(g:Nat->Gg->Option (Nat×Gg))(Inv:Gg->Prop)(hi:Inv D)(av:∀p q b z,Inv q->g p q=some (b,z)->Inv z/\b<8)(A:∀(p x:Nat) q W f i,Inv q->Gv m n0 d n o r q f i W->Cl 202 #[dP d,.agg #[dI (p:Nat),.int .u64 (x:Nat)]] W (QJ m n0 d n o r W f i (g p q))):
  Cl 242 #[dP d,.agg #[.slice (some ⟨l,1,none⟩) 63 63]] w (QJ m n0 d n o r w f i (Kc (DW s) g 6 0 0 D)):=by
 obtain⟨aK,ah,aL⟩:=h.lt;obtain⟨W1,e1,x1,Q,s1,b1⟩:=Df w [.slice (some ⟨l,1,none⟩) 63 63] 287;have au:(DW s).size=63:=by unfold DW;rw[Af,hs];rfl
 have ag:Gb W1 l 188 (Dd s):=Q _ _ _ hB;have ar:Nx w m n0 d n o r f i l s D 0 f i W1:=by refine⟨h.below b1,⟨some ⟨l,1,none⟩,63,x1,⟨au.r,λe=>(by cases e),λj v C=>⟨_,rfl,?_⟩⟩,Aa _,λx e=>by cases e;rfl⟩,ag,Fr.S b1,λg A => .inl A,λg A => .inl A⟩;rw[AG,ag.J];show(Dd s)[1+j]?=some v;unfold Dt DW at C;rw[KC,AZ]at C;split at C;rw[BF]at C;exact C;cases C
 have aH:Hid (∀(j a:Nat) (q:Gg),j<6->a<100->Inv q->∀t u wr,Nx w m n0 d n o r f i l s q j t u wr->Cl 238 #[dP w.heap.size] wr λe Y=>∃P X:Nat,P=GK (Dt (DW s) j)/\X=GQ (Dt (DW s) j)/\e=dR (.agg #[dI (P:Nat),.int .u64 (X:Nat)])/\
   ∃Z,Y.alloc (.cells #[dI (P:Nat),.int .u64 (X:Nat)] 175)=Z/\Z.cell? ⟨Y.heap.size,0,none⟩=some (dI (P:Nat))/\Z.cell? ⟨Y.heap.size,1,none⟩=some (.int .u64 (X:Nat))/\Hid (Cl 202 #[dP d,.agg #[dI (P:Nat),.int .u64 (X:Nat)]] Z λe U=>(g P q=none/\e=dR (.tuple #[dI 0,dV false])/\Hid (II m n0 d U))\/∃(b:Nat) (z:Gg),g P q=some (b,z)/\e=dR (.tuple #[dI (b:Nat),dV true])/\b<8/\Hid (Inv z/\∃T V,Nx w m n0 d n o r f i l s z (j+1) T V U))/\
   Hid (Uc m n0 d n o r w f i (a+1) q (dR (.tuple #[dI ((a:Int)+1),dV true])) Z)):=λj a q ay aT N t u wr c=>by
  obtain⟨a2,c2,B,g2,g3,g4⟩:=c.bf;have aB:w.heap.size≠l:=by have:=hB.lt;omega
  apply(RC wr w.heap.size a2 (63-10*j) c2 (Dt (DW s) j) B g2 g3 (λx e e2=>aB (by rw[<-e2];exact g4 x e)) Ω).Q;rintro e Y⟨rfl,a3,c3,r1,r2,r3,r4,r5⟩;obtain⟨Z,eZ,xZ,kZ,sZ,bZ⟩:=Df Y [dI (GK (Dt (DW s) j):Nat),.int .u64 (GQ (Dt (DW s) j):Nat)] 175;have ai:=c.rd.ne B Δ Δ Δ;have aN:n0<=w.heap.size:=Ae h.sz h.aa.size;have K:=(c.rd.e r5 (λk e=>by subst e;exact⟨aN,ai.1,ai.2.1,ai.2.2⟩)).below bZ;have ap:Gb Y l 188 (Dd s):=c.bb.e r5 (λe=>aB e.r);have ad:=kZ _ _ _ ap;have aq:=kZ _ _ _ r1;have ae:Fr (λk=>k=d\/Own f k\/Own i k) w Z:=(c.e.then r5 (λk O e=>Ω)).then (Fr.S (X:=λ_=>False) bZ) (λ_ _ e=>e.elim);have af:∀x,a3=some x->x.block=l:=λx e=>by obtain⟨y,e2,e3⟩:=r4 x e;rw[<-e3];exact g4 y e2
  refine⟨_,_,rfl,rfl,rfl,Z,eZ,(xZ.J 0).M rfl,(xZ.J 1).M rfl,?_,by rw[show((a:Int)+1)=((a+1:Nat):Int) by omega],t,u,K,ae,c.na,c.nt⟩;apply(A _ _ q Z t u N K).Q;intro e U F;unfold QJ at F;split at F;rename_i M;exact .inl ⟨M,F.1,F.2⟩;rename_i b z M;obtain⟨rfl,T,V,u1,u2,u3,u4⟩:=F;have aj:=K.ne ad Δ Δ Δ;have ak:=K.ne aq Δ Δ Δ;have ao:Gb U l 188 (Dd s):=ad.e u2 (λe=>by rcases e with e|e|e;exact aj.1 e;exact aj.2.1 e;exact aj.2.2 e);have aP:=u2.size;have aQ:=ae.size;obtain⟨i1,i2⟩:=av _ _ _ _ N M;refine .inr ⟨b,z,M,rfl,i2,i1,T,V,⟨u1,⟨a3,c3,by rw[show 63-10*(j+1)=63-10*j-10 by omega];exact(aq.e u2 (λe=>by rcases e with e|e|e;exact ak.1 e;exact ak.2.1 e;exact ak.2.2 e)),by rw[show 63-10*(j+1)=63-10*j-10 by omega];exact(r2.row af (bZ.block _ ap.lt)).row af (ao.M ad.r),Ω,af⟩,ao,ae.then u2 (λk O e=>?_),λg A=>(u3 g A).elim (c.na g) (λe => .inr Ω),λg A=>(u4 g A).elim (c.nt g) (λe => .inr Ω)⟩⟩;rcases e with e|e|e;exact .inl e;exact(c.na k e).elim (λe => .inr (.inl e)) (λe=>Ω);exact(c.nt k e).elim (λe => .inr (.inr e)) (λe=>Ω)
 have aC:Hid (∀(a:Nat) q t u wr,Nx w m n0 d n o r f i l s q 6 t u wr->Uc m n0 d n o r w f i (a+1) q (dR (.tuple #[dI ((a:Int)+1),dV true])) wr):=λa q t u wr c=>⟨by rw[show((a:Int)+1)=((a+1:Nat):Int) by omega],t,u,c.rd,c.e,c.na,c.nt⟩;have ab:=Db ar;have aa:=Db e1;have aD:=Db hi;obtain⟨R,hR⟩:=ex (Kc (DW s) g 6 0 0 D);rw[<-hR];have aG:=Db hR;clear e1 x1 Q s1 b1 ar ag h hB hs A av au aK ah aL hi hR;go_enter func242,ntmps242;go_upto_region 1 with fail;rw[show w.alloc (.cells #[.slice (some ⟨l,1,none⟩) 63 63] 287)=W1 from Da aa];go_wp2
 go_loopw [4,5] (λi4 i5 wr=>∃(j a:Nat) (b5:Bool),j<=6/\a<8/\i4=dI (a:Nat)/\i5=dV b5/\Hid (∃q,Inv q/\R=Kc (DW s) g (6-j) j a q/\∃t u,Nx w m n0 d n o r f i l s q j t u wr)) (λ_ _ wr=>QN w.heap.size wr)
 case atStart=>exact⟨0,0,false,Ω,Ω,rfl,rfl,D,Da aD,Da aG,f,i,Da ab⟩
 case round=>
  obtain⟨j,a,b5,aS,aU,rfl,rfl,HI⟩:=hrel;obtain⟨q,N,L,t,u,c⟩:=Da HI;obtain⟨a2,c2,B,-,-,-⟩:=c.bf;obtain⟨S,ah⟩:=ex (63-10*j);rw[<-ah]at B;have c0:=B.ca 0;have aM:=TZ c0;have an:=Db L;by_cases ay:j<6
  .have HR:=Db (Da aH j a q ay Ω N t u wr c);have aR:(10:Int)<=(S:Int):=Ω;clear c HI B ab aa L;go_upto_region 3 with(go_at_call 238;apply(Da HR).Q;rintro e Y⟨P,X,hP,hX,rfl,Z,hZ,z0,z1,G,HE⟩;have ac:=Db (And.intro hP hX);have HZ:=Db hZ;clear hP hX hZ);rw[show Y.alloc (.cells #[dI (P:Nat),.int .u64 (X:Nat)] 175)=Z from Da HZ];have aA:∀k,6-j=k+1->Kc (DW s) g (6-j) j a q=if P=0/\X=0 then some (a+1,q) else match g P q with|none=>none|some (b',z)=>Kc (DW s) g k (j+1) b' z:=λk O=>by rw[O];show(if GK (Dt (DW s) j)=0/\GQ (Dt (DW s) j)=0 then _ else _)=_;rw[(Da ac).1,(Da ac).2]
   have al:=aA (6-(j+1)) Ω;rw[<-Da an]at al;clear aA;have J:=Db al;clear al HR ac HZ an;by_cases hz:P=0/\X=0
   .obtain⟨rfl,rfl⟩:=hz;have E:Hid (QJ m n0 d n o r w f i R (dR (.tuple #[dI ((a:Int)+1),dV true])) Z):=(by have e:=Da J;rw[if_pos ⟨rfl,rfl⟩]at e;rw[e];exact Da HE);clear J HE G;go_wp2;exact Am (by simp[results,results242,go_sem]<;>rfl) rfl (Da E)
   .have aO:((P:Nat):Int)≠0\/P=0/\((X:Nat):Int)≠0:=Ω;have am:=Da J;rw[if_neg hz]at am;have I:=Db am;clear am J HE hz;rcases aO with aW|⟨rfl,aX⟩;all_goals
     go_upto_region 5 with(go_at_call 202;apply(Da G).Q;rintro e U (⟨aw,rfl,HB⟩|⟨b,z,ax,rfl,aJ,H⟩))
    all_goals first
     |(have E:Hid (QJ m n0 d n o r w f i R (dR (.tuple #[dI 0,dV false])) U):=by have e:=Da I;rw[aw]at e;rw[e];exact⟨rfl,Da HB⟩
       clear aw G I HB z0 z1;go_wp2;exact Am (by simp[results,results242,go_sem]<;>rfl) rfl (Da E))
     |(have aF:Hid (∃q,Inv q/\R=Kc (DW s) g (6-(j+1)) (j+1) b q/\∃t u,Nx w m n0 d n o r f i l s q (j+1) t u U):=by have e:=Da I;rw[ax]at e;exact⟨z,(Da H).1,e,(Da H).2⟩
       have az:QN w.heap.size U<QN w.heap.size wr:=(by obtain⟨_,T,V,aI⟩:=Da H;obtain⟨a3,c3,Q,-,-,-⟩:=aI.bf;have O:=TZ (Q.ca 0);omega);have aE:=Db az;clear az aM G z0 z1 ax I H;go_wp2
       go_roundw
       case rel=>exact⟨j+1,b,true,Ω,aJ,rfl,rfl,Da aF⟩
       case measure=>exact Da aE)
  .obtain rfl:j=6:=Ω;have aV:¬(10:Int)<=(S:Int):=Ω;have E:Hid (QJ m n0 d n o r w f i R (dR (.tuple #[dI ((a:Int)+1),dV true])) wr):=(by rw[L];exact(Da aC a q t u wr c));clear c HI B ab aa L;go_wp2;exact Am (by simp[results,results242,go_sem]<;>rfl) rfl (Da E)
def Ip(q:Gg):Nat:=(List.range 1536).countP (λp => !q.tk p)
theorem Xs{f a:Nat->Bool}(d:∀k,a k=true->f k=true){p:Nat}(b:f p=true)(c:a p=false):∀l:List Nat,p∈l->l.countP a+1<=l.countP f
 |[],h=>by grind
 |x::l,h=>by have hm:l.countP a<=l.countP f:=EP Γ;rcases AM.1 h with rfl|h;simp_all;have ih:=Xs d b c l h;grind
theorem RE{q:Gg}(a:p<1536)(hk:q.tk p=false):Ip (q.take p)+1<=Ip q:=
 Xs (by grind [Gg.take]) Ξ (by show(!(if p=p then true else q.tk p))=false;simp_all) _ (Cz.2 a)
structure G7(c:Nat)(q:Gg):Prop where
 len:q.a4.length+Ip q+c<=1536
 tn:∀b,q.tn b<=q.a4.length
 ts:q.t.size<=63*1536
 tl:q.t.size+63*(Ip q+c)<=63*1536
 e9:∀y∈q.a4,∃k b i,(k=2\/k=3)/\b<8/\i<q.tn b/\y.1=De k b i
theorem G7.take{q:Gg}(h:G7 c q)(b:p<1536)(a:q.tk p=false):G7 (c+1) (q.take p):=by have:=RE b a;have h1:=h.len;have h2:=h.tl;exact⟨by show q.a4.length+Ip (q.take p)+(c+1)<=_;omega,h.tn,h.ts,by show q.t.size+63*(Ip (q.take p)+(c+1))<=_;omega,h.e9⟩
theorem G7.fresh{q:Gg}(h:G7 c q)(hk:k=2\/k=3)(hb:b<8):∀y∈q.a4,y.1≠De k b (q.tn b):=λy d e=>by obtain⟨k',a,i,h1,h2,h3,h4⟩:=h.e9 y d;have hl:=h.len;have t1:=h.tn b;have t2:=h.tn a;grind [O7,R4,De]
theorem G7.fp{q:Gg}(h:G7 (c+1) q)(hk:k=2\/k=3)(hb:b<8)(p:Nat):G7 c ((q.put (De k b (q.tn b)) p).a5 b):=by
 have h1:=h.len;have h2:=h.tl;have hu:Ip ((q.put (De k b (q.tn b)) p).a5 b)=Ip q:=rfl;have aa:((q.put (De k b (q.tn b)) p).a5 b).a4.length=q.a4.length+1:=by show(q.a4++[_]).length=_;simp_all
 have ab:∀a,((q.put (De k b (q.tn b)) p).a5 b).tn a=if a=b then q.tn b+1 else q.tn a:=λ_=>rfl;refine⟨Ω,λa=>?_,h.ts,by show q.t.size+_<=_;omega,λy d=>?_⟩;have:=h.tn a;grind;rcases Al.1 d with e|e;obtain⟨k',a,i,g1,g2,g3,g4⟩:=h.e9 y e;grind;grind
theorem G7.ad{q:Gg}(h:G7 (c+1) q){s:By}(hs:s.size=63)(p:Nat):G7 c (((q.au s).put (De 3 0 (q.tn 0)) p).a5 0):=by have a:=h.fp (b:=0) (.inr rfl) Ω p;have h2:=h.tl;have hz:(q.t++s).size=q.t.size+63:=Ξ;have hu:Ip (((q.au s).put (De 3 0 (q.tn 0)) p).a5 0)=Ip q:=rfl;exact⟨a.len,a.tn,by show(q.t++s).size<=_;omega,by show(q.t++s).size+_<=_;omega,a.e9⟩
def KF(D:LY):Nat->Nat->Gg->Option (Nat×Gg)
 |0,_,_=>none
 |f+1,p,q=>
  if p<16\/1536<=p\/q.tk p=true then none else
  match D[p]? with
  |none=>none
  |some s=>
   match s.data[0]? with
   |none=>none
   |some kk=>
    if kk=3 then some (0,(((q.take p).au (DW s)).put (De 3 0 (q.tn 0)) p).a5 0)
    else if kk=2 then
     match Kc (DW s) (KF D f) 6 0 0 (q.take p) with
     |none=>none
     |some (b,q2)=>if 8<=b then none else some (b,(q2.put (De 2 b (q2.tn b)) p).a5 b)
    else none
theorem ZpZ{s:By}(hs:s.size=64):(DW s).size=63:=by grind [DW,ByteArray.size_extract]
def Pu(c:Nat)(q q':Gg):Prop:=G7 c q'/\Ip q'<=Ip q
theorem Rw{T:By}{g:Nat->Gg->Option (Nat×Gg)}{Inv:Gg->Prop}(c:∀p q b q',Inv q->g p q=some (b,q')->Inv q'):∀(k j b:Nat) (q:Gg) (b':Nat) (q':Gg),Inv q->Kc T g k j b q=some (b',q')->Inv q'
 |0,j,b,q,b',q',hi,h=>by grind [Kc]
 |k+1,j,b,q,b',q',hi,h=>by unfold Kc at h;split at h;simp_all;split at h;grind;rename_i a d e;exact Rw c k _ a d b' q' Γ h
theorem Rx{D:LY}(j:∀s∈D,s.size=64):∀(f c p:Nat) (q:Gg) (b:Nat) (q':Gg),G7 c q->KF D f p q=some (b,q')->Pu c q q'/\b<8
 |0,c,p,q,b,q',hi,h=>by cases h
 |f+1,c,p,q,b,q',hi,h=>by
  unfold KF at h;split at h;grind;rename_i r;have d:16<=p/\p<1536/\q.tk p=false:=⟨Ω,Ω,by
   cases g:q.tk p with
   |true=>exact absurd (.inr (.inr g)) r
   |false=>rfl⟩
  have ht:=RE d.2.1 d.2.2;have k:=hi.take d.2.1 d.2.2;split at h;grind;rename_i s t;split at h;grind;split at h;cases h;exact⟨⟨k.ad (ZpZ (j s (Ai t))) p,by show Ip (q.take p)<=_;omega⟩,Ω⟩;split at h;split at h;grind;rename_i b2 a e;split at h;cases h;cases h;have g:=Rw (Inv:=λa=>G7 _ a/\Ip a<=Ip _) (λu v l w i o=>by obtain⟨⟨m,n⟩,_⟩:=Rx j f _ u v l w i.1 o;exact⟨m,Ae n i.2⟩) 6 0 0 _ b a ⟨k,Aa _⟩ e;exact⟨⟨g.1.fp (.inl rfl) Ω p,by show Ip a<=_;omega⟩,Ω⟩;grind
theorem Zig{D:LY}(n:World)(n0 i g r t:Nat){vf vw ve:Value}{a:OA}{l N:Nat}(j:Jg n g vf (dT a l N) vw ve D)(y:g<n0/\∀k,Own (dT a l N) k->k<n0):∀(f c:Nat) (p x:Nat) (q:Gg) (W:World) (va vt:Value),G7 c q->Ip q<f->Gv n n0 i g r t q va vt W->
  Cl 202 #[dP i,.agg #[dI (p:Nat),.int .u64 (x:Nat)]] W (QJ n n0 i g r t W va vt (KF D f p q))
 |0,c,p,x,q,W,va,vt,hi,hu,h=>by omega
 |f+1,c,p,x,q,W,va,vt,hi,hu,h=>by
  have K:=j.2.1.2;have hl:=hi.len;have ad:=hi.tn 0;have ae:=hi.ts;unfold KF;split;rename_i P;exact R9 h j y p x (.inl P);rename_i P;have E:16<=p:=Ω;have z:p<1536:=Ω;have w:q.tk p=false:=by simp_all
  have ht:=RE z w;have O:=hi.take z w;split;rename_i m;rw[Ab (by rw[j.2.2];omega)]at m;cases m;rename_i s m;have T:=K s (Ai m);split;rename_i o;have:0<s.data.size:=Ξ;rw[Eh this]at o;cases o;rename_i U o;split;rename_i e;subst e;exact ZtN W n n0 i g r t q va vt h j y p x E z w s m o Ω (hi.fresh (.inr rfl) Ω) Ω Ω;rename_i X;split;rename_i e;subst e;have C:∀Z d,Gv n n0 i g r t (q.take p) va vt Z->Gb Z d 188 (Dd s)->Cl 242 #[dP i,.agg #[dT (some (dQ d 1)) 63 63]] Z (QJ n n0 i g r t Z va vt (Kc (DW s) (KF D f) 6 0 0 (q.take p))):=λZ d v u=>
   Zi0 Z n n0 i g r t _ va vt v d s T u _ (λH=>G7 _ H/\Ip H<f) ⟨O,Ω⟩ (λF G J M A B=>by obtain⟨⟨g1,g2⟩,g3⟩:=Rx K f _ F G J M A.1 B;grind) (λF x1 G Q Y aa A B=>Zig n n0 i g r t j y f _ F x1 G Q Y aa A.1 A.2 B)
  split;rename_i e;rw[e]at C;exact R9 h j y p x (.inr ⟨s,2,E,z,w,m,o,.inr ⟨rfl,λZ d v u _=>(C Z d v u).Q λe w' I=>⟨0,false,I.1,λe=>(by cases e),I.2⟩⟩⟩);rename_i b H e;rw[e]at C;have L:=Rw (λF G J M A B=>(Rx K f _ F G J M A B).1.1) 6 0 0 _ b H O e;have ab:=L.len;have ac:=L.tn b;split;rename_i R;exact R9 h j y p x (.inr ⟨s,2,E,z,w,m,o,.inr ⟨rfl,λZ d v u _=>(C Z d v u).Q λe w' I=>by obtain⟨rfl,af,ag,S,_⟩:=I;exact⟨b,true,rfl,λ_=>R,S.no⟩⟩⟩);exact ZtO W n n0 i g r t q va vt h j y p x E z w s m o b Ω H (λZ d v u _=>C Z d v u) (L.fresh (.inl rfl) Ω) Ω Ω;rename_i V;exact R9 h j y p x (.inr ⟨s,U,E,z,w,m,o,.inl ⟨X,V⟩⟩)
theorem ZnJ(b:LI)(i:Nat)(c d r:Int)(h:b[i]?=some (c,d)):(DH b).set (i*2+1) (dI r)=DH (b.set i (c,r)):=by
 induction b generalizing i with
 |nil=>rfl
 |cons a l ih=>
  cases i with
  |zero=>grind [DH,I4]
  |succ i=>
   have:=ih i h;simp only[DH,A9,F3]at this ⊢;rw[<-this,BN _ _ (by simp[I4];omega)];simp only[I4,Ay,AR];rw[show(i+1)*2+1-(0+1+1)=i*2+1 by omega]
theorem ZqZ(w:World)(d ho:Nat)(v:Value)(a:LI)(c:Int)(N r:Int)(n:w.cell? (dQ d ho)=some v)(ab:v.ownBlock≠some d)(s:Sl w 350 2 v a.length (DH a))(J:a.length<=10000)(p:GM a)(H:(c,N)∈a):
  Cl 243 #[.pointer (some (dQ d ho)),.int .u64 c,dI r] w λe w'=>e=dR (.tuple #[])/\∃es',w'.cell? (dQ d ho)=some v/\Sl w' 350 2 v es'.length (DH es')/\
   GM es'/\es'.length=a.length/\(∀x,x∈es'↔x=(c,r)\/x∈a/\x.1≠c)/\Fr (Own v) w w':=by
 go_enter func243,ntmps243;go_wp2_with fail;apply(SU w d ho v a c n s J p).Q;rintro e h⟨i,b,rfl,l,f⟩;have E:b=true:=by
  cases b with
  |true=>rfl
  |false=>exact absurd rfl (I6.not KK p l _ H)
 subst E;obtain⟨y,u⟩:=l.an;have hi:i<a.length:=Γ;have q0:=(f.J (Ag _ _ n)).M n;rcases(s.kept (λk o _=>f.block k o)).2 with⟨rfl,h0⟩|⟨g,j,L,rfl,m,aa,G,hL,D⟩;omega
 .have q1:h.cell? (dQ g (i*2+1))=some (dI y):=by have hu:=(OU a i _ u).2;rw[m.J];grind
  have f1:=m.A (i*2+1);have ac:d≠g:=by grind [Value.ownBlock]
  have z:∀W:World,W.heap=(h.setCell (dQ g (i*2+1)) (dI r)).heap->W.os=h.os->W.tape=h.tape->W.output=h.output->
    ∃es',W.cell? (dQ d ho)=some (dS g a.length j)/\Sl W 350 2 (dS g a.length j) es'.length (DH es')/\GM es'/\es'.length=a.length/\(∀x,x∈es'↔x=(c,r)\/x∈a/\x.1≠c)/\Fr (Own (dS g a.length j)) w W:=λW t A B C=>by
   obtain⟨K,q,M⟩:=Za KK r p l;have F:∀k,k≠g->W.heap[k]?=h.heap[k]? := by grind [Below.heap_setCell]
   refine⟨a.set i (c,r),?_,⟨Zff _,.inr ⟨g,j,L.set (i*2+1) (dI r),?_,?_,?_,G,?_,?_⟩⟩,K,q,M,?_⟩;grind [World.cell?_of_block,trans];rw[q];unfold Gb;rw[t];exact m.set _ _;omega;simp_all;rw[q,<-ZnJ a i c y r u,<-D,FP];refine⟨A.M f.os,B.M f.tape,C.M f.output,?_,λk o I=>?_⟩;rw[t];simpa [World.setCell] using f.size;rw[F k (λe=>I (by rw[e];rfl)),f.block k o]
  go_wp2;all_goals
   refine Am (CU rfl _ _ _) rfl ?_;exact⟨rfl,Da (Db z) _ rfl rfl rfl rfl⟩
def Gg.bo(q:Gg)(r p:Nat):Gg:={ q with a4:=if ∃y∈q.a4,y.1=r then q.a4.map (λy=>if y.1=r then(r,p) else y) else q.a4++[(r,p)] }
theorem Gg.dd{q:Gg}(h:∀y∈q.a4,y.1≠r):q.bo r p=q.put r p:=by unfold Gg.bo Gg.put;grind
section
variable{w0:World}{n0 rb db tp tx:Nat}{q:Gg}{va vt:Value}{W W':World}
theorem Gv.ec(h:Gv w0 n0 rb db tp tx q va vt W)(u:q.a4.length<=9999):
  Cl 243 #[.pointer (some (dQ rb 1)),.int .u64 (r:Nat),dI (p:Nat)] W λe w'=>e=dR (.tuple #[])/\∃va',Gv w0 n0 rb db tp tx (q.bo r p) va' vt w'/\Fr (λk=>k=rb\/Own va k) W w'/\Dm W va va':=by
 by_cases v:∃y∈q.a4,y.1=r;obtain⟨L,i,C,j,D,E,F,G,H⟩:=h.row;obtain⟨c,⟨m,n,o⟩,s⟩:=h.es;have w:=v;obtain⟨y,hy,ab⟩:=w;have t:((r:Int),(y.2:Int))∈c:=Γ;apply(ZqZ W rb 1 va c r y.2 p ((i.J 1).M j) (λe=>(h.oa rb e).2.1 rfl) s Ω m t).Q;rintro e w'⟨rfl,l,m1,I,J,K,M,a⟩;have f:(q.bo r p).a4=q.a4.map (λy=>if y.1=r then(r,p) else y):=by show(if _ then _ else _)=_;grind
 have hs:=h.aa.size;have B:=h.sz;refine⟨rfl,va,⟨⟨L,i.e a (λe=>(h.oa rb e).2.1 rfl),C,j,D,E,F,G,H⟩,⟨l,⟨J,by rw[f,AT,K,n],λx=>?_⟩,I⟩,⟨h.ad.1.e a (λg b e=>(h.oa g e).2.2 b),h.ad.2⟩,h.oa,h.ot,h.aa.M ⟨a.os,a.tape,a.output,a.size,λk hk=>a.block k Ω (λe=>by have:=(h.oa k e).1;omega)⟩,h.lo,B⟩,a.Q Γ,λg b => .inl b⟩;rw[M x,f];constructor;rintro(rfl|⟨A,aa⟩);grind;obtain⟨z,ac,rfl⟩:=(o x).1 A;grind;grind;have d:∀y∈q.a4,y.1≠r:=Γ;rw[Gg.dd d];exact h.cn d u
end
def CB(B:NB):NB
 |0=>⟨#[]⟩
 |k+1=>CB B k++B k
theorem OP{B:NB}(a:∀k,(B k).size=64):∀k,(CB B k).size=64*k
 |0=>rfl
 |k+1=>by unfold CB;rw[Aj,OP a k,a];omega
structure Nn(W w0:World)(n0 rb db tp tx fb:Nat)(vt va0:Value)(p:By)(kd fn:Nat)(B:NB)(q:Gg)(s:By)(k:Nat)(va v:Value)(wr:World):Prop where
 rd:Gv w0 n0 rb db tp tx q va vt wr
 fd:GT fb s vt wr
 b5:Gb wr W.heap.size 141 [dU p,.int .u8 (kd:Nat),dI (fn:Nat),v]
 b6:Gb wr (W.heap.size+1) 141 [dU ⟨#[]⟩,.int .u8 0,dI 0,dN]
 dt:GD (W.heap.size+2) wr v (CB B k)
 e:Fr (λj=>j=rb\/Own va0 j\/j=fb) W wr
 na:Dm W va0 va
 sz:W.heap.size+2<=wr.heap.size
def Zue(W w0:World)(n0 rb db tp tx fb:Nat)(vt va:Value)(p:By)(kd fn:Nat)(d:By)(q':Gg)(s':By)(e:Ending)(w':World):Prop:=
 ∃a' c' va',e=dR (.tuple #[.agg #[dU p,.int .u8 (kd:Nat),dI (fn:Nat),dT a' d.size c'],dV true])/\Gv w0 n0 rb db tp tx q' va' vt w'/\GT fb s' vt w'/\Sl w' 5 1 (dT a' d.size c') d.size (Dd d)/\(∀k,Own (dT a' d.size c') k->W.heap.size+2<=k)/\Fr (λj=>j=rb\/Own va j\/j=fb) W w'/\Dm W va va'
def Qv(W w0:World)(n0 rb db tp tx fb:Nat)(vt va:Value)(p:By)(kd fn:Nat)(B:NB)(N K:Nat)(q':Gg)(s':By)(e:Ending)(w':World):Prop:=
 if N<=64*K then Zue W w0 n0 rb db tp tx fb vt va p kd fn ((CB B K).extract 0 N) q' s' e w'
 else ∃a l c,e=dR (.tuple #[.agg #[dU p,.int .u8 (kd:Nat),dI (fn:Nat),dT a l c],dV false])/\II w0 n0 rb w'/\Fr (λj=>j=rb\/Own va j\/j=fb) W w'
theorem ZrF(W T:World)(n0 z O tp tx:Nat)(q:Gg)(va F:Value)(h:Gv T n0 z O tp tx q va F W){vf vw ve:Value}{a:OA}{l:Nat}{D:LY}(hD:Jg T O vf (dT a l c) vw ve D)(a6:O<n0/\∀k,Own (dT a l c) k->k<n0)(y:Nat)(aE:n0<=y)(s:By)(hf:GT y s F W)(hs:s.size<=1000000)(p:By)(A fn:Nat)(b8:fn<256)(N:Nat)(a8:Dx (BL (Dg s 2))=N)(P:Nat->Nat)(B:NB)(hB:∀k,(B k).size=64)(Q:Nat->Gg)(aO:Q 0=q)(K:Nat)(bU:N<=65535)(hb:∀k,k<K->GK (Dt (s.extract 2 s.size) k)=P k/\16<=P k/\P k<1536/\D[P k]?=some (B k))(hq:∀k,k<K->(Q k).tk (P k)=false/\Q (k+1)=((Q k).take (P k)).bo (De 4 fn k) (P k)/\(Q k).a4.length<=9999)(ag:∀k,k<K->64*k<N)(aD:N<=64*K\/64*K<N/\(GK (Dt (s.extract 2 s.size) K)<16\/1536<=GK (Dt (s.extract 2 s.size) K)\/(Q K).tk (GK (Dt (s.extract 2 s.size) K))=true)):
  Cl 246 #[dP z,dP y,.agg #[dU p,.int .u8 (A:Nat),dI (fn:Nat),dN]] W (Qv W T n0 z O tp tx y F va p A fn B N K (Q K) (Dt (s.extract 2 s.size) K)):=by
 obtain⟨W1,e1,x1,k1,s1,b1⟩:=Df W [dU p,.int .u8 (A:Nat),dI (fn:Nat),dN] 141;obtain⟨W2,e2,x2,k2,s2,b2⟩:=Df W1 [dU ⟨#[]⟩,.int .u8 0,dI 0,dN] 141;rw[s1]at x2;have aw:Bw W W2:=b1.M (b2.Q Ω);obtain⟨a2,bF,aa⟩:=h.lt;obtain⟨E,ai⟩:=ex (s.extract 2 s.size);rw[<-ai]at hb aD ⊢;have aI:n0<=W.heap.size:=Ae h.sz h.aa.size;have bE:∃a l c,Gb W y 287 [dT a l c]:=by obtain⟨a,l,c,r,_⟩:=hf;exact⟨a,l,c,r⟩
 obtain⟨_,_,_,aG⟩:=bE;have ac:=h.ne aG Δ Δ Δ;have b7:=aG.lt;have aB:∀k,k<K->64*k<N:=ag;have bT:K<=1024:=by rcases Bn K with e|e;omega;have:=aB (K-1) Ω;omega
 have ah:¬Own F y:=ac.2.2;have aM:Hid (Cl 240 #[dP y,dI 2] W2 λe X=>e=dR (.int .u64 (N:Nat))/\Hid (Nn W T n0 z O tp tx y F va p A fn B (Q 0) (Dt E 0) 0 va dN X)):=by apply((hf.below aw aa).bz ah Ω 2 Ω).Q;rintro e X⟨rfl,q1,q2⟩;refine⟨by rw[a8],by rw[aO];exact(h.below aw).e q2 (λk e=>by subst e;exact⟨aE,ac.1,ac.2.1,ac.2.2⟩),by rw[<-ai]at q1;exact q1,(k2 _ _ _ x1).e q2 (λe=>Ω),x2.e q2 (λe=>Ω),GD.nil _ _,(Fr.S aw).then q2 (λk _ e => .inr (.inr e)),λg hg => .inl hg,by have:=q2.size;omega⟩
 have bm:Hid (∀k,k<K->∀C o w f wr,Nn W T n0 z O tp tx y F va p A fn B (Q k) (Dt E k) k C (dT o w f) wr->∃X VB,VB=DC (B k)/\Cl 238 #[dP y] wr λe Y=>e=dR (.agg #[dI (P k:Nat),.int .u64 (X:Nat)])/\∃Z,Y.alloc (.cells #[dI (P k:Nat),.int .u64 (X:Nat)] 175)=Z/\Z.cell? (dQ Y.heap.size 0)=some (dI (P k:Nat))/\Z.cell? (dQ Y.heap.size 1)=some (.int .u64 (X:Nat))/\
   Hid (Cl 241 #[dP z,.agg #[dI (P k:Nat),.int .u64 (X:Nat)]] Z λe U=>e=dR (.tuple #[VB,dV true])/\∃G V,U.alloc (.cells (Dd (Dj 64)).toArray 188)=G/\Gb G U.heap.size 188 (Dd (Dj 64))/\G.setRow U.heap.size (Dd (B k)).toArray=V/\V.cell? (dQ W.heap.size 2)=some (dI (fn:Nat))/\V.cell? (dQ Y.heap.size 0)=some (dI (P k:Nat))/\
    Hid (Cl 243 #[.pointer (some (dQ z 1)),.int .u64 ((4*4294967296+fn*65536+k:Nat):Int),dI (P k:Nat)] V.drew λe I=>e=dR (.tuple #[])/\I.cell? (dQ W.heap.size 2)=some (dI (fn:Nat))/\I.cell? (dQ Y.heap.size 0)=some (dI (P k:Nat))/\I.cell? (dQ W.heap.size 3)=some (dT o w f)/\
     ∃a5 l5 c5 J,(Builtin.append_ #[59,59] 59 #[dT o w f,dS U.heap.size 64 64]).run prog I.drew=.ok (dT a5 l5 c5) J/\J.cell? (dQ W.heap.size 3)=some (dT o w f)/\J.frozen? (dQ W.heap.size 3)=false/\Hid (∃ad,Nn W T n0 z O tp tx y F va p A fn B (Q (k+1)) (Dt E (k+1)) (k+1) ad (dT a5 l5 c5) (J.setCell (dQ W.heap.size 3) (dT a5 l5 c5)))))):=λk hk C o w f wr b=>by
  obtain⟨f1,f2,f3,f4⟩:=hb k hk;obtain⟨g1,g2,g3⟩:=hq k hk;have bJ:=b.sz;have aF:∃a l c,Gb wr y 287 [dT a l c]:=by obtain⟨a,l,c,r,_⟩:=b.fd;exact⟨a,l,c,r⟩
  obtain⟨_,_,_,aH⟩:=aF;have aK:(Dt E k).size<=2000000:=by rw[Va,ai,Af];omega
  refine⟨GQ (Dt E k),_,rfl,(b.fd.dw ah aK).Q ?_⟩;rintro e Y⟨rfl,y1,y2⟩;obtain⟨Z,eZ,xZ,kZ,sZ,bZ⟩:=Df Y [dI (P k:Nat),.int .u64 (GQ (Dt E k):Nat)] 175;have bA:Gb Y W.heap.size 141 _:=b.b5.e y2 (λe=>Ω);have bB:Gb Y (W.heap.size+1) 141 _:=b.b6.e y2 (λe=>Ω);have bu:Gv T n0 z O tp tx (Q k) C F Y:=b.rd.e y2 (λj e=>by subst e;exact⟨aE,ac.1,(b.rd.ne aH Δ Δ Δ).2.1,ah⟩);have b5:=y2.size;refine⟨by rw[f1],Z,eZ,(xZ.J 0).M rfl,(xZ.J 1).M rfl,?_⟩;apply((bu.below bZ).bl hD a6 (x:=GQ (Dt E k)) f2 f3 g1 f4).Q;rintro e U⟨rfl,u1,u2⟩;have bX:=u2.size;obtain⟨G,e0,x0,k0,s0,b0⟩:=Df U (Dd (Dj 64)) 188;have xV:Gb (G.setRow U.heap.size (Dd (B k)).toArray) U.heap.size 188 (Dd (B k)):=Bo G _ _ _ 188 _ x0;have bV:Bw U (G.setRow U.heap.size (Dd (B k)).toArray):=b0.M ⟨rfl,rfl,rfl,Θ,λj m=>Bc G _ j _ Ω⟩;obtain⟨V,hV⟩:∃V,G.setRow U.heap.size (Dd (B k)).toArray=V:=⟨_,rfl⟩;rw[hV]at xV bV;have aC:=u1.below bV;have b4:=bV.size;have aj:Gb U W.heap.size 141 _:=(kZ _ _ _ bA).e u2 (λe=>Ω);have ak:Gb U (W.heap.size+1) 141 _:=(kZ _ _ _ bB).e u2 (λe=>Ω);have aS:Gb U Y.heap.size 175 _:=xZ.e u2 (λe=>Ω);have aT:Gb V W.heap.size 141 _:=(bV.block _ aj.lt).M aj;have aV:Gb V Y.heap.size 175 _:=(bV.block _ aS.lt).M aS;refine⟨rfl,G,V,e0,x0,hV,(aT.J 2).M rfl,(aV.J 0).M rfl,?_⟩;have aR:Gv T n0 z O tp tx ((Q k).take (P k)) C F V.drew:=aC.below ⟨rfl,rfl,rfl,Aa _,λ_ _=>rfl⟩;apply(aR.ec (r:=De 4 fn k) (p:=P k) g3).Q;rintro e I⟨rfl,ad,r1,r2,r3⟩;rw[<-g2]at r1;have bY:V.heap.size<=I.heap.size:=r2.size;have ay:=aR.lt;have be:∀j t L,Gb V j t L->t≠350->¬Own C j:=λj t L hr ht=>by obtain⟨es,_,q2⟩:=aC.es;intro e;obtain⟨R',ab⟩:=q2.type e;unfold Gb at hr ab;rw[hr]at ab;cases ab;exact ht rfl
  have kp:∀j t L,Gb V j t L->j≠z->t≠350->Gb I j t L:=λj t L hr m ht=>(r2.block j hr.lt (λe=>e.elim m (be j t L hr ht))).M hr;have au:=kp _ _ _ aT Ω Δ;have aW:=kp _ _ _ ((bV.block _ ak.lt).M ak) Ω Δ;have bx:=kp _ _ _ aV Ω Δ;have bv:=kp _ _ _ xV Ω Δ;have bw:Gb I.drew U.heap.size 188 _:=bv;have af:Fr (λj=>j=y\/j=z\/Own C j) wr I:=by have a1:Fr (λj=>j=y\/j=z\/Own C j) wr Z:=(y2.Q (Y:=λj=>j=y\/j=z\/Own C j) (λj _ e => .inl e)).then (Fr.S (X:=λ_=>False) bZ) (λ_ _ e=>e.elim);have a3:Fr (λj=>j=y\/j=z\/Own C j) wr V.drew:=(by have:=(a1.then u2 (λj _ e => .inr (.inl e))).then (Fr.S (X:=λ_=>False) bV) (λ_ _ e=>e.elim);exact⟨this.os,this.tape,this.output,this.size,this.block⟩);exact a3.then r2 (λj _ e => .inr e)
  have a7:∀j,Own (dT o w f) j->¬(j=y\/j=z\/Own C j):=λj m e=>by obtain⟨R',ab⟩:=b.dt.bh m;have n5:=b.dt.2 j m;rcases e with e|e|e;omega;omega;obtain⟨es,_,q2⟩:=b.rd.es;obtain⟨R2,ae⟩:=q2.type e;unfold Gb at ab ae;rw[ab]at ae;cases ae
  have ca:k<=1024:=Ω;obtain⟨a5,l5,c5,J,m1,m2,m3,m4⟩:=QX I.drew (W.heap.size+2) (by show _<=I.heap.size;omega) (dT o w f) _ ⟨b.dt.1.e ⟨af.os,af.tape,af.output,af.size,af.block⟩ a7,b.dt.2⟩ (dQ U.heap.size 0) 64 64 (B k) (hB k) (λj u hu=>by rw[AG,Av,bw.J];exact hu) (by rw[OP hB];omega);have b3:I.heap.size<=J.heap.size:=m3.size;have ap:∀j,j<W.heap.size+2->¬Own (dT o w f) j:=λj m e=>by have:=b.dt.2 j e;omega
  have bN:∀j,j<W.heap.size+2->¬Own (dT a5 l5 c5) j:=λj m e=>by have:=m2.2 j e;omega
  have am:Gb J W.heap.size 141 _:=(m3.block _ au.lt (ap _ Ω)).M au;have bz:Gb J (W.heap.size+1) 141 _:=(m3.block _ aW.lt (ap _ Ω)).M aW;refine⟨rfl,(au.J 2).M rfl,(bx.J 0).M rfl,(au.J 3).M rfl,a5,l5,c5,J,m1,(am.J 3).M rfl,am.A 3,ad,?_⟩;obtain⟨cb,cc,cd⟩:=r1.lt;have aJ:∀j,Own (dT o w f) j->¬Own ad j/\¬Own F j:=λj m=>by have n5:=b.dt.2 j m;have b9:j<wr.heap.size:=b.dt.1.lt m;refine⟨λe=>?_,λe=>by have:=aa j e;omega⟩;rcases r3 j e with e|e;exact a7 j m (.inr (.inr e));have:V.drew.heap.size=V.heap.size:=rfl;omega
  have bO:Gv T n0 z O tp tx (Q (k+1)) ad F I.drew:=r1.below ⟨rfl,rfl,rfl,Aa _,λ_ _=>rfl⟩;have aP:Gv T n0 z O tp tx (Q (k+1)) ad F J:=bO.e m3 (λj m=>⟨by have:=b.dt.2 j m;omega,by have:=b.dt.2 j m;omega,(aJ j m).1,(aJ j m).2⟩);have an:Fr (λj=>j=W.heap.size) J (J.setCell (dQ W.heap.size 3) (dT a5 l5 c5)):=by exact(Fr.refl (λj=>j=W.heap.size) J).set (dQ W.heap.size 3) (dT a5 l5 c5) rfl
  have bK:¬Own ad W.heap.size:=λe=>by obtain⟨es,_,q2⟩:=aP.es;obtain⟨R2,ae⟩:=q2.type e;unfold Gb at am ae;rw[am]at ae;cases ae
  have bD:GT y (Dt E (k+1)) F (J.setCell (dQ W.heap.size 3) (dT a5 l5 c5)):=by
   have t1:GT y (Dt E (k+1)) F Z:=y1.below bZ (λj m=>by have:=aa j m;omega);have ao:∀j,Own F j->j<Z.heap.size:=λj m=>by have:=aa j m;have:=bZ.size;omega
   have t3:GT y (Dt E (k+1)) F V:=(t1.e u2 (λe=>ac.1 e) (λj m e=>h.ot (by rw[<-e];exact m)) ao).below bV (λj m=>by have:=ao j m;omega);have t4:GT y (Dt E (k+1)) F I:=GT.e (W:=V.drew) t3 r2 (λe=>e.elim ac.1 (λe=>by obtain⟨_,_,_,rr,_⟩:=t3;exact be y _ _ rr Δ e)) (λj m e=>e.elim (λe=>h.ot (by rw[<-e];exact m)) (λe=>(aC.oa j e).2.2 m)) (λj m=>by show j<V.heap.size;have:=ao j m;omega);have bM:∀j,Own F j->j<I.drew.heap.size:=λj m=>by show j<I.heap.size;have:=ao j m;omega
   exact(GT.e (W:=I.drew) t4 m3 (λe=>by have:=b.dt.2 y e;omega) (λj m e=>(aJ j e).2 m) bM).e an (λe=>Ω) (λj m e=>by have:=aa j m;omega) (λj m=>by have:=ao j m;omega)
  refine⟨(aP.e an (λj e=>by subst e;exact⟨aI,Ω,bK,λe=>by have:=aa _ e;omega⟩)),bD,(am.set 3 (dT a5 l5 c5)),bz.e an (λe=>Ω),⟨m2.1.e an (λg hg e=>bN W.heap.size Ω (by rw[<-e];exact hg)),m2.2⟩,?_,λg hg=>?_,?_⟩;refine Fr.then (Fr.then (Fr.then b.e af (λj m e=>?_)) (w2:=J) ⟨m3.os,m3.tape,m3.output,m3.size,m3.block⟩ (λj m e=>absurd e (ap j Ω))) an (λj m e=>Ω);rcases e with e|e|e;exact .inr (.inr e);exact .inl e;exact(b.na j e).elim (λe => .inr (.inl e)) (λe=>Ω);rcases r3 g hg with e|e;exact(b.na g e).imp id (λe=>e);have:V.drew.heap.size=V.heap.size:=rfl;exact .inr Ω;have:(J.setCell (dQ W.heap.size 3) (dT a5 l5 c5)).heap.size=J.heap.size:=by simp[World.setCell]
  omega
 have bh:Hid (∀(ax:N<=64*K) C o w f wr,Nn W T n0 z O tp tx y F va p A fn B (Q K) (Dt E K) K C (dT o w f) wr->N<=f/\Gb wr W.heap.size 141 [dU p,.int .u8 (A:Nat),dI (fn:Nat),dT o w f]/\∃w1,wr.setCell (dQ W.heap.size 3) (dT o N f)=w1/\Gb w1 W.heap.size 141 [dU p,.int .u8 (A:Nat),dI (fn:Nat),dT o N f]/\Gb w1 (W.heap.size+1) 141 [dU ⟨#[]⟩,.int .u8 0,dI 0,dN]/\
   Hid (Qv W T n0 z O tp tx y F va p A fn B N K (Q K) (Dt E K) (dR (.tuple #[.agg #[dU p,.int .u8 (A:Nat),dI (fn:Nat),dT o N f],dV true])) ((((w1.setCell ⟨W.heap.size+1,0,none⟩ (dU p)).setCell ⟨W.heap.size+1,1,none⟩ (.int .u8 (A:Nat))).setCell ⟨W.heap.size+1,2,none⟩ (dI (fn:Nat))).setCell ⟨W.heap.size+1,3,none⟩ (dT o N f)))):=λax C o w f wr b=>by
  obtain⟨d,hd⟩:=ex ((CB B K).extract 0 N);have a0:=OP hB K;have hN:N=d.size:=by rw[hd,Af,a0];omega
  have br:(BL (CB B K)).take d.size=BL d:=by rw[<-hN,hd,Km];rfl
  have bC:=b.dt.cut (by rw[a0];omega) br;have aZ:N<=f:=by rcases b.dt.1.2 with⟨e,h0⟩|⟨g,bP,L,e,_,q1,_⟩;cases e;omega;cases e;omega
  have a9:∀M j,Own (dT o M f) j->Own (dT o w f) j:=λM j e=>by cases o<;>exact e
  have ap:∀j,j<W.heap.size+2->¬Own (dT o N f) j:=λj m e=>by have:=b.dt.2 j (a9 _ j e);omega
  have f1:Fr (λj=>j=W.heap.size\/j=W.heap.size+1) wr ((((( wr.setCell (dQ W.heap.size 3) (dT o N f)).setCell ⟨W.heap.size+1,0,none⟩ (dU p)).setCell ⟨W.heap.size+1,1,none⟩ (.int .u8 (A:Nat))).setCell ⟨W.heap.size+1,2,none⟩ (dI (fn:Nat))).setCell ⟨W.heap.size+1,3,none⟩ (dT o N f)):=((((( Fr.refl (λj=>j=W.heap.size\/j=W.heap.size+1) wr).set (dQ W.heap.size 3) _ (.inl rfl)).set ⟨W.heap.size+1,0,none⟩ _ (.inr rfl)).set ⟨W.heap.size+1,1,none⟩ _ (.inr rfl)).set ⟨W.heap.size+1,2,none⟩ _ (.inr rfl)).set ⟨W.heap.size+1,3,none⟩ _ (.inr rfl);have h5:Gb (wr.setCell (dQ W.heap.size 3) (dT o N f)) W.heap.size 141 [dU p,.int .u8 (A:Nat),dI (fn:Nat),dT o N f]:=b.b5.set 3 (dT o N f);have h6:Gb (wr.setCell (dQ W.heap.size 3) (dT o N f)) (W.heap.size+1) 141 _:=(Aw _ _ _ _ (show W.heap.size+1≠W.heap.size by omega)).M b.b6;have nv:∀j t L,Gb wr j t L->t≠350->¬Own C j:=λj t L hr ht e=>by obtain⟨es,_,q2⟩:=b.rd.es;obtain⟨R',ab⟩:=q2.type e;unfold Gb at hr ab;rw[hr]at ab;cases ab;exact ht rfl
  have bL:∀j,Own F j->j<wr.heap.size:=λj m=>by have:=aa j m;have:=b.sz;omega
  refine⟨aZ,b.b5,_,rfl,h5,h6,?_⟩;unfold Hid Qv;rw[if_pos ax,<-hd];rw[hN]at *;refine⟨o,f,C,rfl,b.rd.e f1 (λj e=>?_),b.fd.e f1 (λe=>Ω) (λj m e=>by have:=aa j m;omega) bL,bC.e f1 (λg hg e=>ap g Ω hg),λj m=>b.dt.2 j (a9 _ j m),b.e.then f1 (λj m e=>Ω),b.na⟩;rcases e with e|e;subst e;exact⟨aI,Ω,nv _ _ _ b.b5 Δ,λe=>by have:=aa _ e;omega⟩;subst e;exact⟨Ω,Ω,nv _ _ _ b.b6 Δ,λe=>by have:=aa _ e;omega⟩
 have bn:Hid (∀k,k<K->∀V,Cl 244 #[.int .u8 4,dI (fn:Nat),dI (k:Nat)] V λe w'=>e=dR (.int .u64 ((4*4294967296+fn*65536+k:Nat):Int))/\w'=V):=λk hk V=>Pj V 4 fn k Ω Ω Ω;have bj:Hid (∀k C o w f wr,Nn W T n0 z O tp tx y F va p A fn B (Q k) (Dt E k) k C (dT o w f) wr->w=64*k):=λk C o w f wr b=>by have:=Sl.len b.dt.1;rw[OP hB]at this;exact this
 have aL:Hid (∀k,(Dd (B k)).length=64):=λk=>by rw[Dh,hB]
 have bk:Hid (64*K<N->∀C o w f wr,Nn W T n0 z O tp tx y F va p A fn B (Q K) (Dt E K) K C (dT o w f) wr->∃X R,Cl 238 #[dP y] wr λe Y=>e=dR (.agg #[dI (R:Nat),.int .u64 (X:Nat)])/\∃Z,Y.alloc (.cells #[dI (R:Nat),.int .u64 (X:Nat)] 175)=Z/\Z.cell? (dQ Y.heap.size 0)=some (dI (R:Nat))/\Z.cell? (dQ Y.heap.size 1)=some (.int .u64 (X:Nat))/\
   Hid (Cl 241 #[dP z,.agg #[dI (R:Nat),.int .u64 (X:Nat)]] Z λe U=>e=dR (.tuple #[DC (Dj 64),dV false])/\∃G V,U.alloc (.cells (Dd (Dj 64)).toArray 188)=G/\Gb G U.heap.size 188 (Dd (Dj 64))/\G.setRow U.heap.size (Dd (Dj 64)).toArray=V/\Gb V W.heap.size 141 [dU p,.int .u8 (A:Nat),dI (fn:Nat),dT o w f]/\Gb V (W.heap.size+1) 141 [dU ⟨#[]⟩,.int .u8 0,dI 0,dN]/\Hid (II T n0 z V/\(n0<=W.heap.size/\z<W.heap.size)/\Fr (λj=>j=z\/Own va j\/j=y) W V))):=λbH C o w f wr b=>by
  obtain⟨e1,bI⟩:=aD.resolve_left Ω;have bJ:=b.sz;have aF:∃a l c,Gb wr y 287 [dT a l c]:=by obtain⟨a,l,c,r,_⟩:=b.fd;exact⟨a,l,c,r⟩
  obtain⟨_,_,_,aH⟩:=aF;have aK:(Dt E K).size<=2000000:=by rw[Va,ai,Af];omega
  refine⟨GQ (Dt E K),GK (Dt E K),(b.fd.dw ah aK).Q ?_⟩;rintro e Y⟨rfl,y1,y2⟩;obtain⟨Z,eZ,xZ,kZ,sZ,bZ⟩:=Df Y [dI (GK (Dt E K):Nat),.int .u64 (GQ (Dt E K):Nat)] 175;have aQ:=(b.rd.e y2 (λj e=>by subst e;exact⟨aE,ac.1,(b.rd.ne aH Δ Δ Δ).2.1,ah⟩)).below bZ;refine⟨rfl,Z,eZ,(xZ.J 0).M rfl,(xZ.J 1).M rfl,?_⟩;apply(aQ.cz (x:=GQ (Dt E K)) bI).Q;rintro e U⟨rfl,u2⟩;obtain⟨G,e0,x0,k0,s0,b0⟩:=Df U (Dd (Dj 64)) 188;have bV:Bw U (G.setRow U.heap.size (Dd (Dj 64)).toArray):=b0.M ⟨rfl,rfl,rfl,Θ,λj m=>Bc G _ j _ Ω⟩;have aX:=kZ _ _ _ (b.b5.e y2 (λe=>Ω));have aY:=kZ _ _ _ (b.b6.e y2 (λe=>Ω));have aj:Gb U W.heap.size 141 _:=(u2.block _ aX.lt).M aX;have ak:Gb U (W.heap.size+1) 141 _:=(u2.block _ aY.lt).M aY;exact⟨rfl,G,_,e0,x0,rfl,(bV.block _ aj.lt).M aj,(bV.block _ ak.lt).M ak,((aQ.below u2).below bV).no,⟨aI,a2⟩,(((b.e.then y2 (λj _ e => .inr (.inr e))).then (Fr.S (X:=λ_=>False) bZ) (λ_ _ e=>e.elim)).then (Fr.S (X:=λ_=>False) u2) (λ_ _ e=>e.elim)).then (Fr.S (X:=λ_=>False) bV) (λ_ _ e=>e.elim)⟩
 have bd:(Dd (Dj 64)).length=64:=by rw[Dh,JA]
 have bq:=Db bd;have bi:=Db aB;have bf:=Db e1;have bg:=Db e2;clear e1 e2 x1 x2 k1 k2 s1 s2 b1 b2 aw h hD a6 hf hb hq a8 aB a2 bF aa ai ac aG ah aD ag hB aO bd;go_enter func246,ntmps246;go_upto_region 1 with fail;rw[show W.alloc (.cells #[dU p,.int .u8 (A:Nat),dI (fn:Nat),dN] 141)=W1 from Da bf,show W1.alloc (.cells #[dU ⟨#[]⟩,.int .u8 0,dI 0,dN] 141)=W2 from Da bg];have b6:IntKind.i64.wrap (N:Int)=(N:Int):=by rw[AI];omega
 go_wp2_with(go_at_call 240;apply(Da aM).Q;rintro e X⟨rfl,ar⟩);clear aM
 go_loopw [9] (λi wr=>∃k:Nat,k<=K/\i=dI (k:Nat)/\Hid (∃C o w f,Nn W T n0 z O tp tx y F va p A fn B (Q k) (Dt E k) k C (dT o w f) wr)) (λi _=>K-(intOf i).toNat)
 case atStart=>exact⟨0,Ω,rfl,va,none,0,0,Da ar⟩
 case round=>
  obtain⟨k,hk,rfl,HI⟩:=hrel;obtain⟨C,o,w,f,b⟩:=Da HI;have ay:=Da bj _ _ _ _ _ _ b;have c3:=b.b5.ca 3;by_cases ag:k<K
  .obtain⟨X2,VB,aU,hC⟩:=Da bm k ag C o w f wr b;have HC:=Db hC;have bo:=Db aU;have a4:(w:Int)<(N:Int):=(by have:=Da bi k ag;omega);clear hC aU b HI ar ay;go_upto_region 6 with(go_at_call 238;apply(Da HC).Q;rintro e Y⟨rfl,Z,hZ,z0,z1,HT⟩;have HZ:=Db hZ;clear hZ);rw[show Y.alloc (.cells #[dI (P k:Nat),.int .u64 (X2:Nat)] 175)=Z from Da HZ];go_upto_region 7 with(first|(go_at_call 241;apply(Da HT).Q;rintro e U⟨rfl,G,V,al,aq,hV,v2,vp,HP⟩;have az:=Db al;have aA:=Db aq;have HV:=Db hV;clear al aq hV)|(refine JG rfl 188 rfl Ky ?_;rw[show U.alloc (.cells (Dd (Dj 64)).toArray 188)=G from Da az])|(refine Bh rfl 188 _ _ rfl U.heap.size (Dd (B k)).toArray rfl (Da bo) 188 _ (Da aA) (by rw[D4];simp[Da aL k]) (by simp[Da aL k,Dh,JA]) (KI _) ?_;rw[Da HV]));go_upto_region 9 with fail;refine Az (S:=λV=>V.cell? (dQ W.heap.size 2)=some (dI (fn:Nat))/\V.cell? (dQ Y.heap.size 0)=some (dI (P k:Nat))) Φ ⟨v2,vp⟩ (λaN=>?_);refine tk 0 ?_;refine tk 1 ?_;refine tk 2 ?_;refine tk 3 ?_;refine tk 4 ?_;refine tk 5 ?_;refine tk 6 ?_;refine tk 8 ?_;refine tk 9 ?_;refine rk 7 (λK hK=>?_);go_simp;go_at_call 244;apply(Da (Db (Da bn k ag)) _).Q;rintro e w'⟨rfl,bb⟩;rw[bb];clear bb;go_wp2_with fail;refine hK.out _ _ ⟨v2,vp⟩ (λbt=>?_);clear hK K;try simp only[pE]
   refine rk 10 (λK hK=>?_);go_simp;go_at_call 243;apply(Da HP).Q;rintro e I⟨rfl,y1,y2,y3,a5,l5,c5,J,ba,y4,y5,HN⟩;have bl:=Db ba;clear ba;go_wp2_with fail;refine hK.out _ _ ⟨y1,y2⟩ (λbs=>?_);clear hK K;try simp only[pE]
   refine AL Φ ?_ _;clear aN bt bs v2 vp HP HT HC c3 z0 z1;go_upto_region 10 with fail;refine Az (S:=λV=>True) Φ trivial (λaN=>?_);refine tk 0 ?_;refine tk 2 ?_;refine rk 1 (λK hK=>?_);go_simp;refine hK.out _ _ trivial (λbQ=>?_);clear hK K;try simp only[pE]
   refine rk 3 (λK hK=>?_);refine Kl rfl _ _ 59 59 rfl _ _ rfl rfl (Da bl) ?_;refine hK.out _ _ trivial (λbR=>?_);clear hK K;try simp only[pE]
   refine tk 4 ?_;refine rk 5 (λK hK=>?_);go_simp;refine hK.out _ _ trivial (λbS=>?_);clear hK K;try simp only[pE]
   refine AL Φ ?_ _;go_wp2
   go_roundw
   case rel=>
    obtain⟨ad,h3⟩:=Da HN;exact⟨k+1,Ω,by go_num,ad,a5,l5,c5,h3⟩
   case measure=>simp[intOf];omega
  .obtain rfl:k=K:=Ω;rcases AD (64*k) N with bH|ax
   rotate_left
   .obtain⟨aZ,r5,w1,bc,t5,H,HF⟩:=Da bh ax _ _ _ _ _ b;have a4:¬(w:Int)<(N:Int):=Ω;have bp:=Db bc;have bW:N<=w:=Ω;clear b HI ar bc ay;have qf:=r5.A 3;have t0:=t5.ca 0;have t1:=t5.ca 1;have t2:=t5.ca 2;have t3:=t5.ca 3;obtain⟨z0,z1,z2,z3⟩:=H.c3;obtain⟨y0,y1,y2,y3⟩:=H.f3;have HR:=Db (Ke H (dU p) (.int .u8 (A:Nat)) (dI (fn:Nat)) (dT o N f));have bG:¬W.heap.size+1=W.heap.size:=Ω;clear t5 H r5;go_upto_region 12 with fail;rw[show wr.setCell (dQ W.heap.size 3) (dT o N f)=w1 from Da bp];go_wp2;exact Am (v:=.tuple #[.agg #[dU p,.int .u8 (A:Nat),dI (fn:Nat),dT o N f],dV true]) (by simp[results,results246,go_sem,((Da HR).J 0),((Da HR).J 1),((Da HR).J 2),((Da HR).J 3)]) rfl (Da HF)
   .have a4:(w:Int)<(N:Int):=Ω;obtain⟨X2,R,hC⟩:=Da bk Ω C o w f wr b;have HC:=Db hC;clear hC b HI ar ay;go_upto_region 6 with(go_at_call 238;apply(Da HC).Q;rintro e Y⟨rfl,Z,hZ,z0,z1,HT⟩;have HZ:=Db hZ;clear hZ);rw[show Y.alloc (.cells #[dI (R:Nat),.int .u64 (X2:Nat)] 175)=Z from Da HZ];go_upto_region 8 with(first|(go_at_call 241;apply(Da HT).Q;rintro e U⟨rfl,G,V,al,aq,hV,t5,H,HB⟩;have az:=Db al;have aA:=Db aq;have HV:=Db hV;clear al aq hV)|(refine JG rfl 188 rfl Ky ?_;rw[show U.alloc (.cells (Dd (Dj 64)).toArray 188)=G from Da az])|(refine Bh rfl 188 _ _ rfl U.heap.size (Dd (Dj 64)).toArray rfl rfl 188 _ (Da aA) (by rw[D4];simp[Da bq]) Θ (KI _) ?_;rw[Da HV]));have t0:=t5.ca 0;have t1:=t5.ca 1;have t2:=t5.ca 2;have t3:=t5.ca 3;obtain⟨z0,z1,z2,z3⟩:=H.c3;obtain⟨y0,y1,y2,y3⟩:=H.f3;have HR:=Db (Ke H (dU p) (.int .u8 (A:Nat)) (dI (fn:Nat)) (dT o w f));have HF:Hid (Qv W T n0 z O tp tx y F va p A fn B N k (Q k) (Dt E k) (dR (.tuple #[.agg #[dU p,.int .u8 (A:Nat),dI (fn:Nat),dT o w f],dV false])) ((((V.setCell ⟨W.heap.size+1,0,none⟩ (dU p)).setCell ⟨W.heap.size+1,1,none⟩ (.int .u8 (A:Nat))).setCell ⟨W.heap.size+1,2,none⟩ (dI (fn:Nat))).setCell ⟨W.heap.size+1,3,none⟩ (dT o w f))):=(by unfold Qv;rw[if_neg Ω];obtain⟨m1,m2,m4⟩:=Da HB;have f1:Fr (λj=>j=W.heap.size+1) V ((((V.setCell ⟨W.heap.size+1,0,none⟩ (dU p)).setCell ⟨W.heap.size+1,1,none⟩ (.int .u8 (A:Nat))).setCell ⟨W.heap.size+1,2,none⟩ (dI (fn:Nat))).setCell ⟨W.heap.size+1,3,none⟩ (dT o w f)):=((((Fr.refl (λj=>j=W.heap.size+1) V).set ⟨W.heap.size+1,0,none⟩ _ rfl).set ⟨W.heap.size+1,1,none⟩ _ rfl).set ⟨W.heap.size+1,2,none⟩ _ rfl).set ⟨W.heap.size+1,3,none⟩ _ rfl;have m3:=m1.aa.size;exact⟨o,w,f,rfl,m1.step (n:=W.heap.size) ⟨f1.os,f1.tape,f1.output,f1.size,λj m=>f1.block j (by have:=H.lt;omega) (λe=>Ω)⟩ m2.1 m2.2,m4.then f1 (λk hk e=>Ω)⟩);have bG:¬W.heap.size+1=W.heap.size:=Ω;clear t5 H;go_wp2;exact Am (v:=.tuple #[.agg #[dU p,.int .u8 (A:Nat),dI (fn:Nat),dT o w f],dV false]) (by simp[results,results246,go_sem,((Da HR).J 0),((Da HR).J 1),((Da HR).J 2),((Da HR).J 3)]) rfl (Da HF)
def W8(W w0:World)(n0 rb db tp tx fb:Nat)(q:Gg)(va vt:Value)(p:By)(kd fn:Nat)(s':By)(e:Ending)(w':World):Prop:=
 e=dR (.tuple #[.agg #[dU p,.int .u8 (kd:Nat),dI (fn:Nat),dN],dV true])/\Gv w0 n0 rb db tp tx q va vt w'/\GT fb s' vt w'/\Fr (λk=>k=fb) W w'
def QQ(W w0:World)(n0 rb db tp tx fb:Nat)(q:Gg)(va vt:Value)(last p:By)(kd sm fn:Nat)(s5 s6:By)(B:NB)(N K:Nat)(q':Gg)(s':By)(e:Ending)(w':World):Prop:=
 if last.size<sm then e=dR (.tuple #[.agg #[dU ⟨#[]⟩,.int .u8 (kd:Nat),dI 0,dN],dV false])/\II w0 n0 rb w'
 else if kd=1 then W8 W w0 n0 rb db tp tx fb q va vt p kd 0 s5 e w'
 else if kd=3 then W8 W w0 n0 rb db tp tx fb q va vt p kd fn s6 e w'
 else Qv W w0 n0 rb db tp tx fb vt va p kd fn B N K q' s' e w'
theorem ZpA(W y:World)(n0 f t u x:Nat)(q:Gg)(o l:Value)(h:Gv y n0 f t u x q o l W)(c:Nat)(ad:n0<=c)(s s2 s3 s4 M s6:By)(hf:GT c s l W)(hs:s.size<=1000000)(J p:By)(a1:J.size<=1000000)(a C n fn:Nat)(a0:a<256)(aY:a≠0)(a4:C<256)(hn:n<256)(aX:fn<256)(e2:s2=s.extract 1 s.size)(e3:s3=s2.extract 1 s2.size)(e4:s4=s3.extract 1 s3.size)(e5:M=s4.extract n s4.size)(e6:s6=M.extract 1 M.size)(h1:Dx (BL (Dg s 1))=a)(h2:Dx (BL (Dg s2 1))=C)(h3:Dx (BL (Dg s3 1))=n)(h4:J.extract 0 C++Dg s4 n=p)(h5:Dx (BL (Dg M 1))=fn)(B:NB)(N K:Nat)(q':Gg)(s':By)(aA:C<=J.size->a≠1->a≠3->∀V,Gv y n0 f t u x q o l V->GT c s6 l V->Cl 246 #[dP f,dP c,.agg #[dU p,.int .u8 (a:Nat),dI (fn:Nat),dN]] V (Qv V y n0 f t u x c l o p a fn B N K q' s')):
  Cl 203 #[dP f,dP c,dU J] W (QQ W y n0 f t u x c q o l J p a C fn M s6 B N K q' s'):=by
 obtain⟨W1,e1,x1,k1,s1,b1⟩:=Df W [dU ⟨#[]⟩,.int .u8 0,dI 0,dN] 141;obtain⟨aB,ak,O⟩:=h.lt;have ab:=(hf.some h).1;have an:n0<=W.heap.size:=Ae h.sz h.aa.size;have z2:s2.size<=1000000:=by rw[e2,Af];omega
 have z3:s3.size<=1000000:=by rw[e3,Af];omega
 have z4:s4.size<=1000000:=by rw[e4,Af];omega
 have z5:M.size<=1000000:=by rw[e5,Af];omega
 have z6:s6.size<=1000000:=by rw[e6,Af];omega
 have zp:(J.extract 0 C).size+(Dg s4 n).size<=9223372036854775807:=by rw[Af,Jr];omega
 have au:Hid (Cl 240 #[dP c,dI 1] W1 λe X=>e=dR (.int .u64 (a:Nat))/\∃Y,X.alloc (.cells #[dU ⟨#[]⟩,.int .u8 (a:Nat),dI 0,dN] 141)=Y/\Y.cell? (dQ X.heap.size 1)=some (.int .u8 (a:Nat))/\
   Hid (IY W y n0 f t u x c q o l X.heap.size s2 [dU ⟨#[]⟩,.int .u8 (a:Nat),dI 0,dN] Y)):=by
  apply((h.below b1).bz ad (hf.below b1 O) hs 1 Ω).Q;rintro e X⟨rfl,q1,q2,q3⟩;obtain⟨Y,eY,xY,kY,sY,bY⟩:=Df X [dU ⟨#[]⟩,.int .u8 (a:Nat),dI 0,dN] 141;have aP:Gb X W.heap.size 141 _:=x1.e q3 (λe=>Ω);have aR:=q3.size;rw[<-e2]at q2;exact⟨by rw[h1],Y,eY,(xY.J 1).M rfl,q1.below bY,q2.below bY (λk E=>by have:=O k E;omega),kY _ _ _ aP,xY,((Fr.S b1).then q3 (λ_ _ e=>e)).then (Fr.S (X:=λ_=>False) bY) (λ_ _ e=>e.elim),Ω⟩
 have av:Hid (∀d X,IY W y n0 f t u x c q o l d s2 [dU ⟨#[]⟩,.int .u8 (a:Nat),dI 0,dN] X->Cl 240 #[dP c,dI 1] X λe Y=>e=dR (.int .u64 (C:Nat))/\Hid (IY W y n0 f t u x c q o l d s3 [dU ⟨#[]⟩,.int .u8 (a:Nat),dI 0,dN] Y)):=λd X m=>(m.num h ab ad z2).Q λe Y ⟨Z,A⟩=>⟨by rw[Z,h2],by rw[e3];exact A⟩;have aw:Hid (∀d X,IY W y n0 f t u x c q o l d s3 [dU ⟨#[]⟩,.int .u8 (a:Nat),dI 0,dN] X->Cl 240 #[dP c,dI 1] X.drew λe Y=>e=dR (.int .u64 (n:Nat))/\
   Hid (Cl 245 #[dP c,dI (n:Nat)] Y λe U=>e=dR (dS Y.heap.size n n)/\(convert 59 9 (dS Y.heap.size n n)).run prog U=.ok (dU (Dg s4 n)) U/\U.cell? (dQ d 0)=some (dU ⟨#[]⟩)/\U.frozen? (dQ d 0)=false/\∃V,U.setCell (dQ d 0) (dU p)=V/\V.cell? (dQ d 1)=some (.int .u8 (a:Nat))/\
    Hid (IY W y n0 f t u x c q o l d M [dU p,.int .u8 (a:Nat),dI 0,dN] V))):=λd X m=>by
  have aQ:IY W y n0 f t u x c q o l d s3 [dU ⟨#[]⟩,.int .u8 (a:Nat),dI 0,dN] X.drew:=by have hd:Bw X X.drew:=⟨rfl,rfl,rfl,Aa _,λ_ _=>rfl⟩;exact⟨m.rd.below hd,m.fd.below hd (λk E=>by have:=O k E;have:=m.e.size;omega),m.b6,m.bi,⟨m.e.os,m.e.tape,m.e.output,m.e.size,m.e.block⟩,m.lt⟩
  apply(aQ.num h ab ad z3).Q;rintro e Y⟨rfl,A⟩;rw[<-e4]at A;refine⟨by rw[h3],(A.iq ab ad z4 n Ω).Q ?_⟩;rintro e U⟨rfl,u1,u2⟩;rw[<-e5]at u2;have u3:=u2.set h ab 0 (dU p);exact⟨rfl,u1,(u2.bi.J 0).M rfl,u2.bi.A 0,_,rfl,(u3.bi.J 1).M rfl,u3⟩
 have ax:Hid (∀d X,IY W y n0 f t u x c q o l d M [dU p,.int .u8 (a:Nat),dI 0,dN] X->Cl 240 #[dP c,dI 1] X λe Y=>e=dR (.int .u64 (fn:Nat))/\Y.cell? (dQ d 2)=some (dI 0)/\Y.frozen? (dQ d 2)=false/\∃V,Y.setCell (dQ d 2) (dI (fn:Nat))=V/\Gb V d 141 [dU p,.int .u8 (a:Nat),dI (fn:Nat),dN]/\
   Hid (IY W y n0 f t u x c q o l d s6 [dU p,.int .u8 (a:Nat),dI (fn:Nat),dN] V)):=λd X m=>by
  apply(m.num h ab ad z5).Q;rintro e Y⟨rfl,A⟩;rw[<-e6]at A;have r:=A.set h ab 2 (dI (fn:Nat));exact⟨by rw[h5],(A.bi.J 2).M rfl,A.bi.A 2,_,rfl,r.bi,r⟩
 have ag:Hid (∀d X s9 (I:Gf) u0 u1 u2 u3,IY W y n0 f t u x c q o l d s9 I X->Fr (λk=>k=c) W ((((X.setCell (dQ W.heap.size 0) (u0)).setCell (dQ W.heap.size 1) (u1)).setCell (dQ W.heap.size 2) (u2)).setCell (dQ W.heap.size 3) (u3))/\Gv y n0 f t u x q o l ((((X.setCell (dQ W.heap.size 0) (u0)).setCell (dQ W.heap.size 1) (u1)).setCell (dQ W.heap.size 2) (u2)).setCell (dQ W.heap.size 3) (u3))/\GT c s9 l ((((X.setCell (dQ W.heap.size 0) (u0)).setCell (dQ W.heap.size 1) (u1)).setCell (dQ W.heap.size 2) (u2)).setCell (dQ W.heap.size 3) (u3))/\Gb X W.heap.size 141 [dU ⟨#[]⟩,.int .u8 0,dI 0,dN]):=λd X s9 I u0 u1 u2 u3 m=>by have z:Fr (λj=>j=W.heap.size) X ((((X.setCell (dQ W.heap.size 0) (u0)).setCell (dQ W.heap.size 1) (u1)).setCell (dQ W.heap.size 2) (u2)).setCell (dQ W.heap.size 3) (u3)):=((((Fr.refl (λj=>j=W.heap.size) X).set (dQ W.heap.size 0) _ rfl).set (dQ W.heap.size 1) _ rfl).set (dQ W.heap.size 2) _ rfl).set (dQ W.heap.size 3) _ rfl;have aR:=m.e.size;exact⟨m.e.then z (λk E e=>Ω),m.rd.e z (λk e=>by subst e;exact⟨an,Ω,λe=>by have:=ak _ e;omega,λe=>by have:=O _ e;omega⟩),m.fd.e z (λe=>Ω) (λk E e=>by have:=O k E;omega) (λk E=>by have:=O k E;omega),m.b6⟩
 have ar:Hid (C<=J.size->a≠1->a≠3->∀d V,IY W y n0 f t u x c q o l d s6 [dU p,.int .u8 (a:Nat),dI (fn:Nat),dN] V->Cl 246 #[dP f,dP c,.agg #[dU p,.int .u8 (a:Nat),dI (fn:Nat),dN]] V λe U=>∃G P H ok,e=dR (.tuple #[.agg #[dU p,.int .u8 (a:Nat),dI (fn:Nat),dT G P H],dV ok])/\Gb U W.heap.size 141 [dU ⟨#[]⟩,.int .u8 0,dI 0,dN]/\
    Hid (Qv W y n0 f t u x c l o p a fn B N K q' s' (dR (.tuple #[.agg #[dU p,.int .u8 (a:Nat),dI (fn:Nat),dT G P H],dV ok])) ((((U.setCell (dQ W.heap.size 0) (dU p)).setCell (dQ W.heap.size 1) (.int .u8 (a:Nat))).setCell (dQ W.heap.size 2) (dI (fn:Nat))).setCell (dQ W.heap.size 3) (dT G P H)))):=λc1 c2 c3 d V r=>by
  have aW:W.heap.size<=V.heap.size:=r.e.size;apply(aA c1 c2 c3 V r.rd r.fd).Q;intro e U hp;unfold Qv at hp ⊢;by_cases ai:N<=64*K;rw[if_pos ai]at hp;obtain⟨G,H,aD,rfl,p1,p2,p3,p4,p5,p6⟩:=hp;have aa:Gb U W.heap.size 141 _:=r.b6.e p5 (λe=>by rcases e with e|e|e;omega;have:=ak _ e;omega;omega);have aO:=p5.size;refine⟨G,_,H,true,rfl,aa,?_⟩;unfold Hid;rw[if_pos ai];have z:Fr (λj=>j=W.heap.size) U ((((U.setCell (dQ W.heap.size 0) (dU p)).setCell (dQ W.heap.size 1) (.int .u8 (a:Nat))).setCell (dQ W.heap.size 2) (dI (fn:Nat))).setCell (dQ W.heap.size 3) (.slice G ((CB B K).extract 0 N).size H)):=((((Fr.refl (λj=>j=W.heap.size) U).set (dQ W.heap.size 0) _ rfl).set (dQ W.heap.size 1) _ rfl).set (dQ W.heap.size 2) _ rfl).set (dQ W.heap.size 3) _ rfl;have nv:¬Own aD W.heap.size:=λe=>by obtain⟨es,_,q2⟩:=p1.es;obtain⟨R',am⟩:=q2.type e;unfold Gb at aa am;rw[aa]at am;cases am
  refine⟨G,H,aD,rfl,p1.e z (λk e=>by subst e;exact⟨an,Ω,nv,λe=>by have:=O _ e;omega⟩),p2.e z (λe=>Ω) (λk E e=>by have:=O k E;omega) (λk E=>by have:=O k E;omega),p3.e z (λg hg e=>by have:=p4 g hg;omega),λk E=>by have:=p4 k E;have:=r.lt;have:=r.bi.lt;omega,?_,λg hg=>(p6 g hg).imp id (λe=>Ω)⟩;exact((r.e.Q (Y:=λj=>j=f\/Own o j\/j=c) (λj _ e => .inr (.inr e))).then p5 (λ_ _ e=>e)).then z (λk E e=>Ω);rw[if_neg ai]at hp;obtain⟨G,P,H,rfl,p1,p5⟩:=hp;have aa:Gb U W.heap.size 141 _:=r.b6.e p5 (λe=>by rcases e with e|e|e;omega;have:=ak _ e;omega;omega);have aO:=p5.size;refine⟨G,P,H,false,rfl,aa,?_⟩;unfold Hid;rw[if_neg ai];have z:Fr (λj=>j=W.heap.size) U ((((U.setCell (dQ W.heap.size 0) (dU p)).setCell (dQ W.heap.size 1) (.int .u8 (a:Nat))).setCell (dQ W.heap.size 2) (dI (fn:Nat))).setCell (dQ W.heap.size 3) (dT G P H)):=((((Fr.refl (λj=>j=W.heap.size) U).set (dQ W.heap.size 0) _ rfl).set (dQ W.heap.size 1) _ rfl).set (dQ W.heap.size 2) _ rfl).set (dQ W.heap.size 3) _ rfl;refine⟨G,P,H,rfl,p1.step (n:=W.heap.size) ⟨z.os,z.tape,z.output,z.size,λj hj=>z.block j (by have:=aa.lt;omega) (λe=>Ω)⟩ an aB,?_⟩;exact((r.e.Q (Y:=λj=>j=f\/Own o j\/j=c) (λj _ e => .inr (.inr e))).then p5 (λ_ _ e=>e)).then z (λk E e=>Ω)
 have aG:=Db h4;have zq:(Dg s4 n).size<=255:=by rw[Jr];omega
 have aF:=Db e1;have a6:IntKind.u8.wrap (a:Int)=(a:Int):=by rw[IntKind.wrap_u8];omega
 have a7:IntKind.i64.wrap (C:Int)=(C:Int):=by rw[AI];omega
 have a8:IntKind.i64.wrap (n:Int)=(n:Int):=by rw[AI];omega
 have a9:IntKind.i64.wrap (fn:Int)=(fn:Int):=by rw[AI];omega
 have aZ:¬(a:Int)=0:=Ω;clear e1 x1 k1 s1 b1 h hf hs aB ak O h1 h2 h3 h5 h4 z2 z3 z4 z5 z6 e2 e3 e4 e5 e6 aA;go_enter func203,ntmps203;go_upto_region 1 with fail;rw[show W.alloc (.cells #[dU ⟨#[]⟩,.int .u8 0,dI 0,dN] 141)=W1 from Da aF];go_upto_region 2 with(go_at_call 240;apply(Da au).Q;rintro e X⟨rfl,Y,hY,y1,HI⟩;have HY:=Db hY;clear hY au);rw[show X.alloc (.cells #[dU ⟨#[]⟩,.int .u8 (a:Nat),dI 0,dN] 141)=Y from Da HY];go_upto_region 5 with(go_at_call 240;apply(Da av _ _ (Da HI)).Q;rintro e X3⟨rfl,af⟩;clear HI av y1);by_cases al:J.size<C
 .have a2:(J.size:Int)<(C:Int):=Ω;have ah:=Da af;have D:=ah.bi;obtain⟨o1,o2,_,b⟩:=Da ag _ _ _ _ (dU ⟨#[]⟩) (.int .u8 (a:Nat)) (dI 0) dN ah;have R:Hid (QQ W y n0 f t u x c q o l J p a C fn M s6 B N K q' s' (dR (.tuple #[.agg #[dU ⟨#[]⟩,.int .u8 (a:Nat),dI 0,dN],dV false])) ((((X3.setCell (dQ W.heap.size 0) (dU ⟨#[]⟩)).setCell (dQ W.heap.size 1) (.int .u8 (a:Nat))).setCell (dQ W.heap.size 2) (dI 0)).setCell (dQ W.heap.size 3) dN)):=by unfold Hid QQ;rw[if_pos al];exact⟨rfl,o2.no⟩
  have aC:¬W.heap.size=X.heap.size:=by have:=ah.lt;omega
  clear ah o1 o2 af;have t0:=D.ca 0;have t1:=D.ca 1;have t2:=D.ca 2;have t3:=D.ca 3;obtain⟨z0,z1,z2,z3⟩:=b.c3;obtain⟨y0,y1,y2,y3⟩:=b.f3;have F:=Db (Ke b (dU ⟨#[]⟩) (.int .u8 (a:Nat)) (dI 0) dN);clear D b;go_wp2;have r0:=(Da F).J 0;have Z:=(Da F).J 1;have A:=(Da F).J 2;have r:=(Da F).J 3;exact Am (v:=.tuple #[.agg #[dU ⟨#[]⟩,.int .u8 (a:Nat),dI 0,dN],dV false]) (by simp[results,results203,go_sem,r0,Z,A,r]) rfl (Da R)
 have a5:¬(J.size:Int)<(C:Int):=Ω;have a3:C<=J.size:=Ω;go_upto_region 7 with fail;have ay:=Da aw _ _ (Da af);have ap:=Db ay;clear ay aw af;refine Az (S:=λV=>True) Φ trivial (λaN=>?_);refine tk 0 ?_;refine tk 1 ?_;refine tk 2 ?_;refine tk 3 ?_;refine tk 4 ?_;refine rk 5 (λK L=>?_);go_simp;go_at_call 240;apply(Da ap).Q;rintro e X4⟨rfl,ao⟩;go_wp2_with fail;refine L.out _ _ trivial (λaK=>?_);clear L K;try simp only[pE]
 refine tk 6 ?_;refine rk 7 (λK L=>?_);go_simp;go_at_call 245;apply(Da ao).Q;rintro e U⟨rfl,aS,u0,u1,V,hV,v1,HV⟩;go_wp2_with fail;refine L.out _ _ trivial (λaL=>?_);clear L K;try simp only[pE]
 refine rk 8 (λK L=>?_);go_simp;refine L.out _ _ trivial (λaM=>?_);clear L K;try simp only[pE]
 refine A4 (i:=9) (v:=dU p) rfl Φ Φ Φ (λ_ _ _ h=>h) (Or.inl ⟨by rfl,by intro w aV;go_simp;rw[if_neg Ω,Da aG]⟩) Ψ ?_;try simp only[pE]
 refine tk 10 ?_;refine rk 11 (λK L=>?_);go_simp;refine L.out _ _ trivial (λaJ=>?_);clear L K;try simp only[pE]
 refine AL Φ ?_ _;clear aN aK aL aM aJ u0 u1 aS ao ap;by_cases ae:a=1
 .have aT:(a:Int)=1:=Ω;have T:=Da HV;have D:=T.bi;obtain⟨o1,o2,o3,b⟩:=Da ag _ _ _ _ (dU p) (.int .u8 (a:Nat)) (dI 0) dN T;have R:Hid (QQ W y n0 f t u x c q o l J p a C fn M s6 B N K q' s' (dR (.tuple #[.agg #[dU p,.int .u8 1,dI 0,dN],dV true])) ((((V.setCell (dQ W.heap.size 0) (dU p)).setCell (dQ W.heap.size 1) (.int .u8 1)).setCell (dQ W.heap.size 2) (dI 0)).setCell (dQ W.heap.size 3) dN)):=by unfold Hid QQ;rw[if_neg al,if_pos ae];subst ae;exact⟨rfl,o2,o3,o1⟩
  have aC:¬W.heap.size=X.heap.size:=by have:=T.lt;omega
  clear T o1 o2 o3 HV;have t0:=D.ca 0;have t1:=D.ca 1;have t2:=D.ca 2;have t3:=D.ca 3;obtain⟨z0,z1,z2,z3⟩:=b.c3;obtain⟨y0,y1,y2,y3⟩:=b.f3;have F:=Db (Ke b (dU p) (.int .u8 1) (dI 0) dN);clear D b;go_wp2;have r0:=(Da F).J 0;have Z:=(Da F).J 1;have A:=(Da F).J 2;have r:=(Da F).J 3;exact Am (v:=.tuple #[.agg #[dU p,.int .u8 1,dI 0,dN],dV true]) (by simp[results,results203,go_sem,r0,Z,A,r]) rfl (Da R)
 have aT:¬(a:Int)=1:=Ω;have aq:=Db (Da ax _ _ (Da HV));clear hV HV ax;go_upto_region 11 with(go_at_call 240;apply(Da aq).Q;rintro e X5⟨rfl,f0,z,V5,az,ac,R⟩;have aH:=Db az;clear az);rw[show X5.setCell (dQ X.heap.size 2) (dI (fn:Nat))=V5 from Da aH];clear f0 z v1 aq;by_cases aj:a=3
 .have aU:(a:Int)=3:=Ω;have T:=Da R;have D:=T.bi;obtain⟨o1,o2,o3,b⟩:=Da ag _ _ _ _ (dU p) (.int .u8 (a:Nat)) (dI (fn:Nat)) dN T;have R:Hid (QQ W y n0 f t u x c q o l J p a C fn M s6 B N K q' s' (dR (.tuple #[.agg #[dU p,.int .u8 3,dI (fn:Nat),dN],dV true])) ((((V5.setCell (dQ W.heap.size 0) (dU p)).setCell (dQ W.heap.size 1) (.int .u8 3)).setCell (dQ W.heap.size 2) (dI (fn:Nat))).setCell (dQ W.heap.size 3) dN)):=by unfold Hid QQ;rw[if_neg al,if_neg ae,if_pos aj];subst aj;exact⟨rfl,o2,o3,o1⟩
  have aC:¬W.heap.size=X.heap.size:=by have:=T.lt;omega
  clear T o1 o2 o3 ac;have t0:=D.ca 0;have t1:=D.ca 1;have t2:=D.ca 2;have t3:=D.ca 3;obtain⟨z0,z1,z2,z3⟩:=b.c3;obtain⟨y0,y1,y2,y3⟩:=b.f3;have F:=Db (Ke b (dU p) (.int .u8 3) (dI (fn:Nat)) dN);clear D b;go_wp2;have r0:=(Da F).J 0;have Z:=(Da F).J 1;have A:=(Da F).J 2;have r:=(Da F).J 3;exact Am (v:=.tuple #[.agg #[dU p,.int .u8 3,dI (fn:Nat),dN],dV true]) (by simp[results,results203,go_sem,r0,Z,A,r]) rfl (Da R)
 have aU:¬(a:Int)=3:=Ω;have g0:=ac.ca 0;have g1:=ac.ca 1;have g2:=ac.ca 2;have g3:=ac.ca 3;have aE:=Db (Da ar Ω ae aj _ _ (Da R));clear ac R ar ag;go_upto_region 13 with fail;go_wp2_with(go_at_call 246;apply(Da aE).Q;rintro e U2⟨G,P,H,ok,rfl,Q,HP⟩;obtain⟨z0,z1,z2,z3⟩:=Q.c3;obtain⟨y0,y1,y2,y3⟩:=Q.f3;have aI:=Db Q;clear Q);have hR:=Ke (Da aI) (dU p) (.int .u8 (a:Nat)) (dI (fn:Nat)) (dT G P H);obtain⟨r0,Z,A,r⟩:=hR.c3;refine Am (v:=.tuple #[.agg #[dU p,.int .u8 (a:Nat),dI (fn:Nat),dT G P H],dV ok]) (by simp[results,results203,go_sem,r0,Z,A,r]) rfl ?_;unfold QQ;rw[if_neg al,if_neg ae,if_neg aj];exact Da HP
