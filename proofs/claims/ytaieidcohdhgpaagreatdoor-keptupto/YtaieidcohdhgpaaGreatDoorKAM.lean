/- Kept. -/
import Derived.Test.YtaieidcohdhgpaaGreatDoorKAL
import Derived.Lib.SlBytesRow
import Derived.Lib.BufferRead
namespace Go.Proofs.YtaieidcohdhgpaaGreatDoor
variable{p s:By}{R:Gf}{q:Gg}{G:Gh}{C:IB}{ρ:Int->Nat}{I:LF}{F F':LY}{L L':List (By×Int)}{a b c d f i j k l m n rb tb vb:Nat}{X Z:Nat->Prop}{t:TypeId}{r:VF}{u:VS}{g v:Value}{W w:World}
set_option maxHeartbeats 40000000
set_option maxRecDepth 100000
set_option linter.all false
open Go.RowKit
def BL(s:By):List UInt8:=s.data.toList
theorem Jn(s:By):(BL s).length=s.size:=AF
theorem Kg(a b:By):BL (a++b)=BL a++BL b:=by rfl
theorem Km(s:By)(i j:Nat):BL (s.extract i j)=((BL s).drop i).take (j-i):=by grind [BL,Lib.extract_data]
theorem K5{a b:By}(h:BL a=BL b):a=b:=by grind [WideShapes.bytes_inj,BL]
theorem Ub(s:By)(n:Nat):BL (Dg s n)=(BL s++List.replicate n 0).take n:=by
 unfold Dg;split;simp_all[Km,List.drop_zero,Nat.sub_zero,List.take_append_of_le_length,Jn];rw[Kg];have e:BL (⟨(List.replicate (n-s.size) 0).toArray⟩)=List.replicate (n-s.size) 0:=by unfold BL;simp
 rw[e,BU,Ak (by rw[Jn];omega),Jn,BQ];congr 2;omega
theorem Ro(T:By):∀j,BL (Dt T j)=(BL T).drop (10*j)
 |0=>by simp[Dt]
 |j+1=>by unfold Dt;rw[Km,Ro T j,Ak (by rw[AN,AN,Jn,Va];omega),F6];congr 1
theorem Td(s:By)(h:2<=s.size):GK s=Dx ((BL s).take 2):=by show Dx (BL (Dg s 2))=_;rw[Ub,A0 (by exact h)]
theorem WS(s:By)(h:10<=s.size):GQ s=Dx (((BL s).drop 2).take 8):=by
 show Dx (BL (Dg (s.extract 2 s.size) 8))=_;have e:BL (s.extract 2 s.size)=(BL s).drop 2:=by simp_all[Km,List.take_of_length_le,List.length_drop,Jn]
 rw[Ub,e,A0 (by rw[AN,Jn];omega)]
def Ja(f:Nat->List UInt8):Nat->List UInt8
 |0=>[]
 |n+1=>Ja f n++f n
theorem UE{f:Nat->List UInt8}{m:Nat}(a:∀k,(f k).length=m):∀n,(Ja f n).length=m*n
 |0=>by simp[Ja]
 |n+1=>by unfold Ja;rw[Ah,UE a n,a,Nat.mul_succ]
theorem OT{f:Nat->List UInt8}{m:Nat}(a:∀k,(f k).length=m):∀(n k:Nat),k<n->((Ja f n).drop (m*k)).take m=f k
 |0,k,h=>by omega
 |n+1,k,h=>by
  unfold Ja;have b:=UE a n;by_cases e:k=n;grind;have hk:m*k+m<=m*n:=by rw[<-Nat.mul_succ];exact CJ m Ω
  rw[EA Ω,A0 (by rw[AN,b];omega)];exact OT a n k Ω
def Ji(p x:Nat):List UInt8:=DM p 2++DM x 8
theorem Qe(p x:Nat):(Ji p x).length=10:=by rfl
theorem Xa(p x:Nat):BL (D7 p x)=Ji p x:=by rfl
theorem Tc(a:UInt8)(s:By)(b i:Nat):BL (DW (Dy a s b i))=(BL (LC s b i)++List.replicate 63 0).take 63:=by unfold DW Dy;rw[Km,Kg,show BL (⟨#[a]⟩)=[a] from rfl];rw[show([a]++BL _).drop 1=BL (Dg (LC s b i) 63) from rfl,Ak (by simp_all[Jn,Jr]),Ub]
theorem ref_at{b:By}{f:Nat->List UInt8}(a:∀k,(f k).length=10)(d:BL b=Ja f n)(i j:Nat)(hj:j<6):
  (BL (Dt (DW (Dy 2 b 60 i)) j)).take 10=if 6*i+j<n then f (6*i+j) else List.replicate 10 0:=by
 have hl:=UE a n;rw[Ro,Tc];unfold LC;rw[Km,d,show i*60+60-i*60=60 by omega];rw[F5,Cj,show min 10 (63-10*j)=10 by omega];by_cases h:6*i+j<n;rw[if_pos h,<-OT a n _ h];have aa:10*j+10<=(((Ja f n).drop (i*60)).take 60).length:=Γ;rw[EA Ω,A0 (by rw[AN];omega),F5,F6,Cj,show min 10 (60-10*j)=10 by omega,show i*60+10*j=10*(6*i+j) by omega];have c:(((Ja f n).drop (i*60)).take 60).length<=10*j:=Γ;rw[FL,EF c,AH,Eu,BQ];grind
theorem T3{a:By}{P X:Nat->Nat}(e:∀k,P k<65536)(f:∀k,X k<18446744073709551616)(m:BL a=Ja (λk=>Ji (P k) (X k)) n)(i j:Nat)(g:j<6):
  GK (Dt (DW (Dy 2 a 60 i)) j)=(if 6*i+j<n then P (6*i+j) else 0)/\GQ (Dt (DW (Dy 2 a 60 i)) j)=(if 6*i+j<n then X (6*i+j) else 0):=by
 have b:=ref_at (λk=>Qe _ _) m i j g;have aa:(Dt (DW (Dy 2 a 60 i)) j).size=63-10*j:=by grind [Va,DW,Dy,ByteArray.size_extract,UW]
 rw[Td _ Ω,WS _ Ω];generalize BL (Dt (DW (Dy 2 a 60 i)) j)=l at b ⊢
 have c:l.take 2=(l.take 10).take 2:=Γ;have d:(l.drop 2).take 8=(l.take 10).drop 2:=by rw[F5]
 rw[c,d,b];by_cases h:6*i+j<n;simp only[if_pos h];unfold Ji;rw[Ce (Js 2 _),EO (Js 2 _),K8 2 _ (e _),K8 8 _ (f _)];exact⟨rfl,rfl⟩;simp only[if_neg h];exact⟨rfl,rfl⟩
structure Rows(D:LY)(R:NB)(N:Nat->Nat)(P X:Nat->Nat->Nat)(B:Nat):Prop where
 b8:B<8
 n0:N 0=((R 0).size+63-1)/63
 nn:∀b,b<B->N (b+1)=(10*N b+60-1)/60
 rr:∀b,b<B->BL (R (b+1))=Ja (λk=>Ji (P b k) (X b k)) (N b)
 top:N B=1
 d0:∀i,i<N 0->D[P 0 i]?=some (Dy 3 (R 0) 63 i)
 d1:∀b,b<B->∀i,i<N (b+1)->D[P (b+1) i]?=some (Dy 2 (R (b+1)) 60 i)
 pl:∀b i,b<=B->i<N b->16<=P b i/\P b i<1536
 px:∀b k,P b k<65536/\X b k<18446744073709551616
 inj:∀b i b' i',b<=B->b'<=B->i<N b->i'<N b'->P b i=P b' i'->b=b'/\i=i'
 ns:∀b,b<=B->N b<=1000
def Dz(b k:Nat):Nat:=De (if b=0 then 3 else 2) b k
theorem Zb(h1:b<60000)(h2:a<60000)(h3:k<60000)(h4:c<60000)(h:Dz b k=Dz a c):b=a/\k=c:=by grind [Dz,De]
def KO(f:Nat->Nat):Nat->Nat
 |0=>0
 |n+1=>KO f n+f n
theorem XJ{f g:Nat->Nat}:∀n,(∀k,k<n->f k<=g k)->KO f n<=KO g n
 |0,_=>Aa _
 |n+1,h=>Nat.add_le_add (XJ n Γ) Γ
theorem XK(f:Nat->Nat)(b:Nat):∀n,KO (λk=>if k=b then f b+1 else f k) n=KO f n+if b<n then 1 else 0
 |0=>rfl
 |n+1=>by unfold KO;rw[XK f b n];grind
theorem VE(c:Nat):∀n,KO (λ_=>c) n=c*n
 |0=>rfl
 |n+1=>by unfold KO;rw[VE c n,Nat.mul_succ]
structure GW(N:Nat->Nat)(P:Nat->Nat->Nat)(ch:Nat->List UInt8)(B c:Nat)(q:Gg):Prop where
 g1:∀y∈q.a4,∃b k,b<=B/\k<q.tn b/\y=(Dz b k,P b k)
 g6:∀b k,b<=B->k<q.tn b->(Dz b k,P b k)∈q.a4
 g2:∀p,q.tk p=true->(∃b k,b<=B/\k<q.tn b/\p=P b k)\/∃b,c<=b/\b<=B/\q.tn b<N b/\p=P b (q.tn b)
 g3:∀b,b<=B->q.tn b<=N b
 g5:BL q.t=Ja ch (q.tn 0)
 g7:q.a4.length=KO q.tn (B+1)
section
variable{D:LY}{R:NB}{N:Nat->Nat}{P X:Nat->Nat->Nat}{B:Nat}{ch:Nat->List UInt8}
theorem GW.fresh(f:Rows D R N P X B)(g:b<=B)(h:GW N P ch B (b+1) q)(i:q.tn b<N b):q.tk (P b (q.tn b))=false:=by
 cases e:q.tk (P b (q.tn b)) with
 |false=>rfl
 |true=>
  rcases h.g2 _ e with⟨j,k,a,c,d⟩|⟨j,a,c,d,l⟩;obtain⟨rfl,h5⟩:=f.inj _ _ _ _ g a i (As c (h.g3 _ a)) d;omega;obtain⟨rfl,_⟩:=f.inj _ _ _ _ g c i d l;omega
theorem GW.take(_hR:Rows D R N P X B)(d:b<=B)(h:GW N P ch B (b+1) q)(f:q.tn b<N b):GW N P ch B b (q.take (P b (q.tn b))):=
 ⟨h.g1,h.g6,λp g=>by
  by_cases e:p=P b (q.tn b);exact .inr ⟨b,Aa _,d,f,e⟩;have i:q.tk p=true:=by have aa:(if p=P b (q.tn b) then true else q.tk p)=true:=g;simp_all
  exact(h.g2 p i).imp id (λ⟨a,h1,c⟩=>⟨a,Ω,c⟩),h.g3,h.g5,h.g7⟩
theorem GW.done(_hR:Rows D R N P X B)(hb:b<=B)(h:GW N P ch B b q)(hi:q.tn b<N b)(f:By)(ht:BL f=Ja ch (if 0=b then q.tn b+1 else q.tn 0)):
  GW N P ch B (b+1) ((({ q with t:=f }:Gg).put (Dz b (q.tn b)) (P b (q.tn b))).a5 b):=by
 have j:∀k,((({ q with t:=f }).put (Dz b (q.tn b)) (P b (q.tn b))).a5 b).tn k=if k=b then q.tn b+1 else q.tn k:=λ_=>rfl;have i:((({ q with t:=f }).put (Dz b (q.tn b)) (P b (q.tn b))).a5 b).a4=q.a4++[(Dz b (q.tn b),P b (q.tn b))]:=rfl;refine⟨λy l=>?_,λa k c d=>?_,λp m=>?_,λa c=>?_,?_,?_⟩;rw[i]at l;rcases Al.1 l with e|e;obtain⟨a,k,c,d,g⟩:=h.g1 y e;grind;grind;rw[j]at d;by_cases e:a=b;subst e;rw[if_pos rfl]at d;by_cases e2:k=q.tn a;simp_all;exact Ba _ (h.g6 a k c Ω);rw[if_neg e]at d;exact Ba _ (h.g6 a k c d);rcases h.g2 p m with⟨a,k,c,d,g⟩|⟨a,c,d,g,h4⟩;grind;grind;rw[j];split;grind;exact h.g3 a c;show BL f=Ja ch (if 0=b then q.tn b+1 else q.tn 0);omega;rw[i,Ah,h.g7];show _=KO (λk=>if k=b then q.tn b+1 else q.tn k) (B+1);rw[XK,if_pos Ω];rfl
def Lo(f:Nat->Gg->Gg)(a:Nat):Nat->Gg->Gg
 |0,q=>q
 |m+1,q=>f (a+m) (Lo f a m q)
def JY(N:Nat->Nat)(P:Nat->Nat->Nat)(cb:NB):Nat->Nat->Gg->Gg
 |0,i,q=>(((q.take (P 0 i)).au (cb i)).put (De 3 0 (q.tn 0)) (P 0 i)).a5 0
 |b+1,i,q=>(((Lo (JY N P cb b) (6*i) (min 6 (N b-6*i)) (q.take (P (b+1) i))).put (De 2 (b+1) ((Lo (JY N P cb b) (6*i) (min 6 (N b-6*i)) (q.take (P (b+1) i))).tn (b+1))) (P (b+1) i)).a5 (b+1))
def L4(N:Nat->Nat)(b i:Nat)(q:Gg):Prop:=q.tn b=i/\∀b',b'<b->q.tn b'=min (6 ^ (b-b')*i) (N b')
theorem Rows.fm(a:Rows D R N P X B):∀(d b:Nat),b+d<=B->N b<=6 ^ d*N (b+d)
 |0,b,_=>by simp
 |d+1,b,h=>by have:=a.nn (b+d) Ω;rw[FB,FN];refine Ae (Rows.fm a d b Ω) (CJ _ ?_);grind
theorem VA(c:Rows D R N P X B){cb:NB}(p:∀i,BL (cb i)=ch i):∀(b:Nat),b<=B->∀(i:Nat) (q:Gg),i<N b->GW N P ch B (b+1) q->L4 N b i q->
  GW N P ch B (b+1) (JY N P cb b i q)/\L4 N b (i+1) (JY N P cb b i q)/\∀a,b<a->(JY N P cb b i q).tn a=q.tn a
 |0,hb,i,q,hi,h,ht=>by
  have j:=ht.1;have n:q.tn 0<N 0:=Ω;have l:=(GW.take c hb h n).done c hb n (q.t++cb i) (by rw[Kg,h.g5,p,if_pos rfl];show _=Ja ch (q.tn 0+1);rw[j];rfl);have k:JY N P cb 0 i q=(({ (q.take (P 0 (q.tn 0))) with t:=q.t++cb i }).put (Dz 0 ((q.take (P 0 (q.tn 0))).tn 0)) (P 0 ((q.take (P 0 (q.tn 0))).tn 0))).a5 0:=by show(((q.take (P 0 i)).au (cb i)).put (De 3 0 (q.tn 0)) (P 0 i)).a5 0=_;rw[<-j];rfl
  rw[k];refine⟨l,⟨?_,Ω⟩,λa d=>?_⟩;show(if (0)=0 then q.tn 0+1 else q.tn 0)=_;simp_all;show(if a=0 then q.tn 0+1 else q.tn a)=_;grind
 |b+1,hb,i,q,hi,h,ht=>by
  have j:=ht.1;have n:q.tn (b+1)<N (b+1):=Ω;have aa:=c.nn b Ω;have h6:6*i<N b:=Ω;have s:L4 N b (6*i) (q.take (P (b+1) i)):=by refine⟨?_,λa d=>?_⟩;show q.tn b=_;rw[ht.2 b Ω,show b+1-b=1 by omega];omega;show q.tn a=_;rw[ht.2 a Ω,show b+1-a=b-a+1 by omega,FB,FN]
  have r:GW N P ch B (b+1) (q.take (P (b+1) i)):=by grind [GW.take]
  have y:∀m,m<=min 6 (N b-6*i)->GW N P ch B (b+1) (Lo (JY N P cb b) (6*i) m (q.take (P (b+1) i)))/\L4 N b (6*i+m) (Lo (JY N P cb b) (6*i) m (q.take (P (b+1) i)))/\∀a,b<a->(Lo (JY N P cb b) (6*i) m (q.take (P (b+1) i))).tn a=q.tn a:=λm=>by
   induction m with
   |zero=>exact λ_=>⟨r,s,λa _=>rfl⟩
   |succ m ih=>
    intro u;obtain⟨f,g,o⟩:=ih Ω;obtain⟨v,w,x⟩:=VA c p b Ω _ _ Ω f g;exact⟨v,w,λa d=>(x a d).M (o a d)⟩
  obtain⟨f,g,o⟩:=y _ (Aa _);generalize hq2:Lo (JY N P cb b) (6*i) (min 6 (N b-6*i)) (q.take (P (b+1) i))=q2 at f g o
  have e2:q2.tn (b+1)=i:=Γ;have l:=f.done c hb Ω _ (by rw[f.g5,if_neg Ω]);have k:JY N P cb (b+1) i q=((({ q2 with t:=q2.t }).put (Dz (b+1) (q2.tn (b+1))) (P (b+1) (q2.tn (b+1)))).a5 (b+1)):=by show((_:Gg).put _ (P _ i)).a5 _=_;simp_all[Dz]
  rw[k];refine⟨l,⟨?_,λa d=>?_⟩,λa d=>?_⟩;show(if b+1=b+1 then q2.tn (b+1)+1 else q2.tn (b+1))=_;simp_all;show(if a=b+1 then q2.tn (b+1)+1 else q2.tn a)=_;rw[if_neg Ω];by_cases e:a=b;subst e;rw[g.1,show a+1-a=1 by omega];omega;rw[g.2 a Ω,show b+1-a=b-a+1 by omega,FB,FN];by_cases u:6*(i+1)<=N b;rw[show 6*i+min 6 (N b-6*i)=6*(i+1) by omega];have hg:=c.fm (b-a) a Ω;grind [min,Nat.mul_le_mul_left,Nat.min_eq_right,Nat.le_trans];show(if a=b+1 then q2.tn (b+1)+1 else q2.tn a)=_;grind
end
theorem Zp0(a:UInt8)(s:By)(b i:Nat):(Dy a s b i).data[0]?=some a:=by rfl
section
variable{D:LY}{R:NB}{N:Nat->Nat}{P X:Nat->Nat->Nat}{B:Nat}{ch:Nat->List UInt8}
theorem ZrC(c:Rows D R N P X B){cb:NB}(j:∀i,BL (cb i)=ch i)(g:b+1<=B)(hi:i<N (b+1))(h:GW N P ch B (b+2) q)(e:L4 N (b+1) i q):
  6*i<N b/\∀m,m<=min 6 (N b-6*i)->GW N P ch B (b+1) (Lo (JY N P cb b) (6*i) m (q.take (P (b+1) i)))/\L4 N b (6*i+m) (Lo (JY N P cb b) (6*i) m (q.take (P (b+1) i)))/\∀a,b<a->(Lo (JY N P cb b) (6*i) m (q.take (P (b+1) i))).tn a=q.tn a:=by
 have f:q.tn (b+1)=i:=e.1;have k:q.tn (b+1)<N (b+1):=Ω;have aa:=c.nn b Ω;refine⟨Ω,λm=>?_⟩
 induction m with
 |zero=>
  refine λ_=>⟨by rw[<-f];exact GW.take c g h k,⟨?_,λa d=>?_⟩,λa _=>rfl⟩;show q.tn b=_;rw[e.2 b Ω,show b+1-b=1 by omega];omega;show q.tn a=_;rw[e.2 a Ω,show b+1-a=b-a+1 by omega,FB,FN,Ep]
 |succ m ih=>
  intro hm;obtain⟨p,r,s⟩:=ih Ω;obtain⟨l,n,o⟩:=VA c j b Ω (6*i+m) _ Ω p r;exact⟨l,n,λa d=>(o a d).M (s a d)⟩
def LX(R:NB)(i:Nat):By:=DW (Dy 3 (R 0) 63 i)
end
def GT(fb:Nat)(s:By)(vt:Value)(W:World):Prop:=
 ∃a l c,Gb W fb 287 [dT a l c]/\GL W a l c s/\l<=c/\∀x,a=some x->Own vt x.block
theorem GT.e{b:Value}{f:World}(h:GT d s b W)(g:Fr Z W f)(n:¬Z d)(o:∀k,Own b k->¬Z k)(q:∀k,Own b k->k<W.heap.size):GT d s b f:=by obtain⟨a,l,c,t,e,u,m⟩:=h;refine⟨a,l,c,t.e g n,?_,u,m⟩;refine⟨e.1,e.2.1,λj v r=>?_⟩;obtain⟨x,i,p⟩:=e.2.2 j v r;have ho:=m x i;exact⟨x,i,(AA (by rw[Addr.ag];exact g.block _ (q _ ho) (o _ ho))).M p⟩
theorem GT.below{a:Value}{b:World}(h:GT c s a W)(d:Bw W b)(f:∀k,Own a k->k<W.heap.size):GT c s a b:=h.e (Z:=λ_=>False) (Fr.S d) (λe=>e) Γ f
theorem GT.post{d:Value}{b:World}{a:OA}{e:Ending}(h3:∀x,a=some x->Own d x.block)(h:U9 W c a l s n v e b):GT c (s.extract n s.size) d b:=by obtain⟨_,f,g,i,j,k,r4,_⟩:=h;exact⟨f,l-n,g,i,j,k,Γ⟩
theorem GT.bz(h:GT b s g W)(hv:¬Own g b)(hs:s.size<=2000000)(n:Nat)(j:n<=8):
  Cl 240 #[dP b,dI (n:Nat)] W λe d=>e=dR (.int .u64 (Dx (BL (Dg s n)):Nat))/\GT b (s.extract n s.size) g d/\Fr (λk=>k=b) W d:=by
 obtain⟨a,l,c,m,i,o,p⟩:=h;have hl:=i.1;apply(Sh W b a l c s m i o Γ n j Ω).Q;intro e d f;exact⟨f.1,GT.post p f,f.2.choose_spec.choose_spec.2.2.2.2⟩
theorem GT.dw(h:GT b s g W)(hv:¬Own g b)(hs:s.size<=2000000):
  Cl 238 #[dP b] W λe d=>e=dR (.agg #[dI (GK s:Nat),.int .u64 (GQ s:Nat)])/\GT b (s.extract 10 s.size) g d/\Fr (λk=>k=b) W d:=by
 obtain⟨a,l,c,j,i,m,n⟩:=h;have hl:=i.1;apply(RC W b a l c s j i m Γ Ω).Q;intro e d f;exact⟨f.1,GT.post n f,f.2.choose_spec.choose_spec.2.2.2.2⟩
def QM(d:By):NB
 |0=>⟨#[]⟩
 |k+1=>QM d k++GN d k
theorem Zir(d:By):∀k,(QM d k).size=64*k
 |0=>rfl
 |k+1=>by unfold QM;rw[Aj,Zir d k,OZ];omega
theorem BL_dtB(d:By)(k:Nat):BL (GN d k)=(((BL d).drop (64*k)).take 64++List.replicate 64 0).take 64:=by grind [GN,LC,Ub,Km,Nat.mul_comm]
theorem YE(d:By):∀k,(BL (QM d k)).take d.size=(BL d).take (64*k)
 |0=>by simp[QM,BL]
 |k+1=>by
  unfold QM;rw[Kg,BU,(YE d k),Jn,Zir,BL_dtB];by_cases h:64*k<=d.size;have b:((BL d).drop (64*k)).length=d.size-64*k:=by rw[AN,Jn]
  rw[Cj];have a:((((BL d).drop (64*k)).take 64++List.replicate 64 (0)).take (min (d.size-64*k) 64))=((BL d).drop (64*k)).take 64:=by rw[A0 (by rw[AP,b];omega),Cj];by_cases h2:d.size-64*k<=64;rw[show min (min (d.size-64*k) 64) 64=d.size-64*k by omega,Ak Ω,Ak Ω];rw[show min (min (d.size-64*k) 64) 64=64 by omega]
  rw[a,show 64*(k+1)=64*k+64 by omega,List.take_add];rw[show d.size-64*k=0 by omega,Cy,Ca,Ak (by rw[Jn];omega),Ak (by rw[Jn];omega)]
theorem ZpX(d:By):(BL (QM d (GE d))).take d.size=BL d:=by rw[YE,Ak (by grind [Jn,GE])]
def Qf(q:Gg)(fn:Nat)(P:Nat->Nat):Nat->Gg
 |0=>q
 |k+1=>((Qf q fn P k).take (P k)).put (De 4 fn k) (P k)
theorem GD.cut{a:OA}{d:By}(h:GD b w (dT a l c) s)(hd:d.size<=s.size)(j:(BL s).take d.size=BL d):Sl w 5 1 (dT a d.size c) d.size (Dd d):=by
 refine⟨by grind [Dh],?_⟩;rcases h.1.2 with⟨e,h0⟩|⟨g,aa,L,e,f,q1,k,m,n⟩;simp_all;cases e;refine .inr ⟨g,c,L,rfl,f,Ω,k,m,?_⟩;have i:Dd d=(Dd s).take d.size:=by unfold Dd BL at *;rw[<-List.map_take,j]
 rw[i,<-n,Cj];congr 1;omega
open Tryz
abbrev FR:=@Go.Lib.run_convert_nil_bytes
theorem ZrN{a:OA}(h:Sl W 5 1 (dT a m c) m (Dd s))(d:m=s.size):(convert 59 9 (dT a m c)).run prog W=.ok (dU s) W:=by
 rcases h.2 with⟨e,h0⟩|⟨g,aa,R,e,j,ac,ab,hl,ht⟩;obtain⟨rfl,rfl,rfl⟩:=e;rw[FR W 59 9 5 0 underlying59 underlying5 underlying9];congr 2;apply ByteArray.ext;exact(Array.size_eq_zero_iff.1 d.r).r;obtain⟨rfl,-,rfl⟩:=e;subst d;refine Go.Lib.run_convert_whole W 59 5 9 underlying59 underlying5 underlying9 g 0 s (λi f=>?_) c;rw[Av,j.J];have b:(R.take (s.size*1))[i]?=(Dd s)[i]? := by grind
 rw[Ej Ω]at b;rw[b];unfold Dd;rw[A8,Ec,Eh f];rfl
theorem GT.some{d:Value}(h:GT b s d W){m:World}{n0 e g:Nat}{f:Value}(i:Gv m n0 e g j k q f d W):b<W.heap.size/\b≠e/\¬Own f b/\¬Own d b:=by obtain⟨a,l,c,r,_⟩:=h;have:=i.ne r Δ Δ Δ;exact⟨r.lt,this⟩
theorem Gv.bz{o:World}{n0:Nat}{m c:Value}(h:Gv o n0 i d j l q m c W)(aa:n0<=a)(f:GT a s c W)(hs:s.size<=1000000)(n:Nat)(r:n<=8):
  Cl 240 #[dP a,dI (n:Nat)] W λe b=>e=dR (.int .u64 (Dx (BL (Dg s n)):Nat))/\Gv o n0 i d j l q m c b/\GT a (s.extract n s.size) c b/\Fr (λk=>k=a) W b:=by
 obtain⟨_,h1,h2,p⟩:=f.some h;apply(f.bz p Ω n r).Q;rintro e b⟨rfl,t,g⟩;exact⟨rfl,h.e g Γ,t,g⟩
def Xc(W w0:World)(n0 rb db tp tx fb:Nat)(q:Gg)(va vt:Value)(s':By)(e:Ending)(w':World):Prop:=
 e=dR (.tuple #[.agg #[dU ⟨#[]⟩,.int .u8 0,dI 0,dN],dV true])/\Gv w0 n0 rb db tp tx q va vt w'/\GT fb s' vt w'/\Fr (λk=>k=fb) W w'
theorem ZpB(W v:World)(n0 i m r t:Nat)(q:Gg)(u d:Value)(h:Gv v n0 i m r t q u d W)(c:Nat)(J:n0<=c)(s:By)(o:GT c s d W)(z:s.size<=1000000)(H:Dx (BL (Dg s 1))=0)(P:By):
  Cl 203 #[dP i,dP c,dU P] W (Xc W v n0 i m r t c q u d (s.extract 1 s.size)):=by
 obtain⟨F,w,A,N,S,g⟩:=Df W [dU ⟨#[]⟩,.int .u8 0,dI 0,dN] 141;obtain⟨K,L,y⟩:=h.lt;have ab:=(o.some h).1;have ac:n0<=W.heap.size:=Ω;have D:Hid (Cl 240 #[dP c,dI 1] F λe X=>e=dR (.int .u64 0)/\∃Y,X.alloc (.cells #[dU ⟨#[]⟩,.int .u8 0,dI 0,dN] 141)=Y/\Gb Y X.heap.size 141 [dU ⟨#[]⟩,.int .u8 0,dI 0,dN]/\Gb Y W.heap.size 141 [dU ⟨#[]⟩,.int .u8 0,dI 0,dN]/\¬W.heap.size=X.heap.size/\
   Hid (Xc W v n0 i m r t c q u d (s.extract 1 s.size) (dR (.tuple #[.agg #[dU ⟨#[]⟩,.int .u8 0,dI 0,dN],dV true])) ((((Y.setCell (dQ W.heap.size 0) (dU ⟨#[]⟩)).setCell (dQ W.heap.size 1) (.int .u8 0)).setCell (dQ W.heap.size 2) (dI 0)).setCell (dQ W.heap.size 3) dN))):=by
  apply((h.below g).bz J (o.below g y) z 1 Ω).Q;rintro e X⟨rfl,Q,R,p⟩;obtain⟨Y,G,b,O,sY,l⟩:=Df X [dU ⟨#[]⟩,.int .u8 0,dI 0,dN] 141;have I:=A.e p Ω;have aa:=p.size;have n:Fr (λj=>j=W.heap.size) Y ((((Y.setCell (dQ W.heap.size 0) (dU ⟨#[]⟩)).setCell (dQ W.heap.size 1) (.int .u8 0)).setCell (dQ W.heap.size 2) (dI 0)).setCell (dQ W.heap.size 3) dN):=((((Fr.refl (λj=>j=W.heap.size) Y).set _ _ rfl).set _ _ rfl).set _ _ rfl).set _ _ rfl;have M:∀k,Own d k->k<Y.heap.size:=Γ;refine⟨Ξ,Y,G,b,O _ _ _ I,Ω,rfl,(Q.below l).e n Γ,(R.below l Γ).e n Ω Γ M,?_⟩;exact((Fr.S g).then p Ω).then ((Fr.S (X:=λj=>j=W.heap.size) l).then n Ω) Ω
 have B:=Db w;clear w A N S g h o z H K L y;go_enter func203,ntmps203;go_upto_region 1 with fail;rw[Da B];go_upto_region 2 with(go_at_call 240;apply(Da D).Q;rintro e X⟨rfl,Y,x,b,a,ad,C⟩;have E:=Db x;clear x);rw[Da E];obtain⟨z0,z1,z2,z3⟩:=a.c3;obtain⟨y0,y1,y2,y3⟩:=a.f3;obtain⟨t0,t1,t2,t3⟩:=b.c3;have f:=Db (Ke a (dU ⟨#[]⟩) (.int .u8 0) (dI 0) dN);clear a b;go_wp2;exact Am (by simp[results,results203,go_sem,((Da f).J 0),((Da f).J 1),((Da f).J 2),((Da f).J 3)]) rfl (Da C)
theorem Gv.bytes{w0:World}{n0 db tp tx:Nat}{va vt:Value}(h:Gv w0 n0 rb db tp tx q va vt W){fb:Nat}(aa:n0<=fb)(d:GT fb s vt W)(hs:s.size<=1000000)(n:Nat)(hn:n<=1000000):
  Cl 245 #[dP fb,dI (n:Nat)] W λe b=>e=dR (dS W.heap.size n n)/\Sl b 5 1 (dS W.heap.size n n) n (Dd (Dg s n))/\Gv w0 n0 rb db tp tx q va vt b/\GT fb (s.extract n s.size) vt b/\Fr (λk=>k=fb) W b:=by
 obtain⟨_,h1,h2,h3⟩:=d.some h;obtain⟨a,l,c,t,g,u,r4⟩:=d;have hl:=g.1;apply(Zit W fb a l c s t g u Γ n Ω Ω).Q;rintro e b⟨i,j,rfl,m,o,p,r,p5,f⟩;exact⟨rfl,m,h.e f Γ,⟨i,l-n,j,o,p,r,Γ⟩,f⟩
structure IY(W w0:World)(n0 rb db tp tx fb:Nat)(q:Gg)(va vt:Value)(Bi:Nat)(s:By)(I:Gf)(X:World):Prop where
 rd:Gv w0 n0 rb db tp tx q va vt X
 fd:GT fb s vt X
 b6:Gb X W.heap.size 141 [dU ⟨#[]⟩,.int .u8 0,dI 0,dN]
 bi:Gb X Bi 141 I
 e:Fr (λk=>k=fb) W X
 lt:W.heap.size<Bi
section
variable{W w0:World}{n0 rb db tp tx fb:Nat}{q:Gg}{va vt:Value}{Bi:Nat}{s:By}{I:Gf}{X:World}
theorem IY.num(_h0:Gv w0 n0 rb db tp tx q va vt W)(aa:fb<W.heap.size)(b:n0<=fb)(h:IY W w0 n0 rb db tp tx fb q va vt Bi s I X)(d:s.size<=1000000):Cl 240 #[dP fb,dI 1] X λe Y=>e=dR (.int .u64 (Dx (BL (Dg s 1)):Nat))/\IY W w0 n0 rb db tp tx fb q va vt Bi (s.extract 1 s.size) I Y:=by apply(h.rd.bz b h.fd d 1 Ω).Q;rintro e Y⟨rfl,f,g,a⟩;have c:=h.lt;exact⟨rfl,f,g,h.b6.e a Ω,h.bi.e a Ω,h.e.then a Ω,c⟩
theorem IY.iq(aa:fb<W.heap.size)(b:n0<=fb)(h:IY W w0 n0 rb db tp tx fb q va vt Bi s I X)(f:s.size<=1000000)(n:Nat)(d:n<=1000000):Cl 245 #[dP fb,dI (n:Nat)] X λe Y=>e=dR (dS X.heap.size n n)/\(convert 59 9 (dS X.heap.size n n)).run prog Y=.ok (dU (Dg s n)) Y/\IY W w0 n0 rb db tp tx fb q va vt Bi (s.extract n s.size) I Y:=by apply(h.rd.bytes b h.fd f n d).Q;rintro e Y⟨rfl,g,i,j,a⟩;have c:=h.lt;exact⟨rfl,ZrN g (Jr _ _).r,i,j,h.b6.e a Ω,h.bi.e a Ω,h.e.then a Ω,c⟩
theorem IY.set(c:Gv w0 n0 rb db tp tx q va vt W)(aa:fb<W.heap.size)(h:IY W w0 n0 rb db tp tx fb q va vt Bi s I X)(i:Nat)(u:Value):IY W w0 n0 rb db tp tx fb q va vt Bi s (I.set i u) (X.setCell (dQ Bi i) u):=by have f:=h.lt;obtain⟨l1,g,d⟩:=c.lt;have ab:=Ae c.sz c.aa.size;have a:=(Fr.refl (λk=>k=Bi) X).set (dQ Bi i) u rfl;exact⟨h.rd.e a (λk e=>by exact⟨Ω,Ω,λe=>by have:=g _ e;omega,λe=>by have:=d _ e;omega⟩),h.fd.e a (λe=>Ω) (λk b e=>by have:=d k b;omega) (λk b=>by have:=d k b;have:=h.e.size;omega),h.b6.e a (λe=>Ω),h.bi.set i u,h.e.then a (λk b e=>Ω),f⟩
end
theorem ZJ(_h:Di p=true)(hn:Dc p≠[]):(p.toList==[47])=false:=by grind [absurd,UC]
theorem Zua(w:World)(tb:Nat)(p:By)(d f:Nat)(o:OA)(dl q:Nat)(R:Ending->World->Prop)(u:d=1->∀W,Bw w W->Cl 122 #[dP tb,dU p] W λe X=>∃x:Int,e=dR (dI x)/\R (dR (dV (x==0))) X)(v:d=2->∀W,Bw w W->Cl 157 #[dP tb,.agg #[dU p,.int .u8 2,dI (f:Nat),dT o dl q]] W λe X=>∃b:Bool,e=dR (dV b)/\R e X)(y:d=3->∀W,Bw w W->Cl 158 #[dP tb,.agg #[dU p,.int .u8 3,dI (f:Nat),dT o dl q]] W λe X=>∃b:Bool,e=dR (dV b)/\R e X)(z:d≠1->d≠2->d≠3->∀W,Bw w W->R (dR (dV false)) W):
  Cl 97 #[dP tb,.agg #[dU p,.int .u8 (d:Nat),dI (f:Nat),dT o dl q]] w R:=by
 obtain⟨m,t,r,s,F,n⟩:=Df w [dU p,.int .u8 (d:Nat),dI (f:Nat),dT o dl q] 141;have D:=Db t;have c0:=r.ca 0;have c1:=r.ca 1;have c2:=r.ca 2;have c3:=r.ca 3;have g:=Db (λe=>u e m n);have h:=Db (λe=>v e m n);have i:=Db (λe=>y e m n);have j:=Db (λa b c=>z a b c m n);clear t r s F n u v y z;go_enter func97,ntmps97;go_upto_region 1 with fail;rw[show w.alloc (.cells #[dU p,.int .u8 (d:Nat),dI (f:Nat),dT o dl q] 141)=m from Da D];by_cases s:d=1
 .have k:=Db (Da g s);have A:(d:Int)=1:=Ω;clear g h i j;go_wp2_with(go_at_call 122;apply(Da k).Q;rintro e X⟨x,rfl,l⟩);exact l
 have aa:¬(d:Int)=1:=Ω;by_cases B:d=2
 .have k:=Db (Da h B);have A:(d:Int)=2:=Ω;clear g h i j;go_wp2_with(go_at_call 157;apply(Da k).Q;rintro e X⟨x,rfl,l⟩);exact l
 have ab:¬(d:Int)=2:=Ω;by_cases C:d=3
 .have k:=Db (Da i C);have A:(d:Int)=3:=Ω;clear g h i j;go_wp2_with(go_at_call 158;apply(Da k).Q;rintro e X⟨x,rfl,l⟩);exact l
 have ac:¬(d:Int)=3:=Ω;have E:=Da j s B C;clear g h i j;go_wp2;exact E
theorem Gv.top{r:World}{n0 I J:Nat}{n o:Value}(h:Gv r n0 a m I J q n o W)(f j:Nat):Gv r n0 a m f j q n o ((W.setCell (dQ a 2) (dI (f:Nat))).setCell (dQ a 3) (.int .u64 (j:Nat))):=by
 obtain⟨L,z,B,C,D,E,F,G,H⟩:=h.row;obtain⟨s,t,u⟩:=h.es;have hs:=h.aa.size;have A:=h.sz;have aa:=h.lo;have c:Fr (λk=>k=a) W ((W.setCell (dQ a 2) (dI (f))).setCell (dQ a 3) (.int .u64 (j))):=((Fr.refl (λk=>k=a) W).set _ _ rfl).set _ _ rfl;have d:∀i,i≠2->i≠3->((L.set 2 (dI (f))).set 3 (.int .u64 (j)))[i]?=L[i]? := λi v w=>by rw[A3 (Ne.r w),A3 (Ne.r v)]
 refine⟨⟨_,((z.set 2 (dI (f:Nat))).set 3 (.int .u64 (j:Nat))),(d 0 Ω Ω).M B,(d 1 Ω Ω).M C,?_,?_,λp y=>(d _ Ω Ω).M (F p y),λb x=>(d _ Ω Ω).M (G b x),(d _ Ω Ω).M H⟩,⟨s,t,u.e c (λg l e=>(h.oa g l).2.1 e)⟩,⟨h.ad.1.e c (λg l e=>h.ot (by rw[<-e];exact l)),h.ad.2⟩,h.oa,h.ot,h.aa.M ⟨c.os,c.tape,c.output,c.size,λk hk=>c.block k Ω (λe=>Ω)⟩,h.lo,A⟩;rw[A3 Ω,Cr (Ac.1 D).1];rw[Cr (by rw[B9];exact(Ac.1 E).1)]
theorem Gv.topc{k:World}{n0 e:Nat}{i j:Value}(h:Gv k n0 a e c d q i j W):W.cell? (dQ a 2)=some (dI (c:Nat))/\W.cell? (dQ a 3)=some (.int .u64 (d:Nat))/\W.frozen? (dQ a 2)=false/\W.frozen? (dQ a 3)=false:=by obtain⟨L,b,l0,l1,f,g,l4,l5,l6⟩:=h.row;exact⟨(b.J 2).M f,(b.J 3).M g,b.A 2,b.A 3⟩
structure Ng(G:Gh)(I:LF)(p:By)(f:Nat)(l:Nat):Prop where
 ok:Gp G
 gl:G.length<=9000
 il:I.length<=9000
 ll:∀x∈I,x.2.l<=2000000
 ps:p.size<=2000000
 lg:Hy G p=0
 fj:Je G I (Dc p).dropLast=true
 e:∀x∈I,x.1≠(f:Int)
 e8:∀(I1 I2:LF) (da:OA) (dc:Nat),I1.length=I.length+1->(∀x,x∈I1↔x=((f:Int),⟨none,0,0,1⟩)\/x∈I)->Gs I1 I2 (f:Int) ⟨da,l,dc,1⟩->DL (I2.map (·.2.l))<=160
structure ReI(W w0:World)(n0 rb db tp tx fb tb:Nat)(va0 vt0 vt:Value)(T:Gh->LF->(IB)->Prop)(q:Gg)(s:By)(wr:World):Prop where
 rd:∃va,Gv w0 n0 rb db tp tx q va vt wr/\Dm W va0 va
 fd:GT fb s vt wr
 ps:∃G I C,PS wr tb G I C/\T G I C
 e:Fr (λj=>j=rb\/Own va0 j\/Own vt0 j) W wr
 tl:W.heap.size<tb
 fl:W.heap.size<=fb
theorem PS.i6{g:World}(h:PS W tb G I C){D:World}{n0 u z A:Nat}{o p:Value}(d:Gv D n0 n u z A q o p W)(w:GT f s p W)(h0:0<n0)(aa:n0<=f)(x:Fr (λj=>j=n\/Own o j\/j=f) W g):PS g tb G I C:=by obtain⟨y,V,E,B,h⟩:=h;have ab:=d.lo;refine⟨y,V,E,B,h.e x (λe=>?_) (λk t R e b=>?_)⟩;rcases e with e|e|e;omega;have:=(d.oa 0 e).1;omega;omega;rcases e with e|e|e;obtain⟨L,i,_⟩:=d.row;subst e;unfold Gb at i b;rw[i]at b;cases b;decide;obtain⟨es,_,v⟩:=d.es;obtain⟨R2,m⟩:=v.type e;unfold Gb at m b;rw[m]at b;cases b;decide;obtain⟨a,l,c,r,_⟩:=w;subst e;unfold Gb at r b;rw[r]at b;cases b;decide
theorem Gv.pg{j:World}{n0 e:Nat}{i:Value}{b:World}(h:Gv j n0 d c e f q g i W)(l:Fr (DV tb W) W b)(ht:n0<tb):Gv j n0 d c e f q g i b:=
 h.e l (λk ⟨⟨t,R,m,a⟩,hl⟩=>by have:=h.ne m (by rcases a with rfl|rfl|rfl|rfl<;>decide) (by rcases a with rfl|rfl|rfl|rfl<;>decide) (by rcases a with rfl|rfl|rfl|rfl<;>decide);exact⟨Ω,this.1,this.2.1,this.2.2⟩)
theorem GT.pg{f:Value}{g:World}(h:GT i s f W){y:World}{n0 u v w:Nat}{x:Value}(j:Gv y n0 u m v w q x f W)(n:Fr (DV tb W) W g):GT i s f g:=by
 refine GT.e h n (λ⟨⟨t,R,b,d⟩,p⟩=>?_) (λk o ⟨⟨t,R,b,d⟩,p⟩=>?_) j.lt.2.2
 .obtain⟨a,l,c,r,_⟩:=h;unfold Gb at r b;rw[r]at b;cases b;rcases d with e|e|e|e<;>cases e
 .have:=j.ne b (by rcases d with rfl|rfl|rfl|rfl<;>decide) (by rcases d with rfl|rfl|rfl|rfl<;>decide) (by rcases d with rfl|rfl|rfl|rfl<;>decide);exact this.2.2 o
def Mx(G:Gh)(I:LF)(p:By)(f dl:Nat):Prop:=Ng G I p f dl/\f<60/\dl<=1280
def PE(w:World)(tb:Nat)(G:Gh)(I:LF)(C:IB)(p:By)(f:Nat)(da:OA)(dl dc:Nat)(s:By)(e:Ending)(w':World):Prop:=
 (∃b:Bool,e=dR (dV b))/\Fr (DV tb w) w w'/\(e=dR (dV true)->Hy G p=0/\Je G I (Dc p).dropLast=true/\f<60/\(∀x∈I,x.1≠(f:Int))/\dl<=1280/\∃I1 I2 C2,I1.length=I.length+1/\(∀x,x∈I1↔x=((f:Int),⟨none,0,0,1⟩)\/x∈I)/\Gs I1 I2 (f:Int) ⟨da,dl,dc,1⟩/\DL (I2.map (·.2.l))<=160/\PS w' tb (G++[(Dc p,⟨none,(f:Int)⟩)]) I2 C2/\C2 f=s/\∀x∈I,C2 x.1=C x.1)/\(e=dR (dV false)->¬Mx G I p f dl)
theorem ZlI(w:World)(tb:Nat)(G:Gh)(I:LF)(C:IB)(h:PS w tb G I C)(hG:Gp G)(aH:G.length<=9000)(aI:I.length<=9000)(am:∀x∈I,x.2.l<=2000000)(p:By)(hp:p.size<=2000000)(f:Nat)(u:OA)(dl v:Nat)(s:By)(al:Sl w 5 1 (dT u dl v) dl (Dd s)):
  Cl 157 #[dP tb,.agg #[dU p,.int .u8 2,dI (f:Nat),dT u dl v]] w (PE w tb G I C p f u dl v s):=by
 obtain⟨rd,V,E,vi,h⟩:=h;obtain⟨W1,e1,x1,k1,s1,O⟩:=Df w [dU p,.int .u8 2,dI (f),dT u dl v] 141;have P:∀{X},Bw w X->TW X tb rd V E vi G I C:=λi=>h.below i (Aa _);have aY:=h.t.lt;have M:Hid (∀X,¬Mx G I p f dl->Bw w X->PE w tb G I C p f u dl v s (dR (dV false)) X):=λX hn hX=>⟨⟨false,rfl⟩,Fr.S hX,(λe=>by cases e),λ_=>hn⟩;have aT:¬((f)<0):=Ω;have ap:=Db e1;have c0:=(x1.J 0).M (rfl);by_cases Q:Hy G p=0
 rotate_left
 .have H:Hid (Cl 181 #[dP tb,dU p] W1 λe X=>e=dR (.tuple #[DE,dI (Hy G p)])/\Hid (∀o,PE w tb G I C p f u dl v s (dR (dV false)) (X.alloc o))):=by apply(Sd W1 tb rd V E vi G I C (P O) hG Ω p hp).Q;rintro e X⟨(⟨_,rfl⟩|⟨e0,_⟩),i⟩;have af:=O.M (i.Q Ω);exact⟨rfl,λo=>Da M _ (λm=>Q m.1.lg) (af.alloc af.size o)⟩;exact absurd e0 Q
  obtain⟨el,ay⟩:=ex (Hy G p);rw[<-ay]at H Q;clear ay e1 x1 k1 s1 O al P h am hG;go_enter func157,ntmps157;go_upto_region 1 with fail;rw[Da ap];unfold DE Dk at H;go_wp2_with(go_at_call 181;apply(Da H).Q;rintro e X⟨rfl,HP⟩);go_ret;exact Da HP _
 have H:Hid (Cl 181 #[dP tb,dU p] W1 λe X=>∃n y,e=dR (.tuple #[Dk (some (dQ y 0)) n false ⟨none,0⟩,dI 0])/\∃Y,X.alloc (.cells (DS (some (dQ y 0)) n false ⟨none,0⟩).toArray 262)=Y/\Gb Y w.heap.size 141 [dU p,.int .u8 2,dI (f),dT u dl v]/\Hid (Gb Y X.heap.size 262 (DS (some (dQ y 0)) n false ⟨none,0⟩))/\Hid (Bw w Y/\w.heap.size+1<=X.heap.size/\Y.heap.size=X.heap.size+1)/\
   Hid (f<60->dl<=1280->(∀x∈I,x.1≠(f))->∀Z,Bw w Z->Cl 185 #[dP tb,Dk (some (dQ y 0)) n false ⟨none,0⟩,dI (f),dT u dl v] Z λe U=>∃x:Int,e=dR (dI x)/\Hid (PE w tb G I C p f u dl v s (dR (dV (x==0))) U))):=by
  apply(Sd W1 tb rd V E vi G I C (P O) hG Ω p hp).Q;rintro e X⟨(⟨aM,_⟩|⟨_,aD,ds,n,y,ak,aK,av,rfl⟩),i⟩;exact absurd Q aM;obtain⟨Y,eY,xY,kY,sY,bY⟩:=Df X (DS (some (dQ y 0)) n false ⟨none,0⟩) 262;have aQ:=i.size;have af:=O.M (i.Q Ω);have aJ:Gb X w.heap.size 141 _:=(i.block _ x1.lt).M x1;refine⟨n,y,rfl,Y,eY,kY _ _ _ aJ,xY,⟨af.M (bY.Q af.size),Ω,sY⟩,λah aj hf Z t=>?_⟩;have R:=(Uj aD (ZJ aD (by rw[ak];simp))).2;have R:GO (Dc p)/\(Dc p).length<=6:=⟨R.1,R.2.2⟩;have aE:(Dc p).dropLast=ds:=by rw[ak];simp
  rw[ak]at av R;have aW:n.size<=12:=by have z:=R.1 n Θ;unfold DZ at z;simp only[AQ,An]at z;exact z.1.2
  apply(Ze1 Z tb rd V E vi G I C (P t) hG aH aI am ds y aK n Ω R av _ hf u dl v Ω s (al.kept (λk l _=>t.block k l))).Q;rintro e U (⟨aL,rfl,ac⟩|⟨hm,_,aA,I1,I2,q1,q2,q3,(⟨rfl,aZ⟩|⟨rfl,q0,C2,q4,q5,q6⟩)⟩);exact⟨8,rfl,Da M _ (λm=>by have:=m.1.fj;rw[aE,aL]at this;cases this) (t.M (ac.Q t.size))⟩;exact⟨9,rfl,⟨false,rfl⟩,Fr.pg t aA,(λe=>by cases e),λ_ m=>by have:=m.1.e8 I1 I2 u v q1 q2 q3;omega⟩;exact⟨0,rfl,⟨true,rfl⟩,Fr.pg t aA,λ_=>⟨Q,by rw[aE];exact hm,ah,hf,aj,I1,I2,C2,q1,q2,q3,q0,by rw[ak];exact q4,q5,q6⟩,λe=>by cases e⟩
 have L:Hid (∀X,Bw w X->Cl 175 #[.pointer (some (dQ tb 1)),dI (f)] X λe Y=>∃(a9:OA) (l9 c9:Nat) (f9:Int) (b:Bool),e=dR (.tuple #[.agg #[dT a9 l9 c9,dI f9],dV b])/\Hid (b=false->∀x∈I,x.1≠(f))/\Hid (b=true->¬Mx G I p f dl)/\Bw X Y):=λX hX=>by have hT:=P hX;apply(MY X tb 1 vi I (f) ((hT.t.J 1).M rfl) hT.i Ω hT.si).Q;rintro e Y⟨r,b,rfl,az,i⟩;refine⟨r.a,r.l,r.c,r.f,b,rfl,λaw=>?_,λax m=>?_,i⟩;rcases az with⟨e9,_⟩|⟨_,_,hn⟩;rw[e9]at aw;cases aw;exact hn;rcases az with⟨_,hm⟩|⟨e9,_⟩;exact m.1.e _ hm rfl;rw[e9]at ax;cases ax
 clear e1 x1 k1 s1 O Q al P h am hG;go_enter func157,ntmps157;go_upto_region 1 with fail;rw[Da ap];unfold Dk at H;go_upto_region 2 with(go_at_call 181;apply(Da H).Q;rintro e X⟨n,y,rfl,Y,hY,y1,ar,ag,J⟩;have HY:=Db hY;clear hY H c0)
 rw[Da HY];have c2:=(y1.J 2).M (rfl);have c3:=(y1.J 3).M (rfl);have aq:=Db y1;clear y1;by_cases aS:60<=f\/1280<dl
 .have K:=Db (Da M Y (λm=>by have:=m.2;omega) (Da ag).1);have aP:(60)<=(f)\/¬(60)<=(f)/\(1280)<(dl):=Ω;clear ag aq ar J L M;rcases aP with hw|⟨hw,a0⟩
  .go_wp2;go_ret;exact Da K
  .go_wp2;go_ret;exact Da K
 have ah:f<60:=Ω;have aj:dl<=1280:=Ω;have aU:¬((60)<=(f)):=Ω;have aR:¬((1280)<(dl)):=Ω;go_upto_region 4 with fail;obtain⟨g,aN,aO⟩:=Da ag;have T:Hid (∀V,V.heap=Y.heap->V.os=Y.os->V.tape=Y.tape->V.output=Y.output->Bw w V):=λV a b c d=>⟨b.M g.os,c.M g.tape,d.M g.output,by rw[a];exact g.size,λk l=>by rw[a];exact g.block k l⟩;have S:Hid (∀V o,V.heap=(Y.alloc o).heap->V.os=Y.os->V.tape=Y.tape->V.output=Y.output->Bw w V):=λV o a b c d=>by have z:=g.M ((Ad _ Y).alloc g.size o);exact⟨b.M g.os,c.M g.tape,d.M g.output,by rw[a];exact z.size,λk l=>by rw[a];exact z.block k l⟩
 have aa:Hid (∀V j,Bw V j->V.os=Y.os->V.tape=Y.tape->V.output=Y.output->(V.heap=Y.heap\/∃o,V.heap=(Y.alloc o).heap)->Gb j w.heap.size 141 [dU p,.int .u8 2,dI (f),dT u dl v]/\Gb j X.heap.size 262 (DS (some (dQ y 0)) n false ⟨none,0⟩)/\Bw w j):=λV j i ho ht hu hV=>by have z:=Da aq;have h5:=Da ar;rcases hV with e|⟨o,e⟩;have l:∀k,k<Y.heap.size->j.heap[k]?=Y.heap[k]? := λk l=>(i.block k (by rw[e];exact l)).M (by rw[e]);have ad:=i.size;rw[e]at ad;exact⟨(l _ z.lt).M z,(l _ h5.lt).M h5,i.os.M (ho.M g.os),i.tape.M (ht.M g.tape),i.output.M (hu.M g.output),Ae g.size ad,λk ae=>(l k (As ae g.size)).M (g.block k ae)⟩;have l:∀k,k<Y.heap.size->j.heap[k]?=Y.heap[k]? := λk l=>(i.block k (by rw[e];simp;omega)).M (by rw[e];exact BH Y o k l);have ad:=i.size;rw[e]at ad;simp at ad;exact⟨(l _ z.lt).M z,(l _ h5.lt).M h5,i.os.M (ho.M g.os),i.tape.M (ht.M g.tape),i.output.M (hu.M g.output),by have:=g.size;omega,λk ae=>(l k (As ae g.size)).M (g.block k ae)⟩
 have ab:Hid (∀V j,Bw V j->V.heap=(Y.alloc (.cells #[dN,dI 0] 217)).heap->Gb j Y.heap.size 217 [dN,dI 0]):=λV j i e=>(i.block _ (by rw[e];simp)).M (by rw[e];exact Cn Y _);have aB:¬Y.heap.size=w.heap.size:=Ω;have aC:¬Y.heap.size=X.heap.size:=Ω;clear g aN aO;go_region_held3 (λW=>W.cell? (dQ w.heap.size 2)=some (dI (f))) (go_keep) (first|(go_at_call 175;apply(Da L _ (by first|exact Da T _ rfl rfl rfl rfl|exact Da S _ _ rfl rfl rfl rfl)).Q;rintro e j⟨a9,l9,c9,f9,b9,rfl,ao,an,ac⟩;have hz:=Da aa _ j ac rfl rfl rfl (by first|exact .inl rfl|exact .inr ⟨_,rfl⟩);have ai:=(hz.1.J 2).M (rfl);have aX:=hz.1.lt;have aV:=hz.2.1.lt;(try have zn:=Da ab _ j ac rfl);(try have n0:=zn.J 0);(try have n1:=zn.J 1);(try have n2:=zn.A 0);(try have n3:=zn.A 1);have N:=Db hz;clear hz ac;(try clear zn)))
 focus
  obtain⟨Z,t⟩:∃Z,j.alloc (.cells #[dT a9 l9 c9,dI f9] 217)=Z:=⟨_,rfl⟩;rw[t];have bZ:Bw j Z:=by rw[<-t];exact(Ad _ j).alloc (Aa _) _
  obtain⟨B,D,F⟩:=Da N;have t1:Gb Z w.heap.size 141 _:=(bZ.block _ B.lt).M B;have q:Gb Z X.heap.size 262 _:=(bZ.block _ D.lt).M D;have A:=F.M (bZ.Q F.size)
 rotate_left
 focus
  obtain⟨Z,t⟩:∃Z,(j.setCell (dQ Y.heap.size 0) (dT a9 l9 c9)).setCell (dQ Y.heap.size 1) (dI f9)=Z:=⟨_,rfl⟩;rw[t];obtain⟨B,D,F⟩:=Da N;have au:=(Da ag).1.size;have t1:Gb Z w.heap.size 141 [dU p,.int .u8 2,dI (f),dT u dl v]:=by rw[<-t];exact(Aw _ _ _ _ (λe=>aB e.r)).M ((Aw _ _ _ _ (λe=>aB e.r)).M B)
  have q:Gb Z X.heap.size 262 (DS (some (dQ y 0)) n false ⟨none,0⟩):=by rw[<-t];exact(Aw _ _ _ _ (λe=>aC e.r)).M ((Aw _ _ _ _ (λe=>aC e.r)).M D)
  have A:Bw w Z:=by rw[<-t];exact(F.setCell au _).setCell au _
 all_goals
  obtain⟨c0,c1,aF,aG,c4⟩:=q.c4;have d2:=(t1.J 2).M (rfl);have d3:=(t1.J 3).M (rfl);cases b9
  .have HM:=Db (Da J ah aj (Da ao rfl) Z A);clear t1 q B D F A J N aa ab S T L c2 c3 ai;go_wp2_with(go_at_call 185;apply(Da HM).Q;rintro e U⟨x,rfl,HP⟩);go_ret;exact Da HP
  .have K:=Db (Da M Z (Da an rfl) A);clear t1 q B D F A J N aa ab S T L c2 c3 ai;go_wp2;go_ret;exact Da K
def Mw(G:Gh)(I:LF)(p:By)(f:Nat):Prop:=Hy G p=0/\JW G (Dc p).dropLast=true/\∃r,((f:Int),r)∈I
def SQ(w:World)(tb:Nat)(G:Gh)(I:LF)(C:IB)(p:By)(f:Nat)(e:Ending)(w':World):Prop:=
 (∃b:Bool,e=dR (dV b))/\Fr (DV tb w) w w'/\(e=dR (dV true)->Hy G p=0/\JW G (Dc p).dropLast=true/\∃r I',((f:Int),r)∈I/\Gs I I' (f:Int) ⟨r.a,r.l,r.c,r.f+1⟩/\PS w' tb (G++[(Dc p,⟨none,(f:Int)⟩)]) I' C)/\(e=dR (dV false)->¬Mw G I p f)
theorem ZlH(w:World)(tb:Nat)(G:Gh)(I:LF)(C:IB)(h:PS w tb G I C)(hG:Gp G)(aI:G.length<=9000)(aJ:I.length<=9000)(ai:∀x∈I,0<=x.2.f/\x.2.f<=10000)(p:By)(hp:p.size<=2000000)(f:Nat)(R:OA)(dl S:Nat):
  Cl 158 #[dP tb,.agg #[dU p,.int .u8 3,dI (f:Nat),dT R dl S]] w (SQ w tb G I C p f):=by
 obtain⟨rd,V,E,vi,h⟩:=h;obtain⟨W1,e1,x1,k1,s1,b1⟩:=Df w [dU p,.int .u8 3,dI (f),dT R dl S] 141;have ae:∀{X},Bw w X->TW X tb rd V E vi G I C:=λi=>h.below i (Aa _);have aN:=h.t.lt;have Q:Hid (∀X,¬Mw G I p f->Bw w X->SQ w tb G I C p f (dR (dV false)) X):=λX hn hX=>⟨⟨false,rfl⟩,Fr.S hX,(λe=>by cases e),λ_=>hn⟩;have av:=Db e1;have c0:=(x1.J 0).M (rfl);have ah:Hid (Cl 181 #[dP tb,dU p] W1 λe X=>∃(d:OA) (n:By) (O:Int),e=dR (.tuple #[Dk d n false ⟨none,0⟩,dI O])/\∃Y,X.alloc (.cells (DS d n false ⟨none,0⟩).toArray 262)=Y/\Gb Y w.heap.size 141 [dU p,.int .u8 3,dI (f),dT R dl S]/\Hid (Gb Y X.heap.size 262 (DS d n false ⟨none,0⟩))/\Hid (Bw w Y/\w.heap.size+1<=X.heap.size/\Y.heap.size=X.heap.size+1)/\
   Hid (O=0->(∃r,((f:Int),r)∈I)->∀Z,Bw w Z->Cl 192 #[dP tb,Dk d n false ⟨none,0⟩,dI (f)] Z λe U=>∃x:Int,e=dR (dI x)/\Hid (SQ w tb G I C p f (dR (dV (x==0))) U))/\Hid (¬O=0->¬Mw G I p f)):=by
  apply(Sd W1 tb rd V E vi G I C (ae b1) hG Ω p hp).Q;intro e X au;have i:=au.2;have aK:=i.size;have ag:=b1.M (i.Q Ω);have al:Gb X w.heap.size 141 _:=(i.block _ x1.lt).M x1;rcases au.1 with⟨ao,rfl⟩|⟨h0,aE,ds,n,db,af,aA,an,rfl⟩;obtain⟨Y,eY,xY,kY,sY,bY⟩:=Df X (DS none ⟨#[]⟩ false ⟨none,0⟩) 262;exact⟨none,⟨#[]⟩,_,rfl,Y,eY,kY _ _ _ al,xY,⟨ag.M (bY.Q ag.size),Ω,sY⟩,(λe0=>absurd e0 ao),λ_ t=>ao t.1⟩;obtain⟨Y,eY,xY,kY,sY,bY⟩:=Df X (DS (some (dQ db 0)) n false ⟨none,0⟩) 262;refine⟨some (dQ db 0),n,0,rfl,Y,eY,kY _ _ _ al,xY,⟨ag.M (bY.Q ag.size),Ω,sY⟩,λ_ ⟨r,hr⟩ Z s=>?_,λh=>absurd rfl h⟩;have ar:(Dc p).dropLast=ds:=by rw[af];simp
  rw[af]at an;apply(Ze0 Z tb rd V E vi G I C (ae s) hG Ω Ω ds db aA n (Pe aE af) an (f) r hr (ai _ hr).1 (ai _ hr).2).Q;rintro e U (⟨aD,rfl,T⟩|⟨t,rfl,aC,V',E',I',q1,q2⟩);exact⟨8,rfl,Da Q _ (λt=>by have:=t.2.1;rw[ar,aD]at this;cases this) (s.M (T.Q s.size))⟩;exact⟨0,rfl,⟨true,rfl⟩,Fr.pg s aC,λ_=>⟨h0,by rw[ar];exact t,r,I',hr,q2,by rw[af];exact⟨rd,V',E',vi,q1⟩⟩,λe=>by cases e⟩
 have J:Hid (∀X,Bw w X->Cl 175 #[.pointer (some (dQ tb 1)),dI (f)] X λe Y=>∃(a9:OA) (l9 c9:Nat) (f9:Int) (b:Bool),e=dR (.tuple #[.agg #[dT a9 l9 c9,dI f9],dV b])/\Hid ((b=true->∃r,((f:Int),r)∈I)/\(b=false->¬ ∃r,((f:Int),r)∈I))/\Bw X Y):=λX hX=>by have hT:=ae hX;apply(MY X tb 1 vi I (f) ((hT.t.J 1).M rfl) hT.i Ω hT.si).Q;rintro e Y⟨r,b,rfl,aB,i⟩;refine⟨r.a,r.l,r.c,r.f,b,rfl,?_,i⟩;rcases aB with⟨e8,t⟩|⟨e9,_,h9⟩;exact⟨λ_=>⟨r,t⟩,λe=>by rw[e8]at e;cases e⟩;exact⟨λe=>(by rw[e9]at e;cases e),λ_ ⟨r',aF⟩=>h9 _ aF rfl⟩
 clear e1 x1 k1 s1 b1 ae h hG ai;go_enter func158,ntmps158;go_upto_region 1 with fail;rw[Da av];unfold Dk at ah;go_upto_region 2 with(go_at_call 181;apply(Da ah).Q;rintro e X⟨d,n,O,rfl,Y,hY,y1,ax,ak,z,aj⟩;have HY:=Db hY;clear hY ah c0)
 rw[Da HY];have M:=(y1.J 2).M (rfl);have N:=(y1.J 3).M (rfl);have aw:=Db y1;clear y1;obtain⟨g,aG,aH⟩:=Da ak;have D:Hid (∀V,V.heap=Y.heap->V.os=Y.os->V.tape=Y.tape->V.output=Y.output->Bw w V):=λV a b c d=>⟨b.M g.os,c.M g.tape,d.M g.output,by rw[a];exact g.size,λk m=>by rw[a];exact g.block k m⟩;have B:Hid (∀V o,V.heap=(Y.alloc o).heap->V.os=Y.os->V.tape=Y.tape->V.output=Y.output->Bw w V):=λV o a b c d=>by have L:=g.M ((Ad _ Y).alloc g.size o);exact⟨b.M g.os,c.M g.tape,d.M g.output,by rw[a];exact L.size,λk m=>by rw[a];exact L.block k m⟩
 have F:Hid (∀V j,Bw V j->V.os=Y.os->V.tape=Y.tape->V.output=Y.output->(V.heap=Y.heap\/∃o,V.heap=(Y.alloc o).heap)->Gb j w.heap.size 141 [dU p,.int .u8 3,dI (f),dT R dl S]/\Gb j X.heap.size 262 (DS d n false ⟨none,0⟩)/\Bw w j):=λV j i ho ht hu hV=>by have L:=Da aw;have h5:=Da ax;rcases hV with e|⟨o,e⟩;have m:∀k,k<Y.heap.size->j.heap[k]?=Y.heap[k]? := λk m=>(i.block k (by rw[e];exact m)).M (by rw[e]);have aa:=i.size;rw[e]at aa;exact⟨(m _ L.lt).M L,(m _ h5.lt).M h5,i.os.M (ho.M g.os),i.tape.M (ht.M g.tape),i.output.M (hu.M g.output),Ae g.size aa,λk ac=>(m k (As ac g.size)).M (g.block k ac)⟩;have m:∀k,k<Y.heap.size->j.heap[k]?=Y.heap[k]? := λk m=>(i.block k (by rw[e];simp;omega)).M (by rw[e];exact BH Y o k m);have aa:=i.size;rw[e]at aa;simp at aa;exact⟨(m _ L.lt).M L,(m _ h5.lt).M h5,i.os.M (ho.M g.os),i.tape.M (ht.M g.tape),i.output.M (hu.M g.output),by have:=g.size;omega,λk ac=>(m k (As ac g.size)).M (g.block k ac)⟩
 have K:Hid (∀V j,Bw V j->V.heap=(Y.alloc (.cells #[dN,dI 0] 217)).heap->Gb j Y.heap.size 217 [dN,dI 0]):=λV j i e=>(i.block _ (by rw[e];simp)).M (by rw[e];exact Cn Y _);have ap:¬Y.heap.size=w.heap.size:=Ω;have aq:¬Y.heap.size=X.heap.size:=Ω;clear g aG aH;go_region_held3 (λW=>W.cell? (dQ w.heap.size 2)=some (dI (f))) (go_keep) (first|(go_at_call 175;apply(Da J _ (by first|exact Da D _ rfl rfl rfl rfl|exact Da B _ _ rfl rfl rfl rfl)).Q;rintro e j⟨a9,l9,c9,f9,b9,rfl,ad,T⟩;have hz:=Da F _ j T rfl rfl rfl (by first|exact .inl rfl|exact .inr ⟨_,rfl⟩);have P:=(hz.1.J 2).M (rfl);have aM:=hz.1.lt;have aL:=hz.2.1.lt;(try have zn:=Da K _ j T rfl);(try have n0:=zn.J 0);(try have n1:=zn.J 1);(try have n2:=zn.A 0);(try have n3:=zn.A 1);have A:=Db hz;clear hz T;(try clear zn)))
 focus
  obtain⟨Z,s⟩:∃Z,j.alloc (.cells #[dT a9 l9 c9,dI f9] 217)=Z:=⟨_,rfl⟩;rw[s];have bZ:Bw j Z:=by rw[<-s];exact(Ad _ j).alloc (Aa _) _
  obtain⟨u,v,y⟩:=Da A;have t1:Gb Z w.heap.size 141 _:=(bZ.block _ u.lt).M u;have l:Gb Z X.heap.size 262 _:=(bZ.block _ v.lt).M v;have q:=y.M (bZ.Q y.size)
 rotate_left
 focus
  obtain⟨Z,s⟩:∃Z,(j.setCell (dQ Y.heap.size 0) (dT a9 l9 c9)).setCell (dQ Y.heap.size 1) (dI f9)=Z:=⟨_,rfl⟩;rw[s];obtain⟨u,v,y⟩:=Da A;have am:=(Da ak).1.size;have t1:Gb Z w.heap.size 141 [dU p,.int .u8 3,dI (f),dT R dl S]:=by rw[<-s];exact(Aw _ _ _ _ (λe=>ap e.r)).M ((Aw _ _ _ _ (λe=>ap e.r)).M u)
  have l:Gb Z X.heap.size 262 (DS d n false ⟨none,0⟩):=by rw[<-s];exact(Aw _ _ _ _ (λe=>aq e.r)).M ((Aw _ _ _ _ (λe=>aq e.r)).M v)
  have q:Bw w Z:=by rw[<-s];exact(y.setCell am _).setCell am _
 all_goals
  obtain⟨c0,c1,ay,az,c4⟩:=l.c4;have d2:=(t1.J 2).M (rfl);have d3:=(t1.J 3).M (rfl);by_cases ab:O=0
  .cases b9
   .have H:=Db (Da Q Z (λt=>(Da ad).2 rfl t.2.2) q);clear t1 l u v y q z A F K B D J M N P;go_wp2;go_ret;exact Da H
   .have HM:=Db (Da z ab ((Da ad).1 rfl) Z q);clear t1 l u v y q z A F K B D J M N P;go_wp2_with(go_at_call 192;apply(Da HM).Q;rintro e U⟨x,rfl,HP⟩);go_ret;exact Da HP
  .have H:=Db (Da Q Z (Da aj ab) q);clear t1 l u v y q z A F K B D J M N P;go_wp2;go_ret;exact Da H
theorem Tt(h:Gp G)(f:Hy G p=0)(u:VS):Di p=true/\Dc p≠[]/\Gr G (Dc p)=none/\Gp (G++[(Dc p,u)]):=by
 unfold Hy at f;cases hp:Di p with
 |false=>simp_all
 |true=>
  unfold DR at f;by_cases b:GJ G (Dw [] (Dc p))=0;by_cases c:Dc p=[]\/(Gr G (Dc p)).isSome=true;simp_all;have a:Dc p≠[]:=λe=>c (.inl e);have d:Gr G (Dc p)=none:=by
   cases e:Gr G (Dc p) with
   |none=>rfl
   |some u=>exact absurd (.inr (by rw[e];rfl)) c
  refine⟨rfl,a,d,h.add (Uj hp (ZJ hp a)).2.1 a (QA hp) d (λds n e=>?_) u⟩;rw[e]at b;exact TA b;omega
structure TG(G:Gh)(I:LF):Prop where
 ok:Gp G
 gl:G.length<=100
 nd:cD G []+I.length<=60
 rg:∀x∈I,0<=x.1/\x.1<60/\x.2.l<=1280/\0<x.2.f/\x.2.f<=G.length
 fl:∀x∈G,x.2.p=none->∃r,(x.2.f,r)∈I
 us:DL (I.map (·.2.l))<=160
theorem UK(h:Gp G){ns:LY}(a:Gp (G++[(ns,u)])):cD (G++[(ns,u)]) []=cD G []+(if u.p.isSome=true then 1 else 0):=by rw[Qx h,Qx a,AU,Bm];exact(FO _ _ _).r
theorem Z6{a:LY}(h:Je G I a=true):G.length<100/\cD G []+I.length<60:=by simp_all[Je,decide_eq_true_eq]
theorem Gs.e8{b:LF}{n:Int}{a:VF}(h:Gs I b n a)(f:(I.map (·.1)).Nodup)(aa:(n,r)∈I)(hl:a.l=r.l):DL (b.map (·.2.l))=DL (I.map (·.2.l)):=by
 have ab:∀y∈I,y.1=n->y=(n,r):=λy i e=>by have:=Bj.1 f;rcases Classical.em (y=(n,r)) with c|c;omega;grind [List.mem_iff_getElem,List.pairwise_iff_getElem,Nat.lt_trichotomy]
 have hJ:((I.map (λx=>if x.1=n then(n,a) else x)).map (·.1))=I.map (·.1):=by grind [List.map_map,List.map_congr_left]
 have d:(I.map (λx=>if x.1=n then(n,a) else x)).Nodup:=by grind
 have hp:=UG _ b d (λx g=>by obtain⟨y,i,rfl⟩:=AB.1 g;by_cases e:y.1=n;rw[if_pos e];exact(h.2 _).2 (.inl rfl);exact(h.2 _).2 Γ) (by rw[AT,h.1];omega);have h2:(I.map (λx=>if x.1=n then(n,a) else x)).map (·.2.l)=I.map (·.2.l):=by grind [List.map_map,List.map_congr_left]
 grind [DL]
theorem TG.cj(h:TG G I)(e:ID G I p=0)(nb:Nat):TG (G++[(Dc p,⟨some (dQ nb 0),0⟩)]) I:=by
 have b:Hy G p=0/\Je G I (Dc p).dropLast=true:=by unfold ID at e;unfold Hy;grind
 obtain⟨_,_,_,c⟩:=Tt h.ok b.1 ⟨some (dQ nb 0),0⟩;obtain⟨m1,m2⟩:=Z6 b.2;refine⟨c,Γ,?_,λx a=>?_,λx a d=>?_,h.us⟩;grind [UK,cD];obtain⟨a1,a2,a3,a4,a5⟩:=h.rg x a;grind;rcases Al.1 a with a|a;exact h.fl x a d;simp_all
theorem TG.e1(h:TG G I)(l:Hy G p=0)(m:Je G I (Dc p).dropLast=true)(hf:f<60){g:OA}{dl:Nat}(hd:dl<=1280){c d:LF}(j:c.length=I.length+1)(k:∀x,x∈c↔x=((f:Int),⟨none,0,0,1⟩)\/x∈I)(b:Gs c d (f:Int) ⟨g,dl,i,1⟩)(o:DL (d.map (·.2.l))<=160)(aa:∀x∈I,x.1≠(f:Int)):TG (G++[(Dc p,⟨none,(f:Int)⟩)]) d:=by obtain⟨_,_,_,e⟩:=Tt h.ok l ⟨none,(f)⟩;obtain⟨m1,m2⟩:=Z6 m;refine⟨e,Γ,?_,λx a=>?_,λx a n=>?_,o⟩;rw[UK h.ok e,b.1,j];grind;rw[Ah,BA];rcases(b.2 x).1 a with rfl|⟨q,ab⟩;grind;rcases(k x).1 q with rfl|s;omega;obtain⟨a1,a2,a3,a4,a5⟩:=h.rg x s;omega;rcases Al.1 a with a|a;obtain⟨r,hr⟩:=h.fl x a n;exact⟨r,(b.2 _).2 Γ⟩;rw[Ax.1 a];exact⟨_,(b.2 _).2 (.inl rfl)⟩
theorem TG.de(h:TG G I)(t:G3 I)(o:Hy G p=0)(hm:JW G (Dc p).dropLast=true){f:Int}(i:(f,r)∈I){d:LF}(b:Gs I d f ⟨r.a,r.l,r.c,r.f+1⟩):TG (G++[(Dc p,⟨none,f⟩)]) d:=by
 obtain⟨_,_,_,g⟩:=Tt h.ok o ⟨none,f⟩;have m1:G.length<100:=by simp_all[JW,decide_eq_true_eq]
 refine⟨g,Γ,?_,λx a=>?_,λx a q=>?_,by rw[b.e8 t.nd i rfl];exact h.us⟩;rw[UK h.ok g,b.1];exact h.nd;rw[Ah,BA];rcases(b.2 x).1 a with rfl|⟨u,ab⟩;obtain⟨j,k,l,m,n⟩:=h.rg _ i;grind;obtain⟨j,k,l,m,n⟩:=h.rg x u;omega;have aa:∀c,(x.2.f,c)∈I->∃r,(x.2.f,r)∈d:=λc s=>by by_cases e:x.2.f=f;rw[e];exact⟨_,(b.2 _).2 (.inl rfl)⟩;exact⟨c,(b.2 _).2 Γ⟩
 rcases Al.1 a with a|a;obtain⟨c,s⟩:=h.fl x a q;grind;grind
theorem TG.none:TG [] []:=
 ⟨⟨Γ,Γ,Γ,Eg,Γ⟩,Ao _,by show 1+0+0<=60;omega,Γ,Γ,Ao _⟩
def Wz(G G':Gh)(I I':LF)(C C':IB)(p:By)(f dl:Nat)(s:By):Prop:=
 G'=G++[(Dc p,⟨none,(f:Int)⟩)]/\∃I1 da dc,I1.length=I.length+1/\(∀x,x∈I1↔x=((f:Int),⟨none,0,0,1⟩)\/x∈I)/\Gs I1 I' (f:Int) ⟨da,dl,dc,1⟩/\C' f=s/\∀x∈I,C' x.1=C x.1
structure Ns(kd:Nat)(G G':Gh)(I I':LF)(C C':IB)(p:By)(f dl:Nat)(s:By):Prop where
 a8:kd=1\/kd=2\/kd=3
 cj:kd=1->ID G I p=0/\(∃nb:Nat,G'=G++[(Dc p,⟨some (dQ nb 0),0⟩)])/\I'=I/\C'=C
 e1:kd=2->Wz G G' I I' C C' p f dl s/\Hy G p=0/\Je G I (Dc p).dropLast=true/\(∀x∈I,x.1≠(f:Int))/\dl<=1280
 de:kd=3->Hy G p=0/\JW G (Dc p).dropLast=true/\G'=G++[(Dc p,⟨none,(f:Int)⟩)]/\C'=C/\∃r,((f:Int),r)∈I/\Gs I I' (f:Int) ⟨r.a,r.l,r.c,r.f+1⟩
structure Nf(kd:Nat)(G:Gh)(I:LF)(p:By)(f dl:Nat):Prop where
 a8:kd=1\/kd=2\/kd=3
 cj:kd=1->ID G I p=0
 e1:kd=2->Mx G I p f dl
 de:kd=3->Mw G I p f
def Pv(I I':LF)(da:OA):Prop:=∀x∈I',x.2.a=da\/∃y∈I,y.2.a=x.2.a
def WD(da:OA)(w:World)(tb:Nat)(G:Gh)(I:LF)(C:IB)(p:By)(kd f dl:Nat)(s:By)(e:Ending)(w':World):Prop:=
 (∃b:Bool,e=dR (dV b))/\Fr (DV tb w) w w'/\(e=dR (dV true)->∃G' I' C',PS w' tb G' I' C'/\TG G' I'/\Ns kd G G' I I' C C' p f dl s/\Pv I I' da)/\(e=dR (dV false)->¬Nf kd G I p f dl)
theorem Zub(w:World)(tb:Nat)(G:Gh)(I:LF)(C:IB)(h:PS w tb G I C)(c:TG G I)(p:By)(A:p.size<=2000000)(D f:Nat)(i:OA)(dl j:Nat)(s:By)(Y:Sl w 5 1 (dT i dl j) dl (Dd s)):
  Cl 97 #[dP tb,.agg #[dU p,.int .u8 (D:Nat),dI (f:Nat),dT i dl j]] w (WD i w tb G I C p D f dl s):=by
 have ab:=c.gl;have ac:=c.nd;have B:∀W,Bw w W->PS W tb G I C:=λW a=>by obtain⟨K,V,E,L,h⟩:=h;exact⟨K,V,E,L,h.below a (Aa _)⟩
 have aa:G3 I:=by obtain⟨K,V,E,L,h⟩:=h;exact h.si
 refine Zua w tb p D f i dl j _ (λg W a=>?_) (λg W a=>?_) (λg W a=>?_) (λh1 h2 h3 W a=>⟨Γ,Fr.S a,Γ,λ_ e=>by have:=e.a8;omega⟩);apply(Zh8 W tb G I C (B W a) c.ok Ω Ω p A).Q;rintro e X⟨rfl,n,m⟩;refine⟨_,rfl,Γ,Fr.pg a n,λe=>?_,λe o=>?_⟩;rcases m with⟨Z,_⟩|⟨J,nb,U⟩;simp_all;exact⟨_,_,_,U,c.cj J nb,⟨.inl g,Γ,Ω,Ω⟩,λx d=>Γ⟩;have J:=o.cj g;simp_all;apply(ZlI W tb G I C (B W a) c.ok Ω Ω (λx d=>by have:=(c.rg x d).2.2.1;omega) p A f i dl j s (Y.kept (λk g _=>a.block k g))).Q;rintro e X⟨⟨b,rfl⟩,n,m,z⟩;refine⟨b,rfl,Γ,Fr.pg a n,λe=>?_,λe o=>z e (o.e1 g)⟩;obtain⟨q,t,v,l,u,O,P,M,F,H,y,T,Q,R,S⟩:=m e;exact⟨_,P,M,Q,c.e1 q t v u F H y T l,⟨Ω,Ω,λ_=>⟨⟨rfl,O,i,j,F,H,y,R,S⟩,q,t,l,u⟩,Ω⟩,λx d=>by rcases(y.2 x).1 d with rfl|⟨d,Z⟩;simp_all;grind⟩;apply(ZlH W tb G I C (B W a) c.ok Ω Ω (λx d=>by have:=c.rg x d;omega) p A f i dl j).Q;rintro e X⟨⟨b,rfl⟩,n,m,z⟩;refine⟨b,rfl,Γ,Fr.pg a n,λe=>?_,λe o=>z e (o.de g)⟩;obtain⟨q,t,r,N,v,l,u⟩:=m e;exact⟨_,N,C,u,c.de aa q t v l,⟨Ω,Ω,Ω,Γ⟩,λx d=>by rcases(l.2 x).1 d with rfl|⟨d,_⟩;grind;grind⟩
structure TX(G:Gh)(I:LF):Prop where
 nd:cD G []+I.length<=60
 lt:∀x∈I,x.1<60
 us:DL (I.map (·.2.l))<=160
 ch:∀ds,G.countP (GH ds)<=20
theorem TX.nil:TX [] []:=⟨by show 1+0+0<=60;omega,Γ,Ao _,Γ⟩
theorem Tb(h:∀a,G.countP (GH a)<=20){ns:LY}(b:G.countP (GH ns.dropLast)<20)(a:LY):(G++[(ns,u)]).countP (GH a)<=20:=by have:=h a;by_cases e:ns.dropLast=a;subst e;simp[GH]at b ⊢;omega;simp[GH,e];exact this
section
variable{G G':Gh}{I I' I1 I2:LF}{ns:LY}
theorem TX.cj(h:TX G I)(ok:Gp G){nb:Nat}(aa:Gp (G++[(ns,⟨some (dQ nb 0),0⟩)]))(a:Je G I ns.dropLast=true):TX (G++[(ns,⟨some (dQ nb 0),0⟩)]) I:=by have b:=Bd a;refine⟨?_,h.lt,h.us,Tb h.ch b.1.1⟩;grind [UK,cD]
theorem TX.de(h:TX G I)(i:(I.map (·.1)).Nodup)(j:Gp G){f:Int}(k:Gp (G++[(ns,⟨none,f⟩)]))(g:JW G ns.dropLast=true){d:VF}(c:(f,r)∈I)(a:Gs I I' f d)(e:d.l=r.l):TX (G++[(ns,⟨none,f⟩)]) I':=by refine⟨?_,λx b=>?_,by rw[a.e8 i c e];exact h.us,Tb h.ch (Bd g).1⟩;rw[UK j k,a.1];exact h.nd;rcases(a.2 x).1 b with rfl|⟨b,_⟩;exact h.lt (f,r) c;exact h.lt x b
theorem TX.gx(h:TX G I){f:Int}{e:VF}(c:(f,r)∈I)(b:Gs I I' f e)(d:DL (I'.map (·.2.l))<=160):TX G I':=
 ⟨by rw[b.1];exact h.nd,λx a=>(by rcases(b.2 x).1 a with rfl|⟨a,_⟩;exact h.lt (f,r) c;exact h.lt x a),d,h.ch⟩
theorem TX.same(h:TX G I)(c:(I.map (·.1)).Nodup)(a:I'.length=I.length)(b:∀x,x∈I'↔x∈I):TX G I':=by have hp:List.Perm I I':=UG _ _ ((Bj.1 c).imp Γ) Γ Ω;refine⟨by rw[a];exact h.nd,λx d=>h.lt x ((b x).1 d),?_,h.ch⟩;have:=h.us;grind [DL]
theorem TX.er(h:TX G I)(j:Gp G)(k:Gp (G++[(ns,⟨none,(f:Int)⟩)]))(e:Je G I ns.dropLast=true)(hf:f<=I.length){l:VF}(c:I1.length=I.length+1)(d:∀x,x∈I1↔x=((f:Int),l)\/x∈I)(b:Gs I1 I2 f r)(i:DL (I2.map (·.2.l))<=160):TX (G++[(ns,⟨none,(f:Int)⟩)]) I2:=by have g:=Bd e;refine⟨?_,λx a=>?_,i,Tb h.ch g.1.1⟩;rw[UK j k,b.1,c];grind;rcases(b.2 x).1 a with rfl|⟨a,aa⟩;omega;rcases(d x).1 a with rfl|a;omega;exact h.lt x a
theorem TX.h0(h:TX G I)(ok:Gp G)(aa:Gp G')(b:∀q,G'.countP q<=G.countP q)(hl:I'.length<=I.length)(c:∀x∈I',x.1<60)(d:DL (I'.map (·.2.l))<=160):TX G' I':=by refine⟨?_,c,d,λa=>Ae (b _) (h.ch a)⟩;have:=h.nd;grind [Qx]
theorem Zqw{n:Int}(e:(I'.map (·.1)).Nodup)(d:Vf I I' n):DL (I'.map (·.2.l))<=DL (I.map (·.2.l)):=by
 have g:∀(A B:LF),A.Nodup->(∀x∈A,x∈B)->DL (A.map (·.2.l))<=DL (B.map (·.2.l)):=by
  intro A
  induction A with
  |nil=>intro B _ _;exact Ao _
  |cons a A ih=>
   intro B b f;rw[Cf]at b;obtain⟨s,t,rfl⟩:=Eb (f a Θ);have:=ih (s++t) b.2 (λx c=>by grind);simp[DL]at this ⊢;omega
 exact g _ _ ((Bj.1 e).imp Γ) (λx c=>((d.2 x).1 c).1)
theorem TX.ee(h:TX G I){a t:LY}(g:Ii G a t u)(ha:a≠[])(w:Gp (Le G a t))(p:a.dropLast=t.dropLast\/G.countP (GH t.dropLast)<20):TX (Le G a t) I:=by
 refine⟨?_,h.lt,h.us,λl=>?_⟩;rw[Qx w,Le,BJ];have:=h.nd;rw[Qx g.ok]at this;exact this;unfold Le;rw[BJ];by_cases k:t <+: l
 obtain⟨r,rfl⟩:=k;refine Ae (EP (λx j b=>?_)) (h.ch (a++r));simp only[C6,GH,An]at b ⊢;by_cases f:a <+: x.1;obtain⟨s,c⟩:=f;rw[<-c,J0]at b;rw[<-c];have d:s≠[]:=λe=>by subst e;rw[Ca]at b;have:=Cp List.length b;rw[List.length_dropLast,Ah]at this;have:=FY.2 g.ne;omega
 grind [List.dropLast_append_of_ne_nil,List.append_cancel_left];rw[JF f]at b;exact absurd ⟨r++[x.1.getLast (g.ok.ne x j)],by rw[<-Ar,<-b,Cx]⟩ (g.fh j);by_cases o:t.dropLast=l;subst o;rcases p with e|e;refine Ae (EP (λx j b=>?_)) (h.ch t.dropLast);simp only[C6,GH,An]at b ⊢;by_cases f:a <+: x.1;obtain⟨s,c⟩:=f;rw[<-c,J0]at b;by_cases d:s=[];subst d;rw[<-c,Ca];exact e;rw[CP d]at b;exact absurd ⟨s.dropLast,b⟩ k;grind [JF];have v:∀X:Gh,(X.map (·.1)).Nodup->(∀x∈X,x∈G)->X.countP (GH t.dropLast ∘ λx=>(Ld a t x.1,x.2))<=X.countP (GH t.dropLast)+X.countP (λx=>decide (x.1=a)):=by
  intro X _ n
  induction X with
  |nil=>simp
  |cons x X ih=>
   have:=ih (by rename_i i;exact(Cf.1 i).2) (λy m=>n y (by simp[m]));have j:=n x Θ;simp only[CG];have h1:(GH t.dropLast ∘ λx=>(Ld a t x.1,x.2)) x=true->GH t.dropLast x=true\/x.1=a:=λb=>by simp only[C6,GH,An]at b ⊢;by_cases f:a <+: x.1;obtain⟨s,c⟩:=f;rw[<-c,J0]at b;by_cases d:s=[];subst d;right;rw[<-c,Ca];rw[CP d]at b;exact absurd ⟨s.dropLast,b⟩ k;grind [JF]
   grind
 have h2:G.countP (λx=>decide (x.1=a))<=1:=by
  have h3:=g.ok.nd;have h4:∀X:Gh,(X.map (·.1)).Nodup->X.countP (λx=>decide (x.1=a))<=1:=by
   intro X i
   induction X with
   |nil=>simp
   |cons x X ih=>
    rw[A6,Cf]at i;have:=ih i.2;simp only[CG];by_cases e:x.1=a;have:X.countP (λx=>decide (x.1=a))=0:=(by rw[C5];intro y m q;exact i.1 (by rw[e,<-Bd q];exact Fg m));simp[e,this];simp_all
  simp_all
 have:=v G g.ok.nd (λ_ h=>h);omega;refine Ae (EP (λx j b=>?_)) (h.ch l);simp only[C6,GH,An]at b ⊢;by_cases f:a <+: x.1;obtain⟨s,c⟩:=f;rw[<-c,J0]at b;by_cases d:s=[];subst d;rw[Ca]at b;exact absurd b o;rw[CP d]at b;exact absurd ⟨s.dropLast,b⟩ k;rw[JF f]at b;exact b
theorem Ztj{q:By}(h:Ie G p q=0):(Dc p).dropLast=(Dc q).dropLast\/G.countP (GH (Dc q).dropLast)<20:=by grind [Ie,absurd,Dc]
theorem Rl.tg(h:Rl G I C ρ L F)(b:TX G I):TG G I:=by refine⟨h.ok,h.lG,b.nd,λx a=>⟨h.cf x a,b.lt x a,by rw[h.eu x a];exact h.e3 x a,?_,?_⟩,h.fl,b.us⟩;rw[h.num.ae x a];have:=h.num.bq x a;omega;rw[h.num.ae x a,<-h.lL];grind
end
def JT(Z:Nat->Prop)(tb:Nat)(w:World)(k:Nat):Prop:=(∃t R,Gb w k t R/\(t=214\/t=229\/t=310\/t=293\/t=89\/t=103\/t=9))/\¬Z k
theorem Fr.dh{c w2:World}(a:Fr (JT Z tb w) w c)(b:Fr (JT Z tb c) c w2):Fr (JT Z tb w) w w2:=
 ⟨b.os.M a.os,b.tape.M a.tape,b.output.M a.output,Ae a.size b.size,λk g e=>by have d:=a.block k g e;refine(b.block k Γ (λ⟨⟨t,R,f,i⟩,h⟩=>e ⟨⟨t,R,d.r.M f,i⟩,h⟩)).M d⟩
structure Lg(Z:Nat->Prop)(tb:Nat)(w:World):Prop where
 lt:∀k,Z k->k<w.heap.size
 ty:∀k,Z k->(∃t R,Gb w k t R/\(t=89\/t=103\/t=9))\/k+1<tb
structure L6(Z:Nat->Prop)(w:World)(tb rb:Nat)(vl vf:Value)(L:List (By×Int))(F:LY):Prop extends Gj w rb vl vf L F where
 lo:∀k,Jp rb vl vf k->¬Z k
def Md(Z:Nat->Prop)(w:World)(vb tb rb:Nat)(L:List (By×Int))(F:LY)(L':List (By×Int))(F':LY):Prop:=
 ∃G I C ρ vl vf,Gt w vb tb/\PS w tb G I C/\L6 Z w tb rb vl vf L F/\Rl G I C ρ L' F'/\TX G I/\Lg Z tb w
section
variable{Z:Nat->Prop}{w w':World}{vb tb rb:Nat}{L L' L1:List (By×Int)}{F F' F1:LY}{G G':Gh}{I I':LF}{C C':IB}{ρ ρ':Int->Nat}{vl vf:Value}
theorem Kb(h:Gj w rb vl vf L F)(a:Jp rb vl vf k):∃t R,Gb w k t R/\(t=89\/t=103\/t=9):=by rcases a with rfl|a|a;exact⟨_,_,h.hd,.inl rfl⟩;obtain⟨R,b⟩:=h.sl.type a;grind;obtain⟨R,b⟩:=h.sf.type a;grind
theorem Lg.i5(h:Lg Z tb w)(b:Fr X w w')(hX:∀k t R,Z k->X k->Gb w k t R->t=89\/t=103\/t=9->False):Lg Z tb w':=
 ⟨λk a=>As (h.lt k a) b.size,λk a=>(h.ty k a).imp (λ⟨t,R,c,d⟩=>⟨t,R,(b.block k (h.lt k a) Γ).M c,d⟩) id⟩
theorem Lg.e(h:Lg Z tb w)(a:Fr X w w')(hX:∀k,X k->¬Z k):Lg Z tb w':=h.i5 a Γ
theorem Lg.pg(h:Lg Z tb w)(c:DV tb w k):¬Z k:=λd=>by obtain⟨⟨t,R,a,ht⟩,hl⟩:=c;rcases h.ty k d with⟨t',R',b,aa⟩|q;have:=a.type b;grind;omega
theorem Lg.set(h:Lg Z tb w)(f:Gb w b t R)(v:Value):Lg Z tb (w.setCell (dQ b j) v):=by have d:Fr (λk=>k=b) w (w.setCell (dQ b j) v):=(Fr.refl _ _).set _ _ rfl;refine⟨λk a=>As (h.lt k a) d.size,λk a=>(h.ty k a).imp (λ⟨l,i,c,g⟩=>?_) id⟩;by_cases e:k=b;subst e;have:=c.type f;subst this;exact⟨_,_,f.set j v,g⟩;exact⟨l,i,(d.block k (h.lt k a) e).M c,g⟩
theorem Md.pg(g:Lg Z tb w)(i:Gt w vb tb)(f:L6 Z w tb rb vl vf L F)(a:Fr (DV tb w) w w')(p:PS w' tb G' I' C')(q:Rl G' I' C' ρ' L' F')(o:TX G' I'):Fr (JT Z tb w) w w'/\Md Z w' vb tb rb L F L' F':=by refine⟨⟨a.os,a.tape,a.output,a.size,λk d m=>a.block k d (λ⟨⟨t,R,b,c⟩,n⟩=>m ⟨⟨t,R,b,by rcases c with h|h|h|h<;>simp[h]⟩,g.pg ⟨⟨t,R,b,c⟩,n⟩⟩)⟩,G',I',C',ρ',vl,vf,?_,p,?_,q,o,g.e a (λ_ e=>g.pg e)⟩;refine Gt.e i a (λ⟨⟨t,R,b,c⟩,_⟩=>?_);obtain⟨j,r⟩:=i.row;have:=b.type r;simp_all;refine⟨f.e a (λk d ⟨⟨t,R,b,c⟩,_⟩=>?_),f.lo⟩;obtain⟨t',j,l,aa⟩:=Kb f.toGj d;have:=b.type l;grind
theorem PS.e(h:PS w tb G I C)(c:Fr X w w')(a:¬X 0)(b:∀k t R,X k->Gb w k t R->t≠214/\t≠229/\t≠310/\t≠293/\t≠5):PS w' tb G I C:=by obtain⟨d,V,E,e,h⟩:=h;exact⟨d,V,E,e,h.e c a b⟩
theorem PS.gj(h:PS w tb G I C):(I.map (·.1)).Nodup:=by obtain⟨rd,V,E,vi,h⟩:=h;exact h.si.nd
theorem Md.dw(l:Lg Z tb w)(j:Gt w vb tb)(g:PS w tb G I C)(d:L6 Z w tb rb vl vf L F)(u:Rl G I C ρ L' F')(r:TX G I)(s:Gc w rb vl vf w' L1 F1):Fr (JT Z tb w) w w'/\Md Z w' vb tb rb L1 F1 L' F':=by
 obtain⟨y,x,n,b,o⟩:=s;have v:∀k t R,Jp rb vl vf k->Gb w k t R->t=89\/t=103\/t=9:=λk t R a c=>by obtain⟨t',m,p,aa⟩:=Kb d.toGj a;have:=c.type p;simp_all
 refine⟨⟨b.os,b.tape,b.output,b.size,λk a q=>b.block k a (λf=>?_)⟩,G,I,C,ρ,y,x,?_,?_,⟨n,λk a=>(o k a).elim (d.lo k) (λh e=>by have:=l.lt k e;omega)⟩,u,r,l.e b d.lo⟩;obtain⟨t,R,c,i⟩:=Kb d.toGj f;exact q ⟨Γ,d.lo k f⟩;refine Gt.e j b (λa=>?_);obtain⟨m,ab⟩:=j.row;grind
 .refine g.e b (λa=>?_) (λk t R a c=>?_);obtain⟨t,R,c,i⟩:=Kb d.toGj a;obtain⟨rd,V,E,vi,h⟩:=g;have:=h.pk.2 t R c;subst this
  revert i;decide
  .rcases v k t R a c with rfl|rfl|rfl<;>decide
theorem Md.below(h:Md Z w vb tb rb L F L' F')(b:Bw w w'):Md Z w' vb tb rb L F L' F':=by obtain⟨G,I,C,ρ,vl,vf,f,d,a,e,c,g⟩:=h;exact(Md.dw g f d a e c (Gc.same a.toGj b)).2
theorem Md.bv(h:Md Z w vb tb rb L F L' F'){f:FuncId}{args:Array Value}(a:∀vl vf,Gj w rb vl vf L F->Calls prog f args w λe w'=>e=dR v/\Gc w rb vl vf w' L1 F1):
  Calls prog f args w λe w'=>e=dR v/\Fr (JT Z tb w) w w'/\Md Z w' vb tb rb L1 F1 L' F':=by
 obtain⟨G,I,C,ρ,vl,vf,hv,aa,b,ab,hn,hz⟩:=h;exact(a vl vf b.toGj).Q (by grind [Md.dw])
end
section
variable{Z:Nat->Prop}{w:World}{vb tb rb:Nat}{L:List (By×Int)}{F:LY}
theorem MW(h:Md Z w vb tb rb L F L F)(p:By)(o:p.size<=2000000):
  Cl 58 #[dP vb,dU p] w λe w'=>e=dR (dI (Ka L F p).1)/\Fr (JT Z tb w) w w'/\Md Z w' vb tb rb L F (Ka L F p).2 F:=by
 obtain⟨G,I,C,ρ,vl,vf,f,q,s,a,n,t⟩:=h;have aa:=a.lG;have ab:=a.lI;apply(MV w vb tb f p (PU w tb G I C p) (λe w' r=>⟨_,r.1⟩) (Zh8 w tb G I C q a.ok Ω Ω p o)).Q;rintro e w'⟨rfl,l,k⟩;obtain⟨g,e2,i⟩:=a.eo p;refine⟨by rw[g],?_⟩;rcases k with⟨ac,c⟩|⟨b,nb,c⟩;grind [Md.pg];obtain⟨j,-,-,-,-,m⟩:=i b;rw[j];have d:=a.dr b nb;exact Md.pg t f s l c d (n.cj a.ok d.ok m)
theorem N9(h:Md Z w vb tb rb L F L F)(p q:By)(B:p.size<=2000000)(d:q.size<=2000000):
  Cl 61 #[dP vb,dU p,dU q] w λe w'=>e=dR (dI (J3 L F p q).1)/\Fr (JT Z tb w) w w'/\Md Z w' vb tb rb L F (J3 L F p q).2 F:=by
 obtain⟨G,I,C,ρ,vl,vf,k,D,E,a,g,J⟩:=h;have aa:=a.lG;have ab:=a.lI;apply(N8 w vb tb k p q (PZ w tb G I C p q) (λe w' d=>⟨_,d.1⟩) (Znn w tb G I C D a.ok Ω Ω a.d7 p q B d)).Q;rintro e w'⟨rfl,A,z⟩;obtain⟨s,e2,t⟩:=a.hg g.nd p q;refine⟨by rw[s],?_⟩;rcases z with⟨ac,i⟩|⟨x,u,r,I',y,H,b,c,i⟩;grind [Md.pg];obtain⟨v,l,m,n,o,f⟩:=t x u y H;rw[v];have j:=a.g8 l m n o f b c (c.nd a.num.nd b);exact Md.pg J k E A i j (g.de a.num.nd a.ok j.ok f b c rfl)
theorem ZsZ(h:Md Z w vb tb rb L F L F)(p:By)(K:p.size<=2000000):
  Cl 63 #[dP vb,dU p] w λe w'=>e=dR (dI (J9 L p).1)/\Fr (JT Z tb w) w w'/\Md Z w' vb tb rb L F (J9 L p).2 F:=by
 obtain⟨G,I,C,ρ,vl,vf,m,M,y,a,b,A⟩:=h;have aa:=a.lG;have ab:=a.lI;apply(ZsY w vb tb m p (PW w tb G I C p) (λe w' N=>⟨_,N.1⟩) (Zk0 w tb G I C M a.ok Ω Ω a.d7 p K)).Q;rintro e w'⟨rfl,t,j⟩;obtain⟨D,e2,E⟩:=a.ff p;refine⟨by rw[D],?_⟩;rcases j with⟨ac,c⟩|⟨J,u,i,j⟩;grind [Md.pg]
 .obtain⟨H,o,s,B⟩:=E J u i;rw[H];have k:=RR a.ok.nd (Dc p);have z:∀q,(KB G (Dc p)).countP q<=G.countP q:=by grind [List.Sublist.countP_le,O5,Dc]
  rcases j with⟨g,c⟩|⟨g,r,I',l,f,c⟩;have d:=a.gr o s i g (B g);exact Md.pg A m y t (c _ k) d (b.h0 a.ok d.ok z (Aa _) b.lt b.us)
  .have v:(I'.map (·.1)).Nodup:=(c _ k).gj;have d:=a.fx o s i g l f v;refine Md.pg A m y t (c _ k) d (b.h0 a.ok d.ok z ?_ ?_ ?_)
   .rcases f with⟨_,h,_⟩|⟨_,h,_⟩<;>omega
   rcases f with⟨_,h⟩|⟨_,h⟩;exact λx n=>b.lt x ((h.2 x).1 n).1;exact λx n=>((h.2 x).1 n).elim (λe=>by rw[e];exact b.lt (u.f,r) l) (λe=>b.lt x e.1);rcases f with⟨_,h⟩|⟨_,h⟩;exact Ae (Zqw v h) b.us;rw[h.e8 a.num.nd l rfl];exact b.us
theorem N5(h:Md Z w vb tb rb L F L F)(p q:By)(x:p.size<=2000000)(c:q.size<=2000000):
  Cl 62 #[dP vb,dU p,dU q] w λe w'=>e=dR (dI (J4 L p q).1)/\Fr (JT Z tb w) w w'/\Md Z w' vb tb rb L F (J4 L p q).2 F:=by
 obtain⟨G,I,C,ρ,vl,vf,j,y,z,a,v,A⟩:=h;have aa:=a.lG;apply(N4 w vb tb j p q (PV w tb G I C p q) (λe w' c=>⟨_,c.1⟩) (Znj w tb G I C y a.ok Ω p q x c)).Q;rintro e w'⟨rfl,t,s⟩;obtain⟨n,e2,o⟩:=a.hb p q;refine⟨by rw[n],?_⟩;rcases s with⟨ab,g⟩|⟨f,g⟩;grind [Md.pg];obtain⟨u,b,r,k,l,d,m⟩:=o f;rw[r];have i:=a.ee b k l d m;exact Md.pg A j z t (g u b) i (v.ee b d i.ok (Ztj f))
theorem SK(h:Md Z w vb tb rb L F L F)(p:By)(n:Int)(N:p.size<=2000000):
  Cl 60 #[dP vb,dU p,dI n] w λe w'=>e=dR (dI (JI L F p n).1)/\Fr (JT Z tb w) w w'/\Md Z w' vb tb rb L F L (JI L F p n).2:=by
 obtain⟨G,I,C,ρ,vl,vf,i,O,v,b,q,z⟩:=h;have ab:=b.lG;have ac:=b.lI;have B:=b.e3;have M:∀x∈I,x.2.l<=2000000:=λx R=>by rw[b.eu x R];grind
 refine(SJ w vb tb i p n (PY w tb G I C p n) (λe w' g=>?_) (ZpL w tb G I C O b.ok Ω Ω b.d7 M B p N n)).Q ?_;rcases g with⟨_,k,_⟩|⟨_,u,r,a,c,_,_,_,_,I',_,⟨k,_⟩|⟨k,_⟩⟩;simp_all;simp_all;simp_all;intro e w' g;obtain⟨e1,A⟩:=b.ia p n;rcases g with⟨ae,rfl,f,d⟩|⟨j,u,r,a,c,D,Q,l,f,I',J,E⟩;grind [Md.pg];have ad:=Bd (O4 j);have P:=Jr (C u.f) n.toNat;have t:=b.ew l (s:=Dg (C u.f) n.toNat) Ω (by rw[P];omega);have y:=t.num.df;rw[<-P4]at y;rw[A j u D Q,<-y];rcases E with⟨rfl,H,aa,d,m,o⟩|⟨rfl,K,d⟩;rw[if_pos H];refine⟨rfl,Md.pg z i v f d (b.dn m o d.gj Γ) (q.same b.num.nd m o)⟩;rw[if_neg Ω];refine⟨rfl,Md.pg z i v f d t (q.gx l J K)⟩
theorem WQ{i:Int}{d:By}(h:0<=i/\i<=1280-(d.size:Int))(hs:s.size<=1280):(Il s i d).size<=1280:=by grind [Il,OY]
theorem Y8{i:Int}{d:By}(h:IC G I p i d=0):0<=i/\i<=1280-(d.size:Int):=by
 by_cases a:QR i d=true;exact Bd a;have hl:DA G p (QR i d)≠0:=by grind [DA]
 simp_all[IC,if_pos]
theorem NU(h:Md Z w vb tb rb L F L' F')(p:By)(y:p.size<=2000000)(i n:Int)(s:i<=9223372036854775807)(t:n<=9223372036854775807):
  Cl 55 #[dP vb,dU p,dI i,dI n] w λe w'=>(∃a m c,e=dR (.tuple #[dT a m c,dI (JL L' F' p i n).2])/\m=(JL L' F' p i n).1.size/\Sl w' 5 1 (dT a m c) m (Dd (JL L' F' p i n).1))/\Bw w w':=by
 obtain⟨G,I,C,ρ,vl,vf,B,⟨D,V,E,H,z⟩,ad,b,ac,_⟩:=h;have aa:=b.lG;have ab:=b.lI;refine(NT w vb tb B p i n (S1 w G C p i n) (λe w' d=>?_) (Znf w tb D V E H G I C z b.ok Ω Ω b.d7 b.e3 p y i n s t)).Q ?_;rcases d with⟨⟨_,r⟩|⟨_,u,_,_,x,m,r,_⟩,_⟩
 simp_all;simp_all;rintro e w'⟨d,q⟩;obtain⟨f,k,l⟩:=b.h6 p i n;refine⟨?_,q⟩;rcases d with⟨v,rfl⟩|⟨j,u,o,A,x,m,rfl,_,g⟩;rw[k v,<-f];exact⟨none,0,0,rfl,rfl,rfl,Γ⟩;rw[<-f,j,l j u o A];refine⟨_,_,_,rfl,?_,g⟩;have h1:=g.1;simp_all[Dd]
theorem NO(h:Md Z w vb tb rb L F L' F')(p:By)(s:p.size<=2000000):
  Cl 57 #[dP vb,dU p] w λe w'=>e=dR (.tuple #[(J6 L' F' p).1,dI (J6 L' F' p).2])/\Bw w w':=by
 obtain⟨G,I,C,ρ,vl,vf,i,⟨z,V,E,A,y⟩,ad,g,ac,_⟩:=h;have aa:=g.lG;have ab:=g.lI;obtain⟨j,m,o⟩:=g.h3 p;have ae:∀e W f,S2 W G I p e f->e=dR (.tuple #[(J6 L' F' p).1,dI (J6 L' F' p).2])/\∃a b c d k,e=dR (.tuple #[.agg #[dU a,dV b,dI c,dI d],dI k]):=by rintro e W f⟨⟨r,rfl⟩|⟨l,v,i,rfl⟩,_⟩;refine⟨by rw[m r,<-j],?_⟩;exact⟨_,_,_,_,_,rfl⟩;refine⟨by rw[o l v i,<-j,l],?_⟩;rcases i with⟨_,rfl⟩|⟨ds,n,u,_,_,x⟩;exact⟨_,_,_,_,_,rfl⟩;obtain⟨b,c,d,rfl⟩:=Wg x;simp_all
 apply(NN w vb tb i p (λe=>∃W f,S2 W G I p e f) Γ (λW q=>(Znb W tb z V E A G I C (y.below q (Aa _)) g.ok Ω Ω g.d7 p s).Q (λe f t=>⟨Γ,t.2⟩))).Q;grind
theorem WX(h:Md Z w vb tb rb L F L' F'):
  Cl 34 #[dP vb] w λe w'=>e=dR (dI (JM L' F':Nat))/\Bw w w':=by
 obtain⟨G,I,C,ρ,vl,vf,f,⟨rd,V,E,i,b⟩,ac,a,ab,_⟩:=h;have aa:=a.lI;have hC:=a.e3;have d:∀x∈I,x.2.l<=2000000:=λx g=>by rw[a.eu x g];grind
 have c:=a.num.df;rw[<-P4]at c;rw[<-c];exact MR w vb tb f _ Γ (ZhL w tb _ i I b.t b.i Ω d)
end
variable{Z:Nat->Prop}
theorem Qn(n:Int)(w:World):Cl 16 #[dI n] w λe w'=>e=dR (dI n)/\w'=w:=by go_enter func16,ntmps16;go_wp2;go_ret;exact⟨rfl,rfl⟩
structure Jf(L:List (By×Int))(F:LY):Prop where
 len:L.length<=100
 fv:∀x∈L,x.2<F.length
 ok:∀x∈L,Di x.1=true
 un:∀(i j:Nat) x y,L[i]?=some x->L[j]?=some y->x.1=y.1->i=j
theorem Rl.jf(h:Rl G I C ρ L F):Jf L F:=by refine⟨by rw[h.lL];exact h.lG,λx c=>?_,λx c=>?_,λi j x y c d m=>?_⟩;rw[h.b9]at c;obtain⟨y,d,rfl⟩:=AB.1 c;show DP ρ y.2<_;unfold DP;split;omega;rename_i p;obtain⟨r,q⟩:=h.fl y d (by simpa using p);have:=h.num.lt _ q;simp only at this;omega;rw[h.b9]at c;obtain⟨y,d,rfl⟩:=AB.1 c;exact TK (h.ok.az y d) (h.ok.ne y d) (h.ok.le y d);rw[h.b9,A8]at c d;obtain⟨a,f,rfl⟩:=ED.1 c;obtain⟨b,g,rfl⟩:=ED.1 d;have e:=OG (h.ok.az a (Ai f)) (h.ok.az b (Ai g)) m;obtain⟨n,k⟩:=Ac.1 f;obtain⟨o,l⟩:=Ac.1 g;exact(List.getElem_inj (h₀:=by simpa using n) (h₁:=by simpa using o) h.ok.nd).1 (by simp[k,l,e])
theorem Md.jf(h:Md Z w vb tb rb L F L' F'):Jf L' F':=by obtain⟨G,I,C,ρ,vl,vf,hv,aa,ab,a,hn,_⟩:=h;exact a.jf
def D8(w:World)(xb vb rb:Nat)(kp ep fs:Value):Prop:=Gb w xb 55 [dP vb,dP rb,kp,ep,fs]
structure K1(Z:Nat->Prop)(w W:World)(vb tb rb xb:Nat)(kp ep fs:Value)(ob:Nat)(O:Gf)(L:List (By×Int))(F:LY)(L':List (By×Int))(F':LY):Prop where
 e:Fr (JT Z tb w) w W
 md:Md Z W vb tb rb L F L' F'
 x:D8 W xb vb rb kp ep fs
 o:Gb W ob 51 O
section
variable{w W W':World}{vb tb rb xb ob:Nat}{kp ep fs:Value}{O:Gf}{L L' L1:List (By×Int)}{F F' F1:LY}
theorem Gb.jt(h:Gb W k t R)(b:Fr (JT Z tb W) W W')(c:¬(t=214\/t=229\/t=310\/t=293\/t=89\/t=103\/t=9)):Gb W' k t R:=
 h.e b (λ⟨⟨t',R',a,d⟩,_⟩=>c (by rw[h.type a];exact d))
theorem K1.next(h:K1 Z w W vb tb rb xb kp ep fs ob O L F L' F')(a:Fr (JT Z tb W) W W')(b:Md Z W' vb tb rb L1 F1 L' F'):K1 Z w W' vb tb rb xb kp ep fs ob O L1 F1 L' F':=
 ⟨h.e.dh a,b,Gb.jt h.x a Δ,h.o.jt a Δ⟩
theorem K1.cp(h:K1 Z w W vb tb rb xb kp ep fs ob O L F L' F')(a:Fr (JT Z tb W) W W')(b:Md Z W' vb tb rb L F L1 F1):K1 Z w W' vb tb rb xb kp ep fs ob O L F L1 F1:=
 ⟨h.e.dh a,b,Gb.jt h.x a Δ,h.o.jt a Δ⟩
theorem K1.below(h:K1 Z w W vb tb rb xb kp ep fs ob O L F L' F')(a:Bw W W'):K1 Z w W' vb tb rb xb kp ep fs ob O L F L' F':=
 h.next (Fr.S a) (h.md.below a)
theorem K1.c0(h:K1 Z w W vb tb rb xb kp ep fs ob O L F L' F'):W.cell? (dQ xb 0)=some (dP vb):=(Gb.J h.x 0).M rfl
theorem K1.c1(h:K1 Z w W vb tb rb xb kp ep fs ob O L F L' F'):W.cell? (dQ xb 1)=some (dP rb):=(Gb.J h.x 1).M rfl
theorem K1.begin(c:D8 w xb vb rb kp ep fs)(b:Md Z w vb tb rb L F L' F')(O:Gf):K1 Z w (w.alloc (.cells O.toArray 51)) vb tb rb xb kp ep fs w.heap.size O L F L' F':=by have a:Bw w (w.alloc (.cells O.toArray 51)):=(Ad _ _).alloc (Aa _) _;exact⟨Fr.S a,b.below a,Gb.jt (Z:=Z) (tb:=tb) c (Fr.S a) Δ,D9 w O 51⟩
end
abbrev Gm(k kk a b:Int)(s t u:By):Gf:=[dI k,dI kk,dI a,dI b,dU s,dU t,dU u]
def Kw(Z:Nat->Prop)(w:World)(vb tb rb xb:Nat)(kp ep fs:Value)(L':List (By×Int))(F':LY)(e:Ending)(w':World):Prop:=
 e=dR (dV true)/\Fr (JT Z tb w) w w'/\D8 w' xb vb rb kp ep fs/\Md Z w' vb tb rb L' F' L' F'
theorem K1.post{xb ob:Nat}{kp ep fs:Value}{O:Gf}(h:K1 Z w W vb tb rb xb kp ep fs ob O L' F' L' F'):Kw Z w vb tb rb xb kp ep fs L' F' (dR (dV true)) W:=⟨rfl,h.e,h.x,h.md⟩
theorem NL(w:World)(vb tb rb xb:Nat)(kp ep fs:Value)(L:List (By×Int))(F:LY)(p:D8 w xb vb rb kp ep fs)(j:Md Z w vb tb rb L F L F)(f a b:Int)(s t u:By)(hs:s.size<=1048576):
  Cl 36 #[dP xb,.agg (Gm 1 f a b s t u).toArray] w (Kw Z w vb tb rb xb kp ep fs (Ka L F s).2 F):=by
 have o:=j.jf;have d:=K1.begin p j (Gm 1 f a b s t u);have k:Hid (∀W,K1 Z w W vb tb rb xb kp ep fs w.heap.size (Gm 1 f a b s t u) L F L F->Cl 58 #[dP vb,dU s] W λe w'=>e=dR (dI (Ka L F s).1)/\K1 Z w w' vb tb rb xb kp ep fs w.heap.size (Gm 1 f a b s t u) L F (Ka L F s).2 F):=λW c=>
  (MW c.md s Ω).Q (λe w' ⟨g,h,i⟩=>⟨g,c.cp h i⟩)
 have l:Hid (∀W,K1 Z w W vb tb rb xb kp ep fs w.heap.size (Gm 1 f a b s t u) L F (Ka L F s).2 F->Cl 43 #[dP rb,dU s] W λe w'=>e=dR (dI (Ka L F s).1)/\K1 Z w w' vb tb rb xb kp ep fs w.heap.size (Gm 1 f a b s t u) (Ka L F s).2 F (Ka L F s).2 F):=λW c=>
  (c.md.bv (λz y x=>ZoR W rb z y L F x (by have:=o.len;omega) s Ω)).Q (λe w' ⟨g,h,i⟩=>⟨g,c.next h i⟩)
 obtain⟨R,m⟩:=ex ((Ka L F s));rw[<-m]at k l ⊢;clear m p j o;go_enter func36,ntmps36;obtain⟨W,n,-,-,-,-⟩:=Df w (Gm 1 f a b s t u) 51;rw[n]at d;have o0:=d.o.J 0;have o4:=d.o.J 4;have x0:=d.c0;have x1:=d.c1;have q:=Db d;clear d;go_upto_region 1 with fail;clear n;go_upto_region 4 with fail;go_region_held3 (λW=>W.cell? (dQ xb 0)=some (dP vb)/\W.cell? (dQ xb 1)=some (dP rb)/\W.cell? (dQ w.heap.size 4)=some (dU s)) (go_keep)
  (first|(go_at_call 58;apply(Da k _ ((Da q).below (Ad _ _).drew)).Q;rintro e w1⟨rfl,c⟩;have m0:=c.c0;have m1:=c.c1;have m4:=c.o.J 4;have r:=Db c;clear c)|(go_at_call 16;apply(Qn _ _).Q;rintro e w2⟨rfl,rfl⟩)|(go_at_call 43;apply(Da l _ (Da r)).Q;rintro e w3⟨rfl,c⟩;have n0:=c.c0;have n1:=c.c1;have n4:=c.o.J 4;have v:=Db c;clear c))
 all_goals
  go_wp2;go_ret;exact(Da v).post
theorem NJ(w:World)(vb tb rb xb:Nat)(kp ep fs:Value)(L:List (By×Int))(F:LY)(p:D8 w xb vb rb kp ep fs)(j:Md Z w vb tb rb L F L F)(f a b:Int)(s t u:By)(hs:s.size<=1048576):
  Cl 36 #[dP xb,.agg (Gm 3 f a b s t u).toArray] w (Kw Z w vb tb rb xb kp ep fs L (JI L F s a).2):=by
 have o:=j.jf;have d:=K1.begin p j (Gm 3 f a b s t u);have k:Hid (∀W,K1 Z w W vb tb rb xb kp ep fs w.heap.size (Gm 3 f a b s t u) L F L F->Cl 60 #[dP vb,dU s,dI a] W λe w'=>e=dR (dI (JI L F s a).1)/\K1 Z w w' vb tb rb xb kp ep fs w.heap.size (Gm 3 f a b s t u) L F L (JI L F s a).2):=λW c=>
  (SK c.md s a Ω).Q (λe w' ⟨g,h,i⟩=>⟨g,c.cp h i⟩)
 have l:Hid (∀W,K1 Z w W vb tb rb xb kp ep fs w.heap.size (Gm 3 f a b s t u) L F L (JI L F s a).2->Cl 87 #[dP rb,dU s,dI a] W λe w'=>e=dR (dI (JI L F s a).1)/\K1 Z w w' vb tb rb xb kp ep fs w.heap.size (Gm 3 f a b s t u) L (JI L F s a).2 L (JI L F s a).2):=λW c=>
  (c.md.bv (λz y x=>Zqz W rb z y L F x o.fv s Ω a)).Q (λe w' ⟨g,h,i⟩=>⟨g,c.next h i⟩)
 obtain⟨R,m⟩:=ex ((JI L F s a));rw[<-m]at k l ⊢;clear m p j o;go_enter func36,ntmps36;obtain⟨W,n,-,-,-,-⟩:=Df w (Gm 3 f a b s t u) 51;rw[n]at d;have o0:=d.o.J 0;have o4:=d.o.J 4;have o2:=d.o.J 2;have x0:=d.c0;have x1:=d.c1;have q:=Db d;clear d;go_upto_region 1 with fail;clear n;go_upto_region 8 with fail;go_region_held3 (λW=>W.cell? (dQ xb 0)=some (dP vb)/\W.cell? (dQ xb 1)=some (dP rb)/\W.cell? (dQ w.heap.size 4)=some (dU s)/\W.cell? (dQ w.heap.size 2)=some (dI a)) (go_keep)
  (first|(go_at_call 60;apply(Da k _ ((Da q).below (Ad _ _).drew)).Q;rintro e w1⟨rfl,c⟩;have m0:=c.c0;have m1:=c.c1;have m4:=c.o.J 4;have m2:=c.o.J 2;have r:=Db c;clear c)|(go_at_call 16;apply(Qn _ _).Q;rintro e w2⟨rfl,rfl⟩)|(go_at_call 87;apply(Da l _ (Da r)).Q;rintro e w3⟨rfl,c⟩;have n0:=c.c0;have n1:=c.c1;have n4:=c.o.J 4;have n2:=c.o.J 2;have v:=Db c;clear c))
 all_goals
  go_wp2;go_ret;exact(Da v).post
theorem NI(w:World)(vb tb rb xb:Nat)(kp ep fs:Value)(L:List (By×Int))(F:LY)(p:D8 w xb vb rb kp ep fs)(j:Md Z w vb tb rb L F L F)(f a b:Int)(s t u:By)(hs:s.size<=1048576)(ht:t.size<=1048576):
  Cl 36 #[dP xb,.agg (Gm 4 f a b s t u).toArray] w (Kw Z w vb tb rb xb kp ep fs (J3 L F s t).2 F):=by
 have o:=j.jf;have d:=K1.begin p j (Gm 4 f a b s t u);have k:Hid (∀W,K1 Z w W vb tb rb xb kp ep fs w.heap.size (Gm 4 f a b s t u) L F L F->Cl 61 #[dP vb,dU s,dU t] W λe w'=>e=dR (dI (J3 L F s t).1)/\K1 Z w w' vb tb rb xb kp ep fs w.heap.size (Gm 4 f a b s t u) L F (J3 L F s t).2 F):=λW c=>
  (N9 c.md s t Ω Ω).Q (λe w' ⟨g,h,i⟩=>⟨g,c.cp h i⟩)
 have l:Hid (∀W,K1 Z w W vb tb rb xb kp ep fs w.heap.size (Gm 4 f a b s t u) L F (J3 L F s t).2 F->Cl 44 #[dP rb,dU s,dU t] W λe w'=>e=dR (dI (J3 L F s t).1)/\K1 Z w w' vb tb rb xb kp ep fs w.heap.size (Gm 4 f a b s t u) (J3 L F s t).2 F (J3 L F s t).2 F):=λW c=>
  (c.md.bv (λz y x=>Zrj W rb z y L F x (by have:=o.len;omega) s t Ω Ω)).Q (λe w' ⟨g,h,i⟩=>⟨g,c.next h i⟩)
 obtain⟨R,m⟩:=ex ((J3 L F s t));rw[<-m]at k l ⊢;clear m p j o;go_enter func36,ntmps36;obtain⟨W,n,-,-,-,-⟩:=Df w (Gm 4 f a b s t u) 51;rw[n]at d;have o0:=d.o.J 0;have o4:=d.o.J 4;have o5:=d.o.J 5;have x0:=d.c0;have x1:=d.c1;have q:=Db d;clear d;go_upto_region 1 with fail;clear n;go_upto_region 10 with fail;go_region_held3 (λW=>W.cell? (dQ xb 0)=some (dP vb)/\W.cell? (dQ xb 1)=some (dP rb)/\W.cell? (dQ w.heap.size 4)=some (dU s)/\W.cell? (dQ w.heap.size 5)=some (dU t)) (go_keep)
  (first|(go_at_call 61;apply(Da k _ ((Da q).below (Ad _ _).drew)).Q;rintro e w1⟨rfl,c⟩;have m0:=c.c0;have m1:=c.c1;have m4:=c.o.J 4;have m5:=c.o.J 5;have r:=Db c;clear c)|(go_at_call 16;apply(Qn _ _).Q;rintro e w2⟨rfl,rfl⟩)|(go_at_call 44;apply(Da l _ (Da r)).Q;rintro e w3⟨rfl,c⟩;have n0:=c.c0;have n1:=c.c1;have n4:=c.o.J 4;have n5:=c.o.J 5;have v:=Db c;clear c))
 all_goals
  go_wp2;go_ret;exact(Da v).post
theorem NH(w:World)(vb tb rb xb:Nat)(kp ep fs:Value)(L:List (By×Int))(F:LY)(p:D8 w xb vb rb kp ep fs)(k:Md Z w vb tb rb L F L F)(f a b:Int)(s t u:By)(hs:s.size<=1048576)(ht:t.size<=1048576):
  Cl 36 #[dP xb,.agg (Gm 5 f a b s t u).toArray] w (Kw Z w vb tb rb xb kp ep fs (J4 L s t).2 F):=by
 have j:=k.jf;have d:=K1.begin p k (Gm 5 f a b s t u);have l:Hid (∀W,K1 Z w W vb tb rb xb kp ep fs w.heap.size (Gm 5 f a b s t u) L F L F->Cl 62 #[dP vb,dU s,dU t] W λe w'=>e=dR (dI (J4 L s t).1)/\K1 Z w w' vb tb rb xb kp ep fs w.heap.size (Gm 5 f a b s t u) L F (J4 L s t).2 F):=λW c=>
  (N5 c.md s t Ω Ω).Q (λe w' ⟨g,h,i⟩=>⟨g,c.cp h i⟩)
 have m:Hid (∀W,K1 Z w W vb tb rb xb kp ep fs w.heap.size (Gm 5 f a b s t u) L F (J4 L s t).2 F->Cl 88 #[dP rb,dU s,dU t] W λe w'=>e=dR (dI (J4 L s t).1)/\K1 Z w w' vb tb rb xb kp ep fs w.heap.size (Gm 5 f a b s t u) (J4 L s t).2 F (J4 L s t).2 F):=λW c=>
  (c.md.bv (λz y x=>Zrf W rb z y L F x s t Ω Ω j.ok j.un)).Q (λe w' ⟨g,h,i⟩=>⟨g,c.next h i⟩)
 obtain⟨R,n⟩:=ex ((J4 L s t));rw[<-n]at l m ⊢;clear n p k j;go_enter func36,ntmps36;obtain⟨W,o,-,-,-,-⟩:=Df w (Gm 5 f a b s t u) 51;rw[o]at d;have o0:=d.o.J 0;have o4:=d.o.J 4;have o5:=d.o.J 5;have x0:=d.c0;have x1:=d.c1;have q:=Db d;clear d;go_upto_region 1 with fail;clear o;go_upto_region 12 with fail;go_region_held3 (λW=>W.cell? (dQ xb 0)=some (dP vb)/\W.cell? (dQ xb 1)=some (dP rb)/\W.cell? (dQ w.heap.size 4)=some (dU s)/\W.cell? (dQ w.heap.size 5)=some (dU t)) (go_keep)
  (first|(go_at_call 62;apply(Da l _ ((Da q).below (Ad _ _).drew)).Q;rintro e w1⟨rfl,c⟩;have m0:=c.c0;have m1:=c.c1;have m4:=c.o.J 4;have m5:=c.o.J 5;have r:=Db c;clear c)|(go_at_call 16;apply(Qn _ _).Q;rintro e w2⟨rfl,rfl⟩)|(go_at_call 88;apply(Da m _ (Da r)).Q;rintro e w3⟨rfl,c⟩;have n0:=c.c0;have n1:=c.c1;have n4:=c.o.J 4;have n5:=c.o.J 5;have v:=Db c;clear c))
 all_goals
  go_wp2;go_ret;exact(Da v).post
theorem NG(w:World)(vb tb rb xb:Nat)(kp ep fs:Value)(L:List (By×Int))(F:LY)(o:D8 w xb vb rb kp ep fs)(j:Md Z w vb tb rb L F L F)(f a b:Int)(s t u:By)(hs:s.size<=1048576):
  Cl 36 #[dP xb,.agg (Gm 6 f a b s t u).toArray] w (Kw Z w vb tb rb xb kp ep fs (J9 L s).2 F):=by
 have v:=j.jf;have d:=K1.begin o j (Gm 6 f a b s t u);have k:Hid (∀W,K1 Z w W vb tb rb xb kp ep fs w.heap.size (Gm 6 f a b s t u) L F L F->Cl 63 #[dP vb,dU s] W λe w'=>e=dR (dI (J9 L s).1)/\K1 Z w w' vb tb rb xb kp ep fs w.heap.size (Gm 6 f a b s t u) L F (J9 L s).2 F):=λW c=>
  (ZsZ c.md s Ω).Q (λe w' ⟨g,h,i⟩=>⟨g,c.cp h i⟩)
 have l:Hid (∀W,K1 Z w W vb tb rb xb kp ep fs w.heap.size (Gm 6 f a b s t u) L F (J9 L s).2 F->Cl 89 #[dP rb,dU s] W λe w'=>e=dR (dI (J9 L s).1)/\K1 Z w w' vb tb rb xb kp ep fs w.heap.size (Gm 6 f a b s t u) (J9 L s).2 F (J9 L s).2 F):=λW c=>
  (c.md.bv (λz y x=>Zne W rb z y L F x s Ω)).Q (λe w' ⟨g,h,i⟩=>⟨g,c.next h i⟩)
 obtain⟨R,m⟩:=ex ((J9 L s));rw[<-m]at k l ⊢;clear m o j v;go_enter func36,ntmps36;obtain⟨W,n,-,-,-,-⟩:=Df w (Gm 6 f a b s t u) 51;rw[n]at d;have o0:=d.o.J 0;have o4:=d.o.J 4;have x0:=d.c0;have x1:=d.c1;have p:=Db d;clear d;go_upto_region 1 with fail;clear n;go_upto_region 14 with fail;go_region_held3 (λW=>W.cell? (dQ xb 0)=some (dP vb)/\W.cell? (dQ xb 1)=some (dP rb)/\W.cell? (dQ w.heap.size 4)=some (dU s)) (go_keep)
  (first|(go_at_call 63;apply(Da k _ ((Da p).below (Ad _ _).drew)).Q;rintro e w1⟨rfl,c⟩;have m0:=c.c0;have m1:=c.c1;have m4:=c.o.J 4;have q:=Db c;clear c)|(go_at_call 16;apply(Qn _ _).Q;rintro e w2⟨rfl,rfl⟩)|(go_at_call 89;apply(Da l _ (Da q)).Q;rintro e w3⟨rfl,c⟩;have n0:=c.c0;have n1:=c.c1;have n4:=c.o.J 4;have r:=Db c;clear c))
 all_goals
  go_wp2;go_ret;exact(Da r).post
variable{Z:Nat->Prop}
theorem Oj(s g:By)(b a:Bool)(c e d f:Int):∃q:Bool,(s=g->b=a->c=e->d=f->q=true)/\∀w:World,(binOp .eql 112 (.agg #[dU s,dV b,dI c,dI d]) (.agg #[dU g,dV a,dI e,dI f])).run prog w=.ok (dV q) w:=by go_simp;grind
theorem ZgI(L:List (By×Int))(F:LY)(p:By):∃s b c d,(J6 L F p).1=.agg #[dU s,dV b,dI c,dI d]:=by
 unfold J6 Qz Ql
 (repeat' split)<;>exact Γ
def LH(w:World)(P:Prop)(e:Ending)(w':World):Prop:=(∃b:Bool,e=dR (dV b)/\(P->b=true))/\Bw w w'
theorem YU(w:World)(vb tb x A:Nat)(kp ep fs:Value)(L:List (By×Int))(F:LY)(p:List (By×Int))(o:LY)(V:D8 w A vb x kp ep fs)(T:Md Z w vb tb x L F p o)(ag:Jf L F)(s:By)(hs:s.size<=2000000):
  Cl 50 #[dP A,dU s] w (LH w (L=p/\F=o)):=by
 have x0:w.cell? (dQ A 0)=some (dP vb):=(Gb.J V 0).M rfl;have f:=NO T s Ω;have Y:Hid (∀W,Bw w W->Cl 111 #[dP x,dU s] W λe w'=>e=dR (.tuple #[(J6 L F s).1,dI (J6 L F s).2])/\Bw W w'):=λW P=>by obtain⟨G,I,C,ρ,vl,vf,hv,ar,ao,au,U,_⟩:=T.below P;exact ZqE W x vl vf L F ao.toGj ag.fv s Ω
 have HX:Hid (∀W,Bw w W->W.cell? (dQ A 1)=some (dP x)):=λW P=>((Gb.e V (X:=λ_=>False) (Fr.S P) id).J 1).M rfl;obtain⟨g,h,u2,i,ak⟩:=ZgI L F s;obtain⟨j,k,l,m,al⟩:=ZgI p o s;obtain⟨n,U⟩:=ex ((J6 L F s).2);obtain⟨n',ai⟩:∃n,n=(J6 p o s).2:=Γ;have HE:Hid (L=p/\F=o->(j=g/\k=h/\l=u2/\m=i)/\n'=n):=by rintro⟨rfl,rfl⟩;simp_all
 rw[al,<-ai]at f;rw[ak,<-U]at Y;clear ak U al ai V T ag;go_enter func50,ntmps50;go_wp2_with fail;apply f.Q;rintro e d⟨rfl,Q⟩;clear f;obtain⟨W,hW,b,hk,ap,ae⟩:=Df d [dU ⟨#[]⟩,dV false,dI 0,dI 0] 112;obtain⟨J,K,M,N⟩:=b.c3;obtain⟨B,D,E,H⟩:=b.f3;go_upto_region 2 with fail;have z:=Ke b (dU j) (dV k) (dI l) (dI m);have u:=QS (Q.M (ae.Q Q.size)) Q.size (dU j) (dV k) (dI l) (dI m);obtain⟨y,ab⟩:∃y,y=((((W.setCell (dQ d.heap.size 0) (dU j)).setCell (dQ d.heap.size 1) (dV k)).setCell (dQ d.heap.size 2) (dI l)).setCell (dQ d.heap.size 3) (dI m)):=Γ;rw[<-ab]at z u ⊢;clear ab hW b hk ap ae J K M N B D E H x0;have x1:=Da HX y u;have f:=Da Y y u;go_wp2_with fail;apply f.Q;rintro e a⟨rfl,ad⟩;clear f;have R:=u.M (ad.Q u.size);have O:Gb a d.heap.size 112 _:=(ad.block _ z.lt).M z;obtain⟨W4,am,c,ah,aq,af⟩:=Df a [dU ⟨#[]⟩,dV false,dI 0,dI 0] 112;have an:=O.lt;obtain⟨J,K,M,N⟩:=c.c3;obtain⟨B,D,E,H⟩:=c.f3;go_upto_region 3 with fail;have r:=Ke c (dU g) (dV h) (dI u2) (dI i);have S:=QS (R.M (af.Q R.size)) R.size (dU g) (dV h) (dI u2) (dI i);have v:a.heap.size≠d.heap.size:=Ω;have t:Gb ((((W4.setCell (dQ a.heap.size 0) (dU g)).setCell (dQ a.heap.size 1) (dV h)).setCell (dQ a.heap.size 2) (dI u2)).setCell (dQ a.heap.size 3) (dI i)) d.heap.size 112 [dU j,dV k,dI l,dI m]:=
  ((((ah _ _ _ O).a1 _ _ v).a1 _ _ v).a1 _ _ v).a1 _ _ v
 obtain⟨W5,ac⟩:∃W5,W5=((((W4.setCell (dQ a.heap.size 0) (dU g)).setCell (dQ a.heap.size 1) (dV h)).setCell (dQ a.heap.size 2) (dI u2)).setCell (dQ a.heap.size 3) (dI i)):=Γ;rw[<-ac]at r S t ⊢;clear ac am c ah aq af J K M N B D E H x1 O z v an;obtain⟨a0,a1,a2,a3⟩:=r.c3;obtain⟨c0,c1,c2,c3⟩:=t.c3;obtain⟨q,aj,hq⟩:=Oj j g k h l u2 m i;have HQ:=Db aj;have aa:=Db S;clear aj S;cases q
 .go_wp2;go_ret;exact⟨⟨false,rfl,by grind [Da]⟩,Da aa⟩
 .go_wp2_with(go_at_call 16;apply(Qn _ _).Q;rintro e w2⟨rfl,rfl⟩);go_ret;exact⟨⟨_,rfl,by grind [Da]⟩,Da aa⟩
theorem ZqF(w:World)(vb tb a b:Nat)(d ep fs:Value)(L:List (By×Int))(F:LY)(g:D8 w b vb a d ep fs)(c:Md Z w vb tb a L F L F)(s:By)(f:s.size<=2000000):
  Cl 50 #[dP b,dU s] w λe w'=>e=dR (dV true)/\Bw w w':=
 (YU w vb tb a b d ep fs L F L F g c c.jf s f).Q λ_ _ ⟨⟨_,h1,h2⟩,h3⟩=>Γ
