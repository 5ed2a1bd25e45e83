/- Told. -/
import Derived.Test.YtaieidcohdhgpaaGreatDoorYAU
import Derived.Test.YtaieidcohdhgpaaGreatDoorYAR
namespace Go.Proofs.YtaieidcohdhgpaaGreatDoor
set_option maxHeartbeats 40000000
set_option maxRecDepth 100000
open Go.RowKit
theorem PK{G:Gh}(h:Gk G){p:By}(a:Ho G p=0)(u:VS):DS p=true/\Df p≠[]/\Gl G (Df p)=none/\Gk (G++[(Df p,u)]):=by
 unfold Ho at a
 cases hp:DS p with
 |false=>rw[hp]at a;simp at a
 |true=>
  rw[if_neg (by rw[hp];simp)]at a;unfold Jk at a;by_cases b:GO G (DZ [] (Df p))=0
  ·rw[if_neg (λe=>e b)]at a;by_cases c:Df p=[]\/(Gl G (Df p)).isSome=true
   ·rw[if_pos c]at a;cases a
   ·have d:Df p≠[]:=λe=>c (.inl e)
    have f:Gl G (Df p)=none:=by
     cases e:Gl G (Df p) with
     |none=>rfl
     |some u=>exact absurd (.inr (by rw[e];rfl)) c
    refine⟨rfl,d,f,h.add (Qt hp (Ro hp d)).2.1 d (Uv hp) f (λds n e=>?_) u⟩;rw[e]at b;exact Y8 b
  ·rw[if_pos b]at a;exact absurd a b
structure TG(G:Gh)(I:LF):Prop where
 ok:Gk G
 gl:G.length<=100
 nd:cD G []+I.length<=60
 rg:∀x∈I,0<=x.1/\x.1<60/\x.2.l<=1280/\0<x.2.f/\x.2.f<=G.length
 fl:∀x∈G,x.2.p=none->∃r,(x.2.f,r)∈I
 us:DO (I.map (·.2.l))<=160
theorem Pg{G:Gh}(h:Gk G){ns:LY}{u:VS}(a:Gk (G++[(ns,u)])):cD (G++[(ns,u)]) []=cD G []+(if u.p.isSome=true then 1 else 0):=by
 rw[ST h,ST a,CS,CE];exact(EP _ _ _).symm
theorem VH{G:Gh}{I:LF}{a:LY}(h:Jh G I a=true):G.length<100/\cD G []+I.length<60:=by
 unfold Jh at h;rw[AH]at h;exact⟨h.1.2,h.2⟩
theorem F7.use{I d:LF}{n:Int}{r a:VF}(h:F7 I d n a)(D:Gm I)(z:(n,r)∈I)(A:a.l=r.l):DO (d.map (·.2.l))=DO (I.map (·.2.l)):=by
 have s:=D.nd;have E:∀y∈I,y.1=n->y=(n,r):=λy l e=>by
  have:=Bl.1 s;rcases Classical.em (y=(n,r)) with f|f
  ·exact f
  ·exfalso;obtain⟨i,p,g⟩:=CU.1 l;obtain⟨j,q,c⟩:=CU.1 z;have o:=Bk.1 this;rcases CB i j with b|b|b
   ·exact o i j p q b (by rw[g,c,e])
   ·subst b;rw[g]at c;exact f c
   ·exact o j i q p b (by rw[g,c,e])
 have v:((I.map (λx=>if x.1=n then(n,a) else x)).map (·.1))=I.map (·.1):=by
  rw[Ci];refine Cq (λx _=>?_);show(if x.1=n then(n,a) else x).1=x.1
  split
  ·rename_i e;exact e.symm
  ·rfl
 have B:(I.map (λx=>if x.1=n then(n,a) else x)).Nodup:=by
  have t:((I.map (λx=>if x.1=n then(n,a) else x)).map (·.1)).Nodup:=by rw[v];exact s
  exact(Bl.1 t).imp (λw e=>w (by rw[e]))
 have C:=UC _ d B (λx k=>by
  obtain⟨y,l,rfl⟩:=As.1 k;by_cases e:y.1=n
  ·rw[if_pos e];exact(h.2 _).2 (.inl rfl)
  ·rw[if_neg e];exact(h.2 _).2 (.inr ⟨l,e⟩)) (by rw[AL,h.1];exact Aa _)
 have u:(I.map (λx=>if x.1=n then(n,a) else x)).map (·.2.l)=I.map (·.2.l):=by
  rw[Ci];refine Cq (λx k=>?_);show(if x.1=n then(n,a) else x).2.l=x.2.l
  split
  ·rename_i e;rw[E x k e];exact A
  ·rfl
 have m:=C.map (·.2.l);rw[u]at m;unfold DO;exact((m.map _).sum_nat).symm
theorem TG.dir{G:Gh}{I:LF}(h:TG G I){p:By}(b:IL G I p=0)(nb:Nat):TG (G++[(Df p,⟨some ⟨nb,0,none⟩,0⟩)]) I:=by
 have g:Ho G p=0/\Jh G I (Df p).dropLast=true:=by
  unfold IL at b;unfold Ho
  split at b
  ·cases b
  ·rename_i m;rw[if_neg m]
   split at b
   ·rename_i d;exact absurd b d
   ·rename_i d
    split at b
    ·cases b
    ·rename_i n;exact⟨by omega,by cases e:Jh G I (Df p).dropLast with|true=>rfl|false=>exact absurd e n⟩
 obtain⟨_,_,_,f⟩:=PK h.ok g.1 ⟨some ⟨nb,0,none⟩,0⟩;obtain⟨m1,m2⟩:=VH g.2;refine⟨f,by rw[Ab,Be];omega,?_,λx a=>?_,λx a c=>?_,h.us⟩
 ·rw[Pg h.ok f];show cD G []+1+I.length<=60;omega
 ·obtain⟨i,j,k,l,a5⟩:=h.rg x a;rw[Ab,Be];exact⟨i,j,k,l,by omega⟩
 ·rcases Aq.1 a with a|a
  ·exact h.fl x a c
  ·rw[Ad.1 a]at c;cases c
theorem TG.file{G:Gh}{I:LF}(h:TG G I){p:By}(q:Ho G p=0)(s:Jh G I (Df p).dropLast=true){f:Nat}(hf:f<60){da:OA}{c dc:Nat}(n:c<=1280){I1 I2:LF}(m:I1.length=I.length+1)(d:∀x,x∈I1↔x=((f:Int),⟨none,0,0,1⟩)\/x∈I)(b:F7 I1 I2 (f:Int) ⟨da,c,dc,1⟩)(v:DO (I2.map (·.2.l))<=160)(o:∀x∈I,x.1≠(f:Int)):TG (G++[(Df p,⟨none,(f:Int)⟩)]) I2:=by
 obtain⟨_,_,_,e⟩:=PK h.ok q ⟨none,(f:Int)⟩;obtain⟨m1,m2⟩:=VH s;refine⟨e,by rw[Ab,Be];omega,?_,λx a=>?_,λx a u=>?_,v⟩
 ·rw[Pg h.ok e,b.1,m];show cD G []+0+(I.length+1)<=60;omega
 ·rw[Ab,Be];rcases(b.2 x).1 a with rfl|⟨w,t⟩
  ·exact⟨by show(0:Int)<=(f:Int);omega,by show(f:Int)<60;omega,n,by show(0:Int)<1;omega,by show(1:Int)<=_;omega⟩
  ·rcases(d x).1 w with rfl|y
   ·exact absurd rfl t
   ·obtain⟨i,j,k,l,a5⟩:=h.rg x y;exact⟨i,j,k,l,by omega⟩
 ·rcases Aq.1 a with a|a
  ·obtain⟨r,g⟩:=h.fl x a u;exact⟨r,(b.2 _).2 (.inr ⟨(d _).2 (.inr g),o _ g⟩)⟩
  ·rw[Ad.1 a];exact⟨_,(b.2 _).2 (.inl rfl)⟩
theorem TG.link{G:Gh}{I:LF}(h:TG G I)(v:Gm I){p:By}(t:Ho G p=0)(l:KB G (Df p).dropLast=true){f:Int}{r:VF}(q:(f,r)∈I){d:LF}(b:F7 I d f ⟨r.a,r.l,r.c,r.f+1⟩):TG (G++[(Df p,⟨none,f⟩)]) d:=by
 obtain⟨_,_,_,o⟩:=PK h.ok t ⟨none,f⟩;have m1:G.length<100:=by
  unfold KB at l;rw[AH]at l;exact l.2
 refine⟨o,by rw[Ab,Be];omega,?_,λx a=>?_,λx a u=>?_,by rw[b.use v q rfl];exact h.us⟩
 ·rw[Pg h.ok o,b.1];exact h.nd
 ·rw[Ab,Be];rcases(b.2 x).1 a with rfl|⟨w,aa⟩
  ·obtain⟨g,i,j,k,n⟩:=h.rg _ q;exact⟨g,i,j,by show 0<r.f+1;have:0<r.f:=k;omega,by show r.f+1<=_;have:r.f<=_:=n;omega⟩
  ·obtain⟨g,i,j,k,n⟩:=h.rg x w;exact⟨g,i,j,k,by omega⟩
 ·have s:∀c,(x.2.f,c)∈I->∃r,(x.2.f,r)∈d:=λc m=>by
   by_cases e:x.2.f=f
   ·rw[e];exact⟨_,(b.2 _).2 (.inl rfl)⟩
   ·exact⟨c,(b.2 _).2 (.inr ⟨m,e⟩)⟩
  rcases Aq.1 a with a|a
  ·obtain⟨c,m⟩:=h.fl x a u;exact s c m
  ·rw[Ad.1 a];exact⟨_,(b.2 _).2 (.inl rfl)⟩
theorem TG.none:TG [] []:=
 ⟨⟨λ_ a=>absurd a BF,λ_ a=>absurd a BF,λ_ a=>absurd a BF,CG,λ_ _ _ a=>absurd a BF⟩,Au _,by show 1+0+0<=60;omega,λ_ a=>absurd a BF,λ_ a=>absurd a BF,Au _⟩
def ML(G G':Gh)(I I':LF)(C C':IB)(p:By)(f dl:Nat)(s:By):Prop:=
 G'=G++[(Df p,⟨none,(f:Int)⟩)]/\∃I1 da dc,I1.length=I.length+1/\(∀x,x∈I1↔x=((f:Int),⟨none,0,0,1⟩)\/x∈I)/\F7 I1 I' (f:Int) ⟨da,dl,dc,1⟩/\C' f=s/\∀x∈I,C' x.1=C x.1
def NO(w:World)(tb:Nat)(G:Gh)(I:LF)(C:IB)(p:By)(kd f dl:Nat)(s:By)(e:Ending)(w':World):Prop:=
 (∃b:Bool,e=.returned (.bool b))/\Fr (DM tb w) w w'/\(e=.returned (.bool true)->∃G' I' C',PS w' tb G' I' C'/\TG G' I'/\(kd=2->ML G G' I I' C C' p f dl s))/\(e=.returned (.bool false)->kd=2->¬Le G I p f dl)
theorem Yf(w:World)(tb:Nat)(G:Gh)(I:LF)(C:IB)(h:PS w tb G I C)(c:TG G I)(p:By)(u:p.size<=2000000)(l f:Nat)(da:OA)(d dc:Nat)(s:By)(P:Sl w 5 1 (.slice da d dc) d (Dc s)):
  Cl 97 #[.pointer (some ⟨tb,0,none⟩),.agg #[.string p,.int .u8 (l:Nat),.int .i64 (f:Nat),.slice da d dc]] w (NO w tb G I C p l f d s):=by
 have aa:=c.gl;have ab:=c.nd;have v:∀W,Bw w W->PS W tb G I C:=λW a=>by obtain⟨D,V,E,F,h⟩:=h;exact⟨D,V,E,F,h.below a (Aa _)⟩
 have S:Gm I:=by obtain⟨D,V,E,F,h⟩:=h;exact h.si
 refine Yg w tb p l f da d dc (NO w tb G I C p l f d s) (λj W a=>?_) (λ_ W a=>?_) (λj W a=>?_) (λ_ j _ W a=>⟨⟨false,rfl⟩,Fr.of_below a,(λe=>by cases e),λ_ e=>absurd e j⟩)
 ·refine(WC W tb G I C (v W a) c.ok (by omega) (by omega) p u).mono ?_;rintro e X⟨rfl,i,g⟩;refine⟨_,rfl,⟨_,rfl⟩,Fr.prog a i,λe=>?_,λ_ e=>by omega⟩;rcases g with⟨Q,_⟩|⟨N,nb,O⟩
  ·have:(IL G I p==0)=false:=by simpa using Q
   rw[this]at e;cases e
  ·exact⟨_,_,_,O,c.dir N nb,λe=>by omega⟩
 ·refine(Zjv W tb G I C (v W a) c.ok (by omega) (by omega) (λx y=>by have:=(c.rg x y).2.2.1;omega) p u f da d dc s (P.kept (λk j _=>a.block k j))).mono ?_;rintro e X⟨⟨b,rfl⟩,i,g,R⟩;refine⟨b,rfl,⟨b,rfl⟩,Fr.prog a i,λe=>?_,λe _=>R e⟩;obtain⟨m,n,o,q,t,I1,I2,C2,z,A,B,M,J,K,L⟩:=g e;exact⟨_,I2,C2,J,c.file m n o t z A B M q,λ_=>⟨rfl,I1,da,dc,z,A,B,K,L⟩⟩
 ·refine(Zju W tb G I C (v W a) c.ok (by omega) (by omega) (λx y=>by have:=c.rg x y;omega) p u f da d dc).mono ?_;rintro e X⟨⟨b,rfl⟩,i,g⟩;refine⟨b,rfl,⟨b,rfl⟩,Fr.prog a i,λe=>?_,λ_ e=>by omega⟩;obtain⟨m,n,r,H,o,q,t⟩:=g e;exact⟨_,H,C,t,c.link S m n o q,λe=>by omega⟩
structure Ip(S S':F3)(L:List It):Prop where
 mono:∀n,S n=true->S' n=true
 kind:∀y∈L,y.k=1\/y.k=2\/y.k=3
 told:∀y∈L,y.k=2->S y.f=false/\S' y.f=true
 fresh:L.Pairwise (λx y=>x.k=2->y.k=2->x.f≠y.f)
theorem Ip.nil(S:F3):Ip S S []:=⟨λ_ h=>h,λ_ h=>absurd h BF,λ_ h=>absurd h BF,List.Pairwise.nil⟩
theorem Ip.app{S f g:F3}{A B:List It}(h:Ip S f A)(k:Ip f g B):Ip S g (A++B):=by
 refine⟨λn l=>k.mono n (h.mono n l),λy a=>?_,λy a c=>?_,List.pairwise_append.2 ⟨h.fresh,k.fresh,λx m y a d b e=>?_⟩⟩
 ·exact(Aq.1 a).elim (h.kind y) (k.kind y)
 ·rcases Aq.1 a with e|e
  ·exact⟨(h.told y e c).1,k.mono _ (h.told y e c).2⟩
  ·refine⟨?_,(k.told y e c).2⟩
   cases hs:S y.f with
   |false=>rfl
   |true=>
    have d:=h.mono _ hs;have b:=(k.told y e c).1;rw[d]at b;cases b
 ·have i:=(h.told x m d).2;have j:=(k.told y a b).1;rw[e,j]at i;cases i
theorem Ip.stp{c:LY->F3->List It×F3}(g:∀ns S,Ip S (c ns S).2 (c ns S).1)(ns:LY)(S:F3)(x:Ek):Ip S (GX c ns S x).2 (GX c ns S x).1:=by
 unfold Go.Proofs.YtaieidcohdhgpaaGreatDoor.GX
 split
 ·have h:=g (ns++[x.1]) S;have d:Ip S S [⟨ns++[x.1],1,0⟩]:=⟨λ_ h=>h,λy a=>by rw[Ad.1 a];exact .inl rfl,λy a b=>by(rw[Ad.1 a]at b;cases b),CW _ _⟩;exact d.app h
 ·rename_i f _
  split
  ·exact⟨λ_ h=>h,λy a=>by rw[Ad.1 a];exact .inr (.inr rfl),λy a b=>by(rw[Ad.1 a]at b;cases b),CW _ _⟩
  ·rename_i i;refine⟨λn e=>?_,λy a=>by rw[Ad.1 a];exact .inr (.inl rfl),λy a b=>?_,CW _ _⟩
   ·show(if n=f then true else S n)=true
    split
    ·rfl
    ·exact e
   ·rw[Ad.1 a];exact⟨by simpa using i,by show(if f=f then true else S f)=true;rw[if_pos rfl]⟩
theorem Ip.itL{a:LY->F3->List It×F3}(b:∀ns S,Ip S (a ns S).2 (a ns S).1)(ns:LY):∀(l:List Ek) (S:F3),Ip S (Gx a ns l S).2 (Gx a ns l S).1
 |[],S=>Ip.nil S
 |x::l,S=>(Ip.stp b ns S x).app (Ip.itL b ns l _)
theorem PU(ch:LY->List Ek):∀(d:Nat) (ns:LY) (S:F3),Ip S (DV ch d ns S).2 (DV ch d ns S).1
 |0,_,S=>Ip.nil S
 |d+1,ns,S=>Ip.itL (PU ch d) ns (ch ns) S
theorem ZkV(ch:LY->List Ek)(i j:Nat)(x y:It)(d:i<j)(f:(Dt ch)[i]?=some x)(g:(Dt ch)[j]?=some y)(a:x.k=2)(b:y.k=2):x.f≠y.f:=by
 obtain⟨c,rfl⟩:=Ae.1 f;obtain⟨e,rfl⟩:=Ae.1 g;exact Bk.1 (PU ch 7 [] (λ_=>false)).fresh i j c e d a b
theorem ZmS(ch:LY->List Ek):∀x∈Dt ch,x.k=1\/x.k=2\/x.k=3:=(PU ch 7 [] (λ_=>false)).kind
def MM(R:LY->Prop)(ch:LY->List Ek)(y:It):Prop:=
 ∃ds x,R ds/\x∈ch ds/\y.ns=ds++[x.1]/\((x.2=none/\y.k=1/\y.f=0)\/(x.2=some y.f/\(y.k=2\/y.k=3)))
theorem SE{R:LY->Prop}{ch:LY->List Ek}{c:LY->F3->List It×F3}(h:∀ns S,R ns->∀y∈(c ns S).1,MM R ch y)(g:∀ns x,R ns->x∈ch ns->x.2=none->R (ns++[x.1])){ns:LY}(b:R ns):∀(l:List Ek) (S:F3),(∀x∈l,x∈ch ns)->∀y∈(Gx c ns l S).1,MM R ch y
 |[],S,_,y,hy=>absurd hy BF
 |x::l,S,hl,y,hy=>by
  have d:=hl x Ba;rcases Aq.1 (show y∈(GX c ns S x).1++(Gx c ns l (GX c ns S x).2).1 from hy) with e|e
  ·unfold GX at e
   split at e
   ·rename_i a;rcases AC.1 e with rfl|e
    ·exact⟨ns,x,b,d,rfl,.inl ⟨a,rfl,rfl⟩⟩
    ·exact h _ S (g ns x b d a) y e
   ·rename_i f a
    split at e
    ·rw[Ad.1 e];exact⟨ns,x,b,d,rfl,.inr ⟨a,.inr rfl⟩⟩
    ·rw[Ad.1 e];exact⟨ns,x,b,d,rfl,.inr ⟨a,.inl rfl⟩⟩
  ·exact SE h g b l _ (λz i=>hl z (AF _ i)) y e
theorem P7{R:LY->Prop}{ch:LY->List Ek}(a:∀ns x,R ns->x∈ch ns->x.2=none->R (ns++[x.1])):∀(d:Nat) (ns:LY) (S:F3),R ns->∀y∈(DV ch d ns S).1,MM R ch y
 |0,_,_,_,_,hy=>absurd hy BF
 |d+1,ns,S,hn,y,hy=>SE (P7 a d) a hn (ch ns) S (λ_ h=>h) y hy
structure Sa(ns:LY)(L:List It):Prop where
 pre:∀y∈L,∃t,t≠[]/\y.ns=ns++t
 nd:L.Pairwise (λx y=>x.ns≠y.ns)
theorem stp_n{b:LY->F3->List It×F3}(f:∀ns S,Sa ns (b ns S).1)(ns:LY)(S:F3)(x:Ek):(∀y∈(GX b ns S x).1,∃t,y.ns=ns++x.1::t)/\(GX b ns S x).1.Pairwise (λx y=>x.ns≠y.ns):=by
 unfold GX
 split
 ·have h:=f (ns++[x.1]) S;refine⟨λy a=>?_,FR.2 ⟨λy a e=>?_,h.nd⟩⟩
  ·rcases AC.1 a with rfl|a
   ·exact⟨[],rfl⟩
   ·obtain⟨t,_,e⟩:=h.pre y a;exact⟨t,by rw[e,Ax];rfl⟩
  ·obtain⟨t,g,d⟩:=h.pre y a;have c:ns++[x.1]=y.ns:=e;rw[d]at c;have e4:(ns++[x.1]).length=(ns++[x.1]).length+t.length:=by rw[<-Ab];exact Cu List.length c
   exact g (AA (by omega))
 ·split
  ·exact⟨λy a=>⟨[],by rw[Ad.1 a]⟩,CW _ _⟩
  ·exact⟨λy a=>⟨[],by rw[Ad.1 a]⟩,CW _ _⟩
theorem itL_n{a:LY->F3->List It×F3}(i:∀ns S,Sa ns (a ns S).1)(ns:LY):∀(l:List Ek) (S:F3),l.Pairwise (λx y=>x.1≠y.1)->(∀y∈(Gx a ns l S).1,∃x∈l,∃t,y.ns=ns++x.1::t)/\(Gx a ns l S).1.Pairwise (λx y=>x.ns≠y.ns)
 |[],S,_=>⟨λ_ h=>absurd h BF,List.Pairwise.nil⟩
 |x::l,S,hl=>by
  obtain⟨p,n⟩:=FR.1 hl;obtain⟨f,j⟩:=stp_n i ns S x;obtain⟨g,k⟩:=itL_n i ns l (GX a ns S x).2 n;refine⟨λy c=>?_,List.pairwise_append.2 ⟨j,k,λy c z d e=>?_⟩⟩
  ·rcases Aq.1 (show y∈(GX a ns S x).1++(Gx a ns l (GX a ns S x).2).1 from c) with e|e
   ·obtain⟨t,b⟩:=f y e;exact⟨x,Ba,t,b⟩
   ·obtain⟨z,d,t,b⟩:=g y e;exact⟨z,AF _ d,t,b⟩
  ·obtain⟨t,b⟩:=f y c;obtain⟨r,q,t2,o⟩:=g z d;rw[b,o]at e;have m:=Ey e;injection m with e3 _;exact p r q e3
theorem Tr(ch:LY->List Ek)(a:∀ns,(ch ns).Pairwise (λx y=>x.1≠y.1)):∀(d:Nat) (ns:LY) (S:F3),Sa ns (DV ch d ns S).1
 |0,_,_=>⟨λ_ h=>absurd h BF,List.Pairwise.nil⟩
 |d+1,ns,S=>by
  obtain⟨b,c⟩:=itL_n (Tr ch a d) ns (ch ns) S (a ns);refine⟨λy f=>?_,c⟩;obtain⟨x,_,t,e⟩:=b y f;exact⟨x.1::t,by simp,e⟩
theorem Za(ch:LY->List Ek)(a:∀ns,(ch ns).Pairwise (λx y=>x.1≠y.1)):((Dt ch).map (·.ns)).Nodup:=Bl.2 (Tr ch a 7 [] (λ_=>false)).nd
section
variable{w:World}{tb rd:Nat}{V:NV}{E:NS}{vi:Value}{G:Gh}{I:LF}{CI:IB}
theorem Uj(d:TW w tb rd V E vi G I CI)(_:Gk G)(ns:LY):DT G rd E ns=[]\/∃b,FY G rd ns b/\DT G rd E ns=(E b).map Jb:=by
 by_cases a:ns=[]
 ·exact .inr ⟨rd,.inl ⟨a,rfl⟩,by unfold DT;rw[if_pos a]⟩
 ·cases e:Gl G ns with
  |none=>exact .inl (by unfold DT;rw[if_neg a,e])
  |some u=>
   have c:=KI e;rcases d.d.shp _ c with h|⟨b,f⟩
   ·refine .inl ?_;unfold DT;rw[if_neg a,e];obtain⟨up,uf⟩:=u;have i:up=none:=h;subst i;rfl
   ·have g:u=⟨some ⟨b,0,none⟩,0⟩:=f;subst g;exact .inr ⟨b,.inr c,by unfold DT;rw[if_neg a,e]⟩
theorem Sk(f:TW w tb rd V E vi G I CI)(h:TG G I):IP w tb rd V E vi G I CI (DT G rd E) (La I) (λn=>CI (n:Int)):=by
 have ac:=h.gl;have ad:=h.nd;have A:∀x∈G,x.2.p=none->∃(n:Nat) (r:VF),x.2.f=n/\n<60/\((n:Int),r)∈I:=λx c i=>by
  obtain⟨r,j⟩:=h.fl x c i;obtain⟨L,N,_⟩:=h.rg _ j;have M:0<=x.2.f:=L;have aa:x.2.f<60:=N;exact⟨x.2.f.toNat,r,by omega,by omega,by rw[Int.toNat_of_nonneg M];exact j⟩
 have U:∀ns,(DT G rd E ns).Pairwise (λx y=>x.1≠y.1):=λns=>by
  rcases Uj f h.ok ns with e|⟨b,l,e⟩
  ·rw[e];exact List.Pairwise.nil
  ·rw[e,Bl];exact Bl.1 (f.d.srt ns b l).nodup
 have q:∀y∈Dt (DT G rd E),∃v:VS,(y.ns,v)∈G/\(y.k=1/\y.f=0\/v.p=none/\y.f=v.f.toNat):=λy d=>by
  obtain⟨C,x,⟨b,Q⟩,c,X,Y⟩:=P7 (R:=λns=>∃b,FY G rd ns b) (ch:=DT G rd E) (λns x ⟨b,Q⟩ c D=>by
   rcases Uj f h.ok ns with e|⟨s,l,e⟩
   ·rw[e]at c;exact absurd c BF
   ·rw[e]at c;obtain⟨z,B,rfl⟩:=As.1 c;have m:=(f.d.en ns s l z.1 z.2).1 B;rcases f.d.shp _ m with i|⟨O,S⟩
    ·have W:z.2.p=none:=i;have:(Jb z).2=some z.2.f.toNat:=by unfold Jb;rw[W];rfl
     rw[this]at D;cases D
    ·refine⟨O,.inr ?_⟩;have T:z.2=_:=S;rw[T]at m;exact m) 7 [] (λ_=>false) ⟨rd,.inl ⟨rfl,rfl⟩⟩ y d
  rcases Uj f h.ok C with e|⟨s,l,e⟩
  ·rw[e]at c;exact absurd c BF
  ·rw[e]at c;obtain⟨z,B,rfl⟩:=As.1 c;have m:=(f.d.en C s l z.1 z.2).1 B;refine⟨z.2,by rw[X];exact m,?_⟩;rcases Y with⟨_,K,P⟩|⟨o,_⟩
   ·exact .inl ⟨K,P⟩
   ·refine .inr ?_;unfold Jb at o
    cases i:z.2.p with
    |none=>rw[i]at o;exact⟨rfl,(BR o).symm⟩
    |some a=>rw[i]at o;cases o
 have J:∀y∈Dt (DT G rd E),y.k=2->∃r:VF,((y.f:Int),r)∈I:=λy d p=>by
  obtain⟨v,k,⟨K,_⟩|⟨i,H⟩⟩:=q y d
  ·omega
  ·obtain⟨n,r,g,_,F⟩:=A _ k i;have t:v.f=n:=g;exact⟨r,by rw[H,t];exact F⟩
 refine⟨f.wk h.ok (by omega) (by omega) A,⟨?_,ZmS _,λy d=>?_,λy d=>?_,λy d p=>?_,ZkV _⟩,λy d p=>?_⟩
 ·have:=Qh ((Dt (DT G rd E)).map (·.ns)) (G.map (·.1)) (Za _ U) (λx c=>by
   obtain⟨y,d,rfl⟩:=As.1 c;obtain⟨v,k,_⟩:=q y d;exact As.2 ⟨_,k,rfl⟩)
  rw[AL,AL]at this;omega
 ·obtain⟨v,k,_⟩:=q y d;have g:=Pc y.ns (h.ok.nms _ k);have u:y.ns.length<=6:=h.ok.le _ k;omega
 ·obtain⟨v,k,⟨_,f0⟩|⟨i,H⟩⟩:=q y d
  ·omega
  ·obtain⟨n,r,g,u,_⟩:=A _ k i;have t:v.f=n:=g;omega
 ·obtain⟨r,j⟩:=J y d p;have g:=(f.dat _ j).1;have u:=(h.rg _ j).2.2.1;rw[Dg]at g;show(CI (y.f:Int)).size<=1280;have t:(CI (y.f:Int)).size=r.l:=by
   have F:(CI (y.f:Int)).size=r.l*1:=by first|exact g|exact g.symm|(rw[BS];exact g)|(rw[BS];exact g.symm)
   omega
  have ab:r.l<=1280:=u;omega
 ·obtain⟨r,j⟩:=J y d p;exact⟨r.a,r.l,r.c,Vb f.si j,f.dat _ j⟩
end
open Go.RowKit Go.Maps
def LD(D:D9):Prop:=IsMap D/\∀k,∃n:Nat,Mo D k=(n:Int)
theorem LD.nil:LD (.map []):=⟨isMap_empty,λ_=>⟨0,rfl⟩⟩
theorem LD.put{D:D9}(h:LD D)(p:List UInt8)(n:Nat):LD (D.put (Jm p) (.lit (.int .i64 (n:Int)))):=by
 refine⟨h.1.put _ _,λk=>?_⟩;by_cases e:k=p
 ·subst e;refine⟨n,?_⟩;unfold Mo;rw[atKey_put_same h.1 (by simp[WideAt.IsKeyLit,Jm])]
 ·obtain⟨m,b⟩:=h.2 k;refine⟨m,?_⟩;unfold Mo at b ⊢;rw[atKey_put_other (λa=>e (by unfold Jm at a;injection a))];exact b
theorem LD.rd{D b:D9}(h:LD D){rest p d r:List UInt8}{c:Nat}{nm:Int}(a:Li rest D=some (c,p,nm,d,r,b)):LD b/\∃n:Nat,nm=(n:Int):=by
 unfold Li at a
 split at a
 ·dsimp only at a
  split at a
  ·cases a;exact⟨h,0,rfl⟩
  ·split at a
   ·rw[Fi]at a;obtain⟨x,_,e⟩:=a
    cases e
    exact⟨h.put _ _,_,rfl⟩
   ·split at a
    ·split at a
     ·cases a;exact⟨h,h.2 _⟩
     ·cases a
    ·cases a
 ·cases a
structure LT(T:List UInt8->D9->Gh->LF->(IB)->Prop)(A:Prop)(text:List UInt8):Prop where
 start:A->∃r,text=[115,105,108,116,10]++r/\T r (.map []) [] [] (λ_=>⟨#[]⟩)
 step:∀r D G I C,T r D G I C->r≠[]->∃p f d r' D',Li r D=some (2,p,((f:Nat):Int),d,r',D')/\Le G I (ba p) f d.length/\∀G' I' C',ML G G' I I' C C' (ba p) f d.length (ba d)->T r' D' G' I' C'
 stop:∀D G I C,T [] D G I C->∀w tb rd V E vi,TW w tb rd V E vi G I C->(GN (λn=>C (n:Int)) (Dt (DT G rd E))).1=text
def Q0(T:List UInt8->D9->Gh->LF->(IB)->Prop)(A:Prop)(text:List UInt8)(w:World)(e:Ending)(w':World):Prop:=
 (e=.returned (.tuple #[.pointer none,.bool false])/\¬A\/∃tb G I C D,e=.returned (.tuple #[.pointer (some ⟨tb,0,none⟩),.bool true])/\PS w' tb G I C/\TG G I/\(A->T [] D G I C)/\w.heap.size<tb/\∃X rd V E vi,TW X tb rd V E vi G I C/\(GN (λn=>C (n:Int)) (Dt (DT G rd E))).1=text)/\Bw w w'
structure NE(T:List UInt8->D9->Gh->LF->(IB)->Prop)(A:Prop)(w:World)(rb mb tb:Nat)(rest:List UInt8)(X:World):Prop where
 rg:∃D K,Hh rb mb rest D K X/\LD D/\∃G I C,PS X tb G I C/\TG G I/\(A->T rest D G I C)
 bel:Bw w X
 lo:w.heap.size<=mb/\w.heap.size<=rb/\rb+1<tb/\mb+1<tb/\tb<X.heap.size
theorem T6{b:Nat}{c w w':World}(h:Below b c w){X:Nat->Prop}(a:Fr X w w')(d:∀k,X k->b<=k)(hn:b<=c.heap.size):Below b c w':=
 ⟨a.os.trans h.os,a.tape.trans h.tape,a.output.trans h.output,Af h.size a.size,λk f=>(a.block k (by have:=h.size;omega) (λe=>by have:=d k e;omega)).trans (h.block k f)⟩
section
variable{T:List UInt8->D9->Gh->LF->(IB)->Prop}{A:Prop}{w:World}{rb mb tb:Nat}{rest text:List UInt8}{X:World}
theorem NE.item(h:NE T A w rb mb tb rest X)(F:LT T A text)(M:rest≠[])(h4:4<=w.heap.size):
  Cl 96 #[.pointer (some ⟨rb,0,none⟩)] X λe Y=>∃(s:By) (m:Nat) (nm:Int) (a:OA) (l c:Nat) (u:Bool),e=.returned (.tuple #[.agg #[.string s,.int .u8 m,.int .i64 nm,.slice a l c],.bool u])/\(∃Z,Y.alloc (.cells #[.string s,.int .u8 m,.int .i64 nm,.slice a l c] 141)=Z/\FX Z Y.heap.size 141 [.string s,.int .u8 m,.int .i64 nm,.slice a l c]/\Hid (u=false->¬A/\Bw w Z)/\
   Hid (u=true->Cl 97 #[.pointer (some ⟨tb,0,none⟩),.agg #[.string s,.int .u8 m,.int .i64 nm,.slice a l c]] Z λe U=>∃b:Bool,e=.returned (.bool b)/\Hid (b=false->¬A/\Bw w U)/\Hid (b=true->∃r,NE T A w rb mb tb r U/\r.length<rest.length))):=by
 obtain⟨D,K,J,al,G,I,C,an,aq,B⟩:=h.rg;obtain⟨ar,au,av,aw,aB⟩:=h.lo;have hb:=h.bel;refine(YZ J (by omega)).mono ?_;rintro e Y⟨s,m,nm,a,l,c,u,rfl,H,hn,hy⟩;obtain⟨Z,eZ,xZ,kZ,sZ,v⟩:=De Y [.string s,.int .u8 m,.int .i64 nm,.slice a l c] 141;have ab:Bw w Y:=T6 hb H (λk e=>by omega) (Aa _);have ac:Bw w Z:=ab.trans (v.mono ab.size);have ay:=H.size;refine⟨s,m,nm,a,l,c,u,rfl,Z,eZ,xZ,λe=>⟨λo=>?_,ac⟩,λe=>?_⟩
 ·obtain⟨p,f,d,r',z,i,_⟩:=F.step _ _ _ _ _ (B o) M;rw[hn e]at i;cases i
 ·obtain⟨p,d,r,z,S,N,rfl,q3,q4,q5,q6⟩:=hy e;obtain⟨am,n,rfl⟩:=al.rd N;have ao:PS Y tb G I C:=by
   obtain⟨O,V,E,Q,y⟩:=an;refine⟨O,V,E,Q,y.fr H (by omega) (λk t R e q=>?_)⟩;rcases e with e|e
   ·subst e;have:=q.type J.row;subst this;decide
   ·subst e;obtain⟨es,cl,aj,_⟩:=J.map;unfold FX at q;rw[aj]at q;cases q
  have ap:PS Z tb G I C:=by obtain⟨O,V,E,Q,y⟩:=ao;exact⟨O,V,E,Q,y.below v (Aa _)⟩
  have x:l=(ba d).size:=by
   rcases q4.1.2 with⟨e,e2⟩|⟨g,ax,L,e,_⟩
   ·cases e;omega
   ·cases e;rfl
  have hS:Sl Z 5 1 (.slice a l c) l (Dc (ba d)):=by
   have:=q4.1.kept (λj hj _=>v.block j hj);rw[x];rw[x]at this;exact this
  refine(Yf Z tb G I C ap aq (ba p) (by rw[JM];exact q6) m n a l c (ba d) hS).mono ?_;rintro e U⟨⟨b,rfl⟩,P,ah,ai⟩;have aa:Bw w U:=T6 ac P (λk ⟨_,e⟩=>by omega) (Aa _);have aA:=P.size;refine⟨b,rfl,λe=>⟨λo=>?_,aa⟩,λe=>?_⟩
  ·obtain⟨p',f,d',r',ad,i,W,_⟩:=F.step _ _ _ _ _ (B o) M;rw[N]at i
   cases i
   exact ai (by rw[e]) rfl (by rw[x,JM];exact W)
  ·obtain⟨G',I',C',af,ag,ae⟩:=ah (by rw[e]);have ak:Hh rb mb r z S U:=by
    refine(q3.below v).fr P (λ⟨⟨t,R,q,y⟩,hk⟩=>by omega) (λ⟨_,hk⟩=>by omega) (λk hk ⟨_,az⟩=>by omega)
   refine⟨r,⟨⟨z,S,ak,am,G',I',C',af,ag,λo=>?_⟩,aa,ar,au,av,aw,by omega⟩,q5⟩;obtain⟨p',f,d',r',ad,i,W,h3⟩:=F.step _ _ _ _ _ (B o) M;rw[N]at i
   cases i
   have:=ae rfl;rw[x,JM]at this;exact h3 _ _ _ this
end
open Tryz
def Km:List UInt8:=[115,105,108,116,10]
theorem read_rd(w : World)(hp : Gd w)(he : GU w)(n0 : Nat)(hn0 : n0 ≤ w.heap.size)(htab : Lib.TabBelow prog n0 w "internal/strconv.uint64pow10" .u64 Lib.pow10Tab)(h4 : 4 ≤ w.heap.size)(text : List UInt8)(hl : text.length ≤ 1999990){T:List UInt8->D9->Gh->LF->(IB)->Prop}{A:Prop}(hT:LT T A text):Cl 39 #[.string (ba text)] w (Q0 T A text w):=by
 have hcp:=Tryz.strings_CutPrefix (ba text) ⟨#[115,105,108,116,10]⟩ w;rw[show(ba text).data.toList=text from Jo text,show(⟨#[115,105,108,116,10]⟩:By).data.toList=Km from rfl]at hcp;obtain⟨hb,hhb⟩:∃b,b=Lib.hasPrefix text Km:=⟨_,rfl⟩;obtain⟨rest,hrest⟩:∃r,r=Lib.trimPrefix text Km:=⟨_,rfl⟩;rw[<-hhb,<-hrest]at hcp;have HCP:Hid (Cl 94 #[.string (ba text),.string ⟨#[115,105,108,116,10]⟩] w λe w'=>e=.returned (.tuple #[.string (ba rest),.bool hb])/\w'=w):=hcp;clear hcp
 cases hb with
 |false=>
  have HF:Hid (Q0 T A text w (.returned (.tuple #[.pointer none,.bool false])) w):=by
   refine⟨.inl ⟨rfl,λha=>?_⟩,Ak _ _⟩;obtain⟨r,e,_⟩:=hT.start ha;have:Lib.hasPrefix text Km=true:=by
    unfold Lib.hasPrefix;rw[e];exact FN.2 ⟨r,rfl⟩
   rw[<-hhb]at this;cases this
  clear hT hp he htab hhb hrest;go_enter func39,ntmps39;go_wp2_with(go_at_call 94;refine(Da HCP).mono ?_;rintro e w'⟨rfl,hw⟩;rw[hw];clear hw);exact Ap (v:=.tuple #[.pointer none,.bool false]) (by simp[results,results39,go_sem]) rfl (Da HF)
 |true=>
  have htx:text=Km++rest:=by
   rw[hrest];unfold Lib.trimPrefix;rw[if_pos hhb.symm];obtain⟨r,e⟩:=FN.1 hhb.symm;rw[<-e,EG]
  have hrl:rest.length<=1999990:=by
   have:=Cu List.length htx;rw[Ab]at this;omega
  obtain⟨W1,eW1⟩:∃W1,w.alloc (.map #[] 0)=W1:=⟨_,rfl⟩;have hm1:W1.ownsMap prog 9 (plainElem prog 3) w.heap.size 0 (.map []:D9):=by rw[<-eW1];exact World.ownsMap_made w prog 9 _
  have b1:Bw w W1:=by rw[<-eW1];exact(Ak _ w).alloc (Aa _) _
  have s1:W1.heap.size=w.heap.size+1:=by rw[<-eW1];simp
  obtain⟨W2,e2,x2,k2,s2,b2⟩:=De W1 [.string (ba rest),.map (some w.heap.size)] 137;have b12:Bw w W2:=b1.trans (b2.mono (by omega));rw[s1]at x2;have hm2:W2.ownsMap prog 9 (plainElem prog 3) w.heap.size 0 (.map []:D9):=by rw[<-e2];exact hm1.alloc _
  have hpk2:Gd W2:=hp.fr (X:=λ_=>False) (Fr.of_below b12) (λe=>e);have hg2:Hh (w.heap.size+1) w.heap.size rest (.map []) 0 W2:=⟨x2,hm2,hpk2,he.fr (X:=λ_=>False) (Fr.of_below b12) (λ_ _ e=>e),by omega,by omega⟩;have HN:Hid (Cl 95 #[] W2 λe X=>∃tb,e=.returned (.pointer (some ⟨tb,0,none⟩))/\Hid (NE T A w (w.heap.size+1) w.heap.size tb rest X)/\Hid (w.heap.size<tb)):=by
   refine(Rb W2 hpk2).mono ?_;rintro e X⟨tb,rfl,q1,q2,q3,rb',vi,q4,q5⟩;refine⟨tb,rfl,⟨⟨.map [],0,hg2.below q3,LD.nil,[],[],_,q2,?_,λha=>?_⟩,b12.trans (q3.mono b12.size),by omega,by omega,by omega,by omega,q4.lt⟩,by show _<_;omega⟩
   ·exact TG.none
   ·obtain⟨r,e,ht⟩:=hT.start ha;have:r=rest:=by
     have e':Km++r=Km++rest:=e.symm.trans htx;exact Ey e'
    rw[<-this];exact ht
  have HE1:=Db eW1;have HE2:=Db e2;have HS1:=Db s1;have HT:=Db hT;have HTB:=Db htab;have H4:=Db h4;clear hT hp he htab hhb hrest htx hm1 b1 s1 x2 k2 s2 b2 b12 hm2 hpk2 hg2 eW1 e2 h4;go_enter func39,ntmps39;go_upto_region 4 with(go_at_call 94;refine(Da HCP).mono ?_;rintro e w'⟨rfl,hw⟩;rw[hw];clear hw);have hmk:(Instr.makeMap 135 none).run prog w=.ok (.map (some w.heap.size)) W1:=by rw[<-Da HE1];rfl
  go_upto_region 5 with fail;rw[show W1.alloc (.cells #[.string (ba rest),.map (some w.heap.size)] 137)=W2 from Da HE2,Da HS1];clear hmk HCP HE1 HE2 HS1;go_upto_region 6 with(go_at_call 95;refine(Da HN).mono ?_;rintro e X⟨tb,rfl,HV0,HTB0⟩);clear HN;obtain⟨rb,hrb⟩:∃r,r=w.heap.size+1:=⟨_,rfl⟩;rw[<-hrb]at HV0 ⊢;clear hrb;go_wp2
  go_loopw [9] (λ_ wr=>∃r,Hid (NE T A w rb w.heap.size tb r wr)) (λ_ wr=>G7 rb wr)
  case atStart=>exact⟨rest,HV0⟩
  case round=>
   obtain⟨r,HR⟩:=hrel;clear HV0 hrl;obtain⟨D,K,hg,_,G,I,C,hps,htg,hA⟩:=(Da HR).rg;have hra:=hg.restAt;have c0:wr.cell? ⟨rb,0,none⟩=some (.string (ba r)):=(hg.row.cell 0).trans rfl;by_cases hne:r=[]
   ·subst hne;obtain⟨rd,V,E,vi,ht⟩:=hps;have hbel:=(Da HR).bel;obtain⟨S,hS⟩:=ex ((GN (λn=>C (n:Int)) (Dt (DT G rd E))).1);have hdl:S.length<=1999990\/1999990<S.length:=by omega
    have HOF:Hid (Cl 54 #[.pointer (some ⟨tb,0,none⟩)] wr λe Y=>e=.returned (.string (ba S))/\Hid (Bw w Y/\PS Y tb G I C)):=by
     refine(dump_code wr n0 tb rd (Sk ht htg) (Af hn0 hbel.size) ((Da HTB).on (hbel.mono hn0))).mono ?_;rintro e Y⟨rfl,hY⟩;exact⟨by rw[hS];rfl,hbel.trans (hY.mono hbel.size),rd,V,E,vi,ht.below hY (Aa _)⟩
    have hts:(ba S).toList=S:=by rw[FJ];exact Jo S
    have htt:(ba text).toList=text:=by rw[FJ];exact Jo text
    by_cases heq:S=text
    ·have HF:Hid (∀Y,Bw w Y->PS Y tb G I C->Q0 T A text w (.returned (.tuple #[.pointer (some ⟨tb,0,none⟩),.bool true])) Y):=λY h1 h2=>⟨.inr ⟨tb,G,I,C,D,rfl,h2,htg,hA,Da HTB0,wr,rd,V,E,vi,ht,by rw[<-hS];exact heq⟩,h1⟩
     subst heq;clear hts htt hdl hS hbel ht hA htg hg hra HR HT HTB;rw[show ba []=⟨#[]⟩ from rfl]at c0;go_wp2_with(go_at_call 54;refine(Da HOF).mono ?_;rintro e Y⟨rfl,HY⟩);exact Ap (v:=.tuple #[.pointer (some ⟨tb,0,none⟩),.bool true]) (by simp[results,results39,go_sem]) rfl (Da HF _ (Da HY).1 (Da HY).2)
    ·have HF:Hid (∀Y,Bw w Y->Q0 T A text w (.returned (.tuple #[.pointer none,.bool false])) Y):=λY h1=>⟨.inl ⟨rfl,λha=>heq (by rw[hS];exact(Da HT).stop _ _ _ _ (hA ha) _ _ _ _ _ _ ht)⟩,h1⟩
     have p1:((ba S).toList==(ba text).toList)=false:=by rw[hts,htt,Bm];exact heq
     clear hts htt hdl hS hbel ht hA htg hg hra HR HT HTB heq;rw[show ba []=⟨#[]⟩ from rfl]at c0;go_wp2_with(go_at_call 54;refine(Da HOF).mono ?_;rintro e Y⟨rfl,HY⟩);exact Ap (v:=.tuple #[.pointer none,.bool false]) (by simp[results,results39,go_sem]) rfl (Da HF _ (Da HY).1)
   ·have HC:=Db ((Da HR).item (Da HT) hne (Da H4));obtain⟨Q,hQ⟩:=ex (ba r);have hQl:Q.toList=r:=by rw[hQ,FJ];exact Jo r
    have p1:Q.toList.isEmpty=false:=by rw[hQl];cases r with|nil=>exact absurd rfl hne|cons a l=>rfl
    have p2:(Q.toList==[])=false:=by rw[hQl,Bm];exact hne
    rw[<-hQ]at c0;have HRA:=Db hra;have HNO:Hid (∀Y,¬A/\Bw w Y->Q0 T A text w (.returned (.tuple #[.pointer none,.bool false])) Y):=λY h=>⟨.inl ⟨rfl,h.1⟩,h.2⟩
    clear hQl hQ hne hg hps htg hA hra HR HT HTB;go_upto_region 8 with(go_at_call 96;refine(Da HC).mono ?_;rintro e Y⟨s,kd,nm,a,l,c,ok,rfl,Z,eZ,xZ,HN1,HY1⟩;have HZ:=Db eZ;clear eZ);rw[show Y.alloc (.cells #[.string s,.int .u8 kd,.int .i64 nm,.slice a l c] 141)=Z from Da HZ];have z0:=xZ.cell 0;have z1:=xZ.cell 1;have z2:=xZ.cell 2;have z3:=xZ.cell 3;clear xZ HC HZ
    cases ok
    ·have HF:=Db (Da HNO _ (Da HN1 rfl));clear HN1 HY1;go_wp2;exact Ap (v:=.tuple #[.pointer none,.bool false]) (by simp[results,results39,go_sem]) rfl (Da HF)
    ·have HA1:=Db (Da HY1 rfl);clear HN1 HY1;go_wp2_with(go_at_call 97;refine(Da HA1).mono ?_;rintro e U⟨b,rfl,HB0,HB1⟩;cases b)
     ·exact Ap (v:=.tuple #[.pointer none,.bool false]) (by simp[results,results39,go_sem]) rfl (Da HNO _ (Da HB0 trivial))
     ·obtain⟨r',h1,h2⟩:=Da HB1 trivial;obtain⟨_,_,hg',_⟩:=h1.rg;have hm:=hg'.restAt;have HM:Hid (G7 rb U<G7 rb wr):=by
       show _<_;rw[hm,Da HRA];exact h2
      have HR':=Db h1;clear h1 h2 hg' hm HB0 HB1
      go_roundw
      case rel=>exact⟨r',HR'⟩
      case measure=>exact Da HM
def L7(n:Nat):Bool:=(match Lib.atoiAll (Lib.itoa (n:Int)) with|.ok v=>v==(n:Int)|_=>false) && (Lib.itoa (n:Int)).all (λc=>decide (48<=c/\c<=57))
theorem ZlI:(List.range 1281).all L7=true:=by kernel_rfl
theorem Pq{n:Nat}(h:n<=1280):Lib.atoiAll (Lib.itoa (n:Int))=.ok (n:Int)/\∀c∈Lib.itoa (n:Int),48<=c/\c<=57:=by
 have a:=Ct.1 ZlI n (A4.2 (by omega));unfold L7 at a;rw[A6]at a;refine⟨?_,λc d=>BO (Ct.1 a.2 c d)⟩;have b:=a.1
 split at b
 ·rename_i v e;rw[EF]at b;rw[e,b]
 ·cases b
def L9(b:Nat):Bool:=decide (D8 (KA (UInt8.ofNat b))=some [UInt8.ofNat b]) && (KA (UInt8.ofNat b)).all (λc=>decide (c≠10))
theorem Zmm:(List.range 256).all L9=true:=by kernel_rfl
theorem hex_ok(b:UInt8):D8 (KA b)=some [b]/\10∉KA b:=by
 have a:=Ct.1 Zmm b.toNat (A4.2 b.toNat_lt);unfold L9 at a;rw[UInt8.ofNat_toNat,A6]at a;exact⟨BO a.1,λc=>BO (Ct.1 a.2 10 c) rfl⟩
theorem Ov:∀l:List UInt8,D8 (D6 l)=some l/\10∉D6 l
 |[]=>⟨rfl,by simp[D6]⟩
 |b::l=>by
  obtain⟨c,d⟩:=Ov l;obtain⟨a,f⟩:=hex_ok b;have e:D6 (b::l)=KA b++D6 l:=rfl;refine⟨?_,by rw[e,Aq,not_or];exact⟨f,d⟩⟩;rw[e];unfold KA at a ⊢;show D8 (IA (b.toNat/16)::IA (b.toNat%16)::D6 l)=_;unfold D8 at a ⊢
  split at a
  ·cases a
  ·rename_i g;rw[if_neg g,c];simp only[D8,Fe]at a ⊢;injection a with a;injection a with a;rw[a]
theorem VT:∀(cs:List (List UInt8)) (f:Nat) (d r:List UInt8) (v:Nat),(∀c∈cs,c≠[])->v=d.length+cs.flatten.length->cs.length<f->Lh f (v:Int) d (cs.flatMap (λc=>D6 c++[10])++r)=some (d++cs.flatten,r)
 |[],f+1,d,r,v,_,hv,_=>by
  unfold Lh;simp only[List.flatten_nil,AK,List.flatMap_nil,AD,Cf]at hv ⊢;rw[if_neg (by omega)]
 |c::cs,f+1,d,r,v,hne,hv,hf=>by
  have a:=hne c (by simp);have aa:0<c.length:=List.length_pos_iff.2 a;rw[List.flatten_cons,Ab]at hv;have e:(c::cs).flatMap (λc=>D6 c++[10])++r=D6 c++10::(cs.flatMap (λc=>D6 c++[10])++r):=by
   simp
  rw[e];unfold Lh;rw[if_pos (by omega),QE (Ov c).2,if_pos rfl];dsimp only;rw[(Ov c).1];dsimp only;rw[VT cs f (d++c) r v (λx b=>hne x (AF _ b)) (by rw[Ab];omega) (by simp only[Al]at hf;omega),List.flatten_cons,Ax]
theorem Sv(l:List UInt8):∀n,(List.range n).flatMap (λx=>(l.drop (x*32)).take 32)=l.take (32*n)
 |0=>by simp
 |n+1=>by
  rw[Cp,FG,Sv l n];simp only[A1,List.flatMap_nil,Cf];rw[show 32*(n+1)=32*n+32 by omega,List.take_add,show n*32=32*n by omega]
theorem ZlB{s:By}(n:s.size<=1280)(r:List UInt8):JF (BL (Il s.size)) (JJ s++r)=some (BL s,r):=by
 obtain⟨i,_⟩:=Pq n;unfold JF;rw[show BL (Il s.size)=Lib.itoa (s.size:Int) from Jo _,i];dsimp only;obtain⟨N,j⟩:=ex ((s.size+32-1)/32);obtain⟨a,b⟩:∃a:List (List UInt8),a=(List.range N).map (λx=>BL (Hy s 32 x)):=⟨_,rfl⟩;have d:JJ s=a.flatMap (λc=>D6 c++[10]):=by
  unfold JJ JE;rw[<-j,b,EX]
 have k:∀x,BL (Hy s 32 x)=((BL s).drop (x*32)).take 32:=λx=>by unfold Hy;rw[J8,Ff]
 have f:a.flatten=BL s:=by
  have:a.flatten=(List.range N).flatMap (λx=>((BL s).drop (x*32)).take 32):=by
   rw[b,EY]
   congr 1
   exact Cq (λx _=>k x)
  rw[this,Sv,Ag (by rw[DK];omega)]
 have m:∀c∈a,c≠[]:=λc g e=>by
  rw[b]at g;obtain⟨x,h,rfl⟩:=As.1 g;have h:=A4.1 h;have:=Cu List.length e;rw[DK,Qg]at this;simp only[AK]at this;omega
 have l:a.length<(JJ s++r).length+1:=by
  have:∀a:List (List UInt8),a.length<=(a.flatMap (λc=>D6 c++[10])).length:=λa=>by
   induction a with
   |nil=>simp
   |cons c a ih=>simp only[A1,Ab,Al,AK];omega
  have:=this a;rw[Ab,d];omega
 have:=VT a ((JJ s++r).length+1) [] r s.size m (by rw[f,DK];simp) l;rw[f,AD,<-d]at this;exact this
theorem Vu(f:Nat->Int):∀k,0<DY f k->∃j,j<k/\f j=0
 |0,h=>by simp[DY]at h
 |k+1,h=>by
  unfold DY at h;by_cases e:f k=0
  ·exact⟨k,by omega,e⟩
  ·rw[if_neg e]at h;obtain⟨j,hj,a⟩:=Vu f k (by omega);exact⟨j,by omega,a⟩
theorem Gs.part{s:KS}(h:Gs s):∃j,j<96/\Dh s.es j<=0:=by
 obtain⟨j,a,e⟩:=Vu (Dh s.es) 96 (by have:=h.fr;omega);exact⟨j,a,by omega⟩
theorem GD.congr{C C':NB}{L:List It}(h:GD C L)(e:∀y∈L,C y.f=C' y.f):GD C' L:=⟨h.len,h.kind,h.path,h.num,λx a b=>by rw[<-e x a];exact h.size x a b,h.fresh⟩
theorem IP.congr{w:World}{tb f:Nat}{V:NV}{b:NS}{g:Value}{G:Gh}{I:LF}{a:IB}{ch:LY->List Ek}{c:NV}{C C':NB}(h:IP w tb f V b g G I a ch c C)(e:∀y∈Dt ch,C y.f=C' y.f):IP w tb f V b g G I a ch c C':=
 ⟨h.wk,h.ok.congr e,λy d i=>by rw[<-e y d];exact h.dat y d i⟩
def TX(w:World)(db:Nat)(s:KS)(C:NB)(L:List It)(vf vn:Value)(e:Ending)(w':World):Prop:=
 ∃stb tb va,e=.returned (.tuple #[.pointer (some ⟨stb,0,none⟩),.pointer (some ⟨tb,0,none⟩),.bool true])/\Hc w' stb db va s vf vn (.slice none 0 0) (.slice none 0 0) [] []/\(∃G I CI,PS w' tb G I CI/\Gg C L G I CI)/\Bw w w'/\w.heap.size<tb/\w.heap.size<=stb/\∀k,Own va k->w.heap.size<=k
theorem ZhQ{s:KS}(i:Gs s)(hC:Iq s)(aH:s.tn+1<18446744073709551616){es:LS}(av:Ge es)(ar:∀x∈es,∃f:Nat,x.2=⟨none,(f:Int)⟩){C:NB}(O:F6 C (es.map Iu))(U:Gi s C (es.map Iu))(w:World)(b:Nat)(K:Value)(a:OA)(l c:Nat)(h:DU w b K (.slice a l c) (.slice none 0 0) (.slice none 0 0) s.D)(ay:¬Own (.slice a l c) b)(aA:Gd w):
  Cl 76 #[.pointer (some ⟨b,0,none⟩)] w (TX w b s C (es.map Iu) K (.slice a l c)):=by
 obtain⟨t,B,hO,_⟩:=U.on i.w O.ok O.k2;obtain⟨s0,s1,aD,aE,ax⟩:=hC.last i.ok.tp aH;obtain⟨u,J⟩:∃t,t=s.tp:=⟨_,rfl⟩;obtain⟨F,R⟩:∃t,t=s.tx:=⟨_,rfl⟩;obtain⟨H,ai⟩:∃t,t=s.tn:=⟨_,rfl⟩;obtain⟨Z,Q⟩:=ex (IK (.pointer (some ⟨b,0,none⟩)));obtain⟨L,ae⟩:∃Z,Z=IK (.pointer none):=⟨_,rfl⟩;have aM:Z.length=1549:=by rw[Q];exact WG _
 have aK:L.length=1549:=by rw[ae];exact WG _
 have D:∀k,¬Own (.slice none 0 0) k:=λk e=>by simp[Own,Value.ownBlock]at e
 have HC:Hid (Cl 135 #[.pointer (some ⟨b,0,none⟩)] w λe X=>e=.returned (.tuple #[.agg #[.int .u64 (H:Nat),.int .i64 (u:Nat),.int .u64 (F:Nat)],.bool true])/\∃Y,X.alloc (.cells #[.int .u64 (H:Nat),.int .i64 (u:Nat),.int .u64 (F:Nat)] 191)=Y/\∃n,Y.alloc (.cells L.toArray 197)=n/\FX n Y.heap.size 197 L/\
   ∃W,n.setRow Y.heap.size Z.toArray=W/\W.cell? ⟨X.heap.size,1,none⟩=some (.int .i64 (u:Nat))/\W.cell? ⟨X.heap.size,2,none⟩=some (.int .u64 (F:Nat))/\
   Hid (Cl 136 #[.pointer (some ⟨Y.heap.size,0,none⟩),.agg #[.int .i64 (u:Nat),.int .u64 (F:Nat)]] W λe d=>∃tb z E A,e=.returned (.tuple #[.pointer (some ⟨tb,0,none⟩),.bool true])/\d.cell? ⟨Y.heap.size,1,none⟩=some (.slice z E A)/\d.cell? ⟨Y.heap.size,2,none⟩=some (.int .i64 (u:Nat))/\d.cell? ⟨Y.heap.size,3,none⟩=some (.int .u64 (F:Nat))/\d.cell? ⟨X.heap.size,0,none⟩=some (.int .u64 (H:Nat))/\
   ∃m,d.alloc (.cells #[.pointer (some ⟨b,0,none⟩),.slice z E A,.int .i64 (u:Nat),.int .u64 (F:Nat),.int .u64 (H:Nat)] 179)=m/\
   Hid (Cl 137 #[.pointer (some ⟨d.heap.size,0,none⟩),.pointer (some ⟨Y.heap.size,4,none⟩)] m λe M=>e=.returned (.bool true)/\
   Hid (Cl 138 #[.pointer (some ⟨d.heap.size,0,none⟩),.pointer (some ⟨tb,0,none⟩)] M λe X8=>e=.returned (.bool true)/\Hid (TX w b s C (es.map Iu) K (.slice a l c) (.returned (.tuple #[.pointer (some ⟨d.heap.size,0,none⟩),.pointer (some ⟨tb,0,none⟩),.bool true])) X8))))):=by
  refine(ZgM w b K _ _ a l c s.D h s0 s1 aD aE).mono ?_;rintro e X⟨rfl,hX⟩;obtain⟨Y,eY,xY,kY,sY,bY⟩:=De X [.int .u64 (H:Nat),.int .i64 (u:Nat),.int .u64 (F:Nat)] 191;obtain⟨n,aS,aO,bh,bj,aQ⟩:=De Y L 197;have a3:=hX.size;have S:Bw w Y:=hX.trans (bY.mono a3);refine⟨by rw[ax,J,R,ai];rfl,Y,eY,n,aS,aO,_,rfl,?_⟩;obtain⟨W,o⟩:=ex (n.setRow Y.heap.size Z.toArray);have xW:FX W Y.heap.size 197 Z:=by rw[o];exact BW n _ _ _ 197 _ aO
  have bW:Bw Y W:=aQ.trans ⟨by rw[o];rfl,by rw[o];rfl,by rw[o];rfl,by rw[o];simp,λj hj=>by rw[o];exact BD n _ j _ (by omega)⟩;rw[<-o];have lW:FX W X.heap.size 191 _:=(bW.block _ xY.lt).trans xY;refine⟨(lW.cell 1).trans rfl,(lW.cell 2).trans rfl,?_⟩;have aW:DU Y b K (.slice a l c) (.slice none 0 0) (.slice none 0 0) s.D:=⟨(S.block _ h.1.lt).trans h.1,⟨h.2.1.1.kept (λk g _=>S.block k g),h.2.1.2⟩,h.2.2⟩;have bd:=h.1.lt;have ao:=S.size;have ah:∀k,Own (.slice a l c) k->k<w.heap.size:=λk g=>h.2.1.1.lt g
  have h0:0<w.heap.size:=by omega
  have a6:Gd W:=aA.fr (Fr.of_below (S.trans (bW.mono ao))) (X:=λ_=>False) (λe=>e);have a9:Gc Y Y.heap.size Y.heap.size b 0 0 Kb (.slice none 0 0) (.slice none 0 0) W:=Gc.start (by rw[Q]at xW;exact xW) bW (Aa _) (Aa _);have aC:=YA i O hO W Y Y.heap.size Y.heap.size b _ _ a9 aW ⟨by omega,λk g=>by have:=ah k g;omega⟩ (by omega) a6;rw[<-J,<-R]at aC;refine aC.mono ?_;rintro e d⟨q,⟨tb,va,vt,rfl,P,⟨G,I,CI,aX,ab⟩,be,bg⟩,aB,a8⟩;obtain⟨L5,r0,r1,r2,r3,r4,r5,r6,r7⟩:=P.row;obtain⟨aT,au,ag⟩:=P.es;obtain⟨z,E,A,rfl⟩:=ag.shape;have af:=P.bel;have aU:=af.size;have l5:FX d X.heap.size 191 _:=(af.block _ xY.lt).trans xY;rw[<-J]at r3;rw[<-R]at r4;refine⟨tb,z,E,A,rfl,(r0.cell 1).trans r2,(r0.cell 2).trans r3,(r0.cell 3).trans r4,(l5.cell 0).trans rfl,?_⟩;obtain⟨m,aR,aN,bb,bi,ad⟩:=De d [.pointer (some ⟨b,0,none⟩),.slice z E A,.int .i64 (u:Nat),.int .u64 (F:Nat),.int .u64 (H:Nat)] 179;refine⟨m,aR,?_⟩;have a5:aT=s.es:=au.1.ext i.ok.srt (λx=>by
   rw[au.2.2];constructor
   ·rintro⟨y,T,rfl⟩;exact(aB y).1 T
   ·intro hx;obtain⟨y,T,rfl⟩:=(U.es.2.2 x).1 hx;exact⟨y,(aB y).2 hx,rfl⟩)
  subst a5;have a4:Bw Y m:=af.trans (ad.mono aU);have ac:Bw w m:=S.trans (a4.mono ao);have aV:DU m b K (.slice a l c) (.slice none 0 0) (.slice none 0 0) s.D:=⟨(ac.block _ h.1.lt).trans h.1,⟨h.2.1.1.kept (λk g _=>ac.block k g),h.2.1.2⟩,h.2.2⟩;have aF:Sl m 350 2 (.slice z E A) s.es.length (Dr s.es):=ag.kept (λk g _=>ad.block k g);have aG:Hc m d.heap.size b (.slice z E A) s K (.slice a l c) (.slice none 0 0) (.slice none 0 0) [] []:=by
   refine⟨⟨by rw[<-J,<-R,<-ai];exact aN,aV,Hw.nil _,⟨rfl,.inl ⟨rfl,rfl⟩⟩,by omega,⟨λe=>by have:=ah _ e;omega,D _,D _⟩,⟨ay,D _,D _⟩,λk _=>D k,λk _=>D k,λk _=>D k⟩,aF,λk g e=>?_⟩;have h1:=(P.oa k g).1;have h2:=ag.lt g;rcases e with e|e|e|e|e
   ·omega
   ·omega
   ·have:=ah k e;omega
   ·exact D k e
   ·exact D k e
  have a7:Up s.es:=⟨i.ok.len,i.ok.srt,i.ok.pl⟩;refine(Zjd m d.heap.size Y.heap.size u _ _ _ _ s.es aN aF a7 (by rw[J];exact i.ok.tp) q.tk L5 (bb _ _ _ r0) r5 i.fr (λp h1 h2=>?_)).mono ?_
  ·cases g:q.tk p with
   |false=>rfl
   |true=>
    obtain⟨r,hr⟩:=a8 p g;have:=i.cur _ hr (by simp only[Bp];rw[h2,J]);simp only[Bp]at this;omega
  rintro e M⟨rfl,N⟩;refine⟨rfl,?_⟩;have bc:=N.size;obtain⟨rd,V,Ed,vi,aZ⟩:=aX;have aY:Bw d M:=ad.trans (N.mono (by omega));have aa:=aZ.below aY (Aa _);have aw:=ab.flt O;obtain⟨_,a0⟩:=aw.keep aa;have ap:Dt (DT G rd Ed)=es.map Iu:=by rw[aw.its aa,ab.same av ar aa]
  have a2:=a0.congr (C':=C) (λy T=>by rw[ap]at T;exact ab.c y T);refine(ZiT (aG.below N) i.ok i.part a2 (by rw[ap];exact U)).mono ?_;rintro e X8⟨rfl,h8⟩;have aI:Bw w M:=ac.trans (N.mono ac.size);have bf:W.heap.size=n.heap.size:=by rw[o];simp
  refine⟨rfl,d.heap.size,tb,.slice z E A,rfl,(aG.below N).below h8,⟨G,I,CI,⟨rd,V,Ed,vi,aa.below h8 (Aa _)⟩,ab⟩,aI.trans (h8.mono aI.size),by omega,by omega,λk g=>by have:=(P.oa k g).1;omega⟩
 have aq:prog.built 197 [(0,.pointer (some ⟨b,0,none⟩))]=some Z.toArray:=by rw[Q];exact Zp b
 have aL:∀w,(zeroValue 197).run prog w=.ok (.agg L.toArray) w:=by rw[ae];exact Zv
 have az:Z.toArray.all (·.oneCell')=true:=by rw[Q];exact Yy b
 clear i hC aH av ar O U h ay aA hO aD aE ax J R ai Q ae D;have HL:=Db aM;have aP:=Db aK;clear aM aK;go_enter func76,ntmps76;go_upto_region 2 with(go_at_call 135;refine(Da HC).mono ?_;rintro e X⟨rfl,Y,hY,n,an,aJ,W,o,A,c2,HR⟩;have HY:=Db hY;have al:=Db an;have HW:=Db o;have ak:=Db aJ;clear hY an o aJ);rw[show X.alloc (.cells #[.int .u64 (H:Nat),.int .i64 (u:Nat),.int .u64 (F:Nat)] 191)=Y from Da HY];go_upto_region 4 with fail;refine AX ?_;refine WT rfl _ rfl ?_;refine RW rfl 197 0 _ rfl (.pointer (some ⟨b,0,none⟩)) rfl aq ?_;refine JN rfl 197 rfl aL ?_;rw[show Y.alloc (.cells L.toArray 197)=n from Da al];refine BX rfl 197 _ _ rfl Y.heap.size Z.toArray rfl rfl 197 _ (Da ak) ?_ ?_ az ?_
 ·rw[YE,AM,Da HL]
 ·rw[AM,AM,Da HL,Da aP]
 refine El ?_;rw[show n.setRow Y.heap.size Z.toArray=W from Da HW];clear aq aL az HC;go_upto_region 6 with(go_at_call 136;refine(Da HR).mono ?_;rintro e d⟨tb,z,E,k1,rfl,d1,d2,d3,d0,m,am,HG⟩;have aj:=Db am;clear am);go_upto_region 7 with fail;rw[show d.alloc (.cells #[.pointer (some ⟨b,0,none⟩),.slice z E k1,.int .i64 (u:Nat),.int .u64 (F:Nat),.int .u64 (H:Nat)] 179)=m from Da aj];clear d0 d1 d2 d3 A c2 aj HR HW HY al ak;go_wp2_with(first|(go_at_call 137;refine(Da HG).mono ?_;rintro e M⟨rfl,HS⟩)|(go_at_call 138;refine(Da HS).mono ?_;rintro e X8⟨rfl,HP⟩));exact Ap (v:=.tuple #[.pointer (some ⟨d.heap.size,0,none⟩),.pointer (some ⟨tb,0,none⟩),.bool true]) (by simp[results,results76,go_sem]) rfl (Da HP)
def GH(c:Int):Prop:=-9223372036854775808<=c/\c<=9223372036854775807
theorem GH.wrap(c:Int):GH (IntKind.i64.wrap c):=by unfold GH;rw[AV];omega
def Kj(c:Int)(n:Nat):Nat:=(if c<0 then -(c+1) else c).toNat%n
theorem NX(c:Int){n:Nat}(h:0<n):Kj c n<n:=Nat.mod_lt _ h
theorem Oh(w:World)(c:Int)(n:Nat)(l:GH c)(d:0<n)(b:n<=2000000000):
  Cl 24 #[.int .i64 c,.int .i64 n] w λe w'=>e=.returned (.int .i64 (Kj c n:Nat))/\w'=w:=by
 obtain⟨f,g⟩:=l;have o:¬((n:Int)=0):=by omega
 have aa:((n:Int)==0)=false:=by rw[Bm];exact o
 by_cases i:c<0
 ·have e1:IntKind.i64.wrap (c+1)=c+1:=by rw[AV];omega
  have k:IntKind.i64.wrap (-(c+1))=(((-(c+1)).toNat:Nat):Int):=by rw[AV];omega
  have a:(((-(c+1)).toNat:Nat):Int)%(n:Int)=((Kj c n:Nat):Int):=by
   unfold Kj;rw[if_pos i,<-Int.natCast_emod]
  generalize (-(c+1)).toNat=m at k a
  generalize Kj c n=r at a ⊢
  have j:=Db b;clear b f g d;go_enter func24,ntmps24;go_wp2;go_ret;exact⟨Cu (λz=>Ending.returned (Value.int .i64 z)) a,rfl⟩
 ·have a:c%(n:Int)=((Kj c n:Nat):Int):=by
   unfold Kj;rw[if_neg i];have h:c=((c.toNat:Nat):Int):=by omega
   generalize c.toNat=m at h ⊢
   subst h;rw[<-Int.natCast_emod]
  generalize Kj c n=r at a ⊢
  have j:=Db b;clear b f g d;go_enter func24,ntmps24;go_wp2;go_ret;exact⟨rfl,rfl⟩
theorem Va{W:World}{a:OA}{m c:Nat}{s:By}(h:Sl W 5 1 (.slice a m c) m (Dc s))(d:m=s.size):(convert 59 9 (.slice a m c)).run prog W=.ok (.string s) W:=by
 rcases h.2 with⟨e,h0⟩|⟨g,aa,R,e,j,ac,ab,hl,k⟩
 ·simp only[Bu]at e;obtain⟨rfl,rfl,rfl⟩:=e;rw[Go.Lib.run_convert_nil_bytes W 59 9 5 0 underlying59 underlying5 underlying9]
  congr 2
  apply ByteArray.ext;exact(Array.size_eq_zero_iff.1 d.symm).symm
 ·simp only[Bu]at e;obtain⟨rfl,-,rfl⟩:=e;subst d;refine Go.Lib.run_convert_whole W 59 5 9 underlying59 underlying5 underlying9 g 0 s (λi f=>?_) c;rw[Av,j.cell];have b:(R.take (s.size*1))[i]?=(Dc s)[i]? := by rw[k]
  rw[List.getElem?_take_of_lt (by omega)]at b;rw[b];unfold Dc;rw[Bc,CF,EU f]
  rfl
def GC(i:Nat):By:=⟨#[47,102,UInt8.ofNat (48+i)]⟩
theorem Og(w:World)(i:Nat)(hi:i<8):Cl 72 #[.int .i64 i] w λe w'=>e=.returned (.string (GC i))/\Bw w w':=by
 have e1:IntKind.i64.wrap (48+(i:Int))=((48+i:Nat):Int):=by rw[AV];omega
 obtain⟨W,f,g,l,n,d⟩:=De w [.int .u8 (48+(i:Int))] 5;have b:Dc ⟨#[UInt8.ofNat (48+i)]⟩=[.int .u8 (48+(i:Int))]:=by
  have:(UInt8.ofNat (48+i)).toNat=48+i:=by simp;omega
  show [Value.int .u8 ((UInt8.ofNat (48+i)).toNat:Int)]=_;rw[this];simp
 have k:=Va (W:=W) (a:=some ⟨w.heap.size,0,none⟩) (m:=1) (c:=1) (s:=⟨#[UInt8.ofNat (48+i)]⟩) ⟨by rw[b];rfl,.inr ⟨w.heap.size,1,_,rfl,g,Aa _,by decide,rfl,by rw[b];rfl⟩⟩ rfl;have h:=Db d;have j:=Db f;clear g l n d b f;go_enter func72,ntmps72;go_wp2;rw[show w.alloc (.cells #[.int .u8 (48+(i:Int))] 5)=W from Da j];rw[k];go_wp2;go_ret;refine⟨?_,Da h⟩;show Ending.returned (Value.string _)=_
 congr 2
 apply ByteArray.ext;simp[GC]
theorem ZmP(s:By)(q:Nat)(x:Nat):(Dc s).set q (.int .u8 ((x%256:Nat):Int))=Dc ⟨s.data.setIfInBounds q (UInt8.ofNat x)⟩:=by
 unfold Dc;rw[Array.toList_setIfInBounds,List.map_set];simp
def Ya(w:World)(n:Nat)(e:Ending)(w':World):Prop:=∃s:By,s.size=n/\e=.returned (.slice (some ⟨w.heap.size,0,none⟩) n n)/\FX w' w.heap.size 5 (Dc s)/\Bw w w'
theorem Zje(w:World)(c:Int)(n:Nat)(y:GH c)(hn:n<=2000000):
  Cl 73 #[.int .i64 c,.int .i64 n] w (Ya w n):=by
 obtain⟨M,I,J,K,L⟩:=BT KG;have C:=Db y;clear y;go_enter func73,ntmps73;go_wp2_with(at_make;refine Bz _ rfl _ _ 59 rfl 0 5 M (.int .u8 0) 1 underlying59 I J K _ _ _ _ n rfl rfl rfl rfl (by rw[L];omega) (by unfold maxLen;omega) (Au _) ?_;intro w1 A z;have o:=Db (And.intro (Sl.of_owns A) (KX z));clear A z)
 go_loopw [0,6] (λc i wr=>∃(d:Int) (q:Nat),q<=n/\c=.int .i64 d/\i=.int .i64 q/\Hid (GH d)/\Hid (∃s:By,s.size=n/\FX wr w.heap.size 5 (Dc s))/\Hid (Bw w wr)) (λ_ i _=>n-(intOf i).toNat)
 case atStart=>
  refine⟨c,0,Au _,rfl,rfl,C,?_,(Da o).2⟩;have x:=(Da o).1;have F:(madeCells (Value.int .u8 0).cells (n*1)).toList=List.replicate n (.int .u8 0):=by rw[BS];exact ER (.int .u8 0) _
  rw[F,<-QZ]at x;rcases x.2 with⟨e,_⟩|⟨g,aa,Q,e,f,H,u,h3,v⟩
  ·cases e
  ·simp only[Bu,Em,Addr.mk.injEq]at e;obtain⟨⟨rfl,-,-⟩,-,rfl⟩:=e;rw[Ag (by omega)]at v;subst v;exact⟨Dn n,Jr n,f⟩
 case round=>
  obtain⟨d,q,hq,rfl,rfl,HD,t,m⟩:=hrel;by_cases ae:q<n
  ·obtain⟨h,H⟩:∃h,IntKind.i64.wrap (d*1103515245)=h:=⟨_,rfl⟩;obtain⟨b,u⟩:∃b,IntKind.i64.wrap (h+12345)=b:=⟨_,rfl⟩;have j:GH b:=by rw[<-u];exact GH.wrap _
   obtain⟨r,f⟩:=ex (Kj b 1073741824);have k:=Oh wr b 1073741824 j (by omega) (by omega);rw[<-f]at k;have af:r<1073741824:=by rw[f];exact NX _ (by omega)
   have D:=Db k;have B:=Db j;clear k j f;obtain⟨s,l,a⟩:=Da t;have ab:wr.cell? ⟨w.heap.size,q,none⟩=some (Dc s)[q]! := by
    rw[a.cell,List.getElem!_eq_getElem?_getD,Ac (by rw[Dg];omega)];rfl
   have ac:=a.frozen q;have E:=Db a;clear a;have ad:(q:Int)<(n:Int):=by omega
   go_wp2_with(go_at_call 24;refine(Da D).mono ?_;rintro e w'⟨rfl,rfl⟩);have a:=(Da E).set q (.int .u8 (((r/65536)%256:Nat):Int));rw[ZmP]at a;have G:((r:Int)/65536%256)=(((r/65536)%256:Nat):Int):=by omega
   rw[G];refine⟨⟨b,q+1,by omega,rfl,by go_num,B,⟨_,?_,a⟩,(Da m).setCell (p:=⟨w.heap.size,q,none⟩) (Aa _) _⟩,by simp[intOf];omega⟩;show(s.data.setIfInBounds q _).size=n;rw[Array.size_setIfInBounds];exact l
  ·obtain rfl:q=n:=by omega
   go_wp2;go_ret;obtain⟨s,l,a⟩:=Da t;exact⟨s,l,rfl,a,Da m⟩
def fn(i:Nat):By:=⟨#[102,UInt8.ofNat (48+i)]⟩
theorem fn_all:(List.range 8).all (λi=>DL (fn i))=true:=by kernel_rfl
theorem fn_ok{i:Nat}(h:i<8):DL (fn i)=true:=Ct.1 fn_all i (A4.2 h)
theorem Q4{i j:Nat}(hi:i<8)(hj:j<8)(h:fn i=fn j):i=j:=by
 unfold fn at h;injection h with h;simp only[Array.mk.injEq,FI,and_true,true_and]at h;have:=Cu UInt8.toNat h;simp at this;omega
theorem pth_jn(i:Nat):GC i=jn [fn i]:=by
 apply ByteArray.ext;simp[GC,jn,jl,fn]
theorem Ke{i:Nat}(h:i<8):Df (GC i)=[fn i]/\DS (GC i)=true/\(GC i).size<=78:=by
 have a:Iw [fn i]:=λm c=>by rw[Ad.1 c];exact fn_ok h
 have:=Tk a (by simp) (by simp);rw[pth_jn];exact⟨P9 a (by simp),this,Rn _ this⟩
def JW(b:Nat->Option By)(i:Nat)(v:Option By):Nat->Option By:=λj=>if j=i then v else b j
structure F5(b:Nat->Option By)(G:Gh)(I:LF)(CI:IB):Prop where
 fl:Ix G I CI
 nm:∀x∈G,∃i,i<8/\x.1=[fn i]
 yes:∀i,i<8->∀s,b i=some s->∃f:Nat,([fn i],(⟨none,(f:Int)⟩:VS))∈G/\CI f=s
 no:∀i,i<8->b i=none->∀u,([fn i],u)∉G
section
variable{b:Nat->Option By}{G:Gh}{I:LF}{CI:IB}
theorem F5.empty:F5 (λ_=>none) [] [] (λ_=>⟨#[]⟩):=
 ⟨⟨λx a=>(by cases a),CG,λx a=>(by cases a),Au _,λx a=>(by cases a),λx a=>(by cases a),λx a=>(by cases a)⟩,λx a=>(by cases a),λi _ s h=>(by cases h),λi _ _ u h=>(by cases h)⟩
theorem Ix.ilen(h:Ix G I CI)(a:Gm I):I.length<=G.length:=by
 have:=Qh (I.map (·.1)) (G.map (λy=>y.2.f)) a.nd (λx c=>by
  obtain⟨y,d,rfl⟩:=As.1 c;obtain⟨_,_,z,f,e⟩:=h.back y d;exact As.2 ⟨z,f,e⟩)
 rwa [AL,AL]at this
theorem Ix.csz(h:Ix G I CI){x:Int×VF}(c:x∈I):(CI x.1).size<=1280/\x.2.l<=1280/\0<=x.1:=by
 obtain⟨_,h2,y,a,e⟩:=h.back x c;have:=h.sz y a;rw[e]at this;obtain⟨n,f,rfl,_⟩:=h.fil y a;exact⟨this,by omega,by rw[<-e];exact cP f⟩
theorem Ix.flok(h:Ix G I CI):GQ G I:=λx c _=>by
 obtain⟨r,a⟩:=h.num x c;have:=(h.back _ a).1;have h1:r.f=1:=this;exact⟨r,a,by omega,by omega⟩
theorem F5.at(h:F5 b G I CI){i:Nat}(c:i<8){s:By}(d:b i=some s):∃f:Nat,Gl G (Df (GC i))=some ⟨none,(f:Int)⟩/\([fn i],(⟨none,(f:Int)⟩:VS))∈G/\CI f=s:=by
 obtain⟨f,a,e⟩:=h.yes i c s d;rw[(Ke c).1];exact⟨f,KL h.fl.nd a,a,e⟩
theorem F5.none'(h:F5 b G I CI){i:Nat}(a:i<8)(c:b i=none):Gl G (Df (GC i))=none:=by
 rw[(Ke a).1]
 cases e:Gl G [fn i] with
 |none=>rfl
 |some u=>exact absurd (KI e) (h.no i a c u)
theorem UO(G:Gh){i:Nat}(d:i<8):DN G (GC i) true=0:=by
 obtain⟨a,c,_⟩:=Ke d;unfold DN;rw[c,a]
 rfl
theorem F5.file(h:F5 b G I CI){i:Nat}(a:i<8){s:By}(d:b i=some s):DJ G (GC i) true=0:=by
 obtain⟨f,c,_⟩:=h.at a d;unfold DJ;rw[UO G a,c,(Ke a).1];simp
theorem F5.nofile(h:F5 b G I CI){i:Nat}(a:i<8)(d:b i=none):DJ G (GC i) true=3:=by
 have c:=h.none' a d;unfold DJ;rw[UO G a,c,(Ke a).1];simp
theorem F5.rm(h:F5 b G I CI){i:Nat}(a:i<8){s:By}(d:b i=some s):Iz G (GC i)=0:=by
 obtain⟨f,c,_⟩:=h.at a d;unfold Iz Hx;rw[UO G a,c,(Ke a).1];simp
theorem F5.lt7(h:F5 b G I CI){i:Nat}(g:i<8)(f:b i=none):G.length<=7:=by
 have:=Qh (G.map (·.1)) (((List.range 8).filter (λj=>decide (j≠i))).map (λj=>[fn j])) h.fl.nd (λx l=>by
  obtain⟨y,c,rfl⟩:=As.1 l;obtain⟨j,k,e⟩:=h.nm y c;refine As.2 ⟨j,EN.2 ⟨A4.2 k,Cr (λd=>?_)⟩,e.symm⟩;subst d;have a:(y.1,y.2)∈G:=c;rw[e]at a;exact h.no j g f _ a)
 rw[AL,AL]at this;have h7:((List.range 8).filter (λj=>decide (j≠i))).length=7:=by
  have:i=0\/i=1\/i=2\/i=3\/i=4\/i=5\/i=6\/i=7:=by omega
  rcases this with rfl|rfl|rfl|rfl|rfl|rfl|rfl|rfl<;>decide
 omega
theorem F5.may(h:F5 b G I CI)(e:Gm I){i:Nat}(d:i<8)(a:b i=none):Jh G I (Df (GC i)).dropLast=true:=by
 have h7:=h.lt7 d a;have aa:=h.fl.ilen e;unfold Jh;have hc:G.countP (He (Df (GC i)).dropLast)<=G.length:=B2;have c:cD G []=1:=by
  unfold cD;have:G.countP (λx=>x.2.p.isSome && qB [] x)=0:=by
   rw[Ex];intro x g;obtain⟨n,f,rfl,_⟩:=h.fl.fil x g;simp
  rw[this]
 rw[c];exact Cr ⟨⟨by omega,by omega⟩,by omega⟩
theorem F5.wr(h:F5 b G I CI)(j:Gm I){i:Nat}(a:i<8){p:Int}{d:By}(g:Qn p d=true):Ik G I (GC i) p d=0:=by
 unfold Ik;rw[g,UO G a];have c:Df (GC i)≠[]:=by rw[(Ke a).1];simp
 cases hb:b i with
 |none=>
  rw[h.none' a hb,h.may j a hb];simp[c]
 |some s=>
  obtain⟨f,e,_⟩:=h.at a hb;rw[e];simp[c]
theorem F5.del(h:F5 b G I CI){i:Nat}(B:i<8){f:Nat}(A:([fn i],(⟨none,(f:Int)⟩:VS))∈G){t:LF}(z:UF I t f):F5 (JW b i none) (J4 G (Df (GC i))) t CI:=by
 rw[(Ke B).1];have n:∀x,x∈J4 G [fn i]↔x∈G/\x.1≠[fn i]:=QT G [fn i];have m:∀x∈J4 G [fn i],x∈G:=λx a=>((n x).1 a).1
 have F:∀x∈J4 G [fn i],x.2.f≠(f:Int):=λx a e=>by
  obtain⟨d,k⟩:=(n x).1 a;have:=h.fl.inj _ d _ A e;exact k (by rw[this])
 refine⟨⟨λx a=>h.fl.fil x (m x a),?_,λx a y q=>h.fl.inj x (m x a) y (m y q),?_,λx a=>?_,λx a=>h.fl.sz x (m x a),λx a=>?_⟩,λx a=>h.nm x (m x a),λj p s c=>?_,λj p c u J=>?_⟩
 ·have:=h.fl.nd;unfold J4;exact List.Nodup.sublist (List.Sublist.map _ List.filter_sublist) this
 ·have d:=h.fl.le;have k:(J4 G [fn i]).length<=G.length:=List.length_filter_le _ _;omega
 ·obtain⟨r,H⟩:=h.fl.num x (m x a);exact⟨r,(z.2 _).2 ⟨H,F x a⟩⟩
 ·obtain⟨d,k⟩:=(z.2 x).1 a;obtain⟨C,D,y,q,e⟩:=h.fl.back x d;refine⟨C,D,y,(n y).2 ⟨q,λo=>k ?_⟩,e⟩;have:y=([fn i],(⟨none,(f:Int)⟩:VS)):=by
   have E:=KL h.fl.nd A;have v:(y.1,y.2)∈G:=q;rw[o]at v;have w:=KL h.fl.nd v;rw[E]at w;exact FP o (BR w).symm
  rw[<-e,this]
 ·unfold JW at c;by_cases l:j=i
  ·rw[if_pos l]at c;cases c
  ·rw[if_neg l]at c;obtain⟨g,d,k⟩:=h.yes j p s c;refine⟨g,(n _).2 ⟨d,λe=>l (Q4 p B ?_)⟩,k⟩;have o:[fn j]=[fn i]:=e;injection o
 ·obtain⟨d,k⟩:=(n _).1 J;unfold JW at c;by_cases l:j=i
  ·exact k (by rw[l])
  ·rw[if_neg l]at c;exact h.no j p c u d
theorem F5.over(h:F5 b G I CI){i:Nat}(C:i<8){f:Nat}(v:([fn i],(⟨none,(f:Int)⟩:VS))∈G){s:By}(H:s.size<=1280){y:LF}{r:VF}(D:((f:Int),r)∈I){a:OA}{c:Nat}(w:F7 I y f ⟨a,s.size,c,r.f⟩):
  F5 (JW b i (some s)) G y (λk=>if k=(f:Int) then s else CI k):=by
 have F:r.f=1:=(h.fl.back _ D).1;refine⟨⟨h.fl.fil,h.fl.nd,h.fl.inj,h.fl.le,λx m=>?_,λx m=>?_,λx m=>?_⟩,h.nm,λj o t d=>?_,λj o d u J=>?_⟩
 ·obtain⟨K,E⟩:=h.fl.num x m;by_cases e:x.2.f=(f:Int)
  ·exact⟨_,(w.2 _).2 (.inl (by rw[e]))⟩
  ·exact⟨K,(w.2 _).2 (.inr ⟨E,e⟩)⟩
 ·show(if x.2.f=(f:Int) then s else CI x.2.f).size<=1280
  split
  ·exact H
  ·exact h.fl.sz x m
 ·rcases(w.2 x).1 m with rfl|⟨n,q⟩
  ·refine⟨F,?_,_,v,rfl⟩;show s.size=(if (f:Int)=(f:Int) then s else _).size;rw[if_pos rfl]
  ·obtain⟨z,A,B⟩:=h.fl.back x n;refine⟨z,?_,B⟩;show _=(if x.1=(f:Int) then s else CI x.1).size;rw[if_neg q];exact A
 ·unfold JW at d;by_cases l:j=i
  ·rw[if_pos l]at d
   cases d
   exact⟨f,by rw[l];exact v,by rw[if_pos rfl]⟩
  ·rw[if_neg l]at d;obtain⟨g,n,q⟩:=h.yes j o t d;refine⟨g,n,?_⟩;rw[if_neg (λe=>l ?_)];exact q;have:=h.fl.inj _ n _ v e;rw[A9]at this;have p:=this.1;injection p with p;exact Q4 o C p
 ·unfold JW at d;by_cases l:j=i
  ·rw[if_pos l]at d;cases d
  ·rw[if_neg l]at d;exact h.no j o d u J
theorem F5.made(h:F5 b G I CI)(Q:Gm I){i:Nat}(o:i<8)(F:b i=none){f:Nat}(aa:f<=I.length)(O:∀x∈I,x.1≠(f:Int)){s:By}(P:s.size<=1280){I1 I2:LF}(E:∀x,x∈I1↔x=((f:Int),⟨none,0,0,1⟩)\/x∈I){a:OA}{c:Nat}(D:F7 I1 I2 f ⟨a,s.size,c,1⟩){C2:IB}(B:C2 f=s)(H:∀x∈I,C2 x.1=CI x.1):F5 (JW b i (some s)) (G++[([fn i],⟨none,(f:Int)⟩)]) I2 C2:=by
 have h7:=h.lt7 o F;have ab:=h.fl.ilen Q;have C:∀x∈G,x.2.f≠(f:Int):=λx d e=>by
  obtain⟨r,p⟩:=h.fl.num x d;exact O _ p e
 have J:∀x∈G,C2 x.2.f=CI x.2.f:=λx d=>by
  obtain⟨r,p⟩:=h.fl.num x d;exact H _ p
 have L:([fn i],(⟨none,(f:Int)⟩:VS))∈G++[([fn i],⟨none,(f:Int)⟩)]:=BZ _ (Ad.2 rfl);refine⟨⟨λx d=>?_,?_,λx d y k e=>?_,by rw[Ab,Be];omega,λx d=>?_,λx d=>?_,λx d=>?_⟩,λx d=>?_,λj v t l=>?_,λj v l u q=>?_⟩
 ·rcases Aq.1 d with d|d
  ·exact h.fl.fil x d
  ·rw[Ad.1 d];exact⟨fn i,f,rfl,fn_ok o,by omega⟩
 ·rw[Bq,Ch];refine⟨h.fl.nd,by simp,λx d y k e=>?_⟩;obtain⟨z,R,rfl⟩:=As.1 d;simp only[BI,CY,Ad]at k;rw[k]at e;have K:(z.1,z.2)∈G:=R;rw[e]at K;exact h.no i o F _ K
 ·rcases Aq.1 d with d|d
  ·rcases Aq.1 k with k|k
   ·exact h.fl.inj x d y k e
   ·rw[Ad.1 k]at e;exact absurd e (C x d)
  ·rcases Aq.1 k with k|k
   ·rw[Ad.1 d]at e;exact absurd e.symm (C y k)
   ·rw[Ad.1 d,Ad.1 k]
 ·rcases Aq.1 d with d|d
  ·obtain⟨r,p⟩:=h.fl.num x d;exact⟨r,(D.2 _).2 (.inr ⟨(E _).2 (.inr p),C x d⟩)⟩
  ·rw[Ad.1 d];exact⟨_,(D.2 _).2 (.inl rfl)⟩
 ·rcases Aq.1 d with d|d
  ·rw[J x d];exact h.fl.sz x d
  ·rw[Ad.1 d];show(C2 (f:Int)).size<=_;rw[B];exact P
 ·rcases(D.2 x).1 d with rfl|⟨m,A⟩
  ·refine⟨rfl,?_,_,L,rfl⟩;show s.size=(C2 (f:Int)).size;rw[B]
  ·rcases(E x).1 m with rfl|m
   ·exact absurd rfl A
   ·obtain⟨M,N,y,k,e⟩:=h.fl.back x m;exact⟨M,by rw[H x m];exact N,y,Bn _ k,e⟩
 ·rcases Aq.1 d with d|d
  ·exact h.nm x d
  ·rw[Ad.1 d];exact⟨i,o,rfl⟩
 ·unfold JW at l;by_cases n:j=i
  ·rw[if_pos n]at l
   cases l
   exact⟨f,by rw[n];exact L,B⟩
  ·rw[if_neg n]at l;obtain⟨g,m,A⟩:=h.yes j v t l;refine⟨g,Bn _ m,?_⟩;have:=J _ m;rw[<-A];exact this
 ·unfold JW at l;by_cases n:j=i
  ·rw[if_pos n]at l;cases l
  ·rw[if_neg n]at l;rcases Aq.1 q with q|q
   ·exact h.no j v l u q
   ·have:=Ad.1 q;rw[A9]at this;have w:=this.1;injection w with w;exact n (Q4 v o w)
end
theorem Zke{P:Program}{e:Array Oper}{f:List Oper}{o:Oper}{a:Act}{w:World}{Q:Exit->Act->World->Prop}(j:o.guard=none)(d:TypeId)(x:Operand)(ho:o.op=.sliceToArrayPointer d x)(n:Nat)(g:TypeId)(k:P.underlying d=some (.array n g))(b:OA)(l c:Nat)(m:a.eval x=.slice b l c)(hn:n<=l)(h:wpList P e Q f (a.put o.dst (.pointer b)) w):wpList P e Q (o::f) a w:=by
 refine E5 j λK i=>?_
 unfold Oper.wp execOp;simp only[ho,Instr.arrayAt,Cn,m];simp[underlying,k,go_sem,show ¬l<n by omega];exact i _ _ h
theorem ZeR{P:Program}{c:Array Oper}{d:List Oper}{o:Oper}{a:Act}{w:World}{Q:Exit->Act->World->Prop}(k:o.guard=none)(ty:TypeId)(x y:Operand)(ho:o.op=.store ty x y)(g off:Nat)(t:TypeId)(L b:F0)(m:a.eval x=.pointer (some ⟨g,off,none⟩))(n:a.eval y=.agg b.toArray)(j:FX w g t L)(i:off+b.length<=L.length)(l:(P.info? ty).map (·.size)=some b.length)(e:∀u∈b,u.oneCell'=true)(h:wpList P c Q d (a.put o.dst undef) (w.setRow g (F2 L off b).toArray)):wpList P c Q (o::d) a w:=
 E5 k λ_K f=>Xt ty x y ho g off t L b m n j i l e (f _ _ h)
theorem Zi6(D:LY):Dc (JP D)=JH D:=by
 unfold JP JH Dc;simp[List.map_flatMap]
theorem take_set{D Z:LY}{k:Nat}{s:By}(a:D[k]?=some s)(hl:Z.length=D.length):(D.take k++Z.drop k).set k s=D.take (k+1)++Z.drop (k+1):=by
 have hk:=(Ae.1 a).1;have e:D.take (k+1)=D.take k++[s]:=by rw[BK,a];rfl
 have b:Z.drop k=Z[k]::Z.drop (k+1):=BN (by omega);rw[e,b,EM _ _ (by rw[An];omega),An,show k-min k D.length=0 by omega,List.set_cons_zero,Ax]
 rfl
def Pm(w:World)(D:LY)(e:Ending)(w':World):Prop:=
 ∃db vf a l c,e=.returned (.tuple #[.pointer (some ⟨db,0,none⟩),.bool true])/\DU w' db vf (.slice a l c) (.slice none 0 0) (.slice none 0 0) D/\¬Own (.slice a l c) db/\w.heap.size<=db/\(∀k,Own (.slice a l c) k->w.heap.size<=k)/\Bw w w'
theorem Yn(w:World)(a:OA)(l c:Nat)(D:LY)(h:Sl w 5 1 (.slice a l c) (JP D).size (Dc (JP D)))(n:D.length=1536)(d:∀s∈D,s.size=64):
  Cl 75 #[.slice a l c] w (Pm w D):=by
 have Y:(JP D).size=98304:=by rw[RH d,n]
 rw[Y,Zi6]at h;obtain⟨i0,aj,am,an,ao⟩:=BT Vf;rcases h.2 with⟨_,h0⟩|⟨g,aq,L,e,E,K,g2,g3,M⟩
 ·omega
 simp only[Bu]at e;obtain⟨rfl,rfl,rfl⟩:=e;have ai:=E.lt;have af:Hid (∀X k s,Bw w X->D[k]?=some s->X.rangeAt g (k*64) (Dc s)):=λX k s r V j v Z=>by
  have aw:=d s (Ar V);have S:j<64:=by have:=(Ae.1 Z).1;rw[Dg]at this;omega
  have:=Rs d k j s V S;rw[Z,<-M,Ao]at this
  split at this
  ·have ag:FX X g 5 L:=(r.block _ ai).trans E;rw[ag.cell];exact this
  ·cases this
 have I:Hid (∀X,Bw w X->Hd X (.slice (some ⟨w.heap.size,0,none⟩) 1536 1536) D->Cl 134 #[.slice (some ⟨w.heap.size,0,none⟩) 1536 1536] X λe w'=>∃m,e=.returned (.pointer (some ⟨m,0,none⟩))/\Hid (Pm w D (.returned (.tuple #[.pointer (some ⟨m,0,none⟩),.bool true])) w')):=λX r N=>by
  refine(Xq X _ D N n).mono ?_;rintro e w'⟨rfl,ap,x,G,p,q4⟩;have P:=r.size;have ak:=N.1.lt (g:=w.heap.size) rfl;refine⟨X.heap.size,rfl,X.heap.size,ap,_,_,_,rfl,x,λe=>?_,P,λk T=>?_,r.trans (p.mono P)⟩
  ·simp[Own,Value.ownBlock]at e;omega
  ·simp[Own,Value.ownBlock]at T;omega
 have aa:=Db d;have H:=Db n;have ac:=Db K;clear h Y E g3 M d n K;go_enter func75,ntmps75;go_wp2_with(at_make;refine Bz _ rfl _ _ 186 rfl 0 188 i0 (DA (Dn 64)) 64 Px aj am an _ _ _ _ 1536 rfl rfl rfl rfl (by rw[ao];decide) (by unfold maxLen;decide) (Au _) ?_;intro w1 U R;have J:=Db (And.intro (Sl.of_owns U) (KX R));clear U R)
 go_loopw [12] (λi wr=>∃k:Nat,k<=1536/\i=.int .i64 k/\Hid (Hd wr (.slice (some ⟨w.heap.size,0,none⟩) 1536 1536) (D.take k++DR.drop k)/\Bw w wr)) (λi _=>1536-(intOf i).toNat)
 case atStart=>
  obtain⟨b,o⟩:=Da J;rw[WB 1536,<-RX]at b;exact⟨0,Au _,rfl,⟨by rw[Cs,AD,BV,J9];exact b,by rw[Cs,AD,BV];exact Xh⟩,o⟩
 case round=>
  obtain⟨k,T,rfl,y⟩:=hrel;by_cases ak:k<1536
  ·obtain⟨b,o⟩:=Da y;have n:=Da H;have d:=Da aa;obtain⟨s,t⟩:∃s,D[k]?=some s:=⟨_,Ac (by omega)⟩;have F:s.size=64:=d s (Ar t);have C:(D.take k++DR.drop k).length=1536:=by rw[Ab,An,Az,J9];omega
   obtain⟨g',c',A,B,q,O,x,G,p⟩:=b.row (by omega);rw[C]at B;simp only[Bu,Em,Addr.mk.injEq]at B;obtain⟨⟨e1,_,_⟩,_,e3⟩:=B;subst e1 e3;obtain⟨W,f⟩:∃X,wr.setRow w.heap.size (F2 A (k*64) (Dc s)).toArray=X:=⟨_,rfl⟩;have Q:(Dc s).length=64:=by rw[Dg,F]
   have xW:FX W w.heap.size 188 (F2 A (k*64) (Dc s)):=by rw[<-f];exact BW wr _ _ _ 188 _ q
   have ab:Hid (Hd W (.slice (some ⟨w.heap.size,0,none⟩) 1536 1536) (D.take (k+1)++DR.drop (k+1))/\Bw w W):=by
    have:=Hd.set q O x G p b.2 k s (by omega) F W xW;rw[take_set t (by rw[J9,n]),C]at this;exact⟨this,o.trans ⟨by rw[<-f];rfl,by rw[<-f];rfl,by rw[<-f];rfl,by rw[<-f];simp,λj S=>by rw[<-f];exact BD wr _ j _ (by omega)⟩⟩
   have ae:=Db (Da af wr k s o t);have HX:=Db q;have HW:=Db f;have z:=Db Q;have ad:=Db p;have ax:IntKind.i64.wrap ((k:Int)*64)=((k*64:Nat):Int):=by rw[AV];omega
   have au:(k:Int)<1536:=by omega
   have ah:=Da ac;have ar:¬c=k*64:=by omega
   have av:k*64<=98304:=by omega
   clear ah;have al:Hid (∀u∈Dc s,u.oneCell'=true):=Ko s;clear b o xW q O x G p C n d F Q t f y J I;go_wp2_with(first|(refine Zke rfl 188 _ rfl 64 5 Kf _ _ _ rfl (by omega) ?_)|(refine FA rfl 188 _ rfl g (k*64) rfl (Dc s) _ (Da ae) Kf rfl (by rw[Jf,Da z]) ?_)|(refine ZeR rfl 188 _ _ rfl w.heap.size (k*64) 188 A (Dc s) rfl rfl (Da HX) (by rw[Da z,Da ad];omega) (by rw[Jf,Da z]) (Da al) ?_;rw[Da HW]))
   go_roundw
   case rel=>exact⟨k+1,by omega,by go_num,Da ab⟩
   case measure=>simp[intOf];omega
  ·obtain rfl:k=1536:=by omega
   have HC:Hid (Cl 134 #[.slice (some ⟨w.heap.size,0,none⟩) 1536 1536] wr λe w'=>∃m,e=.returned (.pointer (some ⟨m,0,none⟩))/\Hid (Pm w D (.returned (.tuple #[.pointer (some ⟨m,0,none⟩),.bool true])) w')):=by
    obtain⟨b,o⟩:=Da y;rw[Ag (Ee (Da H)),CN (Ee J9),Cf]at b;exact Da I wr o b
   go_wp2_with(go_at_call 134;refine(Da HC).mono ?_;rintro e w'⟨m,rfl,HP⟩);exact Ap (v:=.tuple #[.pointer (some ⟨m,0,none⟩),.bool true]) (by simp[results,results75,go_sem]) rfl (Da HP)
theorem MV(w:World)(a tb f b:Nat)(h:Hg w a tb f b)(Q:World->Prop)(g:∀w',Q w'->Hg w' a tb f b)(i:Cl 74 #[.pointer (some ⟨b,0,none⟩),.pointer (some ⟨tb,0,none⟩)] w.drew λe w'=>e=.returned (.tuple #[])/\Q w'):
  Cl 26 #[.pointer (some ⟨a,0,none⟩)] w λe w'=>e=.returned (.int .i64 0)/\Q w':=by
 have l:=Kn w a tb h.vol;have c1:w.cell? ⟨a,1,none⟩=some (.pointer (some ⟨tb,0,none⟩)):=(FX.cell h 1).trans rfl;have c3:w.cell? ⟨a,3,none⟩=some (.pointer (some ⟨b,0,none⟩)):=(FX.cell h 3).trans rfl;have j:=Db i;have d:=Db g;clear h i g;go_enter func26,ntmps26;go_upto_region 3 with(go_at_call 53;refine l.mono ?_;rintro e w'⟨rfl,rfl⟩)
 go_region_held3 (λW=>W.cell? ⟨a,1,none⟩=some (.pointer (some ⟨tb,0,none⟩))/\W.cell? ⟨a,3,none⟩=some (.pointer (some ⟨b,0,none⟩))) (go_keep) (first|(go_at_call 74;refine(Da j).mono ?_;rintro e w2⟨rfl,c⟩;have d1:w2.cell? ⟨a,1,none⟩=some (.pointer (some ⟨tb,0,none⟩)):=(FX.cell (Da d w2 c) 1).trans rfl;have d3:w2.cell? ⟨a,3,none⟩=some (.pointer (some ⟨b,0,none⟩)):=(FX.cell (Da d w2 c) 3).trans rfl;have k:=Db c;clear c))
 go_wp2;go_ret;exact⟨rfl,Da k⟩
theorem M4(w:World)(a:OA)(l c:Nat)(Q:World->Nat->Prop)(h:Cl 75 #[.slice a l c] w λe X=>∃b:Nat,e=.returned (.tuple #[.pointer (some ⟨b,0,none⟩),.bool true])/\Hid (Cl 76 #[.pointer (some ⟨b,0,none⟩)] X λe Y=>∃d tb:Nat,e=.returned (.tuple #[.pointer (some ⟨d,0,none⟩),.pointer (some ⟨tb,0,none⟩),.bool true])/\Hid (∀Z,Hg Z Y.heap.size tb b d->Bw Y Z->Q Z Y.heap.size))):
  Cl 27 #[.slice a l c] w λe w'=>∃vb,e=.returned (.tuple #[.pointer (some ⟨vb,0,none⟩),.int .i64 0])/\Q w' vb:=by
 have k:=Db h;clear h;go_enter func27,ntmps27;go_wp2_with(first|(go_at_call 75;refine(Da k).mono ?_;rintro e X⟨b,rfl,i⟩)|(go_at_call 76;refine(Da i).mono ?_;rintro e Y⟨d,tb,rfl,j⟩)|(go_at_call 77;refine(R6 Y tb b d).mono ?_;rintro e Z⟨rfl,f,g,-⟩;have m:=Db (Da j Z f g);clear f g));exact Ap (v:=.tuple #[.pointer (some ⟨Y.heap.size,0,none⟩),.int .i64 0]) (by simp[results,results27,go_sem]) rfl ⟨_,rfl,Da m⟩
end Go.Proofs.YtaieidcohdhgpaaGreatDoor
