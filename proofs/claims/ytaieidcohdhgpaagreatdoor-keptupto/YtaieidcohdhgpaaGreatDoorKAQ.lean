/- Kept. -/
import Derived.Test.YtaieidcohdhgpaaGreatDoorKAP
namespace Go.Proofs.YtaieidcohdhgpaaGreatDoor
variable{t:By}{G G':Gh}{d:IB}{ρ:Int->Nat}{x:It}{s:KS}{K:KS->Prop}{I:LF}{D F ns:LY}{ep:List Int}{A L:List It}{en:List Nat}{C a:NB}{E:NS}{V:NV}{B N T b k l mf n0 tb vb:Nat}{X:Nat->Prop}{α:Type}{w:World}
set_option maxHeartbeats 40000000
set_option maxRecDepth 100000
set_option linter.all false
open Go.RowKit
def kV(u:VS):Option Int:=if u.p.isSome=true then none else some u.f
def kG(x:LY×VS):LY×Option Int:=(x.1,kV x.2)
def kL(x:It):LY×Option Int:=(x.ns,if x.k=1 then none else some (x.f:Int))
structure IH(C:NB)(L:List It):Prop extends G1 C L where
 az:∀x∈L,GO x.ns/\x.ns≠[]/\x.ns.length<=6
 nd:(L.map (·.ns)).Nodup
 up:∀k x,L[k]?=some x->x.ns.dropLast=[]\/∃y∈L.take k,y.ns=x.ns.dropLast/\y.k=1
 lk:∀k x,L[k]?=some x->x.k=3->∃y∈L.take k,y.k=2/\y.f=x.f
 ch:∀ds,L.countP (λx=>decide (x.ns.dropLast=ds))<=20
 iw:1+L.countP (λx=>decide (x.k=1))+L.countP (λx=>decide (x.k=2))<=60
structure I5(C:NB)(L:List It)(G:Gh)(I:LF)(CI:IB):Prop where
 g:G.map kG=L.map kL
 nk:(I.map (·.1)).Nodup
 il:I.length=L.countP (λx=>decide (x.k=2))
 i:∀x∈I,(∃z∈L,z.k=2/\x.1=(z.f:Int))/\x.2.l=(CI x.1).size/\x.2.f=((G.countP (λy=>decide (kV y.2=some x.1)):Nat):Int)
 i2:∀z∈L,z.k=2->∃r,((z.f:Int),r)∈I
 c:∀z∈L,z.k=2->CI z.f=C z.f
 us:DL (I.map (·.2.l))=(L.map (λx=>GE (cx C x))).sum
theorem I5.nil(C:NB)(CI:IB):I5 C [] [] [] CI:=
 ⟨rfl,Eg,rfl,Γ,Γ,Γ,rfl⟩
theorem Zq{a c:LF}{f:Int}{r h:VF}(g:(I.map (·.1)).Nodup)(aa:∀x∈I,x.1≠f)(e:a.length=I.length+1)(h2:∀x,x∈a↔x=(f,h)\/x∈I)(b:Gs a c f r):List.Perm ((f,r)::I) c:=by refine UG _ _ ?_ (λx d=>?_) (by rw[b.1,e];simp_all);rw[Cf];exact⟨Γ,(Bj.1 g).imp Γ⟩;rcases AM.1 d with rfl|d;exact(b.2 _).2 (.inl rfl);exact(b.2 _).2 Γ
theorem Z0{J:LF}(h:List.Perm I J):DL (I.map (·.2.l))=DL (J.map (·.2.l)):=by grind [DL]
theorem TJ(d:By):GE d=(d.size+63)/64:=rfl
section
variable{C:NB}{L:List It}{G G':Gh}{I I':LF}{CI C':IB}{x:It}
theorem I5.no(h:I5 C L G I CI){f:Nat}(hf:∀z∈L,z.k≠1->z.f≠f):G.countP (λy=>decide (kV y.2=some (f:Int)))=0:=by rw[C5];intro y b e;obtain⟨z,hz,a⟩:=AB.1 (h.g ▸ Fg b);unfold kL kG at a;grind
theorem I5.add(h:I5 C L G I CI)(p:Dc (jn x.ns)=x.ns)(D:x.k=2->∀z∈L,z.k≠1->z.f≠x.f){dl:Nat}{d:By}(B:x.k=2->d=C x.f/\dl=(C x.f).size)(g:Ns x.k G G' I I' CI C' (jn x.ns) x.f dl d):I5 C (L++[x]) G' I' C':=by
 have n0:GE ⟨#[]⟩=0:=rfl;rcases g.a8 with k|k|k;obtain⟨_,⟨nb,rfl⟩,rfl,rfl⟩:=g.cj k;refine⟨?_,h.nk,?_,λy c=>?_,λz a b=>?_,λz a b=>?_,?_⟩;rw[AE,AE,h.g,p];grind [kG,kL,kV];rw[h.il,AU];grind;obtain⟨⟨z,j,l⟩,m,n⟩:=h.i y c;refine⟨⟨z,Ba _ j,l⟩,m,?_⟩;rw[n,AU];simp[kV];rcases Al.1 a with a|a;exact h.i2 z a b;simp_all;rcases Al.1 a with a|a;exact h.c z a b;simp_all;rw[h.us,AE,Fo];grind [cx];obtain⟨⟨rfl,I1,da,dc,j,l,m,n,w⟩,_,_,A,_⟩:=g.e1 k;obtain⟨rfl,rfl⟩:=B k;have i:=Zq h.nk A j l m;refine⟨?_,?_,?_,λy c=>?_,λz a b=>?_,λz a b=>?_,?_⟩;rw[AE,AE,h.g,p];grind [kG,kL,kV];rw[<-(i.map (·.1)).nodup_iff,A6,Cf];exact⟨Γ,h.nk⟩;rw[<-i.length_eq,Ay,h.il,AU];grind;rcases AM.1 (i.mem_iff.2 c) with rfl|c;refine⟨Γ,by rw[n],?_⟩;rw[AU,(h.no (D k))];simp[kV];obtain⟨⟨z,s,t⟩,u,v⟩:=h.i y c;refine⟨⟨z,Ba _ s,t⟩,by rw[w y c];exact u,?_⟩;rw[v,AU];have:=A y c;have e:decide (kV (⟨none,(x.f:Int)⟩)=some y.1)=false:=by simp[kV];omega
 simp[e];rcases Al.1 a with a|a;obtain⟨r,q⟩:=h.i2 z a b;grind;grind;rcases Al.1 a with a|a;obtain⟨r,q⟩:=h.i2 z a b;rw[w _ q];exact h.c z a b;simp_all;rw[<-Z0 i,AE,Fo,<-h.us];grind [DL,cx,TJ];obtain⟨_,_,rfl,rfl,r,o,f⟩:=g.de k;refine⟨?_,f.nd h.nk o,?_,λy c=>?_,λz a b=>?_,λz a b=>?_,?_⟩;rw[AE,AE,h.g,p];grind [kG,kL,kV];rw[f.1,h.il,AU];grind;rw[AU];rcases(f.2 y).1 c with rfl|⟨c,aa⟩;obtain⟨⟨z,s,t⟩,u,v⟩:=h.i _ o;grind [List.mem_append_left,kV];obtain⟨⟨z,s,t⟩,u,v⟩:=h.i y c;grind [List.mem_append_left,decide,kV];rcases Al.1 a with a|a;obtain⟨E,q⟩:=h.i2 z a b;by_cases e:(z.f)=(x.f);rw[e];exact⟨_,(f.2 _).2 (.inl rfl)⟩;exact⟨E,(f.2 _).2 Γ⟩;simp_all;rcases Al.1 a with a|a;exact h.c z a b;simp_all;rw[AE,Fo,<-h.us];have:cx C x=⟨#[]⟩:=by simp_all[cx]
 simp only[A6,CF,this,n0,FQ,List.sum_nil,Ep];exact f.e8 h.nk o rfl
end
theorem TL{G:Gh}(a:Gp G){q:LY}(c:q≠[]):∀(m:Nat) (t:LY),t.length=m->(∃v,(q++t,v)∈G/\v.p.isSome=true)->∃v,(q,v)∈G/\v.p.isSome=true
 |0,t,ht,h=>by simp_all
 |m+1,t,ht,⟨v,hv,_⟩=>by have b:t≠[]:=Γ;rw[<-Cx b,<-Ar]at hv;refine TL a c m t.dropLast Ξ ?_;rcases a.up _ _ _ hv with e|e;simp_all;omega
theorem Z7:∀(d ns q:LY),q∈Dw d ns->∃t n,q++t++[n]=d++ns/\q≠[]
 |d,[],q,h=>by grind [Dw]
 |d,[n],q,h=>by grind [Dw]
 |d,n::m::ns,q,h=>by rcases AM.1 h with rfl|h;refine⟨(m::ns).dropLast,(m::ns).getLast Θ,?_,Θ⟩;grind [List.append_assoc,List.dropLast_concat_getLast];obtain⟨t,k,e,a⟩:=Z7 _ _ q h;exact⟨t,k,by rw[e];simp,a⟩
theorem Xd{G:Gh}:∀(qs:List (LY)),(∀q∈qs,∃u,Gr G q=some u/\u.p.isSome=true)->GJ G qs=0
 |[],_=>rfl
 |q::r,h=>by obtain⟨u,h1,h2⟩:=h q Θ;simp_all[GJ,Xd]
theorem ah_of(a:Gp G)(h:ns.dropLast=[]\/∃v,(ns.dropLast,v)∈G/\v.p.isSome=true):GJ G (Dw [] ns)=0:=by refine Xd _ (λq f=>?_);obtain⟨t,n,e,d⟩:=Z7 [] ns q f;have b:ns.dropLast=q++t:=Γ;rw[b]at h;rcases h with h|h;simp_all;obtain⟨v,g,c⟩:=TL a d _ t rfl h;exact⟨v,RL a.nd g,c⟩
theorem nBl_or(C:NB)(x:It):cx C x=C x.f/\x.k=2\/cx C x=⟨#[]⟩/\x.k≠2:=by unfold cx;grind
theorem Vl{p : α -> Bool}{L:List α}{x : α}(h:L[k]?=some x)(b:p x=true):(L.take k).countP p+1<=L.countP p:=by
 obtain⟨a,e⟩:=Ac.1 h
 conv=>rhs;rw[<-Bz k L,A2 a,AU,CG,e]
 simp[b]
theorem VU{β γ:Type}{f : α -> γ}{g : β -> γ}{p : γ -> Bool}{A:List α}{B:List β}(h:A.map f=B.map g):A.countP (λx=>p (f x))=B.countP (λx=>p (g x)):=by have a:=BJ (p:=p) (f:=f) (l:=A);rw[h]at a;exact a.r.M (BJ (p:=p) (f:=g) (l:=B))
section
variable{C:NB}{L:List It}{G:Gh}{I:LF}{CI:IB}{x:It}{k:Nat}
theorem IH.fresh(h:IH C L)(g:L[k]?=some x)(f:x.k=2):∀z∈L.take k,z.k≠1->z.f≠x.f:=by have m:∀j z,j<k->L[j]?=some z->z.k=2->z.f≠x.f:=λj z a c d=>h.ok.fresh j k z x a c g d f;intro z c h1 e;obtain⟨j,a⟩:=BO.1 c;rw[AZ]at a;split at a;rcases h.ok.a8 z (Ai a) with q|q|q;omega;grind;obtain⟨y,l,n,y2⟩:=h.lk j z a q;obtain⟨i,b⟩:=BO.1 l;rw[AZ]at b;split at b;exact m i y Ω b n Ω;cases b;simp_all
theorem I5.fj(h:IH C L)(a:L[k]?=some x)(b:I5 C (L.take k) G I CI)(g:TG G I):Nf x.k G I (jn x.ns) x.f (C x.f).size:=by
 have j:=Ai a;obtain⟨B,D,K⟩:=h.az x j;have s:=TK B D K;have q:=UV B D;have A:=(Ac.1 a).1;have ae:=h.ok.len;have m:G.map (·.1)=(L.take k).map (·.ns):=by have:=Cp (List.map Prod.fst) b.g;rw[BP,BP]at this;exact this
 have gl:G.length=k:=by have:=Cp List.length m;grind
 have ab:Gr G x.ns=none:=by
  cases e:Gr G x.ns with
  |none=>rfl
  |some u=>
   have d:x.ns∈(L.take k).map (·.ns):=(by rw[<-m];exact AB.2 ⟨_,JZ e,rfl⟩);have f:=h.nd;rw[<-Bz k L,A2 A,AE,CZ]at f;grind
 have aa:GJ G (Dw [] x.ns)=0:=ah_of g.ok (by
  rcases h.up k x a with e|⟨y,c,e1,v⟩;simp_all;have o:kL y∈G.map kG:=by rw[b.g];grind
  obtain⟨z,l,H⟩:=AB.1 o;unfold kL kG kV at H;grind)
 have i:Hy G (jn x.ns)=0:=by simp_all[Hy,DR]
 have n:G.countP (GH x.ns.dropLast)<20:=by have d:=VU (p:=λns=>decide (ns.dropLast=x.ns.dropLast)) m;have f:=Vl (p:=λy:It=>decide (y.ns.dropLast=x.ns.dropLast)) a Θ;have w:=h.ch x.ns.dropLast;have h4:G.countP (GH x.ns.dropLast)=_:=d;omega
 have ac:cD G []=1+(L.take k).countP (λy=>decide (y.k=1)):=by rw[Qx g.ok];have d:=VU (p:=λz:LY×Option Int=>z.2.isNone) b.g;grind [kG,kV,kL,decide]
 have af:=h.iw;have ad:=b.il;have c1:(L.take k).countP (λy=>decide (y.k=1))<=L.countP (λy=>decide (y.k=1)):=(List.take_sublist k L).countP_le;have c2:(L.take k).countP (λy=>decide (y.k=2))<=L.countP (λy=>decide (y.k=2)):=(List.take_sublist k L).countP_le;refine⟨h.ok.a8 x j,λe=>?_,λe=>⟨⟨g.ok,Ω,Ω,λy c=>by have:=(g.rg y c).2.2.1;omega,by grind [UD],i,?_,λy c v=>?_,λI1 I2 da dc d f w=>?_⟩,h.ok.num x j,h.ok.size x j e⟩,λe=>⟨i,?_,?_⟩⟩;have E:=Vl (p:=λy:It=>decide (y.k=1)) a (by simp[e]);have o:Je G I x.ns.dropLast=true:=CM ⟨⟨n,Ω⟩,Ω⟩;unfold ID;unfold Hy at i;rw[if_neg (by rw[s];decide)]at i ⊢;rw[if_neg Ω,q,o];rfl;have E:=Vl (p:=λy:It=>decide (y.k=2)) a (by simp[e]);unfold Je;rw[q];exact CM ⟨⟨n,Ω⟩,Ω⟩;obtain⟨⟨z,l,O,P⟩,_⟩:=b.i y c;exact h.fresh a e z l Ω Ω;have s:=Zq b.nk (λy c v=>by obtain⟨⟨z,l,O,P⟩,_⟩:=b.i y c;exact h.fresh a e z l Ω Ω) d f w;rw[<-Z0 s];have t:=h.e8;rw[<-Bz k L,A2 A,(Ac.1 a).2,AE,Fo,A6,FQ,<-b.us]at t;have F:cx C x=C x.f:=by unfold cx;rw[if_pos e]
 rw[F,TJ]at t;unfold DL at t ⊢;simp only[A6,FQ];omega;rw[q];exact CM ⟨n,Ω⟩;obtain⟨y,c,M,N⟩:=h.lk k x a e;obtain⟨r,J⟩:=b.i2 y c M;exact⟨r,by rw[<-N];exact J⟩
end
structure IX(S S':Gi)(L:List It):Prop where
 new:∀n,S' n=true->S n=true\/∃z∈L,z.k=2/\z.f=n
 e2:∀A y B,L=A++y::B->y.k=3->S y.f=true\/∃z∈A,z.k=2/\z.f=y.f
theorem IX.nil(S:Gi):IX S S []:=⟨Γ,Ξ⟩
theorem IX.dq{S g i:Gi}{B:List It}(h:IX S g A)(k:IX g i B):IX S i (A++B):=by
 refine⟨λn m=>?_,λX y Y e f=>?_⟩;rcases k.new n m with e|⟨z,b,e⟩;rcases h.new n e with e|⟨z,b,e⟩;simp_all;grind;grind;rcases List.append_eq_append_iff.1 e with⟨l,j,a⟩|⟨d,j,a⟩;rcases k.e2 l y Y a f with e|⟨z,b,e⟩;rcases h.new _ e with e|⟨z,b,e⟩;simp_all;grind;grind;cases d with
 |nil=>
  rcases k.e2 [] y Y Ξ f with e|⟨z,b,e⟩;rcases h.new _ e with e|⟨z,b,e⟩;simp_all;grind;simp_all
 |cons c d=>
  injection a with a e3;subst a;exact h.e2 X y d j f
theorem IX.f9{b:LY->Gi->List It×Gi}(hr:∀ns S,IX S (b ns S).2 (b ns S).1)(ns:LY)(S:Gi)(x:Ek):IX S (Hx b ns S x).2 (Hx b ns S x).1:=by
 have g:∀(y:It) (c:Gi),(∀n,c n=true->S n=true\/y.k=2/\y.f=n)->(y.k=3->S y.f=true)->IX S c [y]:=λy c h h2=>by
  refine⟨λn d=>?_,λA z B e hk=>?_⟩;rcases h n d with e|e;exact .inl e;exact .inr ⟨y,Θ,e⟩;cases A with
  |nil=>simp_all
  |cons a A=>simp_all
 unfold Go.Proofs.YtaieidcohdhgpaaGreatDoor.Hx;split;exact(g _ S Γ Γ).dq Γ;rename_i f _;split;simp_all;refine g _ _ (λn d=>?_) Γ;have aa:(if n=f then true else S n)=true:=d;grind
theorem IX.e0{a:LY->Gi->List It×Gi}(b:∀ns S,IX S (a ns S).2 (a ns S).1)(ns:LY):∀(l:List Ek) (S:Gi),IX S (GS a ns l S).2 (GS a ns l S).1
 |[],S=>IX.nil S
 |x::l,S=>(IX.f9 b ns S x).dq (IX.e0 b ns l _)
theorem XU(ch:LY->List Ek):∀(d:Nat) (ns:LY) (S:Gi),IX S (DY ch d ns S).2 (DY ch d ns S).1
 |0,_,S=>IX.nil S
 |d+1,ns,S=>IX.e0 (XU ch d) ns _ S
def Lm(ns:LY)(L:List It):Prop:=∀A y B,L=A++y::B->y.ns.dropLast=ns\/∃z∈A,z.ns=y.ns.dropLast/\z.k=1
theorem Lm.dq{B:List It}(h:Lm ns A)(k:Lm ns B):Lm ns (A++B):=by
 intro X y Y e;rcases List.append_eq_append_iff.1 e with⟨f,d,a⟩|⟨b,d,a⟩;exact(k f y Y a).imp id Γ;cases b with
 |nil=>exact(k [] y Y Ξ).imp id Γ
 |cons c b=>
  injection a with a e3;subst a;exact h X y b d
theorem Lm.f9{b:LY->Gi->List It×Gi}(c:∀ns S,Lm ns (b ns S).1)(ns:LY)(S:Gi)(x:Ek):Lm ns (Hx b ns S x).1:=by
 unfold Go.Proofs.YtaieidcohdhgpaaGreatDoor.Hx;have aa:∀k f,Lm ns [⟨ns++[x.1],k,f⟩]:=λk f A y B e=>by
  cases A with
  |nil=>grind
  |cons a A=>simp_all
 split;intro A y B e;cases A with
 |nil=>grind
 |cons a A=>
  injection e with e1 e2;right;rcases c _ S A y B e2 with q|⟨z,hz,q⟩;exact⟨a,Θ,by rw[<-e1,q],by rw[<-e1]⟩;grind
 grind
theorem Lm.e0{b:LY->Gi->List It×Gi}(a:∀ns S,Lm ns (b ns S).1)(ns:LY):∀(l:List Ek) (S:Gi),Lm ns (GS b ns l S).1
 |[],S=>λA y B e=>by cases A<;>cases e
 |x::l,S=>(Lm.f9 a ns S x).dq (Lm.e0 a ns l _)
theorem XV(ch:LY->List Ek):∀(d:Nat) (ns:LY) (S:Gi),Lm ns (DY ch d ns S).1
 |0,_,_=>λA y B e=>by cases A<;>cases e
 |d+1,ns,S=>Lm.e0 (XV ch d) ns _ S
theorem Tu(a:LY->Gi->List It×Gi)(ns:LY){x:Ek}:∀(l:List Ek) (S:Gi),x∈l->∃b,∀y∈(Hx a ns b x).1,y∈(GS a ns l S).1
 |[],_,h=>by grind
 |z::l,S,h=>by rcases AM.1 h with rfl|h;exact⟨S,λy c=>Ba _ c⟩;obtain⟨b,d⟩:=Tu a ns l (Hx a ns S z).2 h;exact⟨b,λy c=>Cg _ (d y c)⟩
structure TF(G:Gh)(I:LF):Prop extends TG G I where
 ch:∀ds,G.countP (GH ds)<=20
theorem ZhQ{α β γ : Type}(e : α -> γ)(f : β -> γ)(c : α -> Nat)(d : β -> Nat):∀(A:List α) (B:List β),(A.map e).Nodup->(∀a∈A,∃b∈B,f b=e a/\c a<=d b)->(A.map c).sum<=(B.map d).sum
 |[],_,_,_=>Ao _
 |a::A,B,hn,h=>by rw[A6,Cf]at hn;obtain⟨b,g,e1,e2⟩:=h a Θ;obtain⟨s,t,rfl⟩:=Eb g;have ih:=ZhQ e f c d A (s++t) hn.2 Γ;grind
section
variable{w:World}{tb rd:Nat}{V:NV}{E:NS}{vi:Value}{G:Gh}{I:LF}{CI:IB}
theorem Tk(hT:TW w tb rd V E vi G I CI)(a:Gp G)(h:Gd G rd ns b):DB G rd E ns=(E b).map Jk:=by unfold DB;rcases h with⟨rfl,rfl⟩|c;rw[if_pos rfl];rw[if_neg (a.ne _ c),RL a.nd c]
theorem Zw(f:TW w tb rd V E vi G I CI)(c:Gp G):∀(d:Nat) (ns:LY) (S:Gi) (b:Nat),Gd G rd ns b->∀t u,t≠[]->t.length<=d->(ns++t,u)∈G->∃y∈(DY (DB G rd E) d ns S).1,y.ns=ns++t
 |0,_,_,_,_,t,_,h0,hl,_=>by grind
 |d+1,ns,S,b,hd,[],_,h0,_,_=>absurd rfl h0
 |d+1,ns,S,b,hd,n::t,u,_,hl,hm=>by
  have j:=f.d.en ns b hd;show ∃y∈(GS (DY (DB G rd E) d) ns (DB G rd E ns) S).1,y.ns=_;rw[Tk f c hd];by_cases g:t=[];subst g;obtain⟨i,a⟩:=Tu (DY (DB G rd E) d) ns ((E b).map Jk) S (AB.2 ⟨(n,u),(j n u).2 hm,rfl⟩);unfold Hx Jk at a;split at a;exact⟨_,a _ (by simp;exact .inl rfl),rfl⟩;split at a;exact⟨_,a _ (by simp;rfl),rfl⟩;exact⟨_,a _ (by simp;rfl),rfl⟩;have l:∃v,(ns++[n],v)∈G/\v.p.isSome=true:=by refine TL c Θ _ t.dropLast rfl ?_;have e:ns++n::t=ns++[n]++t.dropLast++[t.getLast g]:=(by grind [List.append_assoc,List.dropLast_concat_getLast]);rw[e]at hm;rcases c.up _ _ _ hm with q|q;simp at q;omega
  obtain⟨v,h,hp⟩:=l;rcases f.d.c9 _ h with e|⟨k,e⟩;simp_all;subst e;obtain⟨i,a⟩:=Tu (DY (DB G rd E) d) ns ((E b).map Jk) S (AB.2 ⟨(n,_),(j n _).2 h,rfl⟩);obtain⟨y,m,e⟩:=Zw f c d _ i k (.inr h) t u g Ξ Ξ;exact⟨y,a y (AO _ m),Ξ⟩
theorem Ry(f:TW w tb rd V E vi G I CI)(h:TG G I):List.Perm ((Dp (DB G rd E)).map kL) (G.map kG):=by
 have n:∀ns,(DB G rd E ns).Pairwise (λx y=>x.1≠y.1):=λns=>by rcases UT f h.ok ns with e|⟨b,o,e⟩;simp_all;rw[e,Bj];exact Bj.1 (f.d.ak ns b o).nodup
 have l:∀y∈Dp (DB G rd E),∃v,(y.ns,v)∈G/\kG (y.ns,v)=kL y:=λy d=>by obtain⟨v,c,q⟩:=PN f h.ok y d;refine⟨v,c,?_⟩;unfold kG kV kL;rcases q with⟨m,_,A⟩|⟨m,q2,A⟩;simp_all;obtain⟨r,p⟩:=h.fl _ c m;have h0:=(h.rg _ p).1;grind
 have s:((Dp (DB G rd E)).map kL).Nodup:=by have:=Bj.1 (Xv _ n);exact Bj.2 (this.imp (λi e=>i (Cp Prod.fst e)))
 have t:(G.map kG).Nodup:=by have:=Bj.1 h.ok.nd;exact Bj.2 (this.imp (λ{a b} i (e)=>i (show(kG a).1=(kG b).1 from Cp _ e)))
 refine(Cm s t).2 (λz=>⟨λj=>?_,λj=>?_⟩);obtain⟨y,d,rfl⟩:=AB.1 j;obtain⟨v,c,e⟩:=l y d;exact AB.2 ⟨_,c,e⟩;obtain⟨⟨ns,u⟩,g,rfl⟩:=AB.1 j;obtain⟨y,d,e⟩:=Zw f h.ok 7 [] (λ_=>false) rd (.inl ⟨rfl,rfl⟩) ns u (h.ok.ne _ g) (by have:ns.length<=6:=h.ok.le _ g;omega) g;obtain⟨v,c,k⟩:=l y d;rw[e,AH]at c k;rw[Kz h.ok.nd g c];exact AB.2 ⟨y,d,k.r⟩
theorem ZhM{L:List α}{x : α}(h:L[k]?=some x):L=L.take k++x::L.drop (k+1):=by grind [List.getElem?_eq_some_iff,List.drop_eq_getElem_cons,List.take_append_drop]
theorem Rg(g:TW w tb rd V E vi G I CI)(h:TF G I):IH (λn=>CI (n:Int)) (Dp (DB G rd E)):=by
 have u:=(OK g h.toTG).2;have y:=Ry g h.toTG;have t:=PN g h.ok;have J:∀x∈Dp (DB G rd E),GO x.ns/\x.ns≠[]/\x.ns.length<=6:=λx c=>by obtain⟨v,f,_⟩:=t x c;exact⟨h.ok.az _ f,h.ok.ne _ f,h.ok.le _ f⟩
 have o:∀p:LY×Option Int->Bool,(Dp (DB G rd E)).countP (λx=>p (kL x))=G.countP (λx=>p (kG x)):=λp=>by have:=y.countP_eq p;rw[BJ,BJ]at this;exact this
 have aa:∀x∈Dp (DB G rd E),x.k=2->∃b∈I,b.1=(x.f:Int)/\GE (cx (λn=>CI (n:Int)) x)<=(b.2.l+63)/64:=λx c k=>by obtain⟨v,f,q|⟨M,q2,_⟩⟩:=t x c;omega;obtain⟨r,A⟩:=h.fl _ f M;have h0:0<=v.f:=(h.rg _ A).1;have e:v.f=(x.f:Int):=Ω;have B:(v.f,r)∈I:=A;refine⟨_,B,e,?_⟩;have hl:=(g.av _ B).1;simp_all[Dh,cx,TJ]
 have s:((Dp (DB G rd E)).filter (λx=>decide (x.k=2))).map (λx=>(x.f:Int)) |>.Nodup:=by rw[BX,Bj,List.pairwise_filter];rw[A1];intro i j D H F C l e;exact u.fresh i j _ _ F (Ab D) (Ab H) Ξ Ξ Ω
 refine⟨⟨u,λx c=>?_,?_⟩,J,?_,λk x c=>?_,λk x c K=>?_,λm=>?_,?_⟩;grind [UD,TK];have l:∀L:List It,(L.map (λx=>GE (cx (λn=>CI (n:Int)) x))).sum=((L.filter (λx=>decide (x.k=2))).map (λx=>GE (cx (λn=>CI (n:Int)) x))).sum:=λL=>by
  induction L with
  |nil=>rfl
  |cons a L ih=>
   by_cases k:a.k=2;simp_all;have:GE (cx (λn=>CI (n:Int)) a)=0:=(by unfold cx;rw[if_neg k];rfl);simp_all
 rw[l];have d:=h.us;unfold DL at d;rw[BP]at d;exact Ae (ZhQ (λx:It=>(x.f:Int)) (λb:Int×VF=>b.1) (λx=>GE (cx (λn=>CI (n:Int)) x)) (λb=>(b.2.l+63)/64) ((Dp (DB G rd E)).filter (λx=>decide (x.k=2))) I s Γ) d;have:=y.map Prod.fst;rw[BP,BP]at this;exact(this.nodup_iff).2 h.ok.nd;rcases XV (DB G rd E) 7 [] (λ_=>false) _ x _ (ZhM c) with e|e;simp_all;exact .inr e;rcases(XU (DB G rd E) 7 [] (λ_=>false)).e2 _ x _ (ZhM c) K with e|e;grind;exact e;exact Ae (CV (o (λz=>decide (z.1.dropLast=m)))) (h.ch m);have C:(Dp (DB G rd E)).countP (λx=>decide (x.k=1))=G.countP (λx=>x.2.p.isSome):=by have:=o (λz=>z.2.isNone);grind [kG,kV,kL,decide]
 have l:(Dp (DB G rd E)).countP (λx=>decide (x.k=2))<=I.length:=by rw[EJ];have:=T0 _ (I.map (·.1)) s Γ;simp_all
 have d:=h.nd;rw[Qx h.ok]at d;omega
end
theorem ZN{α β : Type}(f : α -> β):∀(m:List β) (l:List α),List.Perm (l.map f) m->∃c,List.Perm c l/\c.map f=m
 |[],l,h=>by simp_all
 |b::m,l,h=>by
  obtain⟨a,g,e⟩:=AB.1 (h.mem_iff.2 BV);obtain⟨s,t,rfl⟩:=Eb g;have d:List.Perm ((s++t).map f) m:=by rw[AE,A6,e]at h;rw[AE];exact(List.perm_middle.symm.trans h).cons_inv
  obtain⟨c,p,q⟩:=ZN f m _ d;exact⟨a::c,(p.cons a).M List.perm_middle.symm,by rw[A6,q,e]⟩
theorem Gp.cu(h:Gp G)(p:List.Perm G' G):Gp G':=
 ⟨λx a=>h.az x (p.mem_iff.1 a),λx a=>h.ne x (p.mem_iff.1 a),λx a=>h.le x (p.mem_iff.1 a),((p.map _).nodup_iff).2 h.nd,λns n u a=>(h.up ns n u (p.mem_iff.1 a)).imp id Γ⟩
theorem TG.cu(h:TG G I)(p:List.Perm G' G):TG G' I:=by have b:=h.ok.cu p;refine⟨b,by rw[p.length_eq];exact h.gl,?_,λx a=>by rw[p.length_eq];exact h.rg x a,λx a=>h.fl x (p.mem_iff.1 a),h.us⟩;have:=h.nd;rw[Qx h.ok]at this;rw[Qx b,p.countP_eq];omega
def SB(ρ : Int->Nat)(z:LY×Option Int):By×Int:=(jn z.1,match z.2 with|none => -1|some f=>(ρ f:Int))
theorem vw_kG(ρ : Int->Nat)(x:LY×VS):vw ρ x=SB ρ (kG x):=by grind [vw,DP,SB,kG,kV]
theorem Rl.hw{Z:Value}{i:LF}{C t:IB}{L:List (By×Int)}(h:Rl G I C ρ L F)(B:TW w tb N V E Z G I C)(m:TF G I)(j:I5 (λn=>C (n:Int)) (Dp (DB G N E)) G' i t)(A:TG G' i):
  ∃G'',(∀x,x∈G''↔x∈G')/\Rl G'' i t ρ L F/\TF G'' i:=by
 have o:=Ry B m.toTG;have aa:=Rg B m;rw[<-j.g]at o;obtain⟨u,M,H⟩:=ZN kG _ G' o;have k:=A.cu M;have eL:L=u.map (vw ρ):=by
  have l:∀X:Gh,X.map (vw ρ)=(X.map kG).map (SB ρ):=by grind [List.map_map,List.map_congr_left,vw_kG]
  rw[h.b9,l,l,H]
 have g:∀x∈i,∃r,(x.1,r)∈I/\t x.1=C x.1:=λx b=>by obtain⟨⟨z,K,z2,e⟩,_⟩:=j.i x b;obtain⟨v,U,q|⟨W,q2,_⟩⟩:=PN B m.ok z K;omega;obtain⟨r,c⟩:=h.fl _ U W;have h0:0<=v.f:=h.cf _ c;have O:v.f=x.1:=Ω;have s:(v.f,r)∈I:=c;rw[O]at s;exact⟨r,s,by rw[e];exact j.c z K z2⟩
 have R:∀y∈u,y.2.p=none->∃r,(y.2.f,r)∈I:=λy d o=>by obtain⟨r,c⟩:=k.fl y d o;grind
 have P:∀x∈i,G'.countP (λy=>decide (kV y.2=some x.1))=L.countP (DF (ρ x.1)):=λx b=>by
  obtain⟨r,c,_⟩:=g x b;rw[eL,BJ,<-M.countP_eq];refine FA (λy d=>?_);simp only[C6,An];unfold vw DP DF kV;cases hy2:y.2.p with
  |some a=>simp
  |none=>
   obtain⟨r2,T⟩:=R y d hy2;simp;constructor;simp_all;intro e;exact h.num.inj _ T (x.1,r) c Γ
 refine⟨u,Γ,⟨eL,k.ok,⟨j.nk,λx b y d e=>?_,λx b=>?_,λx b=>?_,λf Q S=>?_,λx b=>?_,λx b=>?_⟩,k.fl,λx b=>?_,λx b=>(A.rg x b).1,k.gl,by have:=A.nd;omega,h.sz⟩,⟨k,λD=>?_⟩⟩;obtain⟨r,c,_⟩:=g x b;obtain⟨Y,s,_⟩:=g y d;exact h.num.inj _ c (y.1,Y) s e;obtain⟨r,c,_⟩:=g x b;exact h.num.lt (x.1,r) c;obtain⟨r,c,_⟩:=g x b;exact h.num.bq (x.1,r) c;obtain⟨x,b,e⟩:=h.num.all f Q S;have l:=h.num.bq x b;rw[eL,BJ,Fi]at l;obtain⟨y,d,J⟩:=l;simp only[C6]at J;unfold vw DP DF at J;cases hy2:y.2.p with
 |some a=>simp_all
 |none=>
  obtain⟨r,c⟩:=k.fl y d hy2;grind
 obtain⟨r,c,e⟩:=g x b;rw[(j.i x b).2.1,e,h.ck _ c];rfl;rw[(j.i x b).2.2,P x b];obtain⟨r,c,e⟩:=g x b;rw[e];exact h.ck (x.1,r) c;exact Ae (CV (VU (p:=λz:LY×Option Int=>decide (z.1.dropLast=D)) H)) (m.ch D)
theorem Ye(x:By×VS):Jk x=(x.1,(kV x.2).map Int.toNat):=by unfold Jk kV;grind
def PB(z:Ek):By×VS:=(z.1,match z.2 with|none=>⟨some (dQ 0 0),0⟩|some f=>⟨none,(f:Int)⟩)
theorem Zts(z:Ek):Jk (PB z)=z:=by obtain⟨n,_|f⟩:=z<;>rfl
theorem Zrq{a b:LS}(i:GA a)(l:GA b)(h:∀z,z∈a.map Jk↔z∈b.map Jk):a.map Jk=b.map Jk:=by
 have g:∀{c:List _},GA c->GA ((c.map Jk).map PB):=λ{c} m j k x y n d f=>by
  rw[BP,A8]at d f;cases ej:c[j]? with
  |none=>simp_all
  |some x'=>
   cases ek:c[k]? with
   |none=>simp_all
   |some y'=>
    rw[ej]at d;rw[ek]at f;cases d;cases f;exact m j k x' y' n ej ek
 have e:=GA.ext (g i) (g l) (λx=>by constructor;intro d;obtain⟨z,o,rfl⟩:=AB.1 d;grind;intro d;obtain⟨z,o,rfl⟩:=AB.1 d;grind);have u:∀c:List Ek,(c.map PB).map Jk=c:=λc=>by rw[BP,show Jk ∘ PB=id from funext Zts,List.map_id]
 grind
section
variable{w w':World}{tb tb' rd rd':Nat}{V V':NV}{E E':NS}{vi vi':Value}{G G':Gh}{I I':LF}{C C':IB}
theorem mem_ch(c:TW w tb rd V E vi G I C)(d:Gd G rd ns b)(z:Ek):z∈(E b).map Jk↔∃k,(ns++[z.1],k)∈G.map kG/\z.2=k.map Int.toNat:=by constructor;intro m;obtain⟨x,j,rfl⟩:=AB.1 m;rw[Ye];exact⟨kV x.2,AB.2 ⟨_,(c.d.en ns b d x.1 x.2).1 j,rfl⟩,rfl⟩;rintro⟨k,i,e⟩;obtain⟨y,l,a⟩:=AB.1 i;obtain⟨y1,f⟩:=y;unfold kG at a;rw[Cu]at a;obtain⟨g,h⟩:=a;subst g h;exact AB.2 ⟨(z.1,f),(c.d.en ns b d _ f).2 l,by rw[Ye];grind⟩
theorem YI(f:TW w' tb' rd' V' E' vi' G' I' C')(h:∀z,z∈G.map kG->z∈G'.map kG)(d:Gd G rd ns b):∃a,Gd G' rd' ns a:=by rcases d with⟨rfl,_⟩|d;exact⟨rd',.inl ⟨rfl,rfl⟩⟩;obtain⟨x,e,c⟩:=AB.1 (h _ (AB.2 ⟨_,d,rfl⟩));unfold kG at c;rw[Cu]at c;obtain⟨x1,x2⟩:=x;obtain⟨rfl,e2⟩:=c;rcases f.d.c9 _ e with hp|⟨a,g⟩;grind [kV];subst g;exact⟨a,.inr e⟩
theorem ZpU(d:TW w tb rd V E vi G I C)(c:TW w' tb' rd' V' E' vi' G' I' C')(j:Gp G)(f:Gp G')(h:∀z,z∈G.map kG↔z∈G'.map kG):DB G rd E=DB G' rd' E':=by
 funext ns;by_cases a:∃b,Gd G rd ns b;obtain⟨b,a⟩:=a;obtain⟨i,g⟩:=YI c Γ a;rw[Tk d j a,Tk c f g];refine Zrq (d.d.ak ns b a) (c.d.ak ns i g) (λz=>?_);grind [mem_ch];have e1:DB G rd E ns=[]:=by grind [UT,absurd]
 have e2:DB G' rd' E' ns=[]:=by rcases UT c f ns with e|⟨b,e,_⟩;omega;exact absurd (YI d Γ e) a
 simp_all
theorem Zrs(b:TW w tb rd V E vi G I C)(a:TF G I)(d:TW w' tb' rd' V' E' vi' G' I' C')(c:TG G' I')(e:I5 (λn=>C (n:Int)) (Dp (DB G rd E)) G' I' C'):Dp (DB G' rd' E')=Dp (DB G rd E):=by rw[ZpU d b c.ok a.ok (λz=>by rw[e.g];exact(Ry b a.toTG).mem_iff)]
end
theorem PG(h:GV C L)(a:x∈L):GE (cx C x)<=20:=by unfold cx;split;rename_i e;exact PP (h.size x a e);exact Ao _
theorem Tw{C0:NB}{d L0:List It}(h:d.map (Qq a)=L0.map (Qq C0)){z:It}(hz:z∈d)(b:k<GE (cx a z)):∃c∈L0,c.f=z.f/\GE (cx C0 c)=GE (cx a z):=by
 have g:Qq a z∈L0.map (Qq C0):=Γ;obtain⟨c,aa,e⟩:=AB.1 g;unfold Qq at e;have ab:z.k=2:=by by_cases f:z.k=2;omega;unfold cx at b;rw[if_neg f]at b;exact absurd b (Nat.not_lt_zero _)
 grind [GE]
section
variable{mf:Nat}{C C0:NB}{L L0:List It}{s s':KS}
theorem Hj.wG(i:Hj mf C L s s')(c:Gy s)(h:G1 C L):My s':=by obtain⟨cl,q,_⟩:=Uz mf s C L;have hl:=h.U s cl;have k:=PI.all c cl h.ok Ω;have r:=UA h.ok _ (c.ok.bk cl) (s.tp+1) (by have:=c.ok.tp;omega);obtain⟨_,_,_,_,_,_,aa⟩:=Yq c.ok cl h.ok;have d:=i.es;have t:=i.tp;have l:=i.D;rw[q]at d t l;obtain⟨j,o,m,_⟩:=k.ri;refine⟨⟨d.1,by rw[d.2.1];omega,Ω,by rw[l,B9,Pb,c.ok.dl],λx f=>?_⟩,λx f y g e=>?_,λx f=>?_⟩;obtain⟨y,g,rfl⟩:=(d.2.2 x).1 f;exact⟨y.2,rfl,r.pl.1 y g⟩;obtain⟨a,n,rfl⟩:=(d.2.2 x).1 f;obtain⟨b,p,rfl⟩:=(d.2.2 y).1 g;have:=Zj0 k.nd n p Ω;grind;obtain⟨y,g,rfl⟩:=(d.2.2 x).1 f;rcases k.mem y g with e|e;have:=(m.ge c e).1;omega;exact c.lo _ e
theorem Hj.du(a:Hj mf C L s s')(c:Gy s)(b:G1 C L):Gw s' C L:=by obtain⟨cl,d,_⟩:=Uz mf s C L;exact(Gw.cw c b.ok d (by have:=b.U s cl;omega) a.es a.tp a.tx a.D).1
theorem Mv.row(h:Mv s C0 L0 t B)(hF:G1 C0 L0)(d:b<60000)(f:k<60000){p:Int}(g:(((Dz b k:Nat):Int),p)∈s.es):b<=B/\k<nR (Do s.es false s.tp s.D) t b/\p=((Gu (Do s.es false s.tp s.D) (Dz b k):Nat):Int):=by rcases(h.es _).1 g with⟨z,hz,i,hi,e⟩|⟨a,j,c,h2,e⟩;grind [Prod.mk.injEq,PG,absurd,Dz,De,ZqS];rw[Cu]at e;have h8:=h.bc.b8;have aa:=h.bc.ns a c;obtain⟨rfl,rfl⟩:=Zb d Ω f Ω (show Dz b k=Dz a j by omega);omega
theorem Hj.topG(i:Hj mf C L s s')(c:Gy s)(g:G1 C L)(S:Gw s C0 L0)(u:G1 C0 L0):s'.tp∈(DK mf s C L).2.ps.map (·.1):=by
 have F:=i.wG c g;obtain⟨t1,a,f,_⟩:=(i.du c g).gi F g.ok;obtain⟨t0,M,m,_⟩:=S.gi c.w u.ok;obtain⟨cl,G,_⟩:=Uz mf s C L;have w:=PI.all c cl g.ok (by have:=g.U s cl;omega);rw[<-G]at w;obtain⟨j,o,v,_⟩:=w.ri;refine Classical.byContradiction λaa=>?_;have b1:=f.bc.b8;have V:((Dz a 0:Nat))=((Dz a 0:Nat))/\(((Dz a 0):Int),((s'.tp):Int))∈s'.es:=⟨rfl,(f.es _).2 (.inr ⟨a,0,Aa _,by have:=f.bc.top;omega,by rw[<-f.tp]⟩)⟩;have W:(((Dz a 0):Int),((s'.tp):Int))∈s.es:=by obtain⟨y,l,e⟩:=(i.es.2.2 _).1 V.2;rw[Cu]at e;rcases w.mem y l with q|q;grind;simp_all
 obtain⟨P,_,hP⟩:=m.row u Ω Ω W;have R:∀p:Nat,∀r:Int,(r,(p:Int))∈s.es->s'.D[p]?=s.D[p]? := λp r H=>by have O:=c.lo _ H;simp only[Bf]at O;rw[i.D,A3 Ω,U8 _ _ _ (λe=>v.bg c e _ H)]
 have I:∀b k,b<=M->k<nR (Do s.es false s.tp s.D) t0 b->(((Dz b k):Int),((Gu (Do s.es false s.tp s.D) (Dz b k):Nat):Int))∈s.es:=λb k t d=>(m.es _).2 Γ;have K:=ZQ m.bc f.bc P (λb k t d=>R _ _ (I b k t d)) (by show Gu _ (Dz a 0)=Gu _ (Dz a 0);rw[<-f.tp];omega);obtain⟨r,T⟩:=ZhN (t1:=t1) (t0:=t0) (n:=nR (Do s'.es false s'.tp s'.D) t1 0) (by have:=f.bc.n0;have e:G9 (Do s'.es false s'.tp s'.D) t1 0=t1:=rfl;grind) (λk d=>(K a 0 Ω k d).2.2);have U:BL (Jj (Do s'.es false s'.tp s'.D) C ⟨#[]⟩ L)++0::r=BL (Jj (Do s.es false s.tp s.D) C0 ⟨#[]⟩ L0)++0::List.replicate (63*nR (Do s'.es false s'.tp s'.D) t1 0) 0:=by have D:∀s:By,BL (s++⟨#[0]⟩)=BL s++[0]:=λs=>Kg _ _;rw[show BL t1=BL (Jj (Do s'.es false s'.tp s'.D) C ⟨#[]⟩ L++⟨#[0]⟩) from Cp BL f.ad,show BL t0=BL (Jj (Do s.es false s.tp s.D) C0 ⟨#[]⟩ L0++⟨#[0]⟩) from Cp BL m.ad,D,D,Ar,Ar]at T;grind
 obtain⟨_,Y,Z⟩:=Vy (λr=>PT (F.ok.bk false) r) (λr=>PT (c.ok.bk false) r) L L0 _ _ _ _ g.ok.bd u.ok.bd U;obtain⟨x,B⟩:=List.exists_mem_of_ne_nil _ i.ne;have E:x.1∈(DK mf s C L).2.ps.map (·.1):=AB.2 ⟨x,B,rfl⟩;have A:∃r,(r,x.1)∈(DK mf s C L).2.U:=by rw[G]at B ⊢;refine Vr (Q:=λst=>∀x∈st.ps,∃r,(r,x.1)∈st.U) (λst r b t h y l=>?_) C _ L (λy l=>(by cases l)) x B;rw[Ge.a6];unfold Ge.put at l ⊢;grind
 obtain⟨r1,A⟩:=A;rcases(f.es _).1 ((i.es.2.2 _).2 ⟨_,A,rfl⟩) with⟨z,J,k,d,e⟩|⟨b,k,t,d,e⟩;rw[Cu]at e;rw[Z z J k d]at e;obtain⟨z0,X,N,e1⟩:=Tw Y J d;have:=(m.es _).2 (.inl ⟨z0,X,k,Ω,rfl⟩);rw[N,<-e.2]at this;exact v.bg c E _ this;rw[Cu]at e;obtain⟨k1,k2,_⟩:=K (a-b) b Ω k d;have:=I b k Ω k1;rw[<-k2,<-e.2]at this;exact v.bg c E _ this
theorem Hj.hk(hm:512<=mf)(i:Hj mf C L s s')(a:Gy s)(d:G1 C L)(k:s'.tp∈(DK mf s C L).2.ps.map (·.1))(ad:s.es.length<=352):Gy s':=by
 have f:=i.wG a d;obtain⟨cl,z,A⟩:=Uz mf s C L;have hl:=d.U s cl;have n:=PI.all a cl d.ok Ω;obtain⟨st0,r,b,I,h,u,p4⟩:=Yq a.ok cl d.ok;have g:=i.es;have p:=i.tp;rw[z]at g p k;rw[<-p]at h u;obtain⟨j,o,c,B⟩:=n.ri;have ae:=a.ok.tp;have af:=f.ok.tp;have t:=(g.2.2 _).2 ⟨_,u,rfl⟩;have D:(Dn s cl C L).2.hd=s'.tp+1:=by
  rw[I,h];cases hs:(Do s.es cl s.tp s.D).aj r b with
  |none=>grind [Ge.put]
  |some q=>
   exfalso;have v:((Do s.es cl s.tp s.D).put st0 r b).1=q:=(by grind [Ge.put]);have w:((r:Int),(q:Int))∈s.es:=(by unfold Ge.aj at hs;split at hs;rename_i q' F;split at hs;cases hs;exact((a.ok.bk cl).a7 F).1;simp_all;simp_all);rw[v]at h;rw[h]at k;exact c.bg a k _ w
 have aa:=c.jl;have ab:=c.o1;have ac:=c.o2;rw[D]at B;refine⟨f.ok,λx G E=>?_,f.inj,PQ t,?_,f.lo,?_⟩;obtain⟨y,H,rfl⟩:=(g.2.2 x).1 G;simp only[Bf]at E ⊢;rcases n.mem y H with e|e;obtain⟨m1,m2⟩:=c.mem _ e;grind [Qh];have l:=a.hp _ e;have m:=PQ e;simp only[Bf]at l m;rcases c.e with⟨J,K⟩|⟨J,K⟩;have:=l Ω;omega;rw[show y.2/16=(s.tp/16+j)%96 by omega]at m;omega;rw[g.nd];cases cl with
 |false=>have:=A rfl;omega
 |true=>
  exact ZnI a d.ok Ω Ω
 have:=f.lo _ t;omega
theorem Hj.i4(f:512<=mf)(d:Hj mf C L s s')(c:Gy s)(a:G1 C L)(e:Gw s C0 L0)(b:G1 C0 L0):Gy s':=
 d.hk f c a (d.topG c a e b) (by rw[e.es.2.1];exact b.U s false)
theorem StaysG.eh(f:Gy s)(j:G1 C L)(A:Gw s C0 L0)(m:G1 C0 L0)(q:(Dn s false C L).2.ps=[]):Gw s C L:=by
 obtain⟨t1,g,a⟩:=StaysG.on f.w j.ok q;obtain⟨t0,o,d,M⟩:=A.gi f.w m.ok;have l:=f.ok.bk false;have b1:=a.bc.b8;obtain⟨w,_,_⟩:=d.row m (k:=0) Ω Ω (l.a7 ((a.on g (Aa _) 0 (by have:=a.bc.top;omega)).1)).1;obtain⟨r,F⟩:=ZhN (t1:=t1) (t0:=t0) (n:=nR (Do s.es false s.tp s.D) t1 0) (by have:=a.bc.n0;have e:G9 (Do s.es false s.tp s.D) t1 0=t1:=rfl;grind) (λk c=>((ZQ d.bc a.bc w Γ rfl) g 0 Ω k c).2.2);have i:∀s:By,BL (s++⟨#[0]⟩)=BL s++[0]:=λs=>Kg _ _;have G:BL (Jj (Do s.es false s.tp s.D) C ⟨#[]⟩ L)++0::r=BL (Jj (Do s.es false s.tp s.D) C0 ⟨#[]⟩ L0)++0::List.replicate (63*nR (Do s.es false s.tp s.D) t1 0) 0:=by rw[show BL t1=BL (Jj (Do s.es false s.tp s.D) C ⟨#[]⟩ L++⟨#[0]⟩) from Cp BL a.ad,show BL t0=BL (Jj (Do s.es false s.tp s.D) C0 ⟨#[]⟩ L0++⟨#[0]⟩) from Cp BL d.ad,i,i,Ar,Ar]at F;grind
 obtain⟨J,K,_⟩:=Vy (λr=>PT l r) (λr=>PT l r) L L0 _ _ _ _ j.ok.bd m.ok.bd G;have v:t1=t0:=K5 (by rw[Cp BL a.ad,Cp BL d.ad,i,i,J]);subst v;have u:g=o:=by rcases AD g o with h|h;have:=M.mn g h;have:=a.bc.top;omega;omega
 subst u;have B:∀x,x∈s.es↔∃y∈(Dn s false C L).2.U,x=((y.1:Int),(y.2:Int)):=λx=>by rw[d.es];constructor;rintro(⟨z,t,k,c,rfl⟩|⟨b,k,p,c,rfl⟩);obtain⟨N,I,e1,e2⟩:=Tw K.r t c;refine⟨_,(a.U _).2 (.inl ⟨N,I,k,Ω,rfl⟩),?_⟩;grind;exact⟨_,(a.U _).2 (.inr ⟨b,k,p,c,rfl⟩),rfl⟩;rintro⟨y,H,rfl⟩;rcases(a.U y).1 H with⟨z,t,k,c,rfl⟩|⟨b,k,p,c,rfl⟩;grind [Tw];grind
 have D:s.es.length=(Dn s false C L).2.U.length:=by
  have E:((Dn s false C L).2.U.map (λy=>((y.1:Int),(y.2:Int)))).Nodup:=by have h2:=(PI.all f false j.ok (by have:=j.U s false;omega)).e9;grind
  have:=(Cm f.ok.ak.nodup E).2 Γ;have:=this.length_eq;simp_all
 exact⟨q,⟨f.ok.ak,D,B⟩,a.tp.M d.tp.r,a.tx.M d.tx.r⟩
theorem Zd4(b:Gy s)(a:G1 C L)(h:(Dn s true C L).2.ps=[]):(Dn s false C L).2.ps=[]/\(Dn s false C L).2.U=(Dn s true C L).2.U:=by
 have f:Hi (Do s.es true s.tp s.D) (Do s.es false s.tp s.D) (Dn s true C L).2:=by refine⟨λy i=>?_,λx c=>?_,λr q _=>rfl,rfl⟩;refine(b.ok.bk false).gn ?_;rcases(PI.all b true a.ok (by have:=a.U s true;omega)).mem y i with e|e;rw[h]at e;cases e;exact e;rw[h]at c;cases c
 have g:=f.cw C (s.tp+1) _ L ⟨λ_ h=>h,λ_ h=>h⟩;have d:Dn s false C L=((Dn s true C L).1,lk (s.tp+1) (Dn s true C L).2):=g;rw[d];exact⟨rfl,rfl⟩
theorem Ht.ie(j:512<=mf)(g:Ht mf C L s s')(b:Gy s)(a:G1 C L)(e:Gw s C0 L0)(d:G1 C0 L0):Gy s'/\Gw s' C L/\s'.tn<=s.tn+1/\(DK mf s C L).2.ps.length<=352:=by
 obtain⟨cl,i,aa⟩:=Uz mf s C L;have f:(DK mf s C L).2.ps.length<=352:=by have c:=a.U s cl;have h2:=(PI.all b cl a.ok Ω).le;grind
 rcases g.ce with⟨c,rfl⟩|h;refine⟨b,StaysG.eh b a e d ?_,Ω,f⟩;rw[i]at c;cases cl with
 |false=>omega
 |true=>grind [Zd4]
 exact⟨h.i4 j b a e d,h.du b a,by rw[h.tn];omega,f⟩
end
theorem WE{i:Nat}(h:i<GE (cx C x)):x.k=2:=by rcases nBl_or C x with⟨_,e⟩|⟨e,_⟩;omega;rw[e]at h;exact absurd h (Nat.not_lt_zero _)
def Mj(E:Ge)(C:NB)(L:List It)(q:Gg):Nat->Gg
 |0=>q
 |k+1=>Qf (Mj E C L q k) (gi L k).f (λi=>Gu E (De 4 (gi L k).f i)) (GE (cx C (gi L k)))
def IV(E:Ge)(C:NB)(L:List It)(t:By)(B k i r:Nat):Prop:=
 (∃b j,b<=B/\j<nR E t b/\r=Dz b j)\/∃k' i',(k'<k/\i'<GE (cx C (gi L k'))\/k'=k/\i'<i)/\r=De 4 (gi L k').f i'
theorem IV.next{E:Ge}{i:Nat}(r:Nat):(IV E C L t B k i r\/r=De 4 (gi L k).f i)↔IV E C L t B k (i+1) r:=by unfold IV;grind
theorem IV.e1{E:Ge}(r:Nat):IV E C L t B k (GE (cx C (gi L k))) r↔IV E C L t B (k+1) 0 r:=by unfold IV;grind
theorem IV.fresh{E:Ge}(c:IH C L){i:Nat}(hB:B<8)(n:∀b,b<=B->nR E t b<=1000)(p:k<L.length)(o:i<GE (cx C (gi L k))):¬IV E C L t B k i (De 4 (gi L k).f i):=by obtain⟨l,e⟩:=Qm p;have hf:=c.ok.num _ e;have hn:=PG c.ok e;rintro(⟨b,j,a,g,d⟩|⟨h,i',a|a,g⟩);have:=n b a;unfold Dz at d;split at d;have:=O7 Ω Ω Ω Ω d;omega;have:=O7 Ω Ω Ω Ω d;omega;obtain⟨m,f⟩:=Qm (L:=L) (k:=h) Ω;have aa:=c.ok.num _ f;have ab:=PG c.ok f;exact c.ok.fresh h k _ _ a.1 m l (WE a.2) (WE o) (R4 Ω Ω Ω Ω g).r;grind [U0]
theorem QI.fu{E:Ge}{C:NB}{L:List It}{t:By}{B:Nat}{q:Gg}{k n:Nat}(h:QI E (IV E C L t B k 0) n q):∀i,QI E (IV E C L t B k i) (n+i) (Qf q (gi L k).f (λi=>Gu E (De 4 (gi L k).f i)) i)
 |0=>h
 |i+1=>((QI.fu h i).put (De 4 (gi L k).f i)).congr IV.next (Aa _)
theorem QI.ex{E:Ge}{C:NB}{L:List It}(a:IH C L){t:By}{B:Nat}{q:Gg}{n:Nat}(h:QI E (IV E C L t B 0 0) n q):∀k,k<=L.length->QI E (IV E C L t B k 0) (n+20*k) (Mj E C L q k)
 |0,_=>h
 |k+1,hk=>by have h1:=PG a.ok (Qm (L:=L) (k:=k) Ω).2;exact((QI.ex a h k Ω).fu _).congr IV.e1 Ω
theorem ZtU{s b p:By}{c:Nat}{r:List UInt8}(h:BL s=UInt8.ofNat c::UInt8.ofNat (J5 b p)::UInt8.ofNat (p.size-J5 b p)::(BL (DO b p)++r))(hp:p.size<=100)(o:c<256):Dx (BL (Dg s 1))=c/\Dx (BL (Dg (eS s) 1))<=b.size/\eP b s=p/\BL (Ll s)=r:=by
 obtain⟨a,d⟩:=ex (J5 b p);have q:=Zg b p;unfold DO at h;rw[<-d]at q h;obtain⟨e,f⟩:=Ut [UInt8.ofNat c] (n:=1) rfl s _ h;obtain⟨b1,g⟩:=Ut [UInt8.ofNat a] (n:=1) rfl (eS s) _ f;obtain⟨c1,i⟩:=Ut [UInt8.ofNat (p.size-a)] (n:=1) rfl (eS (eS s)) _ g;have t:p.size-a=(BL (p.extract a p.size)).length:=by grind [Jn,ByteArray.size_extract]
 obtain⟨j,d2⟩:=Ut _ t (eS (eS (eS s))) _ i;have k:Dx (BL (Dg (eS s) 1))=a:=by grind [Pf,Qw]
 have m:Dx (BL (Dg (eS (eS s)) 1))=p.size-a:=by grind [Pf,Qw]
 refine⟨by rw[e,Pf,Qw o],Ω,?_,by grind [Ll]⟩;unfold eP;rw[k,m];refine K5 ?_;rw[Kg,j,Km,Km,Cs,Nat.sub_zero,Ak (l:=(BL p).drop a) (by simp_all[List.length_drop,Jn])];have:(BL b).take a=(BL p).take a:=by rw[d];exact ZhU _ _
 simp_all
def L8(E:Ge)(C:NB)(L:List It)(z k:Nat):By:=⟨(BL (Jj E C (PF (λj=>jn (gi L j).ns) k) (L.drop k))++(0::List.replicate z 0)).toArray⟩
theorem P5(E:Ge)(C:NB)(L:List It)(z k:Nat):BL (L8 E C L z k)=BL (Jj E C (PF (λj=>jn (gi L j).ns) k) (L.drop k))++(0::List.replicate z 0):=Ve _
theorem TE(E:Ge)(C:NB)(L:List It)(z:Nat)(h:L.length<=k):Dx (BL (Dg (L8 E C L z k) 1))=0:=by rw[Ub,P5,EF h];rfl
theorem P6{E:Ge}(g:IH C L)(ac:∀r,Gu E r<1536)(z:Nat)(M:k<L.length){s l:By}(O:s=L8 E C L z k)(N:l=PF (λj=>jn (gi L j).ns) k):
  Dx (BL (Dg s 1))=(gi L k).k/\Dx (BL (Dg (eS s) 1))<=l.size/\eP l s=jn (gi L k).ns/\((gi L k).k=1->Ll s=L8 E C L z (k+1))/\((gi L k).k=3->eF s=(gi L k).f/\eS (Ll s)=L8 E C L z (k+1))/\
  ((gi L k).k=2->eF s=(gi L k).f/\eL s=(C (gi L k).f).size/\(∀i,i<GE (C (gi L k).f)->eQ s i=Gu E (De 4 (gi L k).f i))/\(eL s+63)/64=GE (C (gi L k).f)/\Dt (eR s) (GE (C (gi L k).f))=L8 E C L z (k+1)):=by
 obtain⟨g1,b⟩:=Qm M;have D:L.drop k=gi L k::L.drop (k+1):=by grind [List.getElem?_eq_some_iff,List.drop_eq_getElem_cons]
 have h:BL s=BL (KX E C l (gi L k))++BL (L8 E C L z (k+1)):=by rw[O,P5,P5,<-Ar,D,N];rfl
 obtain⟨e,P⟩:=ex (L8 E C L z (k+1));obtain⟨x,w⟩:=ex (gi L k);rw[<-P,<-w]at h ⊢;rw[<-w]at b;have ab:=g.ok.a8 x b;have hf:=g.ok.num x b;rw[OO]at h;simp only[AK,Ar]at h;obtain⟨y,A,B,a⟩:=ZtU h (g.ok.c7 x b) Ω;refine⟨y,A,B,λR=>?_,λT=>?_,λS=>?_⟩;unfold MD at a;rw[if_pos R,AH]at a;exact K5 a;unfold MD at a;rw[if_neg Ω,if_pos T]at a;obtain⟨F,o⟩:=Ut [UInt8.ofNat x.f] (n:=1) rfl (Ll s) _ a;exact⟨by grind [eF,Pf,Qw],K5 o⟩;have I:=g.ok.size x b S;unfold MD at a;rw[if_neg Ω,if_neg Ω]at a;obtain⟨d,J⟩:=ex (C x.f);obtain⟨c,p⟩:=ex (Ja (λk=>Ji (Gu E (De 4 x.f k)) (Dr (GN d k))) (GE d));rw[<-J]at a I ⊢;rw[<-p]at a;simp only[AK,Ar]at a;obtain⟨F,o⟩:=Ut [UInt8.ofNat x.f] (n:=1) rfl (Ll s) _ a;obtain⟨h1,q⟩:=Ut _ (n:=2) (Js 2 _).r (eS (Ll s)) _ o;have aa:((256:Nat) ^ 2)=65536:=rfl;have v:=UE (f:=λk=>Ji (Gu E (De 4 x.f k)) (Dr (GN d k))) (m:=10) (λk=>Qe _ _) (GE d);rw[<-p]at v;have t:eL s=d.size:=by grind [eL,K8]
 have H:BL (eR s)=c++BL e:=q;refine⟨by grind [eF,Pf,Qw],t,λi K=>?_,by rw[t];rfl,by grind [K5,Ro,List.drop_left]⟩;have u:BL (Dt (eR s) i)=(c++BL e).drop (10*i):=by rw[Ro,H]
 have G:=OT (f:=λk=>Ji (Gu E (De 4 x.f k)) (Dr (GN d k))) (m:=10) (λk=>Qe _ _) (GE d) i K;rw[<-p]at G;have Q:=Cp List.length u;rw[Jn,AN,Ah,v]at Q;unfold eQ;rw[Td _ Ω,u,EA Ω];have q:((c.drop (10*i)++BL e).take 2)=(Ji (Gu E (De 4 x.f i)) (Dr (GN d i))).take 2:=by grind
 grind [Ji,List.take_left',Js,K8,De]
theorem ZqV(hI:Gy s)(o:IH C L)(U:Mv s C L t B):∃T,Pp True T s.D s.tp s.tx/\∀q x aa G I M,T q x aa G I M->Dx (BL (Dg x 1))=0->I5 C L G I M/\(∀y:Nat×Nat,y∈q.a4↔((y.1:Int),(y.2:Int))∈s.es)/\∀p,q.tk p=true->∃r:Int,(r,(p:Int))∈s.es:=by
 obtain⟨E,hE⟩:=ex (Do s.es false s.tp s.D);have aj:=hI.ok.bk false;rw[<-hE]at aj;have Q:=U.bc;have ao:=U.ad;have ah:=U.av;have ad:=U.es;have aF:=U.tp;have aG:=U.tx;have aM:=U.ts;rw[<-hE]at Q ao ah ad aF aG;obtain⟨R,hR⟩:=ex (G9 E t);obtain⟨N,hN⟩:=ex (nR E t);have au:R 0=t:=by rw[hR];rfl
 obtain⟨P,hP⟩:∃P:Nat->Nat->Nat,P=λb k=>Gu E (Dz b k):=⟨_,rfl⟩;obtain⟨X,hX⟩:∃X:Nat->Nat->Nat,X=λb k=>Dr (Dy (IQ b) (G9 E t b) (Ij b) k):=⟨_,rfl⟩;rw[<-hP,<-hX,<-hR,<-hN]at Q;have aL:=Q.top;obtain⟨u,aD⟩:=ex (JY N P (LX R) B 0 Jv);obtain⟨ab,ae⟩:=YL Q;obtain⟨z,ap,aO⟩:=ZnA Q;rw[<-aD]at ab ae ap;have aB:=Q.ns;have aq:=Q.b8;have af:∀r,Gu E r<1536:=λr=>by
  unfold Gu;cases e:E.at r with
  |none=>grind
  |some q=>exact(aj.a7 e).2
 have aJ:=o.ok.len;have ag:∀k,k<=L.length->∀i,(k<L.length->i<=GE (cx C (gi L k)))->(k=L.length->i=0)->∀r,IV E C L t B k i r->((r:Int),(Gu E r:Int))∈s.es:=λk v i A aI r hr=>by rcases hr with⟨b,j,f,g,rfl⟩|⟨k',i',f,rfl⟩;grind;refine(ad _).2 (.inl ⟨gi L k',(Qm (L:=L) (k:=k') ?_).2,i',?_,rfl⟩);omega;grind
 have ar:QI E (IV E C L t B 0 0) 8000 u:=by refine⟨λy=>⟨λZ=>?_,λ⟨Z,e⟩=>?_⟩,λp hp=>?_,?_⟩;obtain⟨b,k,f,g,rfl⟩:=ab.g1 y Z;rw[ae b f,hN]at g;rw[hP];exact⟨.inl ⟨b,k,f,g,rfl⟩,rfl⟩;rcases Z with⟨b,k,f,g,O⟩|⟨k',i',f,_⟩;have:=ab.g6 b k f (by rw[ae b f,hN];omega);grind;omega;rcases ab.g2 p hp with⟨b,k,f,g,O⟩|⟨b,f,g,O,h4⟩;rw[ae b f,hN]at g;rw[hP]at O;exact⟨_,.inl ⟨b,k,f,g,rfl⟩,O⟩;omega;rw[ab.g7];have f:KO u.tn (B+1)<=KO (λ_=>1000) (B+1):=XJ _ (λk v=>Ae (ab.g3 k Ω) (aB k Ω));rw[VE]at f;omega
 have ak:=λk v=>ar.ex o k v;have az:∀b,b<=B->nR E t b<=1000:=λb hb=>by rw[<-hN];grind
 have aE:L8 E C L z 0=u.t:=K5 (by rw[P5,ap,au,ao,Kg];show BL (Jj E C ⟨#[]⟩ (L.drop 0))++([0]++List.replicate z 0)=_;rw[Cs,<-Ar];rfl);have an:KF s.D 1537 s.tp Jv=some (B,u):=by have:=Zs Q B (Aa _) 1537 0 Jv Ω Ω (GW.start N P _ B (B+1)) (L4.start N B);grind
 have hu:=WV Jv;have aw:∀k,k<L.length->∀i,i<GE (cx C (gi L k))->(Qf (Mj E C L u k) (gi L k).f (λi=>Gu E (De 4 (gi L k).f i)) i).tk (Gu E (De 4 (gi L k).f i))=false/\∀y∈(Qf (Mj E C L u k) (gi L k).f (λi=>Gu E (De 4 (gi L k).f i)) i).a4,y.1≠De 4 (gi L k).f i:=λk v i A=>by
  have hq:=(ak k Ω).fu i;have aH:=IV.fresh (E:=E) (t:=t) o aq az v A;refine⟨?_,λy Z e=>?_⟩;cases ht:(Qf (Mj E C L u k) (gi L k).f (λi=>Gu E (De 4 (gi L k).f i)) i).tk (Gu E (De 4 (gi L k).f i)) with
  |false=>rfl
  |true=>
   exfalso;obtain⟨r,f,g⟩:=hq.tk _ ht;have m1:=ag k Ω i (λ_=>Ω) (λe=>Ω) r f;have m2:(((De 4 (gi L k).f i:Nat):Int),((Gu E (De 4 (gi L k).f i):Nat):Int))∈s.es:=(ad _).2 (.inl ⟨gi L k,(Qm v).2,i,A,rfl⟩);have:=hI.inj _ m1 _ m2 Ω;grind [Prod.mk.injEq,De,gi]
  obtain⟨f,_⟩:=(hq.a4 y).1 Z;grind
 have ax:∀(k:Nat) (x:By),k<L.length->eF x=(gi L k).f->(∀i,i<GE (cx C (gi L k))->eQ x i=Gu E (De 4 (gi L k).f i))->∀n,n<=GE (cx C (gi L k))->Hz (Mj E C L u k) (eF x) (eQ x) n=Qf (Mj E C L u k) (gi L k).f (λi=>Gu E (De 4 (gi L k).f i)) n:=λk x v f g n hn=>by rw[f];exact WF n (λi A=>⟨g i Ω,(aw k v i Ω).2⟩)
 refine⟨λq x aa G I M=>∃k,k<=L.length/\q=Mj E C L u k/\x=L8 E C L z k/\aa=PF (λj=>jn (gi L j).ns) k/\I5 C (L.take k) G I M,λW w0 n0 rb db va vt h vf vw ve a l c hD am h0 aC=>?_,?_⟩;refine ZqX True _ (D:=s.D) ?_ ?_ ?_ W w0 n0 rb db 0 0 Jv va vt h hD am h0 aC s.tp s.tx (KF s.D 1537 s.tp Jv) (λX va vt hX=>Zig w0 n0 rb db s.tp s.tx hD am 1537 0 s.tp s.tx Jv X va vt G7.start Ω hX) (λb q' e=>⟨?_,Zpo hD.2.1.2 e⟩) (λe=>by rw[an]at e;cases e);rintro q x aa G I M kd p fn l d q' s' G' I' C'⟨k,v,rfl,K,Y,V⟩ ⟨H,_,S⟩ F ai hA;rcases AD k L.length with m|m;obtain⟨g1,J⟩:=Qm m;obtain⟨u1,_,u3,v1,v3,v2⟩:=P6 o af z m K Y;have w:kd=(gi L k).k:=H.M u1;obtain⟨p1,_,p3⟩:=S ai;obtain⟨n1,n2,n3⟩:=o.az _ J;have ay:fn=(gi L k).f\/(gi L k).k=1:=by rcases o.ok.a8 _ J with q|q|q;omega;exact .inl ((F.1 (w.M q)).1.M (v2 q).1);exact .inl ((F.2.2 (w.M q)).2.2.M (v3 q).1)
 have hd:(gi L k).k=2->d=C (gi L k).f/\l=(C (gi L k).f).size:=λq=>by
  obtain⟨d1,d2,d3⟩:=F.1 (w.M q);obtain⟨_,u5,u6,u7,_⟩:=v2 q;have ac:cx C (gi L k)=C (gi L k).f:=by unfold cx;grind
  rw[u7,u5,WZ (P:=eQ x) (d:=C (gi L k).f) _ (λi A=>by rw[u6 i A,<-ac];exact(ah _ J i (by rw[ac];exact A)).2.2)]at d3;exact⟨K5 (by rw[d3,Km,Cs,Nat.sub_zero];exact ZpX _),d2.M u5⟩
 have hT:I5 C (L.take (k+1)) G' I' C':=by rw[ZsR m];rw[w,p1,u3]at hA;refine V.add (UV n1 n2) (λq=>o.fresh g1 q) hd (dl:=l) (d:=d) ?_;rcases ay with e|e;grind;exact⟨hA.a8,hA.cj,λq=>Ω,λq=>Ω⟩
 refine⟨k+1,m,?_,?_,by rw[p1];exact u3,hT⟩;show _=Qf (Mj E C L u k) (gi L k).f _ (GE (cx C (gi L k)));rcases o.ok.a8 _ J with q|q|q;rw[(F.2.1 (w.M q)).1];unfold cx;rw[if_neg Ω];rfl;obtain⟨u4,_,u6,u7,_⟩:=v2 q;have ac:cx C (gi L k)=C (gi L k).f:=by unfold cx;grind
 grind;rw[(F.2.2 (w.M q)).1];unfold cx;rw[if_neg Ω];rfl;rcases o.ok.a8 _ J with q|q|q;rw[(F.2.1 (w.M q)).2];grind;grind;rw[(F.2.2 (w.M q)).2.1];grind;grind [absurd,TE];rintro q x aa G I M⟨k,v,rfl,K,Y,V⟩ ⟨aK,hn⟩;rcases AD k L.length with m|m;obtain⟨g1,J⟩:=Qm m;obtain⟨u1,u2,u3,_,_,v2⟩:=P6 o af z m K Y;rcases hn with hn|⟨m1,m3,hn⟩;omega;have q:(gi L k).k=2:=by have:=o.ok.a8 _ J;omega
 obtain⟨u4,_,u6,u7,_⟩:=v2 q;have ac:cx C (gi L k)=C (gi L k).f:=by unfold cx;grind
 rw[<-ac]at u6 u7;refine absurd (λi A=>?_) hn;rw[u7]at A;obtain⟨m1,m2,_⟩:=ah _ J i A;rw[ax k x m u4 u6 i Ω,u6 i A];grind;grind [absurd,TE];rintro q x aa G I M kd p fn l d q' s'⟨k,v,rfl,K,Y,V⟩ av ⟨H,_,S⟩ F ai aA;rcases AD k L.length with m|m;obtain⟨g1,J⟩:=Qm m;obtain⟨u1,_,u3,v1,v3,v2⟩:=P6 o af z m K Y;have w:kd=(gi L k).k:=H.M u1;have hM:=I5.fj o g1 V av;refine absurd ?_ aA;rw[(S ai).1,u3,w];refine⟨hM.a8,hM.cj,λq=>?_,λq=>?_⟩;obtain⟨d1,d2,_⟩:=F.1 (w.M q);grind;rw[(F.2.2 (w.M q)).2.2,(v3 q).1];exact hM.de q;grind [absurd,TE];rw[an]at e;cases e;exact⟨0,Ao _,rfl,aE.r,rfl,I5.nil _ _⟩;rintro q x aa G I M⟨k,v,rfl,K,Y,V⟩ aN;obtain rfl:k=L.length:=by rcases AD k L.length with m|m;have:=(P6 o af z m K Y).1;have:=o.ok.a8 _ (Qm m).2;omega;omega
 rw[BD]at V;have hq:=ak L.length (Aa _);refine⟨V,λy=>?_,λp hp=>?_⟩;rw[hq.a4];constructor;rintro⟨f,g⟩;rw[g];exact ag L.length (Aa _) 0 (λ_=>Ao _) (λ_=>rfl) _ f;intro Z;rcases(ad _).1 Z with⟨x,K,k,f,g⟩|⟨b,k,f,g,O⟩;rw[Cu]at g;have H:y.1=De 4 x.f k:=by have:=g.1;omega
 have S:y.2=Gu E (De 4 x.f k):=by have:=g.2;omega
 refine⟨.inr ?_,by rw[H,S]⟩;obtain⟨j,hj,ej⟩:=List.mem_iff_getElem.1 K;have al:gi L j=x:=by unfold gi;rw[Ab hj,ej];rfl
 exact⟨j,k,.inl ⟨hj,by rw[al];exact f⟩,by rw[al,H]⟩;rw[Cu]at O;have H:y.1=Dz b k:=by have:=O.1;omega
 have S:y.2=Gu E (Dz b k):=by have:=O.2;omega
 exact⟨.inl ⟨b,k,f,g,H⟩,by rw[H,S]⟩;obtain⟨r,f,g⟩:=hq.tk p hp;rw[g];exact⟨(r:Int),ag L.length (Aa _) 0 (λ_=>Ao _) (λ_=>rfl) _ f⟩
abbrev RT:=List (By×Int)×LY
theorem Gw.ho(c:Gy s)(b:G1 C L)(h:Gw s C L)(d:∀r q:Nat,((r:Int),(q:Int))∈s.es->D[q]?=s.D[q]?):Gw (Oa s D) C L:=by
 have e:Hi (Do s.es false s.tp s.D) (Do s.es false s.tp D) (Dn s false C L).2:=
  ⟨λy j=>h.es.at (PI.all c false b.ok (by have:=b.U s false;omega)).e9 false _ _ j,λx i=>(by rw[h.ps]at i;grind),λr q g=>d r q ((c.ok.bk false).a7 g).1,rfl⟩
 have f:=e.cw C (s.tp+1) _ L ⟨λ_ h=>h,λ_ h=>h⟩;have a:Dn (Oa s D) false C L=((Dn s false C L).1,lk (s.tp+1) (Dn s false C L).2):=f;exact⟨by rw[a];rfl,by rw[a];exact h.es,by rw[a];exact h.tp,by rw[a];exact h.tx⟩
def Ik(b:RT)(s:KS):Prop:=∃(C:NB) (Lt:List It),IH C Lt/\Gw s C Lt/\∀G I CI,I5 C Lt G I CI->TG G I->(∃G' ρ,(∀x,x∈G'↔x∈G)/\Rl G' I CI ρ b.1 b.2/\TF G' I)/\∀w tb rd V E vi,TW w tb rd V E vi G I CI->Dp (DB G rd E)=Lt
def GP(T:Nat)(b:RT)(D:LY):Prop:=∃s:KS,s.D=D/\Gy s/\Hp s/\Ik b s/\s.tn<=T
theorem Ik.a2{b:RT}(h:Ik b s)(a:Gy s)(f:Hp s)(j:s.tn<=T)(k:D.length=1536)(e:∀i,i<2->D[i]?=s.D[i]?)(g:∀r q:Nat,((r:Int),(q:Int))∈s.es->D[q]?=s.D[q]?):GP T b D:=by obtain⟨C,d,c,l,m⟩:=h;exact⟨Oa s D,rfl,a.a2 k,f.a2 e,⟨C,d,c,l.ho a c.toG1 g,m⟩,j⟩
def Pt(st n:Nat)(lost:List Bool)(e x:Nat):Prop:=e<x/\(e+1=x->∃k,st+k<n/\lost[k]?=some true)
structure Hu(T:Nat)(F:LY)(ps:LB)(ep:List Int)(s:KS)(kb:List RT)(en:List Nat):Prop where
 fl:F.length=1536
 f64:∀x∈F,x.size=64
 gh:∀x∈ps,x.1<1536/\x.2.size=64
 ed:Jd F ps=s.D
 d8:∀x∈ep,0<=x/\x<=ps.length
 gm:ep.Pairwise (· <= ·)
 fp:Hc ep ps.length ep.length=ps.length
 ll:kb.length=en.length
 ci:∃b,kb[kb.length-1]?=some b/\Ik b s
 el:en[en.length-1]?=some ep.length
 zero:∃b,kb[0]?=some b/\GP T b F
 hr:∀e:Nat,e<=ep.length->∀lost j,At en e j->∃i b,(i=j\/i+1=j/\∀x,en[j]?=some x->Pt (Hc ep ps.length e) (GY ep ps.length e) lost e x)/\kb[i]?=some b/\GP T b (DD F ps (Hc ep ps.length e) lost (GY ep ps.length e))
 gq:∀x∈en,x<=ep.length
section
variable{T T':Nat}{F:LY}{ps:LB}{ep:List Int}{s s':KS}{kb:List RT}{en:List Nat}{b':RT}
theorem GP.Q{b:RT}(h:GP T b D)(hT:T<=T'):GP T' b D:=by obtain⟨s,a,c,d,e,h5⟩:=h;exact⟨s,a,c,d,e,Ω⟩
theorem Y9{kb:List RT}(h:∃b,kb[0]?=some b/\GP T b F)(c:T<=T')(b':RT):∃b,(kb++[b'])[0]?=some b/\GP T' b F:=by obtain⟨b,h1,a⟩:=h;exact⟨b,Γ,a.Q c⟩
theorem Tz{m:Int}(h:ep.Pairwise (· <= ·))(hm:∀x∈ep,x<=m):(ep++[m]).Pairwise (· <= ·):=
 by grind
theorem Hu.none(h:Hu T F ps ep s kb en)(k:T<=T')(p:GP T' b' s.D)(hB:Ik b' s):Hu T' F ps (ep++[((ps.length:Nat):Int)]) s (kb++[b']) (en++[ep.length+1]):=by
 have r:∀c,DD F ps ps.length c ps.length=s.D:=λc=>by rw[Ud _ (Aa _) (Aa _),BD,h.ed]
 have aa:(kb++[b'])[kb.length]?=some b':=Ξ;refine⟨h.fl,h.f64,h.gh,h.ed,λx a=>?_,Tz h.gm (λx a=>(h.d8 x a).2),?_,by rw[Ah,Ah,h.ll];rfl,Γ,?_,Y9 h.zero k b',λe t c j f=>?_,λx a=>?_⟩;rcases Al.1 a with q|q;exact h.d8 x q;simp_all;rw[Ah];grind [Hc,Uf,OD];simp_all;rw[Ah,BA]at t;rcases AD ep.length e with d|d;obtain rfl:e=ep.length+1:=Ω;have o:DD F ps (Hc (ep++[((ps.length):Int)]) ps.length ((ep.length+1:Nat))) c (GY (ep++[((ps.length):Int)]) ps.length ((ep.length+1:Nat)))=s.D:=by grind [Uf,OD,GY,Uv,List.length_append]
 rw[o];rcases f.new with rfl|⟨_,q⟩;exact⟨_,b',.inl rfl,by rw[<-h.ll];omega,p⟩;have:=q _ h.el;omega;have l:GY (ep++[((ps.length):Int)]) ps.length (e)=GY ep ps.length (e):=by rcases AD e ep.length with g|g;exact To g;obtain rfl:e=ep.length:=Ω;rw[OD,Uv]
 rw[XH (n:=ps.length) d,l];rcases f.new with rfl|⟨q,_⟩;have:=f.ci h.el;obtain rfl:e=ep.length:=Ω;refine⟨_,b',.inl rfl,by rw[<-h.ll];omega,?_⟩;rw[h.fp,Uv,r];omega;obtain⟨i,b,h1,h2,m⟩:=h.hr e d c j q;exact⟨i,b,by rw[Ap q.lt];omega,Γ,m.Q k⟩;rw[Ah,BA];rcases Al.1 a with q|q;have:=h.gq x q;omega;simp_all
theorem Hu.some(h:Hu T F ps ep s kb en)(C:T<=T')(A:Gy s)(N:Hp s)(ab:s.tn<=T'){Q:LB}{c:Nat}{cb:By}(hQ:∀x∈Q,x.1<1536/\x.2.size=64/\16<=x.1/\∀r:Int,(r,(x.1:Int))∉s.es)(ae:c<2)(ad:cb.size=64)(O:s'.D=(Jd s.D Q).set c cb)(hK:GP T' b' s'.D)(hB:Ik b' s'):
  Hu T' F (ps++Q++[(c,cb)]) (ep++[((ps.length+Q.length:Nat):Int)]++[((ps.length+Q.length+1:Nat):Int)]) s' (kb++[b']) (en++[ep.length+2]):=by
 obtain⟨g,ac,M⟩:=h.ci;have ag:(kb++[b'])[kb.length]?=.some b':=Ξ;have af:(kb++[b'])[kb.length-1]?=.some g:=Γ;have ah:=(Ac.1 h.el).1;have y:(ps++Q++[(c,cb)]).length=ps.length+Q.length+1:=Γ;have E:Jd F (ps++Q++[(c,cb)])=s'.D:=by rw[VG,Z3,h.ed,O]
 have S:∀f,DD F (ps++Q++[(c,cb)]) (ps.length+Q.length+1) f (ps.length+Q.length+1)=s'.D:=λf=>by rw[Ud _ (Aa _) Ω,Ak Ω,E]
 have G:∀D:LY,D.length=1536->(∀p,(∀x∈Q,x.1≠p)->D[p]?=s.D[p]?)->GP T' g D:=λD u U=>
  M.a2 A N ab u Γ (λr q hm=>U q (λx a e=>Γ))
 have I:ep++[((ps.length+Q.length:Nat):Int)]++[((ps.length+Q.length+1:Nat):Int)]=ep++((ps.length+Q.length:Nat):Int)::[((ps.length+Q.length+1:Nat):Int)]:=Θ;obtain⟨d,t⟩:=ex (ep++[((ps.length+Q.length:Nat):Int)]++[((ps.length+Q.length+1:Nat):Int)]);have o:d.length=ep.length+2:=Ξ;have B:∀n e:Nat,e<=ep.length->Hc d n (e:Int)=Hc ep ps.length (e:Int):=by grind [XH]
 have R:∀n e:Nat,e<ep.length->GY d n (e:Int)=GY ep ps.length (e:Int):=by grind [To]
 have z:∀n,GY d n (ep.length:Int)=ps.length+Q.length:=λn=>by rw[t,I];exact OD
 have v:∀n,GY d n ((ep.length+1:Nat):Int)=ps.length+Q.length+1:=λn=>by have:=OD (ep:=ep++[((ps.length+Q.length:Nat):Int)]) (q:=[]) (n:=n) (m:=ps.length+Q.length+1);simp_all
 have P:∀n,GY d n ((ep.length+2:Nat):Int)=n:=λn=>by rw[<-o];grind [Uv]
 have Z:d.Pairwise (· <= ·):=by rw[t];refine Tz (Tz h.gm (λx a=>?_)) (λx a=>?_);have:=(h.d8 x a).2;omega;rcases Al.1 a with q|q;have:=(h.d8 x q).2;omega;grind
 rw[<-t];refine⟨h.fl,h.f64,λx a=>?_,E,λx a=>?_,Z,?_,by rw[Ah,Ah,h.ll];rfl,Ξ,?_,Y9 h.zero C b',λe W f j w=>?_,λx a=>?_⟩;rcases Al.1 a with q|q;rcases Al.1 q with q|q;exact h.gh x q;grind;grind;rw[y];rw[t]at a;rcases Al.1 a with q|q;rcases Al.1 q with q|q;have:=h.d8 x q;omega;grind;grind;rw[o,y,show((ep.length+2:Nat):Int)=((ep.length+1+1:Nat):Int) from rfl,Uf,v];simp_all;rw[o]at W;rw[y];have aa:ep.length<=e->j=en.length:=λl=>by rcases w.new with q|⟨_,q⟩;omega;have:=q _ h.el;omega
 have V:∀st k,(DD F (ps++Q++[(c,cb)]) st f k).length=1536:=λst k=>by rw[Ue,h.fl]
 rcases AD e ep.length with l|l;rw[B _ _ Ω,R _ _ l,Ar];rcases w.new with rfl|⟨q,_⟩;have:=w.ci h.el;omega;obtain⟨i,b,h1,h2,L⟩:=h.hr e Ω f j q;refine⟨i,b,by rw[Ap q.lt];omega,Γ,?_⟩;rw[O3];exact L.Q C;obtain⟨x,a⟩:∃x,ep[e]?=Option.some x:=Ξ;rw[UR,a];show x.toNat<=_;have q1:=(h.d8 x (Ai a)).2;omega;have Y:=aa l;subst Y;rcases AD ep.length e with J|J;rcases AD (ep.length+1) e with K|K;obtain rfl:e=ep.length+1+1:=Ω;refine⟨_,b',.inl rfl,by rw[<-h.ll];omega,?_⟩;rw[Uf,v,P,S];omega;obtain rfl:e=ep.length+1:=Ω;rw[Uf,z,v];have hq:DD F (ps++Q++[(c,cb)]) (ps.length+Q.length) f (ps.length+Q.length)=Jd s.D Q:=by rw[O3 _ Ξ,Ud _ (Aa _) Ξ,<-Ah,BD,Z3,h.ed]
 cases u:Jb (ps.length+Q.length) f (ps.length+Q.length) with
 |true=>
  refine⟨en.length-1,g,.inr ⟨Ω,λx a=>?_⟩,by rw[<-h.ll];omega,?_⟩;rw[AJ (Aa _),Cw]at a;obtain rfl:ep.length+2=x:=Ξ;refine⟨Ω,λ_=>⟨0,Ω,?_⟩⟩;unfold Jb at u;grind;rw[UX u,hq];exact G _ (by rw[Pb,A.ok.dl]) (λp H=>U8 _ _ _ Γ)
 |false=>
  refine⟨_,b',.inl rfl,by rw[<-h.ll];omega,?_⟩;simp_all[Uy,List.length_append,Nat.sub_self]
 obtain rfl:e=ep.length:=Ω;refine⟨en.length-1,g,.inr ⟨Ω,λx a=>?_⟩,by rw[<-h.ll];omega,?_⟩;rw[AJ (Aa _),Cw]at a;obtain rfl:ep.length+2=x:=Ξ;exact⟨Ω,Ω⟩;rw[z,B _ _ (Aa _),h.fp];refine G _ (V _ _) (λp H=>?_);rw[O3 _ Ξ,RN (m:=ps.length) (λi x X a=>?_) _ Ω,Ud _ (Aa _) (by rw[Ah];omega),Ce rfl,h.ed];rw[AJ X]at a;exact H x (Ai a);rw[o];rcases Al.1 a with q|q;have:=h.gq x q;omega;simp_all
end
theorem Ht.ip{c:KS}(a:Ht mf C L s c)(b:Gy s)(d:G1 C L)(h:Hp s):Hp c:=by
 rcases a.ce with⟨_,rfl⟩|a;omega;obtain⟨cl,k,_⟩:=Uz mf s C L;have f:=PI.all b cl d.ok (by have:=d.U s cl;omega);rw[<-k]at f;obtain⟨j,o,i,_⟩:=f.ri;have g:=a.tn;have l:c.tx<18446744073709551616:=by rw[a.tx];exact XA _
 refine⟨l,Ω,?_,s.tp,s.tx,by have:=b.ok.tp;omega,h.tx,?_⟩;rw[a.D,g,Cr (by rw[Pb,b.ok.dl];omega)];rw[a.D,g,A3 Ω,U8 _ _ _ (λe=>by have:=(i.ge b e).1;omega),show(s.tn+1+1)%2=s.tn%2 by omega,show s.tn+1-1=s.tn by omega];exact h.aq
theorem Zrz{o:LB}{kb:List RT}{b:RT}{d:Nat}(h:Hu T F o ep s (kb++[b]++[b]) (en++[d]++[l]))(hm:d<=l)(O:∀x,en[en.length-1]?=some x->x<=d):Hu T F o ep s (kb++[b]) (en++[l]):=by
 have M:=h.ll;simp only[Ah,BA]at M;have K:(kb++[b])[kb.length]?=some b:=Θ;refine⟨h.fl,h.f64,h.gh,h.ed,h.d8,h.gm,h.fp,by simp;omega,?_,?_,?_,λe G z j t=>?_,λx a=>h.gq x (by simp at a ⊢;exact a.elim .inl (λq => .inr (.inr q)))⟩;obtain⟨c,k,f⟩:=h.ci;have u:c=b:=by simpa using k.r
 subst u;exact⟨c,Θ,f⟩;have:=h.el;simp at this ⊢;exact this;obtain⟨c,k,f⟩:=h.zero;exact⟨c,by rw[Ap Θ]at k;exact k,f⟩;have I:=t.lt;simp only[Ah,BA]at I;have v:∀n,At (en++[d]++[l]) e n->(n=j\/n=j+1/\j=en.length)->(n=j->∀x y,(en++[d]++[l])[j]?=some x->(en++[l])[j]?=some y->e<x->x<=y)->∃i c,(i=j\/i+1=j/\∀x,(en++[l])[j]?=some x->Pt (Hc ep o.length e) (GY ep o.length e) z e x)/\(kb++[b])[i]?=some c/\GP T c (DD F o (Hc ep o.length e) z (GY ep o.length e)):=by
  intro n A B P;obtain⟨i,c,k,f,p⟩:=h.hr e G z n A;by_cases g:i=kb.length+1;have u:c=b:=by rw[g]at f;simpa using f.r
  subst u;exact⟨kb.length,c,.inl Ω,K,p⟩;have H:=(Ac.1 f).1;simp only[Ah,BA]at H;rw[Ap (by simp;omega)]at f;refine⟨i,c,?_,f,p⟩;rcases k with k|⟨k,E⟩;exact .inl Ω;rcases B with rfl|⟨rfl,B⟩;refine .inr ⟨k,λy m=>?_⟩;obtain⟨x,a⟩:∃x,(en++[d]++[l])[n]?=some x:=⟨_,Ab A.lt⟩;obtain⟨C,D⟩:=E x a;have:=P rfl x y a m C;exact⟨Ω,λaa=>D Ω⟩;exact .inl Ω
 by_cases J:j=en.length;subst J;rcases AD e d with q|q;refine v _ ⟨Θ,λi x g a=>t.lo i x g ?_,λi x g r a=>?_⟩ (.inl rfl) ?_;rw[Ar,Ap Ω]at a;rw[Ap Ω];exact a;simp at r;obtain rfl:i=en.length:=Ω;have:x=d:=by simpa using a.r
 omega;intro _ x y a m _;have:x=d:=by simpa using a.r
 have:y=l:=by simpa using m.r
 omega;refine v _ ⟨Θ,λi x g a=>?_,λi x g r a=>by simp at r;omega⟩ (.inr ⟨rfl,rfl⟩) (λe=>Ω);obtain rfl:i=en.length:=Ω;have:x=d:=by simpa using a.r
 omega;refine v j ⟨by simp;omega,λi x g a=>t.lo i x g ?_,λi x g r a=>?_⟩ (.inl rfl) (λ_ x y a m _=>?_);rw[Ar,Ap Ω]at a;rw[Ap Ω];exact a;simp at r;rcases AD i en.length with q|q;rw[Ar,Ap q]at a;exact t.hi i x g (by simp;omega) (by rw[Ap q];exact a);obtain rfl:i=en.length:=Ω;have u:x=d:=by simpa using a.r
 have p:en[en.length-1]?=some (en[en.length-1]' Ω):=Ab _;have f:=t.hi (en.length-1) _ Ω (by simp;omega) (by rw[Ap Ω];exact p);have:=O _ p;omega;rw[Ar,Ap Ω]at a;rw[Ap Ω]at m;rw[a]at m;cases m;exact Aa _
def GZ(K:KS->Prop)(X:Nat->Prop)(N n0:Nat)(w:World)(vb stb db:Nat)(fs:By)(kb:List RT)(en:List Nat):Prop:=
 ∃s vk vf vn vw ve ps ep F,K s/\H0 w stb db vk s vf vn vw ve ps ep/\Hg w vf F/\(∀k,Own vf k->¬Hn stb db vn vw ve k/\n0<=k)/\Hu (N+1) F ps ep s kb en/\Gy s/\Hp s/\s.tn<=N+1/\ps.length<=353*N/\ep.length<=2*N/\(∀k,Hn stb db vn vw ve k->n0<=k/\k≠vb)/\(∀k,Own vk k->n0<=k)/\(∀k,Hn stb db vn vw ve k->¬X k)/\fs=DI F
def SS(X:Nat->Prop)(n0 vb:Nat)(w:World)(k:Nat):Prop:=n0<=k/\k≠vb/\¬X k/\∀t R,Gb w k t R->t=179\/t=204\/t=188\/t=207\/t=3
def Ig(X:Nat->Prop)(n0 vb:Nat)(w w':World):Prop:=Fr (SS X n0 vb w) w w'
theorem Ig.M{g w2:World}(a:Ig X n0 vb w g)(b:Ig X n0 vb g w2):Ig X n0 vb w w2:=
 ⟨b.os.M a.os,b.tape.M a.tape,b.output.M a.output,Ae a.size b.size,λk f d=>by have c:=a.block k f d;exact(b.block k (As f a.size) (λe=>d ⟨e.1,e.2.1,e.2.2.1,λt R h=>e.2.2.2 t R (c.M h)⟩)).M c⟩
theorem Ig.below{a:World}(h:Bw w a):Ig X n0 vb w a:=Fr.S h
section
variable{X:Nat->Prop}{N n0:Nat}{w w':World}{vb tb db stb:Nat}{fs:By}{kb:List RT}{en:List Nat}{L:List (By×Int)}{F:LY}
theorem Rl.kept{g:Nat}{l:Value}(k:Rl G I d ρ L F)(f:TW w tb g V E l G I d)(e:TF G I)(j:Gw s (λn=>d (n:Int)) (Dp (DB G g E))):Ik (L,F) s:=
 ⟨_,_,Rg f e,j,λG' I' C' h i=>by obtain⟨G2,a,b,c⟩:=k.hw f e h i;grind [Zrs]⟩
theorem Hu.any{e:LB}(h:Hu T D e ep s kb en):∃C L,G1 C L/\Gw s C L:=by obtain⟨b,_,C,a,c,d,_⟩:=h.ci;exact⟨C,a,c.toG1,d⟩
theorem GZ.g4(i:512<=mf){T u c vw f:Value}{J:LB}(aj:H0 w stb db T s u c vw f J ep)(O:Hg w u D)(P:∀k,Own u k->¬Hn stb db c vw f k/\n0<=k)(v:Hu (N+1) D J ep s kb en)(b:Gy s)(M:Hp s)(h1:s.tn<=N+1)(h2:J.length<=353*N)(h3:ep.length<=2*N)(K:∀k,Hn stb db c vw f k->n0<=k/\k≠vb)(h5:∀k,Own T k->n0<=k)(Y:∀k,Hn stb db c vw f k->¬X k)(h7:fs=DI D)(hn:n0<=w.heap.size)(an:vb<w.heap.size)(hX:∀k,X k->k<w.heap.size){vi:Value}(ai:Rl G I d ρ L F)(hT:TW w tb l V E vi G I d)(Z:TF G I){e:Ending}(a:Vg mf w stb db T s u c vw f J ep (λn=>d (n:Int)) (Dp (DB G l E)) e w'):
  e=dR (.tuple #[])/\(∃m,(∀x,en[en.length-1]?=some x->x<=m)/\GZ (λp=>Ht mf (λn=>d (n:Int)) (Dp (DB G l E)) s p) X (N+1) n0 w' vb stb db fs (kb++[(L,F)]) (en++[m]))/\Ig X n0 vb w w':=by
 obtain⟨rfl,p,ak,ac,ab,aa,U,g1,g,g3,g4,g5,g6,g7,W,g9⟩:=a;have ag:=g;obtain⟨C0,L0,ad,ae⟩:=v.any;have h:=(Rg hT Z).toG1;obtain⟨i1,i2,i3,i4⟩:=g.ie i b h ae ad;have iC:=g.ip b h M;have H:=ai.kept hT Z i2;have S:∀k,Hn stb db c ac ab k->Hn stb db c vw f k\/w.heap.size<=k:=λk a=>by rcases a with e|e|e|e|e;exact .inl (.inl e);exact .inl (.inr (.inl e));exact .inl (.inr (.inr (.inl e)));exact(g5 k e).imp (λq => .inr (.inr (.inr (.inl q)))) id;exact(g6 k e).imp (λq => .inr (.inr (.inr (.inr q)))) id
 have am:p.tn<=s.tn+1:=i3;have Q:∃m,(∀x,en[en.length-1]?=some x->x<=m)/\Hu (N+1+1) D aa U p (kb++[(L,F)]) (en++[m]):=by
  have al:∀m,ep.length<=m->∀x,en[en.length-1]?=some x->x<=m:=λm i x C=>by rw[v.el]at C;simp_all
  rcases g9 with⟨z,rfl,rfl⟩|⟨z,rfl,rfl⟩;rcases g with⟨_,rfl⟩|⟨y,_⟩;exact⟨_,Ξ,v.none Ω ⟨_,rfl,b,M,H,Ω⟩ H⟩;simp_all;rcases g with⟨y,_⟩|⟨_,_,_,_,_,y6⟩;simp_all;obtain⟨cl,af,_⟩:=Uz mf s (λn=>d (n)) (Dp (DB G l E));have hp:=PI.all b cl h.ok (by have:=h.U s cl;omega);have B:=UA h.ok (Do s.es cl s.tp s.D) (b.ok.bk cl) (s.tp+1) (by have:=b.ok.tp;omega);change M7 (Dn s cl _ _) at B;rw[<-af]at hp B;obtain⟨j,o,A,_⟩:=hp.ri;refine⟨_,Ξ,v.some Ω b M Ω (λx C=>?_) Ω (OQ _ _ _) y6 ⟨_,rfl,i1,iC,H,Ω⟩ H⟩;have i:x.1∈(DK mf s (λn=>d (n:Int)) (Dp (DB G l E))).2.ps.map (·.1):=Γ;exact⟨(B.pl.2 x C).1,(B.pl.2 x C).2,(A.ge b i).1,λr=>A.bg b i r⟩
 obtain⟨m,ah,Q⟩:=Q;refine⟨rfl,⟨m,ah,p,ak,u,c,ac,ab,aa,U,D,ag,g1,⟨O.1.e W (λk a=>(P k a).1),O.2⟩,λk a=>⟨λe=>?_,(P k a).2⟩,Q,i1,iC,Ω,Ω,Ω,λk a=>?_,λk a=>?_,λk a e=>?_,h7⟩,W.Q (λk _ a=>⟨(K k a).1,(K k a).2,Y k a,λt R A=>aj.types a A⟩)⟩;rcases S k e with q|q;exact(P k a).1 q;have:=O.1.lt a;omega;rcases S k a with q|q;exact K k q;exact⟨Ω,Ω⟩;rcases g7 k a with q|q;exact h5 k q;omega;rcases S k a with q|q;exact Y k q e;have:=hX k e;omega
theorem GZ.Q{a:KS->Prop}(h:GZ K X N n0 w vb stb db fs kb en)(d:∀s,K s->a s):GZ a X N n0 w vb stb db fs kb en:=by obtain⟨s,i,g,j,vw,f,e,ep,D,b,c⟩:=h;exact⟨s,i,g,j,vw,f,e,ep,D,d s b,c⟩
theorem GZ.cw(h:GZ K X N n0 w vb stb db fs kb en)(hN:N<=2000000000)(z:n0<=w.heap.size)(B:vb<w.heap.size)(y:∀k,X k->k<w.heap.size){O:Nat}{P:Value}{b:IB}(A:Rl G I b ρ L F)(f:TW w tb O V E P G I b)(d:TF G I):
  Cl 74 #[dP stb,dP tb] w λe w'=>e=dR (.tuple #[])/\(∃m,(∀x,en[en.length-1]?=some x->x<=m)/\GZ (λ_=>True) X (N+1) n0 w' vb stb db fs (kb++[(L,F)]) (en++[m]))/\Ig X n0 vb w w':=by
 obtain⟨s,vk,vf,vn,vw,ve,ps,ep,D,_,c,n,o,p,a,r,t,u,v,g,i,j,l⟩:=h;exact(Zf9 c a.ok a.part (OK f d.toTG) Ω Ω Ω).Q λe w' q=>by obtain⟨C,⟨m,H,J⟩,M⟩:=GZ.g4 (Aa _) c n o p a r t u v g i j l z B y A f d q;exact⟨C,⟨m,H,J.Q Γ⟩,M⟩
end
open Tryz
section
variable{w:World}{stb db:Nat}{vk:Value}{s:KS}{vf vn vw ve:Value}{ps:LB}{ep:List Int}
theorem H0.bx(h:H0 w stb db vk s vf vn vw ve ps ep)(a:H3 s):
  Cl 132 #[.pointer (some (dQ stb 1))] w λe w'=>e=dR (dI (D3 (Dl s.es) 96:Nat))/\Bw w w':=
 Ss w stb 1 vk s.es ((h.st.row.J 1).M rfl) h.sk ⟨a.len,a.ak,a.pl⟩
theorem H0.free(h:H0 w stb db vk s vf vn vw ve ps ep)(b:H3 s):
  Cl 84 #[dP stb] w λe w'=>e=dR (dI (D3 (Dl s.es) 96:Nat))/\Bw w w':=by
 have a:=h.bx b;go_enter func84,ntmps84;go_wp2_with(apply a.Q;rintro e w'⟨rfl,hb⟩);go_ret;simp_all
end
theorem Zlv{b:List It}(d:Gy s)(c:G1 C L)(i:Gw s a b)(g:G1 a b)(h:(Dn s true C L).2.ps=[]):D3 (LL (Dn s true C L).2.U) 96=D3 (Dl s.es) 96:=by obtain⟨e,f⟩:=Zd4 d c h;rw[(StaysG.eh d c i g e).es.nd,f]
section
variable{X:Nat->Prop}{N n0:Nat}{w w':World}{vb tb db stb:Nat}{fs:By}{kb:List RT}{en:List Nat}{L:List (By×Int)}{F:LY}{K:KS->Prop}
def M9(w:World)(tb:Nat)(L:List (By×Int))(F:LY):Prop:=∃G I CI ρ,PS w tb G I CI/\Rl G I CI ρ L F/\TF G I
theorem M9.e(h:M9 w tb L F)(g:Ig X n0 vb w w')(h0:0<n0):M9 w' tb L F:=by obtain⟨G,I,a,ρ,⟨j,V,E,l,b⟩,c,d⟩:=h;refine⟨G,I,a,ρ,⟨j,V,E,l,TW.e b g (λe=>by have:=e.1;omega) (λk t R i f=>?_)⟩,c,d⟩;rcases i.2.2.2 t R f with rfl|rfl|rfl|rfl|rfl<;>decide
theorem GZ.below(h:GZ K X N n0 w vb stb db fs kb en)(b:Bw w w'):GZ K X N n0 w' vb stb db fs kb en:=by obtain⟨s,l,j,m,vw,i,g,ep,D,c,d,a,e⟩:=h;exact⟨s,l,j,m,vw,i,g,ep,D,c,d.below b,⟨a.1.kept (λk f _=>b.block k f),a.2⟩,e⟩
structure Lw(X:Nat->Prop)(N n0:Nat)(w:World)(vb tb db stb:Nat)(fs:By)(kb:List RT)(en:List Nat)(L:List (By×Int))(F:LY)(Y:World):Prop where
 st:∃M m,(∀x,en[en.length-1]?=some x->x<=m)/\GZ (λs=>M<=N+1+D3 (Dl s.es) 96) X M n0 Y vb stb db fs (kb++[(L,F)]) (en++[m])
 tr:M9 Y tb L F
 e:Ig X n0 vb w Y
theorem Lw.below(h:Lw X N n0 w vb tb db stb fs kb en L F w'){Y:World}(a:Below w'.heap.size w' Y)(b:0<n0):Lw X N n0 w vb tb db stb fs kb en L F Y:=by obtain⟨⟨M,m,c,d⟩,e,f⟩:=h;exact⟨⟨M,m,c,d.below a⟩,e.e (Ig.below (X:=X) (vb:=vb) a) b,f.M (Ig.below a)⟩
theorem Lw.tn(h:Lw X N n0 w vb tb db stb fs kb en L F w'):Qk w' (dQ stb 4)<=N+1538/\w'.cell? (dQ stb 0)=some (dP db):=by obtain⟨M,m,_,s,vk,vf,vn,vw,ve,ps,ep,D,a0,a,a2,a3,a4,a5,a6,a7,_⟩:=h.st;have:=Qt (Dl s.es) 96;have e:=OV ((a.st.row.J 4).M rfl);exact⟨Ω,(a.st.row.J 0).M rfl⟩
def ClQ(P:World->Prop)(stb db:Nat)(x:Nat)(e:Ending)(Y:World):Prop:=
 ∃pb F f:Nat,e=dR (dP pb)/\Y.cell? (dQ stb 0)=some (dP db)/\F<=1536/\f<=1536/\
  Hid (∀(g k:Nat) Z,(g=pb/\k=100\/g=stb/\k=1)->Bw Y Z->Cl 132 #[.pointer (some (dQ g k))] Z λe Z'=>e=dR (dI ((if k=100 then F else f:Nat):Int))/\Bw Y Z')/\
  Hid (∀Z,Bw Y Z->P Z)/\
  Hid (f<F->∀Z,Bw Y Z->Cl 133 #[dP stb,dP pb] Z λe Z'=>e=dR (.tuple #[])/\P Z'/\x<Qk Z' (dQ stb 4))
theorem Lw.round(hN:N<=1900000000)(hn:n0<=w.heap.size)(c:0<n0)(ay:vb<w.heap.size)(hX:∀k,X k->k<w.heap.size){U:World}(h:Lw X N n0 w vb tb db stb fs kb en L F U):
  Cl 131 #[dP db,.pointer (some (dQ stb 1)),dP tb,dV true] U.drew (ClQ (Lw X N n0 w vb tb db stb fs kb en L F) stb db (Qk U (dQ stb 4))):=by
 have p:Bw U U.drew:=(Ad _ _).drew;have az:=h.e.size;obtain⟨M,m,hm,hL⟩:=(h.below p c).st;obtain⟨G,I,f,ρ,⟨j,V,E,vi,o⟩,S,l⟩:=(h.below p c).tr;obtain⟨s,vk,vf,vn,vw,ve,ps,ep,D,hM,i,a2,a3,O,b,a6,a7,a8,a9,aa,ab,ac,ad⟩:=hL;have ak:=Qt (Dl s.es) 96;have v:=OK o l.toTG;have u:=UA v.ok (Do s.es true s.tp s.D) (b.ok.bk true) (s.tp+1) (by have:=b.ok.tp;omega);change M7 (Dn s true _ _) at u;have am:Qk U (dQ stb 4)=s.tn:=OV (x:=s.tn) ((i.st.row.J 4).M rfl);apply(i.cg b.ok b.part v true).Q;rintro e Y⟨pb,O',rfl,aw,av,hP,aj,hO⟩;have r:Below U.drew.heap.size U.drew Y:=aj;have af:=(h.below p c).below r c;have T:=i.below r;obtain⟨va,d,vp,B,W,q3,q4,q5⟩:=hP;have A:Hr (Dn s true (λn=>f (n:Int)) (Dp (DB G j E))).2.U d:=⟨W,q3,q4⟩;have ah:D3 (Dl d) 96<=1536:=Qt _ _;refine⟨pb,D3 (Dl d) 96,D3 (Dl s.es) 96,rfl,(T.st.row.J 0).M rfl,ah,ak,?_,λZ a=>af.below a c,?_⟩;rintro g k Z (⟨rfl,rfl⟩|⟨rfl,rfl⟩) a;apply(Ss Z g 100 va d ((B.below a).cells.2.2.2.2.2.1) (B.below a).sa (A.bx (by have:=u.n1;omega) u.pl.1)).Q;rintro e J⟨rfl,y⟩;exact⟨by rw[if_pos rfl],a.M (y.Q a.size)⟩;apply((T.below a).bx b.ok).Q;rintro e J⟨rfl,y⟩;exact⟨by rw[if_neg Ω],a.M (y.Q a.size)⟩;intro al Z a;have t:DK 2000 s (λn=>f (n:Int)) (Dp (DB G j E))=Dn s true (λn=>f (n:Int)) (Dp (DB G j E)):=by unfold DK;rw[if_pos (by grind [Qt,LL,Dn,Dp,DB])]
 refine(i.eg (mf:=2000) (ch:=DB G j E) (C:=λn=>f (n:Int)) b.ok v.ok Ω Ω Ω (cl:=true) t (r.M (a.Q r.size)) (pb:=pb) (O':=O') ⟨va,d,vp,B.below a,W,q3,q4,q5⟩ hO).Q λe J q=>?_;have hq:=q;have ax:w.heap.size<=U.drew.heap.size:=Ξ;obtain⟨rfl,⟨m2,b1,b2⟩,P⟩:=GZ.g4 (X:=X) (n0:=n0) (vb:=vb) (fs:=fs) Ω i a2 a3 O b a6 a7 a8 a9 aa ab ac ad Ω Ω Γ S o l q;obtain⟨H,aq,ap,ar,au,ao,an,ae,D',g3,Q,c2,c3,c4,c5⟩:=b2;refine⟨rfl,?_⟩;rcases g3.ce with⟨z1,_⟩|z;exfalso;obtain⟨C0,L0,ag,ai⟩:=O.any;rw[t]at z1;have:=Zlv b (Rg o l).toG1 ai ag z1;rw[A.nd]at al;omega;have R:=z.es;rw[t]at R;have e1:D3 (Dl H.es) 96=D3 (Dl d) 96:=by rw[R.nd,A.nd]
 refine⟨⟨⟨M+1,m2,Γ,H,aq,ap,ar,au,ao,an,ae,D',Ω,Q,c2,c3,Zrz c4 Γ hm,c5⟩,(M9.e ⟨G,I,f,ρ,⟨j,V,E,vi,o⟩,S,l⟩ P c),((h.below p c).e.M P)⟩,?_⟩;rw[am,OV (x:=H.tn) ((Q.st.row.J 4).M rfl),z.tn];omega
theorem M1(h:GZ K X N n0 w vb stb db fs kb en)(a:M9 w tb L F)(y:N<=1900000000)(l:n0<=w.heap.size)(o:0<n0)(r:vb<w.heap.size)(j:∀k,X k->k<w.heap.size):
  Cl 85 #[dP stb,dP tb] w λe w'=>e=dR (.tuple #[])/\Lw X N n0 w vb tb db stb fs kb en L F w':=by
 have u:Hid (Cl 74 #[dP stb,dP tb] w λe w'=>e=dR (.tuple #[])/\Hid (Lw X N n0 w vb tb db stb fs kb en L F w')):=by have z:=a;obtain⟨G,I,CI,ρ,⟨rd,V,E,vi,a⟩,J,p⟩:=a;apply(h.cw Ω l r j J a p).Q;rintro e w'⟨M,⟨m,q2,q3⟩,s⟩;exact⟨M,Γ,z.e s o,s⟩
 have v:Hid (∀U,Lw X N n0 w vb tb db stb fs kb en L F U->Cl 131 #[dP db,.pointer (some (dQ stb 1)),dP tb,dV true] U.drew (ClQ (Lw X N n0 w vb tb db stb fs kb en L F) stb db (Qk U (dQ stb 4)))):=λU A=>A.round y l o r j;have d:Hid (∀U,Lw X N n0 w vb tb db stb fs kb en L F U->Qk U (dQ stb 4)<=N+1538/\U.cell? (dQ stb 0)=some (dP db)):=λU h=>h.tn;generalize Lw X N n0 w vb tb db stb fs kb en L F=P at *
 clear h a j;go_enter func85,ntmps85;go_wp2_with(go_at_call 74;apply(Da u).Q;rintro e X⟨rfl,c⟩)
 go_loopw [4] (λ_ wr=>Hid (P wr)) (λ_ wr=>N+2000-Qk wr (dQ stb 4))
 case atStart=>omega
 case round=>
  have c:=hrel;have B:=(Da d _ (Da c)).2;go_upto_region 1 with fail;go_region_held3 (λX=>X.cell? (dQ stb 0)=some (dP db)) (go_keep) (first|(go_at_call 131;apply(Da v _ (Da c)).Q;rintro e Y⟨pb,F,f,rfl,aa,p,hf,n,i,g⟩))
  clear B hrel;have q:Bw Y Y:=Ad _ _;have l:=Db (Da d _ (Da c)).1;by_cases H:f<F
  .have D:((F:Nat))<=((f:Nat))↔False:=Γ;have t:=Db (Da g H);clear g;go_upto_region 2 with fail;go_region_held3 (λX=>X.cell? (dQ stb 0)=some (dP db)) (go_keep) (first|(go_at_call 132;apply(Da n _ _ _ Ω (by first|assumption|exact q.drew)).Q;rintro e Z⟨rfl,b⟩;have C:=(Da d _ ((Da i) _ b)).2))
   go_wp2_with(go_at_call 133;apply(Da t _ b).Q;rintro e Z2⟨rfl,x,ab⟩)
   go_roundw
   case rel=>exact x
   case measure=>
    grind [Da]
  .have D:((F:Nat))<=((f:Nat))↔True:=Γ;clear g;go_upto_region 2 with fail;go_region_held3 (λX=>X.cell? (dQ stb 0)=some (dP db)) (go_keep) (first|(go_at_call 132;apply(Da n _ _ _ Ω (by first|assumption|exact q.drew)).Q;rintro e Z⟨rfl,b⟩;have C:=(Da d _ ((Da i) _ b)).2))
   go_wp2;exact Am (CU rfl _ _ _) rfl ⟨rfl,Da (Db ((Da i) _ b))⟩
end
theorem TW.i0{i:Nat}{j:Value}{C:IB}(h:TW w tb i V E j G I C)(e:∀x,x∈G'↔x∈G):TW w tb i V E j G' I C:=by have f:∀ns b,Gd G' i ns b->Gd G i ns b:=λns b q=>q.imp id (e _).1;exact⟨h.pk,h.t,⟨λx k=>h.d.c9 x ((e x).1 k),λns b q=>h.d.row ns b (f ns b q),λns b q=>h.d.sl ns b (f ns b q),λns b q=>h.d.ak ns b (f ns b q),λns b q n v=>(h.d.en ns b (f ns b q) n v).M (e _).r,λa b c q r=>h.d.inj a b c (f _ _ q) (f _ _ r),λa b c d g q r=>h.d.aq a b c d g (f _ _ q) (f _ _ r),λns b q=>h.d.lo ns b (f ns b q)⟩,h.i,h.si,h.av,h.lo⟩
def L3(w:World)(n:Nat)(vb:Nat)(b:RT):Prop:=∃tb G I CI ρ,Gt w vb tb/\PS w tb G I CI/\Rl G I CI ρ b.1 b.2/\TF G I/\n<tb/\SA n I
theorem NZ{b:RT}(hK:GP T b D)(l:T+1<18446744073709551616)(w:World)(g c:Nat)(ag:g<w.heap.size)(hc:98304<=c)(al:∀j v,(Dd (DI D))[j]?=some v->w.cell? (dQ g j)=some v)(aa:∀x∈D,x.size=64)(aj:GU w):
  Cl 27 #[dS g 98304 c] w λe w'=>∃vb,e=dR (.tuple #[dP vb,dI 0])/\L3 w' w.heap.size vb b/\Bw w w':=by
 obtain⟨s,rfl,d,hC,⟨C,P,A,k,N⟩,aA⟩:=hK;refine NY w _ _ c _ ?_;apply(of_rd w g c _ ag hc al d.ok.dl aa).Q;rintro e X⟨J,vf,R,l1,S,rfl,hD,ai,aw,ax,o⟩;refine⟨J,rfl,?_⟩;obtain⟨t,B,hO,_⟩:=k.gi d.w A.ok;obtain⟨s0,s1,an,ao,ah⟩:=hC.ci d.ok.tp Ω;obtain⟨Q,am,af⟩:=ZqV d A hO;have aq:∀f q G I a i,Sz Q ⟨f,s.tp,s.tx,s.tn,s.D⟩ q G I a i->f=s.es/\(I5 C P G I a/\TG G I)/\Wv ⟨f,s.tp,s.tx,s.tn,s.D⟩ q a i:=by
  rintro f q G I a i⟨_,M,_,⟨x,ar,ap,l⟩,_,W,tb,F,V,O,H,ac,rfl,n⟩;obtain⟨m,ay,ak⟩:=af q x ar G I a l ap;have ae:=M.1.ext d.ok.ak (λx=>by rw[(M.2.2 x)];constructor;simp_all;intro u;obtain⟨y,z,rfl⟩:=(k.es.2.2 x).1 u;grind);subst ae;refine⟨rfl,Γ,d.e,λp h1 h2=>?_,?_⟩;cases hk:q.tk p with
  |false=>rfl
  |true=>
   obtain⟨r,hr⟩:=ak p hk;have:=d.hp _ hr Ξ;grind
  rw[(N G I a m n).2 W tb F V O H ac];show GK (Dn s false _ _).1=s.tp/\GQ (Dn s false _ _).1=s.tx;rw[(Zk5 (λy z q1 q3=>m.c y z (by have:=A.ok.a8 y z;omega)))];exact⟨k.tp,k.tx⟩
 apply(Zra d.ok.tp am an ao (.inr ah) X J vf R l1 S hD ai (aj.e (Fr.S o) (X:=λ_=>False) (λe=>e))).Q;intro e Y hp;rcases hp with⟨_,_,h⟩|⟨au,tb,va,f,q,G,I,a,i,rfl,_,hR,_,az,ab,K,y1,y2,y3,y4⟩;grind;obtain⟨rfl,⟨m,n⟩,_⟩:=aq _ _ _ _ _ _ hR;refine⟨au,tb,rfl,λZ hV L=>?_⟩;have ad:=o.size;have av:=K.size;obtain⟨F,V,E,H,l⟩:=ab;obtain⟨G',ρ,U,g2,g3⟩:=(N G I a m n).1;exact⟨⟨tb,G',I,a,ρ,hV.ai,⟨F,V,E,H,(l.below L (Aa _)).i0 U⟩,g2,g3,Ω,λx u g hg=>by have:=y4 x u g hg;omega⟩,o.M ((K.Q ad).M (L.Q Ω))⟩
theorem GZ.e{i Y:Nat->Prop}{w':World}{stb db:Nat}{fs:By}{kb:List RT}(h:GZ K X N n0 w vb stb db fs kb en)(f:Fr Y w w')(d:∀k t R,Y k->Gb w k t R->t≠179/\t≠204/\t≠188/\t≠207/\t≠350/\(t=3->X k))(M:∀k,i k->X k\/w.heap.size<=k):GZ K i N n0 w' vb stb db fs kb en:=by obtain⟨s,S,Q,p,vw,o,P,ep,D,r,a,j,A,B,C,E,G,H,I,u,x,y,z⟩:=h;have b:∀{e:TypeId} {sz:Nat} {v:Value} {n:Nat} {xs:Gf},Sl w e sz v n xs->(e=188\/e=207\/e=350\/(e=3/\∀k,Own v k->Hn stb db p vw o k))->Sl w' e sz v n xs:=λl O=>l.e f (λg m e=>by obtain⟨R,J⟩:=l.type m;have:=d _ _ _ e J;rcases O with rfl|rfl|rfl|⟨rfl,c⟩;exact this.2.2.1 rfl;exact this.2.2.2.1 rfl;exact this.2.2.2.2.1 rfl;exact y g (c g m) Γ);refine⟨s,S,Q,p,vw,o,P,ep,D,r,⟨⟨a.st.row.e f (λe=>(d _ _ _ e a.st.row).1 rfl),⟨a.st.a2.1.e f (λe=>(d _ _ _ e a.st.a2.1).2.1 rfl),⟨b a.st.a2.2.1.1 (.inl rfl),a.st.a2.2.1.2⟩,a.st.a2.2.2⟩,b a.st.sw Γ,b a.st.se (.inr (.inr (.inr ⟨rfl,λk c => .inr Γ⟩))),a.st.ne,a.st.ns,a.st.nd,a.st.d1,a.st.d2,a.st.d3⟩,b a.sk Γ,a.ok⟩,⟨b j.1 (.inl rfl),j.2⟩,A,B,C,E,G,H,I,u,x,λk c e=>?_,z⟩;rcases M k e with q|q;simp_all;have:=a.lo k c;omega
section
variable{Z Z' Y:Nat->Prop}{w w':World}{vb tb rb:Nat}{L L':List (By×Int)}{F F':LY}
theorem Md.e(h:Md Z w vb tb rb L F L' F')(b:Fr Y w w')(j:¬Y 0)(c:∀k t R,Y k->Gb w k t R->t≠214/\t≠229/\t≠310/\t≠293/\t≠5/\t≠89/\t≠103/\t≠9/\t≠41):Md Z w' vb tb rb L F L' F':=by
 obtain⟨G,I,C,ρ,q,p,i,m,f,n,l,o⟩:=h;refine⟨G,I,C,ρ,q,p,Gt.e i b (λe=>?_),m.e b j (λk t R d a=>?_),⟨f.e b (λk d e=>?_),f.lo⟩,n,l,o.i5 b (λk t R _ e a g=>?_)⟩;obtain⟨R,a⟩:=i.row;have:=c _ _ _ e a;simp at this;have:=c k t R d a;exact⟨this.1,this.2.1,this.2.2.1,this.2.2.2.1,this.2.2.2.2.1⟩;obtain⟨t,R,a,g⟩:=Kb f.toGj d;grind
 .have:=c k t R e a;rcases g with rfl|rfl|rfl<;>simp at this
theorem Md.ek(h:Md Z w vb tb rb L F L' F')(d:∀k,Z' k->Z k\/(k<w.heap.size/\(∃t R,Gb w k t R/\(t=89\/t=103\/t=9))/\∀c b,Gj w rb c b L F->¬Jp rb c b k)):Md Z' w vb tb rb L F L' F':=by obtain⟨G,I,C,ρ,c,b,m,j,f,l,i,g⟩:=h;refine⟨G,I,C,ρ,c,b,m,j,⟨f.toGj,λk a e=>?_⟩,l,i,⟨λk a=>(d k a).elim (g.lt k) (·.1),λk a=>(d k a).elim (g.ty k) Γ⟩⟩;rcases d k e with q|q;exact f.lo k a q;exact q.2.2 c b f.toGj a
end
def Zk(n0:Nat)(kts:List (Nat×Value×Value))(k:Nat):Prop:=k<n0\/∃q∈kts,Jp q.1 q.2.1 q.2.2 k
structure Hb(n0:Nat)(w0 w:World)(xb vb tb db stb rb:Nat)(fs:By)(kp ep:Value)(kts:List (Nat×Value×Value))(L:List (By×Int))(F:LY)(kb:List RT)(en:List Nat):Prop where
 aa:Below n0 w0 w
 lo:n0<=w0.heap.size/\0<n0/\n0<tb/\n0<=xb/\n0<=vb
 hc:∀k,Own kp k->n0<=k
 he:∀k,Own ep k->n0<=k
 ac:D8 w xb vb rb kp ep (dU fs)
 ai:Hd w vb tb db stb
 md:Md (Zk n0 kts) w vb tb rb L F L F
 cm:Sl w 30 1 kp kts.length (kts.map λq => dP q.1)
 bj:Sl w 3 1 ep en.length ((en.map λn:Nat=>(n:Int)).map (.int .i64))
 kl:kb.length=kts.length
 kt:∀(i:Nat) (b:RT),kb[i]?=some b->∃q,kts[i]?=some q/\Gj w q.1 q.2.1 q.2.2 b.1 b.2/\Jf b.1 b.2
section
variable{Y:Nat->Prop}{K:KS->Prop}{N n0:Nat}{w0 w w':World}{xb vb tb db stb rb:Nat}{fs:By}{kp ep:Value}{kts:List (Nat×Value×Value)}{L L':List (By×Int)}{F F':LY}{kb:List RT}{en:List Nat}
theorem Hb.e(h:Hb n0 w0 w xb vb tb db stb rb fs kp ep kts L F kb en)(a:Fr Y w w')(p:∀k,Y k->n0<=k)(d:∀k t R,Y k->Gb w k t R->t≠55/\t≠41/\t≠30/\(t=3->¬Own ep k)/\((t=89\/t=103\/t=9)->¬Zk n0 kts k))(r:Md (Zk n0 kts) w' vb tb rb L' F' L' F'):Hb n0 w0 w' xb vb tb db stb rb fs kp ep kts L' F' kb en:=by refine⟨OS h.aa a p h.lo.1,h.lo,h.hc,h.he,Gb.e h.ac a (λe=>(d _ _ _ e h.ac).1 rfl),Gb.e h.ai a (λe=>(d _ _ _ e h.ai).2.1 rfl),r,h.cm.e a (λg f e=>?_),h.bj.e a (λg f e=>?_),h.kl,λi b o=>?_⟩;obtain⟨R,c⟩:=h.cm.type f;grind;obtain⟨R,c⟩:=h.bj.type f;exact(d _ _ _ e c).2.2.2.1 rfl f;obtain⟨q,j,l,n⟩:=h.kt i b o;refine⟨q,j,l.e a (λk m e=>?_),n⟩;obtain⟨t,R,c,s⟩:=Kb l m;exact(d k t R e c).2.2.2.2 s (.inr ⟨q,Ai j,m⟩)
theorem Hb.below(h:Hb n0 w0 w xb vb tb db stb rb fs kp ep kts L F kb en)(a:Bw w w'):Hb n0 w0 w' xb vb tb db stb rb fs kp ep kts L F kb en:=
 h.e (Y:=λ_=>False) (Fr.S a) Γ Γ (h.md.below a)
theorem Hb.step(h:Hb n0 w0 w xb vb tb db stb rb fs kp ep kts L F kb en)(d:Fr (JT (Zk n0 kts) tb w) w w')(f:Md (Zk n0 kts) w' vb tb rb L' F' L' F'):Hb n0 w0 w' xb vb tb db stb rb fs kp ep kts L' F' kb en:=by refine h.e d (λk a=>Nat.le_of_not_lt (λe=>a.2 (.inl e))) (λk t R a b=>?_) f;obtain⟨⟨t',R',c,ht⟩,hz⟩:=a;have:=b.type c;grind
theorem GZ.step(h:GZ K Y N n0 w vb stb db fs kb en){Z:Nat->Prop}(c:Fr (JT Z tb w) w w'):GZ K Y N n0 w' vb stb db fs kb en:=
 h.e c (λk t R d a=>by obtain⟨⟨t',R',b,e⟩,hz⟩:=d;have:=a.type b;subst this;rcases e with rfl|rfl|rfl|rfl|rfl|rfl|rfl<;>simp) Γ
theorem Hb.store(h:Hb n0 w0 w xb vb tb db stb rb fs kp ep kts L F kb en)(c:Ig (Own ep) n0 vb w w'):Hb n0 w0 w' xb vb tb db stb rb fs kp ep kts L F kb en:=by
 have ty:∀k t R,SS (Own ep) n0 vb w k->Gb w k t R->t=179\/t=204\/t=188\/t=207\/t=3:=λk t R a b=>a.2.2.2 t R b;refine h.e c (λk a=>a.1) (λk t R a b=>?_) (h.md.e c (λe=>by have:=e.1;have:=h.lo.2.1;omega) (λk t R a b=>?_))
 .refine⟨?_,?_,?_,λ_=>a.2.2.1,?_⟩<;>rcases ty k t R a b with rfl|rfl|rfl|rfl|rfl<;>simp
 .rcases ty k t R a b with rfl|rfl|rfl|rfl|rfl<;>simp
end
theorem Gb.same{t c:TypeId}{R a:Gf}(h:Gb w k t R)(b:Gb w k c a):R=a:=by have e:=h.r.M b;simp_all
theorem SN(w:World)(v:Value)(a:Gf)(h1:∀x∈a,x.oneCell'=true)(l:Sl w 30 1 v a.length a)(nb:Nat)(p:OA)(r:Gb w nb 30 [.pointer p])(hl:a.length<=1000000000000):
  ∃g w',(Builtin.append_ #[52,52] 52 #[v,dS nb 1 1]).run prog w=.ok g w'/\∃b d c,g=dT b d c/\Sl w' 30 1 (dT b d c) (a.length+1) (a++[.pointer p])/\Fr (Own v) w w'/\Dm w v (dT b d c):=by
 obtain⟨z,o,s,t,y⟩:=Bk MX;obtain⟨g,w2,A,i,f,B⟩:=J1 w 52 52 30 z _ 1 8 NA o s t y rfl Δ v _ a l _ 1 1 _ rfl
  (λj u h=>by rw[AG,Av,r.J];omega) (λu h=>by rw[Ax.1 h];rfl) (by grind [maxLen]) Ω
 obtain⟨b,d,c,rfl⟩:=i.a0;exact⟨_,w2,A,b,d,c,rfl,i,⟨f.os,f.tape,f.output,f.size,λk q n=>f.block k q (λe=>n e.r)⟩,B⟩
section
variable{K:KS->Prop}{N n0:Nat}{w0 w:World}{xb vb tb db stb rb:Nat}{fs:By}{kp ep:Value}{kts:List (Nat×Value×Value)}{L:List (By×Int)}{F:LY}{kb:List RT}{en:List Nat}{m:Nat}
theorem GZ.gp(h:GZ K (Own ep) N n0 w vb stb db fs kb (en++[m]))(i:Hd w vb tb db stb):Cl 30 #[dP vb] w λe w'=>e=dR (dI m)/\w'=w:=by
 obtain⟨s,vk,vf,vn,vw,ve,ps,eq,D,a0,b,a2,a3,d,a5⟩:=h;obtain⟨a,l,c,rfl⟩:=b.st.se.a0;have f:l=eq.length:=b.st.se.len;have g:m=eq.length:=by have:=d.el;simp_all
 subst f g;exact Xe w vb tb db stb i a _ c ((b.st.a2.1.J 3).M rfl)
theorem Zh5(h:Hb n0 w0 w xb vb tb db stb rb fs kp ep kts L F kb en)(hs:GZ K (Own ep) N n0 w vb stb db fs (kb++[(L,F)]) (en++[m]))(hl:kts.length<=1000000000000):
  Cl 86 #[dP xb] w λe w'=>e=dR (.tuple #[])/\∃kp' ep' kts',kts'.length=kts.length+1/\Hb n0 w0 w' xb vb tb db stb rb fs kp' ep' kts' L F (kb++[(L,F)]) (en++[m])/\GZ K (Own ep') N n0 w' vb stb db fs (kb++[(L,F)]) (en++[m]):=by
 obtain⟨a1,l1,c1,rfl⟩:=h.cm.a0;obtain⟨M,U,O,rfl⟩:=h.bj.a0;have am:en.length=kts.length:=by obtain⟨s,vk,o,vn,vw,ve,ps,eq,D,b0,b1,b2,b3,b4,b5⟩:=hs;have e1:=b4.ll;have e2:=h.kl;simp_all
 refine Zng w vb rb xb a1 M l1 c1 U O _ m h.ac (λpb B=>Bw w B/\∃r o,Gj B pb r o L F/\∀k,Jp pb r o k->w.heap.size<=k)
  (λpb v W=>∃r o,Hb n0 w0 W xb vb tb db stb rb fs v (dT M U O) (kts++[(pb,r,o)]) L F (kb++[(L,F)]) en/\GZ K (Own (dT M U O)) N n0 W vb stb db fs (kb++[(L,F)]) (en++[m])) _ (λW u=>?_) ?_ ?_ ?_ ?_
 obtain⟨G,I,C,ρ,r,o,_,_,Q,_⟩:=(h.below u).md;apply(Rv W rb r o L F Q.toGj).Q;rintro e B⟨rfl,al,ak,q1,q2,q3⟩;have y:=u.M (q2.Q u.size);exact⟨_,rfl,y,y,al,ak,q1,λk d=>Ae u.size (q3 k d)⟩
 .rintro pb B nb⟨z,r,o,Q,af⟩ ad;have n:=h.below z;obtain⟨v',w',r1,a,l,c,rfl,J,r3,r4⟩:=SN B _ (kts.map λq => .pointer _) (λx hx=>by obtain⟨q,_,rfl⟩:=AB.1 hx;rfl) (by rw[AT];exact n.cm) nb _ ad Ξ;rw[AT]at J;have ag:¬Own (dT a1 l1 c1) xb:=λe=>by obtain⟨R,f⟩:=n.cm.type e;have:=Gb.type n.ac f;grind
  have S:=Gb.e n.ac r3 ag;refine⟨_,w',r1,a,l,c,rfl,S,r,o,?_⟩;obtain⟨Y,E⟩:∃Y:Nat->Prop,Y=λk=>k=xb\/Own (dT a1 l1 c1) k:=⟨_,rfl⟩;have p:Fr Y B (w'.setCell (dQ xb 2) (dT a l c)):=(r3.Q (λk _ e=>by rw[E];exact .inr e)).set _ _ Ξ;have A:∀k t R,Y k->Gb B k t R->t=55\/t=30:=λk t R d f=>by rw[E]at d;rcases d with rfl|d;exact .inl (f.type n.ac);obtain⟨R',aa⟩:=n.cm.type d;exact .inr (f.type aa)
  have ab:∀k,Y k->n0<=k:=λk d=>by rw[E]at d;rcases d with rfl|d;exact h.lo.2.2.2.1;exact h.hc k d
  have ac:¬Y 0:=λe=>by have:=ab 0 e;have:=h.lo.2.1;omega
  have ah:=Q.e p (λk d e=>by obtain⟨t,R,f,T⟩:=Kb Q d;grind);have ao:=z.size;have ai:Md (Zk n0 (kts++[(pb,r,o)])) (w'.setCell (dQ xb 2) (dT a l c)) vb tb rb L F L F:=(n.md.e p ac (λk t R d f=>by rcases A k t R d f with rfl|rfl<;>decide)).ek (λk d=>by rcases d with d|⟨q,P,d⟩;exact .inl (.inl d);rcases Al.1 P with P|P;exact .inl (.inr ⟨q,P,d⟩);rw[Ax]at P;subst P;obtain⟨t,R,f,T⟩:=Kb ah d;refine .inr ⟨f.lt,⟨t,R,f,T⟩,λau aq Z e=>?_⟩;have an:=af k d;obtain⟨G,I,C,ρ,ar,ap,_,_,ae,_⟩:=h.md;have j:=(ae.toGj.e (Fr.S z) (λ_ _=>id)).e p (λk d e=>by obtain⟨t,R,f,T⟩:=Kb (ae.toGj.e (Fr.S z) (λ_ _=>id)) d;grind);have e1:=j.hd.same Z.hd;simp only[Fu,and_true]at e1;obtain⟨rfl,rfl⟩:=e1;obtain⟨t',R',aa,_⟩:=Kb ae.toGj e;have:=aa.lt;omega);refine⟨⟨OS n.aa p ab h.lo.1,h.lo,λk d=>?_,h.he,S.set 2 _,Gb.e n.ai p (λe=>by rcases A _ _ _ e n.ai with q|q<;>cases q),ai,?_,n.bj.e p (λg H e=>by obtain⟨R,f⟩:=n.bj.type H;grind),by simp[h.kl],λi b y=>?_⟩,(hs.below z).e p (λk t R d f=>by rcases A k t R d f with rfl|rfl<;>simp) (λ_ => .inl)⟩;rcases r4 k d with q|q;exact h.hc k q;have:=h.lo.1;have:=h.aa.size;omega;rw[Ah,AE];exact J.e ((Fr.refl _ _).set _ _ rfl) (λg H e=>by subst e;obtain⟨R,f⟩:=J.type H;grind [Gb.type]);rcases AD i kb.length with hi|hi;rw[Ap hi]at y;obtain⟨q,g1,V,g3⟩:=n.kt i b y;refine⟨q,Γ,V.e p (λk d e=>?_),g3⟩;obtain⟨t,R,f,T⟩:=Kb V d;grind;rw[AJ hi]at y;have aj:i=kb.length:=by grind
  subst aj;simp at y;subst y;exact⟨(pb,r,o),by rw[h.kl];simp,ah,h.md.jf⟩
 rintro pb B W⟨z,r,o,Q,af⟩ u;exact⟨z.M (u.Q z.size),r,o,Q.e (X:=λ_=>False) (Fr.S u) (λ_ _=>id),af⟩;rintro pb v W W'⟨r,o,n,Z⟩ u;exact(Z.below u).gp (n.below u).ai
 .rintro pb v W W' nb⟨r,o,n,Z⟩ u ad;have j:=n.below u;obtain⟨v',w',r1,a,l,c,rfl,J,r3,r4⟩:=Ow W' _ _ (by rw[AT];exact j.bj) nb _ ad Ξ;rw[AT]at J;have ag:¬Own (dT M U O) xb:=λe=>by obtain⟨R,f⟩:=j.bj.type e;have:=Gb.type j.ac f;grind
  have S:=Gb.e j.ac r3 ag;refine⟨_,w',r1,a,l,c,rfl,S,v,dT a l c,kts++[(pb,r,o)],Θ,?_⟩;obtain⟨Y,E⟩:∃Y:Nat->Prop,Y=λk=>k=xb\/Own (dT M U O) k:=⟨_,rfl⟩;have p:Fr Y W' (w'.setCell (dQ xb 3) (dT a l c)):=(r3.Q (λk _ e=>by rw[E];exact .inr e)).set _ _ Ξ;have A:∀k t R,Y k->Gb W' k t R->t=55\/t=3/\Own (dT M U O) k:=λk t R d f=>by rw[E]at d;rcases d with rfl|d;exact .inl (f.type j.ac);obtain⟨R',aa⟩:=j.bj.type d;exact .inr ⟨f.type aa,d⟩
  have ab:∀k,Y k->n0<=k:=λk d=>by rw[E]at d;rcases d with rfl|d;exact h.lo.2.2.2.1;exact h.he k d
  have ac:¬Y 0:=λe=>by have:=ab 0 e;have:=h.lo.2.1;omega
  refine⟨⟨OS j.aa p ab h.lo.1,h.lo,j.hc,λk d=>?_,S.set 3 _,Gb.e j.ai p (λe=>by rcases A _ _ _ e j.ai with q|q<;>simp at q),(j.md.e p ac (λk t R d f=>by rcases A k t R d f with rfl|⟨rfl,_⟩<;>decide)),j.cm.e p (λg H e=>by obtain⟨R,f⟩:=j.cm.type H;grind),?_,j.kl,λi b y=>?_⟩,(Z.below u).e p (λk t R d f=>by rcases A k t R d f with rfl|⟨rfl,q⟩<;>simp[*]) (λk d=>r4 k d)⟩;rcases r4 k d with q|q;exact h.he k q;have:=h.lo.1;have:=j.aa.size;omega;rw[Ah,AE];exact J.e ((Fr.refl _ _).set _ _ rfl) (λg H e=>by
   subst e;obtain⟨R,f⟩:=J.type H;have:=Gb.type S f
   revert this;decide)
  .obtain⟨q,g1,V,g3⟩:=j.kt i b y;refine⟨q,g1,V.e p (λk d e=>?_),g3⟩;obtain⟨t,R,f,T⟩:=Kb V d;rcases A k t R e f with rfl|⟨rfl,_⟩<;>simp at T
end
