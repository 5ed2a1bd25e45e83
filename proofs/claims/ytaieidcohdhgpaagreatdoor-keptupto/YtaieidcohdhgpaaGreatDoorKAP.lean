/- Kept. -/
import Derived.Test.YtaieidcohdhgpaaGreatDoorKAO
namespace Go.Proofs.YtaieidcohdhgpaaGreatDoor
variable{E:Ge}{q:Gg}{G:Gh}{x:It}{s:KS}{I:LF}{D F:LY}{ep:List Int}{L:List It}{en:List Nat}{C:NB}{V:NV}{a b c e k l m n p tb:Nat}{o:Oper}{st:Pl}{P:Program}{ve vf vi:Value}{w:World}
set_option maxHeartbeats 40000000
set_option maxRecDepth 100000
set_option linter.all false
open Go.RowKit
structure QG(q:Gg):Prop where
 len:q.a4.length+Ip q<=1536
 pl:∀y∈q.a4,16<=y.2/\y.2<1536/\q.tk y.2=true
theorem ZoV{p:Nat->Prop}:∀(n:Nat),¬p n->∃K,(∀k,k<K->p k)/\¬p K:=by
 intro n
 induction n using Nat.strongRecOn with
 |_ n ih=>
  grind
theorem Zq2(q:Gg)(r p:Nat):(q.bo r p).a4.length<=q.a4.length+1:=by show(if _ then _ else _:List (Nat×Nat)).length<=_;split;simp_all;simp_all
theorem Zq1{r:Nat}{y:Nat×Nat}(h:y∈(q.bo r p).a4):y=(r,p)\/y∈q.a4:=by have a:y∈(if ∃y∈q.a4,y.1=r then q.a4.map (λy=>if y.1=r then(r,p) else y) else q.a4++[(r,p)]):=h;split at a;grind;grind
theorem QG.step(h:QG q)(h1:16<=p)(f:p<1536)(g:q.tk p=false)(r:Nat):QG ((q.take p).bo r p):=by have hu:=RE f g;have hl:=h.len;have i:=Zq2 (q.take p) r p;have e1:Ip ((q.take p).bo r p)=Ip (q.take p):=rfl;have e:(q.take p).a4=q.a4:=rfl;rw[e]at i;refine⟨Ω,λy d=>?_⟩;have aa:∀j,((q.take p).bo r p).tk j=(q.take p).tk j:=λ_=>rfl;rcases Zq1 d with rfl|d;grind [Gg.take];obtain⟨a,b,c⟩:=h.pl y d;grind [Gg.take]
def Hz(q:Gg)(fn:Nat)(P:Nat->Nat):Nat->Gg
 |0=>q
 |k+1=>((Hz q fn P k).take (P k)).bo (De 4 fn k) (P k)
def eS(s:By):By:=s.extract 1 s.size
def Ll(s:By):By:=(eS (eS (eS s))).extract (Dx (BL (Dg (eS (eS s)) 1))) (eS (eS (eS s))).size
def eP(last s:By):By:=last.extract 0 (Dx (BL (Dg (eS s) 1)))++Dg (eS (eS (eS s))) (Dx (BL (Dg (eS (eS s)) 1)))
def eF(s:By):Nat:=Dx (BL (Dg (Ll s) 1))
def eL(s:By):Nat:=Dx (BL (Dg (eS (Ll s)) 2))
def eR(s:By):By:=(eS (Ll s)).extract 2 (eS (Ll s)).size
def eQ(s:By)(k:Nat):Nat:=GK (Dt (eR s) k)
def Nr(q:Gg)(s last:By)(kd:Nat)(p:By)(q':Gg)(s':By):Prop:=
 kd=Dx (BL (Dg s 1))/\(kd=0->q'=q)/\(kd≠0->p=eP last s/\(q'=q\/q'=Hz q (eF s) (eQ s) ((eL s+63)/64))/\(kd=2->q'=Hz q (eF s) (eQ s) ((eL s+63)/64)/\s'=Dt (eR s) ((eL s+63)/64)))
def Py(q:Gg)(s last:By):Prop:=Dx (BL (Dg s 1))≠0/\(last.size<Dx (BL (Dg (eS s) 1))\/Dx (BL (Dg s 1))≠1/\Dx (BL (Dg s 1))≠3/\¬ ∀k,k<(eL s+63)/64->16<=eQ s k/\eQ s k<1536/\(Hz q (eF s) (eQ s) k).tk (eQ s k)=false)
def EnD(D:LY)(s:By)(fn l:Nat)(d:By):Prop:=fn=eF s/\l=eL s/\d=(CB (λk=>(D[eQ s k]?).getD (Dj 64)) ((eL s+63)/64)).extract 0 (eL s)
def WB(D:LY)(q:Gg)(s:By)(kd fn l:Nat)(d:By)(q':Gg)(s':By):Prop:=(kd=2->EnD D s fn l d)/\(kd=1->q'=q/\s'=Ll s)/\(kd=3->q'=q/\s'=eS (Ll s)/\fn=eF s)
theorem OI(s:By)(n:Nat):Dx (BL (Dg s n))<256 ^ n:=by grind [Uw,BL,Dg,Jn,Jr]
def Np(D:LY)(W w0:World)(n0 rb db tp tx fb:Nat)(va vt:Value)(q:Gg)(s last:By)(e:Ending)(w':World):Prop:=
 ∃(p:By) (kd fn:Nat) (a:OA) (l c:Nat) (ok:Bool),e=dR (.tuple #[.agg #[dU p,.int .u8 (kd:Nat),dI (fn:Nat),dT a l c],dV ok])/\(ok=false->II w0 n0 rb w'/\Py q s last)/\
  (ok=true->p.size<=600/\∃(q':Gg) (s':By) (va':Value) (d:By),QG q'/\Nr q s last kd p q' s'/\WB D q s kd fn l d q' s'/\Gv w0 n0 rb db tp tx q' va' vt w'/\GT fb s' vt w'/\s'.size<=s.size/\(kd≠0->s'.size<s.size)/\Sl w' 5 1 (dT a l c) l (Dd d)/\Fr (λj=>j=rb\/Own va j\/j=fb) W w'/\Dm W va va'/\∀k,Own (dT a l c) k->W.heap.size<=k)
theorem ZpE(W H:World)(n0 F w L M:Nat)(q:Gg)(t G:Value)(h:Gv H n0 F w L M q t G W){vw:Value}{a:OA}(hD:Jg H w vf (dT a l c) vw ve D)(ah:w<n0/\∀k,Own (dT a l c) k->k<n0)(x:Nat)(aa:n0<=x)(s:By)(hf:GT x s G W)(hs:s.size<=1000000)(y:By)(ai:y.size<=1000000)(R:QG q):
  Cl 203 #[dP F,dP x,dU y] W (Np D W H n0 F w L M x t G q s y):=by
 have ak:=hD.2.1.2;have al:=hD.2.2;by_cases E:Dx (BL (Dg s 1))=0;apply(ZpB W H n0 F w L M q t G h x aa s hf hs E y).Q;rintro e w'⟨rfl,j,z,A⟩;exact⟨⟨#[]⟩,0,0,none,0,0,true,rfl,Γ,λ_=>⟨Ao _,q,_,t,⟨#[]⟩,R,⟨E.r,Γ,Ω⟩,⟨Ω,Ω,Ω⟩,j,z,Ξ,Ω,⟨rfl,Γ⟩,A.Q Ω,λg J => .inl J,by grind [Own,Value.ownBlock]⟩⟩;have ar:1<=s.size:=by
  rcases Bn s.size with e|e;exfalso;have hb:BL s=[]:=by grind [List.eq_nil_of_length_eq_zero,Jn]
  rw[Ub,hb]at E
  revert E;decide;omega
 obtain⟨m,O⟩:=ex (s.extract 1 s.size);obtain⟨o,e3⟩:=ex (m.extract 1 m.size);obtain⟨r,e4⟩:=ex (o.extract 1 o.size);obtain⟨n,hn⟩:∃n,Dx (BL (Dg o 1))=n:=Γ;obtain⟨f,e5⟩:=ex (r.extract n r.size);obtain⟨b,e6⟩:=ex (f.extract 1 f.size);obtain⟨i,Q⟩:∃n,Dx (BL (Dg s 1))=n:=Γ;obtain⟨S,ad⟩:∃n,Dx (BL (Dg m 1))=n:=Γ;obtain⟨fn,ab⟩:∃n,Dx (BL (Dg f 1))=n:=Γ;obtain⟨N,hN⟩:∃n,Dx (BL (Dg b 2))=n:=Γ;obtain⟨p,hp⟩:∃p,y.extract 0 S++Dg r n=p:=Γ;have l1:i<256:=by rw[<-Q];exact OI s 1
 have l2:S<256:=by rw[<-ad];exact OI m 1
 have l3:n<256:=by rw[<-hn];exact OI o 1
 have l4:fn<256:=by rw[<-ab];exact OI f 1
 have ac:p.size<=600:=by grind [ByteArray.size_append,ByteArray.size_extract,Jr]
 have z2:m.size=s.size-1:=Ξ;have z3:o.size<=m.size:=Ξ;have z4:r.size<=o.size:=Ξ;have z5:f.size<=r.size:=Ξ;have z6:b.size<=f.size:=Ξ;rw[Q]at E;obtain⟨P,hP⟩:∃P:Nat->Nat,P=λk=>GK (Dt (b.extract 2 b.size) k):=Γ;have hE:S=Dx (BL (Dg (eS s) 1))/\i=Dx (BL (Dg s 1))/\p=eP y s/\fn=eF s/\N=eL s/\P=eQ s/\b.extract 2 b.size=eR s/\f=Ll s/\b=eS (Ll s):=by subst hP;subst O;subst e3;subst e4;subst hn;subst e5;subst e6;subst Q;subst ad;subst ab;subst hN;subst hp;exact⟨rfl,rfl,rfl,rfl,rfl,rfl,rfl,rfl,rfl⟩
 obtain⟨E0,T,E2,E3,E4,E5,E6,E7,E8⟩:=hE;obtain⟨B,hB⟩:∃B:NB,B=λk=>(D[P k]?).getD (Dj 64):=Γ;have ae:∀k,(B k).size=64:=by grind [Dj,JA,List.mem_of_getElem?]
 obtain⟨K,I,af⟩:=ZoV (p:=λk=>64*k<N/\16<=P k/\P k<1536/\(Hz q fn P k).tk (P k)=false) N Ω;have hQ:∀k,k<=K->QG (Hz q fn P k):=λk=>by
  induction k with
  |zero=>exact λ_=>R
  |succ k ih=>
   intro C;obtain⟨_,X,Y,a3⟩:=I k Ω;exact(ih Ω).step X Y a3 _
 refine(ZpA W H n0 F w L M q t G h x aa s m o r f b hf hs y p ai i S n fn l1 E l2 l3 l4 O e3 e4 e5 e6 Q ad hn hp ab B N K (Hz q fn P K) (Dt (b.extract 2 b.size) K) (λ_ _ _ V hR hF=>?_)).Q ?_;refine ZrF V H n0 F w L M q t G hR hD ah x aa b hF Ω p i fn l4 N hN P B ae _ rfl K (by have:=OI b 2;omega) (λk C=>?_) (λk C=>?_) (λk C=>(I k C).1) ?_;obtain⟨_,X,Y,_⟩:=I k C;refine⟨by rw[hP],X,Y,?_⟩;rw[hB];show D[P k]?=some ((D[P k]?).getD (Dj 64));rw[Ab Ω];rfl;exact⟨(I k C).2.2.2,rfl,by have:=(hQ k Ω).len;omega⟩;rcases AD (64*K) N with e|e;refine .inr ⟨e,?_⟩;have O:GK (Dt (b.extract 2 b.size) K)=P K:=by rw[hP]
 rw[O];rcases AD (P K) 16 with u|u;exact .inl u;rcases AD (P K) 1536 with v|v;refine .inr (.inr ?_);cases ht:(Hz q fn P K).tk (P K) with
 |true=>rfl
 |false=>exact absurd ⟨e,u,v,ht⟩ af
 exact .inr (.inl v);exact .inl e;intro e w' d;unfold QQ at d;split at d;rename_i ao;obtain⟨rfl,hb⟩:=d;exact⟨_,i,0,none,0,0,false,rfl,λ_=>⟨hb,Ω,Ω⟩,Γ⟩;split at d;obtain⟨rfl,j,z,A⟩:=d;exact⟨p,i,0,none,0,0,true,rfl,Γ,λ_=>⟨ac,q,f,t,⟨#[]⟩,R,⟨T,Ω,Γ⟩,⟨Ω,Γ,Ω⟩,j,z,Ω,Ω,⟨rfl,Γ⟩,A.Q Ω,λg J => .inl J,by grind [Own,Value.ownBlock]⟩⟩;split at d;obtain⟨rfl,j,z,A⟩:=d;exact⟨p,i,fn,none,0,0,true,rfl,Γ,λ_=>⟨ac,q,b,t,⟨#[]⟩,R,⟨T,Ω,Γ⟩,⟨Ω,Ω,Γ⟩,j,z,Ω,Ω,⟨rfl,Γ⟩,A.Q Ω,λg J => .inl J,by grind [Own,Value.ownBlock]⟩⟩;rename_i q1 q2 q3;unfold Qv at d;split at d;rename_i am;obtain⟨U,Z,aj,rfl,j,z,A,p4,p5,p6⟩:=d;have an:((CB B K).extract 0 N).size=N:=by grind [ByteArray.size_extract,OP]
 have hz:(Dt (b.extract 2 b.size) K).size<=b.size:=by grind [Va,ByteArray.size_extract]
 have ag:K=(eL s+63)/64:=by rw[<-E4];rcases Bn K with e|e;omega;have:=(I (K-1) Ω).1;omega
 have aq:Hz q fn P K=Hz q (eF s) (eQ s) ((eL s+63)/64):=Γ;exact⟨p,i,fn,U,_,Z,true,rfl,Γ,λ_=>⟨ac,_,_,aj,_,Γ,⟨T,Ω,Γ⟩,⟨λ_=>⟨E3,Ω,by rw[<-ag,<-E4,<-E5,<-hB]⟩,Ω,Ω⟩,j,z,Ω,Ω,A,p5,p6,Γ⟩⟩;rename_i ap;obtain⟨U,l',Z,rfl,j,p5⟩:=d;exact⟨p,i,fn,U,l',Z,false,rfl,λ_=>⟨j,Ω,Γ⟩,Γ⟩
open Tryz
def SA(n:Nat)(I:LF):Prop:=∀x∈I,∀g,x.2.a=some g->n<=g.block
def Sy(T:Gg->By->By->Gh->LF->(IB)->Prop)(W w0:World)(n0 rb db tp tx:Nat)(va vt:Value)(tb:Nat)(vt2:Value)(fb:Nat)(last:By)(wr:World):Prop:=
 ∃(q:Gg) (s:By),QG q/\s.size<=1000000/\ReI W w0 n0 rb db tp tx fb tb va vt vt2 (λG I C=>TG G I/\T q s last G I C/\SA n0 I) q s wr
def PJ(A:Prop)(T:Gg->By->By->Gh->LF->(IB)->Prop)(W w0:World)(n0 rb db tp tx:Nat)(va0 vt0:Value)(e:Ending)(w':World):Prop:=
 (e=dR (.tuple #[.pointer none,dV false])/\II w0 n0 rb w'/\¬A)\/
 ∃tb q' va' vt',QG q'/\e=dR (.tuple #[dP tb,dV true])/\Gv w0 n0 rb db tp tx q' va' vt' w'/\(∃G I C,PS w' tb G I C/\TG G I/\∃s last,Dx (BL (Dg s 1))=0/\T q' s last G I C/\SA n0 I)/\Fr (λj=>j=rb\/Own va0 j\/Own vt0 j) W w'/\W.heap.size<tb
theorem ZqX(A:Prop)(T:Gg->By->By->Gh->LF->(IB)->Prop)(aF:∀q s n G I C f p fn l d o s' G' I' C',T q s n G I C->Nr q s n f p o s'->WB D q s f fn l d o s'->f≠0->Ns f G G' I I' C C' p fn l d->T o s' p G' I' C')(aG:∀q s n G I C,T q s n G I C->Py q s n->¬A)(aH:∀q s n G I C f p fn l d o s',T q s n G I C->TG G I->Nr q s n f p o s'->WB D q s f fn l d o s'->f≠0->¬Nf f G I p fn l->¬A)(W v:World)(n0 m B bm bn:Nat)(q0:Gg)(F H:Value)(h:Gv v n0 m B bm bn q0 F H W){vw:Value}{a:OA}(hD:Jg v B vf (dT a l c) vw ve D)(aM:B<n0/\∀k,Own (dT a l c) k->k<n0)(h0:0<n0)(aP:GU W)(r u:Nat)(gr:Option (Nat×Gg))(M:∀X F H,Gv v n0 m B r u q0 F H X->Cl 202 #[dP m,.agg #[dI (r:Nat),.int .u64 (u:Nat)]] X (QJ v n0 m B r u X F H gr))(aK:∀b o,gr=some (b,o)->T o o.t ⟨#[]⟩ [] [] (λ_=>⟨#[]⟩)/\QG o/\o.t.size<=1000000)(aJ:gr=none->¬A):
  Cl 136 #[dP m,.agg #[dI (r:Nat),.int .u64 (u:Nat)]] W (PJ A T W v n0 m B r u F H):=by
 obtain⟨W1,e1,x1,k1,s1,b1⟩:=Df W [dI (r),.int .u64 (u)] 175;obtain⟨a7,a8,a9⟩:=h.lt;have br:=Ae h.sz h.aa.size;have h1:=h.below b1;have bq:=h.lo;obtain⟨X1,ah⟩:∃X1,(W1.setCell (dQ m 2) (dI (r))).setCell (dQ m 3) (.int .u64 (u))=X1:=⟨_,rfl⟩;have f1:Fr (λk=>k=m) W1 X1:=by rw[<-ah];exact((Fr.refl (λk=>k=m) W1).set _ _ rfl).set _ _ rfl
 have ay:=x1.e f1 (λe=>Ω);have an:Fr (λj=>j=m\/Own F j\/Own H j) W X1:=((Fr.S b1).then f1 (λ_ _ e=>e)).Q (λk _ e => .inl e);have HG:Hid (Cl 202 #[dP m,.agg #[dI (r),.int .u64 (u)]] X1 λe X2=>∃(b:Nat) (z:Bool),e=dR (.tuple #[dI (b),dV z])/\Hid (z=false->II v n0 m X2/\¬A)/\
   Hid (z=true->Cl 95 #[] X2 λe X3=>∃tb P aa S,e=dR (dP tb)/\X3.cell? (dQ m 1548)=some (dT P aa S)/\∃X4,X3.alloc (.cells #[dT P aa S] 287)=X4/\Hid (Sy T W v n0 m B r u F H tb (dT P aa S) X3.heap.size ⟨#[]⟩ X4))):=by
  apply(M X1 F H (by rw[<-ah];exact h1.top r u)).Q;intro e X2 ai;cases hgr':gr with
  |none=>
   rw[hgr']at ai;obtain⟨rfl,hb⟩:=ai;exact⟨0,false,rfl,λ_=>⟨hb,aJ hgr'⟩,λe=>by cases e⟩
  |some gb=>
  obtain⟨b,qG⟩:=gb;obtain⟨a2,bb,bc⟩:=aK b qG hgr';rw[hgr']at ai;obtain⟨rfl,aw,ad,r1,r2,r3,r4⟩:=ai;refine⟨b,true,rfl,(λe=>by cases e),λ_=>?_⟩;have av:=an.then r2 (λ_ _ e=>e);have ba:=aP.e av (λe=>by rcases e with e|e|e;omega;have:=(h.oa 0 e).1;omega;have:=h.ad.2 0 e;omega);have a4:=an.size;apply(Yl X2 ba).Q;rintro e X3⟨tb,rfl,t1,t2,t3,_⟩;obtain⟨P,aa,S,rfl⟩:=r1.ad.1.a0;have ak:=r1.below t3;obtain⟨X4,e4,x4,k4,s4,b4⟩:=Df X3 [dT P aa S] 287;have hl:=ak.lt;have bo:=av.size;have bp:=t3.size;refine⟨tb,P,aa,S,rfl,ak.cells.2.2.1,X4,e4,qG,qG.t,bb,bc,⟨aw,ak.below b4,λg M=>(r3 g M).imp id (λe=>Ω)⟩,?_,⟨[],[],λ_=>⟨#[]⟩,?_,TG.none,a2,λx hx=>by cases hx⟩,(av.then (Fr.S (X:=λ_=>False) t3) (λ_ _ e=>e.elim)).then (Fr.S (X:=λ_=>False) b4) (λ_ _ e=>e.elim),Ω,Ω⟩;have hS:=(ak.below b4).ad;refine⟨P,aa,S,x4,hS.cc,?_,λx e=>?_⟩;rcases hS.1.2 with⟨e,_⟩|⟨g,aV,L,e,_,q1,_⟩;cases e;exact Aa _;cases e;exact q1;rcases hS.1.2 with⟨e2,_⟩|⟨g,aV,L,e2,_⟩;cases e2;cases e;cases e2;cases e;rfl;obtain⟨rd,V,E,vi,ht⟩:=t2;exact⟨rd,V,E,vi,ht.below b4 (Aa _)⟩
 have af:Hid (∀n:By,n.size<=600->∀tb ad fb wr,Sy T W v n0 m B r u F H tb ad fb n wr->Cl 203 #[dP m,dP fb,dU n] wr λe X=>∃(p:By) (f fn:Nat) (J:OA) (N K:Nat) (z:Bool),e=dR (.tuple #[.agg #[dU p,.int .u8 (f),dI (fn),dT J N K],dV z])/\
   ∃Y,X.alloc (.cells #[dU p,.int .u8 (f),dI (fn),dT J N K] 141)=Y/\Gb Y X.heap.size 141 [dU p,.int .u8 (f),dI (fn),dT J N K]/\Hid (z=false->II v n0 m Y/\¬A)/\Hid (z=true->f=0->PJ A T W v n0 m B r u F H (dR (.tuple #[dP tb,dV true])) Y)/\
   Hid (z=true->f≠0->p.size<=600/\Cl 97 #[dP tb,.agg #[dU p,.int .u8 (f),dI (fn),dT J N K]] Y λe U=>∃b:Bool,e=dR (dV b)/\Gb U X.heap.size 141 [dU p,.int .u8 (f),dI (fn),dT J N K]/\Hid (b=false->II v n0 m U/\¬A)/\Hid (b=true->Sy T W v n0 m B r u F H tb ad fb p U/\QN fb U<QN fb wr))):=λn aL tb ad fb wr ⟨q,s,hQ,be,w⟩=>by
  obtain⟨aw,r1,r2⟩:=w.rd;have a5:=w.fl;have bt:=w.e.size;apply(ZpE wr v n0 m B r u q aw ad r1 hD aM fb Ω s w.fd be n Ω hQ).Q;rintro e X⟨p,f,fn,J,N,K,z,rfl,aO,aQ⟩;obtain⟨Y,eY,O,kY,sY,Q⟩:=Df X [dU p,.int .u8 (f),dI (fn),dT J N K] 141;refine⟨p,f,fn,J,N,K,z,rfl,Y,eY,O,λe=>?_,λe Z=>?_,λe Z=>?_⟩;obtain⟨G,I,C,_,_,ac,_⟩:=w.ps;exact⟨(aO e).1.below Q,aG _ _ _ _ _ _ ac (aO e).2⟩;obtain⟨aj,o,s',ax,d,au,ae,ao,p1,p2,_,_,p3,p5,p6,p7⟩:=aQ e;obtain⟨G,I,C,aq,ag,ac,ap⟩:=w.ps;have ar:=aq.i6 r1 w.fd h0 Ω p5;refine .inr ⟨tb,o,ax,ad,au,rfl,p1.below Q,⟨G,I,C,(by obtain⟨rd,V,E,vi,ht⟩:=ar;exact⟨rd,V,E,vi,ht.below Q (Aa _)⟩),ag,s,n,ae.1.r.M Z,by rw[ae.2.1 Z];exact ac,ap⟩,(w.e.then p5 (λj hj e=>?_)).then (Fr.S (X:=λ_=>False) Q) (λ_ _ e=>e.elim),w.tl⟩;rcases e with e|e|e;exact .inl e;exact(r2 j e).elim (λe => .inr (.inl e)) (λe=>Ω);omega
  .obtain⟨aj,o,s',ax,d,au,ae,ao,p1,p2,bs,bd,p3,p5,p6,p7⟩:=aQ e;have a4:=p5.size;have bf:=w.tl;obtain⟨G,I,C,aq,ag,ac,ap⟩:=w.ps;have ar:=aq.i6 r1 w.fd h0 Ω p5;refine⟨aj,(Zub Y tb G I C (by obtain⟨rd,V,E,vi,ht⟩:=ar;exact⟨rd,V,E,vi,ht.below Q (Aa _)⟩) ag p Ω f fn J N K d (p3.kept (λj hj _=>Q.block j hj))).Q ?_⟩;rintro e U⟨⟨b,rfl⟩,u1,hT,a3⟩;have aE:=p1.below Q;have aY:=p2.below Q p1.lt.2.2;have aD:=aE.pg u1 Ω;have aC:=aY.pg aE u1;refine⟨b,rfl,O.e u1 (λ⟨⟨t,R,hr,bg⟩,_⟩=>?_),(λhb=>⟨aD.no,aH _ _ _ _ _ _ _ _ _ _ _ _ _ ac ag ae ao Z (a3 (by rw[hb]))⟩),λhb=>?_⟩
   .unfold Gb at hr O;rw[O]at hr;cases hr;rcases bg with e|e|e|e<;>cases e
   obtain⟨G',I',C',a0,a1,aX,aZ⟩:=hT (by rw[hb]);refine⟨⟨o,s',au,Ω,⟨ax,aD,λg M=>(p6 g M).elim (r2 g) (λe => .inr Ω)⟩,aC,⟨G',I',C',a0,a1,aF _ _ _ _ _ _ _ _ _ _ _ _ _ _ _ _ ac ae ao Z aX,λx hx g M=>?_⟩,?_,bf,a5⟩,by rw[aC.len,w.fd.len];exact bd Z⟩;rcases aZ x hx with e|⟨y,hy,e⟩;rw[e]at M;subst M;have:=p7 _ rfl;omega;exact ap y hy g (e.M M);refine((w.e.then p5 (λj hj e=>?_)).then (Fr.S (X:=λ_=>False) Q) (λ_ _ e=>e.elim)).then u1 (λj hj ⟨_,hl⟩=>Ω);rcases e with e|e|e;exact .inl e;exact(r2 j e).elim (λe => .inr (.inl e)) (λe=>Ω);omega
 have ab:Hid (∀X,II v n0 m X/\¬A->PJ A T W v n0 m B r u F H (dR (.tuple #[.pointer none,dV false])) X):=λX hX => .inl ⟨rfl,hX.1,hX.2⟩;have aR:=Db e1;have aT:=Db ah;have c0:=(x1.J 0).M (rfl);have c1:=(x1.J 1).M (rfl);have d0:=(ay.J 0).M (rfl);have d1:=(ay.J 1).M (rfl);obtain⟨bh,bi,bj,bk⟩:=h1.topc;clear aF aG aH aJ e1 x1 k1 s1 b1 h h1 hD aM M aK f1 ay an ah aP a7 a8 a9;go_enter func136,ntmps136;go_upto_region 1 with fail;rw[Da aR];go_upto_region 2 with fail;rw[Da aT];clear c0 c1 bh bi bj bk;go_upto_region 3 with(go_at_call 202;apply(Da HG).Q;rintro e X2⟨bl,z,rfl,am,al⟩)
 cases z
 .have HF:=Db (Da ab _ (Da am rfl));clear HG al am af ab;go_wp2;exact Am (by simp[results,results136,go_sem]) rfl (Da HF)
 have aA:=Db (Da al rfl);clear al am HG;go_upto_region 7 with(go_at_call 95;apply(Da aA).Q;rintro e X3⟨tb,P,aa,S,rfl,aW,X4,aI,aB⟩;have aU:=Db aI;clear aI);rw[Da aU];clear aW d0 d1 aA;go_wp2
 go_loopw [10] (λi wr=>∃n:By,n.size<=600/\i=dU n/\Hid (Sy T W v n0 m B r u F H tb (dT P aa S) X3.heap.size n wr)) (λ_ wr=>QN X3.heap.size wr)
 case atStart=>exact⟨⟨#[]⟩,Ao _,rfl,Da aB⟩
 case round=>
  obtain⟨n,aL,rfl,HI⟩:=hrel;have HC:=Db (Da af n aL _ _ _ _ (Da HI));clear HI aB;go_upto_region 9 with(go_at_call 203;apply(Da HC).Q;rintro e X⟨p,f,fn,J,N,K,z,rfl,Y,hY,O,HN,HZ,HA⟩;have HY:=Db hY;clear hY);rw[Da HY];obtain⟨y0,y1,y2,y3⟩:=O.c3;clear O HC;cases z
  .have HF:=Db (Da ab _ (Da HN rfl));clear HN HZ HA af ab;go_wp2;exact Am (by simp[results,results136,go_sem]) rfl (Da HF)
  .by_cases Z:f=0
   .have HF:=Db (Da HZ rfl Z);have a6:(f)=0:=Ω;clear HN HZ HA af ab;go_wp2;exact Am (by simp[results,results136,go_sem]) rfl (Da HF)
   .obtain⟨aj,hA⟩:=Da HA rfl Z;have az:=Db hA;have a6:¬(f)=0:=Ω;clear HN HZ HA hA;go_wp2_with(go_at_call 97;apply(Da az).Q;rintro e U⟨b,rfl,xU,HB,HN⟩;have z0:=xU.J 0;clear xU y0 y1 y2 y3;cases b)
    .exact Am (by simp[results,results136,go_sem]) rfl (Da ab _ (Da HB (by first|rfl|trivial)))
    .obtain⟨hR,aN⟩:=Da HN trivial;have HR:=Db hR;have aS:=Db aN;clear hR aN HB HN az
     go_roundw
     case rel=>exact⟨p,aj,rfl,Da HR⟩
     case measure=>exact Da aS
def Mt(q:Gg):Prop:=∀y∈q.a4,16<=y.2/\y.2<1536/\q.tk y.2=true
def PlK(q q':Gg):Prop:=Mt q'/\∀j,q.tk j=true->q'.tk j=true
theorem Rj(q:Gg)(p j:Nat)(h:q.tk j=true\/j=p):(q.take p).tk j=true:=by grind [Gg.take]
theorem Mt.take(h:Mt q)(p:Nat):Mt (q.take p):=λy d=>by obtain⟨a,b,c⟩:=h y d;grind [Rj]
theorem Mt.put(h:Mt q)(a:16<=p)(c:p<1536)(d:q.tk p=true)(r b:Nat):Mt ((q.put r p).a5 b):=λy f=>by rcases Al.1 f with e|e;exact h y e;rw[Ax.1 e];exact⟨a,c,d⟩
theorem Xh{D:LY}:∀(f p:Nat) (q:Gg) (b:Nat) (q':Gg),Mt q->KF D f p q=some (b,q')->PlK q q'
 |0,p,q,b,q',hi,h=>by cases h
 |f+1,p,q,b,q',hi,h=>by unfold KF at h;split at h;grind;have c:16<=p/\p<1536:=Ω;have l:=Rj q p p (.inr rfl);split at h;grind;split at h;grind;split at h;cases h;exact⟨Mt.put (q:=(q.take p).au _) (hi.take p) c.1 c.2 l _ _,λj a=>Rj q p j (.inl a)⟩;split at h;split at h;grind;rename_i b2 i e;split at h;grind;cases h;have d:=Rw (Inv:=λi=>PlK (q.take p) i) (λo r m s k n=>by have g:=Xh f o r m s k.1 n;exact⟨g.1,λj a=>g.2 j (k.2 j a)⟩) 6 0 0 _ b i ⟨hi.take p,Γ⟩ e;exact⟨d.1.put c.1 c.2 (d.2 p l) _ _,λj a=>d.2 j (by grind [Rj])⟩;grind
theorem WV(q:Gg):Ip q<=1536:=by have:=AV (p:=λp => !q.tk p) (l:=List.range 1536);exact this
theorem G7.start:G7 0 Jv:=by have hu:=WV Jv;refine⟨by grind [Ip,Jv],λ_=>Aa _,Ao _,by show 0+63*(Ip Jv+0)<=_;omega,λy a=>?_⟩;exact absurd (a) Ex
theorem Zpo(f:∀s∈D,s.size=64){a:Gg}(e:KF D 1537 c Jv=some (b,a)):QG a/\a.t.size<=1000000:=by obtain⟨⟨d,_⟩,_⟩:=Rx f 1537 0 c Jv b a G7.start e;have g3:=d.len;have g4:=d.ts;exact⟨⟨Ω,(Xh 1537 c Jv b a (λy g=>absurd (g) Ex) e).1⟩,Ω⟩
theorem ZrD{T:By}{g:Nat->Gg->Option (Nat×Gg)}{F:Nat->Gg->Gg}(hn:n<=6)(h0:0<n)(c:∀m,m<n->¬(GK (Dt T m)=0/\GQ (Dt T m)=0)/\g (GK (Dt T m)) (Lo F a m q)=some (b,Lo F a (m+1) q))(he:n<6->GK (Dt T n)=0/\GQ (Dt T n)=0):
  Kc T g 6 0 0 q=some (b+1,Lo F a n q):=by
 have d:∀m,m<=n->Kc T g 6 0 0 q=Kc T g (6-m) m (if m=0 then 0 else b) (Lo F a m q):=λm=>by
  induction m with
  |zero=>exact λ_=>rfl
  |succ m ih=>
   intro hm;obtain⟨h1,h2⟩:=c m Ω;rw[ih Ω,show 6-m=(6-(m+1))+1 by omega]
   conv=>lhs;unfold Kc
   simp_all
 rw[d n (Aa _),if_neg Ω];rcases AD n 6 with h|h;rw[show 6-n=(5-n)+1 by omega];unfold Kc;simp_all;rw[show 6-n=0 by omega];rfl
section
variable{D:LY}{R:NB}{N:Nat->Nat}{P X:Nat->Nat->Nat}{B:Nat}
theorem Zs(a:Rows D R N P X B):∀(b:Nat),b<=B->∀(f i:Nat) (q:Gg),b<f->i<N b->GW N P (λi=>BL (LX R i)) B (b+1) q->L4 N b i q->KF D f (P b i) q=some (b,JY N P (LX R) b i q)
 |0,hb,f,i,q,hf,hi,hg,ht=>by obtain⟨f,rfl⟩:∃g,f=g+1:=Ξ;have c:=ht.1;have l:=a.pl 0 i hb hi;have d:=hg.fresh a hb Ω;rw[c]at d;unfold KF;rw[if_neg Ξ,a.d0 i hi];rfl
 |b+1,hb,f,i,q,hf,hi,hg,ht=>by obtain⟨f,rfl⟩:∃g,f=g+1:=⟨f-1,Ω⟩;have c:=ht.1;have l:=a.pl _ i hb hi;have h8:=a.b8;have d:=hg.fresh a hb Ω;obtain⟨h6,t⟩:=ZrC a (cb:=LX R) Γ hb hi hg ht;have p:=λj (h)=>T3 (λk=>(a.px b k).1) (λk=>(a.px b k).2) (a.rr b Ω) i j h;have o:=ZrD (n:=min 6 (N b-6*i)) (q:=q.take (P (b+1) i)) Ω Ω (λm hm=>by obtain⟨e,u⟩:=p m Ω;rw[if_pos Ω]at e u;have:=(a.pl b (6*i+m) Ω Ω).1;rw[e];obtain⟨r,s,_⟩:=t m Ω;exact⟨Ω,Zs a b Ω f (6*i+m) _ Ω Ω r s⟩) Γ;unfold KF;rw[if_neg Ξ,a.d1 b Ω i hi];simp only[Zp0];rw[if_neg Δ,if_pos trivial,o];simp only;rw[if_neg Ω];rfl
end
theorem ZsR(h:k<L.length):L.take (k+1)=L.take k++[gi L k]:=by grind [List.take_add_one,Qm]
theorem WF{q:Gg}{f:Nat}{P a:Nat->Nat}:∀K,(∀i,i<K->P i=a i/\∀y∈(Qf q f a i).a4,y.1≠De 4 f i)->Hz q f P K=Qf q f a K
 |0,_=>rfl
 |K+1,h=>by have e:Hz q f P (K+1)=((Hz q f P K).take (P K)).bo (De 4 f K) (P K):=rfl;rw[e,WF K (λi hi=>h i Ω),(h K Ω).1];exact Gg.dd (q:=(Qf q f a K).take (a K)) (h K Ω).2
theorem WZ{D:LY}{P:Nat->Nat}{d:By}:∀n,(∀k,k<n->D[P k]?=some (GN d k))->CB (λk=>(D[P k]?).getD (Dj 64)) n=QM d n
 |0,_=>rfl
 |n+1,h=>by show CB _ n++_=QM d n++_;rw[WZ n (λk hk=>h k Ω)];simp_all
def Pp(A:Prop)(T:Gg->By->By->Gh->LF->(IB)->Prop)(D:LY)(tp tx:Nat):Prop:=∀(W w0:World) (n0 rb db:Nat) (va vt:Value),Gv w0 n0 rb db 0 0 Jv va vt W->∀{vf vw ve:Value} {a:OA} {l c:Nat},Jg w0 db vf (dT a l c) vw ve D->(db<n0/\∀k,Own (dT a l c) k->k<n0)->0<n0->GU W->
 Cl 136 #[dP rb,.agg #[dI (tp:Nat),.int .u64 (tx:Nat)]] W (PJ A T W w0 n0 rb db tp tx va vt)
def DB(G:Gh)(rd:Nat)(E:NS)(ns:LY):List Ek:=
 if ns=[] then(E rd).map Jk else
 match Gr G ns with
 |some ⟨some ⟨b,_,_⟩,_⟩=>(E b).map Jk
 |_=>[]
def Mn(I:LF)(n:Nat):Value:=
 match I.find? (λx=>x.1==(n:Int)) with
 |some x => .slice x.2.a x.2.l x.2.c
 |none => dN
theorem G3.hh{b:LF}(h:G3 b){x y:Int×VF}(f:x∈b)(g:y∈b)(e:x.1=y.1):x=y:=by obtain⟨i,c⟩:=BO.1 f;obtain⟨j,d⟩:=BO.1 g;rcases CY i j with a|a|a;have:=h i j x y a c d;grind [KK];simp_all;have:=h j i y x a d c;grind [KK]
theorem Xt(h:G3 I){r:VF}(b:((n:Int),r)∈I):Mn I n=dT r.a r.l r.c:=by
 unfold Mn;cases e:I.find? (λx=>x.1==(n:Int)) with
 |none=>
  grind
 |some x=>
  have a:=List.find?_some e;simp only[ET]at a;have:=h.hh (EZ e) b a;grind
theorem TW.wk{rd:Nat}{E:NS}{CI:IB}(h:TW w tb rd V E vi G I CI)(c:Gp G)(e:G.length<=10000)(l:I.length<=10000)(i:∀x∈G,x.2.p=none->∃(n:Nat) (r:VF),x.2.f=n/\n<60/\((n:Int),r)∈I):Mq w tb rd V E vi G I CI (DB G rd E) (Mn I):=by refine⟨h,c,e,l,λns b a=>?_,λx k j=>?_⟩;unfold DB;rcases a with⟨rfl,rfl⟩|a;rw[if_pos rfl];rw[if_neg (c.ne _ a),RL c.nd a];obtain⟨n,r,f,g,d⟩:=i x k j;exact⟨n,r,f,g,d,Xt h.si d⟩
theorem T0{α : Type}:∀(J K:List α),J.Nodup->(∀x∈J,x∈K)->J.length<=K.length
 |[],K,_,_=>Ao _
 |a::J,K,hnd,hs=>by rw[Cf]at hnd;obtain⟨s,t,rfl⟩:=Eb (hs a Θ);have ih:=T0 J (s++t) hnd.2 Γ;grind
section
variable{w:World}{tb rd:Nat}{V:NV}{E:NS}{vi:Value}{G:Gh}{I:LF}{CI:IB}
end
theorem GA.ext{a b:LS}(f:GA a)(g:GA b)(h:∀x,x∈a↔x∈b):a=b:=by
 have nd:∀{l:List _},GA l->l.Nodup:=λ{l} k=>by have:=k.nodup;rw[BX,Bj]at this;exact this.imp Γ
 refine List.Perm.eq_of_pairwise (le:=λx y=>Ho x.1 y.1=true) (λx y _ _ h1 h2=>?_) ?_ ?_ (by grind [List.perm_ext_iff_of_nodup]);grind [Pd,UB];rw[A1];exact λi j c e d=>f i j _ _ d (Ab c) (Ab e);rw[A1];exact λi j c e d=>g i j _ _ d (Ab c) (Ab e)
structure IW(S S':Gi)(L:List It):Prop where
 Q:∀n,S n=true->S' n=true
 a8:∀y∈L,y.k=1\/y.k=2\/y.k=3
 told:∀y∈L,y.k=2->S y.f=false/\S' y.f=true
 fresh:L.Pairwise (λx y=>x.k=2->y.k=2->x.f≠y.f)
theorem IW.nil(S:Gi):IW S S []:=⟨λ_ h=>h,Γ,Γ,List.Pairwise.nil⟩
theorem IW.dq{S c d:Gi}{A B:List It}(h:IW S c A)(k:IW c d B):IW S d (A++B):=by
 refine⟨λn i=>k.Q n (h.Q n i),λy a=>?_,λy a b=>?_,List.pairwise_append.2 ⟨h.fresh,k.fresh,λx j y a f g e=>?_⟩⟩;exact(Al.1 a).elim (h.a8 y) (k.a8 y);rcases Al.1 a with e|e;exact⟨(h.told y e b).1,k.Q _ (h.told y e b).2⟩;refine⟨?_,(k.told y e b).2⟩;cases hs:S y.f with
 |false=>rfl
 |true=>
  have f:=h.Q _ hs;have g:=(k.told y e b).1;simp_all
 have a1:=(h.told x j f).2;have a2:=(k.told y a g).1;simp_all
theorem IW.f9{a:LY->Gi->List It×Gi}(c:∀ns S,IW S (a ns S).2 (a ns S).1)(ns:LY)(S:Gi)(x:Ek):IW S (Hx a ns S x).2 (Hx a ns S x).1:=by unfold Go.Proofs.YtaieidcohdhgpaaGreatDoor.Hx;split;have h:=c (ns++[x.1]) S;have b:IW S S [⟨ns++[x.1],1,0⟩]:=⟨λ_ h=>h,Γ,Γ,Fq _ _⟩;exact b.dq h;rename_i f _;split;exact⟨λ_ h=>h,Γ,Γ,Fq _ _⟩;refine⟨λn hn=>?_,Γ,λy d hk=>?_,Fq _ _⟩;show(if n=f then true else S n)=true;simp_all;rw[Ax.1 d];exact⟨Ξ,by show(if f=f then true else S f)=true;simp_all⟩
theorem IW.e0{a:LY->Gi->List It×Gi}(b:∀ns S,IW S (a ns S).2 (a ns S).1)(ns:LY):∀(l:List Ek) (S:Gi),IW S (GS a ns l S).2 (GS a ns l S).1
 |[],S=>IW.nil S
 |x::l,S=>(IW.f9 b ns S x).dq (IW.e0 b ns l _)
theorem Tv(ch:LY->List Ek):∀(d:Nat) (ns:LY) (S:Gi),IW S (DY ch d ns S).2 (DY ch d ns S).1
 |0,_,S=>IW.nil S
 |d+1,ns,S=>IW.e0 (Tv ch d) ns _ S
theorem ZnR(ch:LY->List Ek)(i j:Nat)(x y:It)(d:i<j)(f:(Dp ch)[i]?=some x)(g:(Dp ch)[j]?=some y)(a:x.k=2)(b:y.k=2):x.f≠y.f:=by obtain⟨c,rfl⟩:=Ac.1 f;obtain⟨e,rfl⟩:=Ac.1 g;exact A1.1 (Tv ch 7 [] _).fresh i j c e d a b
theorem Zp7(ch:LY->List Ek):∀x∈Dp ch,x.k=1\/x.k=2\/x.k=3:=(Tv ch 7 [] _).a8
def Nq(R:LY->Prop)(ch:LY->List Ek)(y:It):Prop:=
 ∃ds x,R ds/\x∈ch ds/\y.ns=ds++[x.1]/\((x.2=none/\y.k=1/\y.f=0)\/(x.2=some y.f/\(y.k=2\/y.k=3)))
theorem WN{R:LY->Prop}{ch:LY->List Ek}{c:LY->Gi->List It×Gi}(f:∀ns S,R ns->∀y∈(c ns S).1,Nq R ch y)(d:∀ns x,R ns->x∈ch ns->x.2=none->R (ns++[x.1])){ns:LY}(a:R ns):∀(l:List Ek) (S:Gi),(∀x∈l,x∈ch ns)->∀y∈(GS c ns l S).1,Nq R ch y
 |[],S,_,y,hy=>absurd hy Ex
 |x::l,S,hl,y,hy=>by have b:=hl x BV;rcases Al.1 (hy) with e|e;unfold Hx at e;split at e;rcases AM.1 e with rfl|e;exact⟨ns,x,a,b,rfl,Γ⟩;grind;split at e;rw[Ax.1 e];exact⟨ns,x,a,b,rfl,Γ⟩;rw[Ax.1 e];exact⟨ns,x,a,b,rfl,Γ⟩;exact WN f d a l _ (λz g=>hl z (AO _ g)) y e
theorem Yd{R:LY->Prop}{ch:LY->List Ek}(a:∀ns x,R ns->x∈ch ns->x.2=none->R (ns++[x.1])):∀(d:Nat) (ns:LY) (S:Gi),R ns->∀y∈(DY ch d ns S).1,Nq R ch y
 |0,_,_,_,_,hy=>absurd hy Ex
 |d+1,ns,S,hn,y,hy=>WN (Yd a d) a hn _ S (λ_ h=>h) y hy
structure Wx(ns:LY)(L:List It):Prop where
 pre:∀y∈L,∃t,t≠[]/\y.ns=ns++t
 nd:L.Pairwise (λx y=>x.ns≠y.ns)
theorem stp_n{b:LY->Gi->List It×Gi}(c:∀ns S,Wx ns (b ns S).1)(ns:LY)(S:Gi)(x:Ek):(∀y∈(Hx b ns S x).1,∃t,y.ns=ns++x.1::t)/\(Hx b ns S x).1.Pairwise (λx y=>x.ns≠y.ns):=by unfold Hx;split;have h:=c (ns++[x.1]) S;refine⟨λy a=>?_,CC.2 ⟨λy a e=>?_,h.nd⟩⟩;rcases AM.1 a with rfl|a;simp_all;obtain⟨t,_,e⟩:=h.pre y a;simp_all;obtain⟨t,ht,e2⟩:=h.pre y a;simp_all;grind
theorem itL_n{b:LY->Gi->List It×Gi}(i:∀ns S,Wx ns (b ns S).1)(ns:LY):∀(l:List Ek) (S:Gi),l.Pairwise (λx y=>x.1≠y.1)->(∀y∈(GS b ns l S).1,∃x∈l,∃t,y.ns=ns++x.1::t)/\(GS b ns l S).1.Pairwise (λx y=>x.ns≠y.ns)
 |[],S,_=>⟨λ_ h=>absurd h Ex,List.Pairwise.nil⟩
 |x::l,S,hl=>by obtain⟨o,m⟩:=CC.1 hl;obtain⟨f,j⟩:=stp_n i ns S x;obtain⟨g,k⟩:=itL_n i ns l (Hx b ns S x).2 m;refine⟨λy c=>?_,List.pairwise_append.2 ⟨j,k,λy c z d e=>?_⟩⟩;rcases Al.1 (c) with e|e;obtain⟨t,a⟩:=f y e;exact⟨x,BV,t,a⟩;obtain⟨z,d,t,a⟩:=g y e;exact⟨z,AO _ d,t,a⟩;obtain⟨t,a⟩:=f y c;obtain⟨q,p,t2,n⟩:=g z d;rw[a,n]at e;injection (Ev e) with e3 _;exact o q p e3
theorem XW(ch:LY->List Ek)(a:∀ns,(ch ns).Pairwise (λx y=>x.1≠y.1)):∀(d:Nat) (ns:LY) (S:Gi),Wx ns (DY ch d ns S).1
 |0,_,_=>⟨λ_ h=>absurd h Ex,List.Pairwise.nil⟩
 |d+1,ns,S=>by obtain⟨b,c⟩:=itL_n (XW ch a d) ns _ S (a ns);refine⟨λy f=>?_,c⟩;obtain⟨x,_,t,e⟩:=b y f;exact⟨x.1::t,Θ,e⟩
theorem Xv(ch:LY->List Ek)(a:∀ns,(ch ns).Pairwise (λx y=>x.1≠y.1)):((Dp ch).map (·.ns)).Nodup:=Bj.2 (XW ch a 7 [] _).nd
section
variable{w:World}{tb rd:Nat}{V:NV}{E:NS}{vi:Value}{G:Gh}{I:LF}{CI:IB}
theorem UT(d:TW w tb rd V E vi G I CI)(_:Gp G)(ns:LY):DB G rd E ns=[]\/∃b,Gd G rd ns b/\DB G rd E ns=(E b).map Jk:=by
 by_cases a:ns=[];exact .inr ⟨rd,.inl ⟨a,rfl⟩,by simp_all[DB]⟩;cases e:Gr G ns with
 |none=>simp_all[DB]
 |some u=>
  have c:=JZ e;rcases d.d.c9 _ c with g|⟨b,f⟩;refine .inl ?_;unfold DB;rw[if_neg a,e];obtain⟨up,uf⟩:=u;subst g;rfl;subst f;exact .inr ⟨b,.inr c,by unfold DB;rw[if_neg a,e]⟩
theorem PN(c:TW w tb rd V E vi G I CI)(m:Gp G):∀y∈Dp (DB G rd E),∃v:VS,(y.ns,v)∈G/\(y.k=1/\y.f=0/\v.p.isSome=true\/v.p=none/\y.f=v.f.toNat/\(y.k=2\/y.k=3)):=λy t=>by
 obtain⟨l,x,⟨b,r⟩,f,u,n⟩:=Yd (R:=λns=>∃b,Gd G rd ns b) (λns x ⟨b,r⟩ f h0=>by rcases UT c m ns with e|⟨h,i,e⟩;simp_all;rw[e]at f;obtain⟨z,k,rfl⟩:=AB.1 f;have j:=(c.d.en ns h i _ _).1 k;rcases c.d.c9 _ j with d|⟨p,s⟩;grind [Jk];refine⟨p,.inr ?_⟩;rw[s]at j;exact j) 7 [] _ ⟨rd,.inl ⟨rfl,rfl⟩⟩ y t;rcases UT c m l with e|⟨h,i,e⟩;simp_all;rw[e]at f;obtain⟨z,k,rfl⟩:=AB.1 f;refine⟨z.2,by rw[u];exact((c.d.en l h i _ _).1 k),?_⟩;unfold Jk at n;rcases n with⟨o,A,q⟩|⟨g,B⟩;refine .inl ⟨A,q,?_⟩;cases d:z.2.p with
 |none=>rw[d]at o;cases o
 |some a=>rfl
 refine .inr ?_;cases d:z.2.p with
 |none=>rw[d]at g;exact⟨rfl,(FX g).r,B⟩
 |some a=>rw[d]at g;cases g
theorem OK(d:TW w tb rd V E vi G I CI)(h:TG G I):MM w tb rd V E vi G I CI (DB G rd E) (Mn I) (λn=>CI (n:Int)):=by
 have ac:=h.gl;have ad:=h.nd;have l:∀x∈G,x.2.p=none->∃(n:Nat) (r:VF),x.2.f=n/\n<60/\((n:Int),r)∈I:=λx m i=>by obtain⟨r,f⟩:=h.fl x m i;obtain⟨s,t,_⟩:=h.rg _ f;have aa:0<=x.2.f:=s;have ab:x.2.f<60:=t;exact⟨x.2.f.toNat,r,Ω,Ω,Γ⟩
 have z:∀ns,(DB G rd E ns).Pairwise (λx y=>x.1≠y.1):=λns=>by rcases UT d h.ok ns with e|⟨b,A,e⟩;simp_all;rw[e,Bj];exact Bj.1 (d.d.ak ns b A).nodup
 have k:∀y∈Dp (DB G rd E),∃v:VS,(y.ns,v)∈G/\(y.k=1/\y.f=0\/v.p=none/\y.f=v.f.toNat):=λy a=>by obtain⟨v,c,q⟩:=PN d h.ok y a;grind
 have p:∀y∈Dp (DB G rd E),y.k=2->∃r:VF,((y.f:Int),r)∈I:=λy a j=>by obtain⟨v,c,⟨k1,_⟩|⟨i,B⟩⟩:=k y a;omega;obtain⟨n,r,g,_,h3⟩:=l _ c i;have u:v.f=n:=g;exact⟨r,Ξ⟩
 refine⟨d.wk h.ok Ω Ω l,⟨?_,Zp7 _,λy a=>?_,λy a=>?_,λy a j=>?_,ZnR _⟩,λy a j=>?_⟩;have:=T0 _ (G.map (·.1)) (Xv _ z) (λx m=>by obtain⟨y,a,rfl⟩:=AB.1 m;obtain⟨v,c,_⟩:=k y a;exact AB.2 ⟨_,c,rfl⟩);rw[AT,AT]at this;omega;obtain⟨v,c,_⟩:=k y a;have g:=SX y.ns (h.ok.az _ c);have o:y.ns.length<=6:=h.ok.le _ c;omega;obtain⟨v,c,⟨_,f0⟩|⟨i,B⟩⟩:=k y a;omega;obtain⟨n,r,g,o,_⟩:=l _ c i;have u:v.f=n:=g;omega;obtain⟨r,f⟩:=p y a j;have g:=(d.av _ f).1;have o:=(h.rg _ f).2.2.1;simp_all[Dh,Nat.mul_one];obtain⟨r,f⟩:=p y a j;exact⟨r.a,r.l,r.c,Xt d.si f,d.av _ f⟩
end
theorem Znz(W:World)(d h a:Nat)(F k H G:Value)(c:LI)(g:Gb W d 179 [F,k,dI (a:Nat),H,G])(n:Sl W 350 2 k c.length (DH c))(q:Rq c)(ag:a<1536)(tk:Nat->Bool)(L:Gf)(m:Gb W h 197 L)(z:∀p,p<1536->L[4+p]?=some (dV (tk p))):
  Cl 137 #[dP d,.pointer (some (dQ h 4))] W λe w'=>∃b:Bool,e=dR (dV b)/\Bw W w'/\(b=true↔512<=D3 (Dl c) 96/\∀p,a<p->p/16=a/16->tk p=false):=by
 have c2:=(g.J 2).M (rfl);obtain⟨N,A⟩:=ex (D3 (Dl c) 96);have t:Hid (Cl 132 #[.pointer (some (dQ d 1))] W λe w'=>e=dR (dI (N))/\Bw W w'):=by rw[A];exact Ss W d 1 k c ((g.J 1).M rfl) n q
 have w:Hid (∀p,a<p->p/16=a/16->W.cell? (dQ h (4+p))=some (dV (tk p))):=λp f l=>(m.J _).M Γ;have ab:N<=1536:=by grind [Qt]
 clear z m q n g;go_enter func137,ntmps137;go_wp2
 go_loopw [5] (λi wr=>∃p:Nat,a<p/\p<=(a/16+1)*16/\Hid (∀j,a<j->j<p->tk j=false)/\i=dI (p)/\wr=W) (λi _=>3000-(intOf i).toNat)
 case atStart=>exact⟨a+1,Ω,Ω,λj f l=>Ω,by go_num,rfl⟩
 case round=>
  obtain⟨p,f,l,u,rfl,rfl⟩:=hrel;obtain⟨r,s⟩:=ex (p%16);have D:(p:Int).tmod 16=(r):=Γ;by_cases E:r=0
  .have HE:Hid (∀j,a<j->j/16=a/16->tk j=false):=λj x y=>by grind [Da]
   have af:(p:Int).tmod 16=0:=Ω;clear D s E;go_wp2_with(go_at_call 132;apply(Da t).Q;rintro e w'⟨rfl,B⟩);go_ret;exact⟨_,rfl,B,by grind [Da]⟩
  .have o:=Da w p f Ω;have ac:(p)<1536:=Ω;have ad:¬(r)=0:=Ω;have ae:((r)==0)=false:=Ξ;have aa:Hid (p/16=a/16):=(by show p/16=a/16;omega);have C:p+1<=(a/16+1)*16:=Ω;clear s;cases htk:tk p with
   |true=>
    rw[htk]at o;go_wp2;go_ret;exact⟨false,rfl,Ad _ _,Γ,Γ⟩
   |false=>
   rw[htk]at o;have v:Hid (∀j,a<j->j<p+1->tk j=false):=λj x y=>by grind [Nat.lt_or_ge,Da]
   clear u;go_wp2;exact⟨⟨p+1,Ω,C,v,by go_num,trivial⟩,by grind [intOf]⟩
theorem Znc{vk:Value}{vn vw Z:Value}{W:LB}{Y:Nat}{O:NS}{N:IB}{ch:LY->List Ek}{R:NV}(h:H0 w a k vk s vf vn vw Z W ep)(H:H3 s)(F:∃j,j<96/\Dl s.es j<=0)(z:MM w tb Y V O vi G I N ch R C):
  Cl 138 #[dP a,dP tb] w λe w'=>∃b:Bool,e=dR (dV b)/\Bw w w'/\(b=true↔GK (Dn s false C (Dp ch)).1=s.tp/\GQ (Dn s false C (Dp ch)).1=s.tx):=by
 have U:w.cell? (dQ a 0)=some (dP k):=(h.st.row.J 0).M rfl;have B:w.cell? (dQ a 2)=some (dI (s.tp)):=(h.st.row.J 2).M rfl;have D:w.cell? (dQ a 3)=some (.int .u64 (s.tx)):=(h.st.row.J 3).M rfl;obtain⟨u,m⟩:=ex s.tp;obtain⟨y,n⟩:=ex s.tx;rw[<-m]at B;rw[<-n]at D;obtain⟨x,q⟩:=ex (GK (Dn s false C (Dp ch)).1);obtain⟨ty,r⟩:=ex (GQ (Dn s false C (Dp ch)).1);have Q:Hid (Cl 131 #[dP k,.pointer (some (dQ a 1)),dP tb,dV false] w.drew λe X=>∃pb,e=dR (dP pb)/\(X.cell? (dQ a 0)=some (dP k)/\X.cell? (dQ a 2)=some (dI (u))/\X.cell? (dQ a 3)=some (.int .u64 (y)))/\X.cell? (dQ pb 101)=some (dI (x))/\X.cell? (dQ pb 102)=some (.int .u64 (ty))/\Hid (Bw w X)):=by have L:Bw w w.drew:=(Ad _ _).drew;apply((h.below L).cg H F (z.below L) false).Q;rintro e X⟨pb,O',rfl,ae,aa,⟨va,es,vp,M,_⟩,d,hO⟩;have J:Bw w X:=⟨d.os,d.tape,d.output,d.size,d.block⟩;have p:=(h.below J).st.row;exact⟨pb,rfl,⟨(p.J 0).M rfl,by rw[m];exact(p.J 2).M rfl,by rw[n];exact(p.J 3).M rfl⟩,by rw[q];exact(M.row.J 101).M (JR _ _ _ _ _ _ _ _ _ _ 3),by rw[r];exact(M.row.J 102).M (JR _ _ _ _ _ _ _ _ _ _ 4),J⟩
 rw[<-q,<-r,<-m,<-n];clear h H F z m n q r;obtain⟨g,A⟩:=ex (decide (x=u/\ty=y));have f:=Db A;clear A;go_enter func138,ntmps138;go_upto_region 1 with fail;refine Az (S:=λX=>X.cell? _=some _/\X.cell? _=some _/\X.cell? _=some _) Φ ⟨U,B,D⟩ (λad=>?_);refine tk 0 ?_;refine tk 1 ?_;refine tk 2 ?_;refine tk 3 ?_;refine tk 4 ?_;refine tk 5 ?_;refine tk 6 ?_;refine tk 7 ?_;refine tk 13 ?_;refine tk 14 ?_;refine tk 15 ?_;refine tk 16 ?_;refine tk 17 ?_;refine rk 8 (λK c=>?_);go_simp;go_at_call 131;apply(Da Q).Q;rintro e X⟨pb,rfl,E,p1,p2,P⟩;go_wp2_with fail;refine c.out _ _ E (λac=>?_);clear c K;try simp only[pE]
 refine tk 9 ?_;refine tk 10 ?_;refine tk 11 ?_;refine rk 12 (λK c=>?_);go_simp;refine c.out _ _ E (λab=>?_);clear c K;try simp only[pE]
 refine A4 (i:=18) (v:=dV g) rfl Φ Φ Φ (λ_ _ _ h=>h) (Or.inl ⟨by rfl,?_⟩) Ψ ?_
 .intro w T
  (try dsimp only at T)
  go_simp;by_cases l:x=u;by_cases o:ty=y;rw[if_pos (by rw[l]),if_pos (by rw[o]),show g=true from(Da f).M (CM ⟨l,o⟩)];rw[if_pos (by rw[l]),if_neg Ω,show g=false from(Da f).M (Cd (λe=>o e.2))];rw[if_neg Ω,show g=false from(Da f).M (Cd (λe=>l e.1))]
 try simp only[pE]
 refine tk 19 ?_;refine AL Φ ?_ _;go_wp2;go_ret;exact⟨_,rfl,Da P,by rw[Da f];exact decide_eq_true_iff⟩
def Nt:Ending:=dR (.tuple #[.pointer none,.pointer none,dV false])
def SR(w:World)(db:Nat)(Q:Ending->World->Prop):Prop:=
 Cl 135 #[dP db] w λe X=>∃(tn tp tx:Nat) (ok:Bool),e=dR (.tuple #[.agg #[.int .u64 (tn:Nat),dI (tp:Nat),.int .u64 (tx:Nat)],dV ok])/\∃Y,X.alloc (.cells #[.int .u64 (tn:Nat),dI (tp:Nat),.int .u64 (tx:Nat)] 191)=Y/\Hid (ok=false->Q Nt Y)/\
  Hid (ok=true->∃Y2,Y.alloc (.cells (La (.pointer none)).toArray 197)=Y2/\Gb Y2 Y.heap.size 197 (La (.pointer none))/\∃W,Y2.setRow Y.heap.size (La (dP db)).toArray=W/\W.cell? (dQ X.heap.size 1)=some (dI (tp:Nat))/\W.cell? (dQ X.heap.size 2)=some (.int .u64 (tx:Nat))/\
   Hid (Cl 136 #[dP Y.heap.size,.agg #[dI (tp:Nat),.int .u64 (tx:Nat)]] W λe X5=>∃(tb a1:OA) (l1 c1 tp1 tx1:Nat) (ok:Bool),e=dR (.tuple #[.pointer tb,dV ok])/\X5.cell? (dQ Y.heap.size 1)=some (dT a1 l1 c1)/\X5.cell? (dQ Y.heap.size 2)=some (dI (tp1:Nat))/\X5.cell? (dQ Y.heap.size 3)=some (.int .u64 (tx1:Nat))/\X5.cell? (dQ X.heap.size 0)=some (.int .u64 (tn:Nat))/\
    ∃W6,X5.alloc (.cells #[dP db,dT a1 l1 c1,dI (tp1:Nat),.int .u64 (tx1:Nat),.int .u64 (tn:Nat)] 179)=W6/\Hid (ok=false->Q Nt W6)/\
    Hid (ok=true->Cl 137 #[dP X5.heap.size,.pointer (some (dQ Y.heap.size 4))] W6 λe X7=>∃b:Bool,e=dR (dV b)/\Hid (b=false->Q Nt X7)/\
     Hid (b=true->Cl 138 #[dP X5.heap.size,.pointer tb] X7 λe X8=>∃b:Bool,e=dR (dV b)/\Hid (b=false->Q Nt X8)/\Hid (b=true->Q (dR (.tuple #[dP X5.heap.size,.pointer tb,dV true])) X8)))))
theorem ZoH(w:World)(a:Nat)(Q:Ending->World->Prop)(h:SR w a Q):Cl 76 #[dP a] w Q:=by
 unfold SR at h;obtain⟨Z,c⟩:=ex (La (dP a));obtain⟨A,d⟩:=ex (La (.pointer none));have H:Z.length=1549:=by rw[c];exact ZhW _
 have G:A.length=1549:=by rw[d];exact ZhW _
 have l:prog.built 197 [(0,dP a)]=some Z.toArray:=by rw[c];exact ZrX a
 have n:∀w,(zeroValue 197).run prog w=.ok (.agg A.toArray) w:=by rw[d];exact ZsK
 have m:Z.toArray.all (·.oneCell')=true:=by rw[c];exact Zs1 a
 rw[<-c,<-d]at h;have f:=Db h;clear h c d;have p:=Db H;have K:=Db G;clear H G;have r:Hid (∀X,Q Nt X->Q (dR (.tuple #[.pointer none,.pointer none,dV false])) X):=λX h=>h;go_enter func76,ntmps76;go_upto_region 2 with(go_at_call 135;apply(Da f).Q;rintro e X⟨tn,tp,tx,o,rfl,Y,D,j,k⟩;have y:=Db D;clear D);rw[Da y];cases o
 .have g:=Db (Da r _ (Da j rfl));clear j k f l n m;go_wp2;exact Da g
 obtain⟨Y2,E,F,W,B,M,N,s⟩:=Da k rfl;have z:=Db E;have u:=Db B;have x:=Db F;clear E B F k j;go_upto_region 4 with fail;refine A7 ?_;refine ZgB rfl _ rfl ?_;refine Wj rfl 197 0 _ rfl _ rfl l ?_;refine JG rfl 197 rfl n ?_;rw[Da z];refine Bh rfl 197 _ _ rfl _ _ rfl rfl 197 _ (Da x) ?_ ?_ m ?_;rw[ZsW,AS,Da p];rw[AS,AS,Da p,Da K];refine ER ?_;rw[Da u];clear l n m f;go_upto_region 6 with(go_at_call 136;apply(Da s).Q;rintro e X5⟨tb,a1,l1,k1,aa,ab,o,rfl,P,R,S,O,W6,C,q,i⟩;have v:=Db C;clear C);go_upto_region 7 with fail;rw[Da v];clear O P R S M N v s u y z x;cases o
 .have g:=Db (Da r _ (Da q rfl));clear q i;go_wp2;exact Da g
 go_wp2_with(first|(go_at_call 137;apply(Da i (by first|rfl|trivial)).Q;rintro e X7⟨b,rfl,I,t⟩;clear i;cases b)|(go_at_call 138;apply(Da t (by first|rfl|trivial)).Q;rintro e X8⟨b,rfl,J,L⟩;clear t;cases b));all_goals first|exact Da I (by first|rfl|trivial)|exact Da J (by first|rfl|trivial)|exact Da L (by first|rfl|trivial)
theorem Vz(f:Nat->Int):∀k,0<D3 f k->∃j,j<k/\f j=0
 |0,h=>by grind [D3]
 |k+1,h=>by unfold D3 at h;by_cases e:f k=0;grind;rw[if_neg e]at h;obtain⟨j,hj,a⟩:=Vz f k Ω;exact⟨j,Ω,a⟩
def Sz(T:Gg->By->By->Gh->LF->(IB)->Prop)(s':KS)(q:Gg)(G:Gh)(I:LF)(CI:IB)(L':List It):Prop:=
 QG q/\Hr q.a4 s'.es/\H3 s'/\(∃x last,Dx (BL (Dg x 1))=0/\T q x last G I CI)/\GV (λn=>CI (n:Int)) L'/\∃W tb rd V Ed vi,TW W tb rd V Ed vi G I CI/\L'=Dp (DB G rd Ed)/\TG G I
def Wv(s':KS)(q:Gg)(CI:IB)(L':List It):Prop:=
 512<=D3 (Dl s'.es) 96/\(∀p,s'.tp<p->p/16=s'.tp/16->q.tk p=false)/\GK (Dn s' false (λn=>CI (n:Int)) L').1=s'.tp/\GQ (Dn s' false (λn=>CI (n:Int)) L').1=s'.tx
def OpP(A:Prop)(T:Gg->By->By->Gh->LF->(IB)->Prop)(D:LY)(o:Option (Nat×Nat×Nat))(tn tp tx:Nat)(w:World)(db:Nat)(vf vn:Value)(e:Ending)(w':World):Prop:=
 (e=Nt/\Bw w w'/\(A->o≠none->∃es' q G I CI L',Sz T ⟨es',tp,tx,tn,D⟩ q G I CI L'/\¬Wv ⟨es',tp,tx,tn,D⟩ q CI L'))\/
 ∃stb tb va es' q G I CI L',e=dR (.tuple #[dP stb,dP tb,dV true])/\o≠none/\Sz T ⟨es',tp,tx,tn,D⟩ q G I CI L'/\Wv ⟨es',tp,tx,tn,D⟩ q CI L'/\H0 w' stb db va ⟨es',tp,tx,tn,D⟩ vf vn dN dN [] []/\PS w' tb G I CI/\Bw w w'/\w.heap.size<tb/\w.heap.size<=stb/\(∀k,Own va k->w.heap.size<=k)/\SA w.heap.size I
theorem Zra{A:Prop}{T:Gg->By->By->Gh->LF->(IB)->Prop}{o h:Nat}(ar:h<1536)(aJ:Pp A T D h m){L M:By}(aK:D[0]?=some L)(aL:D[1]?=some M)(K:Qj L M=none\/Qj L M=some (o,h,m))(w:World)(i:Nat)(vf:Value)(a:OA)(l c:Nat)(d:Jg w i vf (dT a l c) dN dN D)(aH:¬Own (dT a l c) i)(aI:GU w):
  Cl 76 #[dP i] w (OpP A T D (Qj L M) o h m w i vf (dT a l c)):=by
 refine ZoH w i _ ?_;unfold SR;apply(ZiL w i vf _ _ a l c D d L M aK aL).Q;rintro e X⟨rfl,hX⟩;have al:=hX.size;rcases K with K|K;obtain⟨Y,eY,z,kY,sY,bY⟩:=Df X [.int .u64 0,dI 0,.int .u64 0] 191;rw[K];exact⟨0,0,0,false,rfl,Y,eY,λ_ => .inl ⟨rfl,hX.M (bY.Q al),Γ⟩,λe=>by cases e⟩;rw[K];have u:∀k,¬Own dN k:=by grind [Own,Value.ownBlock]
 obtain⟨Y,eY,z,kY,sY,bY⟩:=Df X [.int .u64 (o),dI (h),.int .u64 (m)] 191;obtain⟨O,aA,ay,aT,aU,az⟩:=Df Y (La (.pointer none)) 197;have B:=hX.M (bY.Q al);refine⟨o,h,m,true,rfl,Y,eY,(λe=>Γ),λ_=>⟨O,aA,ay,_,rfl,?_⟩⟩;obtain⟨W,hW⟩:=ex (O.setRow Y.heap.size (La (dP i)).toArray);have P:Bw Y W:=az.M ⟨Ξ,Ξ,Ξ,Ξ,λj hj=>by rw[hW];exact Bc O _ j _ Ω⟩;rw[<-hW];have lW:Gb W X.heap.size 191 _:=(P.block _ z.lt).M z;refine⟨(lW.J 1).M rfl,(lW.J 2).M rfl,?_⟩;have aP:=d.1.lt;have ae:=B.size;have an:∀k,Own (dT a l c) k->k<w.heap.size:=λk f=>d.2.1.1.lt f;apply(aJ W Y _ _ i _ _ (Gv.start (by rw[hW];exact Bo O _ _ _ 197 _ ay) P (Aa _) (Aa _)) ⟨(B.block _ d.1.lt).M d.1,⟨d.2.1.1.kept (λk f _=>B.block k f),d.2.1.2⟩,d.2.2⟩ ⟨Ω,λk f=>by have:=an k f;omega⟩ Ω (aI.e (Fr.S (B.M (P.Q ae))) (X:=λ_=>False) (λe=>e))).Q;intro e p hR;rcases hR with⟨rfl,R,aG⟩|⟨tb,q,va,vt,hq,rfl,F,⟨G,I,N,aC,ac,x,aN,aM,hT,aB⟩,aQ,aS⟩;obtain⟨r,v,s,aw,ax,r1,r2,r3⟩:=R.row;have aj:=R.aa.size;have l5:Gb p X.heap.size 191 _:=(R.aa.block _ z.lt).M z;obtain⟨C,aa,ai,av,aO,E⟩:=Df p [dP i,dT r v s,dI (aw),.int .u64 (ax),.int .u64 (o)] 179;exact⟨none,r,v,s,aw,ax,false,rfl,r1,r2,r3,(l5.J 0).M rfl,C,aa,λ_ => .inl ⟨rfl,B.M ((R.aa.Q ae).M (E.Q Ω)),λhA=>absurd hA aG⟩,λe=>by cases e⟩;obtain⟨L5,Z,r1,r2,r3,r4,r5,r6,r7⟩:=F.row;obtain⟨n,am,ag⟩:=F.es;obtain⟨r,v,s,rfl⟩:=ag.a0;have af:=F.aa;have aj:=af.size;have l5:Gb p X.heap.size 191 _:=(af.block _ z.lt).M z;obtain⟨C,aa,ai,av,aO,E⟩:=Df p [dP i,dT r v s,dI (h),.int .u64 (m),.int .u64 (o)] 179;have U:=B.M ((af.M (E.Q aj)).Q ae);refine⟨some (dQ tb 0),r,v,s,h,m,true,rfl,(Z.J 1).M r2,(Z.J 2).M r3,(Z.J 3).M r4,(l5.J 0).M rfl,C,aa,(λe=>Γ),λ_=>?_⟩;have ap:=ag.kept (λk f _=>E.block k f);have aq:H0 C p.heap.size i (dT r v s) ⟨n,h,m,o,D⟩ vf (dT a l c) dN dN [] []:=by refine⟨⟨ai,⟨(U.block _ d.1.lt).M d.1,⟨d.2.1.1.kept (λk f _=>U.block k f),d.2.1.2⟩,d.2.2⟩,Iq.nil _,⟨rfl,.inl ⟨rfl,rfl⟩⟩,Ω,⟨λe=>by have:=an _ e;omega,u _,u _⟩,⟨aH,u _,u _⟩,λk _=>u k,λk _=>u k,λk _=>u k⟩,ap,λk f e=>?_⟩;have h1:=(F.oa k f).1;have h2:=ag.lt f;rcases e with e|e|e|e|e;omega;omega;grind;simp_all;simp_all
 have S:=am.bx (by have:=hq.len;omega) (λy hy=>(hq.pl y hy).2.1);have ao:H3 ⟨n,h,m,o,D⟩:=⟨S.2.1,S.1,ar,d.2.2,S.2.2⟩;obtain⟨rd,V,Ed,vi,ad⟩:=aC;have aD:=OK ad ac;have ab:Sz T ⟨n,h,m,o,D⟩ q G I N (Dp (DB G rd Ed)):=⟨hq,am,ao,⟨x,aN,aM,hT⟩,aD.ok,p,tb,rd,V,Ed,vi,ad,rfl,ac⟩;apply(Znz C _ _ h _ _ _ _ n ai ap S ar _ L5 (av _ _ _ Z) r5).Q;rintro e X7⟨b,rfl,Q,H⟩;have ah:=U.M (Q.Q U.size);refine⟨b,rfl,λt => .inl ⟨rfl,ah,λ_ _=>⟨n,q,G,I,N,_,ab,λJ=>?_⟩⟩,λt=>?_⟩;rw[H.2 ⟨J.1,J.2.1⟩]at t;grind;obtain⟨aF,aE⟩:=H.1 t;have ak:=ad.below (E.M (Q.Q Ω)) (Aa _);obtain⟨jj,q1,q2⟩:=Vz (Dl n) 96 Ω;apply(Znc (aq.below Q) ao ⟨jj,q1,by show Dl n jj<=0;omega⟩ (OK ak ac)).Q;rintro e X8⟨b,rfl,h8,H⟩;have au:=ah.M (h8.Q ah.size);refine⟨b,rfl,λt => .inl ⟨rfl,au,λ_ _=>⟨n,q,G,I,N,_,ab,λJ=>?_⟩⟩,λt=>?_⟩;rw[H.2 ⟨J.2.2.1,J.2.2.2⟩]at t;grind;have aR:Y.heap.size<=W.heap.size:=P.size;exact .inr ⟨p.heap.size,tb,dT r v s,n,q,G,I,N,_,rfl,(λe=>by cases e),ab,⟨aF,aE,H.1 t⟩,(aq.below Q).below h8,⟨rd,V,Ed,vi,ak.below h8 (Aa _)⟩,au,Ω,Ω,λk f=>by have:=(F.oa k f).1;omega,λx hx g hg=>by have:=aB x hx g hg;omega⟩
theorem Gy.part(h:Gy s):∃j,j<96/\Dl s.es j<=0:=by obtain⟨j,hj,e⟩:=Vz (Dl s.es) 96 (by have:=h.e;omega);grind
theorem ZnG{a:NB}{b:By}(h:x.k≠1->x.k≠3->C x.f=a x.f):Dv E C b st x=Dv E a b st x:=by simp_all[Dv]
theorem ZhP{E:Ge}{C a:NB}:∀(L:List It) (last:By) (st:Pl),(∀y∈L,y.k≠1->y.k≠3->C y.f=a y.f)->Dq E C last st L=Dq E a last st L
 |[],_,_,_=>rfl
 |x::xs,last,st,h=>by unfold Dq;rw[ZnG (h x Θ),ZhP xs _ _ (λy b=>h y (AO _ b))]
theorem Zk5{cl:Bool}{a:NB}(h:∀y∈L,y.k≠1->y.k≠3->C y.f=a y.f):Dn s cl C L=Dn s cl a L:=by grind [Dn,JK,ZhP]
def Jt(c:Int):Prop:=-9223372036854775808<=c/\c<=9223372036854775807
def QO(c:Int)(n:Nat):Nat:=(if c<0 then -(c+1) else c).toNat%n
theorem Zq7(c:Int)(h:0<n):QO c n<n:=Nat.mod_lt _ h
def pth(i:Nat):By:=⟨#[47,102,UInt8.ofNat (48+i)]⟩
section
variable{b:Nat->Option By}{G:Gh}{I:LF}{CI:IB}
end
theorem Zm5{e:Array Oper}{f:List Oper}{a:Act}{Q:Exit->Act->World->Prop}(j:o.guard=none)(d:TypeId)(x:Operand)(ho:o.op=.sliceToArrayPointer d x)(n:Nat)(g:TypeId)(k:P.underlying d=some (.array n g))(b:OA)(l c:Nat)(m:a.eval x=dT b l c)(hn:n<=l)(h:wpList P e Q f (a.put o.dst (.pointer b)) w):wpList P e Q (o::f) a w:=by refine EK j λK i=>?_;unfold Oper.wp execOp;simp only[ho,Instr.arrayAt,Cq,m];simp[underlying,k,go_sem,show ¬l<n by omega];exact i _ _ h
theorem Sx{c:Array Oper}{d:List Oper}{a:Act}{Q:Exit->Act->World->Prop}(k:o.guard=none)(ty:TypeId)(x y:Operand)(ho:o.op=.store ty x y)(g off:Nat)(t:TypeId)(L b:Gf)(m:a.eval x=.pointer (some (dQ g off)))(n:a.eval y=.agg b.toArray)(j:Gb w g t L)(i:off+b.length<=L.length)(l:(P.info? ty).map (·.size)=some b.length)(e:∀u∈b,u.oneCell'=true)(h:wpList P c Q d (a.put o.dst undef) (w.setRow g (Gq L off b).toArray)):wpList P c Q (o::d) a w:=
 EK k λ_K f=>ZfZ ty x y ho g off t L b m n j i l e (f _ _ h)
theorem Zlg(D:LY):Dd (DI D)=J7 D:=by unfold DI J7 Dd;grind [List.map_flatMap]
theorem take_set{Z:LY}{s:By}(a:D[k]?=some s)(hl:Z.length=D.length):(D.take k++Z.drop k).set k s=D.take (k+1)++Z.drop (k+1):=by
 have hk:=(Ac.1 a).1;have e:D.take (k+1)=D.take k++[s]:=by grind [List.take_add_one]
 rw[e,(A2 Ω),BN _ _ (by rw[AP];omega),AP,show k-min k D.length=0 by omega,Fp,Ar];rfl
def S0(w:World)(D:LY)(e:Ending)(w':World):Prop:=
 ∃db vf a l c,e=dR (.tuple #[dP db,dV true])/\Jg w' db vf (dT a l c) dN dN D/\¬Own (dT a l c) db/\w.heap.size<=db/\(∀k,Own (dT a l c) k->w.heap.size<=k)/\Bw w w'
theorem of_rd(w:World)(g c:Nat)(D:LY)(ab:g<w.heap.size)(L:98304<=c)(y:∀j v,(Dd (DI D))[j]?=some v->w.cell? (dQ g j)=some v)(l:D.length=1536)(h:∀s∈D,s.size=64):
  Cl 75 #[dS g 98304 c] w (S0 w D):=by
 rw[Zlg]at y;obtain⟨i0,ac,af,ag,ao⟩:=Bk Rf;have V:Hid (∀X k s,Bw w X->D[k]?=some s->X.rangeAt g (k*64) (Dd s)):=λX k s o O j v hv=>by have am:=h s (Ai O);have:=U4 h k j s O (by grind [List.getElem?_eq_some_iff,Dh]);rw[hv]at this;exact(o.J ab).M (y _ _ this)
 have E:Hid (∀X,Bw w X->Hg X (dS w.heap.size 1536 1536) D->Cl 134 #[dS w.heap.size 1536 1536] X λe w'=>∃f,e=dR (dP f)/\Hid (S0 w D (dR (.tuple #[dP f,dV true])) w')):=λX o H=>by apply(Zf4 X _ D H l).Q;rintro e w'⟨rfl,ah,p,B,m,q4⟩;have J:=o.size;have ad:=H.1.lt rfl;refine⟨X.heap.size,rfl,X.heap.size,ah,_,_,_,rfl,p,λe=>?_,J,λk hk=>?_,o.M (m.Q J)⟩;grind [Own,Value.ownBlock];grind [Own,Value.ownBlock]
 have P:=Db h;have C:=Db l;have R:=Db L;clear y L h l;go_enter func75,ntmps75;go_wp2_with(at_make;refine Ct _ rfl _ _ 186 rfl 0 188 i0 _ 64 Ti ac af ag _ _ _ _ 1536 rfl rfl rfl rfl Ω (by grind [maxLen]) (Ao _) ?_;intro w1 N M;have F:=Db (And.intro (Sl.a3 N) (QE M));clear N M)
 go_loopw [12] (λi wr=>∃k:Nat,k<=1536/\i=dI k/\Hid (Hg wr (dS w.heap.size 1536 1536) (D.take k++KR.drop k)/\Bw w wr)) (λi _=>1536-(intOf i).toNat)
 case atStart=>
  obtain⟨a,d⟩:=Da F;rw[Zh9 1536,<-Wb]at a;exact⟨0,Ao _,rfl,⟨by rw[Cy,AH,Cs,Ug];exact a,by rw[Cy,AH,Cs];exact ZhI⟩,d⟩
 case round=>
  obtain⟨k,hk,rfl,q⟩:=hrel;by_cases ad:k<1536
  .obtain⟨a,d⟩:=Da q;have l:=Da C;have h:=Da P;obtain⟨s,A⟩:∃s,D[k]?=some s:=Ξ;have z:s.size=64:=Γ;have x:(D.take k++KR.drop k).length=1536:=(by grind [List.length_append,List.length_take,List.length_drop,Ug]);obtain⟨g',c',G,t,n,I,p,B,m⟩:=a.row Ω;rw[x]at t;simp only[BC,CX,FT]at t;obtain⟨⟨e1,_,_⟩,_,e3⟩:=t;subst e1 e3;obtain⟨W,b⟩:∃X,wr.setRow w.heap.size (Gq G (k*64) (Dd s)).toArray=X:=Γ;have K:(Dd s).length=64:=(by rw[Dh,z]);have ai:Hid (Hg W (dS w.heap.size 1536 1536) (D.take (k+1)++KR.drop (k+1))/\Bw w W):=(by have:=Hg.set n I p B m a.2 k s Ω z W (by rw[<-b];exact Bo wr _ _ _ 188 _ n);rw[take_set A (by rw[Ug,l]),x]at this;exact⟨this,d.M ⟨by rw[<-b];rfl,by rw[<-b];rfl,by rw[<-b];rfl,by rw[<-b];simp,by grind [setRow_other]⟩⟩);have U:=Db (Da V wr k s d A);have Z:=Db n;have Y:=Db b;have r:=Db K;have T:=Db m;have an:IntKind.i64.wrap ((k)*64)=((k*64:Nat)):=(by grind [IntKind.wrap_i64]);have ak:(k)<1536:=Ω;have aa:=Da R;have aj:¬c=k*64:=Ω;have al:k*64<=98304:=Ω;clear aa;have ae:Hid (∀u∈Dd s,u.oneCell'=true):=K7 s;clear a d n I p B m x l h z K A b q F E;go_wp2_with(first|(refine Zm5 rfl 188 _ rfl 64 5 Kv _ _ _ rfl Ω ?_)|(refine C4 rfl 188 _ rfl g (k*64) rfl (Dd s) _ (Da U) Kv rfl (by rw[D4,Da r]) ?_)|(refine Sx rfl 188 _ _ rfl w.heap.size (k*64) 188 G (Dd s) rfl rfl (Da Z) (by rw[Da r,Da T];omega) (by rw[D4,Da r]) (Da ae) ?_;rw[Da Y]))
   go_roundw
   case rel=>grind
   case measure=>grind [intOf]
  .obtain rfl:k=1536:=Ω;have Q:Hid (Cl 134 #[dS w.heap.size 1536 1536] wr λe w'=>∃f,e=dR (dP f)/\Hid (S0 w D (dR (.tuple #[dP f,dV true])) w')):=(by obtain⟨a,d⟩:=Da q;rw[Ak (CV (Da C)),EF (CV Ug),Ca]at a;exact Da E wr d a);go_wp2_with(go_at_call 134;apply(Da Q).Q;rintro e w'⟨f,rfl,S⟩);exact Am (by simp_all[results,results75]) rfl (Da S)
theorem NC(w:World)(vb tb d a:Nat)(h:Hd w vb tb d a)(Q:World->Prop)(f:∀w',Q w'->Hd w' vb tb d a)(g:Cl 74 #[dP a,dP tb] w.drew λe w'=>e=dR (.tuple #[])/\Q w'):
  Cl 26 #[dP vb] w λe w'=>e=dR (dI 0)/\Q w':=by
 have k:=Kx w vb tb h.ai;have c1:w.cell? (dQ vb 1)=some (dP tb):=(Gb.J h 1).M rfl;have c3:w.cell? (dQ vb 3)=some (dP a):=(Gb.J h 3).M rfl;have i:=Db g;have c:=Db f;clear h g f;go_enter func26,ntmps26;go_upto_region 3 with(go_at_call 53;apply k.Q;rintro e w'⟨rfl,rfl⟩)
 go_region_held3 (λW=>W.cell? (dQ vb 1)=some (dP tb)/\W.cell? (dQ vb 3)=some (dP a)) (go_keep) (first|(go_at_call 74;apply(Da i).Q;rintro e w2⟨rfl,b⟩;have d1:w2.cell? (dQ vb 1)=some (dP tb):=(Gb.J (Da c w2 b) 1).M rfl;have d3:w2.cell? (dQ vb 3)=some (dP a):=(Gb.J (Da c w2 b) 3).M rfl;have j:=Db b))
 go_wp2;go_ret;exact⟨rfl,Da j⟩
theorem NY(w:World)(a:OA)(l c:Nat)(Q:World->Nat->Prop)(m:Cl 75 #[dT a l c] w λe X=>∃b:Nat,e=dR (.tuple #[dP b,dV true])/\Hid (Cl 76 #[dP b] X λe Y=>∃d tb:Nat,e=dR (.tuple #[dP d,dP tb,dV true])/\Hid (∀Z,Hd Z Y.heap.size tb b d->Bw Y Z->Q Z Y.heap.size))):
  Cl 27 #[dT a l c] w λe w'=>∃vb,e=dR (.tuple #[dP vb,dI 0])/\Q w' vb:=by
 have h:=Db m;go_enter func27,ntmps27;go_wp2_with(first|(apply(Da h).Q;rintro e X⟨b,rfl,f⟩)|(apply(Da f).Q;rintro e Y⟨d,tb,rfl,g⟩)|(apply(ZeE Y tb b d).Q;rintro e Z⟨rfl,j,k,-⟩;have i:=Db (Da g Z j k)));exact Am (v:=.tuple #[dP Y.heap.size,dI 0]) (by simp_all[results,results27]) rfl ⟨_,rfl,Da i⟩
section
variable{w w':World}{stb db:Nat}{vk:Value}{s:KS}{vf vn vw ve:Value}{ps:LB}{ep:List Int}
theorem H0.types(h:H0 w stb db vk s vf vn vw ve ps ep)(f:Hn stb db vn vw ve k){t:TypeId}{R:Gf}(c:Gb w k t R):t=179\/t=204\/t=188\/t=207\/t=3:=by rcases f with rfl|rfl|e|e|e;exact .inl (c.type h.st.row);exact .inr (.inl (c.type h.st.a2.1));obtain⟨d,a⟩:=h.st.a2.2.1.1.type e;exact .inr (.inr (.inl (c.type a)));obtain⟨d,a⟩:=Sl.type h.st.sw e;exact .inr (.inr (.inr (.inl (c.type a))));obtain⟨d,a⟩:=h.st.se.type e;exact .inr (.inr (.inr (.inr (c.type a))))
end
def StI(N n0:Nat)(w:World)(vb stb db:Nat)(K:KS->Prop):Prop:=
 ∃s vk vf vn vw ve ps ep,H0 w stb db vk s vf vn vw ve ps ep/\K s/\Gy s/\Hp s/\s.tn<=N+1/\ps.length<=256*N/\ep.length<=2*N/\(∀k,Hn stb db vn vw ve k->n0<=k/\k≠vb)/\∀k,Own vk k->n0<=k
theorem OS{n0:Nat}{w0 w':World}(h:Below n0 w0 w){X:Nat->Prop}(a:Fr X w w')(hX:∀k,X k->n0<=k)(hn:n0<=w0.heap.size):Below n0 w0 w':=
 ⟨a.os.M h.os,a.tape.M h.tape,a.output.M h.output,Ae h.size a.size,λk c=>(a.block k (by have:=h.size;omega) Γ).M (h.block k c)⟩
section
variable{N n0:Nat}{w0 w w':World}{vb tb db stb:Nat}{b b':Nat->Option By}{K:KS->Prop}
end
def GY(ep:List Int)(n:Nat)(e:Int):Nat:=if e<0 then 0 else match ep[e.toNat]? with|some x=>x.toNat|none=>n
def Hc(ep:List Int)(n:Nat)(e:Int):Nat:=if e<=0 then 0 else GY ep n (e-1)
theorem T8(w:World)(d:Nat)(p f:OA)(b q le h:Nat)(ep:List Int)(hp:w.cell? (dQ d 2)=some (dT p b q))(he:w.cell? (dQ d 3)=some (dT f le h))(c:Sl w 3 1 (dT f le h) ep.length (ep.map (.int .i64)))(n:∀x∈ep,0<=x)(e:Int)(l:e<9223372036854775808):
  Cl 142 #[dP d,dI e] w λr w'=>r=dR (dI (GY ep b e:Nat))/\w'=w:=by
 have m:le=ep.length:=c.len;by_cases s:e<0
 .have a:GY ep b e=0:=by simp_all[GY,if_pos]
  rw[a];go_enter func142,ntmps142;go_wp2;go_ret;simp_all
 .obtain⟨k,rfl⟩:∃k:Nat,e=(k:Int):=⟨e.toNat,Ω⟩;by_cases i:k<le
  .obtain⟨x,o⟩:∃x,ep[k]?=some x:=Ξ;have a:((GY ep b k:Nat):Int)=x:=(by unfold GY;rw[if_neg s,Bf,o];grind [Int.toNat_of_nonneg,List.mem_of_getElem?]);rw[a];rcases c.2 with⟨_,hz⟩|⟨g,aa,L,eq,j,u,v,y,z⟩;omega;simp only[BC]at eq;obtain⟨rfl,_,rfl⟩:=eq;have hc:w.cell? (dQ g k)=some (dI x):=(by rw[j.J];have:(L.take (ep.length*1))[k]?=some (dI x):=Ξ;grind);have t:(k:Int)<(le:Int):=Ω;clear c j u v y z n a o m l i;go_enter func142,ntmps142;go_wp2;go_ret;simp_all
  .have a:GY ep b k=b:=(by simp_all[GY,if_neg,Int.toNat_natCast,List.getElem?_eq_none]);rw[a];have t:¬(k:Int)<(le:Int):=Ω;clear c n a m l i;go_enter func142,ntmps142;go_wp2;go_ret;simp_all
theorem ZhR(w:World)(b:Nat)(g d:OA)(a h le f:Nat)(ep:List Int)(l:w.cell? (dQ b 2)=some (dT g a h))(j:w.cell? (dQ b 3)=some (dT d le f))(i:Sl w 3 1 (dT d le f) ep.length (ep.map (.int .i64)))(k:∀x∈ep,0<=x)(e:Int)(aa:e<9223372036854775808):
  Cl 140 #[dP b,dI e] w λr w'=>r=dR (dI (Hc ep a e:Nat))/\w'=w:=by
 by_cases h0:e<=0
 .have c:Hc ep a e=0:=by simp_all[Hc,if_pos]
  rw[c];go_enter func140,ntmps140;go_wp2;go_ret;simp_all
 .have c:Hc ep a e=GY ep a (e-1):=by simp_all[Hc,if_neg]
  rw[c];have m:=Db (T8 w b g d a h le f ep l j i k (e-1) Ω);have hw:IntKind.i64.wrap (e-1)=e-1:=by grind [IntKind.wrap_i64]
  clear i k c l j;go_enter func140,ntmps140;go_wp2_with(go_at_call 142;apply(Da m).Q);go_ret;simp_all
def Jb(st:Nat)(lost:List Bool)(k:Nat):Bool:=decide (st<=k) && (lost[k-st]?).getD false
def DD(F:LY)(ps:LB)(st:Nat)(lost:List Bool):Nat->LY
 |0=>F
 |k+1=>if Jb st lost k=true then DD F ps st lost k else match ps[k]? with
  |some x=>(DD F ps st lost k).set x.1 x.2
  |none=>DD F ps st lost k
theorem Ue(F:LY)(b:LB)(st:Nat)(a:List Bool):∀k,(DD F b st a k).length=F.length
 |0=>rfl
 |k+1=>by unfold DD;split;exact Ue F b st a k;split;rw[B9];exact Ue F b st a k;exact Ue F b st a k
def Lu(w:World)(a:OA)(xs:List Bool):Prop:=∀(j:Nat) (v:Bool),xs[j]?=some v->∃g f,a=some (dQ g f)/\w.cell? (dQ g (f+j))=some (dV v)
theorem UX{b:LB}{st:Nat}{a:List Bool}(h:Jb st a k=true):DD F b st a (k+1)=DD F b st a k:=by show(if Jb st a k=true then _ else _)=_;grind
theorem Uy{b:LB}{st:Nat}{a:List Bool}(h:Jb st a k=false){x:Nat×By}(hx:b[k]?=some x):DD F b st a (k+1)=(DD F b st a k).set x.1 x.2:=by show(if Jb st a k=true then _ else _)=_;simp_all
theorem ZlC(w:World)(c:Nat)(vf vn vw ve:Value)(D F:LY)(l:LB)(ep:List Int)(h:Jg w c vf vn vw ve D)(hF:Hg w vf F)(aF:F.length=1536)(S:Iq w vw l)(aL:∀x∈l,x.1<1536/\x.2.size=64)(aX:l.length<=1000000000000)(hE:Sl w 3 1 ve ep.length (ep.map (.int .i64)))(ai:∀x∈ep,0<=x/\x<=l.length)(e:Int)(he:e<9223372036854775808)(al:OA)(cl:Nat)(a:List Bool)(aK:Lu w al a)(aW:a.length<=1000000000000):
  Cl 80 #[dP c,dI e,dT al a.length cl] w (GF w (DD F l (Hc ep l.length e) a (GY ep l.length e))):=by
 obtain⟨R,t,H,rfl⟩:=S.a0;obtain⟨ae,le,ce,rfl⟩:=hE.a0;obtain⟨af,lf,cf,rfl⟩:=hF.1.a0;have U:t=l.length:=Sl.len S;have ba:t<=H:=by rcases S.2 with⟨q,hz⟩|⟨g,a4,L,q,_,Z,_⟩;simp only[BC]at q;omega;simp only[BC]at q;omega
 have c0:w.cell? (dQ c 0)=some (dT af lf cf):=(h.1.J 0).M rfl;have c2:w.cell? (dQ c 2)=some (dT R t H):=(h.1.J 2).M rfl;have c3:w.cell? (dQ c 3)=some (dT ae le ce):=(h.1.J 3).M rfl;have P:=h.1.lt;rw[<-U];obtain⟨b,ax⟩:=ex (Hc ep t e);obtain⟨N,hN⟩:=ex (GY ep t e);have HS:Hid (∀X,Bw w X->Cl 140 #[dP c,dI e] X λr w'=>r=dR (dI (b:Nat))/\w'=X):=λX A=>by rw[ax];exact ZhR X c R ae t H le ce ep ((A.J (p:=dQ c 2) P).M c2) ((A.J (p:=dQ c 3) P).M c3) (hE.kept (λk B _=>A.block k B)) (λx o=>(ai x o).1) e he
 have HN:Hid (∀X,Bw w X->Cl 142 #[dP c,dI e] X λr w'=>r=dR (dI (N:Nat))/\w'=X):=λX A=>by rw[hN];exact T8 X c R ae t H le ce ep ((A.J (p:=dQ c 2) P).M c2) ((A.J (p:=dQ c 3) P).M c3) (hE.kept (λk B _=>A.block k B)) (λx o=>(ai x o).1) e he
 have a8:N<=t:=by rw[hN];unfold GY;split;omega;split;rename_i x o;have:=ai x (Ai o);omega;omega
 rw[<-ax,<-hN];have HC:=Db (Zhi w (dT af lf cf) F hF Ω Ω);have HD:Hid (∀X,Bw w X->X.cell? (dQ c 2)=some (dT R t H)):=λX A=>(A.J (p:=dQ c 2) P).M c2;have K:=Db S;have ac:=Db aL;have aQ:=Db U;have ak:=Db aK;have aa:=Db aF;obtain⟨ll,aA⟩:=ex a.length;rw[<-aA];have aE:=Db aA;have bd:ll<=1000000000000:=Ω;have be:t<=1000000000000:=Ω;clear h hF S hE ai ax hN c2 c3 aL U aX aF aK aA aW;have a2:Bw w w:=Ad _ _;go_enter func80,ntmps80;go_upto_region 3 with(first|(go_at_call 140;apply(Da HS _ a2).Q;rintro r w'⟨rfl,V⟩;rw[V];clear V)|(go_at_call 141;apply(Da HC).Q;rintro r X⟨a1,l1,M,rfl,aG,T,aH⟩;have ad:=Db aG;have aw:=Db aH;clear aG aH));have d2:=Da HD X T;clear c0 HS HC;have a7:(N:Int)<=(t:Int):=Ω;have a6:N<=H:=Ω;go_region_held3 (λW=>W.cell? (dQ c 2)=some (dT R t H)) (go_keep) (first|(go_at_call 142;apply(Da HN _ (by first|exact T|exact T.drew)).Q;rintro r w'⟨rfl,V⟩;rw[V];clear V))
 clear d2 HN HD;have aT:=Db T;clear T P;obtain⟨dd,a0,aY⟩:=P3;go_wp2
 go_loopw [28] (λi wr=>∃k:Nat,k<=N/\i=dI k/\Hid (Hg wr (dT a1 l1 M) (DD F l b a k)/\Bw w wr)) (λi _=>N-(intOf i).toNat)
 case atStart=>exact⟨0,Ao _,rfl,⟨(Da ad).1.kept (λk B _=>rfl),(Da ad).2⟩,(Da aT).drew⟩
 case round=>
  obtain⟨k,B,rfl,HI⟩:=hrel;by_cases bf:k<N
  .obtain⟨Y,G⟩:=Da HI;have U:=Da aQ;obtain⟨⟨p,s⟩,o⟩:∃x,l[k]?=some x:=⟨_,Ab Ω⟩;obtain⟨aC,aj⟩:=Da ac _ (Ai o);have I:(DD F l b a k).length=1536:=(by rw[Ue];exact Da aa);obtain⟨gp,rfl,_,aN⟩:=Iq.range (Sl.kept (Da K) (λk B _=>G.block k B)) (λx o=>(Da ac x o).2) k _ o;obtain⟨W,hW,xW,kW,sW,bW⟩:=Df wr (Gz 0 (Dj 64)) 207;obtain⟨m,ah⟩:∃X,W.setRow wr.heap.size (Gz p s).toArray=X:=⟨_,rfl⟩;have aD:Gb m wr.heap.size 207 (Gz p s):=(by rw[<-ah];exact Bo W _ _ _ 207 _ xW);have az:Bw wr m:=(by rw[<-ah];exact bW.M ⟨rfl,rfl,rfl,Θ,λj hj=>Bc W _ j _ Ω⟩);have o3:Hg m (dT a1 l1 M) (DD F l b a k):=⟨Y.1.kept (λk B _=>az.block k B),Y.2⟩;have o4:Bw w m:=G.M (az.Q G.size);obtain⟨z,c',Q,e',ag,ay,Z,q2,q3⟩:=o3.row Ω;rw[I]at e' ay;simp only[BC]at e';obtain⟨rfl,rfl,rfl⟩:=e';have bb:w.heap.size<=z:=Da aw z rfl;have aI:(Gz p s).length=65:=(by rw[KD,aj]);have aJ:(Dd s).length=64:=(by rw[Dh,aj]);have a5:m.cell? (dQ wr.heap.size 0)=some (dI p):=(aD.J 0).M rfl;have aq:Hid (m.rangeAt wr.heap.size 1 (Dd s)):=λj v C=>by rw[aD.J];show(Gz p s)[1+j]? = _;rw[C9];exact C
   have aP:Hid (Jb b a k=true->Hg m (dS z 1536 M) (DD F l b a (k+1))/\Bw w m):=λq=>by rw[UX q];exact⟨o3,o4⟩
   obtain⟨W3,E⟩:∃X,m.setRow z (Gq Q (p*64) (Dd s)).toArray=X:=⟨_,rfl⟩;have au:Hid (Jb b a k=false->Hg W3 (dS z 1536 M) (DD F l b a (k+1))/\Bw w W3):=λq=>by have a3:Gb W3 z 188 (Gq Q (p*64) (Dd s)):=(by rw[<-E];exact Bo m _ _ _ 188 _ ag);have:=Hg.set ag (by rw[I];exact ay) Z q2 q3 o3.2 p s (by rw[I];exact aC) aj W3 a3;rw[Uy q o];rw[I]at this;exact⟨this,o4.M ⟨by rw[<-E];rfl,by rw[<-E];rfl,by rw[<-E];rfl,by rw[<-E];simp,λj hj=>by rw[<-E];exact Bc m _ j _ Ω⟩⟩
   have ab:Hid (∀d v,a[d]?=some v->∃g f,al=some (dQ g f)/\m.cell? (dQ g (f+d))=some (dV v)):=λd v C=>by obtain⟨g,f,h1,h2⟩:=Da ak d v C;exact⟨g,f,h1,(o4.J (p:=(dQ g (f+d))) (Ag _ _ h2)).M h2⟩
   have HR:=Db aN;have HW:=Db hW;have HX:=Db xW;have aS:=Db ah;have av:=Db E;have HL:=Db aI;have y:=Db aJ;have ar:=Db ag;have ao:=Db q3;have aB:Hid (∀u∈Dd s,u.oneCell'=true):=K7 s;have bc:(k:Int)<(N:Int):=Ω;have bg:(p:Int)<1536:=Ω;have aM:1536<=M:=(by rw[I]at Z;exact Z);have an:=Db aM;have am:=Db aC;clear Y G o3 o4 o aj aN hW xW kW sW bW ah aD az ag ay Z q2 q3 I aI aJ E HI ad aw K ac ak aa aM U aC;go_upto_region 6 with(first|(refine C4 rfl 207 _ rfl gp (k*65) rfl (Gz p s) _ (Da HR) a0 aY (by rw[Q5,Da HL]) ?_)|(refine JG rfl 207 rfl Re ?_;rw[show wr.alloc (.cells (Gz 0 (Dj 64)).toArray 207)=W from Da HW])|(refine Bh rfl 207 _ _ rfl wr.heap.size (Gz p s).toArray rfl rfl 207 _ (Da HX) (by rw[Q5];simp[Da HL]) (by simp[Da HL,KD,JA]) (CH (Rh _ _)) ?_;rw[Da aS]));by_cases aO:b<=k
   .obtain⟨d,O⟩:∃d,k-b=d:=⟨_,rfl⟩;have bh:IntKind.i64.wrap ((k:Int)-(b:Int))=(d:Int):=(by rw[AI];omega);have aZ:(b:Int)<=(k:Int):=Ω;by_cases aV:d<ll
    .obtain⟨v,C⟩:∃v,a[d]?=some v:=⟨_,Ab (by rw[<-Da aE];exact aV)⟩;obtain⟨gl,fl,rfl,a9⟩:=Da ab d v C;have aU:(d:Int)<(ll:Int):=Ω;clear ab;cases v with
     |false=>
      have J:Jb b a k=false:=(by unfold Jb;rw[O,C];simp);clear C O;go_wp2_with(first|(refine C4 rfl 188 _ rfl wr.heap.size 1 rfl (Dd s) _ (Da aq) Kv rfl (by rw[D4,Da y]) ?_)|(refine Sx rfl 188 _ _ rfl z (p*64) 188 Q (Dd s) rfl rfl (Da ar) (by rw[Da y,Da ao];have:=Da an;have:=Da am;omega) (by rw[D4,Da y]) (Da aB) ?_;rw[Da av]))
      go_roundw
      case rel=>exact⟨_,_,dI ((k+1:Nat):Int),⟨k+1,Ω,rfl,Da au J⟩,rfl,rfl,by go_num⟩
      case measure=>simp[intOf];omega
     |true=>
      have J:Jb b a k=true:=(by unfold Jb;rw[O,C];simp[aO]);clear C O;go_wp2
      go_roundw
      case rel=>exact⟨_,_,dI ((k+1:Nat):Int),⟨k+1,Ω,rfl,Da aP J⟩,rfl,rfl,by go_num⟩
      case measure=>simp[intOf];omega
    .have J:Jb b a k=false:=(by unfold Jb;rw[O,Bp (by rw[<-Da aE];omega)];simp);have aU:¬(d:Int)<(ll:Int):=Ω;clear O ab;go_wp2_with(first|(refine C4 rfl 188 _ rfl wr.heap.size 1 rfl (Dd s) _ (Da aq) Kv rfl (by rw[D4,Da y]) ?_)|(refine Sx rfl 188 _ _ rfl z (p*64) 188 Q (Dd s) rfl rfl (Da ar) (by rw[Da y,Da ao];have:=Da an;have:=Da am;omega) (by rw[D4,Da y]) (Da aB) ?_;rw[Da av]))
     go_roundw
     case rel=>exact⟨_,_,dI ((k+1:Nat):Int),⟨k+1,Ω,rfl,Da au J⟩,rfl,rfl,by go_num⟩
     case measure=>simp[intOf];omega
   .have J:Jb b a k=false:=(by unfold Jb;simp[aO]);have aZ:¬(b:Int)<=(k:Int):=Ω;clear ab;go_wp2_with(first|(refine C4 rfl 188 _ rfl wr.heap.size 1 rfl (Dd s) _ (Da aq) Kv rfl (by rw[D4,Da y]) ?_)|(refine Sx rfl 188 _ _ rfl z (p*64) 188 Q (Dd s) rfl rfl (Da ar) (by rw[Da y,Da ao];have:=Da an;have:=Da am;omega) (by rw[D4,Da y]) (Da aB) ?_;rw[Da av]))
    go_roundw
    case rel=>exact⟨_,_,dI ((k+1:Nat):Int),⟨k+1,Ω,rfl,Da au J⟩,rfl,rfl,by go_num⟩
    case measure=>simp[intOf];omega
  .obtain rfl:k=N:=Ω;have HJ:Hid (Cl 139 #[dT a1 l1 M] wr (GF w (DD F l b a k))):=(by obtain⟨Y,G⟩:=Da HI;have I:(DD F l b a k).length=1536:=(by rw[Ue];exact Da aa);apply(ZgY wr _ _ Y Ω Ω).Q;rintro e w'⟨a',l',c',rfl,r1,r2⟩;exact⟨a',l',c',rfl,⟨r1.1,λg hg=>Ae G.size (r1.2 g hg)⟩,G.M (r2.Q G.size)⟩);clear HI ad aw K ac ak aa;go_wp2_with(go_at_call 139;apply(Da HJ).Q;rintro e w'⟨a',l',c',rfl,K⟩;have aR:=Db K;clear K);go_ret;exact⟨a',l',c',rfl,Da aR⟩
section
variable{N n0:Nat}{w0 w w':World}{vb tb db stb:Nat}{b b':Nat->Option By}{K:KS->Prop}
end

def Oa(s:KS)(D:LY):KS:=⟨s.es,s.tp,s.tx,s.tn,D⟩
theorem Gy.a2(h:Gy s)(a:D.length=1536):Gy (Oa s D):=
 ⟨⟨h.ok.ak,h.ok.len,h.ok.tp,a,h.ok.pl⟩,h.hp,h.inj,h.ic,h.e,h.lo,h.tp⟩
theorem Hp.a2(h:Hp s)(a:∀i,i<2->D[i]?=s.D[i]?):Hp (Oa s D):=by obtain⟨p,x,b,c,ho⟩:=h.hz;exact⟨h.tx,h.tn,(a _ Ω).M h.aq,p,x,b,c,(a _ Ω).M ho⟩
section
variable{F:LY}{ps:LB}{st:Nat}{lost:List Bool}
theorem Ud:∀k,k<=st->k<=ps.length->DD F ps st lost k=Jd F (ps.take k)
 |0,_,_=>by rfl
 |k+1,h,hl=>by obtain⟨⟨p,x⟩,a⟩:∃x,ps[k]?=some x:=⟨_,Ab Ω⟩;rw[Uy (by unfold Jb;simp;omega) a,Ud k Ω Ω,Br,a];exact(VG F (ps.take k) p x).r
theorem O3{b:LB}:∀k,k<=ps.length->DD F (ps++b) st lost k=DD F ps st lost k
 |0,_=>rfl
 |k+1,h=>by
  obtain⟨x,a⟩:∃x,ps[k]?=some x:=⟨_,Ab Ω⟩;have c:(ps++b)[k]?=some x:=by rw[Ap Ω];exact a
  cases hl:Jb st lost k with
  |true=>rw[UX hl,UX hl];exact O3 k Ω
  |false=>rw[Uy hl c,Uy hl a,O3 k Ω]
theorem RN{p m:Nat}(a:∀i x,m<=i->ps[i]?=some x->x.1≠p):∀k,m<=k->(DD F ps st lost k)[p]?=(DD F ps st lost m)[p]?
 |0,h=>by rw[show m=0 by omega]
 |k+1,h=>by rcases AD k m with e|e;rw[show m=k+1 by omega];show(if Jb st lost k=true then _ else _)[p]? = _;split;exact RN a k e;split;rename_i x b;rw[A3 (a k x e b)];exact RN a k e;exact RN a k e
theorem Rb(a:∀x∈F,x.size=64)(b:∀x∈ps,x.2.size=64):∀k,∀x∈DD F ps st lost k,x.size=64
 |0=>a
 |k+1=>by show ∀x∈(if Jb st lost k=true then _ else _:LY),x.size=64;split;exact Rb a b k;split;rename_i y c;exact ZS (Rb a b k) _ _ (b y (Ai c));exact Rb a b k
end
structure At(en:List Nat)(e j:Nat):Prop where
 lt:j<en.length
 lo:∀i x,i+1=j->en[i]?=some x->x<=e
 hi:∀i x,j<=i->i+1<en.length->en[i]?=some x->e<x
theorem UR(ep:List Int)(n e:Nat):GY ep n (e:Int)=match ep[e]? with|some x=>x.toNat|none=>n:=by rfl
theorem YT(ep:List Int)(n:Nat):Hc ep n ((0:Nat):Int)=0:=rfl
theorem Uf(ep:List Int)(n e:Nat):Hc ep n ((e+1:Nat):Int)=GY ep n (e:Int):=by simp_all[Hc,if_neg]
theorem To{q:List Int}(h:e<ep.length):GY (ep++q) a (e:Int)=GY ep n (e:Int):=by grind [UR,List.getElem?_append_left,List.getElem?_eq_getElem]
theorem XH{q:List Int}:∀{e:Nat},e<=ep.length->Hc (ep++q) a (e:Int)=Hc ep n (e:Int)
 |0,_=>by rw[YT,YT]
 |e+1,h=>by grind [Uf,To]
theorem OD{q:List Int}:GY (ep++((m:Nat):Int)::q) n (ep.length:Int)=m:=by simp_all[UR,Nat.sub_self,Int.toNat_natCast]
theorem Uv(ep:List Int)(n:Nat):GY ep n (ep.length:Int)=n:=by rw[UR,Bp (Aa _)]
theorem At.new{j:Nat}(h:At (en++[m]) e j):j=en.length\/At en e j/\∀x,en[en.length-1]?=some x->e<x:=by have d:=h.lt;rw[Ah,BA]at d;rcases AD j en.length with b|b;refine .inr ⟨⟨b,λi x a c=>h.lo i x a Γ,λi x a aa c=>h.hi i x a Γ Γ⟩,λx c=>?_⟩;refine h.hi (en.length-1) x Ω Γ ?_;grind;omega
theorem At.ci{x:Nat}(h:At (en++[m]) e en.length)(a:en[en.length-1]?=some x):x<=e:=by have:=(Ac.1 a).1;exact h.lo (en.length-1) x Ω Γ
theorem Z3(D:LY)(a b:LB):Jd D (a++b)=Jd (Jd D a) b:=by unfold Jd;rw[List.foldl_append]
section
variable{T T':Nat}{F:LY}{ps:LB}{ep:List Int}{s s':KS}{kb:List (Nat->Option By)}{en:List Nat}{b':Nat->Option By}
end
def cx(C:NB)(x:It):By:=if x.k=2 then C x.f else⟨#[]⟩
def KX(E:Ge)(C:NB)(last:By)(x:It):By:=
 D2 last (jn x.ns) x.k++DO last (jn x.ns)++(if x.k=1 then⟨#[]⟩ else if x.k=3 then⟨#[UInt8.ofNat x.f]⟩ else⟨#[UInt8.ofNat x.f]⟩++Ju (C x.f).size 2++⟨(Ja (λk=>Ji (Gu E (De 4 x.f k)) (Dr (GN (C x.f) k))) (GE (C x.f))).toArray⟩)
def Jj(E:Ge)(C:NB):By->List It->By
 |_,[]=>⟨#[]⟩
 |last,x::xs=>KX E C last x++Jj E C (jn x.ns) xs
theorem ZpF{a:By}(b:x.k=1\/x.k=2\/x.k=3)(h:(Dv E C a st x).2.ps.length<=st.ps.length):
  (Dv E C a st x).1=KX E C a x/\(Dv E C a st x).2.ps=st.ps/\(∀k,k<GE (cx C x)->E.at (De 4 x.f k)=some (Gu E (De 4 x.f k))/\E.D[Gu E (De 4 x.f k)]?=some (GN (cx C x) k))/\
  (Dv E C a st x).2.U=st.U++(List.range (GE (cx C x))).map (λk=>(De 4 x.f k,Gu E (De 4 x.f k))):=by
 unfold Dv at h ⊢;have n0:GE ⟨#[]⟩=0:=rfl;rcases b with e|e|e;grind [KX,cx,UJ];rw[if_neg Ω,if_neg Ω]at h ⊢;obtain⟨p1,p2,p3,p4⟩:=Ge.be _ h;have eb:Kf E x.f (C x.f) st 0 (List.range (GE (C x.f)))=⟨(Ja (λk=>Ji (Gu E (De 4 x.f k)) (Dr (GN (C x.f) k))) (GE (C x.f))).toArray⟩:=by grind [K5,T4,Ve]
 simp_all[cx,KX,JS];grind [KX,cx]
theorem ZhO(E:Ge)(C:NB):∀(last:By) (st:Pl) (L:List It),(∀x∈L,x.k=1\/x.k=2\/x.k=3)->(Dq E C last st L).2.ps.length<=st.ps.length->
  (Dq E C last st L).1=Jj E C last L/\(Dq E C last st L).2.ps=st.ps/\(∀x∈L,∀k,k<GE (cx C x)->E.at (De 4 x.f k)=some (Gu E (De 4 x.f k))/\E.D[Gu E (De 4 x.f k)]?=some (GN (cx C x) k))/\
  ∀y,y∈(Dq E C last st L).2.U↔y∈st.U\/∃x∈L,∃k,k<GE (cx C x)/\y=(De 4 x.f k,Gu E (De 4 x.f k))
 |last,st,[],_,_=>⟨rfl,rfl,by grind,λy=>⟨.inl,λe=>e.elim id (by grind)⟩⟩
 |last,st,x::xs,hk,h=>by have f:(Dq E C (jn x.ns) (Dv E C last st x).2 xs).2.ps.length<=st.ps.length:=h;have m2:=Zhf E C last st x;obtain⟨d,c,m,e4⟩:=ZpF (hk x Θ) (Ae (ZgH E C (jn x.ns) (Dv E C last st x).2 xs) f);obtain⟨g,i,j,l⟩:=ZhO E C (jn x.ns) (Dv E C last st x).2 xs Γ Ω;refine⟨?_,?_,λy a k b=>?_,λy=>?_⟩;show(Dv E C last st x).1++(Dq E C (jn x.ns) (Dv E C last st x).2 xs).1=_;rw[d,g];rfl;show(Dq E C (jn x.ns) (Dv E C last st x).2 xs).2.ps=_;rw[i,c];rcases AM.1 a with rfl|a;exact m k b;exact j y a k b;refine(l y).M ?_;grind
structure Mv(s:KS)(C:NB)(L:List It)(t:By)(B:Nat):Prop where
 bc:Rows s.D (G9 (Do s.es false s.tp s.D) t) (nR (Do s.es false s.tp s.D) t) (λb k=>Gu (Do s.es false s.tp s.D) (Dz b k)) (λb k=>Dr (Dy (IQ b) (G9 (Do s.es false s.tp s.D) t b) (Ij b) k)) B
 ad:t=Jj (Do s.es false s.tp s.D) C ⟨#[]⟩ L++⟨#[0]⟩
 av:∀x∈L,∀k,k<GE (cx C x)->16<=Gu (Do s.es false s.tp s.D) (De 4 x.f k)/\Gu (Do s.es false s.tp s.D) (De 4 x.f k)<1536/\s.D[Gu (Do s.es false s.tp s.D) (De 4 x.f k)]?=some (GN (cx C x) k)
 es:∀x,x∈s.es↔(∃z∈L,∃k,k<GE (cx C z)/\x=(((De 4 z.f k:Nat):Int),((Gu (Do s.es false s.tp s.D) (De 4 z.f k):Nat):Int)))\/∃b k,b<=B/\k<nR (Do s.es false s.tp s.D) t b/\x=(((Dz b k:Nat):Int),((Gu (Do s.es false s.tp s.D) (Dz b k):Nat):Int))
 tp:s.tp=Gu (Do s.es false s.tp s.D) (Dz B 0)
 tx:s.tx=Dr (Dy (IQ B) (G9 (Do s.es false s.tp s.D) t B) (Ij B) 0)
 ts:t.size<=30601
structure Pq(s:KS)(C:NB)(L:List It)(t:By)(B:Nat):Prop where
 bc:Rows s.D (G9 (Do s.es false s.tp s.D) t) (nR (Do s.es false s.tp s.D) t) (λb k=>Gu (Do s.es false s.tp s.D) (Dz b k)) (λb k=>Dr (Dy (IQ b) (G9 (Do s.es false s.tp s.D) t b) (Ij b) k)) B
 ad:t=Jj (Do s.es false s.tp s.D) C ⟨#[]⟩ L++⟨#[0]⟩
 av:∀x∈L,∀k,k<GE (cx C x)->(Do s.es false s.tp s.D).at (De 4 x.f k)=some (Gu (Do s.es false s.tp s.D) (De 4 x.f k))/\16<=Gu (Do s.es false s.tp s.D) (De 4 x.f k)/\Gu (Do s.es false s.tp s.D) (De 4 x.f k)<1536/\s.D[Gu (Do s.es false s.tp s.D) (De 4 x.f k)]?=some (GN (cx C x) k)
 on:∀b,b<=B->PL (Do s.es false s.tp s.D) t b
 U:∀y,y∈(Dn s false C L).2.U↔(∃z∈L,∃k,k<GE (cx C z)/\y=(De 4 z.f k,Gu (Do s.es false s.tp s.D) (De 4 z.f k)))\/∃b k,b<=B/\k<nR (Do s.es false s.tp s.D) t b/\y=(Dz b k,Gu (Do s.es false s.tp s.D) (Dz b k))
 tp:GK (Dn s false C L).1=Gu (Do s.es false s.tp s.D) (Dz B 0)
 tx:GQ (Dn s false C L).1=Dr (Dy (IQ B) (G9 (Do s.es false s.tp s.D) t B) (Ij B) 0)
 ts:t.size<=30601
 mn:∀b,b<B->1<nR (Do s.es false s.tp s.D) t b
theorem StaysG.on(o:My s)(l:GV C L)(w:(Dn s false C L).2.ps=[]):∃t B,Pq s C L t B:=by
 obtain⟨E,g⟩:=ex (Do s.es false s.tp s.D);have j:=o.ok.bk false;have al:=o.ok.tp;rw[<-g]at j;obtain⟨T,v⟩:=ex (Dq E C ⟨#[]⟩ ⟨s.tp+1,[],[]⟩ L);obtain⟨t1,t2,t3,t4,t5⟩:=UO E C ⟨#[]⟩ ⟨s.tp+1,[],[]⟩ L (λz A=>⟨l.c7 z A,l.size z A,l.a8 z A⟩);rw[<-v]at t1 t2 t3 t4 t5;have ad:=l.len;obtain⟨t,x⟩:∃t:By,t=T.1++⟨#[0]⟩:=Γ;have am:t.size=T.1.size+1:=by rw[x];exact Aj
 obtain⟨R,u⟩:=ex (DG E 3 63 0 T.2 t);have p:Dn s false C L=DU E 8 1 R.2 R.1:=by rw[u,x,v,g];rfl
 rw[p]at w;have m1:=Zv E 8 1 R.2 R.1;rw[w,AR]at m1;have m2:=Ge.al E (De (3:UInt8).toNat 0) (Dy 3 t 63) T.2 0 (List.range ((t.size+63-1)/63));have G:R.2=E.U (De (3:UInt8).toNat 0) (Dy 3 t 63) T.2 0 (List.range ((t.size+63-1)/63)):=by rw[u];rfl
 rw[<-G]at m2;obtain⟨p1,p2,p3,p4⟩:=Ge.be (E:=E) (R:=De (3:UInt8).toNat 0) (B:=Dy 3 t 63) (st:=T.2) ((t.size+63-1)/63) Ξ;have ab:T.2.ps.length<=0:=Ω;obtain⟨J,Z,i3,K⟩:=ZhO E C ⟨#[]⟩ ⟨s.tp+1,[],[]⟩ L l.a8 Ξ;rw[<-v]at J Z K;have aj:∀k,De (3:UInt8).toNat 0 k=Dz 0 k:=λk=>rfl;have af:nR E t 0=(t.size+63-1)/63:=rfl;have F:R.1=G9 E t 1:=by rw[u];refine K5 ?_;rw[OJ];exact p1
 rw[F]at w;rw[F]at p;have ak:=OW E t 0;have ac:(6) ^ 8=1679616:=Δ;obtain⟨B,q1,q2,M,q4,q5,q6,q7⟩:=Zry E t 8 0 R.2 Ξ Ω Ω;have ah:∀b,nR E t (b+1)=(10*nR E t b+60-1)/60:=λb=>by show((G9 E t (b+1)).size+Ij (b+1)-1)/Ij (b+1)=_;simp_all[OW,Ij]
 have H:∀b,nR E t b<=486:=λb=>by
  induction b with
  |zero=>omega
  |succ b ih=>grind
 have ag:nR E t 4<=1:=by grind
 have N:B<8:=by grind
 have f:∀b,b<=B->PL E t b:=λb d=>by rcases Bn b with rfl|h;intro k I;exact p4 k I;simp_all
 have P:∀y:Nat×Nat,y∈(Dn s false C L).2.U↔(∃z∈L,∃k,k<GE (cx C z)/\y=(De 4 z.f k,Gu E (De 4 z.f k)))\/∃b k,b<=B/\k<nR E t b/\y=(Dz b k,Gu E (Dz b k)):=λy=>by rw[p];refine(q7 y).M ?_;rw[G,p3,Al,K y];constructor;rintro(((e|e)|e)|⟨b,k,c,m,n,h4⟩);grind;simp_all;obtain⟨k,I,rfl⟩:=AB.1 e;grind;grind;rintro(e|⟨b,k,c,m,n⟩);simp_all;grind
 have U:∀r,E.at r=some (Gu E r)->16<=Gu E r/\Gu E r<1536:=λr V=>by obtain⟨c,m⟩:=j.a7 V;rw[g]at c;have n:=o.lo _ c;simp_all
 have ae:∀r,Gu E r<1536:=λr=>by
  unfold Gu;cases e:E.at r with
  |none=>simp_all
  |some q=>exact(j.a7 e).2
 have aa:E.D=s.D:=by rw[g];rfl
 have Q:BL (G9 E t (B+1))=Ji (Gu E (Dz B 0)) (Dr (Dy (IQ B) (G9 E t B) (Ij B) 0)):=by rw[OJ,M];unfold Ja Ja;rw[AH]
 have ai:G9 E t (B+1)=D7 (Gu E (Dz B 0)) (Dr (Dy (IQ B) (G9 E t B) (Ij B) 0)):=K5 (by rw[Q,Xa]);have W:GK (Dn s false C L).1=Gu E (Dz B 0):=by grind [GK,DU,G9,Xz,Dz]
 have X:GQ (Dn s false C L).1=Dr (Dy (IQ B) (G9 E t B) (Ij B) 0):=by grind [GQ,DU,G9,Zs2,Q6]
 refine⟨t,B,?_⟩;rw[g]at *;refine⟨⟨N,rfl,Γ,by grind [OJ],M,λi a=>(f 0 (Ao _) i a).2,λb d i a=>?_,λb i d a=>U _ (f b d i a).1,by grind [Dz,Q6],λb i D Y d O a S e=>?_,Γ⟩,by rw[x,J],Γ,f,P,W,X,Ω,Γ⟩;have:=(f _ d i a).2;simp_all[IQ,Ij];have c:=(j.a7 (f b d i a).1).1;have m:=(j.a7 (f D O Y S).1).1;have n:=o.inj _ c _ m Ω;rw[Cu]at n;have g1:=H b;have g2:=H D;exact Zb Ω Ω Ω Ω Ω
theorem Gw.gi(f:My s)(i:GV C L)(c:Gw s C L):∃t B,Mv s C L t B/\Pq s C L t B:=by obtain⟨t,B,h⟩:=StaysG.on f i c.ps;refine⟨t,B,⟨h.bc,h.ad,λx j k g=>(h.av x j k g).2,λx=>?_,c.tp.r.M h.tp,c.tx.r.M h.tx,h.ts⟩,h⟩;rw[c.es.2.2];constructor;rintro⟨y,l,rfl⟩;rcases(h.U y).1 l with⟨z,e,k,a,rfl⟩|⟨b,k,a,d,rfl⟩;grind;grind;rintro(⟨z,e,k,a,rfl⟩|⟨b,k,a,d,rfl⟩);exact⟨_,(h.U _).2 (.inl ⟨z,e,k,a,rfl⟩),rfl⟩;exact⟨_,(h.U _).2 (.inr ⟨b,k,a,d,rfl⟩),rfl⟩
def MD(E:Ge)(C:NB)(x:It):List UInt8:=
 if x.k=1 then [] else UInt8.ofNat x.f::if x.k=3 then [] else DM (C x.f).size 2++Ja (λk=>Ji (Gu E (De 4 x.f k)) (Dr (GN (C x.f) k))) (GE (C x.f))
theorem OO(E:Ge)(C:NB)(d:By)(x:It):BL (KX E C d x)=UInt8.ofNat x.k::UInt8.ofNat (J5 d (jn x.ns))::UInt8.ofNat ((jn x.ns).size-J5 d (jn x.ns))::(BL (DO d (jn x.ns))++MD E C x):=by obtain⟨e,g⟩:=ex (Ja (λk=>Ji (Gu E (De 4 x.f k)) (Dr (GN (C x.f) k))) (GE (C x.f)));have f:∀a b c:UInt8,BL (⟨#[a,b,c]⟩)=[a,b,c]:=λ_ _ _=>rfl;have h2:∀a:UInt8,BL (⟨#[a]⟩)=[a]:=λ_=>rfl;have h3:∀n,BL (Ju n 2)=DM n 2:=λn=>Ve _;have h4:BL (⟨e.toArray⟩)=e:=Ve _;have h5:BL ⟨#[]⟩=[]:=rfl;unfold KX D2 MD;rw[<-g,Kg,Kg,f];by_cases e1:x.k=1;simp_all;by_cases e3:x.k=3;simp_all;simp_all[Kg]
def Wy(C:NB)(L:List It):Prop:=∀x∈L,(jn x.ns).size<=100/\x.f<60/\(x.k=2->(C x.f).size<=1280)/\(x.k=1\/x.k=2\/x.k=3)
theorem GV.bd(h:GV C L):Wy C L:=λx a=>⟨h.c7 x a,h.num x a,h.size x a,h.a8 x a⟩
def Qq(C:NB)(x:It):Nat×Nat×Nat:=(x.k,if x.k=1 then 0 else x.f,(cx C x).size)
theorem Vy{d c:Ge}{a b:NB}(q:∀r,Gu d r<65536)(p:∀r,Gu c r<65536):∀(L1 L0:List It) (l1 l0:By) (r:List UInt8) (z:Nat),Wy a L1->Wy b L0->BL (Jj d a l1 L1)++0::r=BL (Jj c b l0 L0)++0::List.replicate z 0->
  BL (Jj d a l1 L1)=BL (Jj c b l0 L0)/\L1.map (Qq a)=L0.map (Qq b)/\∀x∈L1,∀k,k<GE (cx a x)->Gu d (De 4 x.f k)=Gu c (De 4 x.f k)
 |[],[],_,_,_,_,_,_,_=>⟨rfl,rfl,by grind⟩
 |[],y::ys,l1,l0,r,z,_,b0,h=>by have g:BL (Jj c b l0 (y::ys))=BL (KX c b l0 y)++BL (Jj c b (jn y.ns) ys):=Kg _ _;rw[g,OO]at h;have J:(0:UInt8)::r=UInt8.ofNat y.k::_:=h;have:=(Fw J).1;rcases(b0 y Θ).2.2.2 with e|e|e<;>rw[e]at this<;>exact Γ
 |x::xs,[],l1,l0,r,z,b1,_,h=>by have g:BL (Jj d a l1 (x::xs))=BL (KX d a l1 x)++BL (Jj d a (jn x.ns) xs):=Kg _ _;rw[g,OO]at h;have:=(Fw h).1;rcases(b1 x Θ).2.2.2 with e|e|e<;>rw[e]at this<;>exact Γ
 |x::xs,y::ys,l1,l0,r,z,b1,b0,h=>by
  have D:BL (Jj d a l1 (x::xs))=BL (KX d a l1 x)++BL (Jj d a (jn x.ns) xs):=Kg _ _;have g:BL (Jj c b l0 (y::ys))=BL (KX c b l0 y)++BL (Jj c b (jn y.ns) ys):=Kg _ _;obtain⟨p1,p2,v,p4⟩:=b1 x Θ;obtain⟨q1,q2,w,q4⟩:=b0 y Θ;have O:=OO d a l1 x;have P:=OO c b l0 y;rw[D,g,O,P]at h;simp only[Ar,AK]at h;obtain⟨E,h⟩:=Fw h;obtain⟨g1,h⟩:=Fw h;obtain⟨F,h⟩:=Fw h;have B:(DO l1 (jn x.ns)).size=(jn x.ns).size-J5 l1 (jn x.ns):=by simp_all[DO,ByteArray.size_extract]
  have A:(DO l0 (jn y.ns)).size=(jn y.ns).size-J5 l0 (jn y.ns):=by simp_all[DO,ByteArray.size_extract]
  have o:=Cp UInt8.toNat F;rw[Qw Ω,Qw Ω]at o;have i:=Cp UInt8.toNat E;rw[Qw Ω,Qw Ω]at i;obtain⟨g3,h⟩:=FZ h (by rw[Jn,Jn,B,A,o]);have Q:MD d a x=MD c b y/\Qq a x=Qq b y/\(∀k,k<GE (cx a x)->Gu d (De 4 x.f k)=Gu c (De 4 x.f k))/\BL (Jj d a (jn x.ns) xs)++0::r=BL (Jj c b (jn y.ns) ys)++0::List.replicate z 0:=by have n0:GE ⟨#[]⟩=0:=rfl;unfold MD Qq cx at *;by_cases s:y.k=1;simp_all;rw[if_neg Ω,if_neg s]at h;simp only[AK]at h;obtain⟨G,h⟩:=Fw h;have K:x.f=y.f:=(by have:=Cp UInt8.toNat G;grind [Qw]);by_cases t:y.k=3;simp_all;have j:y.k=2:=Ω;rw[j]at i;have v:=v i;have w:=w j;rw[if_neg Ω,if_neg t]at h;rw[Ar,Ar]at h;obtain⟨H,h⟩:=FZ h (by rw[Js,Js]);have N:(a x.f).size=(b y.f).size:=Ym (m:=2) Ω Ω H;have M:GE (a x.f)=GE (b y.f):=(by grind [GE]);obtain⟨I,h⟩:=FZ h (by rw[UE (λk=>Qe _ _),UE (λk=>Qe _ _),M]);simp only[i,j,FD];refine⟨?_,by rw[N,K],λk L=>?_,h⟩;simp_all;have l:=OT (f:=λk=>Ji (Gu d (De 4 x.f k)) (Dr (GN (a x.f) k))) (λk=>Qe _ _) (GE (a x.f)) k L;have C:=OT (f:=λk=>Ji (Gu c (De 4 y.f k)) (Dr (GN (b y.f) k))) (λk=>Qe _ _) (GE (b y.f)) k Ω;rw[I,C]at l;unfold Ji at l;have:=(FZ l (by rw[Js,Js])).1;have:=Ym (p _) (q _) this;simp_all
  obtain⟨s,j,t,h⟩:=Q;obtain⟨i1,i2,i3⟩:=Vy q p xs ys _ _ r z (λu n=>b1 u (AO _ n)) (λu n=>b0 u (AO _ n)) h;simp_all
structure G1(C:NB)(L:List It):Prop where
 ok:GV C L
 iu:∀x∈L,(jn x.ns).size<=78
 e8:(L.map (λx=>GE (cx C x))).sum<=160
theorem ZrI(E:Ge)(C:NB)(a:By)(st:Pl)(x:It)(hp:(jn x.ns).size<=78)(d:x.k=1\/x.k=2\/x.k=3):
  (Dv E C a st x).1.size<=84+10*GE (cx C x)/\(Dv E C a st x).2.U.length=st.U.length+GE (cx C x):=by
 have ht:=Zp a (jn x.ns);have b:∀k,(D2 a (jn x.ns) k).size=3:=λk=>rfl;have c:∀u:UInt8,(⟨#[u]⟩:By).size=1:=λu=>rfl;unfold Dv cx;rcases d with e|e|e;simp only[e,show(1)≠2 by omega,ES,FD,Aj,b];exact⟨Ω,rfl⟩;simp only[e];simp only[show(2)≠1 by omega,show(2)≠3 by omega,ES,FD,Aj,b,c,Q9,RX,Bl,puts_len];grind;simp only[e];simp only[show(3)≠1 by omega,show(3)≠2 by omega,ES,FD,Aj,b,c];exact⟨Ω,rfl⟩
theorem YW(E:Ge)(C:NB):∀(last:By) (st:Pl) (L:List It),(∀x∈L,(jn x.ns).size<=78/\(x.k=1\/x.k=2\/x.k=3))->
  (Dq E C last st L).1.size<=84*L.length+10*(L.map (λx=>GE (cx C x))).sum/\(Dq E C last st L).2.U.length=st.U.length+(L.map (λx=>GE (cx C x))).sum
 |_,_,[],_=>⟨Aa _,rfl⟩
 |last,st,x::xs,h=>by obtain⟨a1,a2⟩:=ZrI E C last st x (h x Θ).1 (h x Θ).2;obtain⟨b1,b2⟩:=YW E C (jn x.ns) (Dv E C last st x).2 xs (λy a=>h y (AO _ a));rw[A6,FQ,Ay];refine⟨?_,?_⟩;show((Dv E C last st x).1++_).size<=_;rw[Aj];omega;show(Dq E C _ _ xs).2.U.length=_;omega
def Ml:Nat->Nat->Nat
 |0,_=>0
 |d+1,m=>if 1<m then(10*m+60-1)/60+Ml d ((10*m+60-1)/60) else 0
theorem Zif(E:Ge):∀(d below:Nat) (st:Pl) (s:By) (m:Nat),s.size=10*m->(DU E d below st s).2.U.length=st.U.length+Ml d m
 |0,_,st,s,m,h=>rfl
 |d+1,below,st,s,m,h=>by unfold DU Ml;by_cases a:1<m;rw[if_pos Ω,if_pos a];have b:=ZP E 2 60 below st s;have c:=U6 E 2 60 below st s;have ih:=Zif E d (below+1) (DG E 2 60 below st s).2 _ _ c;rw[h]at b ih;omega;grind
theorem ZtL:∀m,m<160->Ml 8 m<=33:=Δ
theorem G1.U(h:G1 C L)(s:KS)(cl:Bool):(Dn s cl C L).2.U.length<=352:=by
 have aa:=h.ok.len;have hu:=h.e8;obtain⟨E,g⟩:=ex (Do s.es cl s.tp s.D);obtain⟨T,i⟩:=ex (Dq E C ⟨#[]⟩ ⟨s.tp+1,[],[]⟩ L);obtain⟨t,d⟩:∃t:By,t=T.1++⟨#[0]⟩:=Γ;obtain⟨R,c⟩:=ex (DG E 3 63 0 T.2 t);have e:Dn s cl C L=DU E 8 1 R.2 R.1:=by rw[c,d,i,g];rfl
 obtain⟨t1,t2⟩:=YW E C ⟨#[]⟩ ⟨s.tp+1,[],[]⟩ L (λz a=>⟨h.iu z a,h.ok.a8 z a⟩);have f:=ZP E 3 63 0 T.2 t;have b:=U6 E 3 63 0 T.2 t;rw[<-c]at f b;have a:t.size=T.1.size+1:=by rw[d];exact Aj
 rw[e,Zif E 8 1 R.2 _ _ b];grind [ZtL]
