/- Told. -/
import Derived.Test.YtaieidcohdhgpaaGreatDoorYAV
namespace Go.Proofs.YtaieidcohdhgpaaGreatDoor
set_option maxHeartbeats 40000000
set_option maxRecDepth 100000
open Go.RowKit
def GM(w w':World):Prop:=∀k t R,FX w k t R->(t=62\/t=5\/t=75)->FX w' k t R
theorem GM.below{w w':World}(h:Bw w w'):GM w w':=λk _ _ a _=>(h.block k a.lt).trans a
def Hb(w w':World):Prop:=∀k t R,FX w k t R->¬(t=214\/t=229\/t=310\/t=293)->FX w' k t R
theorem Hb.trans{a b c:World}(h:Hb a b)(k:Hb b c):Hb a c:=λi t R e d=>k i t R (h i t R e d) d
theorem Hb.below{w w':World}(h:Bw w w'):Hb w w':=λk _ _ a _=>(h.block k a.lt).trans a
theorem Hb.k6{w w':World}(h:Hb w w'):GM w w':=λk t R a c=>h k t R a (by rcases c with rfl|rfl|rfl<;>decide)
theorem Hb.prog{tb:Nat}{w w':World}(d:Fr (DM tb w) w w'):Hb w w':=λk t R a e=>a.fr d (λ⟨⟨t',R',c,f⟩,_⟩=>e (by
 have:=c.type a;subst this;exact f))
def XJ(sb:Nat)(w w':World):Prop:=∀k t R,FX w k t R->¬(t=214\/t=229\/t=310\/t=293)->k≠sb->FX w' k t R
theorem Hb.set{w w':World}(h:Hb w w')(a i:Nat)(v:Value):XJ a w (w'.setCell ⟨a,i,none⟩ v):=λk t R d e c=>(Aw _ _ _ _ c).trans (h k t R d e)
section
variable{w w':World}{stb db:Nat}{vk:Value}{s:KS}{vf vn vw ve:Value}{ps:LB}{ep:List Int}
theorem Hc.fr{X:Nat->Prop}(h:Hc w stb db vk s vf vn vw ve ps ep)(d:Fr X w w')(c:∀k t R,X k->FX w k t R->t≠179/\t≠204/\t≠188/\t≠207/\t≠3/\t≠350):Hc w' stb db vk s vf vn vw ve ps ep:=by
 have a:∀{e:TypeId} {sz:Nat} {v:Value} {n:Nat} {xs:F0},Sl w e sz v n xs->(e=188\/e=207\/e=3\/e=350)->Sl w' e sz v n xs:=λf j=>f.fr d (λg l e=>by
  obtain⟨R,i⟩:=f.type l;have:=c _ _ _ e i;rcases j with rfl|rfl|rfl|rfl
  ·exact this.2.2.1 rfl
  ·exact this.2.2.2.1 rfl
  ·exact this.2.2.2.2.1 rfl
  ·exact this.2.2.2.2.2 rfl)
 refine⟨⟨h.st.row.fr d (λe=>(c _ _ _ e h.st.row).1 rfl),⟨h.st.disk.1.fr d (λe=>(c _ _ _ e h.st.disk.1).2.1 rfl),⟨a h.st.disk.2.1.1 (.inl rfl),h.st.disk.2.1.2⟩,h.st.disk.2.2⟩,a h.st.sw (.inr (.inl rfl)),a h.st.se (.inr (.inr (.inl rfl))),h.st.ne,h.st.ns,h.st.nd,h.st.d1,h.st.d2,h.st.d3⟩,a h.sk (.inr (.inr (.inr rfl))),h.ok⟩
theorem Hc.types(h:Hc w stb db vk s vf vn vw ve ps ep){k:Nat}(f:GY stb db vn vw ve k){t:TypeId}{R:F0}(c:FX w k t R):t=179\/t=204\/t=188\/t=207\/t=3:=by
 rcases f with rfl|rfl|e|e|e
 ·exact .inl (c.type h.st.row)
 ·exact .inr (.inl (c.type h.st.disk.1))
 ·obtain⟨d,a⟩:=h.st.disk.2.1.1.type e;exact .inr (.inr (.inl (c.type a)))
 ·obtain⟨d,a⟩:=Sl.type h.st.sw e;exact .inr (.inr (.inr (.inl (c.type a))))
 ·obtain⟨d,a⟩:=h.st.se.type e;exact .inr (.inr (.inr (.inr (c.type a))))
end
def Mf(N n0:Nat)(w:World)(vb stb db:Nat)(K:KS->Prop):Prop:=
 ∃s vk vf vn vw ve ps ep,Hc w stb db vk s vf vn vw ve ps ep/\K s/\Gs s/\Iq s/\s.tn<=N+1/\ps.length<=256*N/\ep.length<=2*N/\(∀k,GY stb db vn vw ve k->n0<=k/\k≠vb)/\∀k,Own vk k->n0<=k
theorem Mf.fr{N n0:Nat}{w w':World}{vb stb db:Nat}{K:KS->Prop}(h:Mf N n0 w vb stb db K){X:Nat->Prop}(e:Fr X w w')(d:∀k t R,X k->FX w k t R->t≠179/\t≠204/\t≠188/\t≠207/\t≠3/\t≠350):Mf N n0 w' vb stb db K:=by
 obtain⟨s,vk,vf,vn,vw,ve,ps,ep,a,c⟩:=h;exact⟨s,vk,vf,vn,vw,ve,ps,ep,a.fr e d,c⟩
theorem Mf.mono{N n0:Nat}{w:World}{vb stb db:Nat}{K a:KS->Prop}(h:Mf N n0 w vb stb db K)(f:∀s,K s->a s):Mf N n0 w vb stb db a:=by
 obtain⟨s,vk,vf,vn,vw,ve,ps,ep,c,d,e⟩:=h;exact⟨s,vk,vf,vn,vw,ve,ps,ep,c,f s d,e⟩
def QD(s:KS):Prop:=∃C L,F6 C L/\Gi s C L
def GG(b:Nat->Option By)(s:KS):Prop:=
 ∃(C:NB) (es:LS),Ge es/\(∀x∈es,∃f:Nat,x.2=⟨none,(f:Int)⟩)/\F6 C (es.map Iu)/\Gi s C (es.map Iu)/\(∀x∈es,∃i,i<8/\x.1=fn i)/\(∀i,i<8->∀t,b i=some t->∃f:Nat,(fn i,(⟨none,(f:Int)⟩:VS))∈es/\C f=t)/\∀i,i<8->b i=none->∀u,(fn i,u)∉es
theorem GG.any{b:Nat->Option By}{s:KS}(h:GG b s):QD s:=by
 obtain⟨C,es,_,_,a,c,_⟩:=h;exact⟨C,_,a,c⟩
structure GL(N n0:Nat)(w0 w:World)(vb tb db stb:Nat)(b:Nat->Option By)(K:KS->Prop):Prop where
 vol:Hg w vb tb db stb
 tr:∃G I CI,PS w tb G I CI/\F5 b G I CI
 st:Mf N n0 w vb stb db K
 bel:Below n0 w0 w
 lo:n0<tb/\n0<=vb/\n0<=w0.heap.size/\0<n0
theorem PS.si{w:World}{tb:Nat}{G:Gh}{I:LF}{C:IB}(h:PS w tb G I C):Gm I:=by
 obtain⟨rd,V,E,vi,h⟩:=h;exact h.si
theorem N9{n0:Nat}{w0 w w':World}(h:Below n0 w0 w){X:Nat->Prop}(a:Fr X w w')(c:∀k,X k->n0<=k)(hn:n0<=w0.heap.size):Below n0 w0 w':=
 ⟨a.os.trans h.os,a.tape.trans h.tape,a.output.trans h.output,Af h.size a.size,λk d=>(a.block k (by have:=h.size;omega) (λe=>by have:=c k e;omega)).trans (h.block k d)⟩
section
variable{N n0:Nat}{w0 w w':World}{vb tb db stb:Nat}{b b':Nat->Option By}{K:KS->Prop}
theorem GL.prog(h:GL N n0 w0 w vb tb db stb b K)(c:Fr (DM tb w) w w'){G:Gh}{I:LF}{a:IB}(i:PS w' tb G I a)(j:F5 b' G I a):GL N n0 w0 w' vb tb db stb b' K:=by
 have f:∀k t R,DM tb w k->FX w k t R->t=214\/t=229\/t=310\/t=293:=λk t R ⟨⟨t',R',g,l⟩,_⟩ d=>by
  have:=g.type d;subst this;exact l
 obtain⟨l1,l2,m,l4⟩:=h.lo;refine⟨FX.fr h.vol c (λe=>?_),⟨G,I,a,i,j⟩,h.st.fr c (λk t R e d=>?_),N9 h.bel c (λk e=>?_) m,h.lo⟩
 ·have:=f _ _ _ e h.vol
  revert this;decide
 ·rcases f k t R e d with rfl|rfl|rfl|rfl<;>decide
 ·have:=e.2;omega
theorem GL.fr62(h:GL N n0 w0 w vb tb db stb b K){X:Nat->Prop}(a:Fr X w w')(c:∀k t R,X k->FX w k t R->t=62)(f:∀k,X k->n0<=k):GL N n0 w0 w' vb tb db stb b K:=by
 obtain⟨l1,l2,l,l4⟩:=h.lo;obtain⟨G,I,g,⟨m,V,E,n,i⟩,j⟩:=h.tr;refine⟨FX.fr h.vol a (λe=>?_),⟨G,I,g,⟨m,V,E,n,i.fr a (λe=>?_) (λk t R e d=>?_)⟩,j⟩,h.st.fr a (λk t R e d=>?_),N9 h.bel a f l,h.lo⟩
 ·have:=c _ _ _ e h.vol
  revert this;decide
 ·have:=f 0 e;omega
 ·rw[c k t R e d];decide
 ·rw[c k t R e d];decide
theorem GL.below(h:GL N n0 w0 w vb tb db stb b K)(a:Bw w w'):GL N n0 w0 w' vb tb db stb b K:=
 h.fr62 (X:=λ_=>False) (Fr.of_below a) (λ_ _ _ e=>e.elim) (λ_ e=>e.elim)
theorem GL.any(h:GL N n0 w0 w vb tb db stb b K)(a:∀s,K s->QD s):GL N n0 w0 w vb tb db stb b QD:=⟨h.vol,h.tr,h.st.mono a,h.bel,h.lo⟩
theorem YB(h:GL N n0 w0 w vb tb db stb b K){i:Nat}(c:i<8){s:By}(l:b i=some s):
  Cl 63 #[.pointer (some ⟨vb,0,none⟩),.string (GC i)] w λe w'=>e=.returned (.int .i64 0)/\GL N n0 w0 w' vb tb db stb (JW b i none) K/\Hb w w':=by
 obtain⟨G,I,j,n,a⟩:=h.tr;have aa:=a.fl.le;have ab:=a.fl.ilen n.si;refine(SZ w vb tb h.vol.vol (GC i) (Q8 w tb G I j (GC i)) (λe w' z=>⟨_,z.1⟩) (WP w tb G I j n a.fl.gok (by omega) (by omega) a.fl.flok (GC i) (by have:=(Ke c).2.2;omega))).mono ?_;rintro e w'⟨rfl,m,d⟩;have o:=a.rm c l;refine⟨by rw[o],?_,Hb.prog m⟩;rcases d with⟨g,_⟩|⟨_,u,k,d⟩
 ·exact absurd o g
 ·obtain⟨f,p,q,_⟩:=a.at c l;rw[p]at k
  cases k
  rcases d with⟨B,_⟩|⟨_,r,I',x,t,y⟩
  ·cases B
  ·have A:r.f=1:=(a.fl.back _ x).1;rcases t with⟨_,v⟩|⟨g,_⟩
   ·exact h.prog m (y _ (QT G _)) (a.del c q v)
   ·exact absurd A g
theorem OY(h:GL N n0 w0 w vb tb db stb b K){i:Nat}(o:i<8){s:By}(q:b i=some s)(n:Nat)(P:n<=1280):
  Cl 60 #[.pointer (some ⟨vb,0,none⟩),.string (GC i),.int .i64 n] w λe w'=>e=.returned (.int .i64 0)/\GL N n0 w0 w' vb tb db stb (JW b i (some (Di s n))) K/\Hb w w':=by
 obtain⟨G,I,g,B,d⟩:=h.tr;have aa:=d.fl.le;have ab:=d.fl.ilen B.si;have T:MP G (GC i) n=0:=by
  unfold MP;rw[show decide ((0:Int)<=(n:Int)/\(n:Int)<=1280)=true from Cr ⟨by omega,by omega⟩];exact d.file o q
 have A:∀e w',Q5 w tb G I g (GC i) n e w'->e=.returned (.int .i64 0)/\GL N n0 w0 w' vb tb db stb (JW b i (some (Di s n))) K/\Hb w w':=by
  rintro e w' (⟨Q,_⟩|⟨_,u,r,a,c,p,_,L,t,l,v,H⟩)
  ·exact absurd T Q
  ·obtain⟨f,C,D,F⟩:=d.at o q;rw[C]at p
   cases p
   have y:(Di s n).size=n:=Jc s n;have M:F7 I l f ⟨a,(Di s n).size,c,r.f⟩:=by rw[y];exact v
   have J:g (f:Int)=s:=F;have z:=d.over o D (s:=Di s n) (by rw[y];exact P) L M;rcases H with⟨_,hu,_⟩|⟨rfl,_,R⟩
   ·have ac:DO (l.map (·.2.l))<=160:=by
     have E:=N5 (l.map (·.2.l)) (λm O=>by
      obtain⟨x,j,rfl⟩:=As.1 O;exact(z.fl.csz j).2.1)
     rw[AL,v.1]at E;omega
    omega
   ·refine⟨rfl,h.prog t R ?_,Hb.prog t⟩;show F5 _ G l (λk=>if k=(f:Int) then Di (g (f:Int)) (n:Int).toNat else g k);rw[J,Bp];exact z
 exact(OX w vb tb h.vol.vol (GC i) n (Q5 w tb G I g (GC i) n) (λe w' S=>⟨0,(A e w' S).1⟩) (ZmE w tb G I g B d.fl.gok (by omega) (by omega) d.fl.flok (λx j=>by have:=(d.fl.csz j).2.1;omega) (λx j=>(d.fl.csz j).1) (GC i) (by have:=(Ke o).2.2;omega) n)).mono A
def MO(o:Option By)(p:Nat)(d:By):By:=Hu (o.getD ⟨#[]⟩) p d
theorem TP(s:By)(p:Nat)(d:By)(a:s.size<=1280)(hp:p+d.size<=1280):(Hu s p d).size<=1280:=by
 unfold Hu
 split
 ·exact a
 ·rw[Bp,Ug];omega
theorem Mi(h:GL N n0 w0 w vb tb db stb b K){i:Nat}(l:i<8)(p:Nat)(d:By)(O:p+d.size<=1280)(B:OA)(C:Nat)(T:Sl w 5 1 (.slice B d.size C) d.size (Dc d)):
  Cl 59 #[.pointer (some ⟨vb,0,none⟩),.string (GC i),.int .i64 p,.slice B d.size C] w λe w'=>e=.returned (.int .i64 0)/\GL N n0 w0 w' vb tb db stb (JW b i (some (MO (b i) p d))) K/\Hb w w':=by
 obtain⟨G,I,o,z,g⟩:=h.tr;have ae:=g.fl.le;have af:=g.fl.ilen z.si;have W:Qn (p:Int) d=true:=Cr ⟨by omega,by omega⟩;have hz:=g.wr z.si l W;have P:∀e w',KU w tb G I o (GC i) p d e w'->e=.returned (.int .i64 0)/\GL N n0 w0 w' vb tb db stb (JW b i (some (MO (b i) p d))) K/\Hb w w':=by
  rintro e w' (⟨aa,_⟩|⟨_,⟨u,r,a,c,n,_,X,_,v,y,t,E⟩|⟨n,v,f,I1,I2,a,c,_,U,V,Z,q,t,E⟩⟩)
  ·exact absurd hz aa
  ·cases hb:b i with
   |none=>rw[g.none' l hb]at n;cases n
   |some s=>
    obtain⟨f,q,L,Q⟩:=g.at l hb;rw[q]at n
    cases n
    have F:o (f:Int)=s:=Q;have Y:F7 I y f ⟨a,(Hu s p d).size,c,r.f⟩:=by
     have:=t;dsimp only at this;rw[F]at this;exact this
    have A:s.size<=1280:=by have:=g.fl.sz _ L;rw[<-F];exact this
    have M:=g.over l L (s:=Hu s p d) (TP s p d A O) X Y;rcases E with⟨_,hu,_⟩|⟨rfl,_,J⟩
    ·have ab:DO (y.map (·.2.l))<=160:=by
      have D:=N5 (y.map (·.2.l)) (λm H=>by
       obtain⟨x,j,rfl⟩:=As.1 H;exact(M.fl.csz j).2.1)
      rw[AL,t.1]at D;omega
     omega
    ·refine⟨rfl,h.prog v J ?_,Hb.prog v⟩;show F5 (JW b i (some (Hu s p d))) G y (λk=>if k=(f:Int) then Hu (o (f:Int)) p d else o k);rw[F];exact M
  ·cases hb:b i with
   |some s=>
    obtain⟨f,q,_⟩:=g.at l hb;rw[q]at n;cases n
   |none=>
    have A:=TP ⟨#[]⟩ p d (by show 0<=1280;omega) O;rcases E with⟨_,hu,_⟩|⟨rfl,_,C2,J,R,S⟩
    ·have h7:=g.lt7 l hb;have ab:DO (I2.map (·.2.l))<=160:=by
      have D:=N5 (I2.map (·.2.l)) (λm H=>by
       obtain⟨x,j,rfl⟩:=As.1 H;rcases(t.2 x).1 j with rfl|⟨j,ac⟩
       ·exact A
       ·rcases(q x).1 j with rfl|j
        ·exact absurd rfl ac
        ·exact(g.fl.csz j).2.1)
      rw[AL,t.1,Z]at D;omega
     omega
    ·refine⟨rfl,h.prog v (G:=G++[([fn i],⟨none,(f:Int)⟩)]) (by rw[<-(Ke l).1];exact J) ?_,Hb.prog v⟩;exact g.made z.si l hb U V A q t R S
 exact(So w vb tb h.vol.vol (GC i) p _ (KU w tb G I o (GC i) p d) (λe w' hq=>⟨0,(P e w' hq).1⟩) (ZiL w tb G I o z g.fl.gok (by omega) (by omega) (λx j=>(g.fl.csz j).2.2) g.fl.flok (λx j=>by have:=(g.fl.csz j).2.1;omega) (λx j=>(g.fl.csz j).1) (GC i) (by have:=(Ke l).2.2;omega) p d (by omega) B C T)).mono P
end
theorem F5.kept{b:Nat->Option By}{G:Gh}{I:LF}{g:IB}(h:F5 b G I g){w:World}{tb a:Nat}{V:NV}{E:NS}{y:Value}(c:TW w tb a V E y G I g){s:KS}(r:Gi s (λn=>g (n:Int)) ((E a).map Iu)):GG b s:=by
 have p:FY G a [] a:=.inl ⟨rfl,rfl⟩;have o:=c.d.en [] a p;refine⟨λn=>g (n:Int),E a,c.d.srt [] a p,λx m=>?_,(h.fl.keep c).1,r,λx m=>?_,λi d t l=>?_,λi d l u v=>?_⟩
 ·obtain⟨_,_,_,f,e,_⟩:=h.fl.root c m;exact⟨f,e⟩
 ·obtain⟨k,_⟩:=h.fl.root c m;obtain⟨i,d,e⟩:=h.nm _ k;have j:[x.1]=[fn i]:=e;injection j with j;exact⟨i,d,j⟩
 ·obtain⟨f,k,q⟩:=h.yes i d t l;exact⟨f,(o (fn i) _).2 k,q⟩
 ·exact h.no i d l u ((o (fn i) u).1 v)
section
variable{N n0:Nat}{w0 w w':World}{vb tb db stb:Nat}{b b':Nat->Option By}{K:KS->Prop}
end
def ID(w:World)(vb:Nat)(b:Nat->Option By):Prop:=∃tb G I CI,Gq w vb tb/\PS w tb G I CI/\F5 b G I CI
theorem ID.below{w w':World}{e:Nat}{b:Nat->Option By}(h:ID w e b)(a:Bw w w'):ID w' e b:=by
 obtain⟨tb,G,I,f,⟨d,s,c⟩,⟨j,V,E,k,g⟩,i⟩:=h;exact⟨tb,G,I,f,⟨d,s,(a.block _ (FX.lt c)).trans c⟩,⟨j,V,E,k,g.below a (Aa _)⟩,i⟩
theorem GL.vl{N g:Nat}{j w:World}{a tb d i:Nat}{b:Nat->Option By}{K:KS->Prop}(h:GL N g j w a tb d i b K):ID w a b:=by
 obtain⟨G,I,c,e,f⟩:=h.tr;exact⟨tb,G,I,c,h.vol.vol,e,f⟩
theorem GG.set{b:Nat->Option By}{C:NB}{es:LS}(o:∀x∈es,∃f:Nat,x.2=⟨none,(f:Int)⟩)(p:F6 C (es.map Iu))(q:∀x∈es,∃i,i<8/\x.1=fn i)(r:∀i,i<8->∀t,b i=some t->∃f:Nat,(fn i,(⟨none,(f:Int)⟩:VS))∈es/\C f=t)(s:∀i,i<8->b i=none->∀u,(fn i,u)∉es){G:Gh}{I:LF}{l:IB}(h:Gg C (es.map Iu) G I l):F5 b G I l:=by
 have k:=h.g;rw[Ci]at k;have m:∀x∈G,∃y∈es,x=([y.1],y.2):=λx d=>by
  rw[k]at d;obtain⟨y,a,rfl⟩:=As.1 d;obtain⟨f,v⟩:=o y a;refine⟨y,a,?_⟩;show([y.1],(⟨none,((y.2.f.toNat:Nat):Int)⟩:VS))=([y.1],y.2);rw[v];simp
 refine⟨h.flt p,λx d=>?_,λi c t j=>?_,λi c j u w=>?_⟩
 ·obtain⟨y,a,rfl⟩:=m x d;obtain⟨i,c,e⟩:=q y a;exact⟨i,c,by show [y.1]=_;rw[e]⟩
 ·obtain⟨f,n,z⟩:=r i c t j;refine⟨f,?_,?_⟩
  ·rw[k];exact As.2 ⟨_,n,rfl⟩
  ·have:=h.c (Iu (fn i,⟨none,(f:Int)⟩)) (As.2 ⟨_,n,rfl⟩);rw[<-z];exact this
 ·obtain⟨y,a,e⟩:=m _ w;rw[A9]at e;have g:=e.1;injection g with g;refine s i c j y.2 ?_;rw[g];exact a
def OM(w:World)(vb:Nat)(b:Nat->Option By)(s:KS):Prop:=∃tb db stb G I CI C L va vf vn,Hg w vb tb db stb/\PS w tb G I CI/\F5 b G I CI/\Gg C L G I CI/\F6 C L/\Gi s C L/\Hc w stb db va s vf vn (.slice none 0 0) (.slice none 0 0) [] []
theorem OM.vl{w:World}{a:Nat}{b:Nat->Option By}{s:KS}(h:OM w a b s):ID w a b:=by
 obtain⟨tb,db,aa,G,I,c,C,L,va,vf,vn,d,e,f,_⟩:=h;exact⟨tb,G,I,c,d.vol,e,f⟩
def XI(w w':World)(vb:Nat)(b:Nat->Option By)(s:KS):Prop:=∀n0 w0 N,Below n0 w0 w->n0<=w0.heap.size->0<n0->s.tn<=N+1->∃tb db stb,GL N n0 w0 w' vb tb db stb b (GG b)
theorem M3{s:KS}(n:Gs s)(z:Iq s)(ai:s.tn+1<18446744073709551616){b:Nat->Option By}(A:GG b s)(w:World)(a:OA)(l c:Nat)(h:Sl w 5 1 (.slice a l c) (JP s.D).size (Dc (JP s.D)))(aa:∀x∈s.D,x.size=64)(ah:Gd w):
  Cl 27 #[.slice a l c] w λe w'=>∃f,e=.returned (.tuple #[.pointer (some ⟨f,0,none⟩),.int .i64 0])/\OM w' f b s/\Bw w w'/\XI w w' f b s:=by
 have ab:=A;obtain⟨C,es,k1,r,m,J,K,L,M⟩:=A;refine M4 w a l c (λw' f=>OM w' f b s/\Bw w w'/\XI w w' f b s) ?_;refine(Yn w a l c s.D h n.ok.dl aa).mono ?_;rintro e X⟨g,u,R,l1,W,rfl,hD,ag,ak,ae,i⟩;refine⟨g,rfl,?_⟩;refine(ZhQ n z ai k1 r m J X g u R l1 W hD ag (ah.fr (Fr.of_below i) (X:=λ_=>False) (λe=>e))).mono ?_;rintro e Y⟨t,tb,P,rfl,q,⟨G,I,v,ac,o⟩,p,y1,y2,y3⟩;refine⟨t,tb,rfl,λZ D d=>?_⟩;have F:=i.size;have aj:=p.size;obtain⟨O,V,E,Q,B⟩:=ac;refine⟨⟨tb,g,t,G,I,v,C,_,P,u,_,D,⟨O,V,E,Q,B.below d (Aa _)⟩,GG.set r m K L M o,o,m,J,q.below d⟩,i.trans ((p.mono F).trans (d.mono (by omega))),λn0 w0 N y S T U=>?_⟩;have al:=y.size;have ad:Bw w Z:=i.trans ((p.mono F).trans (d.mono (by omega)));have H:∀k,¬Own (.slice none 0 0) k:=λk e=>by simp[Own,Value.ownBlock]at e
 have af:=q.lo;refine⟨tb,g,t,D,⟨G,I,v,⟨O,V,E,Q,B.below d (Aa _)⟩,GG.set r m K L M o⟩,⟨s,P,u,_,_,_,[],[],q.below d,ab,n,z,U,Au _,Au _,λk j=>⟨?_,λe=>by have:=af k j;omega⟩,λk j=>by have:=y3 k j;omega⟩,y.trans (ad.mono (by omega)),by omega,by omega,S,T⟩;rcases j with e|e|e|e|e
 ·omega
 ·omega
 ·have:=ae k e;omega
 ·exact absurd e (H k)
 ·exact absurd e (H k)
theorem M5{s:KS}(m:Gs s)(k:Iq s)(p:s.tn+1<18446744073709551616){b:Nat->Option By}(n:GG b s)(w:World)(a:OA)(l c:Nat)(h:Sl w 5 1 (.slice a l c) (JP s.D).size (Dc (JP s.D)))(j:∀x∈s.D,x.size=64)(o:Gd w):
  Cl 27 #[.slice a l c] w λe w'=>∃d,e=.returned (.tuple #[.pointer (some ⟨d,0,none⟩),.int .i64 0])/\ID w' d b/\Bw w w':=
 (M3 m k p n w a l c h j o).mono λ_ _ ⟨d,f,g,i,_⟩=>⟨d,f,g.vl,i⟩
open Go.RowKit Go.Maps
def Js(m:By×By):List UInt8:=Iy [⟨#[102]⟩,jn [m.1],Il m.2.size]++JJ m.2
def Ij(M:List (By×By)):List UInt8:=Km++M.flatMap Js
theorem LG(a b c:By):Iy [a,b,c]=BL a++32::(BL b++32::BL c)++[10]:=by
 show Lib.join [BL a,BL b,BL c] [32]++[10]=_;simp[Lib.join,List.intercalate]
theorem UM(n:By):BL (jn [n])=47::BL n:=by
 show(jl [n]).toArray.toList=_;simp[jl,BL]
theorem Th{n:By}(h:DL n=true){c:UInt8}(b:Lj c=false):c∉BL n:=λd=>by
 have a:n.data.toList.all Lj=true:=by
  unfold DL at h;rw[A6]at h;exact h.2
 have:=Ct.1 a c d;rw[b]at this;cases this
theorem Yw{m:By×By}(i:DL m.1=true)(d:m.2.size<=1280)(r:List UInt8)(D:D9):Li (Js m++r) D=some (2,BL (jn [m.1]),(Maps.size D:Int),BL m.2,r,D.put (Jm (BL (jn [m.1]))) (.lit (.int .i64 (Maps.size D)))):=by
 obtain⟨_,k⟩:=Pq d;have l:∀c:UInt8,c<48->c∉BL (Il m.2.size):=λc b a=>by
  have:=(k c (by rw[show BL (Il m.2.size)=Lib.itoa (m.2.size:Int) from Jo _]at a;exact a)).1;rw[UInt8.le_iff_toNat_le]at this;rw[UInt8.lt_iff_toNat_lt]at b;omega
 have f:∀c:UInt8,Lj c=false->c≠47->c∉BL (jn [m.1]):=λc b j a=>by
  rw[UM,AC]at a;rcases a with e|e
  ·exact j e
  ·exact Th i b e
 have g:Js m++r=(102::32::(BL (jn [m.1])++32::BL (Il m.2.size)))++10::(JJ m.2++r):=by
  unfold Js;rw[LG];simp[BL]
 have n1:(10:UInt8)∉102::32::(BL (jn [m.1])++32::BL (Il m.2.size)):=by
  simp only[AC,Aq,not_or];exact⟨by decide,by decide,f 10 (by decide) (by decide),by decide,l 10 (by decide)⟩
 have h:(102::32::(BL (jn [m.1])++32::BL (Il m.2.size)):List UInt8)=[102]++32::(BL (jn [m.1])++32::BL (Il m.2.size)):=rfl;unfold Li;rw[g,QE n1,if_pos rfl];dsimp only;rw[h,QE (by decide)];dsimp only;rw[if_neg (by decide),if_pos rfl,QE (f 32 (by decide) (by decide))];dsimp only;rw[ZlB d]
 rfl
def mI(M:List (By×By))(i:Nat):By×By:=(M[i]?).getD (⟨#[]⟩,⟨#[]⟩)
def LO(M:List (By×By)):LS:=(List.range M.length).map (λi=>((mI M i).1,⟨none,(i:Int)⟩))
def LM(M:List (By×By)):List It:=(LO M).map Iu
def CM(M:List (By×By))(n:Nat):By:=(mI M n).2
structure IG(M:List (By×By)):Prop where
 nm:∀m∈M,DL m.1=true
 sz:∀m∈M,m.2.size<=1280
 le:M.length<=8
 srt:∀i j,i<j->j<M.length->Hf (mI M i).1 (mI M j).1=true
section
variable{M:List (By×By)}
theorem K4{i:Nat}(h:i<M.length):M[i]?=some (mI M i)/\mI M i∈M:=by
 unfold mI;rw[Ac h];exact⟨rfl,Ea h⟩
theorem KT:LM M=(List.range M.length).map (λi=>(⟨[(mI M i).1],2,i⟩:It)):=by
 unfold LM LO;rw[Ci];exact Cq (λi _=>by simp[Iu])
theorem Pi:(LM M).length=M.length:=by rw[KT,AL,AU]
theorem LM_gi{k:Nat}(h:k<M.length):gi (LM M) k=⟨[(mI M k).1],2,k⟩:=by
 unfold gi;rw[KT,Bc,Cd h]
 rfl
theorem IG.inj(h:IG M){i j:Nat}(b:i<M.length)(c:j<M.length)(e:(mI M i).1=(mI M j).1):i=j:=by
 rcases CB i j with a|a|a
 ·have:=h.srt i j a c;rw[e,KM]at this;cases this
 ·exact a
 ·have:=h.srt j i a b;rw[e,KM]at this;cases this
theorem IG.es(h:IG M):Ge (LO M):=λj k x y d b a=>by
 unfold LO at b a;rw[Bc]at b a;have c:k<M.length:=by
  rcases Bh k M.length with e|e
  ·exact e
  ·rw[BA (by rw[AU];exact e)]at a;cases a
 rw[Cd (by omega)]at b;rw[Cd c]at a
 cases b;cases a
 exact h.srt j k d c
theorem IG.flat(h:IG M):F6 (CM M) (LM M):=by
 have f:∀x∈LM M,∃i,i<M.length/\x=⟨[(mI M i).1],2,i⟩:=λx c=>by
  rw[KT]at c;obtain⟨i,d,rfl⟩:=As.1 c;exact⟨i,A4.1 d,rfl⟩
 have aa:=h.le;refine⟨λx c=>?_,λx c=>?_,?_,?_,by rw[Pi];exact h.le,λx c=>?_,λx c=>?_⟩
 ·obtain⟨i,_,rfl⟩:=f x c;rfl
 ·obtain⟨i,d,rfl⟩:=f x c;exact⟨_,rfl,h.nm _ (K4 d).2⟩
 ·rw[KT,Ci,AJ,Bl];refine(AJ.1 Fv).imp_of_mem (λ{a b} j l k e=>k ?_);have g:[(mI M a).1]=[(mI M b).1]:=e;injection g with g;exact h.inj (A4.1 j) (A4.1 l) g
 ·rw[KT,Ci];have:((λx:It=>x.f) ∘ λi=>(⟨[(mI M i).1],2,i⟩:It))=id:=rfl;rw[this,List.map_id];exact Fv
 ·obtain⟨i,d,rfl⟩:=f x c;exact h.sz _ (K4 d).2
 ·obtain⟨i,d,rfl⟩:=f x c;show i<60;omega
def TM(M:List (By×By))(r:List UInt8)(D:D9)(G:Gh)(I:LF)(C:IB):Prop:=
 ∃k,k<=M.length/\r=(M.drop k).flatMap Js/\Tidy D/\(∀n:By,Maps.has D (Jm (BL (jn [n])))=true->∃j,j<k/\n=(mI M j).1)/\Maps.size D=k/\Gg (CM M) ((LM M).take k) G I C
theorem Y0{a b:By}(h:Jm (BL (jn [a]))=Jm (BL (jn [b]))):a=b:=by
 unfold Jm at h;injection h with h;rw[UM,UM]at h;injection h with _ h;exact Ku h
theorem IG.step(h:IG M){r:List UInt8}{D:D9}{G:Gh}{I:LF}{C:IB}(H:TM M r D G I C)(v:r≠[]):∃p f d r' D',Li r D=some (2,p,((f:Nat):Int),d,r',D')/\Le G I (ba p) f d.length/\∀G' b C',ML G G' I b C C' (ba p) f d.length (ba d)->TM M r' D' G' b C':=by
 obtain⟨k,hk,rfl,m,s,w,x⟩:=H;have c:k<M.length:=by
  rcases Bh k M.length with e|e
  ·exact e
  ·rw[B8 e]at v;exact absurd rfl v
 obtain⟨N,i⟩:=K4 c;have J:M.drop k=mI M k::M.drop (k+1):=by
  obtain⟨O,F⟩:=Ae.1 N;rw[BN O,F]
 have o:=h.flat;have a:=LM_gi c;have q:k<(LM M).length:=by rw[Pi];exact c
 have aa:=h.le;have t:=x.may o q;rw[a]at t;have L:Maps.has D (Jm (BL (jn [(mI M k).1])))=false:=by
  cases e:Maps.has D (Jm (BL (jn [(mI M k).1]))) with
  |false=>rfl
  |true=>
   obtain⟨j,K,g⟩:=s _ e;have:=h.inj c (by omega) g;omega
 refine⟨BL (jn [(mI M k).1]),k,BL (mI M k).2,(M.drop (k+1)).flatMap Js,D.put (Jm (BL (jn [(mI M k).1]))) (.lit (.int .i64 (Maps.size D))),?_,?_,λG' b C' l=>?_⟩
 ·rw[J,A1,Yw (h.nm _ i) (h.sz _ i),w]
 ·rw[Pd,DK];exact⟨t,by omega,h.sz _ i⟩
 ·rw[Pd,Pd,DK]at l;obtain⟨rfl,I1,da,dc,y,z,A,B,E⟩:=l;refine⟨k+1,by omega,rfl,?_,λn u=>?_,?_,?_⟩
  ·exact m.put (by simp[WideAt.IsKeyLit,Jm]) _
  ·by_cases e:Jm (BL (jn [n]))=Jm (BL (jn [(mI M k).1]))
   ·exact⟨k,by omega,Y0 e⟩
   ·rw[has_put_other e]at u;obtain⟨j,K,g⟩:=s n u;exact⟨j,by omega,g⟩
  ·rw[size_put m,L,if_neg (by decide),w]
  ·have:=x.add o q (I1:=I1) (I2:=b) (C2:=C') (da:=da) (dc:=dc) y (by rw[a];exact z) (by rw[a];exact A) (by rw[a];exact B) E;rw[a]at this;exact this
end
theorem Rh(C:NB):∀(L:List It) (st:List UInt8×(NB)),(∀y∈L,y.k=2/\∃n,y.ns=[n])->(L.foldl (Ll C) st).1=st.1++L.flatMap (λy=>Js (y.ns.headD ⟨#[]⟩,C y.f))
 |[],st,_=>by simp
 |y::L,st,h=>by
  obtain⟨a,n,b⟩:=h y (by simp);rw[List.foldl_cons,Rh C L _ (λz c=>h z (AF _ c)),A1,<-Ax]
  congr 1
  show st.1++IM C st.2 y=_
  congr 1
  unfold IM Js;rw[if_neg (by omega),if_pos a,b]
  rfl
theorem dmF_M{M:List (By×By)}{C:NB}(d:∀i,i<M.length->C i=CM M i):(GN C (LM M)).1=Ij M:=by
 unfold GN;rw[Rh C _ _ (λy b=>by
  rw[KT]at b;obtain⟨i,_,rfl⟩:=As.1 b;exact⟨rfl,_,rfl⟩)]
 show Km++_=Km++_
 congr 1
 rw[KT,EX];have e:M=(List.range M.length).map (mI M):=by
  apply Ep;intro i;rw[Bc];by_cases a:i<M.length
  ·rw[Cd a,(K4 a).1];rfl
  ·rw[BA (by omega),BA (by rw[AU];omega)];rfl
 have c:M.flatMap Js=(List.range M.length).flatMap (λi=>Js (mI M i)):=by
  conv=>lhs;rw[e]
  rw[EX]
 rw[c,EY,EY]
 congr 1
 refine Cq (λi a=>?_);show Js ((mI M i).1,C i)=Js (mI M i);rw[d i (A4.1 a)]
 rfl
theorem YH(m:By×By):Js m≠[]:=by
 unfold Js;rw[LG];simp
theorem IG.stop{M:List (By×By)}(_h:IG M){D:D9}{G:Gh}{I:LF}{C:IB}(c:TM M [] D G I C):Gg (CM M) (LM M) G I C:=by
 obtain⟨k,hk,a,_,_,_,b⟩:=c;have:k=M.length:=by
  rcases Bh k M.length with e|e
  ·obtain⟨d,m2⟩:=K4 e;obtain⟨f,e1⟩:=Ae.1 d;rw[BN f,A1]at a;have:=List.append_eq_nil_iff.1 a.symm;exact absurd this.1 (YH _)
  ·omega
 rw[this,<-Pi,Cy]at b;exact b
theorem Zk9{M:List (By×By)}(h:IG M){G:Gh}{I:LF}{C:IB}(a:Gg (CM M) (LM M) G I C){w:World}{tb d:Nat}{V:NV}{E:NS}{j:Value}(b:TW w tb d V E j G I C):(GN (λn=>C (n:Int)) (Dt (DT G d E))).1=Ij M:=by
 have f:=a.flt h.flat;have e:=a.same h.es (λx c=>by
  unfold LO at c;obtain⟨i,_,rfl⟩:=As.1 c;exact⟨i,rfl⟩) b
 rw[f.its b,e];exact dmF_M (λi g=>by
  have:=a.c ⟨[(mI M i).1],2,i⟩ (by rw[KT];exact As.2 ⟨i,A4.2 g,rfl⟩);exact this)
theorem IG.rd{M:List (By×By)}(h:IG M):LT (TM M) True (Ij M):=by
 refine⟨λ_=>⟨M.flatMap Js,rfl,0,Au _,by rw[BV],tidy_empty,λn c=>(by cases c),rfl,?_⟩,λr D G I C a d=>h.step a d,λD G I C a w tb rd V E vi e=>Zk9 h (h.stop a) e⟩;rw[Cs];exact⟨rfl,rfl,λx f=>(by cases f),λz b=>(by cases b),λz b=>(by cases b)⟩
def MB(b:Nat->Option By)(M:List (By×By)):Prop:=IG M/\∀m,m∈M↔∃i,i<8/\b i=some m.2/\m.1=fn i
theorem MB.uniq{b:Nat->Option By}{M f:List (By×By)}(h:MB b M)(g:MB b f):M=f:=by
 have d:∀{M:List (By×By)},IG M->M.Pairwise (λx y=>Hf x.1 y.1=true):=λ{M} p=>by
  rw[Bk];intro i j q k r;have:=p.srt i j r k;have l:mI M i=M[i]:=by unfold mI;rw[Ac q];rfl
  have m:mI M j=M[j]:=by unfold mI;rw[Ac k];rfl
  rw[l,m]at this;exact this
 have s:List.Perm M f:=(Cv ((d h.1).imp (λ{a b} c e=>by rw[e,KM]at c;cases c)) ((d g.1).imp (λ{a b} c e=>by rw[e,KM]at c;cases c))).2 (λx=>(h.2 x).trans (g.2 x).symm);refine Fb (le:=λx y:By×By=>Hf x.1 y.1=true) (λx y _ _ n o=>?_) (d h.1) (d g.1) s;have:=Oe n o;rw[KM]at this;cases this
theorem F5.mb{b:Nat->Option By}{G:Gh}{I:LF}{c:IB}(h:F5 b G I c){w:World}{tb a:Nat}{V:NV}{E:NS}{O:Value}(d:TW w tb a V E O G I c):∃M,MB b M/\(GN (λn=>c (n:Int)) (Dt (DT G a E))).1=Ij M:=by
 have C:FY G a [] a:=.inl ⟨rfl,rfl⟩;have F:=d.d.en [] a C;have K:=d.d.srt [] a C;refine⟨(E a).map (λx=>(x.1,c x.2.f)),⟨⟨λm p=>?_,λm p=>?_,by rw[AL];exact h.fl.len d,λi j H u=>?_⟩,λm=>⟨λp=>?_,λ⟨i,o,s,J⟩=>?_⟩⟩,?_⟩
 ·obtain⟨x,l,rfl⟩:=As.1 p;exact(h.fl.root d l).2.2.1
 ·obtain⟨x,l,rfl⟩:=As.1 p;exact h.fl.sz _ (h.fl.root d l).1
 ·rw[AL]at u;have e:∀k (B:k<(E a).length),mI ((E a).map (λx=>(x.1,c x.2.f))) k=(((E a)[k]).1,c ((E a)[k]).2.f):=λk B=>by
   unfold mI;rw[Bc,Ac B];rfl
  rw[e i (by omega),e j u];exact K i j _ _ H (Ac (by omega)) (Ac u)
 ·obtain⟨x,l,rfl⟩:=As.1 p;obtain⟨r,_,_,f,A,_⟩:=h.fl.root d l;obtain⟨i,o,e⟩:=h.nm _ r;have q:[x.1]=[fn i]:=e;injection q with q;refine⟨i,o,?_,q⟩;rw[q]at r
  cases s:b i with
  |none=>exact absurd r (h.no i o s _)
  |some t=>
   obtain⟨g,v,z⟩:=h.yes i o t s;have N:=KL h.fl.nd r;have D:=KL h.fl.nd v;rw[N]at D;have:x.2=⟨none,(g:Int)⟩:=BR D;show some t=some (c x.2.f);rw[this,z]
 ·obtain⟨g,v,z⟩:=h.yes i o _ s;refine As.2 ⟨(fn i,⟨none,(g:Int)⟩),(F (fn i) _).2 v,?_⟩;show(fn i,c (g:Int))=m;rw[z,<-J]
 ·rw[h.fl.its d];unfold GN;rw[Rh _ _ _ (λy L=>by
   obtain⟨x,_,rfl⟩:=As.1 L;exact⟨rfl,_,rfl⟩)]
  show Km++_=Km++_
  congr 1
  rw[EX,EX,EY,EY]
  congr 1
  refine Cq (λx l=>?_);obtain⟨_,_,_,f,A,_⟩:=h.fl.root d l;show Js (x.1,c ((x.2.f.toNat:Nat):Int))=Js (x.1,c x.2.f);rw[A];simp
theorem MB.set{b:Nat->Option By}{M:List (By×By)}(h:MB b M){G:Gh}{I:LF}{m:IB}(q:Gg (CM M) (LM M) G I m):F5 b G I m:=by
 have l:∀x∈LO M,∃i,i<M.length/\x=((mI M i).1,⟨none,(i:Int)⟩):=λx c=>by
  unfold LO at c;obtain⟨i,a,rfl⟩:=As.1 c;exact⟨i,A4.1 a,rfl⟩
 refine GG.set (C:=CM M) (es:=LO M) (λx c=>?_) h.1.flat (λx c=>?_) (λi a t f=>?_) (λi a f u r=>?_) q
 ·obtain⟨i,_,rfl⟩:=l x c;exact⟨i,rfl⟩
 ·obtain⟨i,a,rfl⟩:=l x c;obtain⟨j,g,_,e⟩:=(h.2 _).1 (K4 a).2;exact⟨j,g,e⟩
 ·obtain⟨k,d,e⟩:=CU.1 ((h.2 (fn i,t)).2 ⟨i,a,f,rfl⟩);have n:mI M k=(fn i,t):=by unfold mI;rw[Ac d,<-e];rfl
  refine⟨k,?_,?_⟩
  ·unfold LO;exact As.2 ⟨k,A4.2 d,by rw[n]⟩
  ·unfold CM;rw[n]
 ·obtain⟨k,d,e⟩:=l _ r;obtain⟨j,g,o,p⟩:=(h.2 _).1 (K4 d).2;rw[A9]at e;have:=Q4 a g (e.1.trans p);subst this;rw[f]at o;cases o
theorem all_ns{w:World}{tb f:Nat}{V:NV}{E:NS}{v:Value}{G:Gh}{I:LF}{m:IB}(c:TW w tb f V E v G I m)(h:TG G I):∀y∈Dt (DT G f E),Iw y.ns:=λy t=>by
 obtain⟨k,x,⟨b,o⟩,a,u,_⟩:=P7 (R:=λns=>∃b,FY G f ns b) (ch:=DT G f E) (λns x ⟨b,o⟩ a l=>by
  rcases Uj c h.ok ns with e|⟨g,i,e⟩
  ·rw[e]at a;exact absurd a BF
  ·rw[e]at a;obtain⟨z,j,rfl⟩:=As.1 a;have d:=(c.d.en ns g i z.1 z.2).1 j;rcases c.d.shp _ d with r|⟨n,p⟩
   ·have s:z.2.p=none:=r;have:(Jb z).2=some z.2.f.toNat:=by unfold Jb;rw[s];rfl
    rw[this]at l;cases l
   ·refine⟨n,.inr ?_⟩;have q:z.2=_:=p;rw[q]at d;exact d) 7 [] (λ_=>false) ⟨f,.inl ⟨rfl,rfl⟩⟩ y t
 rcases Uj c h.ok k with e|⟨g,i,e⟩
 ·rw[e]at a;exact absurd a BF
 ·rw[e]at a;obtain⟨z,j,rfl⟩:=As.1 a;have d:=(c.d.en k g i z.1 z.2).1 j;rw[u];exact h.ok.nms _ d
theorem M7{ns:LY}(h:Iw ns):(10:UInt8)∉BL (jn ns):=λb=>by
 have a:(10:UInt8)∈jl ns:=by
  unfold BL jn at b
  simpa using b
 unfold jl at a;obtain⟨n,c,a⟩:=EC.1 a;rcases AC.1 a with e|e
 ·cases e
 ·exact Th (h n c) (by decide) e
def IV(t:List UInt8):Prop:=∃u x,t=u++[x,10]/\x≠10
theorem UJ(t:List UInt8){c:UInt8}(b:c≠10){l:List UInt8}(d:10∉l):IV (t++(c::l)++[10]):=by
 have a:(c::l)≠[]:=by simp
 refine⟨t++(c::l).dropLast,(c::l).getLast a,?_,λe=>?_⟩
 ·have:=Fz a
  conv=>lhs;rw[<-this]
  simp only[Ax]
  rfl
 ·have:=List.getLast_mem a;rw[e]at this;rcases AC.1 this with q|q
  ·exact b q.symm
  ·exact d q
theorem IV.app(a:List UInt8){t:List UInt8}(h:IV t):IV (a++t):=by
 obtain⟨u,x,rfl,b⟩:=h;exact⟨a++u,x,by rw[Ax],b⟩
theorem ON(a b:By):Iy [a,b]=BL a++32::BL b++[10]:=by
 show Lib.join [BL a,BL b] [32]++[10]=_;simp[Lib.join,List.intercalate]
theorem en_lns(s:By)(h:0<s.size):IV (JJ s):=by
 unfold JJ;obtain⟨N,d⟩:∃N,(s.size+32-1)/32=N+1:=⟨(s.size+32-1)/32-1,by omega⟩;rw[d,Cp,Wi];have c:0<(BL (Hy s 32 N)).length:=by rw[DK,Qg];omega
 cases hl:BL (Hy s 32 N) with
 |nil=>rw[hl]at c;simp at c
 |cons b l=>
  have a:=(Ov (b::l)).2;have e:D6 (b::l)=IA (b.toNat/16)::(IA (b.toNat%16)::D6 l):=rfl;rw[e,AC,not_or]at a;rw[e,<-Ax];exact UJ _ (λq=>a.1 q.symm) a.2
theorem en_it{C b:NB}{y:It}(l:Iw y.ns)(k:10∉BL (b y.f))(i:y.k=2->(C y.f).size<=1280):IV (IM C b y):=by
 unfold IM
 split
 ·rw[ON];exact UJ _ (by decide) (M7 l)
 ·split
  ·rename_i g;have j:=i g;by_cases d:0<(C y.f).size
   ·exact(en_lns _ d).app _
   ·have e:JJ (C y.f)=[]:=by
     unfold JJ;rw[show(C y.f).size=0 by omega];rfl
    rw[e,Cf,LG];have f:=(Pq j).2;have h:(10:UInt8)∉BL (Il (C y.f).size):=λa=>by
     have:=(f 10 (by rw[show BL (Il (C y.f).size)=Lib.itoa ((C y.f).size:Int) from Jo _]at a;exact a)).1
     revert this;decide
    have:=UJ (BL ⟨#[102]⟩++32::BL (jn y.ns)) (c:=32) (by decide) h
    simpa [List.append_assoc] using this
  ·rw[LG];have:=UJ (BL ⟨#[108]⟩++32::BL (jn y.ns)) (c:=32) (by decide) k
   simpa [List.append_assoc] using this
theorem O8{C:NB}:∀(L:List It) (st:List UInt8×(NB)),IV st.1->(∀n,10∉BL (st.2 n))->(∀y∈L,Iw y.ns/\(y.k=2->(C y.f).size<=1280))->IV (L.foldl (Ll C) st).1
 |[],_,h,_,_=>h
 |y::L,st,h,h2,h3=>by
  obtain⟨a,b⟩:=h3 y (by simp);refine O8 L (Ll C st y) ((en_it a (h2 _) b).app _) (λn=>?_) (λz c=>h3 z (AF _ c));show 10∉BL (I5 st.2 y n);unfold I5
  split
  ·show 10∉BL (if n=y.f then jn y.ns else st.2 n)
   split
   ·exact M7 a
   ·exact h2 n
  ·exact h2 n
theorem YG{w:World}{tb d:Nat}{V:NV}{E:NS}{f:Value}{G:Gh}{I:LF}{a:IB}(b:TW w tb d V E f G I a)(h:TG G I):IV (GN (λn=>a (n:Int)) (Dt (DT G d E))).1:=
 O8 _ _ ⟨[115,105,108],116,rfl,by decide⟩ (λ_ e=>(by simp[BL]at e)) (λy c=>⟨all_ns b h y c,(Sk b h).ok.size y c⟩)
theorem IV.not10{t:List UInt8}(h:IV t)(a:IV (t++[10])):False:=by
 obtain⟨u,x,rfl,hx⟩:=h;obtain⟨v,y,e,b⟩:=a;have:=Cu List.reverse e;simp at this;exact b this.1.symm
theorem ZK(a:List UInt8):LT (λ_ _ _ _ _=>False) False a:=⟨λh=>h.elim,λ_ _ _ _ _ h=>h.elim,λ_ _ _ _ h=>h.elim⟩
open Tryz
def NK(w:World)(db:Nat)(vn:Value)(C:NB)(L:List It)(e:Ending)(w':World):Prop:=
 ∃stb vf' va s,e=.returned (.pointer (some ⟨stb,0,none⟩))/\w.heap.size<=stb/\GZ 512 C L (Hp DR) s/\GW w' stb db va (s.tp:Nat) (s.tx:Nat) ((1:Nat):Int) vf' vn (.slice none 0 0) (.slice none 0 0) (s.D.set 0 (Gv 0 s.tp s.tx)) [] []/\Hd w' vf' (s.D.set 0 (Gv 0 s.tp s.tx))/\Sl w' 350 2 va s.es.length (Dr s.es)/\(∀k,Own vf' k->w.heap.size<=k/\k≠stb/\¬Own va k/\k≠db/\¬Own vn k)/\(∀k,Own va k->w.heap.size<=k/\k≠stb/\k≠db/\¬Own vn k)/\Fr (λk=>k=db\/Own vn k) w w'
theorem Zig(w:World)(d tb:Nat)(J m:Value)(h:DU w d J m (.slice none 0 0) (.slice none 0 0) DR)(ab:¬Own m d){rd:Nat}{V:NV}{E:NS}{vi:Value}{G:Gh}{I:LF}{CI:IB}{ch:LY->List Ek}{dv:NV}{C:NB}(Q:IP w tb rd V E vi G I CI ch dv C)(ac:(DF 512 (Hp DR) C (Dt ch)).2.ps≠[]):
  Cl 99 #[.pointer (some ⟨d,0,none⟩),.pointer (some ⟨tb,0,none⟩)] w (NK w d m C (Dt ch)):=by
 obtain⟨W,hW,xW,kW,sW,o⟩:=De w [.pointer (some ⟨d,0,none⟩),.slice none 0 0,.int .i64 15,.int .u64 0,.int .u64 0] 179;have b:∀k,¬Own (.slice none 0 0) k:=λk e=>by simp[Own,Value.ownBlock]at e
 have ar:=h.1.lt;have aa:Hr (Hp DR):=⟨λj k x y _ hj=>(by cases hj),Au _,by show 15<1536;omega,J9,λx hx=>(by cases hx)⟩;obtain⟨F,P⟩:=ex (DF 512 (Hp DR) C (Dt ch));obtain⟨f,R⟩:∃n,n=GA F.1:=⟨_,rfl⟩;obtain⟨g,T⟩:∃n,n=GE F.1:=⟨_,rfl⟩;have ay:f<65536:=by rw[R];exact UR _
 have az:g<18446744073709551616:=by rw[T];exact PO _
 have ad:GW W w.heap.size d (.slice none 0 0) ((15:Nat):Int) 0 ((0:Nat):Int) J m (.slice none 0 0) (.slice none 0 0) DR [] []:=by
  refine⟨xW,⟨kW _ _ _ h.1,⟨h.2.1.1.kept (λk a _=>o.block k a),h.2.1.2⟩,h.2.2⟩,Hw.nil _,⟨rfl,.inl ⟨rfl,rfl⟩⟩,by omega,⟨λe=>?_,b _,b _⟩,⟨ab,b _,b _⟩,λk _=>b k,λk _=>b k,λk _=>b k⟩;have:=h.2.1.1.lt e;omega
 obtain⟨VK,U⟩:∃V,V=Ic 0 (Gv 0 f g):=⟨_,rfl⟩;have HK:Hid (Cl 74 #[.pointer (some ⟨w.heap.size,0,none⟩),.pointer (some ⟨tb,0,none⟩)] W λe X=>e=.returned (.tuple #[])/\(X.cell? ⟨w.heap.size,4,none⟩=some (.int .u64 1)/\X.cell? ⟨w.heap.size,2,none⟩=some (.int .i64 (f:Nat))/\X.cell? ⟨w.heap.size,3,none⟩=some (.int .u64 (g:Nat)))/\
   Hid (Cl 160 #[.agg #[.int .u64 0,.int .i64 (f:Nat),.int .u64 (g:Nat)]] X.drew λe Y=>e=.returned VK/\(Y.cell? ⟨w.heap.size,4,none⟩=some (.int .u64 1)/\Y.cell? ⟨w.heap.size,2,none⟩=some (.int .i64 (f:Nat))/\Y.cell? ⟨w.heap.size,3,none⟩=some (.int .u64 (g:Nat)))/\
    Hid (Cl 159 #[.pointer (some ⟨d,0,none⟩),VK] Y λe Z=>e=.returned (.tuple #[])/\(Z.cell? ⟨w.heap.size,4,none⟩=some (.int .u64 1)/\Z.cell? ⟨w.heap.size,2,none⟩=some (.int .i64 (f:Nat))/\Z.cell? ⟨w.heap.size,3,none⟩=some (.int .u64 (g:Nat)))/\
     Hid (Cl 161 #[.pointer (some ⟨d,0,none⟩)] Z λe V=>e=.returned (.tuple #[])/\Hid (NK w d m C (Dt ch) (.returned (.pointer (some ⟨w.heap.size,0,none⟩))) V))))):=by
  have am:IP W tb rd V E vi G I CI ch dv C:=Q.below o;have ax:Hc W w.heap.size d (.slice none 0 0) (Hp DR) J m (.slice none 0 0) (.slice none 0 0) [] []:=⟨ad,⟨rfl,.inl ⟨rfl,rfl⟩⟩,λk a=>absurd a (b k)⟩;refine(RY ax aa ⟨1,by omega,by show Dh [] 1<=0;decide⟩ am (Au _) (Au _) (by show 0+1<_;omega)).mono ?_;rintro e X⟨rfl,c,s,aF,aE,ae,aH,O,g2,g3,_,s2,_,g7,D,_⟩;have H:GZ 512 C (Dt ch) (Hp DR) c:=by
   rcases g2.cases with⟨h0,_⟩|a
   ·exact absurd h0 ac
   ·exact a
  have M:c.tp=f:=by rw[H.tp,R,P]
  have N:c.tx=g:=by rw[H.tx,T,P]
  have e3:c.tn=1:=H.tn;have A:=O.st;rw[M,N,e3]at A;have s5:=O.sk;have s6:=O.ok;have s7:∀k,Own s k->W.heap.size<=k:=λk a=>(g7 k a).elim (λe=>absurd e (b k)) id
  have aL:ae.length<=9000:=by
   have h3:ae.length<=0+(DF 512 (Hp DR) C (Dt ch)).2.ps.length+1:=g3;obtain⟨cl,aq,_⟩:=Um 512 (Hp DR) C (Dt ch);have a:=QU Q.ok (Dl [] cl 15 DR) (aa.env cl) (15+1) (by omega);change MA (Dv (Hp DR) cl C (Dt ch)) at a;have:=a.n2;rw[aq]at h3;omega
  have aC:=A;refine⟨rfl,⟨(A.row.cell 4).trans rfl,(A.row.cell 2).trans rfl,(A.row.cell 3).trans rfl⟩,?_⟩;refine(Ox X.drew 0 f g (by omega) ay az).mono ?_;rintro e Y⟨rfl,z⟩;have p:Bw X Y:=⟨z.os,z.tape,z.output,z.size,z.block⟩;have B:=aC.below p;have af:Sl Y 350 2 s c.es.length (Dr c.es):=s5.kept (λk a _=>p.block k a);refine⟨by rw[U],⟨(B.row.cell 4).trans rfl,(B.row.cell 2).trans rfl,(B.row.cell 3).trans rfl⟩,?_⟩;rw[U];refine(B.write_call (by omega) 0 (by omega) _ (Ul _ _ _)).mono ?_;intro e Z hz;obtain⟨aG,l,u2,t⟩:=B.write hz;have aA:∀k,Own s k->k<Y.heap.size:=λk a=>af.lt a
  have aD:Sl Z 350 2 s c.es.length (Dr c.es):=af.fr t (λk a e=>s6 k a (by rcases e with e|e|e;exact .inr (.inl e);exact .inr (.inr (.inl e));exact .inr (.inr (.inr (.inl e)))));refine⟨hz.1,⟨(l.row.cell 4).trans rfl,(l.row.cell 2).trans rfl,(l.row.cell 3).trans rfl⟩,?_⟩;refine(Ry Z d J m aG aE _ l.disk l.nd.1).mono ?_;rintro e V⟨rfl,L,v1,v2,r,v4⟩;have aM:w.heap.size+1<=X.heap.size:=by have:=D.size;omega
  have aN:=p.size;have aO:=t.size;have au:∀k,k<w.heap.size->¬(k=d\/Own m k)->¬GY w.heap.size d m (.slice none 0 0) (.slice none 0 0) k:=λk a q e=>by
   rcases e with e|e|e|e|e
   ·omega
   ·exact q (.inl e)
   ·exact q (.inr e)
   ·exact b _ e
   ·exact b _ e
  have ak:GW V w.heap.size d s (f:Nat) (g:Nat) ((1:Nat):Int) L m (.slice none 0 0) (.slice none 0 0) (c.D.set 0 (Gv 0 f g)) [] []:=⟨l.row.fr r (λe=>l.ne e),v1,Hw.nil _,⟨rfl,.inl ⟨rfl,rfl⟩⟩,l.ne,⟨l.ns.1,b _,b _⟩,⟨l.nd.1,b _,b _⟩,λk _=>b k,λk _=>b k,λk _=>b k⟩;have av:GW V w.heap.size d s (c.tp:Nat) (c.tx:Nat) ((1:Nat):Int) L m (.slice none 0 0) (.slice none 0 0) (c.D.set 0 (Gv 0 c.tp c.tx)) [] []:=by rw[M,N];exact ak
  have aw:Hd V L (c.D.set 0 (Gv 0 c.tp c.tx)):=by rw[M,N];exact v2
  refine⟨rfl,w.heap.size,L,s,c,rfl,Aa _,H,av,aw,aD.fr r (λk a e=>s6 k a (.inr (.inl e))),λk a=>?_,λk a=>?_,?_⟩
  ·have h1:=v4 k a;refine⟨by omega,by omega,λe=>(by have:=aA k e;omega),λe=>(by have:=l.disk.1.lt;omega),λe=>(by have:=l.disk.2.1.1.lt e;omega)⟩
  ·exact⟨(by have:=s7 k a;omega),λe=>s6 k a (.inl e),λe=>s6 k a (.inr (.inl e)),λe=>s6 k a (.inr (.inr (.inl e)))⟩
  ·refine⟨r.os.trans (t.os.trans (p.os.trans (D.os.trans o.os))),r.tape.trans (t.tape.trans (p.tape.trans (D.tape.trans o.tape))),r.output.trans (t.output.trans (p.output.trans (D.output.trans o.output))),by have:=r.size;omega,λk a q=>?_⟩;have aB:¬Own aF k:=λe=>(s2 k e).elim (b _) (λe=>by omega)
   rw[r.block k (by omega) (λe=>q (.inl e)),t.block k (by omega) (λe=>by rcases e with e|e|e;exact q (.inl e);exact q (.inr e);exact aB e),p.block k (by omega),D.block k (by omega) (au k a q),o.block k a]
 have HW:=Db hW;have ag:=Db (NQ 0 (f:Nat) (g:Nat));have aP:IntKind.u64.wrap (1-1)=0:=by decide
 clear h ab Q ac hW xW kW sW o ad b ar U aa P R T;go_enter func99,ntmps99;go_upto_region 2 with fail;rw[show w.alloc (.cells #[.pointer (some ⟨d,0,none⟩),.slice none 0 0,.int .i64 15,.int .u64 0,.int .u64 0] 179)=W from Da HW];go_upto_region 3 with(go_at_call 74;refine(Da HK).mono ?_;rintro e X⟨rfl,an,ah⟩);refine AE (S:=λX=>X.cell? ⟨w.heap.size,4,none⟩=some (.int .u64 1)/\X.cell? ⟨w.heap.size,2,none⟩=some (.int .i64 (f:Nat))/\X.cell? ⟨w.heap.size,3,none⟩=some (.int .u64 (g:Nat))) (by kernel_rfl) an (λaK=>?_);refine tk 0 ?_;refine tk 1 ?_;refine tk 2 ?_;refine tk 3 ?_;refine tk 4 ?_;refine A5 (i:=5) (v:=.int .u64 0) rfl (by kernel_rfl) (by kernel_rfl) (by kernel_rfl) (λ_ _ _ h=>h) (Or.inl ⟨by rfl,?_⟩) (by assumption) ?_
 ·intro w al;(try dsimp only at al);go_simp
  rfl
 try simp only[pE]
 refine tk 6 ?_;refine tk 7 ?_;refine tk 8 ?_;refine tk 9 ?_;refine tk 10 ?_;refine A5 (i:=11) (v:=.agg #[.int .u64 0,.int .i64 (f:Nat),.int .u64 (g:Nat)]) rfl (by kernel_rfl) (by kernel_rfl) (by kernel_rfl) (λ_ _ _ h=>h) (Or.inl ⟨by rfl,λV _=>Ow V 191 _ rfl (vs:=#[(0,.int .u64 0),(1,.agg #[.int .i64 (f:Nat),.int .u64 (g:Nat)])]) (by simp[Act.eval]) (Da ag)⟩) (by assumption) ?_
 try simp only[pE]
 refine rk 12 (λK u=>?_);go_simp;go_at_call 160;refine(Da ah).mono ?_;rintro e Y⟨rfl,ao,ai⟩;go_wp2_with fail;refine u.out _ _ ao (λaI=>?_);clear u K
 try simp only[pE]
 refine rk 13 (λK u=>?_);go_simp;go_at_call 159;refine(Da ai).mono ?_;rintro e Z⟨rfl,ap,aj⟩;go_wp2_with fail;refine u.out _ _ ap (λaJ=>?_);clear u K
 try simp only[pE]
 refine AO (by kernel_rfl) ?_ _;go_wp2_with(go_at_call 161;refine(Da aj).mono ?_;rintro e V⟨rfl,HP⟩);go_ret;exact Da HP

def Nf(s:KS)(D:LY):KS:=⟨s.es,s.tp,s.tx,s.tn,D⟩
theorem Gi.disk{s:KS}{C:NB}{L:List It}(c:Gs s)(b:F6 C L)(h:Gi s C L){D:LY}(e:∀r q:Nat,((r:Int),(q:Int))∈s.es->D[q]?=s.D[q]?):Gi (Nf s D) C L:=by
 have i:=PI.all c false b.ok (by have:=b.puts s false;omega);have f:Hi (Dl s.es false s.tp s.D) (Dl s.es false s.tp D) (Dv s false C L).2:=
  ⟨λy k=>h.es.at i.rol false _ _ k,λx d=>(by rw[h.ps]at d;cases d),λr q j=>e r q ((c.ok.env false).at_some j).1,rfl⟩
 have g:=f.keep C (s.tp+1) ⟨s.tp+1,[],[]⟩ L ⟨λ_ h=>h,λ_ h=>h⟩;have a:Dv (Nf s D) false C L=((Dv s false C L).1,lk (s.tp+1) (Dv s false C L).2):=g;exact⟨by rw[a];rfl,by rw[a];exact h.es,by rw[a];exact h.tp,by rw[a];exact h.tx⟩
theorem Gs.disk{s:KS}(h:Gs s){D:LY}(a:D.length=1536):Gs (Nf s D):=
 ⟨⟨h.ok.srt,h.ok.len,h.ok.tp,a,h.ok.pl⟩,h.cur,h.inj,h.tpc,h.fr,h.lo,h.tp⟩
section
variable{F:LY}{ps:LB}{st:Nat}{lost:List Bool}
end
structure At(en:List Nat)(e j:Nat):Prop where
 lt:j<en.length
 lo:∀i x,i+1=j->en[i]?=some x->x<=e
 hi:∀i x,j<=i->i+1<en.length->en[i]?=some x->e<x
theorem Sh:Hr (Hp DR):=⟨λj k x y _ a=>(by cases a),Au _,by show 15<1536;omega,J9,λx b=>(by cases b)⟩
theorem Mq:512<=DY (Dh []) 96:=by decide +kernel
theorem S1:Gs (Hp DR):=
 ⟨Sh,λx a=>(by cases a),λx a=>(by cases a),by show 0<Dh [] (15/16);decide,Mq,λx a=>(by cases a),Aa _⟩
theorem ZR(cl:Bool)(r:Nat)(b:By):(Dl [] cl 15 DR).stay r b=none:=rfl
theorem S2{C:NB}{L:List It}(c:GD C L):(DF 512 (Hp DR) C L).2.ps≠[]/\GA (DF 512 (Hp DR) C L).1∈(DF 512 (Hp DR) C L).2.ps.map (·.1):=by
 obtain⟨cl,a,_⟩:=Um 512 (Hp DR) C L;obtain⟨st0,r,b,e,f,_⟩:=Rc Sh cl c;rw[a,e,f];have d:(Dl (Hp DR).es cl (Hp DR).tp (Hp DR).D).stay r b=none:=ZR cl r b;unfold FZ.put;rw[d];simp
structure Fst(C:NB)(L:List It)(s:KS):Prop where
 inv:Gs s
 ck:Iq s
 st:Gi s C L
 tn:s.tn=1
theorem fst_of{C:NB}{L:List It}(c:F6 C L){s:KS}(a:GZ 512 C L (Hp DR) s):Fst C L (Nf s (s.D.set 0 (Gv 0 s.tp s.tx))):=by
 obtain⟨h1,f⟩:=S2 c.ok;have b:Gs s:=a.inv' (Aa _) S1 c (by rw[a.tp];exact f) (Au _);have g:Gi s C L:=a.stands S1 c;have h:s.D.length=1536:=b.ok.dl;have e:s.tx<18446744073709551616:=by rw[a.tx];exact PO _
 have d:s.tn=1:=a.tn;refine⟨b.disk (by rw[Ce];exact h),⟨e,by show 1<=s.tn;omega,?_,s.tp,s.tx,by have:=b.ok.tp;omega,e,?_⟩,g.disk b c (λr q i=>?_),d⟩
 ·show(s.D.set 0 (Gv 0 s.tp s.tx))[s.tn%2]?=some (Gv s.tn s.tp s.tx);rw[d,AB (by decide),a.D,show(Hp DR).tn+1=1 from rfl,BC (by rw[QR];show 1%2<DR.length;rw[J9];omega)]
 ·show(s.D.set 0 (Gv 0 s.tp s.tx))[(s.tn+1)%2]?=some (Gv (s.tn-1) s.tp s.tx);rw[d,BC (by omega)]
 ·have:=b.lo _ i;simp only[Bp]at this;rw[AB (by omega)]
def LQ(w:World)(vb:Nat)(b:Nat->Option By):Prop:=∃tb db stb G I CI va vf vn s,Hg w vb tb db stb/\PS w tb G I CI/\F5 b G I CI/\Hc w stb db va s vf vn (.slice none 0 0) (.slice none 0 0) [] []/\GG b s/\Gs s/\Iq s/\s.tn=1
theorem LQ.vl{w:World}{a:Nat}{b:Nat->Option By}(h:LQ w a b):ID w a b:=by
 obtain⟨tb,db,aa,G,I,c,va,vf,vn,s,d,e,f,_⟩:=h;exact⟨tb,G,I,c,d.vol,e,f⟩
theorem LQ.below{w w':World}{d:Nat}{b:Nat->Option By}(h:LQ w d b)(a:Bw w w'):LQ w' d b:=by
 obtain⟨tb,f,m,G,I,e,n,o,q,s,c,⟨l,V,E,p,k⟩,g,i,j⟩:=h;exact⟨tb,f,m,G,I,e,n,o,q,s,(a.block _ (FX.lt c)).trans c,⟨l,V,E,p,k.below a (Aa _)⟩,g,i.below a,j⟩
theorem ZkE(w:World)(tb:Nat){G:Gh}{I:LF}{l:IB}(B:PS w tb G I l){b:Nat->Option By}(i:F5 b G I l):
  Cl 40 #[.pointer (some ⟨tb,0,none⟩)] w λe w'=>∃d,e=.returned (.pointer (some ⟨d,0,none⟩))/\LQ w' d b/\Bw w w':=by
 have J:Hid (Cl 98 #[] w λe X=>∃a,e=.returned (.pointer (some ⟨a,0,none⟩))/\Hid (Cl 99 #[.pointer (some ⟨a,0,none⟩),.pointer (some ⟨tb,0,none⟩)] X λe Y=>∃c,e=.returned (.pointer (some ⟨c,0,none⟩))/\Hid (Cl 77 #[.pointer (some ⟨tb,0,none⟩),.pointer (some ⟨a,0,none⟩),.pointer (some ⟨c,0,none⟩)] Y λe Z=>∃d,e=.returned (.pointer (some ⟨d,0,none⟩))/\Hid (LQ Z d b/\Bw w Z)))):=by
  obtain⟨W,V,E,vi,r⟩:=B;refine(VJ w).mono ?_;rintro e X⟨a,aa,p,rfl,ac,L,-,f,-,y,-⟩;refine⟨a,rfl,?_⟩;have Q:=f.size;have t:=r.below f (Aa _);obtain⟨n,N⟩:=i.fl.keep t;have v:=i.fl.its t;have z:=S2 n.ok;rw[<-v]at z n;refine(Zig X a tb aa p L (λe=>(y _ e).2 rfl) N z.1).mono ?_;rintro e Y⟨c,D,C,s,rfl,af,q,M,ab,P,ae,T,g⟩;refine⟨c,rfl,?_⟩;have R:=g.size;refine(R6 Y tb a c).mono ?_;rintro e Z⟨rfl,O,o,ad⟩;have S:Bw w Y:=⟨g.os.trans f.os,g.tape.trans f.tape,g.output.trans f.output,Af Q R,λk h=>(g.block k (by omega) (λe=>by
   rcases e with e|e
   ·omega
   ·have:=(y _ e).1;omega)).trans (f.block k h)⟩
  have x:Bw w Z:=S.trans (o.mono (by omega));have j:=fst_of n q;have u:=r.below x (Aa _);have U:s.tn=1:=q.tn;have A:∀k,¬Own (.slice none 0 0) k:=λk e=>by simp[Own,Value.ownBlock]at e
  refine⟨Y.heap.size,rfl,⟨tb,a,c,G,I,l,C,D,p,Nf s (s.D.set 0 (Gv 0 s.tp s.tx)),O,⟨W,V,E,vi,u⟩,i,⟨?_,P.kept (λk h _=>o.block k h),λk h e=>?_⟩,i.kept u (by rw[<-v];exact j.st),j.inv,j.ck,j.tn⟩,x⟩
  ·show GW Z c a C (s.tp:Nat) (s.tx:Nat) (s.tn:Nat) D p (.slice none 0 0) (.slice none 0 0) (s.D.set 0 (Gv 0 s.tp s.tx)) [] [];rw[U];exact M.below o
  ·have m:=T k h;rcases e with e|e|e|e|e
   ·exact m.2.1 e
   ·exact m.2.2.1 e
   ·exact m.2.2.2 e
   ·exact A _ e
   ·exact A _ e
 clear B i;go_enter func40,ntmps40;go_wp2_with(first|(go_at_call 98;refine(Da J).mono ?_;rintro e X⟨a,rfl,F⟩)|(go_at_call 99;refine(Da F).mono ?_;rintro e Y⟨c,rfl,H⟩)|(go_at_call 77;refine(Da H).mono ?_;rintro e Z⟨d,rfl,K⟩));go_ret;exact⟨d,rfl,Da K⟩
theorem ID.dump{w : World}{vb : Nat}{b : Nat → Option ByteArray}(h : ID w vb b){M : List (ByteArray × ByteArray)}(hM : MB b M){n0 : Nat}(hn0 : n0 ≤ w.heap.size)(htab : Lib.TabBelow prog n0 w "internal/strconv.uint64pow10" .u64 Lib.pow10Tab) :
  Cl 19 #[.pointer (some ⟨vb,0,none⟩)] w λe w'=>e=.returned (.string (ba (Ij M)))/\Bw w w':=by
 obtain⟨tb,G,I,CI,hv,⟨rd,V,E,vi,hT⟩,hs⟩:=h;obtain⟨M',hM',hd⟩:=hs.mb hT;obtain rfl:=hM.uniq hM';have hm:=Kn w vb tb hv;have HO:Hid (Cl 54 #[.pointer (some ⟨tb,0,none⟩)] w λe w'=>e=.returned (.string (ba (Ij M)))/\Hid (Bw w w')):=by
  refine(dump_code w n0 tb rd (hs.fl.keep hT).2 hn0 htab).mono ?_;rintro e w'⟨rfl,h1⟩;exact⟨by rw[<-hd];rfl,h1⟩
 obtain⟨db,stb,hv⟩:=hv;have c1:w.cell? ⟨vb,1,none⟩=some (.pointer (some ⟨tb,0,none⟩)):=(FX.cell hv 1).trans rfl;clear hv hT hs htab hM hM' hd;go_enter func19,ntmps19;go_wp2_with(first|(go_at_call 53;refine hm.mono ?_;rintro e w'⟨rfl,rfl⟩)|(go_at_call 54;refine(Da HO).mono ?_;rintro e w'⟨rfl,HB⟩));go_ret;exact⟨rfl,Da HB⟩
theorem PH{b:Nat->Option By}{M:List (By×By)}(d:MB b M):(Ij M).length<=100000:=by
 have g:∀l:List (By×By),(∀m∈l,DL m.1=true/\m.2.size<=1280)->(l.flatMap Js).length<=3000*l.length:=by
  intro l
  induction l with
  |nil=>intro _;simp
  |cons m l ih=>
   intro h;obtain⟨a,c⟩:=h m (by simp);have h3:=ih (λx f=>h x (AF _ f));have h4:(Js m).length<=3000:=by
    unfold Js;have:=TL _ c;have:=TH m.2.size c;have h5:(jn [m.1]).size=1+m.1.size:=by rw[<-DK,UM,Al,DK];omega
    have h6:m.1.size<=12:=by
     unfold DL at a;simp only[A6,AH]at a;exact a.1.2
    rw[Ab,Re];show 1+_+_+3+_<=_;omega
   rw[A1,Ab,Al];omega
 have a:=g M (λm e=>⟨d.1.nm m e,d.1.sz m e⟩);have c:=d.1.le;unfold Ij;rw[Ab];show 5+_<=_;omega
theorem restore_yes(w : World)(hp : Gd w)(he : GU w)(n0 : Nat)(hn0 : n0 ≤ w.heap.size)(htab : Lib.TabBelow prog n0 w "internal/strconv.uint64pow10" .u64 Lib.pow10Tab)(h4 : 4 ≤ w.heap.size){b : Nat → Option ByteArray}{M : List (ByteArray × ByteArray)}(hM : MB b M) :
  Cl 15 #[.string (ba (Ij M))] w λe w'=>∃vb:Nat,e=.returned (.tuple #[.pointer (some ⟨vb,0,none⟩),.int .i64 0])/\LQ w' vb b/\Bw w w':=by
 have hl:=PH hM;have HR:Hid (Cl 39 #[.string (ba (Ij M))] w λe X=>∃tb:Nat,e=.returned (.tuple #[.pointer (some ⟨tb,0,none⟩),.bool true])/\Hid (Cl 40 #[.pointer (some ⟨tb,0,none⟩)] X λe Y=>∃vb:Nat,e=.returned (.pointer (some ⟨vb,0,none⟩))/\Hid (LQ Y vb b/\Bw w Y))):=by
  refine(read_rd w hp he n0 hn0 htab h4 (Ij M) (by omega) hM.1.rd).mono ?_;rintro e X⟨hc,hX⟩;rcases hc with⟨_,h⟩|⟨tb,G,I,C,D,rfl,h1,h2,h3,_⟩
  ·exact absurd trivial h
  ·refine⟨tb,rfl,?_⟩;refine(ZkE X tb h1 (hM.set (hM.1.stop (h3 trivial)))).mono ?_;rintro e Y⟨vb,rfl,q1,q2⟩;exact⟨vb,rfl,q1,hX.trans (q2.mono hX.size)⟩
 clear hp he htab hM hl;go_enter func15,ntmps15;go_wp2_with(first|(go_at_call 39;refine(Da HR).mono ?_;rintro e X⟨tb,rfl,H2⟩)|(go_at_call 40;refine(Da H2).mono ?_;rintro e Y⟨vb,rfl,HP⟩));exact Ap (v:=.tuple #[.pointer (some ⟨vb,0,none⟩),.int .i64 0]) (by simp[results,results15,go_sem]) rfl ⟨vb,rfl,Da HP⟩
theorem restore_no(w : World)(hp : Gd w)(he : GU w)(n0 : Nat)(hn0 : n0 ≤ w.heap.size)(htab : Lib.TabBelow prog n0 w "internal/strconv.uint64pow10" .u64 Lib.pow10Tab)(h4 : 4 ≤ w.heap.size){b : Nat → Option ByteArray}{M : List (ByteArray × ByteArray)}(hM : MB b M)(hE : IV (Ij M)) :
  Cl 15 #[.string (ba (Ij M++[10]))] w λe w'=>e=.returned (.tuple #[.pointer none,.int .i64 11])/\Bw w w':=by
 have hl:=PH hM;have HR:Hid (Cl 39 #[.string (ba (Ij M++[10]))] w λe X=>e=.returned (.tuple #[.pointer none,.bool false])/\Hid (Bw w X)):=by
  refine(read_rd w hp he n0 hn0 htab h4 (Ij M++[10]) (by rw[Ab];show _+1<=_;omega) (ZK _)).mono ?_;rintro e X⟨hc,hX⟩;rcases hc with⟨rfl,_⟩|⟨tb,G,I,C,D,_,h1,h2,h3,_,X',rd,V,E,vi,ht,hd⟩
  ·exact⟨rfl,hX⟩
  ·have:=YG ht h2;rw[hd]at this;exact(hE.not10 this).elim
 clear hp he htab hM hl hE;go_enter func15,ntmps15;go_wp2_with(go_at_call 39;refine(Da HR).mono ?_;rintro e X⟨rfl,HP⟩);exact Ap (v:=.tuple #[.pointer none,.int .i64 11]) (by simp[results,results15,go_sem]) rfl ⟨rfl,Da HP⟩
def qa:By:=⟨#[47,97]⟩
def Ht:By:=⟨#[47,97,47,102]⟩
def qg:By:=⟨#[47,103]⟩
def na:By:=⟨#[97]⟩
def nf:By:=⟨#[102]⟩
def ng:By:=⟨#[103]⟩
def d3:By:=⟨#[120,121,122]⟩
def s6:By:=⟨#[0,0,0,120,121,122]⟩
def G1(nb:Nat):Gh:=[([na],⟨some ⟨nb,0,none⟩,0⟩)]
def G2(nb:Nat):Gh:=[([na],⟨some ⟨nb,0,none⟩,0⟩),([na,nf],⟨none,0⟩)]
def G3(nb:Nat):Gh:=[([na],⟨some ⟨nb,0,none⟩,0⟩),([na,nf],⟨none,0⟩),([ng],⟨none,0⟩)]
theorem nm_a:Df qa=[na]:=by kernel_rfl
theorem nm_af:Df Ht=[na,nf]:=by kernel_rfl
theorem nm_g:Df qg=[ng]:=by kernel_rfl
theorem ok_a:DL na=true:=by kernel_rfl
theorem ok_f:DL nf=true:=by kernel_rfl
theorem ok_g:DL ng=true:=by kernel_rfl
theorem Sc:IL [] [] qa=0:=by kernel_rfl
theorem XL(nb:Nat):Ik (G1 nb) [] Ht 3 d3=0:=by kernel_rfl
theorem X7(nb:Nat):Gl (G1 nb) (Df Ht)=none:=by kernel_rfl
theorem Se(nb:Nat):Gl (G2 nb) (Df Ht)=some ⟨none,0⟩:=by kernel_rfl
theorem XR(nb:Nat):Lo (G2 nb) Ht 0 9=0:=by kernel_rfl
theorem Sd(nb:Nat):Ii (G2 nb) Ht qg=0:=by kernel_rfl
theorem Sb(nb:Nat):Iz (G3 nb) qa=7:=by kernel_rfl
theorem XO(nb:Nat):Hx (G3 nb) qg=0:=by kernel_rfl
theorem XZ(nb:Nat):Gl (G3 nb) (Df qg)=some ⟨none,0⟩:=by kernel_rfl
theorem XS:Hu ⟨#[]⟩ 3 d3=s6:=by kernel_rfl
theorem OZ:Lc s6 0 9=s6:=by kernel_rfl
theorem LL(nb:Nat):Gk (G3 nb):=by
 refine⟨λx a=>?_,λx a=>?_,λx a=>?_,?_,λns n u b=>?_⟩
 ·rcases AC.1 a with rfl|a
  ·exact λm b=>by rw[Ad.1 b];exact ok_a
  rcases AC.1 a with rfl|a
  ·intro m b;rcases AC.1 b with rfl|b
   ·exact ok_a
   ·rw[Ad.1 b];exact ok_f
  ·rw[Ad.1 a];exact λm b=>by rw[Ad.1 b];exact ok_g
 ·rcases AC.1 a with rfl|a
  ·exact λe=>by cases e
  rcases AC.1 a with rfl|a
  ·exact λe=>by cases e
  ·rw[Ad.1 a];exact λe=>by cases e
 ·rcases AC.1 a with rfl|a
  ·show 1<=6;omega
  rcases AC.1 a with rfl|a
  ·show 2<=6;omega
  ·rw[Ad.1 a];show 1<=6;omega
 ·show([[na],[na,nf],[ng]]:List (LY)).Nodup
  decide
 ·have d:(G3 nb)[0]?=some ([na],⟨some ⟨nb,0,none⟩,0⟩):=rfl;have c:∀{l m:LY} {x y:By},l++[x]=m++[y]->l=m:=λ{l m x y} e=>by
   have:=Cu List.dropLast e
   rwa [CV,CV]at this
  rcases AC.1 b with e|b
  ·rw[A9]at e;exact .inl (c (m:=[]) (y:=na) e.1)
  rcases AC.1 b with e|b
  ·rw[A9]at e;have:=c (m:=[na]) (y:=nf) e.1;exact .inr ⟨_,by rw[this];exact Ar d,rfl⟩
  ·have e:=Ad.1 b;rw[A9]at e;exact .inl (c (m:=[]) (y:=ng) e.1)
theorem SI{nb:Nat}{G:Gh}(d:∀x∈G,x∈G3 nb)(i:(G.map (·.1)).Nodup)(f:([na],(⟨some ⟨nb,0,none⟩,0⟩:VS))∈G):Gk G:=by
 have h:=LL nb;refine⟨λx c=>h.nms x (d x c),λx c=>h.ne x (d x c),λx c=>h.le x (d x c),i,λns n u g=>?_⟩;rcases h.up ns n u (d _ g) with e|⟨v,b,a⟩
 ·exact .inl e
 ·right;refine⟨v,?_,a⟩;rcases AC.1 b with e|b
  ·rw[e];exact f
  rcases AC.1 b with e|b
  ·rw[A9]at e;rw[e.2]at a;cases a
  ·have e:=Ad.1 b;rw[A9]at e;rw[e.2]at a;cases a
theorem OS(nb:Nat):Gk (G1 nb):=SI (nb:=nb) (λx a=>by rw[Ad.1 a];exact Ba) (by show([[na]]:List (LY)).Nodup;decide) (Ad.2 rfl)
theorem Nj(nb:Nat):Gk (G2 nb):=SI (nb:=nb) (λx a=>by
  rcases AC.1 a with rfl|a
  ·exact Ba
  ·rw[Ad.1 a];exact AF _ Ba) (by show([[na],[na,nf]]:List (LY)).Nodup;decide) Ba
theorem OT:Gk []:=⟨λx a=>(by cases a),λx a=>(by cases a),λx a=>(by cases a),CG,λ_ _ _ a=>(by cases a)⟩
structure Hv(n1:Nat)(wA w:World)(vb tb db stb:Nat)(G:Gh)(I:LF)(C:IB):Prop where
 vol:Hg w vb tb db stb
 ps:PS w tb G I C
 st:Mf 0 n1 w vb stb db (λs=>s=IX)
 bel:Below n1 wA w
 lo:n1<tb/\n1<=vb/\n1<=wA.heap.size/\0<n1
section
variable{n1:Nat}{wA w w':World}{vb tb db stb:Nat}{G G':Gh}{I I':LF}{C C':IB}
theorem Hv.prog(h:Hv n1 wA w vb tb db stb G I C)(a:Fr (DM tb w) w w')(f:PS w' tb G' I' C'):Hv n1 wA w' vb tb db stb G' I' C':=by
 have c:∀k t R,DM tb w k->FX w k t R->t=214\/t=229\/t=310\/t=293:=λk t R ⟨⟨t',R',d,g⟩,_⟩ b=>by
  have:=d.type b;subst this;exact g
 obtain⟨l1,l2,i,l4⟩:=h.lo;refine⟨FX.fr h.vol a (λe=>?_),f,h.st.fr a (λk t R e b=>?_),N9 h.bel a (λk e=>?_) i,h.lo⟩
 ·have:=c _ _ _ e h.vol
  revert this;decide
 ·rcases c k t R e b with rfl|rfl|rfl|rfl<;>decide
 ·have:=e.2;omega
theorem Hv.below(h:Hv n1 wA w vb tb db stb G I C)(a:Bw w w'):Hv n1 wA w' vb tb db stb G I C:=by
 obtain⟨c,V,E,d,b⟩:=h.ps;exact h.prog (Fr.of_below a) ⟨c,V,E,d,b.below a (Aa _)⟩
theorem XT(h:Hv n1 wA w vb tb db stb [] [] C):Cl 58 #[.pointer (some ⟨vb,0,none⟩),.string qa] w λe w'=>e=.returned (.int .i64 0)/\∃nb,Hv n1 wA w' vb tb db stb (G1 nb) [] C:=by
 have a:∀e w',Q7 w tb [] [] C qa e w'->e=.returned (.int .i64 0)/\∃nb,Hv n1 wA w' vb tb db stb (G1 nb) [] C:=by
  rintro e w'⟨rfl,d,c⟩;refine⟨by rw[Sc],?_⟩;rcases c with⟨f,_⟩|⟨_,nb,b⟩
  ·exact absurd Sc f
  ·rw[nm_a]at b;exact⟨nb,h.prog d b⟩
 exact(Mn w vb tb h.vol.vol qa (Q7 w tb [] [] C qa) (λe w' g=>⟨_,(a e w' g).1⟩) (WC w tb [] [] C h.ps OT (by simp) (by simp) qa (by show 2<=_;omega))).mono a
def H0(w w':World):Prop:=∀k t R,FX w k t R->(t=5\/t=112)->FX w' k t R
theorem H0.trans{a b c:World}(h:H0 a b)(k:H0 b c):H0 a c:=λi t R e d=>k i t R (h i t R e d) d
theorem H0.below(h:Bw w w'):H0 w w':=λk _ _ a _=>(h.block k a.lt).trans a
theorem H0.fr{X:Nat->Prop}(c:Fr X w w')(b:∀k t R,X k->FX w k t R->t≠5/\t≠112):H0 w w':=λk t R a d=>a.fr c (λe=>by
 have:=b k t R e a;rcases d with rfl|rfl
 ·exact this.1 rfl
 ·exact this.2 rfl)
theorem H0.prog(b:Fr (DM tb w) w w'):H0 w w':=H0.fr b (λk t R ⟨⟨t',R',a,d⟩,_⟩ c=>by
 have:=a.type c;subst this;rcases d with rfl|rfl|rfl|rfl<;>decide)
def One(I:LF)(l:Nat)(f:Int):Prop:=I.length=1/\∃r:VF,r.l=l/\r.f=f/\∀x,x∈I↔x=((0:Int),r)
theorem One.in{l:Nat}{f:Int}(h:One I l f){x:Int×VF}(d:x∈I):x.1=0/\x.2.l=l/\x.2.f=f:=by
 obtain⟨_,r,a,b,c⟩:=h;rw[(c x).1 d];exact⟨rfl,a,b⟩
theorem One.use{f:Int}(h:One I 6 f):DO (I.map (·.2.l))=1:=by
 obtain⟨a,r,h1,h2,b⟩:=h;obtain⟨x,rfl⟩:∃x,I=[x]:=by
  match I,a with
  |[x],_=>exact⟨x,rfl⟩
 have:=(b x).1 (Ad.2 rfl);rw[this];show(r.l+63)/64+0=1;omega
theorem XK{nb:Nat}(h:Hv n1 wA w vb tb db stb (G1 nb) [] C)(d:OA)(g:Nat)(v:Gp w d 3 g d3):
  Cl 59 #[.pointer (some ⟨vb,0,none⟩),.string Ht,.int .i64 3,.slice d 3 g] w λe w'=>e=.returned (.int .i64 0)/\∃I' C',Hv n1 wA w' vb tb db stb (G2 nb) I' C'/\One I' 6 1/\C' 0=s6:=by
 have o:∀e w',KU w tb (G1 nb) [] C Ht 3 d3 e w'->e=.returned (.int .i64 0)/\∃I' C',Hv n1 wA w' vb tb db stb (G2 nb) I' C'/\One I' 6 1/\C' 0=s6:=by
  rintro e w' (⟨B,_⟩|⟨_,⟨u,r,a,c,j,_⟩|⟨j,y,f,I1,I2,a,c,_,z,aa,A,q,k,l⟩⟩)
  ·exact absurd (XL nb) B
  ·rw[X7]at j;cases j
  ·obtain rfl:f=0:=by simpa using z
   rw[XS]at k l;have m:One I2 6 1:=by
    refine⟨by rw[k.1,A];rfl,⟨a,s6.size,c,1⟩,rfl,rfl,λx=>?_⟩;rw[k.2];constructor
    ·rintro(e|⟨i,s⟩)
     ·exact e
     ·rcases(q x).1 i with rfl|i
      ·exact absurd rfl s
      ·cases i
    ·exact λe => .inl e
   rcases l with⟨_,hu,_⟩|⟨rfl,_,C2,p,t,_⟩
   ·have:=m.use;omega
   ·rw[nm_af]at p;exact⟨rfl,I2,C2,h.prog y p,m,t⟩
 exact(So w vb tb h.vol.vol Ht 3 _ (KU w tb (G1 nb) [] C Ht 3 d3) (λe w' D=>⟨_,(o e w' D).1⟩) (VG w tb (G1 nb) [] C h.ps (OS nb) (by show 1<=_;omega) (by simp) (λx b=>(by cases b)) (λx b n=>by rw[Ad.1 b]at n;cases n) (λx b=>(by cases b)) (λx b=>(by cases b)) Ht (by show 4<=_;omega) 3 d3 (by show 3<=_;omega) d g v)).mono o
theorem Pb{nb:Nat}{f:Int}(h:One I 6 f)(h1:0<f)(h2:f<=10000):GQ (G3 nb) I:=λx a b=>by
 obtain⟨_,r,_,hf,c⟩:=h;refine⟨r,(c _).2 ?_,by omega,by omega⟩;rcases AC.1 a with rfl|a
 ·cases b
 rcases AC.1 a with rfl|a
 ·rfl
 ·rw[Ad.1 a]
theorem SB{nb:Nat}{f:Int}(h:One I 6 f)(b:0<f)(c:f<=10000):GQ (G2 nb) I:=λx a d=>Pb (nb:=nb) h b c x (by
 rcases AC.1 a with rfl|a
 ·exact Ba
 ·rw[Ad.1 a];exact AF _ Ba) d
theorem rdX'{nb:Nat}(h:Hv n1 wA w vb tb db stb (G2 nb) I C)(ho:One I 6 1)(c:C 0=s6):
  Cl 55 #[.pointer (some ⟨vb,0,none⟩),.string Ht,.int .i64 0,.int .i64 9] w λe w'=>∃x,e=.returned (.tuple #[.slice (some ⟨x,0,none⟩) 6 6,.int .i64 0])/\Sl w' 5 1 (.slice (some ⟨x,0,none⟩) 6 6) 6 (Dc s6)/\Bw w w':=by
 obtain⟨n,V,E,o,f⟩:=h.ps;have d:∀e w',QB w (G2 nb) C Ht 0 9 e w'->∃x,e=.returned (.tuple #[.slice (some ⟨x,0,none⟩) 6 6,.int .i64 0])/\Sl w' 5 1 (.slice (some ⟨x,0,none⟩) 6 6) 6 (Dc s6)/\Bw w w':=by
  rintro e w'⟨⟨j,_⟩|⟨_,u,b,_,x,m,rfl,_,a⟩,g⟩
  ·exact absurd (XR nb) j
  ·rw[Se]at b
   cases b
   rw[show C (VS.mk none 0).f=s6 from c,OZ]at a;have i:m=6:=by
    have:=a.1;rw[Dg]at this;have h6:s6.size=6:=rfl;omega
   subst i;exact⟨x,rfl,a,g⟩
 have aa:=ho.1;exact(L6 w vb tb h.vol.vol Ht 0 9 (QB w (G2 nb) C Ht 0 9) (λe w' k=>by obtain⟨x,rfl,_⟩:=d e w' k;exact⟨_,_,_,_,rfl⟩) (WH w tb n V E o (G2 nb) I C f (Nj nb) (by show 2<=_;omega) (by omega) (SB ho (by omega) (by omega)) (λx l=>by rw[(ho.in l).1,c];show 6<=_;omega) Ht (by show 4<=_;omega) 0 9 (by omega) (by omega))).mono d
theorem XU{nb:Nat}(h:Hv n1 wA w vb tb db stb (G2 nb) I C)(ho:One I 6 1):
  Cl 61 #[.pointer (some ⟨vb,0,none⟩),.string Ht,.string qg] w λe w'=>e=.returned (.int .i64 0)/\(∃I',Hv n1 wA w' vb tb db stb (G3 nb) I' C/\One I' 6 2)/\H0 w w':=by
 have d:∀e w',Q6 w tb (G2 nb) I C Ht qg e w'->e=.returned (.int .i64 0)/\(∃I',Hv n1 wA w' vb tb db stb (G3 nb) I' C/\One I' 6 2)/\H0 w w':=by
  rintro e w'⟨rfl,b,j⟩;refine⟨by rw[Sd],?_,H0.prog b⟩;rcases j with⟨l,_⟩|⟨_,u,r,I',a,_,k,c,f⟩
  ·exact absurd (Sd nb) l
  ·rw[Se]at a
   cases a
   rw[nm_g]at f;obtain⟨_,n,p⟩:=ho.in k;have o:r.l=6:=n;have ab:r.f=1:=p;refine⟨I',h.prog b f,by rw[c.1];exact ho.1,⟨r.a,r.l,r.c,r.f+1⟩,o,by show r.f+1=2;omega,λx=>?_⟩;rw[c.2];exact⟨λe=>e.elim id (λ⟨g,i⟩=>absurd (ho.in g).1 i),λe => .inl e⟩
 have aa:=ho.1;exact(Nc w vb tb h.vol.vol Ht qg (Q6 w tb (G2 nb) I C Ht qg) (λe w' m=>⟨_,(d e w' m).1⟩) (Zkt w tb (G2 nb) I C h.ps (Nj nb) (by show 2<=_;omega) (by omega) (SB ho (by omega) (by omega)) Ht qg (by show 4<=_;omega) (by show 2<=_;omega))).mono d
theorem XQ{nb:Nat}(h:Hv n1 wA w vb tb db stb (G3 nb) I C)(ho:One I 6 2):
  Cl 63 #[.pointer (some ⟨vb,0,none⟩),.string qa] w λe w'=>e=.returned (.int .i64 7)/\Hv n1 wA w' vb tb db stb (G3 nb) I C/\H0 w w':=by
 have aa:=ho.1;refine(SZ w vb tb h.vol.vol qa (Q8 w tb (G3 nb) I C qa) (λe w' f=>⟨_,f.1⟩) (WP w tb (G3 nb) I C h.ps (LL nb) (by show 3<=_;omega) (by omega) (Pb ho (by omega) (by omega)) qa (by show 2<=_;omega))).mono ?_;rintro e w'⟨rfl,b,c⟩;refine⟨by rw[Sb],?_,H0.prog b⟩;rcases c with⟨_,d⟩|⟨a,_⟩
 ·exact h.prog b d
 ·rw[Sb]at a;cases a
theorem XP{nb:Nat}(h:Hv n1 wA w vb tb db stb (G3 nb) I C)(ho:One I 6 2):
  Cl 57 #[.pointer (some ⟨vb,0,none⟩),.string qg] w λe w'=>(e=.returned (.tuple #[.agg #[.string ng,.bool false,.int .i64 6,.int .i64 2],.int .i64 0]))/\Bw w w':=by
 have aa:=ho.1;obtain⟨y,V,E,z,f⟩:=h.ps;refine MW w vb tb h.vol.vol qg (λe=>e=.returned (.tuple #[.agg #[.string ng,.bool false,.int .i64 6,.int .i64 2],.int .i64 0])) (λe j=>⟨_,_,_,_,_,j⟩) (λW g=>?_);refine(Zkl W tb y V E z (G3 nb) I C (f.below g (Aa _)) (LL nb) (by show 3<=_;omega) (by omega) (Pb ho (by omega) (by omega)) qg (by show 2<=_;omega)).mono ?_;rintro e w'⟨⟨k,_⟩|⟨_,v,p,rfl⟩,i⟩
 ·exact absurd (XO nb) k
 ·refine⟨?_,i⟩;rcases p with⟨a,_⟩|⟨ds,n,u,c,b,o⟩
  ·rw[nm_g]at a;cases a
  ·rw[XZ]at b
   cases b
   rw[nm_g]at c;have l:n=ng:=by
    have:=Cu List.getLast? c;simp at this;exact this.symm
   rcases o with⟨d,_⟩|⟨_,r,m,rfl⟩
   ·cases d
   ·obtain⟨_,q,t⟩:=ho.in m;have s:r.l=6:=q;have x:r.f=2:=t;rw[l];unfold Lq;rw[s,x]
    rfl
theorem XM{nb:Nat}(f:Gq w vb tb)(c:PS w tb (G3 nb) I C)(ho:One I 6 2):Cl 34 #[.pointer (some ⟨vb,0,none⟩)] w λe w'=>e=.returned (.int .i64 1)/\Bw w w':=by
 obtain⟨rd,V,E,h,a⟩:=c;have aa:=ho.1;have b:=RN w tb _ h I a.t a.i (by omega) (λx g=>by rw[(ho.in g).2.1];omega);rw[ho.use]at b;exact Sn w vb tb f _ (λe w' d=>⟨_,d.1⟩) b
end
theorem OQ:Hf na ng=true:=by kernel_rfl
section
variable{w:World}{tb rd nb:Nat}{V:NV}{E:NS}{vi:Value}{I:LF}{C:IB}
theorem XV(d:TW w tb rd V E vi (G3 nb) I C):E rd=[(na,⟨some ⟨nb,0,none⟩,0⟩),(ng,⟨none,0⟩)]:=by
 have g:FY (G3 nb) rd [] rd:=.inl ⟨rfl,rfl⟩;refine(d.d.srt [] rd g).ext (λj k x y ab f c=>?_) (λx=>?_)
 ·have h:=(Ae.1 c).1;have aa:k<2:=h;obtain rfl:j=0:=by omega
  obtain rfl:k=1:=by omega
  simp at f c;rw[<-f,<-c];exact OQ
 ·refine(d.d.en [] rd g x.1 x.2).trans ?_;rw[AD];constructor
  ·intro a;rcases AC.1 a with e|a
   ·rw[A9]at e;have b:=e.1;injection b with b;exact AC.2 (.inl (FP b e.2))
   rcases AC.1 a with e|a
   ·rw[A9]at e;have:=Cu List.length e.1;simp at this
   ·have e:=Ad.1 a;rw[A9]at e;have b:=e.1;injection b with b;exact AC.2 (.inr (Ad.2 (FP b e.2)))
  ·intro a;rcases AC.1 a with rfl|a
   ·exact Ba
   ·rw[Ad.1 a];exact AF _ (AF _ Ba)
theorem XW(c:TW w tb rd V E vi (G3 nb) I C):E nb=[(nf,⟨none,0⟩)]:=by
 have d:FY (G3 nb) rd [na] nb:=.inr Ba;refine(c.d.srt [na] nb d).ext (λj k x y ab hj h=>?_) (λx=>?_)
 ·have g:=(Ae.1 h).1;have aa:k<1:=g;omega
 ·refine(c.d.en [na] nb d x.1 x.2).trans ?_;constructor
  ·intro a;rcases AC.1 a with e|a
   ·rw[A9]at e;have:=Cu List.length e.1;simp at this
   rcases AC.1 a with e|a
   ·rw[A9]at e;have f:[na]++[x.1]=[na]++[nf]:=e.1;have b:=Ey f;injection b with b;exact Ad.2 (FP b e.2)
   ·have e:=Ad.1 a;rw[A9]at e;have:=Cu List.length e.1;simp at this
  ·intro a;rw[Ad.1 a];exact AF _ Ba
def L3:List It:=[⟨[na],1,0⟩,⟨[na,nf],2,0⟩,⟨[ng],3,0⟩]
theorem Nv(a:TW w tb rd V E vi (G3 nb) I C):Dt (DT (G3 nb) rd E)=L3:=by
 have b:DT (G3 nb) rd E []=[(na,none),(ng,some 0)]:=by
  unfold DT;rw[if_pos rfl,XV a];rfl
 have c:DT (G3 nb) rd E [na]=[(nf,some 0)]:=by
  unfold DT;rw[if_neg (by simp),show Gl (G3 nb) [na]=some ⟨some ⟨nb,0,none⟩,0⟩ by kernel_rfl];show(E nb).map Jb=_;rw[XW a];rfl
 unfold Dt;simp[DV,Gx,GX,b,c,F3.add,L3]
theorem XN(b:TW w tb rd V E vi (G3 nb) I C)(ho:One I 6 2)(m:C 0=s6):IP w tb rd V E vi (G3 nb) I C (DT (G3 nb) rd E) (La I) (λn=>C (n:Int)):=by
 have aa:=ho.1;have o:=ho;obtain⟨_,r,af,ae,q⟩:=o;have f:((0:Int),r)∈I:=(q _).2 rfl;refine⟨b.wk (LL nb) (by show 3<=_;omega) (by omega) (λx a p=>⟨0,r,?_,by omega,f⟩),?_,λy e c=>?_⟩
 ·rcases AC.1 a with rfl|a
  ·cases p
  rcases AC.1 a with rfl|a
  ·rfl
  ·rw[Ad.1 a];rfl
 ·rw[Nv b];have d:∀x∈L3,x=⟨[na],1,0⟩\/x=⟨[na,nf],2,0⟩\/x=⟨[ng],3,0⟩:=λx a=>by
   unfold L3 at a
   simpa using a
  refine⟨by show 3<=_;omega,λx a=>?_,λx a=>?_,λx a=>?_,λx a c=>?_,λi j x y ac g h k l=>?_⟩
  ·rcases d x a with rfl|rfl|rfl
   ·exact .inl rfl
   ·exact .inr (.inl rfl)
   ·exact .inr (.inr rfl)
  ·rcases d x a with rfl|rfl|rfl
   ·show 2<=100;omega
   ·show 4<=100;omega
   ·show 2<=100;omega
  ·rcases d x a with rfl|rfl|rfl<;>(show 0<60;omega)
  ·rcases d x a with rfl|rfl|rfl
   ·cases c
   ·show(C ((0:Nat):Int)).size<=1280;rw[show C ((0:Nat):Int)=s6 from m];show 6<=1280;omega
   ·cases c
  ·have hl:L3.length=3:=rfl;have a1:=(Ae.1 g).1;have a2:=(Ae.1 h).1;have ab:i=1:=by
    have:i=0\/i=1\/i=2:=by omega
    rcases this with rfl|rfl|rfl
    ·cases g;cases k
    ·rfl
    ·cases g;cases k
   have ad:j=1:=by
    have:j=0\/j=1\/j=2:=by omega
    rcases this with rfl|rfl|rfl
    ·cases h;cases l
    ·rfl
    ·cases h;cases l
   omega
 ·rw[Nv b]at e;unfold L3 at e;simp only[AC,BF,or_false]at e;rcases e with rfl|rfl|rfl
  ·cases c
  ·exact⟨r.a,r.l,r.c,Vb b.si f,b.dat _ f⟩
  ·cases c
end
theorem MU{n1:Nat}{i w:World}{c tb a b nb:Nat}{I:LF}{C:IB}(h:Hv n1 i w c tb a b (G3 nb) I C)(ho:One I 6 2)(r:C 0=s6):
  Cl 26 #[.pointer (some ⟨c,0,none⟩)] w λe w'=>e=.returned (.int .i64 0)/\Hg w' c tb a b/\PS w' tb (G3 nb) I C/\Below n1 i w'/\H0 w w':=by
 refine MV w c tb a b h.vol (λw'=>Hg w' c tb a b/\PS w' tb (G3 nb) I C/\Below n1 i w'/\H0 w w') (λw' q=>q.1) ?_;have d:Hv n1 i w.drew c tb a b (G3 nb) I C:=h.below (Ak _ _).drew;obtain⟨rd,V,E,vi,m⟩:=d.ps;obtain⟨s,vk,vf,x,vw,v,ps,ep,n,rfl,l,hC,h1,h2,h3,j,h5⟩:=d.st;obtain⟨l1,l2,u,l4⟩:=d.lo;refine(RY n l.ok l.part (XN m ho r) (by omega) (by omega) (by omega)).mono ?_;rintro e w'⟨rfl,s',vk',ad,ac,ab,aa,g1,g2,g3,g4,g5,g6,g7,g,_⟩;have o:∀k t R,GY b a x vw v k->FX w.drew k t R->t=179\/t=204\/t=188\/t=207\/t=3:=λk t R e f=>n.types e f
 have p:TW w' tb rd V E vi (G3 nb) I C:=m.fr g (λe=>by have:=(j 0 e).1;omega) (λk t R e f=>by
  rcases o k t R e f with rfl|rfl|rfl|rfl|rfl<;>decide)
 exact⟨rfl,FX.fr d.vol g (λe=>(j _ e).2 rfl),⟨rd,V,E,vi,p⟩,N9 d.bel g (λk e=>(j k e).1) u,(H0.below (Ak _ _).drew).trans (H0.fr g (λk t R e f=>by
  rcases o k t R e f with rfl|rfl|rfl|rfl|rfl<;>decide))⟩
end Go.Proofs.YtaieidcohdhgpaaGreatDoor
