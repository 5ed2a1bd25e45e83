/- Failed. -/
import Derived.Test.YtaieidcohdhgpaaGreatDoorSBN
namespace Go.Proofs.YtaieidcohdhgpaaGreatDoor
set_option maxHeartbeats 40000000
set_option maxRecDepth 100000
open Go.RowKit
theorem ZnW(w:World)(a tb f b:Nat)(h:VolR w a tb f b)(Q:World->Prop)(g:∀w',Q w'->VolR w' a tb f b)(i:Calls Tryz.prog 74 #[.pointer (some ⟨b,0,none⟩),.pointer (some ⟨tb,0,none⟩)] w.drew fun e w'=>e = .returned (.tuple #[])/\Q w'):
  Calls Tryz.prog 26 #[.pointer (some ⟨a,0,none⟩)] w fun e w'=>e = .returned (.int .i64 0)/\Q w':=by
 have l:=Ka w a tb h.vol;have c1:w.cell? ⟨a,1,none⟩=some (.pointer (some ⟨tb,0,none⟩)):=(RowIs.cell h 1).trans rfl;have c3:w.cell? ⟨a,3,none⟩=some (.pointer (some ⟨b,0,none⟩)):=(RowIs.cell h 3).trans rfl;have j:=Db i;have d:=Db g;clear h i g;go_enter Tryz.func26,Tryz.ntmps26;go_upto_region 3 with(go_at_call 53;refine l.mono ?_;rintro e w' ⟨rfl,rfl⟩)
 go_region_held3 (fun W=>W.cell? ⟨a,1,none⟩=some (.pointer (some ⟨tb,0,none⟩))/\W.cell? ⟨a,3,none⟩=some (.pointer (some ⟨b,0,none⟩))) (go_keep) (first|(go_at_call 74;refine(Da j).mono ?_;rintro e w2 ⟨rfl,c⟩;have d1:w2.cell? ⟨a,1,none⟩=some (.pointer (some ⟨tb,0,none⟩)):=(RowIs.cell (Da d w2 c) 1).trans rfl;have d3:w2.cell? ⟨a,3,none⟩=some (.pointer (some ⟨b,0,none⟩)):=(RowIs.cell (Da d w2 c) 3).trans rfl;have k:=Db c;clear c))
 go_wp2;go_ret;exact⟨rfl,Da k⟩
theorem openV(w:World)(a:OA)(l c:Nat)(Q:World->Nat->Prop)
  (h:Calls Tryz.prog 75 #[.slice a l c] w fun e X=>∃b:Nat,e = .returned (.tuple #[.pointer (some ⟨b,0,none⟩),.bool true])/\Hid (Calls Tryz.prog 76 #[.pointer (some ⟨b,0,none⟩)] X fun e Y=>∃d tb:Nat,e = .returned (.tuple #[.pointer (some ⟨d,0,none⟩),.pointer (some ⟨tb,0,none⟩),.bool true])/\Hid (∀Z,VolR Z Y.heap.size tb b d->Below Y.heap.size Y Z->Q Z Y.heap.size))):
  Calls Tryz.prog 27 #[.slice a l c] w fun e w'=>∃vb,e = .returned (.tuple #[.pointer (some ⟨vb,0,none⟩),.int .i64 0])/\Q w' vb:=by
 have k:=Db h;clear h;go_enter Tryz.func27,Tryz.ntmps27;go_wp2_with (first|(go_at_call 75;refine(Da k).mono ?_;rintro e X ⟨b,rfl,i⟩)|(go_at_call 76;refine(Da i).mono ?_;rintro e Y ⟨d,tb,rfl,j⟩)|(go_at_call 77;refine(Zdh Y tb b d).mono ?_;rintro e Z ⟨rfl,f,g,-⟩;have m:=Db (Da j Z f g);clear f g));exact bodyPost_ret (v := .tuple #[.pointer (some ⟨Y.heap.size,0,none⟩),.int .i64 0]) (by simp[results,Tryz.results27,go_sem]) rfl ⟨_,rfl,Da m⟩
def Kp62(w w':World):Prop:=∀k t R,RowIs w k t R->(t=62\/t=5\/t=75)->RowIs w' k t R
theorem Kp62.trans{a b c:World}(h:Kp62 a b)(k:Kp62 b c):Kp62 a c:=fun i t R e d=>k i t R (h i t R e d) d
theorem Kp62.below{w w':World}(h:Below w.heap.size w w'):Kp62 w w':=fun k _ _ a _=>(h.block k a.lt).trans a
theorem Kp62.fr{X:Nat->Prop}{w w':World}(d:Fr X w w')(c:∀k t R,X k->RowIs w k t R->t≠62/\t≠5/\t≠75):Kp62 w w':=fun k t R a f=>a.fr d (fun e=>by
 have:=c k t R e a;rcases f with rfl|rfl|rfl
 ·exact this.1 rfl
 ·exact this.2.1 rfl
 ·exact this.2.2 rfl)
def KpV(w w':World):Prop:=∀k t R,RowIs w k t R->¬(t=214\/t=229\/t=310\/t=293)->RowIs w' k t R
theorem KpV.trans{a b c:World}(h:KpV a b)(k:KpV b c):KpV a c:=fun i t R e d=>k i t R (h i t R e d) d
theorem KpV.below{w w':World}(h:Below w.heap.size w w'):KpV w w':=fun k _ _ a _=>(h.block k a.lt).trans a
theorem KpV.k6{w w':World}(h:KpV w w'):Kp62 w w':=fun k t R a c=>h k t R a (by rcases c with rfl|rfl|rfl<;>decide)
theorem KpV.prog{tb:Nat}{w w':World}(d:Fr (DM tb w) w w'):KpV w w':=fun k t R a e=>a.fr d (fun ⟨⟨t',R',c,f⟩,_⟩=>e (by
 have:=c.type a;subst this;exact f))
def KpE(sb:Nat)(w w':World):Prop:=∀k t R,RowIs w k t R->¬(t=214\/t=229\/t=310\/t=293)->k≠sb->RowIs w' k t R
theorem KpV.set{w w':World}(h:KpV w w')(a i:Nat)(v:Value):KpE a w (w'.setCell ⟨a,i,none⟩ v):=fun k t R d e c=>(Below.heap_setCell _ _ _ _ c).trans (h k t R d e)
section
variable{w w':World}{stb db:Nat}{vk:Value}{s:KS}{vf vn vw ve:Value}{ps:LB}{ep:List Int}
theorem StK.fr{X:Nat->Prop}(h:StK w stb db vk s vf vn vw ve ps ep)(d:Fr X w w')(c:∀k t R,X k->RowIs w k t R->t≠179/\t≠204/\t≠188/\t≠207/\t≠3/\t≠350):StK w' stb db vk s vf vn vw ve ps ep:=by
 have a:∀{e:TypeId} {sz:Nat} {v:Value} {n:Nat} {xs:LVa},Sl w e sz v n xs->(e=188\/e=207\/e=3\/e=350)->Sl w' e sz v n xs:=fun f j=>f.fr d (fun g l e=>by
  obtain⟨R,i⟩:=f.type l;have:=c _ _ _ e i;rcases j with rfl|rfl|rfl|rfl
  ·exact this.2.2.1 rfl
  ·exact this.2.2.2.1 rfl
  ·exact this.2.2.2.2.1 rfl
  ·exact this.2.2.2.2.2 rfl)
 refine⟨⟨h.st.row.fr d (fun e=>(c _ _ _ e h.st.row).1 rfl),⟨h.st.disk.1.fr d (fun e=>(c _ _ _ e h.st.disk.1).2.1 rfl),⟨a h.st.disk.2.1.1 (.inl rfl),h.st.disk.2.1.2⟩,h.st.disk.2.2⟩,a h.st.sw (.inr (.inl rfl)),a h.st.se (.inr (.inr (.inl rfl))),h.st.ne,h.st.ns,h.st.nd,h.st.d1,h.st.d2,h.st.d3⟩,a h.sk (.inr (.inr (.inr rfl))),h.ok⟩
theorem StK.types(h:StK w stb db vk s vf vn vw ve ps ep){k:Nat}(f:StO stb db vn vw ve k){t:TypeId}{R:LVa}(c:RowIs w k t R):t=179\/t=204\/t=188\/t=207\/t=3:=by
 rcases f with rfl|rfl|e|e|e
 ·exact .inl (c.type h.st.row)
 ·exact .inr (.inl (c.type h.st.disk.1))
 ·obtain⟨d,a⟩:=h.st.disk.2.1.1.type e;exact .inr (.inr (.inl (c.type a)))
 ·obtain⟨d,a⟩:=Sl.type h.st.sw e;exact .inr (.inr (.inr (.inl (c.type a))))
 ·obtain⟨d,a⟩:=h.st.se.type e;exact .inr (.inr (.inr (.inr (c.type a))))
end
def StI(N n0:Nat)(w:World)(vb stb db:Nat)(K:KS->Prop):Prop:=
 ∃s vk vf vn vw ve ps ep,StK w stb db vk s vf vn vw ve ps ep/\K s/\InvS s/\InvC s/\s.tn<=N+1/\ps.length<=256*N/\ep.length<=2*N/\(∀k,StO stb db vn vw ve k->n0<=k/\k≠vb)/\∀k,Own vk k->n0<=k
theorem StI.fr{N n0:Nat}{w w':World}{vb stb db:Nat}{K:KS->Prop}(h:StI N n0 w vb stb db K){X:Nat->Prop}(e:Fr X w w')(d:∀k t R,X k->RowIs w k t R->t≠179/\t≠204/\t≠188/\t≠207/\t≠3/\t≠350):StI N n0 w' vb stb db K:=by
 obtain⟨s,vk,vf,vn,vw,ve,ps,ep,a,c⟩:=h;exact⟨s,vk,vf,vn,vw,ve,ps,ep,a.fr e d,c⟩
theorem StI.mono{N n0:Nat}{w:World}{vb stb db:Nat}{K a:KS->Prop}(h:StI N n0 w vb stb db K)(f:∀s,K s->a s):StI N n0 w vb stb db a:=by
 obtain⟨s,vk,vf,vn,vw,ve,ps,ep,c,d,e⟩:=h;exact⟨s,vk,vf,vn,vw,ve,ps,ep,c,f s d,e⟩
def K9(s:KS):Prop:=∃C L,FlatL C L/\Stands s C L
def KeptB(b:Nat->Option By)(s:KS):Prop:=
 ∃(C:NB) (es:LS),SrtS es/\(∀x∈es,∃f:Nat,x.2=⟨none,(f:Int)⟩)/\FlatL C (es.map itE)/\Stands s C (es.map itE)/\(∀x∈es,∃i,i<8/\x.1=fn i)/\(∀i,i<8->∀t,b i=some t->∃f:Nat,(fn i,(⟨none,(f:Int)⟩:VS))∈es/\C f=t)/\∀i,i<8->b i=none->∀u,(fn i,u)∉es
theorem KeptB.any{b:Nat->Option By}{s:KS}(h:KeptB b s):K9 s:=by
 obtain⟨C,es,_,_,a,c,_⟩:=h;exact⟨C,_,a,c⟩
structure LgI(N n0:Nat)(w0 w:World)(vb tb db stb:Nat)(b:Nat->Option By)(K:KS->Prop):Prop where
 vol:VolR w vb tb db stb
 tr:∃G I CI,PS w tb G I CI/\SetT b G I CI
 st:StI N n0 w vb stb db K
 bel:Below n0 w0 w
 lo:n0<tb/\n0<=vb/\n0<=w0.heap.size/\0<n0
theorem PS.si{w:World}{tb:Nat}{G:Gh}{I:LF}{C:IB}(h:PS w tb G I C):SrtI I:=by
 obtain⟨rd,V,E,vi,h⟩:=h;exact h.si
theorem Qt{n0:Nat}{w0 w w':World}(h:Below n0 w0 w){X:Nat->Prop}(a:Fr X w w')(c:∀k,X k->n0<=k)(hn:n0<=w0.heap.size):Below n0 w0 w':=
 ⟨a.os.trans h.os,a.tape.trans h.tape,a.output.trans h.output,Nat.le_trans h.size a.size,fun k d=>(a.block k (by have:=h.size;omega) (fun e=>by have:=c k e;omega)).trans (h.block k d)⟩
section
variable{N n0:Nat}{w0 w w':World}{vb tb db stb:Nat}{b b':Nat->Option By}{K:KS->Prop}
theorem LgI.prog(h:LgI N n0 w0 w vb tb db stb b K)(c:Fr (DM tb w) w w'){G:Gh}{I:LF}{a:IB}(i:PS w' tb G I a)(j:SetT b' G I a):LgI N n0 w0 w' vb tb db stb b' K:=by
 have f:∀k t R,DM tb w k->RowIs w k t R->t=214\/t=229\/t=310\/t=293:=fun k t R ⟨⟨t',R',g,l⟩,_⟩ d=>by
  have:=g.type d;subst this;exact l
 obtain⟨l1,l2,m,l4⟩:=h.lo;refine⟨RowIs.fr h.vol c (fun e=>?_),⟨G,I,a,i,j⟩,h.st.fr c (fun k t R e d=>?_),Qt h.bel c (fun k e=>?_) m,h.lo⟩
 ·have:=f _ _ _ e h.vol
  revert this;decide
 ·rcases f k t R e d with rfl|rfl|rfl|rfl<;>decide
 ·have:=e.2;omega
theorem LgI.fr62(h:LgI N n0 w0 w vb tb db stb b K){X:Nat->Prop}(a:Fr X w w')(c:∀k t R,X k->RowIs w k t R->t=62)(f:∀k,X k->n0<=k):LgI N n0 w0 w' vb tb db stb b K:=by
 obtain⟨l1,l2,l,l4⟩:=h.lo;obtain⟨G,I,g,⟨m,V,E,n,i⟩,j⟩:=h.tr;refine⟨RowIs.fr h.vol a (fun e=>?_),⟨G,I,g,⟨m,V,E,n,i.fr a (fun e=>?_) (fun k t R e d=>?_)⟩,j⟩,h.st.fr a (fun k t R e d=>?_),Qt h.bel a f l,h.lo⟩
 ·have:=c _ _ _ e h.vol
  revert this;decide
 ·have:=f 0 e;omega
 ·rw[c k t R e d];decide
 ·rw[c k t R e d];decide
theorem LgI.below(h:LgI N n0 w0 w vb tb db stb b K)(a:Below w.heap.size w w'):LgI N n0 w0 w' vb tb db stb b K:=
 h.fr62 (X:=fun _=>False) (Fr.of_below a) (fun _ _ _ e=>e.elim) (fun _ e=>e.elim)
theorem Zn4(h:LgI N n0 w0 w vb tb db stb b K){i:Nat}(c:i<8){s:By}(l:b i=some s):
  Calls Tryz.prog 63 #[.pointer (some ⟨vb,0,none⟩),.string (pth i)] w fun e w'=>e = .returned (.int .i64 0)/\LgI N n0 w0 w' vb tb db stb (JO b i none) K/\KpV w w':=by
 obtain⟨G,I,j,n,a⟩:=h.tr;have aa:=a.fl.le;have ab:=a.fl.ilen n.si;refine(Zk1 w vb tb h.vol.vol (pth i) (QW w tb G I j (pth i)) (fun e w' z=>⟨_,z.1⟩) (Zfi w tb G I j n a.fl.gok (by omega) (by omega) a.fl.flok (pth i) (by have:=(Kb c).2.2;omega))).mono ?_;rintro e w' ⟨rfl,m,d⟩;have o:=a.rm c l;refine⟨by rw[o],?_,KpV.prog m⟩;rcases d with⟨g,_⟩|⟨_,u,k,d⟩
 ·exact absurd o g
 ·obtain⟨f,p,q,_⟩:=a.at c l;rw[p]at k
  cases k
  rcases d with⟨B,_⟩|⟨_,r,I',x,t,y⟩
  ·cases B
  ·have A:r.f=1:=(a.fl.back _ x).1;rcases t with⟨_,v⟩|⟨g,_⟩
   ·exact h.prog m (y _ (Qy G _)) (a.del c q v)
   ·exact absurd A g
theorem cutL(h:LgI N n0 w0 w vb tb db stb b K){i:Nat}(o:i<8){s:By}(q:b i=some s)(n:Nat)(P:n<=1280):
  Calls Tryz.prog 60 #[.pointer (some ⟨vb,0,none⟩),.string (pth i),.int .i64 n] w fun e w'=>e = .returned (.int .i64 0)/\LgI N n0 w0 w' vb tb db stb (JO b i (some (Di s n))) K/\KpV w w':=by
 obtain⟨G,I,g,B,d⟩:=h.tr;have aa:=d.fl.le;have ab:=d.fl.ilen B.si;have T:ctE G (pth i) n=0:=by
  unfold ctE;rw[show decide ((0:Int)<=(n:Int)/\(n:Int)<=1280)=true from decide_eq_true ⟨by omega,by omega⟩];exact d.file o q
 have A:∀e w',QT w tb G I g (pth i) n e w'->e = .returned (.int .i64 0)/\LgI N n0 w0 w' vb tb db stb (JO b i (some (Di s n))) K/\KpV w w':=by
  rintro e w' (⟨Q,_⟩|⟨_,u,r,a,c,p,_,L,t,l,v,H⟩)
  ·exact absurd T Q
  ·obtain⟨f,C,D,F⟩:=d.at o q;rw[C]at p
   cases p
   have y:(Di s n).size=n:=Jc s n;have M:Jm I l f ⟨a,(Di s n).size,c,r.f⟩:=by rw[y];exact v
   have J:g (f:Int)=s:=F;have z:=d.over o D (s:=Di s n) (by rw[y];exact P) L M;rcases H with⟨_,hu,_⟩|⟨rfl,_,R⟩
   ·have ac:DO (l.map (·.2.l))<=160:=by
     have E:=Vd (l.map (·.2.l)) (fun m O=>by
      obtain⟨x,j,rfl⟩:=List.mem_map.1 O;exact(z.fl.csz j).2.1)
     rw[List.length_map,v.1]at E;omega
    omega
   ·refine⟨rfl,h.prog t R ?_,KpV.prog t⟩;show SetT _ G l (fun k=>if k=(f:Int) then Di (g (f:Int)) (n:Int).toNat else g k);rw[J,Int.toNat_natCast];exact z
 exact(cutV w vb tb h.vol.vol (pth i) n (QT w tb G I g (pth i) n) (fun e w' S=>⟨0,(A e w' S).1⟩) (Zl5 w tb G I g B d.fl.gok (by omega) (by omega) d.fl.flok (fun x j=>by have:=(d.fl.csz j).2.1;omega) (fun x j=>(d.fl.csz j).1) (pth i) (by have:=(Kb o).2.2;omega) n)).mono A
def ovB(o:Option By)(p:Nat)(d:By):By:=ovR (o.getD ⟨#[]⟩) p d
theorem Zjo(s:By)(p:Nat)(d:By)(a:s.size<=1280)(hp:p+d.size<=1280):(ovR s p d).size<=1280:=by
 unfold ovR
 split
 ·exact a
 ·rw[Int.toNat_natCast,Q4];omega
theorem writeL(h:LgI N n0 w0 w vb tb db stb b K){i:Nat}(l:i<8)(p:Nat)(d:By)(P:p+d.size<=1280)(B:OA)(C:Nat)(U:Sl w 5 1 (.slice B d.size C) d.size (Dc d)):
  Calls Tryz.prog 59 #[.pointer (some ⟨vb,0,none⟩),.string (pth i),.int .i64 p,.slice B d.size C] w fun e w'=>e = .returned (.int .i64 0)/\LgI N n0 w0 w' vb tb db stb (JO b i (some (ovB (b i) p d))) K/\KpV w w':=by
 obtain⟨G,I,o,z,g⟩:=h.tr;have af:=g.fl.le;have ag:=g.fl.ilen z.si;have X:K8 (p:Int) d=true:=decide_eq_true ⟨by omega,by omega⟩;have hz:=g.wr z.si l X;have Q:∀e w',KF w tb G I o (pth i) p d e w'->e = .returned (.int .i64 0)/\LgI N n0 w0 w' vb tb db stb (JO b i (some (ovB (b i) p d))) K/\KpV w w':=by
  rintro e w' (⟨ab,_⟩|⟨_,⟨u,r,a,c,n,_,Y,_,v,y,t,E⟩|⟨n,v,f,I1,L,a,c,_,V,W,aa,q,t,E⟩⟩)
  ·exact absurd hz ab
  ·cases hb:b i with
   | none=>rw[g.none' l hb]at n;cases n
   | some s=>
    obtain⟨f,q,M,R⟩:=g.at l hb;rw[q]at n
    cases n
    have F:o (f:Int)=s:=R;have Z:Jm I y f ⟨a,(ovR s p d).size,c,r.f⟩:=by
     have:=t;dsimp only at this;rw[F]at this;exact this
    have A:s.size<=1280:=by have:=g.fl.sz _ M;rw[<-F];exact this
    have O:=g.over l M (s:=ovR s p d) (Zjo s p d A P) Y Z;rcases E with⟨_,hu,_⟩|⟨rfl,_,J⟩
    ·have ac:DO (y.map (·.2.l))<=160:=by
      have D:=Vd (y.map (·.2.l)) (fun m H=>by
       obtain⟨x,j,rfl⟩:=List.mem_map.1 H;exact(O.fl.csz j).2.1)
      rw[List.length_map,t.1]at D;omega
     omega
    ·refine⟨rfl,h.prog v J ?_,KpV.prog v⟩;show SetT (JO b i (some (ovR s p d))) G y (fun k=>if k=(f:Int) then ovR (o (f:Int)) p d else o k);rw[F];exact O
  ·cases hb:b i with
   | some s=>
    obtain⟨f,q,_⟩:=g.at l hb;rw[q]at n;cases n
   | none=>
    have A:=Zjo ⟨#[]⟩ p d (by show 0<=1280;omega) P;rcases E with⟨_,hu,_⟩|⟨rfl,_,C2,J,S,T⟩
    ·have h7:=g.lt7 l hb;have ac:DO (L.map (·.2.l))<=160:=by
      have D:=Vd (L.map (·.2.l)) (fun m H=>by
       obtain⟨x,j,rfl⟩:=List.mem_map.1 H;rcases (t.2 x).1 j with rfl|⟨j,ae⟩
       ·exact A
       ·rcases (q x).1 j with rfl|j
        ·exact absurd rfl ae
        ·exact(g.fl.csz j).2.1)
      rw[List.length_map,t.1,aa]at D;omega
     omega
    ·refine⟨rfl,h.prog v (G:=G++[([fn i],⟨none,(f:Int)⟩)]) (by rw[<-(Kb l).1];exact J) ?_,KpV.prog v⟩;exact g.made z.si l hb V W A q t S T
 exact(Znv w vb tb h.vol.vol (pth i) p _ (KF w tb G I o (pth i) p d) (fun e w' hq=>⟨0,(Q e w' hq).1⟩) (Ziu w tb G I o z g.fl.gok (by omega) (by omega) (fun x j=>(g.fl.csz j).2.2) g.fl.flok (fun x j=>by have:=(g.fl.csz j).2.1;omega) (fun x j=>(g.fl.csz j).1) (pth i) (by have:=(Kb l).2.2;omega) p d (by omega) B C U)).mono Q
end
theorem SetT.kept{b:Nat->Option By}{G:Gh}{I:LF}{g:IB}(h:SetT b G I g){w:World}{tb a:Nat}{V:NV}{E:NS}{y:Value}(c:TW w tb a V E y G I g){s:KS}(r:Stands s (fun n=>g (n:Int)) ((E a).map itE)):KeptB b s:=by
 have p:IsDir G a [] a := .inl ⟨rfl,rfl⟩;have o:=c.d.en [] a p;refine⟨fun n=>g (n:Int),E a,c.d.srt [] a p,fun x m=>?_,(h.fl.keep c).1,r,fun x m=>?_,fun i d t l=>?_,fun i d l u v=>?_⟩
 ·obtain⟨_,_,_,f,e,_⟩:=h.fl.root c m;exact⟨f,e⟩
 ·obtain⟨k,_⟩:=h.fl.root c m;obtain⟨i,d,e⟩:=h.nm _ k;have j:[x.1]=[fn i]:=e;injection j with j;exact⟨i,d,j⟩
 ·obtain⟨f,k,q⟩:=h.yes i d t l;exact⟨f,(o (fn i) _).2 k,q⟩
 ·exact h.no i d l u ((o (fn i) u).1 v)
section
variable{N n0:Nat}{w0 w w':World}{vb tb db stb:Nat}{b b':Nat->Option By}{K:KS->Prop}
theorem LgI.drew(h:LgI N n0 w0 w vb tb db stb b K):LgI N n0 w0 w.drew vb tb db stb b K:=h.below (Below.refl _ _).drew
theorem LgI.to{a:KS->Prop}(h:LgI N n0 w0 w vb tb db stb b K)(c:∀s,K s->a s):LgI N n0 w0 w vb tb db stb b a:=⟨h.vol,h.tr,h.st.mono c,h.bel,h.lo⟩
theorem LgI.after{r:Nat}(U:512<=r)(d:LgI N n0 w0 w vb tb db stb b K){s:KS}{x u i vw m:Value}{ps:LB}{ep:List Int}(W:StK w stb db x s u i vw m ps ep)(P:K9 s)(z:InvS s)(Q:InvC s)(h1:s.tn<=N+1)(h2:ps.length<=256*N)(h3:ep.length<=2*N)(a:∀k,StO stb db i vw m k->n0<=k/\k≠vb)(O:∀k,Own x k->n0<=k)
  {h:Nat} {V:NV} {E:NS} {v:Value} {G:Gh} {I:LF} {c:IB} (A:TW w tb h V E v G I c) (p:SetT b G I c) {e:Ending} (f:QP r w stb db x s u i vw m ps ep (fun n=>c (n:Int)) ((E h).map itE) e w'):
  e = .returned (.tuple #[])/\LgI (N+1) n0 w0 w' vb tb db stb b (fun l=>KeptB b l/\KNext r (fun n=>c (n:Int)) ((E h).map itE) s l)/\Kp62 w w':=by
 obtain⟨rfl,l,vk',ab,aa,Z,F,H,o,g3,g4,J,L,M,j,_⟩:=f;obtain⟨C0,L0,S,T⟩:=P;obtain⟨y,_⟩:=p.fl.keep A;obtain⟨l1,l2,D,l4⟩:=d.lo;obtain⟨X,Y,i3,i4⟩:=o.ok U z y T S;have C:∀k t R,StO stb db i vw m k->RowIs w k t R->t=179\/t=204\/t=188\/t=207\/t=3:=fun k t R e g=>W.types e g
 have B:TW w' tb h V E v G I c:=A.fr j (fun e=>by have:=(a 0 e).1;omega) (fun k t R e g=>by
  rcases C k t R e g with rfl|rfl|rfl|rfl|rfl<;>decide)
 have ad:vb<w.heap.size:=RowIs.lt d.vol;have ac:n0<=w.heap.size:=Nat.le_trans D d.bel.size;refine⟨rfl,⟨RowIs.fr d.vol j (fun e=>(a _ e).2 rfl),⟨G,I,c,⟨h,V,E,v,B⟩,p⟩,⟨l,vk',u,i,ab,aa,Z,F,H,⟨p.kept B Y,o⟩,X,o.ck z y Q,by omega,by omega,by omega,fun k f=>?_,fun k f=>?_⟩,Qt d.bel j (fun k e=>(a k e).1) D,d.lo⟩,Kp62.fr j (fun k t R e g=>?_)⟩
 ·rcases f with e|e|e|e|e
  ·exact a k (.inl e)
  ·exact a k (.inr (.inl e))
  ·exact a k (.inr (.inr (.inl e)))
  ·rcases J k e with q|q
   ·exact a k (.inr (.inr (.inr (.inl q))))
   ·exact⟨by omega,by omega⟩
  ·rcases L k e with q|q
   ·exact a k (.inr (.inr (.inr (.inr q))))
   ·exact⟨by omega,by omega⟩
 ·rcases M k f with q|q
  ·exact O k q
  ·omega
 ·rcases C k t R e g with rfl|rfl|rfl|rfl|rfl<;>decide
theorem keepL(h:LgI N n0 w0 w vb tb db stb b K)(n:∀s,K s->K9 s)(hN:N<=2000000):
  Calls Tryz.prog 74 #[.pointer (some ⟨stb,0,none⟩),.pointer (some ⟨tb,0,none⟩)] w fun e w'=>e = .returned (.tuple #[])/\LgI (N+1) n0 w0 w' vb tb db stb b (KeptB b)/\Kp62 w w':=by
 obtain⟨G,I,CI,⟨rd,V,E,vi,c⟩,d⟩:=h.tr;obtain⟨s,vk,vf,vn,vw,ve,ps,ep,f,o,a,m,g,i,j,k,l⟩:=h.st;refine(ZbX f a.ok a.part (d.fl.keep c).2 (by omega) (by omega) (by omega)).mono fun e w' q=>?_
 rw[d.fl.its c]at q;obtain⟨p,r,t⟩:=h.after (Nat.le_refl _) f (n s o) a m g i j k l c d q;exact⟨p,r.to (fun _ h=>h.1),t⟩
theorem syncL(h:LgI N n0 w0 w vb tb db stb b K)(a:∀s,K s->K9 s)(c:N<=2000000):
  Calls Tryz.prog 26 #[.pointer (some ⟨vb,0,none⟩)] w fun e w'=>e = .returned (.int .i64 0)/\LgI (N+1) n0 w0 w' vb tb db stb b (KeptB b)/\Kp62 w w':=
 ZnW w vb tb db stb h.vol (fun w'=>LgI (N+1) n0 w0 w' vb tb db stb b (KeptB b)/\Kp62 w w') (fun _ q=>q.1.vol) ((keepL h.drew a c).mono fun _ _ q=>⟨q.1,q.2.1,(Kp62.below (Below.refl _ _).drew).trans q.2.2⟩)
end
def VlW(w:World)(vb:Nat)(b:Nat->Option By):Prop:=∃tb G I CI,VolW w vb tb/\PS w tb G I CI/\SetT b G I CI
theorem VlW.below{w w':World}{e:Nat}{b:Nat->Option By}(h:VlW w e b)(a:Below w.heap.size w w'):VlW w' e b:=by
 obtain⟨tb,G,I,f,⟨d,s,c⟩,⟨j,V,E,k,g⟩,i⟩:=h;exact⟨tb,G,I,f,⟨d,s,(a.block _ (RowIs.lt c)).trans c⟩,⟨j,V,E,k,g.below a (Nat.le_refl _)⟩,i⟩
theorem LgI.vl{N g:Nat}{j w:World}{a tb d i:Nat}{b:Nat->Option By}{K:KS->Prop}(h:LgI N g j w a tb d i b K):VlW w a b:=by
 obtain⟨G,I,c,e,f⟩:=h.tr;exact⟨tb,G,I,c,h.vol.vol,e,f⟩
theorem KeptB.set{b:Nat->Option By}{C:NB}{es:LS}(o:∀x∈es,∃f:Nat,x.2=⟨none,(f:Int)⟩)(p:FlatL C (es.map itE))(q:∀x∈es,∃i,i<8/\x.1=fn i)(r:∀i,i<8->∀t,b i=some t->∃f:Nat,(fn i,(⟨none,(f:Int)⟩:VS))∈es/\C f=t)(s:∀i,i<8->b i=none->∀u,(fn i,u)∉es)
  {G:Gh} {I:LF} {l:IB} (h:TreeOf C (es.map itE) G I l):SetT b G I l:=by
 have k:=h.g;rw[List.map_map]at k;have m:∀x∈G,∃y∈es,x=([y.1],y.2):=fun x d=>by
  rw[k]at d;obtain⟨y,a,rfl⟩:=List.mem_map.1 d;obtain⟨f,v⟩:=o y a;refine⟨y,a,?_⟩;show([y.1],(⟨none,((y.2.f.toNat:Nat):Int)⟩:VS))=([y.1],y.2);rw[v];simp
 refine⟨h.flt p,fun x d=>?_,fun i c t j=>?_,fun i c j u w=>?_⟩
 ·obtain⟨y,a,rfl⟩:=m x d;obtain⟨i,c,e⟩:=q y a;exact⟨i,c,by show [y.1]=_;rw[e]⟩
 ·obtain⟨f,n,z⟩:=r i c t j;refine⟨f,?_,?_⟩
  ·rw[k];exact List.mem_map.2 ⟨_,n,rfl⟩
  ·have:=h.c (itE (fn i,⟨none,(f:Int)⟩)) (List.mem_map.2 ⟨_,n,rfl⟩);rw[<-z];exact this
 ·obtain⟨y,a,e⟩:=m _ w;rw[Prod.mk.injEq]at e;have g:=e.1;injection g with g;refine s i c j y.2 ?_;rw[g];exact a
def VlX(w:World)(vb:Nat)(b:Nat->Option By)(s:KS):Prop:=∃tb db stb G I CI C L va vf vn,VolR w vb tb db stb/\PS w tb G I CI/\SetT b G I CI/\TreeOf C L G I CI/\FlatL C L/\Stands s C L/\StK w stb db va s vf vn (.slice none 0 0) (.slice none 0 0) [] []
theorem VlX.vl{w:World}{a:Nat}{b:Nat->Option By}{s:KS}(h:VlX w a b s):VlW w a b:=by
 obtain⟨tb,db,aa,G,I,c,C,L,va,vf,vn,d,e,f,_⟩:=h;exact⟨tb,G,I,c,d.vol,e,f⟩
def LgO(w w':World)(vb:Nat)(b:Nat->Option By)(s:KS):Prop:=∀n0 w0 N,Below n0 w0 w->n0<=w0.heap.size->0<n0->s.tn<=N+1->∃tb db stb,LgI N n0 w0 w' vb tb db stb b (KeptB b)
theorem openX{s:KS}(n:InvS s)(z:InvC s)(ai:s.tn+1<18446744073709551616){b:Nat->Option By}(A:KeptB b s)(w:World)(a:OA)(l c:Nat)(h:Sl w 5 1 (.slice a l c) (JH s.D).size (Dc (JH s.D)))(aa:∀x∈s.D,x.size=64)(ah:PkgOk w):
  Calls Tryz.prog 27 #[.slice a l c] w fun e w'=>∃f,e = .returned (.tuple #[.pointer (some ⟨f,0,none⟩),.int .i64 0])/\VlX w' f b s/\Below w.heap.size w w'/\LgO w w' f b s:=by
 have ab:=A;obtain⟨C,es,k1,r,m,J,K,L,M⟩:=A;refine openV w a l c (fun w' f=>VlX w' f b s/\Below w.heap.size w w'/\LgO w w' f b s) ?_;refine(Zoi w a l c s.D h n.ok.dl aa).mono ?_;rintro e X ⟨g,u,R,l1,W,rfl,hD,ag,ak,ae,i⟩;refine⟨g,rfl,?_⟩;refine(ZhL n z ai k1 r m J X g u R l1 W hD ag (ah.fr (Fr.of_below i) (X:=fun _=>False) (fun e=>e))).mono ?_;rintro e Y ⟨t,tb,P,rfl,q,⟨G,I,v,ac,o⟩,p,y1,y2,y3⟩;refine⟨t,tb,rfl,fun Z D d=>?_⟩;have F:=i.size;have aj:=p.size;obtain⟨O,V,E,Q,B⟩:=ac;refine⟨⟨tb,g,t,G,I,v,C,_,P,u,_,D,⟨O,V,E,Q,B.below d (Nat.le_refl _)⟩,KeptB.set r m K L M o,o,m,J,q.below d⟩,i.trans ((p.mono F).trans (d.mono (by omega))),fun n0 w0 N y S T U=>?_⟩;have al:=y.size;have ad:Below w.heap.size w Z:=i.trans ((p.mono F).trans (d.mono (by omega)));have H:∀k,¬Own (.slice none 0 0) k:=fun k e=>by simp[Own,Value.ownBlock]at e
 have af:=q.lo;refine⟨tb,g,t,D,⟨G,I,v,⟨O,V,E,Q,B.below d (Nat.le_refl _)⟩,KeptB.set r m K L M o⟩,⟨s,P,u,_,_,_,[],[],q.below d,ab,n,z,U,Nat.zero_le _,Nat.zero_le _,fun k j=>⟨?_,fun e=>by have:=af k j;omega⟩,fun k j=>by have:=y3 k j;omega⟩,y.trans (ad.mono (by omega)),by omega,by omega,S,T⟩;rcases j with e|e|e|e|e
 ·omega
 ·omega
 ·have:=ae k e;omega
 ·exact absurd e (H k)
 ·exact absurd e (H k)
theorem openL{s:KS}(m:InvS s)(k:InvC s)(p:s.tn+1<18446744073709551616){b:Nat->Option By}(n:KeptB b s)(w:World)(a:OA)(l c:Nat)(h:Sl w 5 1 (.slice a l c) (JH s.D).size (Dc (JH s.D)))(j:∀x∈s.D,x.size=64)(o:PkgOk w):
  Calls Tryz.prog 27 #[.slice a l c] w fun e w'=>∃d,e = .returned (.tuple #[.pointer (some ⟨d,0,none⟩),.int .i64 0])/\VlW w' d b/\Below w.heap.size w w':=
 (openX m k p n w a l c h j o).mono fun _ _ ⟨d,f,g,i,_⟩=>⟨d,f,g.vl,i⟩
def ksD(s:KS)(D:LY):KS:=⟨s.es,s.tp,s.tx,s.tn,D⟩
theorem Stands.disk{s:KS}{C:NB}{L:List It}(c:InvS s)(b:FlatL C L)(h:Stands s C L){D:LY}(e:∀r q:Nat,((r:Int),(q:Int))∈s.es->D[q]?=s.D[q]?):Stands (ksD s D) C L:=by
 have i:=PI.all c false b.ok (by have:=b.puts s false;omega);have f:Lock (Dh s.es false s.tp s.D) (Dh s.es false s.tp D) (Dq s false C L).2:=
  ⟨fun y k=>h.es.at i.rol false _ _ k,fun x d=>(by rw[h.ps]at d;cases d),fun r q j=>e r q ((c.ok.env false).at_some j).1,rfl⟩
 have g:=f.keep C (s.tp+1) ⟨s.tp+1,[],[]⟩ L ⟨fun _ h=>h,fun _ h=>h⟩;have a:Dq (ksD s D) false C L=((Dq s false C L).1,lk (s.tp+1) (Dq s false C L).2):=g;exact⟨by rw[a];rfl,by rw[a];exact h.es,by rw[a];exact h.tp,by rw[a];exact h.tx⟩
theorem InvS.disk{s:KS}(h:InvS s){D:LY}(a:D.length=1536):InvS (ksD s D):=
 ⟨⟨h.ok.srt,h.ok.len,h.ok.tp,a,h.ok.pl⟩,h.cur,h.inj,h.tpc,h.fr,h.lo,h.tp⟩
theorem InvC.disk{s:KS}(h:InvC s){D:LY}(a:∀i,i<2->D[i]?=s.D[i]?):InvC (ksD s D):=by
 obtain⟨p,x,b,c,ho⟩:=h.old;exact⟨h.tx,h.tn,(a _ (by have:=Nat.mod_lt s.tn (y:=2) (by omega);exact this)).trans h.own,p,x,b,c,(a _ (by have:=Nat.mod_lt (s.tn+1) (y:=2) (by omega);exact this)).trans ho⟩
def KeptD(T:Nat)(b:Nat->Option By)(D:LY):Prop:=∃s:KS,s.D=D/\InvS s/\InvC s/\KeptB b s/\s.tn<=T
theorem KeptB.disk{b:Nat->Option By}{s:KS}{T:Nat}(h:KeptB b s)(a:InvS s)(e:InvC s)(g:s.tn<=T){D:LY}(j:D.length=1536)(d:∀i,i<2->D[i]?=s.D[i]?)(f:∀r q:Nat,((r:Int),(q:Int))∈s.es->D[q]?=s.D[q]?):KeptD T b D:=by
 obtain⟨C,es,k,l,c,m,n⟩:=h;exact⟨ksD s D,rfl,a.disk j,e.disk d,⟨C,es,k,l,c,m.disk a c f,n⟩,g⟩
section
variable{F:LY}{ps:LB}{st:Nat}{lost:List Bool}
theorem Q5:∀k,k<=st->k<=ps.length->D7 F ps st lost k=D9 F (ps.take k)
 | 0,_,_=>by rw[List.take_zero];rfl
 | k+1,h,hl=>by
  obtain⟨⟨p,x⟩,a⟩:∃x,ps[k]?=some x:=⟨_,List.getElem?_eq_getElem (by omega)⟩;rw[Q6 (by unfold Jt;simp;intro;omega) a,Q5 k (by omega) (by omega),List.take_add_one,a];exact(Zd8 F (ps.take k) p x).symm
theorem Ue{b:LB}:∀k,k<=ps.length->D7 F (ps++b) st lost k=D7 F ps st lost k
 | 0,_=>rfl
 | k+1,h=>by
  obtain⟨x,a⟩:∃x,ps[k]?=some x:=⟨_,List.getElem?_eq_getElem (by omega)⟩;have c:(ps++b)[k]?=some x:=by rw[List.getElem?_append_left (by omega)];exact a
  cases hl:Jt st lost k with
  | true=>rw[Vf hl,Vf hl];exact Ue k (by omega)
  | false=>rw[Q6 hl c,Q6 hl a,Ue k (by omega)]
theorem Zc8{p m:Nat}(a:∀i x,m<=i->ps[i]?=some x->x.1≠p):∀k,m<=k->(D7 F ps st lost k)[p]?=(D7 F ps st lost m)[p]?
 | 0,h=>by rw[show m=0 by omega]
 | k+1,h=>by
  rcases Nat.lt_or_ge k m with e|e
  ·rw[show m=k+1 by omega]
  ·show(if Jt st lost k=true then _ else _)[p]? = _
   split
   ·exact Zc8 a k e
   ·split
    ·rename_i x b;rw[List.getElem?_set_ne (a k x e b)];exact Zc8 a k e
    ·exact Zc8 a k e
theorem UK(a:∀x∈F,x.size=64)(b:∀x∈ps,x.2.size=64):∀k,∀x∈D7 F ps st lost k,x.size=64
 | 0=>a
 | k+1=>by
  show ∀x∈(if Jt st lost k=true then _ else _:LY),x.size=64
  split
  ·exact UK a b k
  ·split
   ·rename_i y c;exact Zfe (UK a b k) _ _ (b y (List.mem_of_getElem? c))
   ·exact UK a b k
end
structure At(en:List Nat)(e j:Nat):Prop where
 lt:j<en.length
 lo:∀i x,i+1=j->en[i]?=some x->x<=e
 hi:∀i x,j<=i->i+1<en.length->en[i]?=some x->e<x
structure Hs(T:Nat)(F:LY)(ps:LB)(ep:List Int)(s:KS)(kb:List (Nat->Option By))(en:List Nat):Prop where
 fl:F.length=1536
 f64:∀x∈F,x.size=64
 p64:∀x∈ps,x.1<1536/\x.2.size=64
 now:D9 F ps=s.D
 epb:∀x∈ep,0<=x/\x<=ps.length
 fin:stE ep ps.length ep.length=ps.length
 ll:kb.length=en.length
 last:∃b,kb[kb.length-1]?=some b/\KeptB b s
 el:en[en.length-1]?=some ep.length
 brk:∀e:Nat,e<=ep.length->∀lost j,At en e j->∃i b,(i=j\/i+1=j)/\kb[i]?=some b/\KeptD T b (D7 F ps (stE ep ps.length e) lost (enE ep ps.length e))
theorem Q3(ep:List Int)(n e:Nat):enE ep n (e:Int)=match ep[e]? with|some x=>x.toNat|none=>n:=by
 unfold enE;rw[if_neg (by omega),Int.toNat_natCast]
 cases ep[e]? <;> rfl
theorem Zjh(ep:List Int)(n:Nat):stE ep n ((0:Nat):Int)=0:=rfl
theorem Qh(ep:List Int)(n e:Nat):stE ep n ((e+1:Nat):Int)=enE ep n (e:Int):=by
 unfold stE;rw[if_neg (by omega),show((e+1:Nat):Int)-1=(e:Int) by omega]
theorem ZiZ{ep q:List Int}{n b e:Nat}(h:e<ep.length):enE (ep++q) b (e:Int)=enE ep n (e:Int):=by
 rw[Q3,Q3,List.getElem?_append_left h];obtain⟨x,a⟩:∃x,ep[e]?=some x:=⟨_,List.getElem?_eq_getElem h⟩;rw[a]
theorem ZkP{ep q:List Int}{n a:Nat}:∀{e:Nat},e<=ep.length->stE (ep++q) a (e:Int)=stE ep n (e:Int)
 | 0,_=>by rw[Zjh,Zjh]
 | e+1,h=>by rw[Qh,Qh];exact ZiZ (by omega)
theorem QX{ep q:List Int}{n m:Nat}:enE (ep++((m:Nat):Int)::q) n (ep.length:Int)=m:=by
 rw[Q3,List.getElem?_append_right (Nat.le_refl _),Nat.sub_self];exact Int.toNat_natCast m
theorem UV(ep:List Int)(n:Nat):enE ep n (ep.length:Int)=n:=by
 rw[Q3,List.getElem?_eq_none (Nat.le_refl _)]
theorem At.new{en:List Nat}{e j m:Nat}(h:At (en++[m]) e j):j=en.length\/At en e j/\∀x,en[en.length-1]?=some x->e<x:=by
 have d:=h.lt;rw[List.length_append,List.length_singleton]at d;rcases Nat.lt_or_ge j en.length with c|c
 ·refine .inr ⟨⟨c,fun i x b a=>h.lo i x b (by rw[List.getElem?_append_left (by omega)];exact a),fun i x b aa a=>h.hi i x b (by rw[List.length_append];omega) (by rw[List.getElem?_append_left (by omega)];exact a)⟩,fun x a=>?_⟩;refine h.hi (en.length-1) x (by omega) (by rw[List.length_append,List.length_singleton];omega) ?_;rw[List.getElem?_append_left (by omega)];exact a
 ·exact .inl (by omega)
theorem At.last{en:List Nat}{e m x:Nat}(h:At (en++[m]) e en.length)(a:en[en.length-1]?=some x):x<=e:=by
 have:=(List.getElem?_eq_some_iff.1 a).1;exact h.lo (en.length-1) x (by omega) (by rw[List.getElem?_append_left (by omega)];exact a)
theorem Zht(D:LY)(a b:LB):D9 D (a++b)=D9 (D9 D a) b:=by unfold D9;rw[List.foldl_append]
section
variable{T T':Nat}{F:LY}{ps:LB}{ep:List Int}{s s':KS}{kb:List (Nat->Option By)}{en:List Nat}{b':Nat->Option By}
theorem KeptD.mono{b:Nat->Option By}{D:LY}(h:KeptD T b D)(hT:T<=T'):KeptD T' b D:=by
 obtain⟨s,a,c,d,e,h5⟩:=h;exact⟨s,a,c,d,e,by omega⟩
theorem Hs.none(h:Hs T F ps ep s kb en)(u:T<=T')(k:KeptD T' b' s.D)(r:KeptB b' s):Hs T' F ps (ep++[((ps.length:Nat):Int)]) s (kb++[b']) (en++[ep.length+1]):=by
 have l:∀lost,D7 F ps ps.length lost ps.length=s.D:=fun lost=>by rw[Q5 _ (Nat.le_refl _) (Nat.le_refl _),List.take_length,h.now]
 have d:(kb++[b'])[kb.length]?=some b':=by rw[List.getElem?_append_right (Nat.le_refl _),Nat.sub_self];rfl
 refine⟨h.fl,h.f64,h.p64,h.now,fun x w=>?_,?_,by rw[List.length_append,List.length_append,h.ll];rfl,⟨b',by rw[List.length_append];exact d,r⟩,?_,fun e v lost j c=>?_⟩
 ·rcases List.mem_append.1 w with q|q
  ·exact h.epb x q
  ·rw[List.mem_singleton.1 q];omega
 ·rw[List.length_append];show stE _ _ ((ep.length+1:Nat):Int)=_;rw[Qh,QX]
 ·rw[List.length_append,List.length_append];show(en++[ep.length+1])[en.length]?=some (ep.length+1);rw[List.getElem?_append_right (Nat.le_refl _),Nat.sub_self];rfl
 ·rw[List.length_append,List.length_singleton]at v;rcases Nat.lt_or_ge ep.length e with a|a
  ·obtain rfl:e=ep.length+1:=by omega
   have t:D7 F ps (stE (ep++[((ps.length:Nat):Int)]) ps.length ((ep.length+1:Nat):Int)) lost (enE (ep++[((ps.length:Nat):Int)]) ps.length ((ep.length+1:Nat):Int))=s.D:=by
    rw[Qh,QX];have:enE (ep++[((ps.length:Nat):Int)]) ps.length ((ep.length+1:Nat):Int)=ps.length:=by
     have:=UV (ep++[((ps.length:Nat):Int)]) ps.length;rw[List.length_append]at this;exact this
    rw[this];exact l lost
   rw[t];rcases c.new with rfl|⟨_,q⟩
   ·exact⟨_,b',.inl rfl,by rw[<-h.ll];exact d,k⟩
   ·have:=q _ h.el;omega
  ·have m:enE (ep++[((ps.length:Nat):Int)]) ps.length (e:Int)=enE ep ps.length (e:Int):=by
    rcases Nat.lt_or_ge e ep.length with f|f
    ·exact ZiZ f
    ·obtain rfl:e=ep.length:=by omega
     rw[QX,UV]
   rw[ZkP (n:=ps.length) a,m];rcases c.new with rfl|⟨q,_⟩
   ·have:=c.last h.el;obtain rfl:e=ep.length:=by omega
    refine⟨_,b',.inl rfl,by rw[<-h.ll];exact d,?_⟩;rw[h.fin,UV,l];exact k
   ·obtain⟨i,b,o,g,p⟩:=h.brk e a lost j q;exact⟨i,b,o,by rw[List.getElem?_append_left (List.getElem?_eq_some_iff.1 g).1];exact g,p.mono u⟩
theorem Hs.some(h:Hs T F ps ep s kb en)(hT:T<=T')(J:InvS s)(hC:InvC s)(ai:s.tn<=T'){Q:LB}{c:Nat}{cb:By}(u:∀x∈Q,x.1<1536/\x.2.size=64/\16<=x.1/\∀r:Int,(r,(x.1:Int))∉s.es)(aj:c<2)(ae:cb.size=64)(H:s'.D=(D9 s.D Q).set c cb)(K:KeptD T' b' s'.D)(Z:KeptB b' s'):
  Hs T' F (ps++Q++[(c,cb)]) (ep++[((ps.length+Q.length:Nat):Int)]++[((ps.length+Q.length+1:Nat):Int)]) s' (kb++[b']) (en++[ep.length+2]):=by
 obtain⟨t,M,aa⟩:=h.last;have B:(kb++[b'])[kb.length]? = .some b':=by rw[List.getElem?_append_right (Nat.le_refl _),Nat.sub_self];rfl
 have P:(kb++[b'])[kb.length-1]? = .some t:=by rw[List.getElem?_append_left (List.getElem?_eq_some_iff.1 M).1];exact M
 have ak:=(List.getElem?_eq_some_iff.1 h.el).1;have o:(ps++Q++[(c,cb)]).length=ps.length+Q.length+1:=by simp[Nat.add_assoc]
 have R:D9 F (ps++Q++[(c,cb)])=s'.D:=by rw[Zd8,Zht,h.now,H]
 have ad:∀lost,D7 F (ps++Q++[(c,cb)]) (ps.length+Q.length+1) lost (ps.length+Q.length+1)=s'.D:=fun lost=>by
  rw[Q5 _ (Nat.le_refl _) (by rw[o];exact Nat.le_refl _),List.take_of_length_le (by rw[o];exact Nat.le_refl _),R]
 have S:∀D:LY,D.length=1536->(∀p,(∀x∈Q,x.1≠p)->D[p]?=s.D[p]?)->KeptD T' t D:=fun D w N=>
  aa.disk J hC ai w (fun i O=>N i (fun x a=>by have:=u x a;omega)) (fun r q C=>N q (fun x a e=>(u x a).2.2.2 r (by rw[e];exact C)))
 have y:ep++[((ps.length+Q.length:Nat):Int)]++[((ps.length+Q.length+1:Nat):Int)]=ep++((ps.length+Q.length:Nat):Int)::[((ps.length+Q.length+1:Nat):Int)]:=by simp
 obtain⟨d,f⟩:∃x,x=ep++[((ps.length+Q.length:Nat):Int)]++[((ps.length+Q.length+1:Nat):Int)]:=⟨_,rfl⟩;have v:d.length=ep.length+2:=by rw[f];simp
 have L:∀n e:Nat,e<=ep.length->stE d n (e:Int)=stE ep ps.length (e:Int):=fun n e l=>by rw[f,y];exact ZkP l
 have ac:∀n e:Nat,e<ep.length->enE d n (e:Int)=enE ep ps.length (e:Int):=fun n e l=>by rw[f,y];exact ZiZ l
 have I:∀n,enE d n (ep.length:Int)=ps.length+Q.length:=fun n=>by rw[f,y];exact QX
 have z:∀n,enE d n ((ep.length+1:Nat):Int)=ps.length+Q.length+1:=fun n=>by
  have:=QX (ep:=ep++[((ps.length+Q.length:Nat):Int)]) (q:=[]) (n:=n) (m:=ps.length+Q.length+1);rw[List.length_append]at this;rw[f];exact this
 have ab:∀n,enE d n ((ep.length+2:Nat):Int)=n:=fun n=>by rw[<-v];exact UV d n
 rw[<-f];refine⟨h.fl,h.f64,fun x a=>?_,R,fun x a=>?_,?_,by rw[List.length_append,List.length_append,h.ll];rfl,⟨b',by rw[List.length_append];exact B,Z⟩,?_,fun e l lost j A=>?_⟩
 ·rcases List.mem_append.1 a with q|q
  ·rcases List.mem_append.1 q with q|q
   ·exact h.p64 x q
   ·exact⟨(u x q).1,(u x q).2.1⟩
  ·rw[List.mem_singleton.1 q];exact⟨by show c<1536;omega,ae⟩
 ·rw[o];rw[f]at a;rcases List.mem_append.1 a with q|q
  ·rcases List.mem_append.1 q with q|q
   ·have:=h.epb x q;omega
   ·rw[List.mem_singleton.1 q];omega
  ·rw[List.mem_singleton.1 q];omega
 ·rw[v,o,show((ep.length+2:Nat):Int)=((ep.length+1+1:Nat):Int) from rfl,Qh,z]
 ·rw[List.length_append,v];show(en++[ep.length+2])[en.length]? = _;rw[List.getElem?_append_right (Nat.le_refl _),Nat.sub_self];rfl
 ·rw[v]at l;rw[o];have ah:ep.length<=e->j=en.length:=fun g=>by
   rcases A.new with q|⟨_,q⟩
   ·exact q
   ·have:=q _ h.el;omega
  have af:∀st k,(D7 F (ps++Q++[(c,cb)]) st lost k).length=1536:=fun st k=>by rw[Qw,h.fl]
  rcases Nat.lt_or_ge e ep.length with g|g
  ·rw[L _ _ (by omega),ac _ _ g,List.append_assoc];rcases A.new with rfl|⟨q,_⟩
   ·have:=A.last h.el;omega
   ·obtain⟨i,b,X,G,Y⟩:=h.brk e (by omega) lost j q;refine⟨i,b,X,by rw[List.getElem?_append_left (List.getElem?_eq_some_iff.1 G).1];exact G,?_⟩;rw[Ue]
    ·exact Y.mono hT
    ·obtain⟨x,a⟩:∃x,ep[e]?=Option.some x:=⟨_,List.getElem?_eq_getElem g⟩;rw[Q3,a];show x.toNat<=_;have q1:=(h.epb x (List.mem_of_getElem? a)).2;omega
  ·have ag:=ah g;subst ag;rcases Nat.lt_or_ge ep.length e with V|V
   ·rcases Nat.lt_or_ge (ep.length+1) e with W|W
    ·obtain rfl:e=ep.length+1+1:=by omega
     refine⟨_,b',.inl rfl,by rw[<-h.ll];exact B,?_⟩;rw[Qh,z,ab,ad];exact K
    ·obtain rfl:e=ep.length+1:=by omega
     rw[Qh,I,z];have U:D7 F (ps++Q++[(c,cb)]) (ps.length+Q.length) lost (ps.length+Q.length)=D9 s.D Q:=by
      rw[Ue _ (by rw[List.length_append];exact Nat.le_refl _),Q5 _ (Nat.le_refl _) (by rw[List.length_append];exact Nat.le_refl _),<-List.length_append,List.take_length,Zht,h.now]
     cases w:Jt (ps.length+Q.length) lost (ps.length+Q.length) with
     | true=>
      refine⟨en.length-1,t,.inr (by omega),by rw[<-h.ll];exact P,?_⟩;rw[Vf w,U];exact S _ (by rw[Qk,J.ok.dl]) (fun p E=>QD _ _ _ (fun C=>by
       obtain⟨x,a,rfl⟩:=List.mem_map.1 C;exact E x a rfl))
     | false=>
      refine⟨_,b',.inl rfl,by rw[<-h.ll];exact B,?_⟩;rw[Q6 w (x:=(c,cb)) (by rw[<-List.length_append,List.getElem?_append_right (Nat.le_refl _),Nat.sub_self];rfl),U,<-H];exact K
   ·obtain rfl:e=ep.length:=by omega
    refine⟨en.length-1,t,.inr (by omega),by rw[<-h.ll];exact P,?_⟩;rw[I,L _ _ (Nat.le_refl _),h.fin];refine S _ (af _ _) (fun p E=>?_);rw[Ue _ (by rw[List.length_append];exact Nat.le_refl _),Zc8 (m:=ps.length) (fun i x O a=>?_) _ (by omega),Q5 _ (Nat.le_refl _) (by rw[List.length_append];omega),List.take_left' rfl,h.now];rw[List.getElem?_append_right O]at a;exact E x (List.mem_of_getElem? a)
end
theorem ZoO(w:World)(a tb b p:Nat)(h:VolR w a tb b p)(e:Int)(f:OA)(l c:Nat)(D:LY)(g:Calls Tryz.prog 80 #[.pointer (some ⟨b,0,none⟩),.int .i64 e,.slice f l c] w (Qi w D)):Calls Tryz.prog 31 #[.pointer (some ⟨a,0,none⟩),.int .i64 e,.slice f l c] w (Qi w D):=by
 have n:=Ka w a tb h.vol;have i:=Db g;have c2:w.cell? ⟨a,2,none⟩=some (.pointer (some ⟨b,0,none⟩)):=(RowIs.cell h 2).trans rfl;clear h g;go_enter Tryz.func31,Tryz.ntmps31;go_wp2_with (first|(go_at_call 53;refine n.mono ?_;rintro e w' ⟨rfl,rfl⟩)|(go_at_call 80;refine(Da i).mono ?_;rintro e w' ⟨k,o,m,rfl,d⟩;have j:=Db d;clear d));go_ret;exact⟨k,o,m,rfl,Da j⟩
end Go.Proofs.YtaieidcohdhgpaaGreatDoor
