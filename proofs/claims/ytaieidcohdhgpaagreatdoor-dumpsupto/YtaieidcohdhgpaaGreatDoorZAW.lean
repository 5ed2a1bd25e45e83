/- Dumps. -/
import Derived.Test.YtaieidcohdhgpaaGreatDoorZAV
namespace Go.Proofs.YtaieidcohdhgpaaGreatDoor
set_option maxHeartbeats 40000000
set_option maxRecDepth 100000
open Go.RowKit
structure IM(w wT:World)(n0 n1:Nat)(E:FL)(C:NB)(dv:NV)(L:List It)(st0:Pl)(O0:Nat->Prop):Prop where
 hB:LX w n0 n1 O0
 o1:∀j,O0 j->n0<=j
 hE:F4 E
 hj:∃j,j<96/\E.nd j<=0
 hok:G0 C L
 s0:st0.puts=[]
 s1:st0.ps=[]
 s2:st0.hd<=1536
 hT:Below n0 wT w
 hd:∀y∈L,y.k=2->∃a2 l2 c2,dv y.f = .slice a2 l2 c2/\Sl wT 5 1 (.slice a2 l2 c2) l2 (Dd (C y.f))/\∀g,Own (.slice a2 l2 c2) g->g<n0
theorem ZN{E:FL}{C:NB}{L:List It}{st0:Pl}{k:Nat}{y:It}(a:L[k]?=some y):DA E C ⟨#[]⟩ st0 (L.take (k+1))=((DA E C ⟨#[]⟩ st0 (L.take k)).1++(DZ E C (J4 ⟨#[]⟩ (L.take k)) (DA E C ⟨#[]⟩ st0 (L.take k)).2 y).1,(DZ E C (J4 ⟨#[]⟩ (L.take k)) (DA E C ⟨#[]⟩ st0 (L.take k)).2 y).2)/\J4 ⟨#[]⟩ (L.take (k+1))=jn y.ns:=by
 rw[Bg,a,Cj,Ty,PA];exact⟨rfl,rfl⟩
section
variable{w wT:World}{n0 n1 pb db sb so tb:Nat}{E:FL}{C:NB}{dv:NV}{L:List It}{st0:Pl}{O0:Nat->Prop}
theorem GO.belowT(h:IM w wT n0 n1 E C dv L st0 O0){c:Pl}{s b:By}{v:Value}{O:Nat->Prop}{X:World}(a:GO w n0 n1 pb db sb so tb E O0 c s b v O X):Below n0 wT X:=
 h.hT.trans ⟨a.fr.os,a.fr.tape,a.fr.output,a.fr.size,fun k hk=>a.fr.block k (by have:=h.hB.n0;omega) (fun e=>by have:=h.o1 k e;omega)⟩
theorem IM.round(h:IM w wT n0 n1 E C dv L st0 O0){k:Nat}{y:It}(A:L[k]?=some y){a:OA}{l c:Nat}{O:Nat->Prop}{X:World}
  (b:GO w n0 n1 pb db sb so tb E O0 (DA E C ⟨#[]⟩ st0 (L.take k)).2 (DA E C ⟨#[]⟩ st0 (L.take k)).1 (J4 ⟨#[]⟩ (L.take k)) (.slice a l c) O X) (D:n1<=X.heap.size) {s:Nat} {u:OA} {x v:Nat}
  (hv:J9 dv y = .agg #[.string (jn y.ns),.int .u8 (y.k:Nat),.int .i64 (y.f:Nat),.slice u x v]) (n:FH X s 141 [.string (jn y.ns),.int .u8 (y.k:Nat),.int .i64 (y.f:Nat),.slice u x v]) (ad:n1<=s):
  Cl 236 #[.pointer (some ⟨pb,0,none⟩),.slice a l c,.string (J4 ⟨#[]⟩ (L.take k)),.agg #[.string (jn y.ns),.int .u8 (y.k:Nat),.int .i64 (y.f:Nat),.slice u x v]] X fun e f=>∃i p m,e = .returned (.slice i p m)/\f.cell? ⟨w.heap.size+1,0,none⟩=some (.slice a l c)/\f.frozen? ⟨w.heap.size+1,0,none⟩=false/\
   ∃Y1,f.setCell ⟨w.heap.size+1,0,none⟩ (.slice i p m)=Y1/\Y1.cell? ⟨s,0,none⟩=some (.string (jn y.ns))/\Y1.cell? ⟨w.heap.size+1+1,0,none⟩=some (.string (J4 ⟨#[]⟩ (L.take k)))/\Y1.frozen? ⟨w.heap.size+1+1,0,none⟩=false/\
   Hid ((∃O',GO w n0 n1 pb db sb so tb E O0 (DA E C ⟨#[]⟩ st0 (L.take (k+1))).2 (DA E C ⟨#[]⟩ st0 (L.take (k+1))).1 (J4 ⟨#[]⟩ (L.take (k+1))) (.slice i p m) O' (Y1.setCell ⟨w.heap.size+1+1,0,none⟩ (.string (jn y.ns))))/\
    G9 n0 n1 X (Y1.setCell ⟨w.heap.size+1+1,0,none⟩ (.string (jn y.ns)))/\(Y1.setCell ⟨w.heap.size+1+1,0,none⟩ (.string (jn y.ns))).heap[w.heap.size+1+1+1]?=X.heap[w.heap.size+1+1+1]?/\∀(k:Nat) (o:Obj),X.heap[k]?=some o->o.isCells=false->(Y1.setCell ⟨w.heap.size+1+1,0,none⟩ (.string (jn y.ns))).heap[k]?=some o):=by
 have r:=An A;obtain⟨t1,t2,t3,t4,t5,t6⟩:=h.hok.turn E st0 h.s0 h.s1 h.s2 k y A;have Y:=b.belowT h;have hn:=h.hB.n0;have ae:=h.hB.n1;have I:=ZA X n0 n1 pb db sb so E h.hE h.hj _ O b.st a l c _ b.rs b.dis D (by omega) C dv y (h.hok.kind y r) (h.hok.path y r) (h.hok.num y r) (h.hok.size y r) (J4 ⟨#[]⟩ (L.take k)) t6 (fun hk=>by
  obtain⟨M,l2,N,P,Q,G⟩:=h.hd y r hk;refine⟨M,l2,N,P,Q.kept (fun g hg aa=>Y.block g (G g aa)),G⟩) t1 t2 t3 t4 t5
 rw[hv]at I;refine I.mono ?_;rintro e f ⟨i,p,m,O',rfl,W,ac,U,af,Z,J⟩;obtain⟨z,H⟩:=b.say h.hB D ac W U Z J;have nO:∀B,w.heap.size<=B->B<n1->¬O B:=fun B q1 q2 e=>by
  rcases b.hO B e with q|q
  ·have:=h.hB.o0 B q;omega
  ·omega
 have nV:∀B,B<n1->¬Own (.slice a l c) B:=fun B q e=>by have:=b.rs.2 B e;omega
 have F:FH f (w.heap.size+1) 59 [.slice a l c]:=(J.block _ b.b1.lt (fun e=>e.elim (nO _ (by omega) (by omega)) (nV _ (by omega)))).trans b.b1;have ab:FH (f.setCell ⟨w.heap.size+1,0,none⟩ (.slice i p m)) s 141 [.string (jn y.ns),.int .u8 (y.k:Nat),.int .i64 (y.f:Nat),.slice u x v]:=by
  refine(H.block _ n.lt (fun e=>?_)).trans n;rcases e with e|e|e
  ·obtain⟨K,t,d,ht⟩:=b.st.typed e;unfold FH at d n;rw[n]at d;cases d;cases ht
  ·obtain⟨K,d⟩:=b.rs.typed e;unfold FH at d n;rw[n]at d;cases d
  ·omega
 obtain⟨V,T⟩:=z.path h.hB (jn y.ns);obtain⟨R,S⟩:=ZN (E:=E) (C:=C) (st0:=st0) A;refine⟨i,p,m,rfl,(F.cell 0).trans rfl,F.frozen 0,_,rfl,(ab.cell 0).trans rfl,(z.b2.cell 0).trans rfl,z.b2.frozen 0,⟨O',?_⟩,?_⟩
 ·rw[R,S];exact V
 ·exact b.keeps h.hB D ((H.mono (fun j _ e=>by rcases e with e|e|e;exact .inl e;exact .inr (.inl e);exact .inr (.inr (.inl e)))).then T (fun j _ e => .inr (.inr (.inr e))))
def TI(w:World)(n0 n1 pb db sb so tb:Nat)(E:FL)(O0:Nat->Prop)(D:Nat)(F:By×Pl)(below:Nat)(Y:World):Prop:=
 ∃d st s last a l c O,GO w n0 n1 pb db sb so tb E O0 st s last (.slice a l c) O Y/\Y.heap[D]?=some (.deferred (some []))/\n1<=Y.heap.size/\Hf d below st s/\JE E d below st s=F
theorem IM.table(h:IM w wT n0 n1 E C dv L st0 O0){a:OA}{l c:Nat}{O:Nat->Prop}{N:By}{X:World}
  (n:GO w n0 n1 pb db sb so tb E O0 (DA E C ⟨#[]⟩ st0 L).2 (DA E C ⟨#[]⟩ st0 L).1 N (.slice a l c) O X) (k:n1<=X.heap.size) {D:Nat} (hD:X.heap[D]?=some (.deferred (some []))):
  ∃Z v F A m,X.drew.alloc (.cells #[.int .u8 0] 5)=Z/\(Builtin.append_ #[59,59] 59 #[.slice a l c,.slice (some ⟨X.heap.size,0,none⟩) 1 1]).run Tryz.prog Z = .ok (.slice v F A) m/\X.cell? ⟨w.heap.size,0,none⟩=some (.pointer (some ⟨pb,0,none⟩))/\Z.cell? ⟨w.heap.size,0,none⟩=some (.pointer (some ⟨pb,0,none⟩))/\m.cell? ⟨w.heap.size,0,none⟩=some (.pointer (some ⟨pb,0,none⟩))/\X.cell? ⟨w.heap.size+1,0,none⟩=some (.slice a l c)/\Z.cell? ⟨w.heap.size+1,0,none⟩=some (.slice a l c)/\
   Hid (Cl 237 #[.pointer (some ⟨pb,0,none⟩),.int .u8 3,.int .i64 0,.slice v F A] m fun e g=>∃o r p,e = .returned (.slice o r p)/\g.cell? ⟨w.heap.size,0,none⟩=some (.pointer (some ⟨pb,0,none⟩))/\g.cell? ⟨w.heap.size+1,0,none⟩=some (.slice a l c)/\g.frozen? ⟨w.heap.size+1,0,none⟩=false/\(g.setCell ⟨w.heap.size+1,0,none⟩ (.slice o r p)).cell? ⟨w.heap.size,0,none⟩=some (.pointer (some ⟨pb,0,none⟩))/\
    Hid (TI w n0 n1 pb db sb so tb E O0 D (Ku E C st0 L) 1 (g.setCell ⟨w.heap.size+1,0,none⟩ (.slice o r p)))):=by
 have hn:=h.hB.n0;have al:=h.hB.n1;obtain⟨t1,t2,t3,H,Q⟩:=U6 E C ⟨#[]⟩ st0 L (fun z k=>⟨h.hok.path z k,h.hok.size z k,h.hok.kind z k⟩);rw[h.s0]at t2 Q;rw[h.s1]at t3;have H:=H h.s2;have ak:=h.hok.len;simp only[Ay]at t2 t3;generalize hst:(DA E C ⟨#[]⟩ st0 L).2=st at *
 generalize hss:(DA E C ⟨#[]⟩ st0 L).1=s at *
 obtain⟨Z,eZ,xZ,kZ,sZ,bZ⟩:=De X.drew [.int .u8 0] 5;have J:Bw X Z:=((Ag X.heap.size X).drew).trans bZ;have ai:FH Z X.heap.size 5 [.int .u8 0]:=xZ;have aj:=J.size;have d:GO w n0 n1 pb db sb so tb E O0 st s N (.slice a l c) O Z:=n.fr' h.hB (Z:=fun _=>False) (Fr.of_below J) (fun _ e=>e.elim);obtain⟨v,F,A,m,r1,r2,G,r4⟩:=Kj Z n1 (by omega) (.slice a l c) s d.rs ⟨X.heap.size,0,none⟩ 1 1 ⟨#[0]⟩ rfl (fun j u hu=>by rw[AF,Au,ai.cell];exact hu) (by omega);have nO:∀B,w.heap.size<=B->B<n1->¬O B:=fun B q1 q2 e=>by
  rcases n.hO B e with q|q
  ·have:=h.hB.o0 B q;omega
  ·omega
 have nV:∀B,B<n1->¬Own (.slice a l c) B:=fun B q e=>by have:=n.rs.2 B e;omega
 have I:FH m w.heap.size 168 _:=(G.block _ d.b0.lt (nV _ (by omega))).trans d.b0;have R:FH m (w.heap.size+1) 59 _:=(G.block _ d.b1.lt (nV _ (by omega))).trans d.b1;have ag:Gy n0 pb db sb so E st O m:=d.st.keeps G (fun j f=>⟨fun ho=>d.dis j ho f,by have:=d.rs.2 j f;omega⟩);have ac:∀j,O j->¬Own (.slice v F A) j:=fun j f hv=>by
  rcases r4 j hv with e|e
  ·exact n.dis j f e
  ·obtain⟨cs,t,hb⟩:=d.st.cells f;have:=(Ah.1 hb).1;omega
 obtain⟨b,K⟩:∃b:By,b=s++⟨#[0]⟩:=⟨_,rfl⟩;have ah:b.size=s.size+1:=by rw[K];exact Ai
 rw[<-K]at r2;refine⟨Z,v,F,A,m,eZ,r1,(n.b0.cell 0).trans rfl,(d.b0.cell 0).trans rfl,(I.cell 0).trans rfl,(n.b1.cell 0).trans rfl,(d.b1.cell 0).trans rfl,?_⟩;refine(YM m n0 pb db sb so E h.hE h.hj st O ag n1 v F A _ r2 ac (by omega) (by omega) (by omega) (by omega) H (fun z k i hi e=>?_)).mono ?_
 ·rcases Q z k with q|⟨x,M,_,j,f,q⟩
  ·cases q
  ·have:=h.hok.num x M;have:=Zkj (by omega) (by omega) (by omega) (by omega) (q.symm.trans e);omega
 ·rintro e g ⟨o,r,p,O',rfl,p1,p2,p3,p4,P⟩;have am:=G.size;have aa:FH g w.heap.size 168 _:=(P.block _ I.lt (nO _ (by omega) (by omega))).trans I;have S:FH g (w.heap.size+1) 59 _:=(P.block _ R.lt (nO _ (by omega) (by omega))).trans R;have ad:Fr (fun j=>O j\/Own (.slice a l c) j) X g:=((Fr.of_below J).then (G.mono (Y:=fun j=>O j\/Own (.slice a l c) j) (fun j _ e => .inr e)) (fun _ _ e=>e)).then (P.mono (Y:=fun j=>O j\/Own (.slice a l c) j) (fun j _ e => .inl e)) (fun _ _ e=>e);obtain⟨U,T⟩:=n.say h.hB k p1 ⟨p2.1,fun j f=>by have:=p2.2 j f;omega⟩ (fun j f=>(p3 j f).imp id (fun e=>by omega)) p4 ad;have hk:=n.keeps h.hB k (T.mono (fun j _ e=>by rcases e with e|e|e;exact .inl e;exact .inr (.inl e);exact .inr (.inr (.inl e))));have ae:Hf 8 1 (DV E 3 63 0 st b).2 (DV E 3 63 0 st b).1:=by
   obtain⟨W,m2,m3⟩:=FL.puts_len E (Dp 3 0) (D9 3 b 63) st 0 (List.range ((b.size+63-1)/63));rw[A9]at W m2;have V:=Ng E 3 63 0 st b;have g1:(DV E 3 63 0 st b).2.puts.length=st.puts.length+(b.size+63-1)/63:=W;have g2:(DV E 3 63 0 st b).2.ps.length<=st.ps.length+(b.size+63-1)/63:=m2;rw[ah]at g1 g2 V;refine⟨rfl,fun y hy=>?_,by omega,by omega,m3 H,by omega,by omega,_,V⟩;rcases FL.puts_mem E _ _ st 0 _ y hy with q|⟨j,_,q2,q3⟩
   ·rcases Q y q with q|⟨x,M,_,j,f,q⟩
    ·cases q
    ·exact⟨4,x.f,j,q,by omega,.inl ⟨rfl,h.hok.num x M⟩⟩
   ·rw[A9]at q2;exact⟨3,0,j,q3,by omega,.inr (.inl ⟨rfl,rfl⟩)⟩
  have af:JE E 8 1 (DV E 3 63 0 st b).2 (DV E 3 63 0 st b).1=Ku E C st0 L:=by unfold Ku;rw[hst,hss,<-K]
  have ab:TI w n0 n1 pb db sb so tb E O0 D (Ku E C st0 L) 1 (g.setCell ⟨w.heap.size+1,0,none⟩ (.slice o r p)):=⟨8,_,_,N,o,r,p,O',U,hk.2.2 D _ hD rfl,Ae k T.size,ae,af⟩;exact⟨o,r,p,rfl,(aa.cell 0).trans rfl,(S.cell 0).trans rfl,S.frozen 0,(U.b0.cell 0).trans rfl,ab⟩
end
def Lp(w:World)(n0 pb db sb so:Nat)(E:FL)(O0:Nat->Prop)(F:By×Pl)(e:Ending)(w':World):Prop:=
 e = .returned (.tuple #[])/\F.1.size=10/\∃O',QE w' pb db sb so E F.2 (GK F.1:Nat) (Hi F.1:Nat) O'/\Hy w' n0 db sb so E/\Fr O0 w w'/\∀j,O' j->O0 j\/w.heap.size<=j
section
variable{w wT:World}{n0 n1 pb db sb so tb:Nat}{E:FL}{C:NB}{dv:NV}{L:List It}{st0:Pl}{O0:Nat->Prop}
theorem IM.index(h:IM w wT n0 n1 E C dv L st0 O0){a:OA}{l c d b D:Nat}{O:Nat->Prop}{o:Pl}{s x:By}{F:By×Pl}{Y:World}
  (f:GO w n0 n1 pb db sb so tb E O0 o s x (.slice a l c) O Y) (A:Y.heap[D]?=some (.deferred (some []))) (p:n1<=Y.heap.size) (m:Hf d b o s) (G:JE E d b o s=F) (v:10<s.size):
  Cl 237 #[.pointer (some ⟨pb,0,none⟩),.int .u8 2,.int .i64 (b:Nat),.slice a l c] Y fun e g=>∃i n k,e = .returned (.slice i n k)/\g.cell? ⟨w.heap.size+1,0,none⟩=some (.slice a l c)/\g.frozen? ⟨w.heap.size+1,0,none⟩=false/\
   Hid (TI w n0 n1 pb db sb so tb E O0 D F (b+1) (g.setCell ⟨w.heap.size+1,0,none⟩ (.slice i n k))):=by
 have hn:=h.hB.n0;have aa:=h.hB.n1;have hb:=m.bd;have i1:=m.n1;have i2:=m.n2;obtain⟨t,rfl,K,_⟩:=m.next v E;have Q:∀B,w.heap.size<=B->B<n1->¬O B:=fun B q1 q2 e=>by
  rcases f.hO B e with q|q
  ·have:=h.hB.o0 B q;omega
  ·omega
 refine(YL Y n0 pb db sb so E h.hE h.hj o O f.st n1 a l c s f.rs f.dis b (by omega) (by omega) (by omega) (by omega) (by omega) m.n3 (m.pk.fresh (by omega))).mono ?_;rintro e g ⟨i,n,k,O',rfl,R,y,S,T,z⟩;have r:FH g (w.heap.size+1) 59 _:=(z.block _ f.b1.lt (Q _ (by omega) (by omega))).trans f.b1;have J:Fr (fun j=>O j\/Own (.slice a l c) j) Y g:=z.mono (fun j _ e => .inl e);obtain⟨H,u⟩:=f.say h.hB p R ⟨y.1,fun j N=>by have:=y.2 j N;omega⟩ S T J;have P:=f.keeps h.hB p (u.mono (fun j _ e=>by rcases e with e|e|e;exact .inl e;exact .inr (.inl e);exact .inr (.inr (.inl e))));have M:JE E t (b+1) (DV E 2 60 b o s).2 (DV E 2 60 b o s).1=F:=by
  rw[<-G];show _=(if _ then _ else _);rw[if_pos v]
 have I:TI w n0 n1 pb db sb so tb E O0 D F (b+1) (g.setCell ⟨w.heap.size+1,0,none⟩ (.slice i n k)):=⟨t,_,_,x,i,n,k,O',H,P.2.2 D _ A rfl,Ae p u.size,K,M⟩;exact⟨i,n,k,rfl,(r.cell 0).trans rfl,r.frozen 0,I⟩
theorem IM.top(h:IM w wT n0 n1 E C dv L st0 O0){a:OA}{l c d J D:Nat}{O:Nat->Prop}{m:Pl}{s H:By}{F:By×Pl}{Y:World}
  (f:GO w n0 n1 pb db sb so tb E O0 m s H (.slice a l c) O Y) (A:Y.heap[D]?=some (.deferred (some []))) (ak:w.heap.size<=D) (hz:n1<=Y.heap.size) (N:Hf d J m s) (hF:JE E d J m s=F) (hs:¬10<s.size):
  l=10/\∃b,Y.alloc (.cells #[.slice a l c] 287)=b/\b.cell? ⟨w.heap.size,0,none⟩=some (.pointer (some ⟨pb,0,none⟩))/\
    Hid (Cl 238 #[.pointer (some ⟨Y.heap.size,0,none⟩)] b.drew fun e Z=>∃p x:Nat,e = .returned (.agg #[.int .i64 (p:Nat),.int .u64 (x:Nat)])/\Z.cell? ⟨w.heap.size,0,none⟩=some (.pointer (some ⟨pb,0,none⟩))/\Z.cell? ⟨pb,101,none⟩=some (.int .i64 0)/\Z.cell? ⟨pb,102,none⟩=some (.int .u64 0)/\Z.frozen? ⟨pb,101,none⟩=false/\Z.frozen? ⟨pb,102,none⟩=false/\((Z.setCell ⟨pb,101,none⟩ (.int .i64 (p:Nat))).setCell ⟨pb,102,none⟩ (.int .u64 (x:Nat))).cell? ⟨w.heap.size,0,none⟩=some (.pointer (some ⟨pb,0,none⟩))/\
     Hid (((Z.setCell ⟨pb,101,none⟩ (.int .i64 (p:Nat))).setCell ⟨pb,102,none⟩ (.int .u64 (x:Nat))).heap[D]?=some (.deferred (some []))/\Lp w n0 pb db sb so E O0 F (.returned (.tuple #[])) (((Z.setCell ⟨pb,101,none⟩ (.int .i64 (p:Nat))).setCell ⟨pb,102,none⟩ (.int .u64 (x:Nat))).putObj D (.deferred none)))):=by
 have hn:=h.hB.n0;have an:=h.hB.n1;have o:=N.bd;have i5:=N.n5;have R:s.size=10:=by omega
 obtain⟨g,rfl,rfl,ah,al⟩:=f.rs.some (by omega);have ab:F=(s,m):=by
  rw[<-hF]
  cases d with
  | zero=>rfl
  | succ d=>show(if _ then _ else _)=_;rw[if_neg hs]
 subst ab;obtain⟨b,U,x8,k8,s8,I⟩:=De Y [.slice (some ⟨g,0,none⟩) s.size c] 287;have G:GO w n0 n1 pb db sb so tb E O0 m s H (.slice (some ⟨g,0,none⟩) s.size c) O b:=f.fr' h.hB (Z:=fun _=>False) (Fr.of_below I) (fun _ e=>e.elim);have ai:Ge b.drew (some ⟨g,0,none⟩) s.size c s:=G.rs.rdB;refine⟨R,b,U,(G.b0.cell 0).trans rfl,?_⟩;refine(YK b.drew Y.heap.size (some ⟨g,0,none⟩) s.size c s (show FH b.drew Y.heap.size 287 [.slice (some ⟨g,0,none⟩) s.size c] from x8) ai ah (fun x e=>by cases e;simp only;omega) (by omega)).mono ?_;rintro e Z ⟨rfl,_,_,_,_,_,_,n⟩;have M:Fr (fun k=>k=Y.heap.size) b Z:=⟨n.os,n.tape,n.output,n.size,n.block⟩;have aj:∀j,O j->j<Y.heap.size:=fun j i=>by obtain⟨y,t,o⟩:=f.st.cells i;exact(Ah.1 o).1
 have r:GO w n0 n1 pb db sb so tb E O0 m s H (.slice (some ⟨g,0,none⟩) s.size c) O Z:=G.fr' h.hB M (fun j e=>⟨fun ho=>by have:=aj j ho;omega,fun hv=>by have:=Own.lt f.rs hv;omega,by omega⟩);obtain⟨aa,ac,am,va,V,vp,q,q2,q3,q4,T⟩:=r.st;have v:O pb:=(T pb).2 (.inl rfl);have ao:pb<w.heap.size\/n1<=pb:=(f.hO pb v).imp (h.hB.o0 pb) id;have Q:D≠pb:=fun e=>by
  subst e;obtain⟨y,t,o⟩:=f.st.cells v;rw[A]at o;cases o
 have ad:=q.top (GK s:Nat) (Hi s:Nat);have W:=(Ah.1 A).1;have K:((Z.setCell ⟨pb,101,none⟩ (.int .i64 (GK s:Nat))).setCell ⟨pb,102,none⟩ (.int .u64 (Hi s:Nat))).heap[D]?=some (.deferred (some [])):=by
  rw[AB _ _ _ _ (show D≠pb from Q),AB _ _ _ _ (show D≠pb from Q),M.block D (by omega) (by omega),I.block D W];exact A
 have S:∀B,w.heap.size<=B->B<n1->B≠pb:=fun B r1 r2 e=>by omega
 have mF:FH ((Z.setCell ⟨pb,101,none⟩ (.int .i64 (GK s:Nat))).setCell ⟨pb,102,none⟩ (.int .u64 (Hi s:Nat))) w.heap.size 168 [.pointer (some ⟨pb,0,none⟩)]:=(AB _ _ _ _ (S _ (by omega) (by omega))).trans ((AB _ _ _ _ (S _ (by omega) (by omega))).trans r.b0);refine⟨GK s,Hi s,rfl,(r.b0.cell 0).trans rfl,(q.row.cell 101).trans (JL _ _ _ _ _ _ _ _ _ _ 3),(q.row.cell 102).trans (JL _ _ _ _ _ _ _ _ _ _ 4),q.row.frozen 101,q.row.frozen 102,(mF.cell 0).trans rfl,K,rfl,R,O,⟨va,V,vp,?_,q2,q3,q4,T⟩,?_,?_,fun j i=>(f.hO j i).imp id (fun e=>by omega)⟩
 ·refine ad.cellsKept (fun j y t i=>?_);simp only[World.putObj];rw[A5,if_neg (fun e=>by subst e;rw[K]at i;cases i)];exact i
 ·refine aa.kept (fun k y t z u e=>?_);have P:k≠pb:=fun e=>by subst e;have:=ac k v;omega
  have ag:k≠D:=by omega
  simp only[World.putObj];rw[A5,if_neg (fun e=>ag e.symm)];exact(AB _ _ _ _ P).trans ((AB _ _ _ _ P).trans e)
 ·have ae:Fr (fun k=>k=pb) Z ((Z.setCell ⟨pb,101,none⟩ (.int .i64 (GK s:Nat))).setCell ⟨pb,102,none⟩ (.int .u64 (Hi s:Nat))):=Fr.set (X:=fun k=>k=pb) (Fr.set (X:=fun k=>k=pb) (Fr.refl (fun k=>k=pb) Z) ⟨pb,101,none⟩ _ rfl) ⟨pb,102,none⟩ _ rfl;have af:Fr O0 w ((Z.setCell ⟨pb,101,none⟩ (.int .i64 (GK s:Nat))).setCell ⟨pb,102,none⟩ (.int .u64 (Hi s:Nat))):=r.fr.then ae (fun k u e=>by subst e;exact(f.hO k v).elim id (fun e=>by omega));refine af.then (Y:=fun k=>k=D) ⟨rfl,rfl,rfl,by simp[World.putObj],fun k _ u=>by
   simp only[World.putObj];rw[A5,if_neg (fun e=>u e.symm)]⟩ (fun k u e=>by omega)
end
section
open Go.RowKit Go.Shelf
attribute [local go_sem] Oper.semAt_some
theorem G9.chgs{a n1:Nat}(X:World)(o:Obj)(r:Nat)(b:a<=r)(h1:r<n1):G9 a n1 X (X.putObj r o):=⟨VW X o b,fun k o' hk ho _=>(Bl (by omega)).trans ho⟩
theorem Z7(w wT:World)(N pb db sb so tb rd:Nat)(E:FL)(hE:F4 E)(T:∃j,j<96/\E.nd j<=0)(st0:Pl)(aR:st0.puts=[])(aS:st0.ps=[])(aT:st0.hd<=1536)(M:Nat->Prop)(ai:Gy N pb db sb so E st0 M w)(aU:wT.heap.size=N)(hT:Below N wT w)
  (V:NV) (Ed:NS) (vi:Value) (G:Gh) (I:LF) (CI:IB) (ch:LY->List Ek) (dv:NV) (H:I4 wT tb rd V Ed vi G I CI ch dv) (C:NB) (aQ:G0 C (Dg ch))
  (hd:∀y∈Dg ch,y.k=2->∃F f u,dv y.f = .slice F f u/\Sl wT 5 1 (.slice F f u) f (Dd (C y.f))/\∀g,Own (.slice F f u) g->g<N):
  Cl 199 #[.pointer (some ⟨pb,0,none⟩),.pointer (some ⟨tb,0,none⟩)] w (Lp w N pb db sb so E M (Ku E C st0 (Dg ch))):=by
 have aN:∀j,M j->j<w.heap.size:=fun j T=>by obtain⟨cs,t,hb⟩:=ai.cells T;exact(Ah.1 hb).1
 have W:=ai.2.2.1;have an:IM w wT N (w.heap.size+6) E C dv (Dg ch) st0 M:=⟨⟨aN,by omega,W⟩,ai.2.1,hE,T,aQ,aR,aS,aT,hT,hd⟩;obtain⟨W1,e1,x1,k1,s1,b1⟩:=De w [.pointer (some ⟨pb,0,none⟩)] 168;obtain⟨W2,e2,x2,k2,s2,b2⟩:=De W1 [.slice none 0 0] 59;obtain⟨W3,e3,x3,k3,s3,b3⟩:=De W2 [.string ⟨#[]⟩] 9;obtain⟨W4,e4,x4,k4,s4,b4⟩:=De W3 [.pointer (some ⟨tb,0,none⟩)] 37;have ao:Bw w W4:=b1.trans ((b2.mono (by omega)).trans ((b3.mono (by omega)).trans (b4.mono (by omega))));have y1:=k4 _ _ _ (k3 _ _ _ (k2 _ _ _ x1));have y2:=k4 _ _ _ (k3 _ _ _ x2);have y3:=k4 _ _ _ x3;have t2:W2.heap.size=w.heap.size+1+1:=by omega
 have t3:W3.heap.size=w.heap.size+1+1+1:=by omega
 have t4:W4.heap.size=w.heap.size+4:=by omega
 rw[s1]at y2;rw[t2]at y3;rw[t3]at x4;have aE:=SJ wT W4 (w.heap.size+1+1+1) tb rd V Ed vi G I CI ch dv H (by unfold Bw;rw[aU];exact hT.trans (ao.mono W)) x4;have aL:GO w N (w.heap.size+6) pb db sb so tb E M st0 ⟨#[]⟩ ⟨#[]⟩ (.slice none 0 0) M W4:=⟨ai.keeps (Z:=fun _=>False) (Fr.of_below ao) (fun _ e=>e.elim),fun j T => .inl T,y1,y2,y3,x4,cP.nil _ _,fun j _ e=>by simp[Own,Value.ownBlock]at e,Fr.of_below ao,by omega⟩;obtain⟨L,hL⟩:=ex (Dg ch);rw[<-hL]at an aE ⊢;have aP:∀k y,L[k]?=some y->∃z D B,J9 dv y = .agg #[.string (jn y.ns),.int .u8 (y.k:Nat),.int .i64 (y.f:Nat),.slice z D B]:=fun k y J=>by
  unfold J9;by_cases hk:y.k=2
  ·rw[if_pos hk];obtain⟨F,f,u,q1,_⟩:=an.hd y (An J) hk;exact⟨F,f,u,by rw[q1]⟩
  ·rw[if_neg hk];exact⟨_,_,_,rfl⟩
 have aY:=Db aP;have ab:=Db an;have aZ:=Db aE;have aX:=Db aL;have ae:=Db t4;have aG:=Db e1;have aH:=Db e2;have aI:=Db e3;have aJ:=Db e4;have aK:=Db W;clear x1 x2 x3 x4 k1 k2 k3 k4 s1 s2 s3 s4 b1 b2 b3 b4 y1 y2 y3 t2 t3 t4 e1 e2 e3 e4 ao aE ai aL an H hE T aR aS aT hT aQ hd aN hL aP W;refine(A0 (n:=3)).1 ?_;refine Bq Tryz.func199 rfl trivial ?_ rfl;simp only[Tryz.ntmps199,AQ,Af,Ay,Nat.reduceAdd,Nat.reduceSub,AP,AO,AV,AR,AJ,AL]
 gi_wp2_with (refine⟨trivial,?_⟩;gi_at_call 115;refine(RK _ _ _).mono ?_;rintro e w' ⟨rfl,rfl⟩)
 rw[show w.alloc (.cells #[.pointer (some ⟨pb,0,none⟩)] 168)=W1 from Da aG,show W1.alloc (.cells #[.slice none 0 0] 59)=W2 from Da aH,show W2.alloc (.cells #[.string ⟨#[]⟩] 9)=W3 from Da aI,show W3.alloc (.cells #[.pointer (some ⟨tb,0,none⟩)] 37)=W4 from Da aJ];rename_i K0 aM;clear aG aH aI aJ;have t4:=Da ae;have W:=Da aK;refine PO (gf:=169) (lb := #[.pointer (some ⟨w.heap.size+1+1+1,0,none⟩)]) rfl (Ez Tryz.func169 (by kernel_rfl) rfl)
  (Da aZ) (Ag _ _) (fun h k=>⟨h.1.trans k.1,k.2.trans h.2⟩) (fun X o o' ho _=>⟨G9.chgs X o' _ (by omega) (by omega),Bl (by omega)⟩) (T3 _ _)
  (fun k X=>∃a l c O,GO w N (w.heap.size+6) pb db sb so tb E M (DA E C ⟨#[]⟩ st0 (L.take k)).2 (DA E C ⟨#[]⟩ st0 (L.take k)).1 (J4 ⟨#[]⟩ (L.take k)) (.slice a l c) O X)
  (fun k A A' hA hc=>by
   obtain⟨a,l,c,O,hA⟩:=hA;rw[t4]at hc;exact⟨a,l,c,O,hA.chg (Da ab).hB hc⟩)
  ⟨none,0,0,M,Da aX⟩
  (fun k a' X=>∃Bx y z D B,L[k]?=some y/\W4.heap.size+2<=Bx/\FH X Bx 141 [.string (jn y.ns),.int .u8 (y.k:Nat),.int .i64 (y.f:Nat),.slice z D B]/\J9 dv y = .agg #[.string (jn y.ns),.int .u8 (y.k:Nat),.int .i64 (y.f:Nat),.slice z D B]/\a'={ tmps := #[.pointer (some ⟨pb,0,none⟩),.pointer (some ⟨tb,0,none⟩),.pointer (some ⟨w.heap.size,0,none⟩),undef,.pointer (some ⟨w.heap.size+1,0,none⟩),.pointer (some ⟨w.heap.size+1+1,0,none⟩),.pointer (some ⟨Bx,0,none⟩),undef,undef,.pointer (some ⟨tb,0,none⟩),.func (.func 169) #[] #[.pointer (some ⟨w.heap.size+1+1+1,0,none⟩)],.agg #[.string (jn y.ns),.int .u8 (y.k:Nat),.int .i64 (y.f:Nat),.slice z D B],undef,undef,undef,undef,undef,undef,undef,undef,undef,undef,undef,undef,undef,undef,undef,undef,undef,undef,undef,undef,undef,undef,undef,undef,undef,undef,undef,undef],defers:=[] })
  (fun k a' A A' hA hs hc T=>by
   obtain⟨Bx,y,z,D,B,J,al,hr,hv,ha⟩:=hA;exact⟨Bx,y,z,D,B,J,al,(T Bx al).trans hr,hv,ha⟩)
  ?assign ?body ?done
 case assign=>
  rintro k X Kk hk r hz aO;obtain⟨y,J⟩:∃y,L[k]?=some y:=⟨_,Ac hk⟩;obtain⟨z,D,B,hv⟩:=Da aY k y J;rw[U8 J,hv];have HY:=Db J;have HV:=Db hv;have aW:=Db aO;have HZ:=Db hz;have HI:=Db r;clear t4 J hv aO hz r W
  gi_wp2
  have t4:=Da ae;obtain⟨a,l,c,O,r⟩:=Da HI;have a4:Gc (w.heap.size+4) X (X.alloc (.cells #[.string (jn y.ns),.int .u8 (y.k:Nat),.int .i64 (y.f:Nat),.slice z D B] 141)):=Gc.alloc _ _;have aC:Bw X (X.alloc (.cells #[.string (jn y.ns),.int .u8 (y.k:Nat),.int .i64 (y.f:Nat),.slice z D B] 141)):=(Ag _ X).alloc (Aa _) _;have hz:=Da HZ;have W:=Da aK;exact Da aW _ _ ((Eb _ _).from _) ⟨⟨aC.mono (by omega),fun j o T ho _=>(aC.block j (Ah.1 ho).1).trans ho⟩,aC.block _ (by omega)⟩ ⟨a,l,c,O,r.chg (Da ab).hB a4⟩ ⟨X.heap.size,y,z,D,B,Da HY,hz,B2 X _,Da HV,rfl⟩
 case body=>
  rintro k a' X hk hz ⟨a,l,c,O,r⟩ ⟨Bx,y,z,D,B,J,al,ad,hv,rfl⟩;have aF:=Db ((Da ab).round J r (by omega) hv ad (by omega));have c0:=(r.b0.cell 0).trans (show _=some (Value.pointer (some ⟨pb,0,none⟩)) from rfl);have c1:=(r.b1.cell 0).trans (show _=some (Value.slice a l c) from rfl);have u:=(r.b2.cell 0).trans (show _=some (Value.string (J4 ⟨#[]⟩ (L.take k))) from rfl);have d0:=(ad.cell 0).trans (show _=some (Value.string (jn y.ns)) from rfl);have d1:=(ad.cell 1).trans (show _=some (Value.int .u8 (y.k:Nat)) from rfl);have d2:=(ad.cell 2).trans (show _=some (Value.int .i64 (y.f:Nat)) from rfl);have d3:=(ad.cell 3).trans (show _=some (Value.slice z D B) from rfl);clear t4 W hz r al ad hv J hk
  gi_wp2_with (fail)
  refine⟨trivial,?_⟩;refine(Cp _ (A0.2 (Da aF))).mono ?_;rintro e W' ⟨a',l',c',rfl,f0,f1,Y1,rfl,g0,g1,g2,HE⟩;clear c0 c1 u d0 d1 d2 d3 aF
  gi_wp2
  obtain⟨⟨O',h1⟩,h2,h3,h4⟩:=Da HE;exact⟨⟨h2.1.size,fun j o _ ho hc=>h4 j o ho hc⟩,⟨by rw[Da ae,aU];exact h2,h3⟩,a',l',c',O',h1⟩
 case done=>
  rintro X hz ⟨a,l,c,O,r⟩ hD;rw[BN]at r;obtain⟨Z,a5,l5,c5,w5,hZ,ap,m0,mZ,m5,aV,nZ,ak⟩:=(Da ab).table r (by omega) hD;have HZ:=Db hZ;clear hZ hD r hz t4 W;show K0 _ _;refine aM _ _ ?_;clear aM
  gi_step
  refine Ev Qt ?_;refine Br.2 ?_;refine AN (S:=fun V=>V.cell? ⟨w.heap.size,0,none⟩=some (.pointer (some ⟨pb,0,none⟩))) (by kernel_rfl) m0 (fun ag=>?_);refine tk 0 ?_;try simp only[pE];refine A6 (rs:=[1,2]) (by kernel_rfl) (by simp) ?_;refine(AE (i:=1) rfl ?_ (AE (i:=2) rfl ?_ AX))
  ·intro K b;go_simp;refine b.out _ _ ag (fun aw=>?_);clear b K
   (try simp only[pE])
   refine rk 2 (fun K b=>?_);go_simp;rw[show(X.alloc (.cells #[.int .u8 0] 5)).drew=Z from Da HZ];refine b.out _ _ mZ (fun am=>?_);clear b K
   (try simp only[pE])
   refine rk 3 (fun K b=>?_);refine JD rfl _ _ 59 59 rfl _ _ rfl rfl ap ?_;refine b.out _ _ m5 (fun ax=>?_);clear b K
   (try simp only[pE])
   refine rk 4 (fun K b=>?_);go_simp;go_at_call 237;refine(Da ak).mono ?_;rintro e w6 ⟨a',l',c',rfl,d0,d1,d2,d3,ac⟩;go_wp2_with fail;refine b.out _ _ d0 (fun ay=>?_);clear b K
   (try simp only[pE])
   refine rk 5 (fun K b=>?_);go_simp;refine b.out _ _ d3 (fun az=>?_);clear b K
   (try simp only[pE])
   refine AS (by kernel_rfl) ?_ _;refine Qg ?_;clear aw am ax ay az ag ap m0 mZ m5 aV nZ d0 d1 d2 d3 ak HZ
   gi_wp2
   gi_loopw [7] (fun i wr=>∃P:Nat,i = .int .i64 (P:Nat)/\Hid (TI w N (w.heap.size+6) pb db sb so tb E M W4.heap.size (Ku E C st0 L) P wr)) (fun i _=>10-(intOf i).toNat)
   case atStart=>exact⟨1,rfl,Da ac⟩
   case round=>
    obtain⟨P,rfl,HR⟩:=hrel;obtain⟨d,st,s,a8,F,f,u,O2,m,Q,aa,v,R⟩:=Da HR;have c0:=(m.b0.cell 0).trans (show _=some (Value.pointer (some ⟨pb,0,none⟩)) from rfl);have c1:=(m.b1.cell 0).trans (show _=some (Value.slice F f u) from rfl);have ah:f=s.size:=by
     obtain⟨g,_,q,_⟩:=m.rs.some (by have:=v.n5;omega);exact q
    have aB:=v.bd;by_cases U:10<s.size
    ·have HC:=Db ((Da ab).index m Q aa v R U);have a6:(10:Int)<(f:Int):=by omega
     clear m Q aa v R HR ah U ac
     gi_wp2_with (fail)
     refine⟨trivial,?_⟩;refine(A0.2 (Da HC)).mono ?_;rintro e w7 ⟨a3,l3,c3,rfl,f0,f1,au⟩;clear HC c0 c1
     gi_wp2
     go_roundw
     case rel=>exact⟨P+1,by go_num,Da au⟩
     case measure=>simp[intOf];omega
    ·obtain⟨aD,w8,aj,m8,ar⟩:=(Da ab).top m Q (by have:=Da ae;omega) aa v R U;have a7:¬(10:Int)<(f:Int):=by omega
     have af:=Db aj;clear m Q aa v R HR ah U ac aj aD aB
     gi_wp2
     rw[show wr.alloc (.cells #[.slice F f u] 287)=w8 from Da af];clear af;refine Ev Qt ?_;refine Br.2 ?_;refine AN (S:=fun V=>V.cell? ⟨w.heap.size,0,none⟩=some (.pointer (some ⟨pb,0,none⟩))) (by kernel_rfl) m8 (fun ag=>?_);refine tk 0 ?_;try simp only[pE];refine rk 1 (fun K b=>?_);go_simp;go_at_call 238;refine(Da ar).mono ?_;rintro e Y ⟨p,x,rfl,p0,p1,p2,p3,p4,p5,aq⟩;go_wp2_with fail;refine b.out _ _ p0 (fun a0=>?_);clear b K
     (try simp only[pE])
     refine tk 2 ?_;try simp only[pE];refine tk 3 ?_;try simp only[pE];refine tk 4 ?_;try simp only[pE];refine rk 5 (fun K b=>?_);go_simp;refine b.out _ _ p5 (fun a1=>?_);clear b K
     (try simp only[pE])
     refine AS (by kernel_rfl) ?_ _;refine Qg ?_
     gi_wp2
     obtain⟨av,aA⟩:=Da aq;refine⟨by simp,.inl ⟨_,_,rfl,BS av,?_⟩⟩;exact⟨_,CZ rfl _ _ _,aA⟩
  ·intro K b;go_simp;rw[show(X.alloc (.cells #[.int .u8 0] 5)).drew=Z from Da HZ];refine b.out _ _ mZ (fun am=>?_);clear b K
   (try simp only[pE])
   refine rk 1 (fun K b=>?_);go_simp;refine b.out _ _ am (fun aw=>?_);clear b K
   (try simp only[pE])
   refine rk 3 (fun K b=>?_);refine JD rfl _ _ 59 59 rfl _ _ rfl rfl ap ?_;refine b.out _ _ m5 (fun ax=>?_);clear b K
   (try simp only[pE])
   refine rk 4 (fun K b=>?_);go_simp;go_at_call 237;refine(Da ak).mono ?_;rintro e w6 ⟨a',l',c',rfl,d0,d1,d2,d3,ac⟩;go_wp2_with fail;refine b.out _ _ d0 (fun ay=>?_);clear b K
   (try simp only[pE])
   refine rk 5 (fun K b=>?_);go_simp;refine b.out _ _ d3 (fun az=>?_);clear b K
   (try simp only[pE])
   refine AS (by kernel_rfl) ?_ _;refine Qg ?_;clear aw am ax ay az ag ap m0 mZ m5 aV nZ d0 d1 d2 d3 ak HZ
   gi_wp2
   gi_loopw [7] (fun i wr=>∃P:Nat,i = .int .i64 (P:Nat)/\Hid (TI w N (w.heap.size+6) pb db sb so tb E M W4.heap.size (Ku E C st0 L) P wr)) (fun i _=>10-(intOf i).toNat)
   case atStart=>exact⟨1,rfl,Da ac⟩
   case round=>
    obtain⟨P,rfl,HR⟩:=hrel;obtain⟨d,st,s,a8,F,f,u,O2,m,Q,aa,v,R⟩:=Da HR;have c0:=(m.b0.cell 0).trans (show _=some (Value.pointer (some ⟨pb,0,none⟩)) from rfl);have c1:=(m.b1.cell 0).trans (show _=some (Value.slice F f u) from rfl);have ah:f=s.size:=by
     obtain⟨g,_,q,_⟩:=m.rs.some (by have:=v.n5;omega);exact q
    have aB:=v.bd;by_cases U:10<s.size
    ·have HC:=Db ((Da ab).index m Q aa v R U);have a6:(10:Int)<(f:Int):=by omega
     clear m Q aa v R HR ah U ac
     gi_wp2_with (fail)
     refine⟨trivial,?_⟩;refine(A0.2 (Da HC)).mono ?_;rintro e w7 ⟨a3,l3,c3,rfl,f0,f1,au⟩;clear HC c0 c1
     gi_wp2
     go_roundw
     case rel=>exact⟨P+1,by go_num,Da au⟩
     case measure=>simp[intOf];omega
    ·obtain⟨aD,w8,aj,m8,ar⟩:=(Da ab).top m Q (by have:=Da ae;omega) aa v R U;have a7:¬(10:Int)<(f:Int):=by omega
     have af:=Db aj;clear m Q aa v R HR ah U ac aj aD aB
     gi_wp2
     rw[show wr.alloc (.cells #[.slice F f u] 287)=w8 from Da af];clear af;refine Ev Qt ?_;refine Br.2 ?_;refine AN (S:=fun V=>V.cell? ⟨w.heap.size,0,none⟩=some (.pointer (some ⟨pb,0,none⟩))) (by kernel_rfl) m8 (fun ag=>?_);refine tk 0 ?_;try simp only[pE];refine rk 1 (fun K b=>?_);go_simp;go_at_call 238;refine(Da ar).mono ?_;rintro e Y ⟨p,x,rfl,p0,p1,p2,p3,p4,p5,aq⟩;go_wp2_with fail;refine b.out _ _ p0 (fun a0=>?_);clear b K
     (try simp only[pE])
     refine tk 2 ?_;try simp only[pE];refine tk 3 ?_;try simp only[pE];refine tk 4 ?_;try simp only[pE];refine rk 5 (fun K b=>?_);go_simp;refine b.out _ _ p5 (fun a1=>?_);clear b K
     (try simp only[pE])
     refine AS (by kernel_rfl) ?_ _;refine Qg ?_
     gi_wp2
     obtain⟨av,aA⟩:=Da aq;refine⟨by simp,.inl ⟨_,_,rfl,BS av,?_⟩⟩;exact⟨_,CZ rfl _ _ _,aA⟩
end
def OT(w:World)(db sb so:Nat)(E:FL)(F:By×Pl)(e:Ending)(w':World):Prop:=
 ∃pb O',e = .returned (.pointer (some ⟨pb,0,none⟩))/\w.heap.size<=pb/\F.1.size=10/\QE w' pb db sb so E F.2 (GK F.1:Nat) (Hi F.1:Nat) O'/\Bw w w'/\∀j,O' j->w.heap.size<=j
def Je(es:LI)(cl:Bool)(tp:Nat)(D:LY):FL:=⟨Dw es,cl,es,tp,D⟩
theorem ZhG(w:World)(d b so tb rd a:Nat)(cl:Bool)(c:LI)(D:LY)(l:F4 (Je c cl a D))(n:Hy w w.heap.size d b so (Je c cl a D))(hj:∃j,j<96/\Dw c j<=0)
  (V:NV) (N:NS) (vi:Value) (G:Gh) (I:LF) (M:IB) (ch:LY->List Ek) (A:NV) (H:I4 w tb rd V N vi G I M ch A) (C:NB) (aa:G0 C (Dg ch))
  (Z:∀y∈Dg ch,y.k=2->∃a2 l2 c2,A y.f = .slice a2 l2 c2/\Sl w 5 1 (.slice a2 l2 c2) l2 (Dd (C y.f))/\∀g,Own (.slice a2 l2 c2) g->g<w.heap.size):
  Cl 131 #[.pointer (some ⟨d,0,none⟩),.pointer (some ⟨b,so,none⟩),.pointer (some ⟨tb,0,none⟩),.bool cl] w (OT w d b so (Je c cl a D) (Ku (Je c cl a D) C ⟨a+1,[],[]⟩ (Dg ch))):=by
 have ap:a<1536:=l.bt;obtain⟨vb,aj,ag,ao⟩:=n.cb;have F:w.cell? ⟨b,so+1,none⟩=some (.int .i64 (a:Nat)):=n.ct;have ab:b<w.heap.size:=n.sbl;have Q:=Db (Vu w.drew b so vb c aj ag ⟨l.len,l.srt,l.pl⟩);have P:Hid (∀X,Bw w X->∃Y,X.alloc (.cells (Kl d b so (Dw c) cl (a+1) (.slice none 0 0) 0 0 (.slice none 0 0)).toArray 184)=Y/\Y.cell? ⟨b,so+1,none⟩=some (.int .i64 (a:Nat))/\Hid (Cl 199 #[.pointer (some ⟨X.heap.size,0,none⟩),.pointer (some ⟨tb,0,none⟩)] Y fun e w'=>e = .returned (.tuple #[])/\Hid (OT w d b so (Je c cl a D) (Ku (Je c cl a D) C ⟨a+1,[],[]⟩ (Dg ch)) (.returned (.pointer (some ⟨X.heap.size,0,none⟩))) w'))):=fun X s=>by
  obtain⟨Y,r,xY,kY,sY,bY⟩:=De X (Kl d b so (Dw c) cl (a+1) (.slice none 0 0) 0 0 (.slice none 0 0)) 184;have W:=s.size;have f:Bw w Y:=s.trans (bY.mono W);have hP:FO Y X.heap.size d b so (Dw c) cl (a+1) (.slice none 0 0) [] 0 0 (.slice none 0 0) []:=⟨xY,⟨rfl,.inl ⟨rfl,rfl⟩⟩,Hb.nil _,fun e=>by simp[Own,Value.ownBlock]at e,fun e=>by simp[Own,Value.ownBlock]at e,fun k e=>by simp[Own,Value.ownBlock]at e⟩;have ak:Gy w.heap.size X.heap.size d b so (Je c cl a D) ⟨a+1,[],[]⟩ (fun k=>k=X.heap.size) Y:=by
   refine⟨n.kept (fun k cs t z u e=>(f.block k u).trans e),fun k u=>by omega,f.size,.slice none 0 0,[],.slice none 0 0,hP,fun j k x y _ hx=>by simp at hx,rfl,fun x=>by simp,fun k=>?_⟩;simp[Own,Value.ownBlock]
  refine⟨Y,r,(f.cell (p:=⟨b,so+1,none⟩) ab).trans F,?_⟩;refine(Z7 Y w w.heap.size X.heap.size d b so tb rd (Je c cl a D) l hj ⟨a+1,[],[]⟩ rfl rfl (by show a+1<=1536;omega) _ ak rfl f V N vi G I M ch A H C aa Z).mono ?_;rintro e w' ⟨rfl,af,O',q1,q2,q,q4⟩;refine⟨rfl,X.heap.size,O',rfl,W,af,q1,?_,fun g hg=>by have:=q4 g hg;have:=f.size;omega⟩;exact⟨q.os.trans f.os,q.tape.trans f.tape,q.output.trans f.output,Ae f.size q.size,fun k u=>(q.block k (by have:=f.size;omega) (by omega)).trans (f.block k u)⟩
 have O:=Db (Yl d b so (Dw c) cl (a+1));obtain⟨ae,E⟩:∃V,V=Value.agg (Gj (Dw c)).toArray:=⟨_,rfl⟩;obtain⟨T,B⟩:∃L,L=Kl d b so (Dw c) cl (a+1) (.slice none 0 0) 0 0 (.slice none 0 0):=⟨_,rfl⟩;obtain⟨VP,U⟩:∃V,V=Value.agg T.toArray:=⟨_,rfl⟩;rw[<-E,<-B]at O;rw[<-E]at Q;rw[<-B]at P;have R:=Db U;clear E B U;have HC:Hid (∀X,Bw w X->X.cell? ⟨b,so+1,none⟩=some (.int .i64 (a:Nat))):=fun X s=>(s.cell (p:=⟨b,so+1,none⟩) ab).trans F
 clear H aa Z l n hj;go_enter Tryz.func131,Tryz.ntmps131;go_upto_region 1 with fail;refine AN (S:=fun X=>X.cell? ⟨b,so+1,none⟩=some (.int .i64 (a:Nat))) (by kernel_rfl) F (fun an=>?_);refine tk 0 ?_;try simp only[pE];refine tk 1 ?_;try simp only[pE];refine tk 2 ?_;try simp only[pE];refine tk 4 ?_;try simp only[pE];refine tk 5 ?_;try simp only[pE];refine tk 6 ?_;try simp only[pE];refine tk 7 ?_;try simp only[pE];refine tk 8 ?_;try simp only[pE];refine tk 9 ?_;try simp only[pE];refine Bc (i:=10) (v := .int .i64 ((a+1:Nat):Int)) rfl (by kernel_rfl) (by kernel_rfl) (by kernel_rfl) (fun _ _ _ h=>h) (Or.inl ⟨by rfl,?_⟩) (by assumption) ?_
 ·intro w ah;(try dsimp only at ah);go_simp;rw[BD];omega
 (try simp only[pE])
 refine rk 3 (fun K o=>?_);go_simp;go_at_call 198;refine(Da Q).mono ?_;rintro e X ⟨rfl,m⟩;have J:Bw w X:=⟨m.os,m.tape,m.output,m.size,m.block⟩;have ai:=Da HC X J;obtain⟨Y,r,cY,ad⟩:=Da P X J;have ac:=Db r;clear m J r;go_wp2_with fail;refine o.out _ _ ai (fun am=>?_);clear o K
 (try simp only[pE])
 refine Bc (i:=11) (v:=VP) rfl (by kernel_rfl) (by kernel_rfl) (by kernel_rfl) (fun _ _ _ h=>h) (Or.inl ⟨by rfl,fun V _=>?_⟩) (by assumption) ?_
 ·rw[Da R];exact Pu V 184 _ rfl (vs := #[(0,.pointer (some ⟨d,0,none⟩)),(1,.pointer (some ⟨b,so,none⟩)),(2,ae),(3,.bool cl),(4,.int .i64 ((a+1:Nat):Int))]) (by simp[Act.eval]) (Da O)
 (try simp only[pE])
 refine rk 12 (fun K o=>?_);refine YT rfl 184 _ rfl T (Da R) ?_;rw[Da ac];refine o.out _ _ cY (fun al=>?_);clear o K
 (try simp only[pE])
 refine tk 13 ?_;try simp only[pE];refine AS (by kernel_rfl) ?_ _;go_wp2_with (go_at_call 199;refine(Da ad).mono ?_;rintro e w' ⟨rfl,HP⟩);go_ret;exact Da HP
def Ri(w:World)(stb db:Nat)(vk:Value)(tp tx tn:Int)(vf vn vw ve:Value)(D:LY)(ps:LB)(es:List Int)(e:Ending)(w':World):Prop:=
 e = .returned (.tuple #[])/\∃ve',GN w' stb db vk tp tx tn vf vn vw ve' D ps (es++[((ps.length:Nat):Int)])/\Dh w ve ve'/\Fr (fun k=>k=db\/Own ve k) w w'
theorem ZkO(w:World)(d a pb:Nat)(o:Value)(m n l:Int)(j g vw f:Value)(D:LY)(ps:LB)(b:List Int)(h:GN w d a o m n l j g vw f D ps b)
  (C J so:Nat) (H:Nat->Int) (cl:Bool) (E:Nat) (M:Value) (eP:LI) (K L:Int) (O:Value) (c:FO w pb C J so H cl E M eP K L O []) (F:b.length<=999999998) (r:¬GY d a g vw f pb):
  Cl 133 #[.pointer (some ⟨d,0,none⟩),.pointer (some ⟨pb,0,none⟩)] w (Ri w d a o m n l j g vw f D ps b):=by
 obtain⟨A,lp,B,rfl⟩:=Sl.shape c.sp;have s:=Sl.len c.sp;simp only[Ay]at s;subst s;have ab:=c.cells.2.2.2.2.2.2;have aa:=(h.row.cell 0).trans (show _=some (Value.pointer (some ⟨a,0,none⟩)) from rfl);obtain⟨p,u,q,rfl⟩:=Sl.shape h.sw;have k:=Sl.len h.sw;have y:Hid (Cl 200 #[.pointer (some ⟨a,0,none⟩)] w fun e w'=>e = .returned (.tuple #[])/\w'.cell? ⟨pb,103,none⟩=some (.slice A 0 B)/\Hid (Ri w d a o m n l j g (.slice p u q) f D ps b (.returned (.tuple #[])) w')):=by
  refine(Pw w a j g f p u q h.disk.1 b h.se h.nd.2.2 (by omega)).mono ?_;intro e w' t;obtain⟨N,v,I,x⟩:=h.flush t;have G:FH w' pb 184 _:=c.row.fr x (fun e=>r (e.elim (fun e => .inr (.inl e)) (fun e => .inr (.inr (.inr (.inr e))))));rw[k]at v;exact⟨t.1,(G.cell 103).trans (JL _ _ _ _ _ _ _ _ _ _ 5),rfl,N,k ▸ v,I,x⟩
 clear h c F r k;go_enter Tryz.func133,Tryz.ntmps133;go_wp2
 go_loopw [11] (fun i wr=>i = .int .i64 0/\wr=w) (fun i _=>0)
 case atStart=>exact⟨rfl,rfl⟩
 case round=>
  obtain⟨rfl,rfl⟩:=hrel;go_wp2_with (go_at_call 200;refine(Da y).mono ?_;rintro e w3 ⟨rfl,m1,z⟩);refine Aq (CZ rfl _ _ _) rfl ?_;exact Da z
theorem FL.puts_ind{E:FL}{Q:Pl->Prop}(b:∀st r s,s.size=64->Q st->Q (E.put st r s).2)(R:Nat->Nat)(B:NB)(a:∀x,(B x).size=64):∀(st:Pl) (i:Nat) (xs:List Nat),Q st->Q (E.puts R B st i xs)
 | _,_,[],h=>h
 | st,i,x::xs,h=>FL.puts_ind b R B a _ (i+1) xs (b st (R i) (B x) (a x) h)
theorem SG{E:FL}{Q:Pl->Prop}(a:∀st r s,s.size=64->Q st->Q (E.put st r s).2)(C:NB):∀(last:By) (st:Pl) (xs:List It),Q st->Q (DA E C last st xs).2
 | _,_,[],h=>h
 | last,st,x::xs,h=>by
  refine SG a C (jn x.ns) _ xs ?_;unfold DZ
  split
  ·exact h
  ·split
   ·exact h
   ·exact FL.puts_ind a _ _ (fun x=>O1 _ x) _ _ _ h
theorem SY{E:FL}{Q:Pl->Prop}(a:∀st r s,s.size=64->Q st->Q (E.put st r s).2):∀(d below:Nat) (st:Pl) (s:By),Q st->Q (JE E d below st s).2
 | 0,_,_,_,h=>h
 | d+1,below,st,s,h=>by
  unfold JE
  split
  ·exact SY a d _ _ _ (FL.puts_ind a _ _ (fun x=>Pn _ _ _ x) _ _ _ h)
  ·exact h
theorem Z6{E:FL}{Q:Pl->Prop}(b:∀a r s,s.size=64->Q a->Q (E.put a r s).2)(C:NB)(a:Pl)(L:List It)(h:Q a):Q (Ku E C a L).2:=
 SY b _ _ _ _ (FL.puts_ind b _ _ (fun x=>Pn _ _ _ x) _ _ _ (SG b C _ _ _ h))
def IG(st:Pl):Prop:=(∀y∈st.puts,y.2<1536)/\∀x∈st.ps,x.1<1536/\x.2.size=64
theorem IG.put{E:FL}(d:F4 E)(b:Pl)(r:Nat)(s:By)(e:s.size=64)(h:IG b):IG (E.put b r s).2:=by
 refine⟨fun y c=>?_,fun x a=>?_⟩
 ·rw[FL.put_puts]at c;rcases As.1 c with q|q
  ·exact h.1 y q
  ·rw[Av.1 q];exact d.place_lt b r s
 ·unfold FL.put at a
  split at a
  ·exact h.2 x a
  ·rcases As.1 a with q|q
   ·exact h.2 x q
   ·rw[Av.1 q];exact⟨Nat.mod_lt _ (by decide),e⟩
theorem Rx(E:FL):∀(d below:Nat) (st:Pl) (s:By),Hf d below st s->∃below',below'<=9/\Hf (9-below') below' (JE E d below st s).2 (JE E d below st s).1/\(JE E d below st s).1.size=10
 | 0,below,st,s,h=>⟨below,by have:=h.bd;omega,by have:=h.bd;rw[show 9-below=0 by omega];exact h,by have:=h.n4;have:=h.n5;simp at *;show s.size=10;omega⟩
 | d+1,below,st,s,h=>by
  unfold JE
  split
  ·rename_i a;obtain⟨d',e,b,_⟩:=h.next a E
   cases e
   exact Rx E d _ _ _ b
  ·rename_i a;refine⟨below,by have:=h.bd;omega,by have:=h.bd;rw[show 9-below=d+1 by omega];exact h,?_⟩;have:=h.n5;show s.size=10;omega
theorem Yn{C:NB}{L:List It}(b:G0 C L)(E:FL)(st0:Pl)(o:st0.puts=[])(p:st0.ps=[])(r:st0.hd<=1536):
  Hf 8 1 (DV E 3 63 0 (DA E C ⟨#[]⟩ st0 L).2 ((DA E C ⟨#[]⟩ st0 L).1++⟨#[0]⟩)).2 (DV E 3 63 0 (DA E C ⟨#[]⟩ st0 L).2 ((DA E C ⟨#[]⟩ st0 L).1++⟨#[0]⟩)).1:=by
 obtain⟨t1,i,k,d,l⟩:=U6 E C ⟨#[]⟩ st0 L (fun z c=>⟨b.path z c,b.size z c,b.kind z c⟩);rw[o]at i l;rw[p]at k;have d:=d r;have aa:=b.len;simp only[Ay]at i k;generalize (DA E C ⟨#[]⟩ st0 L).2=st at *
 generalize (DA E C ⟨#[]⟩ st0 L).1=s at *
 obtain⟨a,e⟩:∃a:By,a=s++⟨#[0]⟩:=⟨_,rfl⟩;have t:a.size=s.size+1:=by rw[e];exact Ai
 rw[<-e];obtain⟨g,h,w⟩:=FL.puts_len E (Dp 3 0) (D9 3 a 63) st 0 (List.range ((a.size+63-1)/63));rw[A9]at g h;have f:=Ng E 3 63 0 st a;have m:(DV E 3 63 0 st a).2.puts.length=st.puts.length+(a.size+63-1)/63:=g;have n:(DV E 3 63 0 st a).2.ps.length<=st.ps.length+(a.size+63-1)/63:=h;rw[t]at m n f;refine⟨rfl,fun y v=>?_,by omega,by omega,w d,by omega,by omega,_,f⟩;rcases FL.puts_mem E _ _ st 0 _ y v with q|⟨j,_,A,B⟩
 ·rcases l y q with q|⟨x,u,_,j,hj,q⟩
  ·cases q
  ·exact⟨4,x.f,j,q,by omega,.inl ⟨rfl,b.num x u⟩⟩
 ·rw[A9]at A;exact⟨3,0,j,B,by omega,.inr (.inl ⟨rfl,rfl⟩)⟩
structure IH(F:By×Pl):Prop where
 pl:IG F.2
 n1:F.2.puts.length<=8000
 n2:F.2.ps.length<=8000
 n3:F.1.size=10
 pk:GZ 9 F.2
theorem MV{C:NB}{L:List It}(l:G0 C L)(E:FL)(k:F4 E)(a:Nat)(j:a<=1536):IH (Ku E C ⟨a,[],[]⟩ L):=by
 obtain⟨b,hb,c,d⟩:=Rx E 8 1 _ _ (Yn l E ⟨a,[],[]⟩ rfl rfl j);have i1:=c.n1;have i2:=c.n2;refine⟨Z6 (Q:=IG) (fun q r s d h=>h.put k q r s d) C _ L ⟨fun y g=>(by cases g),fun x m=>(by cases m)⟩,?_,?_,d,fun y g=>?_⟩
 ·show(JE E 8 1 _ _).2.puts.length<=_;omega
 ·show(JE E 8 1 _ _).2.ps.length<=_;omega
 ·obtain⟨n,f,i,e,o,p⟩:=c.pk y g;exact⟨n,f,i,e,o,p.imp id (fun e=>e.imp id (fun e=>⟨e.1,by omega⟩))⟩
def Hm(puts:List (Nat×Nat))(es:LI):Prop:=Gi es/\es.length=puts.length/\∀x,x∈es↔∃y∈puts,x=((y.1:Int),(y.2:Int))
theorem Hm.places{a:List (Nat×Nat)}{b:LI}(h:Hm a b)(c:a.length<=10000)(d:∀y∈a,y.2<1536):OU b:=
 ⟨by rw[h.2.1];exact c,h.1,fun x e=>by
  obtain⟨y,f,rfl⟩:=(h.2.2 x).1 e;exact⟨y.2,rfl,d y f⟩⟩
theorem Gi.nodup{a:LI}(h:Gi a):a.Nodup:=by
 rw[Ft,BQ];intro i j b d c e;have:=h i j a[i] a[j] c (Ac b) (Ac d);rw[e]at this;unfold Gn at this;simp at this
theorem PV{α : Type}:∀(J K:List α),J.Nodup->(∀x∈J,x∈K)->K.length<=J.length->List.Perm J K
 | [],K,_,_,hl=>by
  have:K=[]:=Ak (by simpa using hl);rw[this]
 | a::J,K,hnd,hs,hl=>by
  rw[Cx]at hnd;obtain⟨s,t,rfl⟩:=Fz (hs a (by simp));have ih:=PV J (s++t) hnd.2 (fun x b=>by
   have:=hs x (by simp[b]);rcases As.1 this with h|h
   ·exact BM _ h
   ·rcases AG.1 h with rfl|h
    ·exact absurd b hnd.1
    ·exact Cb _ h) (by simp at hl ⊢;omega)
  exact(ih.cons a).trans List.perm_middle.symm
theorem Hm.perm{b:List (Nat×Nat)}{a:LI}(h:Hm b a):List.Perm a (b.map (fun y=>((y.1:Int),(y.2:Int)))):=
 PV _ _ h.1.nodup (fun x c=>by obtain⟨y,d,rfl⟩:=(h.2.2 x).1 c;exact A2.2 ⟨y,d,rfl⟩) (by rw[A7,h.2.1];exact Aa _)
def Mg(puts:List (Nat×Nat))(j:Nat):Int:=(if j=0 then 2 else 0)+(puts.countP (fun y=>y.2/16==j):Nat)
theorem Hm.nd{b:List (Nat×Nat)}{a:LI}(h:Hm b a):Dw a=Mg b:=by
 funext j
 unfold Dw Mg;rw[h.perm.countP_eq,List.countP_map]
 rfl
end Go.Proofs.YtaieidcohdhgpaaGreatDoor
