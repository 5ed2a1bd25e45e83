/- Spoilt. -/
import Derived.Test.YtaieidcohdhgpaaGreatDoorXAT
namespace Go.Proofs.YtaieidcohdhgpaaGreatDoor
set_option maxHeartbeats 40000000
set_option maxRecDepth 100000
open Go.RowKit
structure Lq(w wT:World)(n0 n1:Nat)(E:F3)(C:NB)(dv:NV)(L:List It)(st0:Pl)(O0:Nat->Prop):Prop where
 hB:MI w n0 n1 O0
 o1:∀j,O0 j->n0<=j
 hE:Gv E
 hj:∃j,j<96/\E.nd j<=0
 hok:GQ C L
 s0:st0.puts=[]
 s1:st0.ps=[]
 s2:st0.hd<=1536
 hT:Below n0 wT w
 hd:∀y∈L,y.k=2->∃a2 l2 c2,dv y.f = .slice a2 l2 c2/\Sl wT 5 1 (.slice a2 l2 c2) l2 (Dc (C y.f))/\∀g,F2 (.slice a2 l2 c2) g->g<n0
theorem Zk8{E:F3}{C:NB}{L:List It}{st0:Pl}{k:Nat}{y:It}(a:L[k]?=some y):Dr E C ⟨#[]⟩ st0 (L.take (k+1))=((Dr E C ⟨#[]⟩ st0 (L.take k)).1++(Dt E C (JW ⟨#[]⟩ (L.take k)) (Dr E C ⟨#[]⟩ st0 (L.take k)).2 y).1,(Dt E C (JW ⟨#[]⟩ (L.take k)) (Dr E C ⟨#[]⟩ st0 (L.take k)).2 y).2)/\JW ⟨#[]⟩ (L.take (k+1))=jn y.ns:=by
 rw[BZ,a,FQ,VD,Ro];exact⟨rfl,rfl⟩
section
variable{w wT:World}{n0 n1 pb db sb so tb:Nat}{E:F3}{C:NB}{dv:NV}{L:List It}{st0:Pl}{O0:Nat->Prop}
theorem Ht.belowT(h:Lq w wT n0 n1 E C dv L st0 O0){st:Pl}{s b:By}{v:Value}{O:Nat->Prop}{X:World}(a:Ht w n0 n1 pb db sb so tb E O0 st s b v O X):Below n0 wT X:=
 h.hT.trans ⟨a.fr.os,a.fr.tape,a.fr.output,a.fr.size,fun k hk=>a.fr.block k (by have:=h.hB.n0;omega) (fun e=>by have:=h.o1 k e;omega)⟩
theorem Lq.round(h:Lq w wT n0 n1 E C dv L st0 O0){k:Nat}{y:It}(A:L[k]?=some y){a:OA}{l c:Nat}{O:Nat->Prop}{X:World}
  (b:Ht w n0 n1 pb db sb so tb E O0 (Dr E C ⟨#[]⟩ st0 (L.take k)).2 (Dr E C ⟨#[]⟩ st0 (L.take k)).1 (JW ⟨#[]⟩ (L.take k)) (.slice a l c) O X) (D:n1<=X.heap.size) {s:Nat} {u:OA} {x v:Nat}
  (hv:Kj dv y = .agg #[.string (jn y.ns),.int .u8 (y.k:Nat),.int .i64 (y.f:Nat),.slice u x v]) (n:F0 X s 141 [.string (jn y.ns),.int .u8 (y.k:Nat),.int .i64 (y.f:Nat),.slice u x v]) (ad:n1<=s):
  Cl 236 #[.pointer (some ⟨pb,0,none⟩),.slice a l c,.string (JW ⟨#[]⟩ (L.take k)),.agg #[.string (jn y.ns),.int .u8 (y.k:Nat),.int .i64 (y.f:Nat),.slice u x v]] X fun e f=>∃i p m,e = .returned (.slice i p m)/\f.cell? ⟨w.heap.size+1,0,none⟩=some (.slice a l c)/\f.frozen? ⟨w.heap.size+1,0,none⟩=false/\
   ∃Y1,f.setCell ⟨w.heap.size+1,0,none⟩ (.slice i p m)=Y1/\Y1.cell? ⟨s,0,none⟩=some (.string (jn y.ns))/\Y1.cell? ⟨w.heap.size+1+1,0,none⟩=some (.string (JW ⟨#[]⟩ (L.take k)))/\Y1.frozen? ⟨w.heap.size+1+1,0,none⟩=false/\
   Hid ((∃O',Ht w n0 n1 pb db sb so tb E O0 (Dr E C ⟨#[]⟩ st0 (L.take (k+1))).2 (Dr E C ⟨#[]⟩ st0 (L.take (k+1))).1 (JW ⟨#[]⟩ (L.take (k+1))) (.slice i p m) O' (Y1.setCell ⟨w.heap.size+1+1,0,none⟩ (.string (jn y.ns))))/\
    ID n0 n1 X (Y1.setCell ⟨w.heap.size+1+1,0,none⟩ (.string (jn y.ns)))/\(Y1.setCell ⟨w.heap.size+1+1,0,none⟩ (.string (jn y.ns))).heap[w.heap.size+1+1+1]?=X.heap[w.heap.size+1+1+1]?/\∀(k:Nat) (o:Obj),X.heap[k]?=some o->o.isCells=false->(Y1.setCell ⟨w.heap.size+1+1,0,none⟩ (.string (jn y.ns))).heap[k]?=some o):=by
 have r:=An A;obtain⟨t1,t2,t3,t4,t5,t6⟩:=h.hok.turn E st0 h.s0 h.s1 h.s2 k y A;have Y:=b.belowT h;have hn:=h.hB.n0;have ae:=h.hB.n1;have I:=Zmq X n0 n1 pb db sb so E h.hE h.hj _ O b.st a l c _ b.rs b.dis D (by omega) C dv y (h.hok.kind y r) (h.hok.path y r) (h.hok.num y r) (h.hok.size y r) (JW ⟨#[]⟩ (L.take k)) t6 (fun hk=>by
  obtain⟨M,l2,N,P,Q,G⟩:=h.hd y r hk;refine⟨M,l2,N,P,Q.kept (fun g hg aa=>Y.block g (G g aa)),G⟩) t1 t2 t3 t4 t5
 rw[hv]at I;refine I.mono ?_;rintro e f ⟨i,p,m,O',rfl,W,ac,U,af,Z,J⟩;obtain⟨z,H⟩:=b.say h.hB D ac W U Z J;have nO:∀B,w.heap.size<=B->B<n1->¬O B:=fun B q1 q2 e=>by
  rcases b.hO B e with q|q
  ·have:=h.hB.o0 B q;omega
  ·omega
 have nV:∀B,B<n1->¬F2 (.slice a l c) B:=fun B q e=>by have:=b.rs.2 B e;omega
 have F:F0 f (w.heap.size+1) 59 [.slice a l c]:=(J.block _ b.b1.lt (fun e=>e.elim (nO _ (by omega) (by omega)) (nV _ (by omega)))).trans b.b1;have ab:F0 (f.setCell ⟨w.heap.size+1,0,none⟩ (.slice i p m)) s 141 [.string (jn y.ns),.int .u8 (y.k:Nat),.int .i64 (y.f:Nat),.slice u x v]:=by
  refine(H.block _ n.lt (fun e=>?_)).trans n;rcases e with e|e|e
  ·obtain⟨K,t,d,ht⟩:=b.st.typed e;unfold F0 at d n;rw[n]at d;cases d;cases ht
  ·obtain⟨K,d⟩:=b.rs.typed e;unfold F0 at d n;rw[n]at d;cases d
  ·omega
 obtain⟨V,T⟩:=z.path h.hB (jn y.ns);obtain⟨R,S⟩:=Zk8 (E:=E) (C:=C) (st0:=st0) A;refine⟨i,p,m,rfl,(F.cell 0).trans rfl,F.frozen 0,_,rfl,(ab.cell 0).trans rfl,(z.b2.cell 0).trans rfl,z.b2.frozen 0,⟨O',?_⟩,?_⟩
 ·rw[R,S];exact V
 ·exact b.keeps h.hB D ((H.mono (fun j _ e=>by rcases e with e|e|e;exact .inl e;exact .inr (.inl e);exact .inr (.inr (.inl e)))).then T (fun j _ e => .inr (.inr (.inr e))))
def TI(w:World)(n0 n1 pb db sb so tb:Nat)(E:F3)(O0:Nat->Prop)(D:Nat)(F:By×Pl)(below:Nat)(Y:World):Prop:=
 ∃d st s last a l c O,Ht w n0 n1 pb db sb so tb E O0 st s last (.slice a l c) O Y/\Y.heap[D]?=some (.deferred (some []))/\n1<=Y.heap.size/\Ic d below st s/\DE E d below st s=F
theorem Lq.table(h:Lq w wT n0 n1 E C dv L st0 O0){a:OA}{l c:Nat}{O:Nat->Prop}{M:By}{X:World}
  (n:Ht w n0 n1 pb db sb so tb E O0 (Dr E C ⟨#[]⟩ st0 L).2 (Dr E C ⟨#[]⟩ st0 L).1 M (.slice a l c) O X) (k:n1<=X.heap.size) {D:Nat} (hD:X.heap[D]?=some (.deferred (some []))):
  ∃Z v F A m,X.drew.alloc (.cells #[.int .u8 0] 5)=Z/\(Builtin.append_ #[59,59] 59 #[.slice a l c,.slice (some ⟨X.heap.size,0,none⟩) 1 1]).run Tryz.prog Z = .ok (.slice v F A) m/\X.cell? ⟨w.heap.size,0,none⟩=some (.pointer (some ⟨pb,0,none⟩))/\Z.cell? ⟨w.heap.size,0,none⟩=some (.pointer (some ⟨pb,0,none⟩))/\m.cell? ⟨w.heap.size,0,none⟩=some (.pointer (some ⟨pb,0,none⟩))/\X.cell? ⟨w.heap.size+1,0,none⟩=some (.slice a l c)/\Z.cell? ⟨w.heap.size+1,0,none⟩=some (.slice a l c)/\
   Hid (Cl 237 #[.pointer (some ⟨pb,0,none⟩),.int .u8 3,.int .i64 0,.slice v F A] m fun e g=>∃o r p,e = .returned (.slice o r p)/\g.cell? ⟨w.heap.size,0,none⟩=some (.pointer (some ⟨pb,0,none⟩))/\g.cell? ⟨w.heap.size+1,0,none⟩=some (.slice a l c)/\g.frozen? ⟨w.heap.size+1,0,none⟩=false/\(g.setCell ⟨w.heap.size+1,0,none⟩ (.slice o r p)).cell? ⟨w.heap.size,0,none⟩=some (.pointer (some ⟨pb,0,none⟩))/\
    Hid (TI w n0 n1 pb db sb so tb E O0 D (Js E C st0 L) 1 (g.setCell ⟨w.heap.size+1,0,none⟩ (.slice o r p)))):=by
 have hn:=h.hB.n0;have al:=h.hB.n1;obtain⟨t1,t2,t3,H,P⟩:=KP E C ⟨#[]⟩ st0 L (fun z k=>⟨h.hok.path z k,h.hok.size z k,h.hok.kind z k⟩);rw[h.s0]at t2 P;rw[h.s1]at t3;have H:=H h.s2;have ak:=h.hok.len;simp only[AS]at t2 t3;generalize hst:(Dr E C ⟨#[]⟩ st0 L).2=st at *
 generalize hss:(Dr E C ⟨#[]⟩ st0 L).1=s at *
 obtain⟨Z,eZ,xZ,kZ,sZ,bZ⟩:=De X.drew [.int .u8 0] 5;have I:Bw X Z:=((Al X.heap.size X).drew).trans bZ;have ai:F0 Z X.heap.size 5 [.int .u8 0]:=xZ;have aj:=I.size;have d:Ht w n0 n1 pb db sb so tb E O0 st s M (.slice a l c) O Z:=n.fr' h.hB (Z:=fun _=>False) (Fr.of_below I) (fun _ e=>e.elim);obtain⟨v,F,A,m,r1,r2,G,r4⟩:=J2 Z n1 (by omega) (.slice a l c) s d.rs ⟨X.heap.size,0,none⟩ 1 1 ⟨#[0]⟩ rfl (fun j u hu=>by rw[AL,Av,ai.cell];exact hu) (by omega);have nO:∀B,w.heap.size<=B->B<n1->¬O B:=fun B q1 q2 e=>by
  rcases n.hO B e with q|q
  ·have:=h.hB.o0 B q;omega
  ·omega
 have nV:∀B,B<n1->¬F2 (.slice a l c) B:=fun B q e=>by have:=n.rs.2 B e;omega
 have b0:F0 m w.heap.size 168 _:=(G.block _ d.b0.lt (nV _ (by omega))).trans d.b0;have Q:F0 m (w.heap.size+1) 59 _:=(G.block _ d.b1.lt (nV _ (by omega))).trans d.b1;have ag:G9 n0 pb db sb so E st O m:=d.st.keeps G (fun j f=>⟨fun ho=>d.dis j ho f,by have:=d.rs.2 j f;omega⟩);have ac:∀j,O j->¬F2 (.slice v F A) j:=fun j f hv=>by
  rcases r4 j hv with e|e
  ·exact n.dis j f e
  ·obtain⟨cs,t,hb⟩:=d.st.cells f;have:=(Ak.1 hb).1;omega
 obtain⟨b,J⟩:∃b:By,b=s++⟨#[0]⟩:=⟨_,rfl⟩;have ah:b.size=s.size+1:=by rw[J];exact Ai
 rw[<-J]at r2;refine⟨Z,v,F,A,m,eZ,r1,(n.b0.cell 0).trans rfl,(d.b0.cell 0).trans rfl,(b0.cell 0).trans rfl,(n.b1.cell 0).trans rfl,(d.b1.cell 0).trans rfl,?_⟩;refine(Zw m n0 pb db sb so E h.hE h.hj st O ag n1 v F A _ r2 ac (by omega) (by omega) (by omega) (by omega) H (fun z k i hi e=>?_)).mono ?_
 ·rcases P z k with q|⟨x,K,_,j,f,q⟩
  ·cases q
  ·have:=h.hok.num x K;have:=QY (by omega) (by omega) (by omega) (by omega) (q.symm.trans e);omega
 ·rintro e g ⟨o,r,p,O',rfl,p1,p2,p3,p4,N⟩;have am:=G.size;have aa:F0 g w.heap.size 168 _:=(N.block _ b0.lt (nO _ (by omega) (by omega))).trans b0;have R:F0 g (w.heap.size+1) 59 _:=(N.block _ Q.lt (nO _ (by omega) (by omega))).trans Q;have ad:Fr (fun j=>O j\/F2 (.slice a l c) j) X g:=((Fr.of_below I).then (G.mono (Y:=fun j=>O j\/F2 (.slice a l c) j) (fun j _ e => .inr e)) (fun _ _ e=>e)).then (N.mono (Y:=fun j=>O j\/F2 (.slice a l c) j) (fun j _ e => .inl e)) (fun _ _ e=>e);obtain⟨T,S⟩:=n.say h.hB k p1 ⟨p2.1,fun j f=>by have:=p2.2 j f;omega⟩ (fun j f=>(p3 j f).imp id (fun e=>by omega)) p4 ad;have hk:=n.keeps h.hB k (S.mono (fun j _ e=>by rcases e with e|e|e;exact .inl e;exact .inr (.inl e);exact .inr (.inr (.inl e))));have ae:Ic 8 1 (Dz E 3 63 0 st b).2 (Dz E 3 63 0 st b).1:=by
   obtain⟨V,W,m3⟩:=F3.puts_len E (Dd 3 0) (Dw 3 b 63) st 0 (List.range ((b.size+63-1)/63));rw[A2]at V W;have U:=Ql E 3 63 0 st b;have g1:(Dz E 3 63 0 st b).2.puts.length=st.puts.length+(b.size+63-1)/63:=V;have g2:(Dz E 3 63 0 st b).2.ps.length<=st.ps.length+(b.size+63-1)/63:=W;rw[ah]at g1 g2 U;refine⟨rfl,fun y hy=>?_,by omega,by omega,m3 H,by omega,by omega,_,U⟩;rcases F3.puts_mem E _ _ st 0 _ y hy with q|⟨j,_,q2,q3⟩
   ·rcases P y q with q|⟨x,K,_,j,f,q⟩
    ·cases q
    ·exact⟨4,x.f,j,q,by omega,.inl ⟨rfl,h.hok.num x K⟩⟩
   ·rw[A2]at q2;exact⟨3,0,j,q3,by omega,.inr (.inl ⟨rfl,rfl⟩)⟩
  have af:DE E 8 1 (Dz E 3 63 0 st b).2 (Dz E 3 63 0 st b).1=Js E C st0 L:=by unfold Js;rw[hst,hss,<-J]
  have ab:TI w n0 n1 pb db sb so tb E O0 D (Js E C st0 L) 1 (g.setCell ⟨w.heap.size+1,0,none⟩ (.slice o r p)):=⟨8,_,_,M,o,r,p,O',T,hk.2.2 D _ hD rfl,Ag k S.size,ae,af⟩;exact⟨o,r,p,rfl,(aa.cell 0).trans rfl,(R.cell 0).trans rfl,R.frozen 0,(T.b0.cell 0).trans rfl,ab⟩
end
def L8(w:World)(n0 pb db sb so:Nat)(E:F3)(O0:Nat->Prop)(F:By×Pl)(e:Ending)(w':World):Prop:=
 e = .returned (.tuple #[])/\F.1.size=10/\∃O',Qq w' pb db sb so E F.2 (Gu F.1:Nat) (GD F.1:Nat) O'/\Iz w' n0 db sb so E/\Fr O0 w w'/\∀j,O' j->O0 j\/w.heap.size<=j
section
variable{w wT:World}{n0 n1 pb db sb so tb:Nat}{E:F3}{C:NB}{dv:NV}{L:List It}{st0:Pl}{O0:Nat->Prop}
theorem Lq.index(h:Lq w wT n0 n1 E C dv L st0 O0){a:OA}{l c d b D:Nat}{O:Nat->Prop}{st:Pl}{s v:By}{F:By×Pl}{Y:World}
  (f:Ht w n0 n1 pb db sb so tb E O0 st s v (.slice a l c) O Y) (z:Y.heap[D]?=some (.deferred (some []))) (o:n1<=Y.heap.size) (m:Ic d b st s) (A:DE E d b st s=F) (u:10<s.size):
  Cl 237 #[.pointer (some ⟨pb,0,none⟩),.int .u8 2,.int .i64 (b:Nat),.slice a l c] Y fun e g=>∃i n k,e = .returned (.slice i n k)/\g.cell? ⟨w.heap.size+1,0,none⟩=some (.slice a l c)/\g.frozen? ⟨w.heap.size+1,0,none⟩=false/\
   Hid (TI w n0 n1 pb db sb so tb E O0 D F (b+1) (g.setCell ⟨w.heap.size+1,0,none⟩ (.slice i n k))):=by
 have hn:=h.hB.n0;have aa:=h.hB.n1;have hb:=m.bd;have i1:=m.n1;have i2:=m.n2;obtain⟨r,rfl,J,_⟩:=m.next u E;have P:∀B,w.heap.size<=B->B<n1->¬O B:=fun B q1 q2 e=>by
  rcases f.hO B e with q|q
  ·have:=h.hB.o0 B q;omega
  ·omega
 refine(Zv Y n0 pb db sb so E h.hE h.hj st O f.st n1 a l c s f.rs f.dis b (by omega) (by omega) (by omega) (by omega) (by omega) m.n3 (m.pk.fresh (by omega))).mono ?_;rintro e g ⟨i,n,k,O',rfl,Q,x,R,S,y⟩;have p:F0 g (w.heap.size+1) 59 _:=(y.block _ f.b1.lt (P _ (by omega) (by omega))).trans f.b1;have I:Fr (fun j=>O j\/F2 (.slice a l c) j) Y g:=y.mono (fun j _ e => .inl e);obtain⟨G,t⟩:=f.say h.hB o Q ⟨x.1,fun j M=>by have:=x.2 j M;omega⟩ R S I;have N:=f.keeps h.hB o (t.mono (fun j _ e=>by rcases e with e|e|e;exact .inl e;exact .inr (.inl e);exact .inr (.inr (.inl e))));have K:DE E r (b+1) (Dz E 2 60 b st s).2 (Dz E 2 60 b st s).1=F:=by
  rw[<-A];show _=(if _ then _ else _);rw[if_pos u]
 have H:TI w n0 n1 pb db sb so tb E O0 D F (b+1) (g.setCell ⟨w.heap.size+1,0,none⟩ (.slice i n k)):=⟨r,_,_,v,i,n,k,O',G,N.2.2 D _ z rfl,Ag o t.size,J,K⟩;exact⟨i,n,k,rfl,(p.cell 0).trans rfl,p.frozen 0,H⟩
theorem Lq.top(h:Lq w wT n0 n1 E C dv L st0 O0){a:OA}{l c d I D:Nat}{O:Nat->Prop}{st:Pl}{s G:By}{F:By×Pl}{Y:World}
  (f:Ht w n0 n1 pb db sb so tb E O0 st s G (.slice a l c) O Y) (y:Y.heap[D]?=some (.deferred (some []))) (aj:w.heap.size<=D) (hz:n1<=Y.heap.size) (M:Ic d I st s) (W:DE E d I st s=F) (hs:¬10<s.size):
  l=10/\∃b,Y.alloc (.cells #[.slice a l c] 287)=b/\b.cell? ⟨w.heap.size,0,none⟩=some (.pointer (some ⟨pb,0,none⟩))/\
    Hid (Cl 238 #[.pointer (some ⟨Y.heap.size,0,none⟩)] b.drew fun e Z=>∃p x:Nat,e = .returned (.agg #[.int .i64 (p:Nat),.int .u64 (x:Nat)])/\Z.cell? ⟨w.heap.size,0,none⟩=some (.pointer (some ⟨pb,0,none⟩))/\Z.cell? ⟨pb,101,none⟩=some (.int .i64 0)/\Z.cell? ⟨pb,102,none⟩=some (.int .u64 0)/\Z.frozen? ⟨pb,101,none⟩=false/\Z.frozen? ⟨pb,102,none⟩=false/\((Z.setCell ⟨pb,101,none⟩ (.int .i64 (p:Nat))).setCell ⟨pb,102,none⟩ (.int .u64 (x:Nat))).cell? ⟨w.heap.size,0,none⟩=some (.pointer (some ⟨pb,0,none⟩))/\
     Hid (((Z.setCell ⟨pb,101,none⟩ (.int .i64 (p:Nat))).setCell ⟨pb,102,none⟩ (.int .u64 (x:Nat))).heap[D]?=some (.deferred (some []))/\L8 w n0 pb db sb so E O0 F (.returned (.tuple #[])) (((Z.setCell ⟨pb,101,none⟩ (.int .i64 (p:Nat))).setCell ⟨pb,102,none⟩ (.int .u64 (x:Nat))).putObj D (.deferred none)))):=by
 have hn:=h.hB.n0;have am:=h.hB.n1;have n:=M.bd;have i5:=M.n5;have Q:s.size=10:=by omega
 obtain⟨g,rfl,rfl,ag,ak⟩:=f.rs.some (by omega);have aa:F=(s,st):=by
  rw[<-W]
  cases d with
  | zero=>rfl
  | succ d=>show(if _ then _ else _)=_;rw[if_neg hs]
 subst aa;obtain⟨b,T,x8,k8,s8,H⟩:=De Y [.slice (some ⟨g,0,none⟩) s.size c] 287;have A:Ht w n0 n1 pb db sb so tb E O0 st s G (.slice (some ⟨g,0,none⟩) s.size c) O b:=f.fr' h.hB (Z:=fun _=>False) (Fr.of_below H) (fun _ e=>e.elim);have ah:Gy b.drew (some ⟨g,0,none⟩) s.size c s:=A.rs.rdB;refine⟨Q,b,T,(A.b0.cell 0).trans rfl,?_⟩;refine(NP b.drew Y.heap.size (some ⟨g,0,none⟩) s.size c s (show F0 b.drew Y.heap.size 287 [.slice (some ⟨g,0,none⟩) s.size c] from x8) ah ag (fun x e=>by cases e;simp only;omega) (by omega)).mono ?_;rintro e Z ⟨rfl,_,_,_,_,_,_,m⟩;have K:Fr (fun k=>k=Y.heap.size) b Z:=⟨m.os,m.tape,m.output,m.size,m.block⟩;have ai:∀j,O j->j<Y.heap.size:=fun j i=>by obtain⟨v,t,n⟩:=f.st.cells i;exact(Ak.1 n).1
 have q:Ht w n0 n1 pb db sb so tb E O0 st s G (.slice (some ⟨g,0,none⟩) s.size c) O Z:=A.fr' h.hB K (fun j e=>⟨fun ho=>by have:=ai j ho;omega,fun hv=>by have:=F2.lt f.rs hv;omega,by omega⟩);obtain⟨V,ab,al,va,es,vp,o,q2,q3,q4,S⟩:=q.st;have u:O pb:=(S pb).2 (.inl rfl);have an:pb<w.heap.size\/n1<=pb:=(f.hO pb u).imp (h.hB.o0 pb) id;have P:D≠pb:=fun e=>by
  subst e;obtain⟨v,t,n⟩:=f.st.cells u;rw[y]at n;cases n
 have ac:=o.top (Gu s:Nat) (GD s:Nat);have U:=(Ak.1 y).1;have J:((Z.setCell ⟨pb,101,none⟩ (.int .i64 (Gu s:Nat))).setCell ⟨pb,102,none⟩ (.int .u64 (GD s:Nat))).heap[D]?=some (.deferred (some [])):=by
  rw[AB _ _ _ _ (show D≠pb from P),AB _ _ _ _ (show D≠pb from P),K.block D (by omega) (by omega),H.block D U];exact y
 have R:∀B,w.heap.size<=B->B<n1->B≠pb:=fun B r1 r2 e=>by omega
 have mF:F0 ((Z.setCell ⟨pb,101,none⟩ (.int .i64 (Gu s:Nat))).setCell ⟨pb,102,none⟩ (.int .u64 (GD s:Nat))) w.heap.size 168 [.pointer (some ⟨pb,0,none⟩)]:=(AB _ _ _ _ (R _ (by omega) (by omega))).trans ((AB _ _ _ _ (R _ (by omega) (by omega))).trans q.b0);refine⟨Gu s,GD s,rfl,(q.b0.cell 0).trans rfl,(o.row.cell 101).trans (JI _ _ _ _ _ _ _ _ _ _ 3),(o.row.cell 102).trans (JI _ _ _ _ _ _ _ _ _ _ 4),o.row.frozen 101,o.row.frozen 102,(mF.cell 0).trans rfl,J,rfl,Q,O,⟨va,es,vp,?_,q2,q3,q4,S⟩,?_,?_,fun j i=>(f.hO j i).imp id (fun e=>by omega)⟩
 ·refine ac.cellsKept (fun j v t i=>?_);simp only[World.putObj];rw[Bd,if_neg (fun e=>by subst e;rw[J]at i;cases i)];exact i
 ·refine V.kept (fun k v t z r e=>?_);have N:k≠pb:=fun e=>by subst e;have:=ab k u;omega
  have af:k≠D:=by omega
  simp only[World.putObj];rw[Bd,if_neg (fun e=>af e.symm)];exact(AB _ _ _ _ N).trans ((AB _ _ _ _ N).trans e)
 ·have ad:Fr (fun k=>k=pb) Z ((Z.setCell ⟨pb,101,none⟩ (.int .i64 (Gu s:Nat))).setCell ⟨pb,102,none⟩ (.int .u64 (GD s:Nat))):=Fr.set (X:=fun k=>k=pb) (Fr.set (X:=fun k=>k=pb) (Fr.refl (fun k=>k=pb) Z) ⟨pb,101,none⟩ _ rfl) ⟨pb,102,none⟩ _ rfl;have ae:Fr O0 w ((Z.setCell ⟨pb,101,none⟩ (.int .i64 (Gu s:Nat))).setCell ⟨pb,102,none⟩ (.int .u64 (GD s:Nat))):=q.fr.then ad (fun k r e=>by subst e;exact(f.hO k u).elim id (fun e=>by omega));refine ae.then (Y:=fun k=>k=D) ⟨rfl,rfl,rfl,by simp[World.putObj],fun k _ r=>by
   simp only[World.putObj];rw[Bd,if_neg (fun e=>r e.symm)]⟩ (fun k r e=>by omega)
end
section
open Go.RowKit Go.Shelf
attribute [local go_sem] Oper.semAt_some
theorem ID.chgs{a b:Nat}(X:World)(o:Obj)(r:Nat)(c:a<=r)(h1:r<b):ID a b X (X.putObj r o):=⟨Xd X o c,fun k o' hk ho _=>(Cf (by omega)).trans ho⟩
theorem ZlP(w wT:World)(N pb db sb so tb rd:Nat)(E:F3)(hE:Gv E)(T:∃j,j<96/\E.nd j<=0)(st0:Pl)(aR:st0.puts=[])(aS:st0.ps=[])(aT:st0.hd<=1536)(M:Nat->Prop)(ai:G9 N pb db sb so E st0 M w)(aU:wT.heap.size=N)(hT:Below N wT w)
  (V:NV) (Ed:NS) (vi:Value) (G:Gh) (I:LF) (CI:IB) (ch:LY->List Ek) (dv:NV) (H:Lz wT tb rd V Ed vi G I CI ch dv) (C:NB) (aQ:GQ C (DD ch))
  (hd:∀y∈DD ch,y.k=2->∃F f u,dv y.f = .slice F f u/\Sl wT 5 1 (.slice F f u) f (Dc (C y.f))/\∀g,F2 (.slice F f u) g->g<N):
  Cl 199 #[.pointer (some ⟨pb,0,none⟩),.pointer (some ⟨tb,0,none⟩)] w (L8 w N pb db sb so E M (Js E C st0 (DD ch))):=by
 have aN:∀j,M j->j<w.heap.size:=fun j T=>by obtain⟨cs,t,hb⟩:=ai.cells T;exact(Ak.1 hb).1
 have W:=ai.2.2.1;have an:Lq w wT N (w.heap.size+6) E C dv (DD ch) st0 M:=⟨⟨aN,by omega,W⟩,ai.2.1,hE,T,aQ,aR,aS,aT,hT,hd⟩;obtain⟨W1,e1,x1,k1,s1,b1⟩:=De w [.pointer (some ⟨pb,0,none⟩)] 168;obtain⟨W2,e2,x2,k2,s2,b2⟩:=De W1 [.slice none 0 0] 59;obtain⟨W3,e3,x3,k3,s3,b3⟩:=De W2 [.string ⟨#[]⟩] 9;obtain⟨W4,e4,x4,k4,s4,b4⟩:=De W3 [.pointer (some ⟨tb,0,none⟩)] 37;have ao:Bw w W4:=b1.trans ((b2.mono (by omega)).trans ((b3.mono (by omega)).trans (b4.mono (by omega))));have y1:=k4 _ _ _ (k3 _ _ _ (k2 _ _ _ x1));have y2:=k4 _ _ _ (k3 _ _ _ x2);have y3:=k4 _ _ _ x3;have t2:W2.heap.size=w.heap.size+1+1:=by omega
 have t3:W3.heap.size=w.heap.size+1+1+1:=by omega
 have t4:W4.heap.size=w.heap.size+4:=by omega
 rw[s1]at y2;rw[t2]at y3;rw[t3]at x4;have aE:=Z5 wT W4 (w.heap.size+1+1+1) tb rd V Ed vi G I CI ch dv H (by unfold Bw;rw[aU];exact hT.trans (ao.mono W)) x4;have aL:Ht w N (w.heap.size+6) pb db sb so tb E M st0 ⟨#[]⟩ ⟨#[]⟩ (.slice none 0 0) M W4:=⟨ai.keeps (Z:=fun _=>False) (Fr.of_below ao) (fun _ e=>e.elim),fun j T => .inl T,y1,y2,y3,x4,Gp.nil _ _,fun j _ e=>by simp[F2,Value.ownBlock]at e,Fr.of_below ao,by omega⟩;obtain⟨L,hL⟩:=ex (DD ch);rw[<-hL]at an aE ⊢;have aP:∀k y,L[k]?=some y->∃z D B,Kj dv y = .agg #[.string (jn y.ns),.int .u8 (y.k:Nat),.int .i64 (y.f:Nat),.slice z D B]:=fun k y J=>by
  unfold Kj;by_cases hk:y.k=2
  ·rw[if_pos hk];obtain⟨F,f,u,q1,_⟩:=an.hd y (An J) hk;exact⟨F,f,u,by rw[q1]⟩
  ·rw[if_neg hk];exact⟨_,_,_,rfl⟩
 have aY:=Db aP;have ab:=Db an;have aZ:=Db aE;have aX:=Db aL;have ae:=Db t4;have aG:=Db e1;have aH:=Db e2;have aI:=Db e3;have aJ:=Db e4;have aK:=Db W;clear x1 x2 x3 x4 k1 k2 k3 k4 s1 s2 s3 s4 b1 b2 b3 b4 y1 y2 y3 t2 t3 t4 e1 e2 e3 e4 ao aE ai aL an H hE T aR aS aT hT aQ hd aN hL aP W;refine(Bj (n:=3)).1 ?_;refine BJ Tryz.func199 rfl AQ ?_ rfl;simp only[Tryz.ntmps199,AR,Aq,AS,Nat.reduceAdd,Nat.reduceSub,AV,AU,A3,AY,AA,AI]
 gi_wp2_with (refine⟨AQ,?_⟩;gi_at_call 115;refine(Yv _ _ _).mono ?_;rintro e w' ⟨rfl,rfl⟩)
 rw[show w.alloc (.cells #[.pointer (some ⟨pb,0,none⟩)] 168)=W1 from Da aG,show W1.alloc (.cells #[.slice none 0 0] 59)=W2 from Da aH,show W2.alloc (.cells #[.string ⟨#[]⟩] 9)=W3 from Da aI,show W3.alloc (.cells #[.pointer (some ⟨tb,0,none⟩)] 37)=W4 from Da aJ];rename_i K0 aM;clear aG aH aI aJ;have t4:=Da ae;have W:=Da aK;refine WG (gf:=169) (lb := #[.pointer (some ⟨w.heap.size+1+1+1,0,none⟩)]) rfl (ER Tryz.func169 (by kernel_rfl) rfl)
  (Da aZ) (Al _ _) (fun h k=>⟨h.1.trans k.1,k.2.trans h.2⟩) (fun X o o' ho _=>⟨ID.chgs X o' _ (by omega) (by omega),Cf (by omega)⟩) (Zmt _ _)
  (fun k X=>∃a l c O,Ht w N (w.heap.size+6) pb db sb so tb E M (Dr E C ⟨#[]⟩ st0 (L.take k)).2 (Dr E C ⟨#[]⟩ st0 (L.take k)).1 (JW ⟨#[]⟩ (L.take k)) (.slice a l c) O X)
  (fun k A A' hA hc=>by
   obtain⟨a,l,c,O,hA⟩:=hA;rw[t4]at hc;exact⟨a,l,c,O,hA.chg (Da ab).hB hc⟩)
  ⟨none,0,0,M,Da aX⟩
  (fun k a' X=>∃Bx y z D B,L[k]?=some y/\W4.heap.size+2<=Bx/\F0 X Bx 141 [.string (jn y.ns),.int .u8 (y.k:Nat),.int .i64 (y.f:Nat),.slice z D B]/\Kj dv y = .agg #[.string (jn y.ns),.int .u8 (y.k:Nat),.int .i64 (y.f:Nat),.slice z D B]/\a'={ tmps := #[.pointer (some ⟨pb,0,none⟩),.pointer (some ⟨tb,0,none⟩),.pointer (some ⟨w.heap.size,0,none⟩),undef,.pointer (some ⟨w.heap.size+1,0,none⟩),.pointer (some ⟨w.heap.size+1+1,0,none⟩),.pointer (some ⟨Bx,0,none⟩),undef,undef,.pointer (some ⟨tb,0,none⟩),.func (.func 169) #[] #[.pointer (some ⟨w.heap.size+1+1+1,0,none⟩)],.agg #[.string (jn y.ns),.int .u8 (y.k:Nat),.int .i64 (y.f:Nat),.slice z D B],undef,undef,undef,undef,undef,undef,undef,undef,undef,undef,undef,undef,undef,undef,undef,undef,undef,undef,undef,undef,undef,undef,undef,undef,undef,undef,undef,undef],defers:=[] })
  (fun k a' A A' hA hs hc T=>by
   obtain⟨Bx,y,z,D,B,J,al,hr,hv,ha⟩:=hA;exact⟨Bx,y,z,D,B,J,al,(T Bx al).trans hr,hv,ha⟩)
  ?assign ?body ?done
 case assign=>
  rintro k X Kk hk r hz aO;obtain⟨y,J⟩:∃y,L[k]?=some y:=⟨_,Ac hk⟩;obtain⟨z,D,B,hv⟩:=Da aY k y J;rw[PA J,hv];have HY:=Db J;have HV:=Db hv;have aW:=Db aO;have HZ:=Db hz;have HI:=Db r;clear t4 J hv aO hz r W
  gi_wp2
  have t4:=Da ae;obtain⟨a,l,c,O,r⟩:=Da HI;have a4:GP (w.heap.size+4) X (X.alloc (.cells #[.string (jn y.ns),.int .u8 (y.k:Nat),.int .i64 (y.f:Nat),.slice z D B] 141)):=GP.alloc _ _;have aC:Bw X (X.alloc (.cells #[.string (jn y.ns),.int .u8 (y.k:Nat),.int .i64 (y.f:Nat),.slice z D B] 141)):=(Al _ X).alloc (Aa _) _;have hz:=Da HZ;have W:=Da aK;exact Da aW _ _ ((EO _ _).from _) ⟨⟨aC.mono (by omega),fun j o T ho _=>(aC.block j (Ak.1 ho).1).trans ho⟩,aC.block _ (by omega)⟩ ⟨a,l,c,O,r.chg (Da ab).hB a4⟩ ⟨X.heap.size,y,z,D,B,Da HY,hz,Cp X _,Da HV,rfl⟩
 case body=>
  rintro k a' X hk hz ⟨a,l,c,O,r⟩ ⟨Bx,y,z,D,B,J,al,ad,hv,rfl⟩;have aF:=Db ((Da ab).round J r (by omega) hv ad (by omega));have c0:=(r.b0.cell 0).trans (show _=some (Value.pointer (some ⟨pb,0,none⟩)) from rfl);have c1:=(r.b1.cell 0).trans (show _=some (Value.slice a l c) from rfl);have u:=(r.b2.cell 0).trans (show _=some (Value.string (JW ⟨#[]⟩ (L.take k))) from rfl);have d0:=(ad.cell 0).trans (show _=some (Value.string (jn y.ns)) from rfl);have d1:=(ad.cell 1).trans (show _=some (Value.int .u8 (y.k:Nat)) from rfl);have d2:=(ad.cell 2).trans (show _=some (Value.int .i64 (y.f:Nat)) from rfl);have d3:=(ad.cell 3).trans (show _=some (Value.slice z D B) from rfl);clear t4 W hz r al ad hv J hk
  gi_wp2_with (fail)
  refine⟨AQ,?_⟩;refine(Ec _ (Bj.2 (Da aF))).mono ?_;rintro e W' ⟨a',l',c',rfl,f0,f1,Y1,rfl,g0,g1,g2,HE⟩;clear c0 c1 u d0 d1 d2 d3 aF
  gi_wp2
  obtain⟨⟨O',h1⟩,h2,h3,h4⟩:=Da HE;exact⟨⟨h2.1.size,fun j o _ ho hc=>h4 j o ho hc⟩,⟨by rw[Da ae,aU];exact h2,h3⟩,a',l',c',O',h1⟩
 case done=>
  rintro X hz ⟨a,l,c,O,r⟩ hD;rw[CT]at r;obtain⟨Z,a5,l5,c5,w5,hZ,ap,m0,mZ,m5,aV,nZ,ak⟩:=(Da ab).table r (by omega) hD;have HZ:=Db hZ;clear hZ hD r hz t4 W;show K0 _ _;refine aM _ _ ?_;clear aM
  gi_step
  refine EC Qf ?_;refine BG.2 ?_;refine AD (S:=fun V=>V.cell? ⟨w.heap.size,0,none⟩=some (.pointer (some ⟨pb,0,none⟩))) (by kernel_rfl) m0 (fun ag=>?_);refine tk 0 ?_;try simp only[pE];refine Bh (rs:=[1,2]) (by kernel_rfl) (by simp) ?_;refine(AN (i:=1) rfl ?_ (AN (i:=2) rfl ?_ A8))
  ·intro K b;go_simp;refine b.out _ _ ag (fun aw=>?_);clear b K
   (try simp only[pE])
   refine rk 2 (fun K b=>?_);go_simp;rw[show(X.alloc (.cells #[.int .u8 0] 5)).drew=Z from Da HZ];refine b.out _ _ mZ (fun am=>?_);clear b K
   (try simp only[pE])
   refine rk 3 (fun K b=>?_);refine JO rfl _ _ 59 59 rfl _ _ rfl rfl ap ?_;refine b.out _ _ m5 (fun ax=>?_);clear b K
   (try simp only[pE])
   refine rk 4 (fun K b=>?_);go_simp;go_at_call 237;refine(Da ak).mono ?_;rintro e w6 ⟨a',l',c',rfl,d0,d1,d2,d3,ac⟩;go_wp2_with fail;refine b.out _ _ d0 (fun ay=>?_);clear b K
   (try simp only[pE])
   refine rk 5 (fun K b=>?_);go_simp;refine b.out _ _ d3 (fun az=>?_);clear b K
   (try simp only[pE])
   refine AW (by kernel_rfl) ?_ _;refine KY ?_;clear aw am ax ay az ag ap m0 mZ m5 aV nZ d0 d1 d2 d3 ak HZ
   gi_wp2
   gi_loopw [7] (fun i wr=>∃P:Nat,i = .int .i64 (P:Nat)/\Hid (TI w N (w.heap.size+6) pb db sb so tb E M W4.heap.size (Js E C st0 L) P wr)) (fun i _=>10-(intOf i).toNat)
   case atStart=>exact⟨1,rfl,Da ac⟩
   case round=>
    obtain⟨P,rfl,HR⟩:=hrel;obtain⟨d,st,s,a8,F,f,u,O2,m,Q,aa,v,R⟩:=Da HR;have c0:=(m.b0.cell 0).trans (show _=some (Value.pointer (some ⟨pb,0,none⟩)) from rfl);have c1:=(m.b1.cell 0).trans (show _=some (Value.slice F f u) from rfl);have ah:f=s.size:=by
     obtain⟨g,_,q,_⟩:=m.rs.some (by have:=v.n5;omega);exact q
    have aB:=v.bd;by_cases U:10<s.size
    ·have HC:=Db ((Da ab).index m Q aa v R U);have a6:(10:Int)<(f:Int):=by omega
     clear m Q aa v R HR ah U ac
     gi_wp2_with (fail)
     refine⟨AQ,?_⟩;refine(Bj.2 (Da HC)).mono ?_;rintro e w7 ⟨a3,l3,c3,rfl,f0,f1,au⟩;clear HC c0 c1
     gi_wp2
     go_roundw
     case rel=>exact⟨P+1,by go_num,Da au⟩
     case measure=>simp[intOf];omega
    ·obtain⟨aD,w8,aj,m8,ar⟩:=(Da ab).top m Q (by have:=Da ae;omega) aa v R U;have a7:¬(10:Int)<(f:Int):=by omega
     have af:=Db aj;clear m Q aa v R HR ah U ac aj aD aB
     gi_wp2
     rw[show wr.alloc (.cells #[.slice F f u] 287)=w8 from Da af];clear af;refine EC Qf ?_;refine BG.2 ?_;refine AD (S:=fun V=>V.cell? ⟨w.heap.size,0,none⟩=some (.pointer (some ⟨pb,0,none⟩))) (by kernel_rfl) m8 (fun ag=>?_);refine tk 0 ?_;try simp only[pE];refine rk 1 (fun K b=>?_);go_simp;go_at_call 238;refine(Da ar).mono ?_;rintro e Y ⟨p,x,rfl,p0,p1,p2,p3,p4,p5,aq⟩;go_wp2_with fail;refine b.out _ _ p0 (fun a0=>?_);clear b K
     (try simp only[pE])
     refine tk 2 ?_;try simp only[pE];refine tk 3 ?_;try simp only[pE];refine tk 4 ?_;try simp only[pE];refine rk 5 (fun K b=>?_);go_simp;refine b.out _ _ p5 (fun a1=>?_);clear b K
     (try simp only[pE])
     refine AW (by kernel_rfl) ?_ _;refine KY ?_
     gi_wp2
     obtain⟨av,aA⟩:=Da aq;refine⟨by simp,.inl ⟨_,_,rfl,Cb av,?_⟩⟩;exact⟨_,Ei rfl _ _ _,aA⟩
  ·intro K b;go_simp;rw[show(X.alloc (.cells #[.int .u8 0] 5)).drew=Z from Da HZ];refine b.out _ _ mZ (fun am=>?_);clear b K
   (try simp only[pE])
   refine rk 1 (fun K b=>?_);go_simp;refine b.out _ _ am (fun aw=>?_);clear b K
   (try simp only[pE])
   refine rk 3 (fun K b=>?_);refine JO rfl _ _ 59 59 rfl _ _ rfl rfl ap ?_;refine b.out _ _ m5 (fun ax=>?_);clear b K
   (try simp only[pE])
   refine rk 4 (fun K b=>?_);go_simp;go_at_call 237;refine(Da ak).mono ?_;rintro e w6 ⟨a',l',c',rfl,d0,d1,d2,d3,ac⟩;go_wp2_with fail;refine b.out _ _ d0 (fun ay=>?_);clear b K
   (try simp only[pE])
   refine rk 5 (fun K b=>?_);go_simp;refine b.out _ _ d3 (fun az=>?_);clear b K
   (try simp only[pE])
   refine AW (by kernel_rfl) ?_ _;refine KY ?_;clear aw am ax ay az ag ap m0 mZ m5 aV nZ d0 d1 d2 d3 ak HZ
   gi_wp2
   gi_loopw [7] (fun i wr=>∃P:Nat,i = .int .i64 (P:Nat)/\Hid (TI w N (w.heap.size+6) pb db sb so tb E M W4.heap.size (Js E C st0 L) P wr)) (fun i _=>10-(intOf i).toNat)
   case atStart=>exact⟨1,rfl,Da ac⟩
   case round=>
    obtain⟨P,rfl,HR⟩:=hrel;obtain⟨d,st,s,a8,F,f,u,O2,m,Q,aa,v,R⟩:=Da HR;have c0:=(m.b0.cell 0).trans (show _=some (Value.pointer (some ⟨pb,0,none⟩)) from rfl);have c1:=(m.b1.cell 0).trans (show _=some (Value.slice F f u) from rfl);have ah:f=s.size:=by
     obtain⟨g,_,q,_⟩:=m.rs.some (by have:=v.n5;omega);exact q
    have aB:=v.bd;by_cases U:10<s.size
    ·have HC:=Db ((Da ab).index m Q aa v R U);have a6:(10:Int)<(f:Int):=by omega
     clear m Q aa v R HR ah U ac
     gi_wp2_with (fail)
     refine⟨AQ,?_⟩;refine(Bj.2 (Da HC)).mono ?_;rintro e w7 ⟨a3,l3,c3,rfl,f0,f1,au⟩;clear HC c0 c1
     gi_wp2
     go_roundw
     case rel=>exact⟨P+1,by go_num,Da au⟩
     case measure=>simp[intOf];omega
    ·obtain⟨aD,w8,aj,m8,ar⟩:=(Da ab).top m Q (by have:=Da ae;omega) aa v R U;have a7:¬(10:Int)<(f:Int):=by omega
     have af:=Db aj;clear m Q aa v R HR ah U ac aj aD aB
     gi_wp2
     rw[show wr.alloc (.cells #[.slice F f u] 287)=w8 from Da af];clear af;refine EC Qf ?_;refine BG.2 ?_;refine AD (S:=fun V=>V.cell? ⟨w.heap.size,0,none⟩=some (.pointer (some ⟨pb,0,none⟩))) (by kernel_rfl) m8 (fun ag=>?_);refine tk 0 ?_;try simp only[pE];refine rk 1 (fun K b=>?_);go_simp;go_at_call 238;refine(Da ar).mono ?_;rintro e Y ⟨p,x,rfl,p0,p1,p2,p3,p4,p5,aq⟩;go_wp2_with fail;refine b.out _ _ p0 (fun a0=>?_);clear b K
     (try simp only[pE])
     refine tk 2 ?_;try simp only[pE];refine tk 3 ?_;try simp only[pE];refine tk 4 ?_;try simp only[pE];refine rk 5 (fun K b=>?_);go_simp;refine b.out _ _ p5 (fun a1=>?_);clear b K
     (try simp only[pE])
     refine AW (by kernel_rfl) ?_ _;refine KY ?_
     gi_wp2
     obtain⟨av,aA⟩:=Da aq;refine⟨by simp,.inl ⟨_,_,rfl,Cb av,?_⟩⟩;exact⟨_,Ei rfl _ _ _,aA⟩
end
def PZ(w:World)(db sb so:Nat)(E:F3)(F:By×Pl)(e:Ending)(w':World):Prop:=
 ∃pb O',e = .returned (.pointer (some ⟨pb,0,none⟩))/\w.heap.size<=pb/\F.1.size=10/\Qq w' pb db sb so E F.2 (Gu F.1:Nat) (GD F.1:Nat) O'/\Bw w w'/\∀j,O' j->w.heap.size<=j
def Dk(es:LI)(cl:Bool)(tp:Nat)(D:LY):F3:=⟨Dj es,cl,es,tp,D⟩
theorem Zia(w:World)(c b so tb rd a:Nat)(cl:Bool)(es:LI)(D:LY)(f:Gv (Dk es cl a D))(m:Iz w w.heap.size c b so (Dk es cl a D))(Z:∃j,j<96/\Dj es j<=0)
  (V:NV) (M:NS) (vi:Value) (G:Gh) (I:LF) (J:IB) (ch:LY->List Ek) (u:NV) (H:Lz w tb rd V M vi G I J ch u) (C:NB) (aa:GQ C (DD ch))
  (W:∀y∈DD ch,y.k=2->∃a2 l2 c2,u y.f = .slice a2 l2 c2/\Sl w 5 1 (.slice a2 l2 c2) l2 (Dc (C y.f))/\∀g,F2 (.slice a2 l2 c2) g->g<w.heap.size):
  Cl 131 #[.pointer (some ⟨c,0,none⟩),.pointer (some ⟨b,so,none⟩),.pointer (some ⟨tb,0,none⟩),.bool cl] w (PZ w c b so (Dk es cl a D) (Js (Dk es cl a D) C ⟨a+1,[],[]⟩ (DD ch))):=by
 have ap:a<1536:=f.bt;obtain⟨vb,aj,ag,ao⟩:=m.cb;have E:w.cell? ⟨b,so+1,none⟩=some (.int .i64 (a:Nat)):=m.ct;have ab:b<w.heap.size:=m.sbl;have P:=Db (WQ w.drew b so vb es aj ag ⟨f.len,f.srt,f.pl⟩);have O:Hid (∀X,Bw w X->∃Y,X.alloc (.cells (Kd c b so (Dj es) cl (a+1) (.slice none 0 0) 0 0 (.slice none 0 0)).toArray 184)=Y/\Y.cell? ⟨b,so+1,none⟩=some (.int .i64 (a:Nat))/\Hid (Cl 199 #[.pointer (some ⟨X.heap.size,0,none⟩),.pointer (some ⟨tb,0,none⟩)] Y fun e w'=>e = .returned (.tuple #[])/\Hid (PZ w c b so (Dk es cl a D) (Js (Dk es cl a D) C ⟨a+1,[],[]⟩ (DD ch)) (.returned (.pointer (some ⟨X.heap.size,0,none⟩))) w'))):=fun X r=>by
  obtain⟨Y,q,xY,kY,sY,bY⟩:=De X (Kd c b so (Dj es) cl (a+1) (.slice none 0 0) 0 0 (.slice none 0 0)) 184;have U:=r.size;have d:Bw w Y:=r.trans (bY.mono U);have hP:Gb Y X.heap.size c b so (Dj es) cl (a+1) (.slice none 0 0) [] 0 0 (.slice none 0 0) []:=⟨xY,⟨rfl,.inl ⟨rfl,rfl⟩⟩,Ih.nil _,fun e=>by simp[F2,Value.ownBlock]at e,fun e=>by simp[F2,Value.ownBlock]at e,fun k e=>by simp[F2,Value.ownBlock]at e⟩;have ak:G9 w.heap.size X.heap.size c b so (Dk es cl a D) ⟨a+1,[],[]⟩ (fun k=>k=X.heap.size) Y:=by
   refine⟨m.kept (fun k cs t z s e=>(d.block k s).trans e),fun k s=>by omega,d.size,.slice none 0 0,[],.slice none 0 0,hP,fun j k x y _ hx=>by simp at hx,rfl,fun x=>by simp,fun k=>?_⟩;simp[F2,Value.ownBlock]
  refine⟨Y,q,(d.cell (p:=⟨b,so+1,none⟩) ab).trans E,?_⟩;refine(ZlP Y w w.heap.size X.heap.size c b so tb rd (Dk es cl a D) f Z ⟨a+1,[],[]⟩ rfl rfl (by show a+1<=1536;omega) _ ak rfl d V M vi G I J ch u H C aa W).mono ?_;rintro e w' ⟨rfl,af,O',q1,q2,o,q4⟩;refine⟨rfl,X.heap.size,O',rfl,U,af,q1,?_,fun g hg=>by have:=q4 g hg;have:=d.size;omega⟩;exact⟨o.os.trans d.os,o.tape.trans d.tape,o.output.trans d.output,Ag d.size o.size,fun k s=>(o.block k (by have:=d.size;omega) (by omega)).trans (d.block k s)⟩
 have N:=Db (Z8 c b so (Dj es) cl (a+1));obtain⟨ae,B⟩:∃V,V=Value.agg (GS (Dj es)).toArray:=⟨_,rfl⟩;obtain⟨R,A⟩:∃L,L=Kd c b so (Dj es) cl (a+1) (.slice none 0 0) 0 0 (.slice none 0 0):=⟨_,rfl⟩;obtain⟨VP,T⟩:∃V,V=Value.agg R.toArray:=⟨_,rfl⟩;rw[<-B,<-A]at N;rw[<-B]at P;rw[<-A]at O;have Q:=Db T;clear B A T;have HC:Hid (∀X,Bw w X->X.cell? ⟨b,so+1,none⟩=some (.int .i64 (a:Nat))):=fun X r=>(r.cell (p:=⟨b,so+1,none⟩) ab).trans E
 clear H aa W f m Z;go_enter Tryz.func131,Tryz.ntmps131;go_upto_region 1 with fail;refine AD (S:=fun X=>X.cell? ⟨b,so+1,none⟩=some (.int .i64 (a:Nat))) (by kernel_rfl) E (fun an=>?_);refine tk 0 ?_;try simp only[pE];refine tk 1 ?_;try simp only[pE];refine tk 2 ?_;try simp only[pE];refine tk 4 ?_;try simp only[pE];refine tk 5 ?_;try simp only[pE];refine tk 6 ?_;try simp only[pE];refine tk 7 ?_;try simp only[pE];refine tk 8 ?_;try simp only[pE];refine tk 9 ?_;try simp only[pE];refine A6 (i:=10) (v := .int .i64 ((a+1:Nat):Int)) rfl (by kernel_rfl) (by kernel_rfl) (by kernel_rfl) (fun _ _ _ h=>h) (Or.inl ⟨by rfl,?_⟩) (by assumption) ?_
 ·intro w ah;(try dsimp only at ah);go_simp;rw[AX];omega
 (try simp only[pE])
 refine rk 3 (fun K n=>?_);go_simp;go_at_call 198;refine(Da P).mono ?_;rintro e X ⟨rfl,l⟩;have F:Bw w X:=⟨l.os,l.tape,l.output,l.size,l.block⟩;have ai:=Da HC X F;obtain⟨Y,q,cY,ad⟩:=Da O X F;have ac:=Db q;clear l F q;go_wp2_with fail;refine n.out _ _ ai (fun am=>?_);clear n K
 (try simp only[pE])
 refine A6 (i:=11) (v:=VP) rfl (by kernel_rfl) (by kernel_rfl) (by kernel_rfl) (fun _ _ _ h=>h) (Or.inl ⟨by rfl,fun V _=>?_⟩) (by assumption) ?_
 ·rw[Da Q];exact RE V 184 _ rfl (vs := #[(0,.pointer (some ⟨c,0,none⟩)),(1,.pointer (some ⟨b,so,none⟩)),(2,ae),(3,.bool cl),(4,.int .i64 ((a+1:Nat):Int))]) (by simp[Act.eval]) (Da N)
 (try simp only[pE])
 refine rk 12 (fun K n=>?_);refine ZC rfl 184 _ rfl R (Da Q) ?_;rw[Da ac];refine n.out _ _ cY (fun al=>?_);clear n K
 (try simp only[pE])
 refine tk 13 ?_;try simp only[pE];refine AW (by kernel_rfl) ?_ _;go_wp2_with (go_at_call 199;refine(Da ad).mono ?_;rintro e w' ⟨rfl,HP⟩);go_ret;exact Da HP
def Sx(w:World)(stb db:Nat)(vk:Value)(tp tx tn:Int)(vf vn vw ve:Value)(D:LY)(ps:LB)(es:List Int)(e:Ending)(w':World):Prop:=
 e = .returned (.tuple #[])/\∃ve',Ho w' stb db vk tp tx tn vf vn vw ve' D ps (es++[((ps.length:Nat):Int)])/\Dm w ve ve'/\Fr (fun k=>k=db\/F2 ve k) w w'
theorem ZkL(w:World)(c a pb:Nat)(n:Value)(l m k:Int)(g f vw d:Value)(D:LY)(ps:LB)(es:List Int)(h:Ho w c a n l m k g f vw d D ps es)
  (B I so:Nat) (G:Nat->Int) (cl:Bool) (C:Nat) (L:Value) (eP:LI) (J K:Int) (N:Value) (b:Gb w pb B I so G cl C L eP J K N []) (E:es.length<=999999998) (q:¬Ha c a f vw d pb):
  Cl 133 #[.pointer (some ⟨c,0,none⟩),.pointer (some ⟨pb,0,none⟩)] w (Sx w c a n l m k g f vw d D ps es):=by
 obtain⟨z,lp,A,rfl⟩:=Sl.shape b.sp;have r:=Sl.len b.sp;simp only[AS]at r;subst r;have ab:=b.cells.2.2.2.2.2.2;have aa:=(h.row.cell 0).trans (show _=some (Value.pointer (some ⟨a,0,none⟩)) from rfl);obtain⟨o,t,p,rfl⟩:=Sl.shape h.sw;have j:=Sl.len h.sw;have x:Hid (Cl 200 #[.pointer (some ⟨a,0,none⟩)] w fun e w'=>e = .returned (.tuple #[])/\w'.cell? ⟨pb,103,none⟩=some (.slice z 0 A)/\Hid (Sx w c a n l m k g f (.slice o t p) d D ps es (.returned (.tuple #[])) w')):=by
  refine(RG w a g f d o t p h.disk.1 es h.se h.nd.2.2 (by omega)).mono ?_;intro e w' s;obtain⟨M,u,H,v⟩:=h.flush s;have F:F0 w' pb 184 _:=b.row.fr v (fun e=>q (e.elim (fun e => .inr (.inl e)) (fun e => .inr (.inr (.inr (.inr e))))));rw[j]at u;exact⟨s.1,(F.cell 103).trans (JI _ _ _ _ _ _ _ _ _ _ 5),rfl,M,j ▸ u,H,v⟩
 clear h b E q j;go_enter Tryz.func133,Tryz.ntmps133;go_wp2
 go_loopw [11] (fun i wr=>i = .int .i64 0/\wr=w) (fun i _=>0)
 case atStart=>exact⟨rfl,rfl⟩
 case round=>
  obtain⟨rfl,rfl⟩:=hrel;go_wp2_with (go_at_call 200;refine(Da x).mono ?_;rintro e w3 ⟨rfl,m1,y⟩);refine Ax (Ei rfl _ _ _) rfl ?_;exact Da y
theorem F3.puts_ind{E:F3}{Q:Pl->Prop}(b:∀st r s,s.size=64->Q st->Q (E.put st r s).2)(R:Nat->Nat)(B:NB)(a:∀x,(B x).size=64):∀(st:Pl) (i:Nat) (xs:List Nat),Q st->Q (E.puts R B st i xs)
 | _,_,[],h=>h
 | st,i,x::xs,h=>F3.puts_ind b R B a _ (i+1) xs (b st (R i) (B x) (a x) h)
theorem TB{E:F3}{Q:Pl->Prop}(a:∀st r s,s.size=64->Q st->Q (E.put st r s).2)(C:NB):∀(last:By) (st:Pl) (xs:List It),Q st->Q (Dr E C last st xs).2
 | _,_,[],h=>h
 | last,st,x::xs,h=>by
  refine TB a C (jn x.ns) _ xs ?_;unfold Dt
  split
  ·exact h
  ·split
   ·exact h
   ·exact F3.puts_ind a _ _ (fun x=>Us _ x) _ _ _ h
theorem TP{E:F3}{Q:Pl->Prop}(a:∀st r s,s.size=64->Q st->Q (E.put st r s).2):∀(d below:Nat) (st:Pl) (s:By),Q st->Q (DE E d below st s).2
 | 0,_,_,_,h=>h
 | d+1,below,st,s,h=>by
  unfold DE
  split
  ·exact TP a d _ _ _ (F3.puts_ind a _ _ (fun x=>QJ _ _ _ x) _ _ _ h)
  ·exact h
theorem Re{E:F3}{Q:Pl->Prop}(a:∀st r s,s.size=64->Q st->Q (E.put st r s).2)(C:NB)(st:Pl)(L:List It)(h:Q st):Q (Js E C st L).2:=
 TP a _ _ _ _ (F3.puts_ind a _ _ (fun x=>QJ _ _ _ x) _ _ _ (TB a C _ _ _ h))
def Li(st:Pl):Prop:=(∀y∈st.puts,y.2<1536)/\∀x∈st.ps,x.1<1536/\x.2.size=64
theorem Li.put{E:F3}(c:Gv E)(st:Pl)(r:Nat)(s:By)(d:s.size=64)(h:Li st):Li (E.put st r s).2:=by
 refine⟨fun y b=>?_,fun x a=>?_⟩
 ·rw[F3.put_puts]at b;rcases Ap.1 b with q|q
  ·exact h.1 y q
  ·rw[Ab.1 q];exact c.place_lt st r s
 ·unfold F3.put at a
  split at a
  ·exact h.2 x a
  ·rcases Ap.1 a with q|q
   ·exact h.2 x q
   ·rw[Ab.1 q];exact⟨FY _ (by decide),d⟩
theorem Tm(E:F3):∀(d below:Nat) (st:Pl) (s:By),Ic d below st s->∃below',below'<=9/\Ic (9-below') below' (DE E d below st s).2 (DE E d below st s).1/\(DE E d below st s).1.size=10
 | 0,below,st,s,h=>⟨below,by have:=h.bd;omega,by have:=h.bd;rw[show 9-below=0 by omega];exact h,by have:=h.n4;have:=h.n5;simp at *;show s.size=10;omega⟩
 | d+1,below,st,s,h=>by
  unfold DE
  split
  ·rename_i a;obtain⟨d',e,b,_⟩:=h.next a E
   cases e
   exact Tm E d _ _ _ b
  ·rename_i a;refine⟨below,by have:=h.bd;omega,by have:=h.bd;rw[show 9-below=d+1 by omega];exact h,?_⟩;have:=h.n5;show s.size=10;omega
theorem TC{C:NB}{L:List It}(b:GQ C L)(E:F3)(st0:Pl)(o:st0.puts=[])(p:st0.ps=[])(r:st0.hd<=1536):
  Ic 8 1 (Dz E 3 63 0 (Dr E C ⟨#[]⟩ st0 L).2 ((Dr E C ⟨#[]⟩ st0 L).1++⟨#[0]⟩)).2 (Dz E 3 63 0 (Dr E C ⟨#[]⟩ st0 L).2 ((Dr E C ⟨#[]⟩ st0 L).1++⟨#[0]⟩)).1:=by
 obtain⟨t1,i,k,d,l⟩:=KP E C ⟨#[]⟩ st0 L (fun z c=>⟨b.path z c,b.size z c,b.kind z c⟩);rw[o]at i l;rw[p]at k;have d:=d r;have aa:=b.len;simp only[AS]at i k;generalize (Dr E C ⟨#[]⟩ st0 L).2=st at *
 generalize (Dr E C ⟨#[]⟩ st0 L).1=s at *
 obtain⟨a,e⟩:∃a:By,a=s++⟨#[0]⟩:=⟨_,rfl⟩;have t:a.size=s.size+1:=by rw[e];exact Ai
 rw[<-e];obtain⟨g,h,w⟩:=F3.puts_len E (Dd 3 0) (Dw 3 a 63) st 0 (List.range ((a.size+63-1)/63));rw[A2]at g h;have f:=Ql E 3 63 0 st a;have m:(Dz E 3 63 0 st a).2.puts.length=st.puts.length+(a.size+63-1)/63:=g;have n:(Dz E 3 63 0 st a).2.ps.length<=st.ps.length+(a.size+63-1)/63:=h;rw[t]at m n f;refine⟨rfl,fun y v=>?_,by omega,by omega,w d,by omega,by omega,_,f⟩;rcases F3.puts_mem E _ _ st 0 _ y v with q|⟨j,_,A,B⟩
 ·rcases l y q with q|⟨x,u,_,j,hj,q⟩
  ·cases q
  ·exact⟨4,x.f,j,q,by omega,.inl ⟨rfl,b.num x u⟩⟩
 ·rw[A2]at A;exact⟨3,0,j,B,by omega,.inr (.inl ⟨rfl,rfl⟩)⟩
structure IY(F:By×Pl):Prop where
 pl:Li F.2
 n1:F.2.puts.length<=8000
 n2:F.2.ps.length<=8000
 n3:F.1.size=10
 pk:Ia 9 F.2
theorem Ul{C:NB}{L:List It}(l:GQ C L)(E:F3)(k:Gv E)(a:Nat)(j:a<=1536):IY (Js E C ⟨a,[],[]⟩ L):=by
 obtain⟨b,hb,c,d⟩:=Tm E 8 1 _ _ (TC l E ⟨a,[],[]⟩ rfl rfl j);have i1:=c.n1;have i2:=c.n2;refine⟨Re (Q:=Li) (fun st r s d h=>h.put k st r s d) C _ L ⟨fun y g=>(by cases g),fun x m=>(by cases m)⟩,?_,?_,d,fun y g=>?_⟩
 ·show(DE E 8 1 _ _).2.puts.length<=_;omega
 ·show(DE E 8 1 _ _).2.ps.length<=_;omega
 ·obtain⟨kk,f,i,e,n,o⟩:=c.pk y g;exact⟨kk,f,i,e,n,o.imp id (fun e=>e.imp id (fun e=>⟨e.1,by omega⟩))⟩
def Hb(puts:List (Nat×Nat))(es:LI):Prop:=Gz es/\es.length=puts.length/\∀x,x∈es↔∃y∈puts,x=((y.1:Int),(y.2:Int))
theorem Hb.places{a:List (Nat×Nat)}{es:LI}(h:Hb a es)(b:a.length<=10000)(c:∀y∈a,y.2<1536):Ui es:=
 ⟨by rw[h.2.1];exact b,h.1,fun x d=>by
  obtain⟨y,e,rfl⟩:=(h.2.2 x).1 d;exact⟨y.2,rfl,c y e⟩⟩
theorem Gz.nodup{es:LI}(h:Gz es):es.Nodup:=by
 rw[AM,Bm];intro i j a c b e;have:=h i j es[i] es[j] b (Ac a) (Ac c);rw[e]at this;unfold GU at this;simp at this
theorem UJ{α : Type}:∀(J K:List α),J.Nodup->(∀x∈J,x∈K)->K.length<=J.length->List.Perm J K
 | [],K,_,_,hl=>by
  have:K=[]:=Ay (by simpa using hl);rw[this]
 | a::J,K,hnd,hs,hl=>by
  rw[Cv]at hnd;obtain⟨s,t,rfl⟩:=List.append_of_mem (hs a (by simp));have ih:=UJ J (s++t) hnd.2 (fun x b=>by
   have:=hs x (by simp[b]);rcases Ap.1 this with h|h
   ·exact A0 _ h
   ·rcases AE.1 h with rfl|h
    ·exact absurd b hnd.1
    ·exact Bo _ h) (by simp at hl ⊢;omega)
  exact(ih.cons a).trans List.perm_middle.symm
theorem Hb.perm{a:List (Nat×Nat)}{es:LI}(h:Hb a es):List.Perm es (a.map (fun y=>((y.1:Int),(y.2:Int)))):=
 UJ _ _ h.1.nodup (fun x b=>by obtain⟨y,c,rfl⟩:=(h.2.2 x).1 b;exact Au.2 ⟨y,c,rfl⟩) (by rw[AK,h.2.1];exact Aa _)
def IM(puts:List (Nat×Nat))(j:Nat):Int:=(if j=0 then 2 else 0)+(puts.countP (fun y=>y.2/16==j):Nat)
theorem Hb.nd{a:List (Nat×Nat)}{es:LI}(h:Hb a es):Dj es=IM a:=by
 funext j
 unfold Dj IM;rw[h.perm.countP_eq,List.countP_map]
 rfl
end Go.Proofs.YtaieidcohdhgpaaGreatDoor
