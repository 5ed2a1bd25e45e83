/- Failed. -/
import Derived.Test.YtaieidcohdhgpaaGreatDoorSBA
namespace Go.Proofs.YtaieidcohdhgpaaGreatDoor
set_option maxHeartbeats 40000000
set_option maxRecDepth 100000
open Go.RowKit
def KeepX(w:World)(n0 pb db sb so:Nat)(E:Env)(O0:Nat->Prop)(F:By×Pl)(e:Ending)(w':World):Prop:=
 e = .returned (.tuple #[])/\F.1.size=10/\∃O',Ql w' pb db sb so E F.2 (rdP F.1:Nat) (rdX F.1:Nat) O'/\EnvW w' n0 db sb so E/\Fr O0 w w'/\∀j,O' j->O0 j\/w.heap.size<=j
section
variable{w wT:World}{n0 n1 pb db sb so tb:Nat}{E:Env}{C:NB}{dv:NV}{L:List It}{st0:Pl}{O0:Nat->Prop}
theorem KpC.index(h:KpC w wT n0 n1 E C dv L st0 O0){a:OA}{l c d b D:Nat}{O:Nat->Prop}{st:Pl}{s v:By}{F:By×Pl}{Y:World}
  (f:KpI w n0 n1 pb db sb so tb E O0 st s v (.slice a l c) O Y) (z:Y.heap[D]?=some (.deferred (some []))) (o:n1<=Y.heap.size) (m:IdxN d b st s) (A:DF E d b st s=F) (u:10<s.size):
  Calls Tryz.prog 237 #[.pointer (some ⟨pb,0,none⟩),.int .u8 2,.int .i64 (b:Nat),.slice a l c] Y fun e g=>∃i n k,e = .returned (.slice i n k)/\g.cell? ⟨w.heap.size+1,0,none⟩=some (.slice a l c)/\g.frozen? ⟨w.heap.size+1,0,none⟩=false/\
   Hid (TI w n0 n1 pb db sb so tb E O0 D F (b+1) (g.setCell ⟨w.heap.size+1,0,none⟩ (.slice i n k))):=by
 have hn:=h.hB.n0;have aa:=h.hB.n1;have hb:=m.bd;have i1:=m.n1;have i2:=m.n2;obtain⟨r,rfl,J,_⟩:=m.next u E;have P:∀B,w.heap.size<=B->B<n1->¬O B:=fun B q1 q2 e=>by
  rcases f.hO B e with q|q
  ·have:=h.hB.o0 B q;omega
  ·omega
 refine(ZmG Y n0 pb db sb so E h.hE h.hj st O f.st n1 a l c s f.rs f.dis b (by omega) (by omega) (by omega) (by omega) (by omega) m.n3 (m.pk.fresh (by omega))).mono ?_;rintro e g ⟨i,n,k,O',rfl,Q,x,R,S,y⟩;have p:RowIs g (w.heap.size+1) 59 _:=(y.block _ f.b1.lt (P _ (by omega) (by omega))).trans f.b1;have I:Fr (fun j=>O j\/Own (.slice a l c) j) Y g:=y.mono (fun j _ e => .inl e);obtain⟨G,t⟩:=f.say h.hB o Q ⟨x.1,fun j M=>by have:=x.2 j M;omega⟩ R S I;have N:=f.keeps h.hB o (t.mono (fun j _ e=>by rcases e with e|e|e;exact .inl e;exact .inr (.inl e);exact .inr (.inr (.inl e))));have K:DF E r (b+1) (Dy E 2 60 b st s).2 (Dy E 2 60 b st s).1=F:=by
  rw[<-A];show _=(if _ then _ else _);rw[if_pos u]
 have H:TI w n0 n1 pb db sb so tb E O0 D F (b+1) (g.setCell ⟨w.heap.size+1,0,none⟩ (.slice i n k)):=⟨r,_,_,v,i,n,k,O',G,N.2.2 D _ z rfl,Nat.le_trans o t.size,J,K⟩;exact⟨i,n,k,rfl,(p.cell 0).trans rfl,p.frozen 0,H⟩
theorem KpC.top(h:KpC w wT n0 n1 E C dv L st0 O0){a:OA}{l c d I D:Nat}{O:Nat->Prop}{st:Pl}{s G:By}{F:By×Pl}{Y:World}
  (f:KpI w n0 n1 pb db sb so tb E O0 st s G (.slice a l c) O Y) (y:Y.heap[D]?=some (.deferred (some []))) (aj:w.heap.size<=D) (hz:n1<=Y.heap.size) (M:IdxN d I st s) (W:DF E d I st s=F) (hs:¬10<s.size):
  l=10/\∃b,Y.alloc (.cells #[.slice a l c] 287)=b/\b.cell? ⟨w.heap.size,0,none⟩=some (.pointer (some ⟨pb,0,none⟩))/\
    Hid (Calls Tryz.prog 238 #[.pointer (some ⟨Y.heap.size,0,none⟩)] b.drew fun e Z=>∃p x:Nat,e = .returned (.agg #[.int .i64 (p:Nat),.int .u64 (x:Nat)])/\Z.cell? ⟨w.heap.size,0,none⟩=some (.pointer (some ⟨pb,0,none⟩))/\Z.cell? ⟨pb,101,none⟩=some (.int .i64 0)/\Z.cell? ⟨pb,102,none⟩=some (.int .u64 0)/\Z.frozen? ⟨pb,101,none⟩=false/\Z.frozen? ⟨pb,102,none⟩=false/\((Z.setCell ⟨pb,101,none⟩ (.int .i64 (p:Nat))).setCell ⟨pb,102,none⟩ (.int .u64 (x:Nat))).cell? ⟨w.heap.size,0,none⟩=some (.pointer (some ⟨pb,0,none⟩))/\
     Hid (((Z.setCell ⟨pb,101,none⟩ (.int .i64 (p:Nat))).setCell ⟨pb,102,none⟩ (.int .u64 (x:Nat))).heap[D]?=some (.deferred (some []))/\KeepX w n0 pb db sb so E O0 F (.returned (.tuple #[])) (((Z.setCell ⟨pb,101,none⟩ (.int .i64 (p:Nat))).setCell ⟨pb,102,none⟩ (.int .u64 (x:Nat))).putObj D (.deferred none)))):=by
 have hn:=h.hB.n0;have am:=h.hB.n1;have n:=M.bd;have i5:=M.n5;have Q:s.size=10:=by omega
 obtain⟨g,rfl,rfl,ag,ak⟩:=f.rs.some (by omega);have aa:F=(s,st):=by
  rw[<-W]
  cases d with
  | zero=>rfl
  | succ d=>show(if _ then _ else _)=_;rw[if_neg hs]
 subst aa;obtain⟨b,T,x8,k8,s8,H⟩:=De Y [.slice (some ⟨g,0,none⟩) s.size c] 287;have A:KpI w n0 n1 pb db sb so tb E O0 st s G (.slice (some ⟨g,0,none⟩) s.size c) O b:=f.fr' h.hB (Z:=fun _=>False) (Fr.of_below H) (fun _ e=>e.elim);have ah:RdB b.drew (some ⟨g,0,none⟩) s.size c s:=A.rs.rdB;refine⟨Q,b,T,(A.b0.cell 0).trans rfl,?_⟩;refine(U6 b.drew Y.heap.size (some ⟨g,0,none⟩) s.size c s (show RowIs b.drew Y.heap.size 287 [.slice (some ⟨g,0,none⟩) s.size c] from x8) ah ag (fun x e=>by cases e;simp only;omega) (by omega)).mono ?_;rintro e Z ⟨rfl,_,_,_,_,_,_,m⟩;have K:Fr (fun k=>k=Y.heap.size) b Z:=⟨m.os,m.tape,m.output,m.size,m.block⟩;have ai:∀j,O j->j<Y.heap.size:=fun j i=>by obtain⟨v,t,n⟩:=f.st.cells i;exact(Array.getElem?_eq_some_iff.1 n).1
 have q:KpI w n0 n1 pb db sb so tb E O0 st s G (.slice (some ⟨g,0,none⟩) s.size c) O Z:=A.fr' h.hB K (fun j e=>⟨fun ho=>by have:=ai j ho;omega,fun hv=>by have:=Own.lt f.rs hv;omega,by omega⟩);obtain⟨V,ab,al,va,es,vp,o,q2,q3,q4,S⟩:=q.st;have u:O pb:=(S pb).2 (.inl rfl);have an:pb<w.heap.size\/n1<=pb:=(f.hO pb u).imp (h.hB.o0 pb) id;have P:D≠pb:=fun e=>by
  subst e;obtain⟨v,t,n⟩:=f.st.cells u;rw[y]at n;cases n
 have ac:=o.top (rdP s:Nat) (rdX s:Nat);have U:=(Array.getElem?_eq_some_iff.1 y).1;have J:((Z.setCell ⟨pb,101,none⟩ (.int .i64 (rdP s:Nat))).setCell ⟨pb,102,none⟩ (.int .u64 (rdX s:Nat))).heap[D]?=some (.deferred (some [])):=by
  rw[Below.heap_setCell _ _ _ _ (show D≠pb from P),Below.heap_setCell _ _ _ _ (show D≠pb from P),K.block D (by omega) (by omega),H.block D U];exact y
 have R:∀B,w.heap.size<=B->B<n1->B≠pb:=fun B r1 r2 e=>by omega
 have mF:RowIs ((Z.setCell ⟨pb,101,none⟩ (.int .i64 (rdP s:Nat))).setCell ⟨pb,102,none⟩ (.int .u64 (rdX s:Nat))) w.heap.size 168 [.pointer (some ⟨pb,0,none⟩)]:=(Below.heap_setCell _ _ _ _ (R _ (by omega) (by omega))).trans ((Below.heap_setCell _ _ _ _ (R _ (by omega) (by omega))).trans q.b0);refine⟨rdP s,rdX s,rfl,(q.b0.cell 0).trans rfl,(o.row.cell 101).trans (Jz _ _ _ _ _ _ _ _ _ _ 3),(o.row.cell 102).trans (Jz _ _ _ _ _ _ _ _ _ _ 4),o.row.frozen 101,o.row.frozen 102,(mF.cell 0).trans rfl,J,rfl,Q,O,⟨va,es,vp,?_,q2,q3,q4,S⟩,?_,?_,fun j i=>(f.hO j i).imp id (fun e=>by omega)⟩
 ·refine ac.cellsKept (fun j v t i=>?_);simp only[World.putObj];rw[Array.getElem?_setIfInBounds,if_neg (fun e=>by subst e;rw[J]at i;cases i)];exact i
 ·refine V.kept (fun k v t z r e=>?_);have N:k≠pb:=fun e=>by subst e;have:=ab k u;omega
  have af:k≠D:=by omega
  simp only[World.putObj];rw[Array.getElem?_setIfInBounds,if_neg (fun e=>af e.symm)];exact(Below.heap_setCell _ _ _ _ N).trans ((Below.heap_setCell _ _ _ _ N).trans e)
 ·have ad:Fr (fun k=>k=pb) Z ((Z.setCell ⟨pb,101,none⟩ (.int .i64 (rdP s:Nat))).setCell ⟨pb,102,none⟩ (.int .u64 (rdX s:Nat))):=Fr.set (X:=fun k=>k=pb) (Fr.set (X:=fun k=>k=pb) (Fr.refl (fun k=>k=pb) Z) ⟨pb,101,none⟩ _ rfl) ⟨pb,102,none⟩ _ rfl;have ae:Fr O0 w ((Z.setCell ⟨pb,101,none⟩ (.int .i64 (rdP s:Nat))).setCell ⟨pb,102,none⟩ (.int .u64 (rdX s:Nat))):=q.fr.then ad (fun k r e=>by subst e;exact(f.hO k u).elim id (fun e=>by omega));refine ae.then (Y:=fun k=>k=D) ⟨rfl,rfl,rfl,by simp[World.putObj],fun k _ r=>by
   simp only[World.putObj];rw[Array.getElem?_setIfInBounds,if_neg (fun e=>r e.symm)]⟩ (fun k r e=>by omega)
end
section
open Go.RowKit Go.Shelf
attribute [local go_sem] Oper.semAt_some
theorem KpT.chgs{a b:Nat}(X:World)(o:Obj)(r:Nat)(c:a<=r)(h1:r<b):KpT a b X (X.putObj r o):=⟨ZeL X o c,fun k o' hk ho _=>(World.putObj_heap_other (by omega)).trans ho⟩
theorem Zlq(w wT:World)(N pb db sb so tb rd:Nat)(E:Env)(hE:EnvOk E)(T:∃j,j<96/\E.nd j<=0)(st0:Pl)(aR:st0.puts=[])(aS:st0.ps=[])(aT:st0.hd<=1536)(M:Nat->Prop)(ai:StX N pb db sb so E st0 M w)(aU:wT.heap.size=N)(hT:Below N wT w)
  (V:NV) (Ed:NS) (vi:Value) (G:Gh) (I:LF) (CI:IB) (ch:LY->List Ek) (dv:NV) (H:WkT wT tb rd V Ed vi G I CI ch dv) (C:NB) (aQ:ItOk C (DI ch))
  (hd:∀y∈DI ch,y.k=2->∃F f u,dv y.f = .slice F f u/\Sl wT 5 1 (.slice F f u) f (Dc (C y.f))/\∀g,Own (.slice F f u) g->g<N):
  Calls Tryz.prog 199 #[.pointer (some ⟨pb,0,none⟩),.pointer (some ⟨tb,0,none⟩)] w (KeepX w N pb db sb so E M (Jr E C st0 (DI ch))):=by
 have aN:∀j,M j->j<w.heap.size:=fun j T=>by obtain⟨cs,t,hb⟩:=ai.cells T;exact(Array.getElem?_eq_some_iff.1 hb).1
 have W:=ai.2.2.1;have an:KpC w wT N (w.heap.size+6) E C dv (DI ch) st0 M:=⟨⟨aN,by omega,W⟩,ai.2.1,hE,T,aQ,aR,aS,aT,hT,hd⟩;obtain⟨W1,e1,x1,k1,s1,b1⟩:=De w [.pointer (some ⟨pb,0,none⟩)] 168;obtain⟨W2,e2,x2,k2,s2,b2⟩:=De W1 [.slice none 0 0] 59;obtain⟨W3,e3,x3,k3,s3,b3⟩:=De W2 [.string ⟨#[]⟩] 9;obtain⟨W4,e4,x4,k4,s4,b4⟩:=De W3 [.pointer (some ⟨tb,0,none⟩)] 37;have ao:Below w.heap.size w W4:=b1.trans ((b2.mono (by omega)).trans ((b3.mono (by omega)).trans (b4.mono (by omega))));have y1:=k4 _ _ _ (k3 _ _ _ (k2 _ _ _ x1));have y2:=k4 _ _ _ (k3 _ _ _ x2);have y3:=k4 _ _ _ x3;have t2:W2.heap.size=w.heap.size+1+1:=by omega
 have t3:W3.heap.size=w.heap.size+1+1+1:=by omega
 have t4:W4.heap.size=w.heap.size+4:=by omega
 rw[s1]at y2;rw[t2]at y3;rw[t3]at x4;have aE:=Znl wT W4 (w.heap.size+1+1+1) tb rd V Ed vi G I CI ch dv H (by rw[aU];exact hT.trans (ao.mono W)) x4;have aL:KpI w N (w.heap.size+6) pb db sb so tb E M st0 ⟨#[]⟩ ⟨#[]⟩ (.slice none 0 0) M W4:=⟨ai.keeps (Z:=fun _=>False) (Fr.of_below ao) (fun _ e=>e.elim),fun j T => .inl T,y1,y2,y3,x4,SlB.nil _ _,fun j _ e=>by simp[Own,Value.ownBlock]at e,Fr.of_below ao,by omega⟩;obtain⟨L,hL⟩:∃L,L=DI ch:=⟨_,rfl⟩;rw[<-hL]at an aE ⊢;have aP:∀k y,L[k]?=some y->∃z D B,Ke dv y = .agg #[.string (jn y.ns),.int .u8 (y.k:Nat),.int .i64 (y.f:Nat),.slice z D B]:=fun k y J=>by
  unfold Ke;by_cases hk:y.k=2
  ·rw[if_pos hk];obtain⟨F,f,u,q1,_⟩:=an.hd y (List.mem_of_getElem? J) hk;exact⟨F,f,u,by rw[q1]⟩
  ·rw[if_neg hk];exact⟨_,_,_,rfl⟩
 have aY:=Db aP;have ab:=Db an;have aZ:=Db aE;have aX:=Db aL;have ae:=Db t4;have aG:=Db e1;have aH:=Db e2;have aI:=Db e3;have aJ:=Db e4;have aK:=Db W;clear x1 x2 x3 x4 k1 k2 k3 k4 s1 s2 s3 s4 b1 b2 b3 b4 y1 y2 y3 t2 t3 t4 e1 e2 e3 e4 ao aE ai aL an H hE T aR aS aT hT aQ hd aN hL aP W;refine(callsIn_wide (n:=3)).1 ?_;refine callsIn_of_wp_marks Tryz.func199 rfl trivial ?_ rfl;simp only[Tryz.ntmps199,List.size_toArray,List.length_cons,List.length_nil,Nat.reduceAdd,Nat.reduceSub,Array.replicate_succ,Array.replicate_zero,List.push_toArray,List.append_toArray,List.nil_append,List.cons_append]
 gi_wp2_with (refine⟨trivial,?_⟩;gi_at_call 115;refine(ZoP _ _ _).mono ?_;rintro e w' ⟨rfl,rfl⟩)
 rw[show w.alloc (.cells #[.pointer (some ⟨pb,0,none⟩)] 168)=W1 from Da aG,show W1.alloc (.cells #[.slice none 0 0] 59)=W2 from Da aH,show W2.alloc (.cells #[.string ⟨#[]⟩] 9)=W3 from Da aI,show W3.alloc (.cells #[.pointer (some ⟨tb,0,none⟩)] 37)=W4 from Da aJ];rename_i K0 aM;clear aG aH aI aJ;have t4:=Da ae;have W:=Da aK;refine Ze9 (gf:=169) (lb := #[.pointer (some ⟨w.heap.size+1+1+1,0,none⟩)]) rfl (enters_of Tryz.func169 (by kernel_rfl) rfl)
  (Da aZ) (Below.refl _ _) (fun h k=>⟨h.1.trans k.1,k.2.trans h.2⟩) (fun X o o' ho _=>⟨KpT.chgs X o' _ (by omega) (by omega),World.putObj_heap_other (by omega)⟩) (Zl0 _ _)
  (fun k X=>∃a l c O,KpI w N (w.heap.size+6) pb db sb so tb E M (Dw E C ⟨#[]⟩ st0 (L.take k)).2 (Dw E C ⟨#[]⟩ st0 (L.take k)).1 (JV ⟨#[]⟩ (L.take k)) (.slice a l c) O X)
  (fun k A A' hA hc=>by
   obtain⟨a,l,c,O,hA⟩:=hA;rw[t4]at hc;exact⟨a,l,c,O,hA.chg (Da ab).hB hc⟩)
  ⟨none,0,0,M,Da aX⟩
  (fun k a' X=>∃Bx y z D B,L[k]?=some y/\W4.heap.size+2<=Bx/\RowIs X Bx 141 [.string (jn y.ns),.int .u8 (y.k:Nat),.int .i64 (y.f:Nat),.slice z D B]/\Ke dv y = .agg #[.string (jn y.ns),.int .u8 (y.k:Nat),.int .i64 (y.f:Nat),.slice z D B]/\a'={ tmps := #[.pointer (some ⟨pb,0,none⟩),.pointer (some ⟨tb,0,none⟩),.pointer (some ⟨w.heap.size,0,none⟩),undef,.pointer (some ⟨w.heap.size+1,0,none⟩),.pointer (some ⟨w.heap.size+1+1,0,none⟩),.pointer (some ⟨Bx,0,none⟩),undef,undef,.pointer (some ⟨tb,0,none⟩),.func (.func 169) #[] #[.pointer (some ⟨w.heap.size+1+1+1,0,none⟩)],.agg #[.string (jn y.ns),.int .u8 (y.k:Nat),.int .i64 (y.f:Nat),.slice z D B],undef,undef,undef,undef,undef,undef,undef,undef,undef,undef,undef,undef,undef,undef,undef,undef,undef,undef,undef,undef,undef,undef,undef,undef,undef,undef,undef,undef],defers:=[] })
  (fun k a' A A' hA hs hc T=>by
   obtain⟨Bx,y,z,D,B,J,al,hr,hv,ha⟩:=hA;exact⟨Bx,y,z,D,B,J,al,(T Bx al).trans hr,hv,ha⟩)
  ?assign ?body ?done
 case assign=>
  rintro k X Kk hk r hz aO;obtain⟨y,J⟩:∃y,L[k]?=some y:=⟨_,List.getElem?_eq_getElem hk⟩;obtain⟨z,D,B,hv⟩:=Da aY k y J;rw[ZiX J,hv];have HY:=Db J;have HV:=Db hv;have aW:=Db aO;have HZ:=Db hz;have HI:=Db r;clear t4 J hv aO hz r W
  gi_wp2
  have t4:=Da ae;obtain⟨a,l,c,O,r⟩:=Da HI;have a4:Chg (w.heap.size+4) X (X.alloc (.cells #[.string (jn y.ns),.int .u8 (y.k:Nat),.int .i64 (y.f:Nat),.slice z D B] 141)):=Chg.alloc _ _;have aC:Below X.heap.size X (X.alloc (.cells #[.string (jn y.ns),.int .u8 (y.k:Nat),.int .i64 (y.f:Nat),.slice z D B] 141)):=(Below.refl _ X).alloc (Nat.le_refl _) _;have hz:=Da HZ;have W:=Da aK;exact Da aW _ _ ((KeepsOthers.alloc _ _).from _) ⟨⟨aC.mono (by omega),fun j o T ho _=>(aC.block j (Array.getElem?_eq_some_iff.1 ho).1).trans ho⟩,aC.block _ (by omega)⟩ ⟨a,l,c,O,r.chg (Da ab).hB a4⟩ ⟨X.heap.size,y,z,D,B,Da HY,hz,World.alloc_heap_new X _,Da HV,rfl⟩
 case body=>
  rintro k a' X hk hz ⟨a,l,c,O,r⟩ ⟨Bx,y,z,D,B,J,al,ad,hv,rfl⟩;have aF:=Db ((Da ab).round J r (by omega) hv ad (by omega));have c0:=(r.b0.cell 0).trans (show _=some (Value.pointer (some ⟨pb,0,none⟩)) from rfl);have c1:=(r.b1.cell 0).trans (show _=some (Value.slice a l c) from rfl);have u:=(r.b2.cell 0).trans (show _=some (Value.string (JV ⟨#[]⟩ (L.take k))) from rfl);have d0:=(ad.cell 0).trans (show _=some (Value.string (jn y.ns)) from rfl);have d1:=(ad.cell 1).trans (show _=some (Value.int .u8 (y.k:Nat)) from rfl);have d2:=(ad.cell 2).trans (show _=some (Value.int .i64 (y.f:Nat)) from rfl);have d3:=(ad.cell 3).trans (show _=some (Value.slice z D B) from rfl);clear t4 W hz r al ad hv J hk
  gi_wp2_with (fail)
  refine⟨trivial,?_⟩;refine(CallsIn.inRound _ (callsIn_wide.2 (Da aF))).mono ?_;rintro e W' ⟨a',l',c',rfl,f0,f1,Y1,rfl,g0,g1,g2,HE⟩;clear c0 c1 u d0 d1 d2 d3 aF
  gi_wp2
  obtain⟨⟨O',h1⟩,h2,h3,h4⟩:=Da HE;exact⟨⟨h2.1.size,fun j o _ ho hc=>h4 j o ho hc⟩,⟨by rw[Da ae,aU];exact h2,h3⟩,a',l',c',O',h1⟩
 case done=>
  rintro X hz ⟨a,l,c,O,r⟩ hD;rw[List.take_length]at r;obtain⟨Z,a5,l5,c5,w5,hZ,ap,m0,mZ,m5,aV,nZ,ak⟩:=(Da ab).table r (by omega) hD;have HZ:=Db hZ;clear hZ hD r hz t4 W;show K0 _ _;refine aM _ _ ?_;clear aM
  gi_step
  refine Code.wpIn_mono Qb ?_;refine wpIn_wide.2 ?_;refine wp_region_held_drew (S:=fun V=>V.cell? ⟨w.heap.size,0,none⟩=some (.pointer (some ⟨pb,0,none⟩))) (by kernel_rfl) m0 (fun ag=>?_);refine tk 0 ?_;try simp only[pE];refine wpAnyH_ready (rs:=[1,2]) (by kernel_rfl) (by simp) ?_;refine(AllReadyH.cons (i:=1) rfl ?_ (AllReadyH.cons (i:=2) rfl ?_ AllReadyH.nil))
  ·intro K b;go_simp;refine b.out _ _ ag (fun aw=>?_);clear b K
   (try simp only[pE])
   refine rk 2 (fun K b=>?_);go_simp;rw[show(X.alloc (.cells #[.int .u8 0] 5)).drew=Z from Da HZ];refine b.out _ _ mZ (fun am=>?_);clear b K
   (try simp only[pE])
   refine rk 3 (fun K b=>?_);refine JM rfl _ _ 59 59 rfl _ _ rfl rfl ap ?_;refine b.out _ _ m5 (fun ax=>?_);clear b K
   (try simp only[pE])
   refine rk 4 (fun K b=>?_);go_simp;go_at_call 237;refine(Da ak).mono ?_;rintro e w6 ⟨a',l',c',rfl,d0,d1,d2,d3,ac⟩;go_wp2_with fail;refine b.out _ _ d0 (fun ay=>?_);clear b K
   (try simp only[pE])
   refine rk 5 (fun K b=>?_);go_simp;refine b.out _ _ d3 (fun az=>?_);clear b K
   (try simp only[pE])
   refine wpAnyH_done (by kernel_rfl) ?_ _;refine KU ?_;clear aw am ax ay az ag ap m0 mZ m5 aV nZ d0 d1 d2 d3 ak HZ
   gi_wp2
   gi_loopw [7] (fun i wr=>∃P:Nat,i = .int .i64 (P:Nat)/\Hid (TI w N (w.heap.size+6) pb db sb so tb E M W4.heap.size (Jr E C st0 L) P wr)) (fun i _=>10-(intOf i).toNat)
   case atStart=>exact⟨1,rfl,Da ac⟩
   case round=>
    obtain⟨P,rfl,HR⟩:=hrel;obtain⟨d,st,s,a8,F,f,u,O2,m,Q,aa,v,R⟩:=Da HR;have c0:=(m.b0.cell 0).trans (show _=some (Value.pointer (some ⟨pb,0,none⟩)) from rfl);have c1:=(m.b1.cell 0).trans (show _=some (Value.slice F f u) from rfl);have ah:f=s.size:=by
     obtain⟨g,_,q,_⟩:=m.rs.some (by have:=v.n5;omega);exact q
    have aB:=v.bd;by_cases U:10<s.size
    ·have HC:=Db ((Da ab).index m Q aa v R U);have a6:(10:Int)<(f:Int):=by omega
     clear m Q aa v R HR ah U ac
     gi_wp2_with (fail)
     refine⟨trivial,?_⟩;refine(callsIn_wide.2 (Da HC)).mono ?_;rintro e w7 ⟨a3,l3,c3,rfl,f0,f1,au⟩;clear HC c0 c1
     gi_wp2
     go_roundw
     case rel=>exact⟨P+1,by go_num,Da au⟩
     case measure=>simp[intOf];omega
    ·obtain⟨aD,w8,aj,m8,ar⟩:=(Da ab).top m Q (by have:=Da ae;omega) aa v R U;have a7:¬(10:Int)<(f:Int):=by omega
     have af:=Db aj;clear m Q aa v R HR ah U ac aj aD aB
     gi_wp2
     rw[show wr.alloc (.cells #[.slice F f u] 287)=w8 from Da af];clear af;refine Code.wpIn_mono Qb ?_;refine wpIn_wide.2 ?_;refine wp_region_held_drew (S:=fun V=>V.cell? ⟨w.heap.size,0,none⟩=some (.pointer (some ⟨pb,0,none⟩))) (by kernel_rfl) m8 (fun ag=>?_);refine tk 0 ?_;try simp only[pE];refine rk 1 (fun K b=>?_);go_simp;go_at_call 238;refine(Da ar).mono ?_;rintro e Y ⟨p,x,rfl,p0,p1,p2,p3,p4,p5,aq⟩;go_wp2_with fail;refine b.out _ _ p0 (fun a0=>?_);clear b K
     (try simp only[pE])
     refine tk 2 ?_;try simp only[pE];refine tk 3 ?_;try simp only[pE];refine tk 4 ?_;try simp only[pE];refine rk 5 (fun K b=>?_);go_simp;refine b.out _ _ p5 (fun a1=>?_);clear b K
     (try simp only[pE])
     refine wpAnyH_done (by kernel_rfl) ?_ _;refine KU ?_
     gi_wp2
     obtain⟨av,aA⟩:=Da aq;refine⟨by simp,.inl ⟨_,_,rfl,run_takeDeferred av,?_⟩⟩;exact⟨_,results_none rfl _ _ _,aA⟩
  ·intro K b;go_simp;rw[show(X.alloc (.cells #[.int .u8 0] 5)).drew=Z from Da HZ];refine b.out _ _ mZ (fun am=>?_);clear b K
   (try simp only[pE])
   refine rk 1 (fun K b=>?_);go_simp;refine b.out _ _ am (fun aw=>?_);clear b K
   (try simp only[pE])
   refine rk 3 (fun K b=>?_);refine JM rfl _ _ 59 59 rfl _ _ rfl rfl ap ?_;refine b.out _ _ m5 (fun ax=>?_);clear b K
   (try simp only[pE])
   refine rk 4 (fun K b=>?_);go_simp;go_at_call 237;refine(Da ak).mono ?_;rintro e w6 ⟨a',l',c',rfl,d0,d1,d2,d3,ac⟩;go_wp2_with fail;refine b.out _ _ d0 (fun ay=>?_);clear b K
   (try simp only[pE])
   refine rk 5 (fun K b=>?_);go_simp;refine b.out _ _ d3 (fun az=>?_);clear b K
   (try simp only[pE])
   refine wpAnyH_done (by kernel_rfl) ?_ _;refine KU ?_;clear aw am ax ay az ag ap m0 mZ m5 aV nZ d0 d1 d2 d3 ak HZ
   gi_wp2
   gi_loopw [7] (fun i wr=>∃P:Nat,i = .int .i64 (P:Nat)/\Hid (TI w N (w.heap.size+6) pb db sb so tb E M W4.heap.size (Jr E C st0 L) P wr)) (fun i _=>10-(intOf i).toNat)
   case atStart=>exact⟨1,rfl,Da ac⟩
   case round=>
    obtain⟨P,rfl,HR⟩:=hrel;obtain⟨d,st,s,a8,F,f,u,O2,m,Q,aa,v,R⟩:=Da HR;have c0:=(m.b0.cell 0).trans (show _=some (Value.pointer (some ⟨pb,0,none⟩)) from rfl);have c1:=(m.b1.cell 0).trans (show _=some (Value.slice F f u) from rfl);have ah:f=s.size:=by
     obtain⟨g,_,q,_⟩:=m.rs.some (by have:=v.n5;omega);exact q
    have aB:=v.bd;by_cases U:10<s.size
    ·have HC:=Db ((Da ab).index m Q aa v R U);have a6:(10:Int)<(f:Int):=by omega
     clear m Q aa v R HR ah U ac
     gi_wp2_with (fail)
     refine⟨trivial,?_⟩;refine(callsIn_wide.2 (Da HC)).mono ?_;rintro e w7 ⟨a3,l3,c3,rfl,f0,f1,au⟩;clear HC c0 c1
     gi_wp2
     go_roundw
     case rel=>exact⟨P+1,by go_num,Da au⟩
     case measure=>simp[intOf];omega
    ·obtain⟨aD,w8,aj,m8,ar⟩:=(Da ab).top m Q (by have:=Da ae;omega) aa v R U;have a7:¬(10:Int)<(f:Int):=by omega
     have af:=Db aj;clear m Q aa v R HR ah U ac aj aD aB
     gi_wp2
     rw[show wr.alloc (.cells #[.slice F f u] 287)=w8 from Da af];clear af;refine Code.wpIn_mono Qb ?_;refine wpIn_wide.2 ?_;refine wp_region_held_drew (S:=fun V=>V.cell? ⟨w.heap.size,0,none⟩=some (.pointer (some ⟨pb,0,none⟩))) (by kernel_rfl) m8 (fun ag=>?_);refine tk 0 ?_;try simp only[pE];refine rk 1 (fun K b=>?_);go_simp;go_at_call 238;refine(Da ar).mono ?_;rintro e Y ⟨p,x,rfl,p0,p1,p2,p3,p4,p5,aq⟩;go_wp2_with fail;refine b.out _ _ p0 (fun a0=>?_);clear b K
     (try simp only[pE])
     refine tk 2 ?_;try simp only[pE];refine tk 3 ?_;try simp only[pE];refine tk 4 ?_;try simp only[pE];refine rk 5 (fun K b=>?_);go_simp;refine b.out _ _ p5 (fun a1=>?_);clear b K
     (try simp only[pE])
     refine wpAnyH_done (by kernel_rfl) ?_ _;refine KU ?_
     gi_wp2
     obtain⟨av,aA⟩:=Da aq;refine⟨by simp,.inl ⟨_,_,rfl,run_takeDeferred av,?_⟩⟩;exact⟨_,results_none rfl _ _ _,aA⟩
end
def Zhn(w:World)(db sb so:Nat)(E:Env)(F:By×Pl)(e:Ending)(w':World):Prop:=
 ∃pb O',e = .returned (.pointer (some ⟨pb,0,none⟩))/\w.heap.size<=pb/\F.1.size=10/\Ql w' pb db sb so E F.2 (rdP F.1:Nat) (rdX F.1:Nat) O'/\Below w.heap.size w w'/\∀j,O' j->w.heap.size<=j
def Dh(es:LI)(cl:Bool)(tp:Nat)(D:LY):Env:=⟨Dj es,cl,es,tp,D⟩
theorem ZhR(w:World)(c b so tb rd a:Nat)(cl:Bool)(es:LI)(D:LY)(l:EnvOk (Dh es cl a D))(n:EnvW w w.heap.size c b so (Dh es cl a D))(hj:∃j,j<96/\Dj es j<=0)
  (V:NV) (N:NS) (vi:Value) (G:Gh) (I:LF) (M:IB) (f:LY->List Ek) (A:NV) (H:WkT w tb rd V N vi G I M f A) (C:NB) (aa:ItOk C (DI f))
  (Z:∀y∈DI f,y.k=2->∃a2 l2 c2,A y.f = .slice a2 l2 c2/\Sl w 5 1 (.slice a2 l2 c2) l2 (Dc (C y.f))/\∀g,Own (.slice a2 l2 c2) g->g<w.heap.size):
  Calls Tryz.prog 131 #[.pointer (some ⟨c,0,none⟩),.pointer (some ⟨b,so,none⟩),.pointer (some ⟨tb,0,none⟩),.bool cl] w (Zhn w c b so (Dh es cl a D) (Jr (Dh es cl a D) C ⟨a+1,[],[]⟩ (DI f))):=by
 have ap:a<1536:=l.bt;obtain⟨vb,aj,ag,ao⟩:=n.cb;have F:w.cell? ⟨b,so+1,none⟩=some (.int .i64 (a:Nat)):=n.ct;have ab:b<w.heap.size:=n.sbl;have Q:=Db (Zfn w.drew b so vb es aj ag ⟨l.len,l.srt,l.pl⟩);have P:Hid (∀X,Below w.heap.size w X->∃Y,X.alloc (.cells (J8 c b so (Dj es) cl (a+1) (.slice none 0 0) 0 0 (.slice none 0 0)).toArray 184)=Y/\Y.cell? ⟨b,so+1,none⟩=some (.int .i64 (a:Nat))/\Hid (Calls Tryz.prog 199 #[.pointer (some ⟨X.heap.size,0,none⟩),.pointer (some ⟨tb,0,none⟩)] Y fun e w'=>e = .returned (.tuple #[])/\Hid (Zhn w c b so (Dh es cl a D) (Jr (Dh es cl a D) C ⟨a+1,[],[]⟩ (DI f)) (.returned (.pointer (some ⟨X.heap.size,0,none⟩))) w'))):=fun X s=>by
  obtain⟨Y,r,xY,kY,sY,bY⟩:=De X (J8 c b so (Dj es) cl (a+1) (.slice none 0 0) 0 0 (.slice none 0 0)) 184;have W:=s.size;have d:Below w.heap.size w Y:=s.trans (bY.mono W);have hP:PlanW Y X.heap.size c b so (Dj es) cl (a+1) (.slice none 0 0) [] 0 0 (.slice none 0 0) []:=⟨xY,⟨rfl,.inl ⟨rfl,rfl⟩⟩,SlP.nil _,fun e=>by simp[Own,Value.ownBlock]at e,fun e=>by simp[Own,Value.ownBlock]at e,fun k e=>by simp[Own,Value.ownBlock]at e⟩;have ak:StX w.heap.size X.heap.size c b so (Dh es cl a D) ⟨a+1,[],[]⟩ (fun k=>k=X.heap.size) Y:=by
   refine⟨n.kept (fun k cs t z u e=>(d.block k u).trans e),fun k u=>by omega,d.size,.slice none 0 0,[],.slice none 0 0,hP,fun j k x y _ hx=>by simp at hx,rfl,fun x=>by simp,fun k=>?_⟩;simp[Own,Value.ownBlock]
  refine⟨Y,r,(d.cell (p:=⟨b,so+1,none⟩) ab).trans F,?_⟩;refine(Zlq Y w w.heap.size X.heap.size c b so tb rd (Dh es cl a D) l hj ⟨a+1,[],[]⟩ rfl rfl (by show a+1<=1536;omega) _ ak rfl d V N vi G I M f A H C aa Z).mono ?_;rintro e w' ⟨rfl,af,O',q1,q2,q,q4⟩;refine⟨rfl,X.heap.size,O',rfl,W,af,q1,?_,fun g hg=>by have:=q4 g hg;have:=d.size;omega⟩;exact⟨q.os.trans d.os,q.tape.trans d.tape,q.output.trans d.output,Nat.le_trans d.size q.size,fun k u=>(q.block k (by have:=d.size;omega) (by omega)).trans (d.block k u)⟩
 have O:=Db (Zni c b so (Dj es) cl (a+1));obtain⟨ae,E⟩:∃V,V=Value.agg (ndL (Dj es)).toArray:=⟨_,rfl⟩;obtain⟨T,B⟩:∃L,L=J8 c b so (Dj es) cl (a+1) (.slice none 0 0) 0 0 (.slice none 0 0):=⟨_,rfl⟩;obtain⟨VP,U⟩:∃V,V=Value.agg T.toArray:=⟨_,rfl⟩;rw[<-E,<-B]at O;rw[<-E]at Q;rw[<-B]at P;have R:=Db U;clear E B U;have HC:Hid (∀X,Below w.heap.size w X->X.cell? ⟨b,so+1,none⟩=some (.int .i64 (a:Nat))):=fun X s=>(s.cell (p:=⟨b,so+1,none⟩) ab).trans F
 clear H aa Z l n hj;go_enter Tryz.func131,Tryz.ntmps131;go_upto_region 1 with fail;refine wp_region_held_drew (S:=fun X=>X.cell? ⟨b,so+1,none⟩=some (.int .i64 (a:Nat))) (by kernel_rfl) F (fun an=>?_);refine tk 0 ?_;try simp only[pE];refine tk 1 ?_;try simp only[pE];refine tk 2 ?_;try simp only[pE];refine tk 4 ?_;try simp only[pE];refine tk 5 ?_;try simp only[pE];refine tk 6 ?_;try simp only[pE];refine tk 7 ?_;try simp only[pE];refine tk 8 ?_;try simp only[pE];refine tk 9 ?_;try simp only[pE];refine wpAnyH_take (i:=10) (v := .int .i64 ((a+1:Nat):Int)) rfl (by kernel_rfl) (by kernel_rfl) (by kernel_rfl) (fun _ _ _ h=>h) (Or.inl ⟨by rfl,?_⟩) (by assumption) ?_
 ·intro w ah;(try dsimp only at ah);go_simp;rw[IntKind.wrap_i64];omega
 (try simp only[pE])
 refine rk 3 (fun K o=>?_);go_simp;go_at_call 198;refine(Da Q).mono ?_;rintro e X ⟨rfl,m⟩;have J:Below w.heap.size w X:=⟨m.os,m.tape,m.output,m.size,m.block⟩;have ai:=Da HC X J;obtain⟨Y,r,cY,ad⟩:=Da P X J;have ac:=Db r;clear m J r;go_wp2_with fail;refine o.out _ _ ai (fun am=>?_);clear o K
 (try simp only[pE])
 refine wpAnyH_take (i:=11) (v:=VP) rfl (by kernel_rfl) (by kernel_rfl) (by kernel_rfl) (fun _ _ _ h=>h) (Or.inl ⟨by rfl,fun V _=>?_⟩) (by assumption) ?_
 ·rw[Da R];exact Zeo V 184 _ rfl (vs := #[(0,.pointer (some ⟨c,0,none⟩)),(1,.pointer (some ⟨b,so,none⟩)),(2,ae),(3,.bool cl),(4,.int .i64 ((a+1:Nat):Int))]) (by simp[Act.eval]) (Da O)
 (try simp only[pE])
 refine rk 12 (fun K o=>?_);refine ZmA rfl 184 _ rfl T (Da R) ?_;rw[Da ac];refine o.out _ _ cY (fun al=>?_);clear o K
 (try simp only[pE])
 refine tk 13 ?_;try simp only[pE];refine wpAnyH_done (by kernel_rfl) ?_ _;go_wp2_with (go_at_call 199;refine(Da ad).mono ?_;rintro e w' ⟨rfl,HP⟩);go_ret;exact Da HP
def ZnR(w:World)(stb db:Nat)(vk:Value)(tp tx tn:Int)(vf vn vw ve:Value)(D:LY)(ps:LB)(es:List Int)(e:Ending)(w':World):Prop:=
 e = .returned (.tuple #[])/\∃ve',StW w' stb db vk tp tx tn vf vn vw ve' D ps (es++[((ps.length:Nat):Int)])/\Dk w ve ve'/\Fr (fun k=>k=db\/Own ve k) w w'
theorem Zkw(w:World)(c a pb:Nat)(n:Value)(l m k:Int)(g f vw d:Value)(D:LY)(ps:LB)(es:List Int)(h:StW w c a n l m k g f vw d D ps es)
  (B J so:Nat) (H:Nat->Int) (cl:Bool) (E:Nat) (M:Value) (C:LI) (K L:Int) (O:Value) (b:PlanW w pb B J so H cl E M C K L O []) (F:es.length<=999999998) (q:¬StO c a f vw d pb):
  Calls Tryz.prog 133 #[.pointer (some ⟨c,0,none⟩),.pointer (some ⟨pb,0,none⟩)] w (ZnR w c a n l m k g f vw d D ps es):=by
 obtain⟨z,lp,A,rfl⟩:=Sl.shape b.sp;have r:=Sl.len b.sp;simp only[List.length_nil]at r;subst r;have ab:=b.cells.2.2.2.2.2.2;have aa:=(h.row.cell 0).trans (show _=some (Value.pointer (some ⟨a,0,none⟩)) from rfl);obtain⟨o,t,p,rfl⟩:=Sl.shape h.sw;have j:=Sl.len h.sw;have x:Hid (Calls Tryz.prog 200 #[.pointer (some ⟨a,0,none⟩)] w fun e w'=>e = .returned (.tuple #[])/\w'.cell? ⟨pb,103,none⟩=some (.slice z 0 A)/\Hid (ZnR w c a n l m k g f (.slice o t p) d D ps es (.returned (.tuple #[])) w')):=by
  refine(Zem w a g f d o t p h.disk.1 es h.se h.nd.2.2 (by omega)).mono ?_;intro e w' s;obtain⟨N,u,I,v⟩:=h.flush s;have G:RowIs w' pb 184 _:=b.row.fr v (fun e=>q (e.elim (fun e => .inr (.inl e)) (fun e => .inr (.inr (.inr (.inr e))))));rw[j]at u;exact⟨s.1,(G.cell 103).trans (Jz _ _ _ _ _ _ _ _ _ _ 5),rfl,N,j ▸ u,I,v⟩
 clear h b F q j;go_enter Tryz.func133,Tryz.ntmps133;go_wp2
 go_loopw [11] (fun i wr=>i = .int .i64 0/\wr=w) (fun i _=>0)
 case atStart=>exact⟨rfl,rfl⟩
 case round=>
  obtain⟨rfl,rfl⟩:=hrel;go_wp2_with (go_at_call 200;refine(Da x).mono ?_;rintro e w3 ⟨rfl,m1,y⟩);refine bodyPost_ret (results_none rfl _ _ _) rfl ?_;exact Da y
theorem Env.puts_ind{E:Env}{Q:Pl->Prop}(b:∀st r s,s.size=64->Q st->Q (E.put st r s).2)(R:Nat->Nat)(B:NB)(a:∀x,(B x).size=64):∀(st:Pl) (i:Nat) (xs:List Nat),Q st->Q (E.puts R B st i xs)
 | _,_,[],h=>h
 | st,i,x::xs,h=>Env.puts_ind b R B a _ (i+1) xs (b st (R i) (B x) (a x) h)
theorem Zjf{E:Env}{Q:Pl->Prop}(a:∀st r s,s.size=64->Q st->Q (E.put st r s).2)(C:NB):∀(last:By) (st:Pl) (xs:List It),Q st->Q (Dw E C last st xs).2
 | _,_,[],h=>h
 | last,st,x::xs,h=>by
  refine Zjf a C (jn x.ns) _ xs ?_;unfold Dx
  split
  ·exact h
  ·split
   ·exact h
   ·exact Env.puts_ind a _ _ (fun x=>Qd _ x) _ _ _ h
theorem ZjA{E:Env}{Q:Pl->Prop}(a:∀st r s,s.size=64->Q st->Q (E.put st r s).2):∀(d below:Nat) (st:Pl) (s:By),Q st->Q (DF E d below st s).2
 | 0,_,_,_,h=>h
 | d+1,below,st,s,h=>by
  unfold DF
  split
  ·exact ZjA a d _ _ _ (Env.puts_ind a _ _ (fun x=>KY _ _ _ x) _ _ _ h)
  ·exact h
theorem Zfu{E:Env}{Q:Pl->Prop}(a:∀st r s,s.size=64->Q st->Q (E.put st r s).2)(C:NB)(st:Pl)(L:List It)(h:Q st):Q (Jr E C st L).2:=
 ZjA a _ _ _ _ (Env.puts_ind a _ _ (fun x=>KY _ _ _ x) _ _ _ (Zjf a C _ _ _ h))
def PlOk(st:Pl):Prop:=(∀y∈st.puts,y.2<1536)/\∀x∈st.ps,x.1<1536/\x.2.size=64
theorem PlOk.put{E:Env}(c:EnvOk E)(st:Pl)(r:Nat)(s:By)(d:s.size=64)(h:PlOk st):PlOk (E.put st r s).2:=by
 refine⟨fun y b=>?_,fun x a=>?_⟩
 ·rw[Env.put_puts]at b;rcases List.mem_append.1 b with q|q
  ·exact h.1 y q
  ·rw[List.mem_singleton.1 q];exact c.place_lt st r s
 ·unfold Env.put at a
  split at a
  ·exact h.2 x a
  ·rcases List.mem_append.1 a with q|q
   ·exact h.2 x q
   ·rw[List.mem_singleton.1 q];exact⟨Nat.mod_lt _ (by decide),d⟩
theorem ZlJ(E:Env):∀(d below:Nat) (st:Pl) (s:By),IdxN d below st s->∃below',below'<=9/\IdxN (9-below') below' (DF E d below st s).2 (DF E d below st s).1/\(DF E d below st s).1.size=10
 | 0,below,st,s,h=>⟨below,by have:=h.bd;omega,by have:=h.bd;rw[show 9-below=0 by omega];exact h,by have:=h.n4;have:=h.n5;simp at *;show s.size=10;omega⟩
 | d+1,below,st,s,h=>by
  unfold DF
  split
  ·rename_i a;obtain⟨d',e,b,_⟩:=h.next a E
   cases e
   exact ZlJ E d _ _ _ b
  ·rename_i a;refine⟨below,by have:=h.bd;omega,by have:=h.bd;rw[show 9-below=d+1 by omega];exact h,?_⟩;have:=h.n5;show s.size=10;omega
theorem Zje{C:NB}{L:List It}(b:ItOk C L)(E:Env)(st0:Pl)(o:st0.puts=[])(p:st0.ps=[])(r:st0.hd<=1536):
  IdxN 8 1 (Dy E 3 63 0 (Dw E C ⟨#[]⟩ st0 L).2 ((Dw E C ⟨#[]⟩ st0 L).1++⟨#[0]⟩)).2 (Dy E 3 63 0 (Dw E C ⟨#[]⟩ st0 L).2 ((Dw E C ⟨#[]⟩ st0 L).1++⟨#[0]⟩)).1:=by
 obtain⟨t1,i,k,d,l⟩:=Qc E C ⟨#[]⟩ st0 L (fun z c=>⟨b.path z c,b.size z c,b.kind z c⟩);rw[o]at i l;rw[p]at k;have d:=d r;have aa:=b.len;simp only[List.length_nil]at i k;generalize (Dw E C ⟨#[]⟩ st0 L).2=st at *
 generalize (Dw E C ⟨#[]⟩ st0 L).1=s at *
 obtain⟨a,e⟩:∃a:By,a=s++⟨#[0]⟩:=⟨_,rfl⟩;have t:a.size=s.size+1:=by rw[e];exact ByteArray.size_append
 rw[<-e];obtain⟨g,h,w⟩:=Env.puts_len E (Dd 3 0) (Dv 3 a 63) st 0 (List.range ((a.size+63-1)/63));rw[List.length_range]at g h;have f:=QO E 3 63 0 st a;have m:(Dy E 3 63 0 st a).2.puts.length=st.puts.length+(a.size+63-1)/63:=g;have n:(Dy E 3 63 0 st a).2.ps.length<=st.ps.length+(a.size+63-1)/63:=h;rw[t]at m n f;refine⟨rfl,fun y v=>?_,by omega,by omega,w d,by omega,by omega,_,f⟩;rcases Env.puts_mem E _ _ st 0 _ y v with q|⟨j,_,A,B⟩
 ·rcases l y q with q|⟨x,u,_,j,hj,q⟩
  ·cases q
  ·exact⟨4,x.f,j,q,by omega,.inl ⟨rfl,b.num x u⟩⟩
 ·rw[List.length_range]at A;exact⟨3,0,j,B,by omega,.inr (.inl ⟨rfl,rfl⟩)⟩
structure ZoW(F:By×Pl):Prop where
 pl:PlOk F.2
 n1:F.2.puts.length<=8000
 n2:F.2.ps.length<=8000
 n3:F.1.size=10
 pk:PutsK 9 F.2
theorem Qz{C:NB}{L:List It}(l:ItOk C L)(E:Env)(k:EnvOk E)(a:Nat)(j:a<=1536):ZoW (Jr E C ⟨a,[],[]⟩ L):=by
 obtain⟨b,hb,c,d⟩:=ZlJ E 8 1 _ _ (Zje l E ⟨a,[],[]⟩ rfl rfl j);have i1:=c.n1;have i2:=c.n2;refine⟨Zfu (Q:=PlOk) (fun st r s d h=>h.put k st r s d) C _ L ⟨fun y g=>(by cases g),fun x m=>(by cases m)⟩,?_,?_,d,fun y g=>?_⟩
 ·show(DF E 8 1 _ _).2.puts.length<=_;omega
 ·show(DF E 8 1 _ _).2.ps.length<=_;omega
 ·obtain⟨kk,f,i,e,n,o⟩:=c.pk y g;exact⟨kk,f,i,e,n,o.imp id (fun e=>e.imp id (fun e=>⟨e.1,by omega⟩))⟩
def EsOf(puts:List (Nat×Nat))(es:LI):Prop:=SrtR es/\es.length=puts.length/\∀x,x∈es↔∃y∈puts,x=((y.1:Int),(y.2:Int))
theorem EsOf.places{a:List (Nat×Nat)}{es:LI}(h:EsOf a es)(b:a.length<=10000)(c:∀y∈a,y.2<1536):Uc es:=
 ⟨by rw[h.2.1];exact b,h.1,fun x d=>by
  obtain⟨y,e,rfl⟩:=(h.2.2 x).1 d;exact⟨y.2,rfl,c y e⟩⟩
theorem SrtR.nodup{es:LI}(h:SrtR es):es.Nodup:=by
 rw[List.nodup_iff_pairwise_ne,List.pairwise_iff_getElem];intro i j a c b e;have:=h i j es[i] es[j] b (List.getElem?_eq_getElem a) (List.getElem?_eq_getElem c);rw[e]at this;unfold ltI at this;simp at this
theorem ZbW{α : Type}:∀(J K:List α),J.Nodup->(∀x∈J,x∈K)->K.length<=J.length->List.Perm J K
 | [],K,_,_,hl=>by
  have:K=[]:=List.eq_nil_of_length_eq_zero (by simpa using hl);rw[this]
 | a::J,K,hnd,hs,hl=>by
  rw[List.nodup_cons]at hnd;obtain⟨s,t,rfl⟩:=List.append_of_mem (hs a (by simp));have ih:=ZbW J (s++t) hnd.2 (fun x b=>by
   have:=hs x (by simp[b]);rcases List.mem_append.1 this with h|h
   ·exact List.mem_append_left _ h
   ·rcases List.mem_cons.1 h with rfl|h
    ·exact absurd b hnd.1
    ·exact List.mem_append_right _ h) (by simp at hl ⊢;omega)
  exact(ih.cons a).trans List.perm_middle.symm
theorem EsOf.perm{a:List (Nat×Nat)}{es:LI}(h:EsOf a es):List.Perm es (a.map (fun y=>((y.1:Int),(y.2:Int)))):=
 ZbW _ _ h.1.nodup (fun x b=>by obtain⟨y,c,rfl⟩:=(h.2.2 x).1 b;exact List.mem_map.2 ⟨y,c,rfl⟩) (by rw[List.length_map,h.2.1];exact Nat.le_refl _)
def ndP(puts:List (Nat×Nat))(j:Nat):Int:=(if j=0 then 2 else 0)+(puts.countP (fun y=>y.2/16==j):Nat)
theorem EsOf.nd{a:List (Nat×Nat)}{es:LI}(h:EsOf a es):Dj es=ndP a:=by
 funext j
 unfold Dj ndP;rw[h.perm.countP_eq,List.countP_map]
 rfl
end Go.Proofs.YtaieidcohdhgpaaGreatDoor
