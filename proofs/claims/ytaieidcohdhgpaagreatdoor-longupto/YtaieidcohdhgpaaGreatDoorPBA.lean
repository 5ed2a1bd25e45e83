/- Long. -/
import Derived.Test.YtaieidcohdhgpaaGreatDoorPAZ
namespace Go.Proofs.YtaieidcohdhgpaaGreatDoor
set_option maxHeartbeats 8000000
set_option maxRecDepth 100000
open Go.RowKit
def itV(s:By)(k:Nat)(f:Int)(vd:Value):Value := .agg #[.string s,.int .u8 k,.int .i64 f,vd]
def JW(S:Nat->Bool):LVa:=(List.range 60).map (fun j => .bool (S j))
theorem ZcC(S:Nat->Bool):(JW S).length=60:=by simp[JW]
theorem QY(S:Nat->Bool)(j:Nat)(h:j<60):(JW S)[j]?=some (.bool (S j)):=by simp[JW,h]
theorem Zky(S:Nat->Bool)(j:Nat)(h:j<60):(JW S).set j (.bool true)=JW (fun k=>if k=j then true else S k):=by
 apply List.ext_getElem?;intro k;by_cases a:k<60
 ·rw[QY _ k a];by_cases e:j=k
  ·subst e;rw[List.getElem?_set_self (by rw[ZcC];exact h)];simp
  ·rw[List.getElem?_set_ne e,QY _ k a,if_neg (fun b=>e b.symm)]
 ·rw[List.getElem?_eq_none (by rw[List.length_set,ZcC];omega),List.getElem?_eq_none (by rw[ZcC];omega)]
theorem ZmA(w:World)(t q:OA)(s:By)(a:Addr)(n:Int):
  Calls Tryz.prog 218 #[.pointer t,.string s,.agg #[.pointer (some a),.int .i64 n],.pointer q] w fun e w'=>e = .returned (itV s 1 0 (.slice none 0 0))/\Below w.heap.size w w':=by
 obtain⟨d,i,m,x,l,f⟩:=De w [.pointer (some a),.int .i64 n] 260;obtain⟨h,j,b,k,C,g⟩:=De d [.string ⟨#[]⟩,.int .u8 0,.int .i64 0,.slice none 0 0] 141;have r:Below w.heap.size w h:=f.trans (g.mono (by omega));have c0:=(k _ _ _ m).cell 0;rw[l]at b;have u:w.heap.size<=w.heap.size+1:=by omega
 have o:=Db i;have p:=Db j;clear i j m x l f k C g;go_enter Tryz.func218,Tryz.ntmps218;go_upto_region 1 with fail;rw[show w.alloc (.cells #[.pointer (some a),.int .i64 n] 260)=d from Da o,show d.alloc (.cells #[.string ⟨#[]⟩,.int .u8 0,.int .i64 0,.slice none 0 0] 141)=h from Da p];have b0:=b.cell 0;have f:=b.cell 1;have g:=b.cell 2;have b3:=b.cell 3;have g0:=b.frozen 0;have g1:=b.frozen 1;have g2:=b.frozen 2;have g3:=b.frozen 3;go_wp2;have c:=Kg b (.string s) (.int .u8 1) (.int .i64 0) (.slice none 0 0);have y:=c.cell 0;have z:=c.cell 1;have A:=c.cell 2;have B:=c.cell 3;exact bodyPost_ret (v:=itV s 1 0 (.slice none 0 0)) (by simp[results,Tryz.results218,go_sem,y,z,A,B,itV]) rfl ⟨rfl,Qg r u _ _ _ _⟩
theorem Zk7(w:World)(t:OA)(s:By)(n:Nat)(B:n<60)(j:Nat)(S:Nat->Bool)(o:RowIs w j 245 (JW S))(y:S n=true):
  Calls Tryz.prog 218 #[.pointer t,.string s,.agg #[.pointer none,.int .i64 (n:Nat)],.pointer (some ⟨j,0,none⟩)] w fun e w'=>e = .returned (itV s 3 (n:Nat) (.slice none 0 0))/\Below w.heap.size w w':=by
 obtain⟨g,l,k,p,q,h⟩:=De w [.pointer none,.int .i64 (n:Nat)] 260;obtain⟨b,m,r,f,G,i⟩:=De g [.string ⟨#[]⟩,.int .u8 0,.int .i64 0,.slice none 0 0] 141;have c:Below w.heap.size w b:=h.trans (i.mono (by omega));have c0:=(f _ _ _ k).cell 0;have c1:=(f _ _ _ k).cell 1;have ab:b.cell? ⟨j,n,none⟩=some (.bool true):=((f _ _ _ (p _ _ _ o)).cell n).trans (by rw[QY _ _ B,y]);rw[q]at r;have A:w.heap.size<=w.heap.size+1:=by omega
 have aa:(n:Int)<60:=by omega
 have u:=Db l;have x:=Db m;clear l m k p q h f G i o;go_enter Tryz.func218,Tryz.ntmps218;go_upto_region 1 with fail;rw[show w.alloc (.cells #[.pointer none,.int .i64 (n:Nat)] 260)=g from Da u,show g.alloc (.cells #[.string ⟨#[]⟩,.int .u8 0,.int .i64 0,.slice none 0 0] 141)=b from Da x];go_upto_region 3 with fail
 go_quiet (fail)
 have a:RowIs (b.drewN nq) (w.heap.size+1) 141 _:=r;have b0:=a.cell 0;have h:=a.cell 1;have i:=a.cell 2;have b3:=a.cell 3;have g0:=a.frozen 0;have g1:=a.frozen 1;have g2:=a.frozen 2;have g3:=a.frozen 3;go_wp2;have d:=Kg a (.string s) (.int .u8 3) (.int .i64 (n:Nat)) (.slice none 0 0);have C:=d.cell 0;have D:=d.cell 1;have E:=d.cell 2;have F:=d.cell 3;have z:Below w.heap.size w (b.drewN nq):=⟨c.os,c.tape,c.output,c.size,c.block⟩;exact bodyPost_ret (v:=itV s 3 (n:Nat) (.slice none 0 0)) (by simp[results,Tryz.results218,go_sem,C,D,E,F,itV]) rfl ⟨rfl,Qg z A _ _ _ _⟩
def Zm7(w:World)(s:By)(n:Nat)(qb:Nat)(S:Nat->Bool)(vd:Value)(e:Ending)(w':World):Prop:=
 e = .returned (itV s 2 (n:Nat) vd)/\RowIs w' qb 245 (JW (fun k=>if k=n then true else S k))/\Fr (fun k=>k=qb) w w'
theorem Zk8(w:World)(tb rd:Nat)(V:NV)(E:NS)(vi:Value)(G:Gh)(I:LF)(C:IB)(_h:TW w tb rd V E vi G I C)(ax:I.length<=10000)(s:By)(n:Nat)(R:n<60)(r:VF)(ak:((n:Int),r)∈I)(c:Nat)(S:Nat->Bool)(T:RowIs w c 245 (JW S))(hS:S n=false)(_hqt:c≠tb)(ag:∀w',Fr (fun k=>k=c) w w'->TW w' tb rd V E vi G I C):
  Calls Tryz.prog 218 #[.pointer (some ⟨tb,0,none⟩),.string s,.agg #[.pointer none,.int .i64 (n:Nat)],.pointer (some ⟨c,0,none⟩)] w (Zm7 w s n c S (.slice r.a r.l r.c)):=by
 obtain⟨N,e1,x1,k1,s1,O⟩:=De w [.pointer none,.int .i64 (n:Nat)] 260;obtain⟨f,e2,x2,Z,s2,P⟩:=De N [.string ⟨#[]⟩,.int .u8 0,.int .i64 0,.slice none 0 0] 141;have D:Below w.heap.size w f:=O.trans (P.mono (by omega));have aK:=T.lt;have u:=Z _ _ _ x1;have L:=Z _ _ _ (k1 _ _ _ T);have c0:=u.cell 0;have c1:=u.cell 1;have aF:f.cell? ⟨c,n,none⟩=some (.bool false):=(L.cell n).trans (by rw[QY _ _ R,hS]);have aE:f.frozen? ⟨c,n,none⟩=false:=L.frozen n;rw[s1]at x2;have aI:w.heap.size<=w.heap.size+1:=by omega
 have aJ:(n:Int)<60:=by omega
 have aa:Hid (∀d:World,d.heap=f.heap->d.os=f.os->d.tape=f.tape->d.output=f.output->d.cell? ⟨w.heap.size,1,none⟩=some (.int .i64 (n:Nat))/\d.cell? ⟨c,n,none⟩=some (.bool false)/\d.frozen? ⟨c,n,none⟩=false/\∃a,d.setCell ⟨c,n,none⟩ (.bool true)=a/\RowIs a w.heap.size 260 [.pointer none,.int .i64 (n:Nat)]/\RowIs a (w.heap.size+1) 141 [.string ⟨#[]⟩,.int .u8 0,.int .i64 0,.slice none 0 0]/\Hid (∀W,Below a.heap.size a W->Calls Tryz.prog 175 #[.pointer (some ⟨tb,1,none⟩),.int .i64 (n:Nat)] W fun e w'=>e = .returned (.tuple #[.agg #[.slice r.a r.l r.c,.int .i64 r.f],.bool true])/\Below W.heap.size W w')/\Hid (Fr (fun k=>k=c) w a)/\Hid (RowIs a c 245 (JW (fun k=>if k=n then true else S k)))):=fun d y ho ht hu=>by
  have U:RowIs d c 245 (JW S):=by unfold RowIs;rw[y];exact L
  have am:RowIs d w.heap.size 260 [.pointer none,.int .i64 (n:Nat)]:=by unfold RowIs;rw[y];exact u
  have aH:RowIs d (w.heap.size+1) 141 [.string ⟨#[]⟩,.int .u8 0,.int .i64 0,.slice none 0 0]:=by unfold RowIs;rw[y];exact x2
  have l:Fr (fun k=>k=c) w (d.setCell ⟨c,n,none⟩ (.bool true)):=
   Fr.set (X:=fun k=>k=c) (w':=d) ⟨ho.trans D.os,ht.trans D.tape,hu.trans D.output,by rw[y];exact D.size,fun k F _=>by rw[y];exact D.block k F⟩ ⟨c,n,none⟩ _ rfl
  refine⟨(am.cell 1).trans rfl,(U.cell n).trans (by rw[QY _ _ R,hS]),U.frozen n,_,rfl,(Below.heap_setCell _ _ _ _ (show w.heap.size≠c by omega)).trans am,(Below.heap_setCell _ _ _ _ (show w.heap.size+1≠c by omega)).trans aH,?_,l,?_⟩
  ·exact fun W B=>KY W tb rd V E vi G I C (ag W ⟨B.os.trans l.os,B.tape.trans l.tape,B.output.trans l.output,Nat.le_trans l.size B.size,fun k F aA=>(B.block k (Nat.lt_of_lt_of_le F l.size)).trans (l.block k F aA)⟩) ax n r ak
  ·show RowIs _ _ _ _;rw[<-Zky S n R];exact RowIs.set U n (.bool true)
 have ao:=Db e1;have ap:=Db e2;clear e1 e2 x1 k1 s1 O Z s2 P _h ag ak T L x2 u;go_enter Tryz.func218,Tryz.ntmps218;go_upto_region 1 with fail;rw[show w.alloc (.cells #[.pointer none,.int .i64 (n:Nat)] 260)=N from Da ao,show N.alloc (.cells #[.string ⟨#[]⟩,.int .u8 0,.int .i64 0,.slice none 0 0] 141)=f from Da ap];go_upto_region 3 with fail
 go_quiet (fail)
 obtain⟨Wq,q⟩:∃X,X=f.drewN nq:=⟨_,rfl⟩;rw[<-q];obtain⟨Q,dn,df,a,ah,x,z2,ab,aq,ac⟩:=Da aa Wq.drew (by rw[q];rfl) (by rw[q];rfl) (by rw[q];rfl) (by rw[q];rfl);clear q;have ad:=Db ah;have an:=x;clear ah aa aF aE c0 c1;go_upto_region 5 with fail;refine wp_region_held_drew (S:=fun X=>X.cell? ⟨w.heap.size,1,none⟩=some (.int .i64 (n:Nat))) (by kernel_rfl) Q (fun aw=>?_);refine tk 0 ?_;try simp only[pE];refine tk 1 ?_;try simp only[pE];refine tk 2 ?_;try simp only[pE];refine tk 3 ?_;try simp only[pE];refine tk 4 ?_;try simp only[pE];refine rk 5 (fun K hK=>?_);go_simp;rw[show(Wq.setCell ⟨c,n,none⟩ (.bool true)).drew=a from Da ad];refine hK.out _ _ ((x.cell 1).trans rfl) (fun av=>?_);clear hK K
 (try simp only[pE])
 refine wpAnyH_done (by kernel_rfl) ?_ _;have a0:=x.cell 0;have a1:=x.cell 1;have az:w.heap.size+1<a.heap.size:=z2.lt;have aB:¬a.heap.size=w.heap.size:=by omega
 have aC:¬w.heap.size=a.heap.size:=by omega
 clear x Q dn df aw av ad;go_upto_region 6 with fail
 go_region_held3 (fun W=>W.cell? ⟨w.heap.size,1,none⟩=some (.int .i64 (n:Nat))) (go_keep)
  (first|(go_at_call 175;refine(Da ab _ (by first|exact(Below.refl _ a).drew|exact((Below.refl _ a).drew).alloc (Nat.le_refl _) _|exact((Below.refl _ a).alloc (Nat.le_refl _) _).drew)).mono ?_;rintro e w' ⟨rfl,J⟩;have t:Below a.heap.size a w':=(by first|exact((Below.refl _ a).drew).trans (J.mono (by simp))|exact(((Below.refl _ a).alloc (Nat.le_refl _) _).drew).trans (J.mono (by simp)));have m0:=(t.cell (p:=⟨w.heap.size,1,none⟩) (by show w.heap.size<a.heap.size;omega)).trans a1;(try(have z:RowIs w' a.heap.size 217 [.slice none 0 0,.int .i64 0]:=(J.block a.heap.size (by simp)).trans (Jb a [.slice none 0 0,.int .i64 0] 217);have z0:=z.cell 0;have x:=z.cell 1;have aL:=z.frozen 0;have aM:=z.frozen 1))))
 case' refine_2.refine_3.refine_3.refine_3.refine_3.refine_3.refine_1.refine_2.refine_3.refine_3.refine_3.refine_1.refine_2.refine_1.refine_2.refine_3=>
  obtain⟨g,A,m,ay,aG,ai⟩:=De w' [.slice r.a r.l r.c,.int .i64 r.f] 217;rw[A];have j:Below a.heap.size a g:=t.trans (ai.mono t.size);have ae:a.heap.size<=w'.heap.size:=t.size;obtain⟨M,o⟩:∃b,b=w'.heap.size:=⟨_,rfl⟩;rw[<-o]at m ae ⊢;clear A ay aG ai o
 case' refine_2.refine_3.refine_3.refine_3.refine_3.refine_3.refine_2.refine_1.refine_2.refine_1.refine_2.refine_3.refine_3.refine_3.refine_1.refine_2.refine_3=>
  have m:RowIs ((w'.setCell ⟨a.heap.size,0,none⟩ (.slice r.a r.l r.c)).setCell ⟨a.heap.size,1,none⟩ (.int .i64 r.f)) a.heap.size 217 [.slice r.a r.l r.c,.int .i64 r.f]:=by
   have:=(z.set 0 (.slice r.a r.l r.c)).set 1 (.int .i64 r.f)
   simpa using this
  have j:Below a.heap.size a ((w'.setCell ⟨a.heap.size,0,none⟩ (.slice r.a r.l r.c)).setCell ⟨a.heap.size,1,none⟩ (.int .i64 r.f)):=(t.setCell (p:=⟨a.heap.size,0,none⟩) (Nat.le_refl _) _).setCell (p:=⟨a.heap.size,1,none⟩) (Nat.le_refl _) _;obtain⟨g,A⟩:∃g,(w'.setCell ⟨a.heap.size,0,none⟩ (.slice r.a r.l r.c)).setCell ⟨a.heap.size,1,none⟩ (.int .i64 r.f)=g:=⟨_,rfl⟩;rw[A]at m j ⊢;obtain⟨M,o⟩:∃b,b=a.heap.size:=⟨_,rfl⟩;have ae:a.heap.size<=M:=by omega
  rw[<-o]at m;rw[show(Value.pointer (some { block:=a.heap.size,off:=0 }))=Value.pointer (some { block:=M,off:=0 }) by rw[o]];clear A o
 all_goals
  have i:RowIs g (w.heap.size+1) 141 [.string ⟨#[]⟩,.int .u8 0,.int .i64 0,.slice none 0 0]:=(j.block _ az).trans z2;have u:RowIs g w.heap.size 260 [.pointer none,.int .i64 (n:Nat)]:=(j.block _ an.lt).trans an;have al:RowIs g c 245 _:=(j.block _ (Da ac).lt).trans (Da ac);have aj:Fr (fun k=>k=c) w g:=(Da aq).then (Fr.of_below (X:=fun _=>False) j) (fun _ _ e=>e.elim);have au:=Db al;have ar:=Db aj;have b0:=i.cell 0;have O:=i.cell 1;have P:=i.cell 2;have b3:=i.cell 3;have f0:=i.frozen 0;have f1:=i.frozen 1;have f2:=i.frozen 2;have f3:=i.frozen 3;have c0:=m.cell 0;have c1:=m.cell 1;have Q:=u.cell 1;clear aB aC J t m0 j ab m al aj;go_wp2;have H:=Kg i (.string s) (.int .u8 2) (.int .i64 (n:Nat)) (.slice r.a r.l r.c);have r0:=H.cell 0;have r1:=H.cell 1;have r2:=H.cell 2;have r3:=H.cell 3;have aD:c≠w.heap.size+1:=by omega
  have af:=((((Fr.refl (fun k=>k=w.heap.size+1) g).set ⟨w.heap.size+1,0,none⟩ (.string s) rfl).set ⟨w.heap.size+1,1,none⟩ (.int .u8 2) rfl).set ⟨w.heap.size+1,2,none⟩ (.int .i64 (n:Nat)) rfl).set ⟨w.heap.size+1,3,none⟩ (.slice r.a r.l r.c) rfl;exact bodyPost_ret (v:=itV s 2 (n:Nat) (.slice r.a r.l r.c)) (by simp[results,Tryz.results218,go_sem,r0,r1,r2,r3,itV]) rfl ⟨rfl,(RowIs.fr (Da au) (X:=fun k=>k=w.heap.size+1) af aD),(Da ar).then (Y:=fun k=>k=w.heap.size+1) af (fun k F e=>by omega)⟩
open Go.RowKit Go.Shelf
theorem Chg.fr{B a:Nat}{A b:World}(h:Fr (fun k=>k=a) A b)(f:B<=a){c:Array Value}{t:TypeId}{d:Nat×Nat}(ho:A.heap[a]?=some (.cells c t d))(j:TT t=true):Chg B A b:=
 ⟨some a,⟨h.os,h.tape,h.output,h.size,fun k g i=>h.block k g (fun e=>i (by rw[e]))⟩,fun r e=>by cases e;exact⟨f,_,ho,.inr ⟨_,_,_,rfl,j⟩⟩⟩
theorem jn_le:∀(ns:LY),Nms ns->(jn ns).size<=13*ns.length
 | [],_=>by simp[Zk4,jl]
 | n::ns,h=>by
  have ih:=jn_le ns (fun m b=>h m (List.mem_cons_of_mem _ b));have h1:n.size<=12:=by
   have:=h n (by simp);unfold DQ at this;simp only[Bool.and_eq_true,decide_eq_true_eq]at this;exact this.1.2
  rw[Zk4]at ih ⊢;rw[KU];have a:n.data.toList.length=n.size:=Array.length_toList;simp only[List.length_append,List.length_cons,a];omega
theorem Zn9(ns:LY)(n:By):jn (ns++[n])=jn ns++⟨#[47]⟩++n:=Q2 (by
 rw[Qp,Zk6,Zk5,ByteArray.data_append,Array.toList_append,ByteArray.data_append,Array.toList_append,Qp];simp)
theorem Zmz(a:NV)(ns:LY):J9 a ⟨ns,1,0⟩ = .agg #[.string (jn ns),.int .u8 1,.int .i64 0,.slice none 0 0]:=rfl
theorem ZhF(a:NV)(ns:LY)(f:Nat):J9 a ⟨ns,2,f⟩ = .agg #[.string (jn ns),.int .u8 2,.int .i64 (f:Nat),a f]:=rfl
theorem ZhE(a:NV)(ns:LY)(f:Nat):J9 a ⟨ns,3,f⟩ = .agg #[.string (jn ns),.int .u8 3,.int .i64 (f:Nat),.slice none 0 0]:=rfl
theorem Zoc(s:By)(v:Value):itV s 1 0 v = .agg #[.string s,.int .u8 1,.int .i64 0,v]:=rfl
theorem Zob(s:By)(f:Nat)(v:Value):itV s 2 (f:Nat) v = .agg #[.string s,.int .u8 2,.int .i64 (f:Nat),v]:=rfl
theorem Zoa(s:By)(f:Nat)(v:Value):itV s 3 (f:Nat) v = .agg #[.string s,.int .u8 3,.int .i64 (f:Nat),v]:=rfl
structure WkT(w0:World)(tb rd:Nat)(V:NV)(E:NS)(vi:Value)(G:Gh)(I:LF)(C:IB)(ch:LY->List Ek)(dv:NV):Prop where
 tw:TW w0 tb rd V E vi G I C
 ok:GOk G
 gl:G.length<=10000
 il:I.length<=10000
 ch:∀ns b,IsDir G rd ns b->ch ns=(E b).map Jr
 num:∀x∈G,x.2.p=none->∃(n:Nat) (r:VF),x.2.f=n/\n<60/\((n:Int),r)∈I/\dv n = .slice r.a r.l r.c
structure WkI(w0:World)(qb:Nat)(J:Nat->World->Prop)(K:Nat)(S:Seen)(X:World):Prop where
 j:J K X
 t:Below w0.heap.size w0 X
 s:RowIs X qb 245 (JW S)
theorem WkI.chg{c:World}{b:Nat}{J:Nat->World->Prop}{K:Nat}{S:Seen}{X d:World}(h:WkI c b J K S X){f B:Nat}(j:∀k A A',J k A->Chg f A A'->J k A')(a:Chg B X d)(i:f<=B)(m:b<B)(g:c.heap.size<=B):WkI c b J K S d:=
 ⟨j _ _ _ h.j (a.mono i),by
  obtain⟨row,l,n⟩:=a;exact h.t.grown l h.t.size (fun k e=>Nat.le_trans g (n k e).1),a.row h.s (.inl m)⟩
def Zg1(w0:World)(n1 qb:Nat)(J:Nat->World->Prop)(K:Nat)(S:Seen)(w:World)(e:Ending)(w':World):Prop:=
 e = .returned (.bool true)/\WkI w0 qb J K S w'/\WkK w0.heap.size n1 qb w w'
theorem WkK.keeps{d a b B:Nat}{A C:World}(h:WkK d a b A C)(hB:a<=B)(hq:b<B):KeepsFrom B A C:=
 ⟨h.1.size,fun k o hk ho c=>h.2 k o (by omega) ho (.inl c) (by omega)⟩
section
attribute [local go_sem] Oper.semAt_some
def WkB(B0 tb qb l:Nat)(ns:LY)(X:World):Prop:=
 RowIs X B0 37 [.pointer (some ⟨tb,0,none⟩)]/\RowIs X (B0+1) 9 [.string (jn ns)]/\RowIs X (B0+1+1) 247 [.pointer (some ⟨qb,0,none⟩)]/\RowIs X (B0+1+1+1) 144 [.func (.yield l) #[] #[]]/\RowIs X (B0+1+1+1+1) 4 [.bool false]
theorem WkB.wk{e d b tb c l:Nat}{ns:LY}{X Y:World}(h:WkB b tb c l ns X)(a:WkK e d c X Y)(h1:d<=b)(hq:c<b):WkB b tb c l ns Y:=
 ⟨a.row h.1 (.inr ⟨by omega,by omega,rfl⟩),a.row h.2.1 (.inr ⟨by omega,by omega,rfl⟩),a.row h.2.2.1 (.inr ⟨by omega,by omega,rfl⟩),a.row h.2.2.2.1 (.inr ⟨by omega,by omega,rfl⟩),a.row h.2.2.2.2 (.inr ⟨by omega,by omega,rfl⟩)⟩
theorem WkB.chg{b tb c l B:Nat}{ns:LY}{X Y:World}(h:WkB b tb c l ns X)(a:Chg B X Y)(hB:b+5<=B):WkB b tb c l ns Y:=
 ⟨a.row h.1 (.inl (by omega)),a.row h.2.1 (.inl (by omega)),a.row h.2.2.1 (.inl (by omega)),a.row h.2.2.2.1 (.inl (by omega)),a.row h.2.2.2.2 (.inl (by omega))⟩
theorem WkT.entry{t:World}{tb e:Nat}{V:NV}{E:NS}{s:Value}{G:Gh}{I:LF}{C:IB}{j:LY->List Ek}{g:NV}(H:WkT t tb e V E s G I C j g){ns:LY}{b:Nat}(o:IsDir G e ns b){x:By×VS}(q:x∈E b):
  (∃c,x=(x.1,⟨some ⟨c,0,none⟩,0⟩)/\IsDir G e (ns++[x.1]) c)\/(∃(n:Nat) (r:VF),x=(x.1,⟨none,n⟩)/\n<60/\((n:Int),r)∈I/\g n = .slice r.a r.l r.c):=by
 have d:(ns++[x.1],x.2)∈G:=(H.tw.d.en ns b o x.1 x.2).1 q;rcases H.tw.d.shp _ d with h|⟨c,h⟩
 ·obtain⟨n,r,i,k,l,m⟩:=H.num _ d h;refine .inr ⟨n,r,?_,k,l,m⟩;obtain⟨a,p,f⟩:=x;simp at h i;subst h;subst i;rfl
 ·refine .inl ⟨c,?_,?_⟩
  ·obtain⟨a,u⟩:=x;simp at h;subst h;rfl
  ·right;simp at h;rw[<-h];exact d
theorem IsDir.le6{G:Gh}(a:GOk G){d:Nat}{ns:LY}{b:Nat}(h:IsDir G d ns b):ns.length<=6/\Nms ns:=by
 rcases h with⟨rfl,_⟩|h
 ·exact⟨by simp,fun n c=>by cases c⟩
 ·exact⟨a.le _ h,a.nms _ h⟩
theorem Zdi{g m i:Nat}{P:Program}{l:Nat}{f:FuncId}{d:Array Value}{a b:Code}{w:World}{R:Ending->World->Prop}(h:RoundIn Fence.wide m P l f d a b w R):RoundIn (Fence.wide.inRound g) i P l f d a b w R:=⟨trivial,fun c e _=>h.2 c e (room_wide _)⟩
theorem ZeH{a r:Nat}(X:World)(o:Obj)(h:a<=r):Below a X (X.putObj r o):=⟨rfl,rfl,rfl,by simp,fun k hk=>World.putObj_heap_other (by omega)⟩
theorem Zki(i:World)(tb rd:Nat)(V:NV)(E:NS)(vi:Value)(G:Gh)(I:LF)(C:IB)(c:LY->List Ek)(dv:NV)(H:WkT i tb rd V E vi G I C c dv)
  (L:List It) (l t a:Nat) (J:Nat->World->Prop) (bQ:i.heap.size<=t) (be:t<=a) (hJ:∀k A A',J k A->Chg t A A'->J k A')
  (hY:∀k W1,k<L.length->J k W1->YieldAt Fence.wide 1 Tryz.prog l (encI dv L k) W1 fun e W'=>e = .returned (.bool true)/\J (k+1) W'/\KpT i.heap.size t W1 W') (d:Nat)
  (bf:∀ns b K S W,IsDir G rd ns b->7<=ns.length+d->(∀j y,(D3 c d ns S).1[j]?=some y->L[K+j]?=some y)->WkI i a J K S W->
   Calls Tryz.prog 170 #[.pointer (some ⟨tb,0,none⟩),.pointer (some ⟨b,0,none⟩),.string (jn ns),.pointer (some ⟨a,0,none⟩),.func (.yield l) #[] #[]] W (Zg1 i t a J (K+(D3 c d ns S).1.length) (D3 c d ns S).2 W))
  (ns:LY) (b K:Nat) (S:Seen) (w:World) (hd:IsDir G rd ns b) (bP:7<=ns.length+(d+1))
  (hL:∀j y,(itL (D3 c d) ns (c ns) S).1[j]?=some y->L[K+j]?=some y) (hw:WkI i a J K S w):
  Calls Tryz.prog 170 #[.pointer (some ⟨tb,0,none⟩),.pointer (some ⟨b,0,none⟩),.string (jn ns),.pointer (some ⟨a,0,none⟩),.func (.yield l) #[] #[]] w (Zg1 i t a J (K+(itL (D3 c d) ns (c ns) S).1.length) (itL (D3 c d) ns (c ns) S).2 w):=by
 obtain⟨W1,e1,x1,k1,s1,b1⟩:=De w [.pointer (some ⟨tb,0,none⟩)] 37;obtain⟨W2,e2,x2,k2,s2,b2⟩:=De W1 [.string (jn ns)] 9;obtain⟨W3,e3,x3,k3,s3,b3⟩:=De W2 [.pointer (some ⟨a,0,none⟩)] 247;obtain⟨W4,e4,x4,k4,s4,b4⟩:=De W3 [.func (.yield l) #[] #[]] 144;obtain⟨W5,e5,x5,k5,s5,b5⟩:=De W4 [.bool false] 4;obtain⟨s,e6,x6,k6,s6,b6⟩:=De W5 [.pointer (some ⟨b,0,none⟩)] 307;have an:Below w.heap.size w s:=b1.trans ((b2.mono (by omega)).trans ((b3.mono (by omega)).trans ((b4.mono (by omega)).trans ((b5.mono (by omega)).trans (b6.mono (by omega))))));have t1:W1.heap.size=w.heap.size+1:=by omega
 have t2:W2.heap.size=w.heap.size+1+1:=by omega
 have t3:W3.heap.size=w.heap.size+1+1+1:=by omega
 have t4:W4.heap.size=w.heap.size+1+1+1+1:=by omega
 have t5:W5.heap.size=w.heap.size+1+1+1+1+1:=by omega
 have t6:s.heap.size=w.heap.size+6:=by omega
 rw[t1]at x2;rw[t2]at x3;rw[t3]at x4;rw[t4]at x5;rw[t5]at x6;have aX:WkB w.heap.size tb a l ns s:=⟨k6 _ _ _ (k5 _ _ _ (k4 _ _ _ (k3 _ _ _ (k2 _ _ _ x1)))),k6 _ _ _ (k5 _ _ _ (k4 _ _ _ (k3 _ _ _ x2))),k6 _ _ _ (k5 _ _ _ (k4 _ _ _ x3)),k6 _ _ _ (k5 _ _ _ x4),k6 _ _ _ x5⟩;have bF:a<w.heap.size:=hw.s.lt;have aH:i.heap.size<=w.heap.size:=hw.t.size;have v:RowIs w b 229 [V b]:=(hw.t.block _ (H.tw.d.row ns b hd).lt).trans (H.tw.d.row ns b hd);have bH:=v.lt;have a4:s.cell? ⟨w.heap.size+1+1+1+1+1,0,none⟩=some (.pointer (some ⟨b,0,none⟩)):=(x6.cell 0).trans rfl;have a6:s.cell? ⟨b,0,none⟩=some (V b):=(an.cell (p:=⟨b,0,none⟩) bH).trans ((v.cell 0).trans rfl);have a0:Sl s 310 3 (V b) (E b).length (Dn (E b)):=(H.tw.d.sl ns b hd).fr (X:=fun _=>False) (Fr.of_below (hw.t.trans (an.mono aH))) (fun _ _ e=>e);have bv:(E b).length<=10000:=Nat.le_trans (H.tw.d.le H.ok hd) H.gl;have a7:∀g,(V b).ownBlock=some g->g<i.heap.size:=fun g hg=>by
  obtain⟨R,U⟩:=(H.tw.d.sl ns b hd).type hg;exact U.lt
 have bh:WkI i a J K S s:=hw.chg hJ (Chg.below (B:=w.heap.size) an) (by omega) bF aH;have aZ:WkK i.heap.size t a w s:=WkK.below an aH;have a5:=H.ch ns b hd;have aD:=Db t6;have bi:=Db aX;have bK:=Db an;have bj:=Db a4;have bk:=Db a6;have br:=Db a0;have bt:=Db bh;have bo:=Db aZ;have aQ:=Db a5;have bq:=Db bf;have HY:=Db hY;have HL:=Db hL;have HJ:=Db hJ;have HH:=Db H;have bl:=Db a7;have aR:=Db e1;have aS:=Db e2;have aT:=Db e3;have aU:=Db e4;have aV:=Db e5;have aW:=Db e6;have hc:=v.cell 0;clear x1 x2 x3 x4 x5 x6 k1 k2 k3 k4 k5 k6 s1 s2 s3 s4 s5 s6 b1 b2 b3 b4 b5 b6 t1 t2 t3 t4 t5 t6 e1 e2 e3 e4 e5 e6 an a4 a6 v aX a0 bh aZ a5 bf hY hL hJ a7;refine(callsIn_wide (n:=3)).1 ?_;refine callsIn_of_wp_marks Tryz.func170 rfl trivial ?_ rfl;simp only[Tryz.ntmps170,List.size_toArray,List.length_cons,List.length_nil,Nat.reduceAdd,Nat.reduceSub,Array.replicate_succ,Array.replicate_zero,List.push_toArray,List.append_toArray,List.nil_append,List.cons_append]
 gi_wp2_with (refine⟨trivial,?_⟩;gi_at_call 179;refine(ZiM _ _ trivial rfl _ _).mono ?_;rintro e w' ⟨rfl,rfl⟩)
 rw[show w.alloc (.cells #[.pointer (some ⟨tb,0,none⟩)] 37)=W1 from Da aR,show W1.alloc (.cells #[.string (jn ns)] 9)=W2 from Da aS,show W2.alloc (.cells #[.pointer (some ⟨a,0,none⟩)] 247)=W3 from Da aT,show W3.alloc (.cells #[.func (.yield l) #[] #[]] 144)=W4 from Da aU,show W4.alloc (.cells #[.bool false] 4)=W5 from Da aV,show W5.alloc (.cells #[.pointer (some ⟨b,0,none⟩)] 307)=s from Da aW];rename_i K0 bx;clear aR aS aT aU aV aW;have t6:=Da aD;refine Ze6 (gf:=222) (lb := #[.pointer (some ⟨w.heap.size+1+1+1+1+1,0,none⟩)]) rfl (enters_of Tryz.func222 (by kernel_rfl) rfl)
  (Zm0 (w.heap.size+1+1+1+1+1) b 0 (V b) (E b) bv s (by omega) (by omega) (fun _ A B=>Below i.heap.size A B) (fun g hg _ A B bu=>bu.block g (Da bl g hg)) (Da bj) (Da bk) (Da br))
  (Below.refl _ _) Below.trans (fun X o o' ho _=>ZeH X o' (by omega)) (ZlC _)
  (fun k X=>WkI i a J (K+(itL (D3 c d) ns ((c ns).take k) S).1.length) (itL (D3 c d) ns ((c ns).take k) S).2 X/\WkB w.heap.size tb a l ns X/\WkK i.heap.size t a w X)
  (fun k A A' hA hc=>⟨hA.1.chg (Da HJ) hc (by omega) (by omega) (by omega),hA.2.1.chg hc (by omega),hA.2.2.chg hc (by omega) (by omega)⟩)
  ⟨by simpa [itL] using Da bt,Da bi,Da bo⟩
  (fun k a' X=>∃Bx x,(E b)[k]?=some x/\s.heap.size+2<=Bx/\RowIs X Bx 260 [.pointer x.2.p,.int .i64 x.2.f]/\a'={ tmps := #[.pointer (some ⟨tb,0,none⟩),.pointer (some ⟨b,0,none⟩),.string (jn ns),.pointer (some ⟨a,0,none⟩),.func (.yield l) #[] #[],.pointer (some ⟨w.heap.size,0,none⟩),undef,.pointer (some ⟨w.heap.size+1,0,none⟩),.pointer (some ⟨w.heap.size+1+1,0,none⟩),.pointer (some ⟨w.heap.size+1+1+1,0,none⟩),.pointer (some ⟨w.heap.size+1+1+1+1,0,none⟩),.string x.1,.pointer (some ⟨Bx,0,none⟩),undef,.pointer (some ⟨b,0,none⟩),.pointer (some ⟨b,0,none⟩),.pointer (some ⟨b,0,none⟩),.func (.func 222) #[] #[.pointer (some ⟨w.heap.size+1+1+1+1+1,0,none⟩)],.string x.1,.agg #[.pointer x.2.p,.int .i64 x.2.f],undef,undef,undef,undef,undef,undef,undef,undef,undef,undef,undef,undef,undef,undef,undef,undef,undef,undef,undef,undef,undef,undef,undef,undef,undef,undef],defers:=[] })
  (fun k a' A A' hA hs hc hj=>by
   obtain⟨Bx,x,Q,am,hr,ha⟩:=hA;exact⟨Bx,x,Q,am,(hj Bx am).trans hr,ha⟩)
  ?assign ?body ?done
 case assign=>
  rintro k X Kk hk ⟨m,u,D⟩ F a8;obtain⟨x,Q⟩:∃x,(E b)[k]?=some x:=⟨_,List.getElem?_eq_getElem hk⟩;rw[ZiC Q];have HX:=Db Q;have bm:=Db a8;have HZ:=Db F;have T:=Db m;have HB:=Db u;have HK:=Db D;clear t6 m u D Q a8 F
  gi_wp2
  have t6:=Da aD;have aK:Chg (s.heap.size) X (X.alloc (.cells #[.pointer x.2.p,.int .i64 x.2.f] 260)):=Chg.alloc _ _;exact Da bm _ _ ((KeepsOthers.alloc _ _).from _) ((Below.refl _ X).alloc (by have:=(Da HZ);omega) _) ⟨(Da T).chg (Da HJ) aK (by omega) (by omega) (by omega),(Da HB).chg aK (by omega),(Da HK).chg aK (by omega) (by omega)⟩ ⟨X.heap.size,x,Da HX,Da HZ,World.alloc_heap_new X _,rfl⟩
 case body=>
  rintro k a' X hk F ⟨m,u,D⟩ ⟨Bx,x,Q,am,v,rfl⟩;have ax:x∈E b:=List.mem_of_getElem? Q;have aM:(c ns)[k]?=some (Jr x):=by rw[Da aQ,List.getElem?_map,Q];rfl
  have aC:=Zi9 (D3 c d) ns (c ns) k _ aM S;have aL:=itL_at (D3 c d) ns (c ns) k _ aM S;obtain⟨P,hP⟩:∃P,P=itL (D3 c d) ns ((c ns).take k) S:=⟨_,rfl⟩;rw[<-hP]at m aC aL;have aI:∀j y,(stp (D3 c d) ns P.2 (Jr x)).1[j]?=some y->L[K+P.1.length+j]?=some y:=fun j y hj=>by
   rw[Nat.add_assoc];exact Da HL _ _ (aL j y hj)
  obtain⟨bR,bE⟩:=IsDir.le6 H.ok hd;have bO:=jn_le ns bE;have bS:x.1.size<=12:=by
   have h1:=H.ok.nms _ ((H.tw.d.en ns b hd x.1 x.2).1 ax) x.1 (by simp);unfold DQ at h1;simp only[Bool.and_eq_true,decide_eq_true_eq]at h1;exact h1.1.2
  have bT:(jn ns).size+1<=9223372036854775807:=by omega
  have bU:(jn ns).size+1+x.1.size<=9223372036854775807:=by omega
  have a3:w.heap.size<=X.heap.size:=D.1.size;have al:Hid (∀(a2:Act) Y,WkI i a J (K+P.1.length+(stp (D3 c d) ns P.2 (Jr x)).1.length) (stp (D3 c d) ns P.2 (Jr x)).2 Y->WkK i.heap.size t a X Y->Zjp s.heap.size (fun A B=>Below i.heap.size A B) (fun X=>WkI i a J (K+(itL (D3 c d) ns ((c ns).take (k+1)) S).1.length) (itL (D3 c d) ns ((c ns).take (k+1)) S).2 X/\WkB w.heap.size tb a l ns X/\WkK i.heap.size t a w X) X .normal a2 Y):=fun a2 Y h1 h2=>by
   refine⟨h2.keeps (by omega) (by omega),h2.1,?_,u.wk h2 (by omega) (by omega),D.trans h2⟩;rw[aC];show WkI i a J (K+(P.1++_).length) _ Y;rw[List.length_append,<-Nat.add_assoc];exact h1
  have ac:Hid (∀Y,WkK i.heap.size t a X Y->WkB w.heap.size tb a l ns Y/\RowIs Y Bx 260 [.pointer x.2.p,.int .i64 x.2.f]):=fun Y h=>⟨u.wk h (by omega) (by omega),h.row v (.inr ⟨by omega,by omega,rfl⟩)⟩
  have M:Hid (∀f S' (y:It) (q:LVa),J9 dv y = .agg q.toArray->(stp (D3 c d) ns P.2 (Jr x)).1[0]?=some y->WkI i a J (K+P.1.length) S' f->WkK i.heap.size t a X f->YieldAt Fence.wide 1 Tryz.prog l #[.agg q.toArray] (f.alloc (.cells q.toArray 141)) fun e Y=>e = .returned (.bool true)/\Hid (WkI i a J (K+P.1.length+1) S' Y/\WkK i.heap.size t a X Y/\WkB w.heap.size tb a l ns Y/\RowIs Y Bx 260 [.pointer x.2.p,.int .i64 x.2.f]/\RowIs Y f.heap.size 141 q)):=fun f S' y q hq bJ h1 h2=>by
   have aJ:=aI 0 y bJ;have bD:=(List.getElem?_eq_some_iff.1 aJ).1;have bV:w.heap.size<=f.heap.size:=Nat.le_trans a3 h2.1.size;have h3:=h1.chg (Da HJ) (Chg.alloc (B:=f.heap.size) f (.cells q.toArray 141)) (by omega) (by omega) (by omega);have hy:=Da HY _ (f.alloc (.cells q.toArray 141)) bD h3.j;rw[Nat.add_zero]at hy aJ;rw[ZiB aJ,hq]at hy;refine hy.mono ?_;rintro e Y ⟨rfl,hj,aB⟩;have bI:WkK i.heap.size t a f (f.alloc (.cells q.toArray 141)):=WkK.below ((Below.refl _ f).alloc (Nat.le_refl _) _) (by omega);have aN:WkK i.heap.size t a X Y:=h2.trans (bI.trans (aB.wk a));refine⟨rfl,⟨hj,h3.t.trans aB.1,aB.row h3.s (.inr ⟨be,rfl⟩)⟩,aN,u.wk aN (by omega) (by omega),aN.row v (.inr ⟨by omega,by omega,rfl⟩),?_⟩;exact aB.row (World.alloc_heap_new f _) (.inr ⟨by omega,rfl⟩)
  have c0:=(u.1.cell 0).trans (show _=some (Value.pointer (some ⟨tb,0,none⟩)) from rfl);have c1:=(u.2.1.cell 0).trans (show _=some (Value.string (jn ns)) from rfl);have c2:=(u.2.2.1.cell 0).trans (show _=some (Value.pointer (some ⟨a,0,none⟩)) from rfl);have bc:=Zn9 ns x.1;have az:=Db bc;have bL:=Db aC;have ar:=Db aI;have HP:=Db hP;have aE:=Db a3;clear aL aC hP aM aI bc;rcases H.entry hd ax with⟨b',ak,bg⟩|⟨n,r,ak,bb,bw,bA⟩
  ·have ao:Jr x=(x.1,none):=by rw[ak];rfl
   have ai:x.2=⟨some ⟨b',0,none⟩,0⟩:=by rw[ak]
   rw[ai]at v;have d0:=(v.cell 0).trans (show _=some (Value.pointer (some ⟨b',0,none⟩)) from rfl);have d1:=(v.cell 1).trans (show _=some (Value.int .i64 0) from rfl);have z:=ZmA X (some ⟨tb,0,none⟩) (some ⟨a,0,none⟩) (jn ns++⟨#[47]⟩++x.1) ⟨b',0,none⟩ 0;rw[Zoc]at z;have ad:=Db z;have HR:=Db (Da bq (ns++[x.1]) b' (K+P.1.length+1) P.2);rw[ao]at M al ar;rw[ai]at M ac ⊢;have T:=Db m;have bs:=Db bg;have HK:=Db D;clear z ak ao v m u D bg ai ax Q
   gi_wp2_with (fail)
   refine⟨trivial,?_⟩;refine(CallsIn.inRound _ (callsIn_wide.2 (Da ad))).mono ?_;rintro e f ⟨rfl,aa⟩;have au:=Da aE;have av:=aa.size;have N:WkK i.heap.size t a X f:=WkK.below aa (by omega);have ag:WkI i a J (K+P.1.length) P.2 f:=(Da T).chg (Da HJ) (Chg.below (B:=X.heap.size) aa) (by omega) (by omega) (by omega);obtain⟨fn,aO,aF,aG,hy,U⟩:=Da M f P.2 ⟨ns++[x.1],1,0⟩ [.string (jn ns++⟨#[47]⟩++x.1),.int .u8 1,.int .i64 0,.slice none 0 0] (by rw[Zmz,Da az]) rfl ag N;have R:=Db U;have O:=(Da ac f N).1;have e3:=(((Below.refl f.heap.size f).alloc (Nat.le_refl _) (.cells #[.string (jn ns++⟨#[47]⟩++x.1),.int .u8 1,.int .i64 0,.slice none 0 0] 141)).cell (p:=⟨w.heap.size+1+1+1,0,none⟩) O.2.2.2.1.lt).trans ((O.2.2.2.1.cell 0).trans (show _=some (Value.func (.yield l) #[] #[]) from rfl));clear U M ac ad ag N O au av aa c0 c1 c2 d0 d1 t6 F am
   gi_wp2
   refine(Zdi (Da R)).mono ?_;rintro e Y ⟨rfl,ae⟩;obtain⟨ab,ah,af,aj,ap⟩:=Da ae;have f0:=(af.1.cell 0).trans (show _=some (Value.pointer (some ⟨tb,0,none⟩)) from rfl);have f2:=(af.2.2.1.cell 0).trans (show _=some (Value.pointer (some ⟨a,0,none⟩)) from rfl);have f3:=(af.2.2.2.1.cell 0).trans (show _=some (Value.func (.yield l) #[] #[]) from rfl);have fx:=(aj.cell 0).trans (show _=some (Value.pointer (some ⟨b',0,none⟩)) from rfl);have fm:=(ap.cell 0).trans (show _=some (Value.string (jn ns++⟨#[47]⟩++x.1)) from rfl);have ay:=Db ab;have aq:=Db ah;have z:=Da HR Y (Da bs) (by simp;omega) (fun j y hj=>by
    have:=Da ar (j+1) y hj;rw[show K+P.1.length+1+j=K+P.1.length+(j+1) by omega];exact this) ab
   rw[Da az]at z;have aP:=Db z;clear R ae ab ah af aj ap e3 hy z
   gi_wp2_with (fail)
   refine⟨trivial,?_⟩;refine(CallsIn.inRound _ (callsIn_wide.2 (Da aP))).mono ?_;rintro e Z ⟨rfl,a9,ba⟩;have bn:=Db a9;have bp:=Db ((Da aq).trans ba);clear a9 ba aP f0 f2 f3 fx fm
   gi_wp2
   refine Da al _ _ ?_ (Da bp);have F:=Da bn;rw[show K+P.1.length+1+(D3 c d (ns++[x.1]) P.2).1.length=K+P.1.length+((D3 c d (ns++[x.1]) P.2).1.length+1) by omega]at F;exact F
  ·have ao:Jr x=(x.1,some n):=by rw[ak];rfl
   have ai:x.2=⟨none,n⟩:=by rw[ak]
   rw[ai]at v;have d0:=(v.cell 0).trans (show _=some (Value.pointer none) from rfl);have d1:=(v.cell 1).trans (show _=some (Value.int .i64 (n:Nat)) from rfl);rw[ao]at M al ar;rw[ai]at M ac ⊢;have T:=Db m;have HK:=Db D
   cases hS:P.2 n with
   | true=>
    have z:=Zk7 X (some ⟨tb,0,none⟩) (jn ns++⟨#[47]⟩++x.1) n bb a P.2 m.s hS;rw[Zoa]at z;have ad:=Db z;have aw:stp (D3 c d) ns P.2 (x.1,some n)=([⟨ns++[x.1],3,n⟩],P.2):=by unfold stp;simp[hS]
    rw[aw]at M al;clear z ak ao v m u D ai ax Q hS aw ar
    gi_wp2_with (fail)
    refine⟨trivial,?_⟩;refine(CallsIn.inRound _ (callsIn_wide.2 (Da ad))).mono ?_;rintro e f ⟨rfl,aa⟩;have au:=Da aE;have av:=aa.size;have N:WkK i.heap.size t a X f:=WkK.below aa (by omega);have ag:WkI i a J (K+P.1.length) P.2 f:=(Da T).chg (Da HJ) (Chg.below (B:=X.heap.size) aa) (by omega) (by omega) (by omega);obtain⟨fn,aO,aF,aG,hy,U⟩:=Da M f P.2 ⟨ns++[x.1],3,n⟩ [.string (jn ns++⟨#[47]⟩++x.1),.int .u8 3,.int .i64 (n:Nat),.slice none 0 0] (by rw[ZhE,Da az]) rfl ag N;have R:=Db U;have O:=(Da ac f N).1;have e3:=(((Below.refl f.heap.size f).alloc (Nat.le_refl _) (.cells #[.string (jn ns++⟨#[47]⟩++x.1),.int .u8 3,.int .i64 (n:Nat),.slice none 0 0] 141)).cell (p:=⟨w.heap.size+1+1+1,0,none⟩) O.2.2.2.1.lt).trans ((O.2.2.2.1.cell 0).trans (show _=some (Value.func (.yield l) #[] #[]) from rfl));clear U M ac ad ag N O au av aa c0 c1 c2 d0 d1 t6 F am
    gi_wp2
    refine(Zdi (Da R)).mono ?_;rintro e Y ⟨rfl,ae⟩;obtain⟨ab,ah,af,aj,ap⟩:=Da ae;have fx:=(aj.cell 0).trans (show _=some (Value.pointer none) from rfl);have ay:=Db ab;have aq:=Db ah;clear R ae ab ah af aj ap e3 hy
    gi_wp2
    refine⟨trivial,?_⟩
    gi_wp2
    exact Da al _ _ (Da ay) (Da aq)
   | false=>
    have a1:∀w',Fr (fun k=>k=a) X w'->TW w' tb rd V E vi G I C:=fun w' hf=>H.tw.below (B:=i.heap.size) (m.t.trans ⟨hf.os,hf.tape,hf.output,hf.size,fun j hj=>hf.block j (by have:=m.t.size;omega) (by omega)⟩) (Nat.le_refl _)
    have z:=Zk8 X tb rd V E vi G I C (H.tw.below m.t (Nat.le_refl _)) H.il (jn ns++⟨#[47]⟩++x.1) n bb r bw a P.2 m.s hS (by have:=H.tw.t.lt;omega) a1;have ad:=Db z;have aw:stp (D3 c d) ns P.2 (x.1,some n)=([⟨ns++[x.1],2,n⟩],P.2.add n):=by unfold stp;simp[hS]
    rw[aw]at M al;clear z ak ao v m u D ai ax Q hS aw ar a1
    gi_wp2_with (fail)
    refine⟨trivial,?_⟩;refine(CallsIn.inRound _ (callsIn_wide.2 (Da ad))).mono ?_;rintro e f ⟨rfl,bd,aA⟩;rw[Zob];have au:=Da aE;have av:=aA.size;have N:WkK i.heap.size t a X f:=WkK.fr aA (by omega) (by omega);have ag:WkI i a J (K+P.1.length) (P.2.add n) f:=⟨Da HJ _ _ _ (Da T).j (Chg.fr aA be (Da T).s rfl),(Da T).t.trans N.1,bd⟩;obtain⟨fn,aO,aF,aG,hy,U⟩:=Da M f (P.2.add n) ⟨ns++[x.1],2,n⟩ [.string (jn ns++⟨#[47]⟩++x.1),.int .u8 2,.int .i64 (n:Nat),.slice r.a r.l r.c] (by rw[ZhF,Da az,bA]) rfl ag N;have R:=Db U;have O:=(Da ac f N).1;have e3:=(((Below.refl f.heap.size f).alloc (Nat.le_refl _) (.cells #[.string (jn ns++⟨#[47]⟩++x.1),.int .u8 2,.int .i64 (n:Nat),.slice r.a r.l r.c] 141)).cell (p:=⟨w.heap.size+1+1+1,0,none⟩) O.2.2.2.1.lt).trans ((O.2.2.2.1.cell 0).trans (show _=some (Value.func (.yield l) #[] #[]) from rfl));clear U M ac ad ag N O au av aA bd c0 c1 c2 d0 d1 t6 F am
    gi_wp2
    refine(Zdi (Da R)).mono ?_;rintro e Y ⟨rfl,ae⟩;obtain⟨ab,ah,af,aj,ap⟩:=Da ae;have fx:=(aj.cell 0).trans (show _=some (Value.pointer none) from rfl);have ay:=Db ab;have aq:=Db ah;clear R ae ab ah af aj ap e3 hy
    gi_wp2
    refine⟨trivial,?_⟩
    gi_wp2
    exact Da al _ _ (Da ay) (Da aq)
 case done=>
  rintro X F ⟨m,u,D⟩ hD;have bM:=(u.2.2.2.2.cell 0).trans (show _=some (Value.bool false) from rfl);have bN:=u.2.2.2.2.frozen 0;have HD:=Db hD;have T:=Db m;have HB:=Db u;have HK:=Db D;have HZ:=Db F;clear t6 hD m u D F;show K0 _ _;refine bx _ _ ?_
  gi_wp2
  have t6:=Da aD;have F:=Da HZ;have aY:(X.setCell ⟨w.heap.size+1+1+1+1,0,none⟩ (.bool true)).heap[s.heap.size]?=some (.deferred (some [])):=(Below.heap_setCell _ _ _ _ (show s.heap.size≠w.heap.size+1+1+1+1 by omega)).trans (Da HD);refine⟨by simp,.inl ⟨_,_,rfl,run_takeDeferred aY,?_⟩⟩;have bG:RowIs (X.setCell ⟨w.heap.size+1+1+1+1,0,none⟩ (.bool true)) (w.heap.size+1+1+1+1) 4 [.bool true]:=(Da HB).2.2.2.2.set 0 (.bool true);have bC:RowIs ((X.setCell ⟨w.heap.size+1+1+1+1,0,none⟩ (.bool true)).putObj s.heap.size (.deferred none)) (w.heap.size+1+1+1+1) 4 [.bool true]:=(World.putObj_heap_other (show w.heap.size+1+1+1+1≠s.heap.size by omega)).trans bG;have bz:=(bC.cell 0).trans (show _=some (Value.bool true) from rfl);have g1:Chg w.heap.size X (X.setCell ⟨w.heap.size+1+1+1+1,0,none⟩ (.bool true)):=⟨_,grownBy_setCell' X _ _,fun r e=>by cases e;exact⟨by omega,_,(Da HB).2.2.2.2,.inr ⟨_,_,_,rfl,rfl⟩⟩⟩;have g2:Chg w.heap.size (X.setCell ⟨w.heap.size+1+1+1+1,0,none⟩ (.bool true)) ((X.setCell ⟨w.heap.size+1+1+1+1,0,none⟩ (.bool true)).putObj s.heap.size (.deferred none)):=Chg.put _ (by omega) aY (.inl rfl);have bB:itL (D3 c d) ns ((c ns).take (E b).length) S=itL (D3 c d) ns (c ns) S:=by rw[List.take_of_length_le (by rw[Da aQ,List.length_map];omega)]
  have m:=Da T;rw[bB]at m;refine⟨_,by simp[results,Tryz.results170,go_sem,bz]<;>rfl,rfl,(m.chg (Da HJ) g1 (by omega) (by omega) (by omega)).chg (Da HJ) g2 (by omega) (by omega) (by omega),((Da HK).chg g1 (by omega) (by omega)).chg g2 (by omega) (by omega)⟩
end
end Go.Proofs.YtaieidcohdhgpaaGreatDoor
