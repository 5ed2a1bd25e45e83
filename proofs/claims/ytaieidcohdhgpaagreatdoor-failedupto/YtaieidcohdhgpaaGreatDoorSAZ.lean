/- Failed. -/
import Derived.Test.YtaieidcohdhgpaaGreatDoorSAY
namespace Go.Proofs.YtaieidcohdhgpaaGreatDoor
set_option maxHeartbeats 40000000
set_option maxRecDepth 100000
open Go.RowKit
def itV(s:By)(k:Nat)(f:Int)(vd:Value):Value := .agg #[.string s,.int .u8 k,.int .i64 f,vd]
def J2(S:Nat->Bool):LVa:=(List.range 60).map (fun j => .bool (S j))
theorem ZcG(S:Nat->Bool):(J2 S).length=60:=by simp[J2]
theorem Ub(S:Nat->Bool)(j:Nat)(h:j<60):(J2 S)[j]?=some (.bool (S j)):=by simp[J2,h]
theorem ZkV(S:Nat->Bool)(j:Nat)(h:j<60):(J2 S).set j (.bool true)=J2 (fun k=>if k=j then true else S k):=by
 apply List.ext_getElem?;intro k;by_cases a:k<60
 ·rw[Ub _ k a];by_cases e:j=k
  ·subst e;rw[List.getElem?_set_self (by rw[ZcG];exact h)];simp
  ·rw[List.getElem?_set_ne e,Ub _ k a,if_neg (fun b=>e b.symm)]
 ·rw[List.getElem?_eq_none (by rw[List.length_set,ZcG];omega),List.getElem?_eq_none (by rw[ZcG];omega)]
theorem ZmU(w:World)(t q:OA)(s:By)(a:Addr)(n:Int):
  Calls Tryz.prog 218 #[.pointer t,.string s,.agg #[.pointer (some a),.int .i64 n],.pointer q] w fun e w'=>e = .returned (itV s 1 0 (.slice none 0 0))/\Below w.heap.size w w':=by
 obtain⟨d,i,m,x,l,f⟩:=De w [.pointer (some a),.int .i64 n] 260;obtain⟨h,j,b,k,C,g⟩:=De d [.string ⟨#[]⟩,.int .u8 0,.int .i64 0,.slice none 0 0] 141;have r:Below w.heap.size w h:=f.trans (g.mono (by omega));have c0:=(k _ _ _ m).cell 0;rw[l]at b;have u:w.heap.size<=w.heap.size+1:=by omega
 have o:=Db i;have p:=Db j;clear i j m x l f k C g;go_enter Tryz.func218,Tryz.ntmps218;go_upto_region 1 with fail;rw[show w.alloc (.cells #[.pointer (some a),.int .i64 n] 260)=d from Da o,show d.alloc (.cells #[.string ⟨#[]⟩,.int .u8 0,.int .i64 0,.slice none 0 0] 141)=h from Da p];have b0:=b.cell 0;have f:=b.cell 1;have g:=b.cell 2;have b3:=b.cell 3;have g0:=b.frozen 0;have g1:=b.frozen 1;have g2:=b.frozen 2;have g3:=b.frozen 3;go_wp2;have c:=Kl b (.string s) (.int .u8 1) (.int .i64 0) (.slice none 0 0);have y:=c.cell 0;have z:=c.cell 1;have A:=c.cell 2;have B:=c.cell 3;exact bodyPost_ret (v:=itV s 1 0 (.slice none 0 0)) (by simp[results,Tryz.results218,go_sem,y,z,A,B,itV]) rfl ⟨rfl,Qj r u _ _ _ _⟩
theorem Zlu(w:World)(t:OA)(s:By)(n:Nat)(B:n<60)(j:Nat)(S:Nat->Bool)(o:RowIs w j 245 (J2 S))(y:S n=true):
  Calls Tryz.prog 218 #[.pointer t,.string s,.agg #[.pointer none,.int .i64 (n:Nat)],.pointer (some ⟨j,0,none⟩)] w fun e w'=>e = .returned (itV s 3 (n:Nat) (.slice none 0 0))/\Below w.heap.size w w':=by
 obtain⟨g,l,k,p,q,h⟩:=De w [.pointer none,.int .i64 (n:Nat)] 260;obtain⟨b,m,r,f,G,i⟩:=De g [.string ⟨#[]⟩,.int .u8 0,.int .i64 0,.slice none 0 0] 141;have c:Below w.heap.size w b:=h.trans (i.mono (by omega));have c0:=(f _ _ _ k).cell 0;have c1:=(f _ _ _ k).cell 1;have ab:b.cell? ⟨j,n,none⟩=some (.bool true):=((f _ _ _ (p _ _ _ o)).cell n).trans (by rw[Ub _ _ B,y]);rw[q]at r;have A:w.heap.size<=w.heap.size+1:=by omega
 have aa:(n:Int)<60:=by omega
 have u:=Db l;have x:=Db m;clear l m k p q h f G i o;go_enter Tryz.func218,Tryz.ntmps218;go_upto_region 1 with fail;rw[show w.alloc (.cells #[.pointer none,.int .i64 (n:Nat)] 260)=g from Da u,show g.alloc (.cells #[.string ⟨#[]⟩,.int .u8 0,.int .i64 0,.slice none 0 0] 141)=b from Da x];go_upto_region 3 with fail
 go_quiet (fail)
 have a:RowIs (b.drewN nq) (w.heap.size+1) 141 _:=r;have b0:=a.cell 0;have h:=a.cell 1;have i:=a.cell 2;have b3:=a.cell 3;have g0:=a.frozen 0;have g1:=a.frozen 1;have g2:=a.frozen 2;have g3:=a.frozen 3;go_wp2;have d:=Kl a (.string s) (.int .u8 3) (.int .i64 (n:Nat)) (.slice none 0 0);have C:=d.cell 0;have D:=d.cell 1;have E:=d.cell 2;have F:=d.cell 3;have z:Below w.heap.size w (b.drewN nq):=⟨c.os,c.tape,c.output,c.size,c.block⟩;exact bodyPost_ret (v:=itV s 3 (n:Nat) (.slice none 0 0)) (by simp[results,Tryz.results218,go_sem,C,D,E,F,itV]) rfl ⟨rfl,Qj z A _ _ _ _⟩
def Zns(w:World)(s:By)(n:Nat)(qb:Nat)(S:Nat->Bool)(vd:Value)(e:Ending)(w':World):Prop:=
 e = .returned (itV s 2 (n:Nat) vd)/\RowIs w' qb 245 (J2 (fun k=>if k=n then true else S k))/\Fr (fun k=>k=qb) w w'
theorem Zlv(w:World)(tb Z:Nat)(V:NV)(E:NS)(vi:Value)(G:Gh)(I:LF)(C:IB)(_h:TW w tb Z V E vi G I C)(ax:I.length<=10000)(s:By)(n:Nat)(Q:n<60)(r:VF)(ak:((n:Int),r)∈I)(c:Nat)(S:Nat->Bool)(R:RowIs w c 245 (J2 S))(hS:S n=false)(_hqt:c≠tb)(ag:∀w',Fr (fun k=>k=c) w w'->TW w' tb Z V E vi G I C):
  Calls Tryz.prog 218 #[.pointer (some ⟨tb,0,none⟩),.string s,.agg #[.pointer none,.int .i64 (n:Nat)],.pointer (some ⟨c,0,none⟩)] w (Zns w s n c S (.slice r.a r.l r.c)):=by
 obtain⟨M,e1,x1,k1,s1,N⟩:=De w [.pointer none,.int .i64 (n:Nat)] 260;obtain⟨f,e2,x2,U,s2,O⟩:=De M [.string ⟨#[]⟩,.int .u8 0,.int .i64 0,.slice none 0 0] 141;have B:Below w.heap.size w f:=N.trans (O.mono (by omega));have aK:=R.lt;have t:=U _ _ _ x1;have J:=U _ _ _ (k1 _ _ _ R);have c0:=t.cell 0;have c1:=t.cell 1;have aF:f.cell? ⟨c,n,none⟩=some (.bool false):=(J.cell n).trans (by rw[Ub _ _ Q,hS]);have aE:f.frozen? ⟨c,n,none⟩=false:=J.frozen n;rw[s1]at x2;have aI:w.heap.size<=w.heap.size+1:=by omega
 have aJ:(n:Int)<60:=by omega
 have aa:Hid (∀d:World,d.heap=f.heap->d.os=f.os->d.tape=f.tape->d.output=f.output->d.cell? ⟨w.heap.size,1,none⟩=some (.int .i64 (n:Nat))/\d.cell? ⟨c,n,none⟩=some (.bool false)/\d.frozen? ⟨c,n,none⟩=false/\∃a,d.setCell ⟨c,n,none⟩ (.bool true)=a/\RowIs a w.heap.size 260 [.pointer none,.int .i64 (n:Nat)]/\RowIs a (w.heap.size+1) 141 [.string ⟨#[]⟩,.int .u8 0,.int .i64 0,.slice none 0 0]/\Hid (∀W,Below a.heap.size a W->Calls Tryz.prog 175 #[.pointer (some ⟨tb,1,none⟩),.int .i64 (n:Nat)] W fun e w'=>e = .returned (.tuple #[.agg #[.slice r.a r.l r.c,.int .i64 r.f],.bool true])/\Below W.heap.size W w')/\Hid (Fr (fun k=>k=c) w a)/\Hid (RowIs a c 245 (J2 (fun k=>if k=n then true else S k)))):=fun d x ho ht hu=>by
  have T:RowIs d c 245 (J2 S):=by unfold RowIs;rw[x];exact J
  have am:RowIs d w.heap.size 260 [.pointer none,.int .i64 (n:Nat)]:=by unfold RowIs;rw[x];exact t
  have aH:RowIs d (w.heap.size+1) 141 [.string ⟨#[]⟩,.int .u8 0,.int .i64 0,.slice none 0 0]:=by unfold RowIs;rw[x];exact x2
  have j:Fr (fun k=>k=c) w (d.setCell ⟨c,n,none⟩ (.bool true)):=
   Fr.set (X:=fun k=>k=c) (w':=d) ⟨ho.trans B.os,ht.trans B.tape,hu.trans B.output,by rw[x];exact B.size,fun k D _=>by rw[x];exact B.block k D⟩ ⟨c,n,none⟩ _ rfl
  refine⟨(am.cell 1).trans rfl,(T.cell n).trans (by rw[Ub _ _ Q,hS]),T.frozen n,_,rfl,(Below.heap_setCell _ _ _ _ (show w.heap.size≠c by omega)).trans am,(Below.heap_setCell _ _ _ _ (show w.heap.size+1≠c by omega)).trans aH,?_,j,?_⟩
  ·exact fun W A=>KZ W tb Z V E vi G I C (ag W ⟨A.os.trans j.os,A.tape.trans j.tape,A.output.trans j.output,Nat.le_trans j.size A.size,fun k D aA=>(A.block k (Nat.lt_of_lt_of_le D j.size)).trans (j.block k D aA)⟩) ax n r ak
  ·show RowIs _ _ _ _;rw[<-ZkV S n Q];exact RowIs.set T n (.bool true)
 have ao:=Db e1;have ap:=Db e2;clear e1 e2 x1 k1 s1 N U s2 O ag ak R J x2 t;go_enter Tryz.func218,Tryz.ntmps218;go_upto_region 1 with fail;rw[show w.alloc (.cells #[.pointer none,.int .i64 (n:Nat)] 260)=M from Da ao,show M.alloc (.cells #[.string ⟨#[]⟩,.int .u8 0,.int .i64 0,.slice none 0 0] 141)=f from Da ap];go_upto_region 3 with fail
 go_quiet (fail)
 obtain⟨Wq,o⟩:∃X,X=f.drewN nq:=⟨_,rfl⟩;rw[<-o];obtain⟨P,dn,df,a,ah,u,z2,ab,aq,ac⟩:=Da aa Wq.drew (by rw[o];rfl) (by rw[o];rfl) (by rw[o];rfl) (by rw[o];rfl);clear o;have ad:=Db ah;have an:=u;clear ah aa aF aE c0 c1;go_upto_region 5 with fail;refine wp_region_held_drew (S:=fun X=>X.cell? ⟨w.heap.size,1,none⟩=some (.int .i64 (n:Nat))) (by kernel_rfl) P (fun aw=>?_);refine tk 0 ?_;try simp only[pE];refine tk 1 ?_;try simp only[pE];refine tk 2 ?_;try simp only[pE];refine tk 3 ?_;try simp only[pE];refine tk 4 ?_;try simp only[pE];refine rk 5 (fun K hK=>?_);go_simp;rw[show(Wq.setCell ⟨c,n,none⟩ (.bool true)).drew=a from Da ad];refine hK.out _ _ ((u.cell 1).trans rfl) (fun av=>?_);clear hK K
 (try simp only[pE])
 refine wpAnyH_done (by kernel_rfl) ?_ _;have a0:=u.cell 0;have a1:=u.cell 1;have az:w.heap.size+1<a.heap.size:=z2.lt;have aB:¬a.heap.size=w.heap.size:=by omega
 have aC:¬w.heap.size=a.heap.size:=by omega
 clear u P dn df aw av ad;go_upto_region 6 with fail
 go_region_held3 (fun W=>W.cell? ⟨w.heap.size,1,none⟩=some (.int .i64 (n:Nat))) (go_keep)
  (first|(go_at_call 175;refine(Da ab _ (by first|exact(Below.refl _ a).drew|exact((Below.refl _ a).drew).alloc (Nat.le_refl _) _|exact((Below.refl _ a).alloc (Nat.le_refl _) _).drew)).mono ?_;rintro e w' ⟨rfl,H⟩;have q:Below a.heap.size a w':=(by first|exact((Below.refl _ a).drew).trans (H.mono (by simp))|exact(((Below.refl _ a).alloc (Nat.le_refl _) _).drew).trans (H.mono (by simp)));have m0:=(q.cell (p:=⟨w.heap.size,1,none⟩) (by show w.heap.size<a.heap.size;omega)).trans a1;(try(have z:RowIs w' a.heap.size 217 [.slice none 0 0,.int .i64 0]:=(H.block a.heap.size (by simp)).trans (Jd a [.slice none 0 0,.int .i64 0] 217);have z0:=z.cell 0;have u:=z.cell 1;have aL:=z.frozen 0;have aM:=z.frozen 1))))
 case' refine_2.refine_3.refine_3.refine_3.refine_3.refine_3.refine_1.refine_2.refine_3.refine_3.refine_3.refine_1.refine_2.refine_1.refine_2.refine_3=>
  obtain⟨g,y,l,ay,aG,ai⟩:=De w' [.slice r.a r.l r.c,.int .i64 r.f] 217;rw[y];have i:Below a.heap.size a g:=q.trans (ai.mono q.size);have ae:a.heap.size<=w'.heap.size:=q.size;obtain⟨L,m⟩:∃b,b=w'.heap.size:=⟨_,rfl⟩;rw[<-m]at l ae ⊢;clear y ay aG ai m
 case' refine_2.refine_3.refine_3.refine_3.refine_3.refine_3.refine_2.refine_1.refine_2.refine_1.refine_2.refine_3.refine_3.refine_3.refine_1.refine_2.refine_3=>
  have l:RowIs ((w'.setCell ⟨a.heap.size,0,none⟩ (.slice r.a r.l r.c)).setCell ⟨a.heap.size,1,none⟩ (.int .i64 r.f)) a.heap.size 217 [.slice r.a r.l r.c,.int .i64 r.f]:=by
   have:=(z.set 0 (.slice r.a r.l r.c)).set 1 (.int .i64 r.f)
   simpa using this
  have i:Below a.heap.size a ((w'.setCell ⟨a.heap.size,0,none⟩ (.slice r.a r.l r.c)).setCell ⟨a.heap.size,1,none⟩ (.int .i64 r.f)):=(q.setCell (p:=⟨a.heap.size,0,none⟩) (Nat.le_refl _) _).setCell (p:=⟨a.heap.size,1,none⟩) (Nat.le_refl _) _;obtain⟨g,y⟩:∃g,(w'.setCell ⟨a.heap.size,0,none⟩ (.slice r.a r.l r.c)).setCell ⟨a.heap.size,1,none⟩ (.int .i64 r.f)=g:=⟨_,rfl⟩;rw[y]at l i ⊢;obtain⟨L,m⟩:∃b,b=a.heap.size:=⟨_,rfl⟩;have ae:a.heap.size<=L:=by omega
  rw[<-m]at l;rw[show(Value.pointer (some { block:=a.heap.size,off:=0 }))=Value.pointer (some { block:=L,off:=0 }) by rw[m]];clear y m
 all_goals
  have h:RowIs g (w.heap.size+1) 141 [.string ⟨#[]⟩,.int .u8 0,.int .i64 0,.slice none 0 0]:=(i.block _ az).trans z2;have t:RowIs g w.heap.size 260 [.pointer none,.int .i64 (n:Nat)]:=(i.block _ an.lt).trans an;have al:RowIs g c 245 _:=(i.block _ (Da ac).lt).trans (Da ac);have aj:Fr (fun k=>k=c) w g:=(Da aq).then (Fr.of_below (X:=fun _=>False) i) (fun _ _ e=>e.elim);have au:=Db al;have ar:=Db aj;have b0:=h.cell 0;have N:=h.cell 1;have O:=h.cell 2;have b3:=h.cell 3;have f0:=h.frozen 0;have f1:=h.frozen 1;have f2:=h.frozen 2;have f3:=h.frozen 3;have c0:=l.cell 0;have c1:=l.cell 1;have P:=t.cell 1;clear aB aC H q m0 i ab l al aj;go_wp2;have F:=Kl h (.string s) (.int .u8 2) (.int .i64 (n:Nat)) (.slice r.a r.l r.c);have r0:=F.cell 0;have r1:=F.cell 1;have r2:=F.cell 2;have r3:=F.cell 3;have aD:c≠w.heap.size+1:=by omega
  have af:=((((Fr.refl (fun k=>k=w.heap.size+1) g).set ⟨w.heap.size+1,0,none⟩ (.string s) rfl).set ⟨w.heap.size+1,1,none⟩ (.int .u8 2) rfl).set ⟨w.heap.size+1,2,none⟩ (.int .i64 (n:Nat)) rfl).set ⟨w.heap.size+1,3,none⟩ (.slice r.a r.l r.c) rfl;exact bodyPost_ret (v:=itV s 2 (n:Nat) (.slice r.a r.l r.c)) (by simp[results,Tryz.results218,go_sem,r0,r1,r2,r3,itV]) rfl ⟨rfl,(RowIs.fr (Da au) (X:=fun k=>k=w.heap.size+1) af aD),(Da ar).then (Y:=fun k=>k=w.heap.size+1) af (fun k D e=>by omega)⟩
open Go.RowKit Go.Shelf
theorem Chg.fr{B a:Nat}{A b:World}(h:Fr (fun k=>k=a) A b)(f:B<=a){c:Array Value}{t:TypeId}{d:Nat×Nat}(ho:A.heap[a]?=some (.cells c t d))(j:TT t=true):Chg B A b:=
 ⟨some a,⟨h.os,h.tape,h.output,h.size,fun k g i=>h.block k g (fun e=>i (by rw[e]))⟩,fun r e=>by cases e;exact⟨f,_,ho,.inr ⟨_,_,_,rfl,j⟩⟩⟩
theorem jn_le:∀(ns:LY),Nms ns->(jn ns).size<=13*ns.length
 | [],_=>by simp[Zlr,jl]
 | n::ns,h=>by
  have ih:=jn_le ns (fun m b=>h m (List.mem_cons_of_mem _ b));have h1:n.size<=12:=by
   have:=h n (by simp);unfold DP at this;simp only[Bool.and_eq_true,decide_eq_true_eq]at this;exact this.1.2
  rw[Zlr]at ih ⊢;rw[KV];have a:n.data.toList.length=n.size:=Array.length_toList;simp only[List.length_append,List.length_cons,a];omega
theorem Zoo(ns:LY)(n:By):jn (ns++[n])=jn ns++⟨#[47]⟩++n:=Q7 (by
 rw[Qs,Zlt,Zls,ByteArray.data_append,Array.toList_append,ByteArray.data_append,Array.toList_append,Qs];simp)
theorem ZmT(a:NV)(ns:LY):Ke a ⟨ns,1,0⟩ = .agg #[.string (jn ns),.int .u8 1,.int .i64 0,.slice none 0 0]:=rfl
theorem ZhX(a:NV)(ns:LY)(f:Nat):Ke a ⟨ns,2,f⟩ = .agg #[.string (jn ns),.int .u8 2,.int .i64 (f:Nat),a f]:=rfl
theorem ZhW(a:NV)(ns:LY)(f:Nat):Ke a ⟨ns,3,f⟩ = .agg #[.string (jn ns),.int .u8 3,.int .i64 (f:Nat),.slice none 0 0]:=rfl
theorem Zor(s:By)(v:Value):itV s 1 0 v = .agg #[.string s,.int .u8 1,.int .i64 0,v]:=rfl
theorem Zoq(s:By)(f:Nat)(v:Value):itV s 2 (f:Nat) v = .agg #[.string s,.int .u8 2,.int .i64 (f:Nat),v]:=rfl
theorem Zop(s:By)(f:Nat)(v:Value):itV s 3 (f:Nat) v = .agg #[.string s,.int .u8 3,.int .i64 (f:Nat),v]:=rfl
structure WkT(w0:World)(tb rd:Nat)(V:NV)(E:NS)(vi:Value)(G:Gh)(I:LF)(C:IB)(ch:LY->List Ek)(dv:NV):Prop where
 tw:TW w0 tb rd V E vi G I C
 ok:GOk G
 gl:G.length<=10000
 il:I.length<=10000
 ch:∀ns b,IsDir G rd ns b->ch ns=(E b).map Js
 num:∀x∈G,x.2.p=none->∃(n:Nat) (r:VF),x.2.f=n/\n<60/\((n:Int),r)∈I/\dv n = .slice r.a r.l r.c
structure WkI(w0:World)(qb:Nat)(J:Nat->World->Prop)(K:Nat)(S:Seen)(X:World):Prop where
 j:J K X
 t:Below w0.heap.size w0 X
 s:RowIs X qb 245 (J2 S)
theorem WkI.chg{c:World}{b:Nat}{J:Nat->World->Prop}{K:Nat}{S:Seen}{X d:World}(h:WkI c b J K S X){f B:Nat}(j:∀k A A',J k A->Chg f A A'->J k A')(a:Chg B X d)(i:f<=B)(m:b<B)(g:c.heap.size<=B):WkI c b J K S d:=
 ⟨j _ _ _ h.j (a.mono i),by
  obtain⟨row,l,n⟩:=a;exact h.t.grown l h.t.size (fun k e=>Nat.le_trans g (n k e).1),a.row h.s (.inl m)⟩
def Zhj(w0:World)(n1 qb:Nat)(J:Nat->World->Prop)(K:Nat)(S:Seen)(w:World)(e:Ending)(w':World):Prop:=
 e = .returned (.bool true)/\WkI w0 qb J K S w'/\WkK w0.heap.size n1 qb w w'
theorem WkK.keeps{d a b B:Nat}{A C:World}(h:WkK d a b A C)(hB:a<=B)(hq:b<B):KeepsFrom B A C:=
 ⟨h.1.size,fun k o hk ho c=>h.2 k o (by omega) ho (.inl c) (by omega)⟩
section
attribute [local go_sem] Oper.semAt_some
def WkB(B0 tb qb l:Nat)(ns:LY)(X:World):Prop:=
 RowIs X B0 37 [.pointer (some ⟨tb,0,none⟩)]/\RowIs X (B0+1) 9 [.string (jn ns)]/\RowIs X (B0+1+1) 247 [.pointer (some ⟨qb,0,none⟩)]/\RowIs X (B0+1+1+1) 144 [.func (.yield l) #[] #[]]/\RowIs X (B0+1+1+1+1) 4 [.bool false]
theorem WkB.wk{e d b tb c l:Nat}{ns:LY}{X Y:World}(h:WkB b tb c l ns X)(a:WkK e d c X Y)(h1:d<=b)(hq:c<b):WkB b tb c l ns Y:=
 ⟨a.row h.1 (.inr ⟨by omega,by omega,rfl⟩),a.row h.2.1 (.inr ⟨by omega,by omega,rfl⟩),a.row h.2.2.1 (.inr ⟨by omega,by omega,rfl⟩),a.row h.2.2.2.1 (.inr ⟨by omega,by omega,rfl⟩),a.row h.2.2.2.2 (.inr ⟨by omega,by omega,rfl⟩)⟩
theorem WkB.chg{b tb c l B:Nat}{ns:LY}{X Y:World}(h:WkB b tb c l ns X)(a:Chg B X Y)(hB:b+5<=B):WkB b tb c l ns Y:=
 ⟨a.row h.1 (.inl (by omega)),a.row h.2.1 (.inl (by omega)),a.row h.2.2.1 (.inl (by omega)),a.row h.2.2.2.1 (.inl (by omega)),a.row h.2.2.2.2 (.inl (by omega))⟩
theorem WkT.entry{t:World}{tb e:Nat}{V:NV}{E:NS}{s:Value}{G:Gh}{I:LF}{C:IB}{j:LY->List Ek}{g:NV}(H:WkT t tb e V E s G I C j g){ns:LY}{b:Nat}(o:IsDir G e ns b){x:By×VS}(q:x∈E b):
  (∃c,x=(x.1,⟨some ⟨c,0,none⟩,0⟩)/\IsDir G e (ns++[x.1]) c)\/(∃(n:Nat) (r:VF),x=(x.1,⟨none,n⟩)/\n<60/\((n:Int),r)∈I/\g n = .slice r.a r.l r.c):=by
 have d:(ns++[x.1],x.2)∈G:=(H.tw.d.en ns b o x.1 x.2).1 q;rcases H.tw.d.shp _ d with h|⟨c,h⟩
 ·obtain⟨n,r,i,k,l,m⟩:=H.num _ d h;refine .inr ⟨n,r,?_,k,l,m⟩;obtain⟨a,p,f⟩:=x;simp at h i;subst h;subst i;rfl
 ·refine .inl ⟨c,?_,?_⟩
  ·obtain⟨a,u⟩:=x;simp at h;subst h;rfl
  ·right;simp at h;rw[<-h];exact d
theorem IsDir.le6{G:Gh}(a:GOk G){d:Nat}{ns:LY}{b:Nat}(h:IsDir G d ns b):ns.length<=6/\Nms ns:=by
 rcases h with⟨rfl,_⟩|h
 ·exact⟨by simp,fun n c=>by cases c⟩
 ·exact⟨a.le _ h,a.nms _ h⟩
theorem Zdn{b m d:Nat}{P:Program}{l:Nat}{f:FuncId}{tmps:Array Value}{assign body:Code}{w:World}{R:Ending->World->Prop}(h:RoundIn Fence.wide m P l f tmps assign body w R):RoundIn (Fence.wide.inRound b) d P l f tmps assign body w R:=⟨trivial,fun c a _=>h.2 c a (room_wide _)⟩
theorem ZeL{a r:Nat}(X:World)(o:Obj)(h:a<=r):Below a X (X.putObj r o):=⟨rfl,rfl,rfl,by simp,fun k hk=>World.putObj_heap_other (by omega)⟩
theorem ZkG(i:World)(tb rd:Nat)(V:NV)(E:NS)(vi:Value)(G:Gh)(I:LF)(C:IB)(c:LY->List Ek)(dv:NV)(H:WkT i tb rd V E vi G I C c dv)
  (L:List It) (l t a:Nat) (J:Nat->World->Prop) (bN:i.heap.size<=t) (bb:t<=a) (hJ:∀k A A',J k A->Chg t A A'->J k A')
  (hY:∀k W1,k<L.length->J k W1->YieldAt Fence.wide 1 Tryz.prog l (encI dv L k) W1 fun e W'=>e = .returned (.bool true)/\J (k+1) W'/\KpT i.heap.size t W1 W') (d:Nat)
  (bc:∀ns b K S W,IsDir G rd ns b->7<=ns.length+d->(∀j y,(D4 c d ns S).1[j]?=some y->L[K+j]?=some y)->WkI i a J K S W->
   Calls Tryz.prog 170 #[.pointer (some ⟨tb,0,none⟩),.pointer (some ⟨b,0,none⟩),.string (jn ns),.pointer (some ⟨a,0,none⟩),.func (.yield l) #[] #[]] W (Zhj i t a J (K+(D4 c d ns S).1.length) (D4 c d ns S).2 W))
  (ns:LY) (b K:Nat) (S:Seen) (w:World) (hd:IsDir G rd ns b) (bM:7<=ns.length+(d+1))
  (hL:∀j y,(itL (D4 c d) ns (c ns) S).1[j]?=some y->L[K+j]?=some y) (hw:WkI i a J K S w):
  Calls Tryz.prog 170 #[.pointer (some ⟨tb,0,none⟩),.pointer (some ⟨b,0,none⟩),.string (jn ns),.pointer (some ⟨a,0,none⟩),.func (.yield l) #[] #[]] w (Zhj i t a J (K+(itL (D4 c d) ns (c ns) S).1.length) (itL (D4 c d) ns (c ns) S).2 w):=by
 obtain⟨W1,e1,x1,k1,s1,b1⟩:=De w [.pointer (some ⟨tb,0,none⟩)] 37;obtain⟨W2,e2,x2,k2,s2,b2⟩:=De W1 [.string (jn ns)] 9;obtain⟨W3,e3,x3,k3,s3,b3⟩:=De W2 [.pointer (some ⟨a,0,none⟩)] 247;obtain⟨W4,e4,x4,k4,s4,b4⟩:=De W3 [.func (.yield l) #[] #[]] 144;obtain⟨W5,e5,x5,k5,s5,b5⟩:=De W4 [.bool false] 4;obtain⟨s,e6,x6,k6,s6,b6⟩:=De W5 [.pointer (some ⟨b,0,none⟩)] 307;have an:Below w.heap.size w s:=b1.trans ((b2.mono (by omega)).trans ((b3.mono (by omega)).trans ((b4.mono (by omega)).trans ((b5.mono (by omega)).trans (b6.mono (by omega))))));have t1:W1.heap.size=w.heap.size+1:=by omega
 have t2:W2.heap.size=w.heap.size+1+1:=by omega
 have t3:W3.heap.size=w.heap.size+1+1+1:=by omega
 have t4:W4.heap.size=w.heap.size+1+1+1+1:=by omega
 have t5:W5.heap.size=w.heap.size+1+1+1+1+1:=by omega
 have t6:s.heap.size=w.heap.size+6:=by omega
 rw[t1]at x2;rw[t2]at x3;rw[t3]at x4;rw[t4]at x5;rw[t5]at x6;have aU:WkB w.heap.size tb a l ns s:=⟨k6 _ _ _ (k5 _ _ _ (k4 _ _ _ (k3 _ _ _ (k2 _ _ _ x1)))),k6 _ _ _ (k5 _ _ _ (k4 _ _ _ (k3 _ _ _ x2))),k6 _ _ _ (k5 _ _ _ (k4 _ _ _ x3)),k6 _ _ _ (k5 _ _ _ x4),k6 _ _ _ x5⟩;have bC:a<w.heap.size:=hw.s.lt;have aF:i.heap.size<=w.heap.size:=hw.t.size;have v:RowIs w b 229 [V b]:=(hw.t.block _ (H.tw.d.row ns b hd).lt).trans (H.tw.d.row ns b hd);have bE:=v.lt;have a0:s.cell? ⟨w.heap.size+1+1+1+1+1,0,none⟩=some (.pointer (some ⟨b,0,none⟩)):=(x6.cell 0).trans rfl;have a3:s.cell? ⟨b,0,none⟩=some (V b):=(an.cell (p:=⟨b,0,none⟩) bE).trans ((v.cell 0).trans rfl);have aX:Sl s 310 3 (V b) (E b).length (Dn (E b)):=(H.tw.d.sl ns b hd).fr (X:=fun _=>False) (Fr.of_below (hw.t.trans (an.mono aF))) (fun _ _ e=>e);have bs:(E b).length<=10000:=Nat.le_trans (H.tw.d.le H.ok hd) H.gl;have a4:∀g,(V b).ownBlock=some g->g<i.heap.size:=fun g hg=>by
  obtain⟨R,U⟩:=(H.tw.d.sl ns b hd).type hg;exact U.lt
 have be:WkI i a J K S s:=hw.chg hJ (Chg.below (B:=w.heap.size) an) (by omega) bC aF;have aW:WkK i.heap.size t a w s:=WkK.below an aF;have a1:=H.ch ns b hd;have aD:=Db t6;have bf:=Db aU;have bH:=Db an;have bg:=Db a0;have bh:=Db a3;have bo:=Db aX;have bq:=Db be;have bl:=Db aW;have aN:=Db a1;have bn:=Db bc;have HY:=Db hY;have HL:=Db hL;have HJ:=Db hJ;have HH:=Db H;have bi:=Db a4;have aO:=Db e1;have aP:=Db e2;have aQ:=Db e3;have aR:=Db e4;have aS:=Db e5;have aT:=Db e6;have hc:=v.cell 0;clear x1 x2 x3 x4 x5 x6 k1 k2 k3 k4 k5 k6 s1 s2 s3 s4 s5 s6 b1 b2 b3 b4 b5 b6 t1 t2 t3 t4 t5 t6 e1 e2 e3 e4 e5 e6 an a0 a3 v aU aX be aW a1 bc hY hL hJ a4;refine(callsIn_wide (n:=3)).1 ?_;refine callsIn_of_wp_marks Tryz.func170 rfl trivial ?_ rfl;simp only[Tryz.ntmps170,List.size_toArray,List.length_cons,List.length_nil,Nat.reduceAdd,Nat.reduceSub,Array.replicate_succ,Array.replicate_zero,List.push_toArray,List.append_toArray,List.nil_append,List.cons_append]
 gi_wp2_with (refine⟨trivial,?_⟩;gi_at_call 179;refine(Zja _ _ trivial rfl _ _).mono ?_;rintro e w' ⟨rfl,rfl⟩)
 rw[show w.alloc (.cells #[.pointer (some ⟨tb,0,none⟩)] 37)=W1 from Da aO,show W1.alloc (.cells #[.string (jn ns)] 9)=W2 from Da aP,show W2.alloc (.cells #[.pointer (some ⟨a,0,none⟩)] 247)=W3 from Da aQ,show W3.alloc (.cells #[.func (.yield l) #[] #[]] 144)=W4 from Da aR,show W4.alloc (.cells #[.bool false] 4)=W5 from Da aS,show W5.alloc (.cells #[.pointer (some ⟨b,0,none⟩)] 307)=s from Da aT];rename_i K0 bu;clear aO aP aQ aR aS aT;have t6:=Da aD;refine Ze9 (gf:=222) (lb := #[.pointer (some ⟨w.heap.size+1+1+1+1+1,0,none⟩)]) rfl (enters_of Tryz.func222 (by kernel_rfl) rfl)
  (Znm (w.heap.size+1+1+1+1+1) b 0 (V b) (E b) bs s (by omega) (by omega) (fun _ A B=>Below i.heap.size A B) (fun g hg _ A B br=>br.block g (Da bi g hg)) (Da bg) (Da bh) (Da bo))
  (Below.refl _ _) Below.trans (fun X o o' ho _=>ZeL X o' (by omega)) (Zl1 _)
  (fun k X=>WkI i a J (K+(itL (D4 c d) ns ((c ns).take k) S).1.length) (itL (D4 c d) ns ((c ns).take k) S).2 X/\WkB w.heap.size tb a l ns X/\WkK i.heap.size t a w X)
  (fun k A A' hA hc=>⟨hA.1.chg (Da HJ) hc (by omega) (by omega) (by omega),hA.2.1.chg hc (by omega),hA.2.2.chg hc (by omega) (by omega)⟩)
  ⟨by simpa [itL] using Da bq,Da bf,Da bl⟩
  (fun k a' X=>∃Bx x,(E b)[k]?=some x/\s.heap.size+2<=Bx/\RowIs X Bx 260 [.pointer x.2.p,.int .i64 x.2.f]/\a'={ tmps := #[.pointer (some ⟨tb,0,none⟩),.pointer (some ⟨b,0,none⟩),.string (jn ns),.pointer (some ⟨a,0,none⟩),.func (.yield l) #[] #[],.pointer (some ⟨w.heap.size,0,none⟩),undef,.pointer (some ⟨w.heap.size+1,0,none⟩),.pointer (some ⟨w.heap.size+1+1,0,none⟩),.pointer (some ⟨w.heap.size+1+1+1,0,none⟩),.pointer (some ⟨w.heap.size+1+1+1+1,0,none⟩),.string x.1,.pointer (some ⟨Bx,0,none⟩),undef,.pointer (some ⟨b,0,none⟩),.pointer (some ⟨b,0,none⟩),.pointer (some ⟨b,0,none⟩),.func (.func 222) #[] #[.pointer (some ⟨w.heap.size+1+1+1+1+1,0,none⟩)],.string x.1,.agg #[.pointer x.2.p,.int .i64 x.2.f],undef,undef,undef,undef,undef,undef,undef,undef,undef,undef,undef,undef,undef,undef,undef,undef,undef,undef,undef,undef,undef,undef,undef,undef,undef,undef],defers:=[] })
  (fun k a' A A' hA hs hc hj=>by
   obtain⟨Bx,x,Q,am,hr,ha⟩:=hA;exact⟨Bx,x,Q,am,(hj Bx am).trans hr,ha⟩)
  ?assign ?body ?done
 case assign=>
  rintro k X Kk hk ⟨m,u,D⟩ F a5;obtain⟨x,Q⟩:∃x,(E b)[k]?=some x:=⟨_,List.getElem?_eq_getElem hk⟩;rw[ZiY Q];have HX:=Db Q;have bj:=Db a5;have HZ:=Db F;have T:=Db m;have HB:=Db u;have HK:=Db D;clear t6 m u D Q a5 F
  gi_wp2
  have t6:=Da aD;have aI:Chg (s.heap.size) X (X.alloc (.cells #[.pointer x.2.p,.int .i64 x.2.f] 260)):=Chg.alloc _ _;exact Da bj _ _ ((KeepsOthers.alloc _ _).from _) ((Below.refl _ X).alloc (by have:=(Da HZ);omega) _) ⟨(Da T).chg (Da HJ) aI (by omega) (by omega) (by omega),(Da HB).chg aI (by omega),(Da HK).chg aI (by omega) (by omega)⟩ ⟨X.heap.size,x,Da HX,Da HZ,World.alloc_heap_new X _,rfl⟩
 case body=>
  rintro k a' X hk F ⟨m,u,D⟩ ⟨Bx,x,Q,am,v,rfl⟩;have ax:x∈E b:=List.mem_of_getElem? Q;have aK:(c ns)[k]?=some (Js x):=by rw[Da aN,List.getElem?_map,Q];rfl
  have aC:=Zjz (D4 c d) ns (c ns) k _ aK S;have aJ:=itL_at (D4 c d) ns (c ns) k _ aK S;obtain⟨P,hP⟩:∃P,P=itL (D4 c d) ns ((c ns).take k) S:=⟨_,rfl⟩;rw[<-hP]at m aC aJ;have aG:∀j y,(stp (D4 c d) ns P.2 (Js x)).1[j]?=some y->L[K+P.1.length+j]?=some y:=fun j y hj=>by
   rw[Nat.add_assoc];exact Da HL _ _ (aJ j y hj)
  obtain⟨bO,bB⟩:=IsDir.le6 H.ok hd;have bL:=jn_le ns bB;have bP:x.1.size<=12:=by
   have h1:=H.ok.nms _ ((H.tw.d.en ns b hd x.1 x.2).1 ax) x.1 (by simp);unfold DP at h1;simp only[Bool.and_eq_true,decide_eq_true_eq]at h1;exact h1.1.2
  have bQ:(jn ns).size+1<=9223372036854775807:=by omega
  have bR:(jn ns).size+1+x.1.size<=9223372036854775807:=by omega
  have aZ:w.heap.size<=X.heap.size:=D.1.size;have al:Hid (∀(a2:Act) Y,WkI i a J (K+P.1.length+(stp (D4 c d) ns P.2 (Js x)).1.length) (stp (D4 c d) ns P.2 (Js x)).2 Y->WkK i.heap.size t a X Y->ZjQ s.heap.size (fun A B=>Below i.heap.size A B) (fun X=>WkI i a J (K+(itL (D4 c d) ns ((c ns).take (k+1)) S).1.length) (itL (D4 c d) ns ((c ns).take (k+1)) S).2 X/\WkB w.heap.size tb a l ns X/\WkK i.heap.size t a w X) X .normal a2 Y):=fun a2 Y h1 h2=>by
   refine⟨h2.keeps (by omega) (by omega),h2.1,?_,u.wk h2 (by omega) (by omega),D.trans h2⟩;rw[aC];show WkI i a J (K+(P.1++_).length) _ Y;rw[List.length_append,<-Nat.add_assoc];exact h1
  have ac:Hid (∀Y,WkK i.heap.size t a X Y->WkB w.heap.size tb a l ns Y/\RowIs Y Bx 260 [.pointer x.2.p,.int .i64 x.2.f]):=fun Y h=>⟨u.wk h (by omega) (by omega),h.row v (.inr ⟨by omega,by omega,rfl⟩)⟩
  have M:Hid (∀f S' (y:It) (q:LVa),Ke dv y = .agg q.toArray->(stp (D4 c d) ns P.2 (Js x)).1[0]?=some y->WkI i a J (K+P.1.length) S' f->WkK i.heap.size t a X f->YieldAt Fence.wide 1 Tryz.prog l #[.agg q.toArray] (f.alloc (.cells q.toArray 141)) fun e Y=>e = .returned (.bool true)/\Hid (WkI i a J (K+P.1.length+1) S' Y/\WkK i.heap.size t a X Y/\WkB w.heap.size tb a l ns Y/\RowIs Y Bx 260 [.pointer x.2.p,.int .i64 x.2.f]/\RowIs Y f.heap.size 141 q)):=fun f S' y q hq bG h1 h2=>by
   have aH:=aG 0 y bG;have bA:=(List.getElem?_eq_some_iff.1 aH).1;have bS:w.heap.size<=f.heap.size:=Nat.le_trans aZ h2.1.size;have h3:=h1.chg (Da HJ) (Chg.alloc (B:=f.heap.size) f (.cells q.toArray 141)) (by omega) (by omega) (by omega);have hy:=Da HY _ (f.alloc (.cells q.toArray 141)) bA h3.j;rw[Nat.add_zero]at hy aH;rw[ZiX aH,hq]at hy;refine hy.mono ?_;rintro e Y ⟨rfl,hj,aB⟩;have bF:WkK i.heap.size t a f (f.alloc (.cells q.toArray 141)):=WkK.below ((Below.refl _ f).alloc (Nat.le_refl _) _) (by omega);have aL:WkK i.heap.size t a X Y:=h2.trans (bF.trans (aB.wk a));refine⟨rfl,⟨hj,h3.t.trans aB.1,aB.row h3.s (.inr ⟨bb,rfl⟩)⟩,aL,u.wk aL (by omega) (by omega),aL.row v (.inr ⟨by omega,by omega,rfl⟩),?_⟩;exact aB.row (World.alloc_heap_new f _) (.inr ⟨by omega,rfl⟩)
  have c0:=(u.1.cell 0).trans (show _=some (Value.pointer (some ⟨tb,0,none⟩)) from rfl);have c1:=(u.2.1.cell 0).trans (show _=some (Value.string (jn ns)) from rfl);have c2:=(u.2.2.1.cell 0).trans (show _=some (Value.pointer (some ⟨a,0,none⟩)) from rfl);have a9:=Zoo ns x.1;have az:=Db a9;have bI:=Db aC;have ar:=Db aG;have HP:=Db hP;have aE:=Db aZ;clear aJ aC hP aK aG a9;rcases H.entry hd ax with⟨b',ak,bd⟩|⟨n,r,ak,a8,bt,bw⟩
  ·have ao:Js x=(x.1,none):=by rw[ak];rfl
   have ai:x.2=⟨some ⟨b',0,none⟩,0⟩:=by rw[ak]
   rw[ai]at v;have d0:=(v.cell 0).trans (show _=some (Value.pointer (some ⟨b',0,none⟩)) from rfl);have d1:=(v.cell 1).trans (show _=some (Value.int .i64 0) from rfl);have z:=ZmU X (some ⟨tb,0,none⟩) (some ⟨a,0,none⟩) (jn ns++⟨#[47]⟩++x.1) ⟨b',0,none⟩ 0;rw[Zor]at z;have ad:=Db z;have HR:=Db (Da bn (ns++[x.1]) b' (K+P.1.length+1) P.2);rw[ao]at M al ar;rw[ai]at M ac ⊢;have T:=Db m;have bp:=Db bd;have HK:=Db D;clear z ak ao v m u D bd ai ax Q
   gi_wp2_with (fail)
   refine⟨trivial,?_⟩;refine(CallsIn.inRound _ (callsIn_wide.2 (Da ad))).mono ?_;rintro e f ⟨rfl,aa⟩;have au:=Da aE;have av:=aa.size;have N:WkK i.heap.size t a X f:=WkK.below aa (by omega);have ag:WkI i a J (K+P.1.length) P.2 f:=(Da T).chg (Da HJ) (Chg.below (B:=X.heap.size) aa) (by omega) (by omega) (by omega);obtain⟨fn,tmps,assign,body,hy,U⟩:=Da M f P.2 ⟨ns++[x.1],1,0⟩ [.string (jn ns++⟨#[47]⟩++x.1),.int .u8 1,.int .i64 0,.slice none 0 0] (by rw[ZmT,Da az]) rfl ag N;have R:=Db U;have O:=(Da ac f N).1;have e3:=(((Below.refl f.heap.size f).alloc (Nat.le_refl _) (.cells #[.string (jn ns++⟨#[47]⟩++x.1),.int .u8 1,.int .i64 0,.slice none 0 0] 141)).cell (p:=⟨w.heap.size+1+1+1,0,none⟩) O.2.2.2.1.lt).trans ((O.2.2.2.1.cell 0).trans (show _=some (Value.func (.yield l) #[] #[]) from rfl));clear U M ac ad ag N O au av aa c0 c1 c2 d0 d1 t6 F am
   gi_wp2
   refine(Zdn (Da R)).mono ?_;rintro e Y ⟨rfl,ae⟩;obtain⟨ab,ah,af,aj,ap⟩:=Da ae;have f0:=(af.1.cell 0).trans (show _=some (Value.pointer (some ⟨tb,0,none⟩)) from rfl);have f2:=(af.2.2.1.cell 0).trans (show _=some (Value.pointer (some ⟨a,0,none⟩)) from rfl);have f3:=(af.2.2.2.1.cell 0).trans (show _=some (Value.func (.yield l) #[] #[]) from rfl);have fx:=(aj.cell 0).trans (show _=some (Value.pointer (some ⟨b',0,none⟩)) from rfl);have fm:=(ap.cell 0).trans (show _=some (Value.string (jn ns++⟨#[47]⟩++x.1)) from rfl);have ay:=Db ab;have aq:=Db ah;have z:=Da HR Y (Da bp) (by simp;omega) (fun j y hj=>by
    have:=Da ar (j+1) y hj;rw[show K+P.1.length+1+j=K+P.1.length+(j+1) by omega];exact this) ab
   rw[Da az]at z;have aM:=Db z;clear R ae ab ah af aj ap e3 hy z
   gi_wp2_with (fail)
   refine⟨trivial,?_⟩;refine(CallsIn.inRound _ (callsIn_wide.2 (Da aM))).mono ?_;rintro e Z ⟨rfl,a6,a7⟩;have bk:=Db a6;have bm:=Db ((Da aq).trans a7);clear a6 a7 aM f0 f2 f3 fx fm
   gi_wp2
   refine Da al _ _ ?_ (Da bm);have F:=Da bk;rw[show K+P.1.length+1+(D4 c d (ns++[x.1]) P.2).1.length=K+P.1.length+((D4 c d (ns++[x.1]) P.2).1.length+1) by omega]at F;exact F
  ·have ao:Js x=(x.1,some n):=by rw[ak];rfl
   have ai:x.2=⟨none,n⟩:=by rw[ak]
   rw[ai]at v;have d0:=(v.cell 0).trans (show _=some (Value.pointer none) from rfl);have d1:=(v.cell 1).trans (show _=some (Value.int .i64 (n:Nat)) from rfl);rw[ao]at M al ar;rw[ai]at M ac ⊢;have T:=Db m;have HK:=Db D
   cases hS:P.2 n with
   | true=>
    have z:=Zlu X (some ⟨tb,0,none⟩) (jn ns++⟨#[47]⟩++x.1) n a8 a P.2 m.s hS;rw[Zop]at z;have ad:=Db z;have aw:stp (D4 c d) ns P.2 (x.1,some n)=([⟨ns++[x.1],3,n⟩],P.2):=by unfold stp;simp[hS]
    rw[aw]at M al;clear z ak ao v m u D ai ax Q hS aw ar
    gi_wp2_with (fail)
    refine⟨trivial,?_⟩;refine(CallsIn.inRound _ (callsIn_wide.2 (Da ad))).mono ?_;rintro e f ⟨rfl,aa⟩;have au:=Da aE;have av:=aa.size;have N:WkK i.heap.size t a X f:=WkK.below aa (by omega);have ag:WkI i a J (K+P.1.length) P.2 f:=(Da T).chg (Da HJ) (Chg.below (B:=X.heap.size) aa) (by omega) (by omega) (by omega);obtain⟨fn,tmps,assign,body,hy,U⟩:=Da M f P.2 ⟨ns++[x.1],3,n⟩ [.string (jn ns++⟨#[47]⟩++x.1),.int .u8 3,.int .i64 (n:Nat),.slice none 0 0] (by rw[ZhW,Da az]) rfl ag N;have R:=Db U;have O:=(Da ac f N).1;have e3:=(((Below.refl f.heap.size f).alloc (Nat.le_refl _) (.cells #[.string (jn ns++⟨#[47]⟩++x.1),.int .u8 3,.int .i64 (n:Nat),.slice none 0 0] 141)).cell (p:=⟨w.heap.size+1+1+1,0,none⟩) O.2.2.2.1.lt).trans ((O.2.2.2.1.cell 0).trans (show _=some (Value.func (.yield l) #[] #[]) from rfl));clear U M ac ad ag N O au av aa c0 c1 c2 d0 d1 t6 F am
    gi_wp2
    refine(Zdn (Da R)).mono ?_;rintro e Y ⟨rfl,ae⟩;obtain⟨ab,ah,af,aj,ap⟩:=Da ae;have fx:=(aj.cell 0).trans (show _=some (Value.pointer none) from rfl);have ay:=Db ab;have aq:=Db ah;clear R ae ab ah af aj ap e3 hy
    gi_wp2
    refine⟨trivial,?_⟩
    gi_wp2
    exact Da al _ _ (Da ay) (Da aq)
   | false=>
    have aY:∀w',Fr (fun k=>k=a) X w'->TW w' tb rd V E vi G I C:=fun w' hf=>H.tw.below (B:=i.heap.size) (m.t.trans ⟨hf.os,hf.tape,hf.output,hf.size,fun j hj=>hf.block j (by have:=m.t.size;omega) (by omega)⟩) (Nat.le_refl _)
    have z:=Zlv X tb rd V E vi G I C (H.tw.below m.t (Nat.le_refl _)) H.il (jn ns++⟨#[47]⟩++x.1) n a8 r bt a P.2 m.s hS (by have:=H.tw.t.lt;omega) aY;have ad:=Db z;have aw:stp (D4 c d) ns P.2 (x.1,some n)=([⟨ns++[x.1],2,n⟩],P.2.add n):=by unfold stp;simp[hS]
    rw[aw]at M al;clear z ak ao v m u D ai ax Q hS aw ar aY
    gi_wp2_with (fail)
    refine⟨trivial,?_⟩;refine(CallsIn.inRound _ (callsIn_wide.2 (Da ad))).mono ?_;rintro e f ⟨rfl,ba,aA⟩;rw[Zoq];have au:=Da aE;have av:=aA.size;have N:WkK i.heap.size t a X f:=WkK.fr aA (by omega) (by omega);have ag:WkI i a J (K+P.1.length) (P.2.add n) f:=⟨Da HJ _ _ _ (Da T).j (Chg.fr aA bb (Da T).s rfl),(Da T).t.trans N.1,ba⟩;obtain⟨fn,tmps,assign,body,hy,U⟩:=Da M f (P.2.add n) ⟨ns++[x.1],2,n⟩ [.string (jn ns++⟨#[47]⟩++x.1),.int .u8 2,.int .i64 (n:Nat),.slice r.a r.l r.c] (by rw[ZhX,Da az,bw]) rfl ag N;have R:=Db U;have O:=(Da ac f N).1;have e3:=(((Below.refl f.heap.size f).alloc (Nat.le_refl _) (.cells #[.string (jn ns++⟨#[47]⟩++x.1),.int .u8 2,.int .i64 (n:Nat),.slice r.a r.l r.c] 141)).cell (p:=⟨w.heap.size+1+1+1,0,none⟩) O.2.2.2.1.lt).trans ((O.2.2.2.1.cell 0).trans (show _=some (Value.func (.yield l) #[] #[]) from rfl));clear U M ac ad ag N O au av aA ba c0 c1 c2 d0 d1 t6 F am
    gi_wp2
    refine(Zdn (Da R)).mono ?_;rintro e Y ⟨rfl,ae⟩;obtain⟨ab,ah,af,aj,ap⟩:=Da ae;have fx:=(aj.cell 0).trans (show _=some (Value.pointer none) from rfl);have ay:=Db ab;have aq:=Db ah;clear R ae ab ah af aj ap e3 hy
    gi_wp2
    refine⟨trivial,?_⟩
    gi_wp2
    exact Da al _ _ (Da ay) (Da aq)
 case done=>
  rintro X F ⟨m,u,D⟩ hD;have bJ:=(u.2.2.2.2.cell 0).trans (show _=some (Value.bool false) from rfl);have bK:=u.2.2.2.2.frozen 0;have HD:=Db hD;have T:=Db m;have HB:=Db u;have HK:=Db D;have HZ:=Db F;clear t6 hD m u D F;show K0 _ _;refine bu _ _ ?_
  gi_wp2
  have t6:=Da aD;have F:=Da HZ;have aV:(X.setCell ⟨w.heap.size+1+1+1+1,0,none⟩ (.bool true)).heap[s.heap.size]?=some (.deferred (some [])):=(Below.heap_setCell _ _ _ _ (show s.heap.size≠w.heap.size+1+1+1+1 by omega)).trans (Da HD);refine⟨by simp,.inl ⟨_,_,rfl,run_takeDeferred aV,?_⟩⟩;have bD:RowIs (X.setCell ⟨w.heap.size+1+1+1+1,0,none⟩ (.bool true)) (w.heap.size+1+1+1+1) 4 [.bool true]:=(Da HB).2.2.2.2.set 0 (.bool true);have bz:RowIs ((X.setCell ⟨w.heap.size+1+1+1+1,0,none⟩ (.bool true)).putObj s.heap.size (.deferred none)) (w.heap.size+1+1+1+1) 4 [.bool true]:=(World.putObj_heap_other (show w.heap.size+1+1+1+1≠s.heap.size by omega)).trans bD;have bv:=(bz.cell 0).trans (show _=some (Value.bool true) from rfl);have g1:Chg w.heap.size X (X.setCell ⟨w.heap.size+1+1+1+1,0,none⟩ (.bool true)):=⟨_,grownBy_setCell' X _ _,fun r e=>by cases e;exact⟨by omega,_,(Da HB).2.2.2.2,.inr ⟨_,_,_,rfl,rfl⟩⟩⟩;have g2:Chg w.heap.size (X.setCell ⟨w.heap.size+1+1+1+1,0,none⟩ (.bool true)) ((X.setCell ⟨w.heap.size+1+1+1+1,0,none⟩ (.bool true)).putObj s.heap.size (.deferred none)):=Chg.put _ (by omega) aV (.inl rfl);have bx:itL (D4 c d) ns ((c ns).take (E b).length) S=itL (D4 c d) ns (c ns) S:=by rw[List.take_of_length_le (by rw[Da aN,List.length_map];omega)]
  have m:=Da T;rw[bx]at m;refine⟨_,by simp[results,Tryz.results170,go_sem,bv]<;>rfl,rfl,(m.chg (Da HJ) g1 (by omega) (by omega) (by omega)).chg (Da HJ) g2 (by omega) (by omega) (by omega),((Da HK).chg g1 (by omega) (by omega)).chg g2 (by omega) (by omega)⟩
end
end Go.Proofs.YtaieidcohdhgpaaGreatDoor
