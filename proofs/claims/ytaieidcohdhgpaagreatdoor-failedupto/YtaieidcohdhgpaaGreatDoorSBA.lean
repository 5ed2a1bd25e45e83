/- Failed. -/
import Derived.Test.YtaieidcohdhgpaaGreatDoorSAZ
namespace Go.Proofs.YtaieidcohdhgpaaGreatDoor
set_option maxHeartbeats 40000000
set_option maxRecDepth 100000
section
open Go.RowKit Go.Shelf
attribute [local go_sem] Oper.semAt_some
theorem Zhv(c:World)(tb i:Nat)(V:NV)(E:NS)(m:Value)(G:Gh)(I:LF)(C:IB)(f:LY->List Ek)(h:NV)(H:WkT c tb i V E m G I C f h)
  (L:List It) (l a g:Nat) (J:Nat->World->Prop) (q:c.heap.size<=a) (r:a<=g) (o:∀k A A',J k A->Chg a A A'->J k A')
  (p:∀k W1,k<L.length->J k W1->YieldAt Fence.wide 1 Tryz.prog l (encI h L k) W1 fun e n=>e = .returned (.bool true)/\J (k+1) n/\KpT c.heap.size a W1 n):
  ∀(d:Nat) (ns:LY) (b K:Nat) (S:Seen) (w:World),IsDir G i ns b->7<=ns.length+d->(∀j y,(D4 f d ns S).1[j]?=some y->L[K+j]?=some y)->WkI c g J K S w->
   Calls Tryz.prog 170 #[.pointer (some ⟨tb,0,none⟩),.pointer (some ⟨b,0,none⟩),.string (jn ns),.pointer (some ⟨g,0,none⟩),.func (.yield l) #[] #[]] w (Zhj c a g J (K+(D4 f d ns S).1.length) (D4 f d ns S).2 w)
 | 0,ns,b,K,S,w,hd,hlen,_,_=>by have:=(IsDir.le6 H.ok hd).1;omega
 | d+1,ns,b,K,S,w,hd,hlen,hL,hw=>ZkG c tb i V E m G I C f h H L l a g J q r o p d (Zhv c tb i V E m G I C f h H L l a g J q r o p d) ns b K S w hd hlen hL hw
theorem Zj1:J2 (fun _=>false)=List.replicate 60 (.bool false):=by
 unfold J2;exact List.map_const' .. |>.trans (by rw[List.length_range])
def DI(ch:LY->List Ek):List It:=(D4 ch 7 [] (fun _=>false)).1
theorem Znl(b D:World)(a tb f:Nat)(V:NV)(E:NS)(z:Value)(G:Gh)(I:LF)(C:IB)(i:LY->List Ek)(r:NV)(H:WkT b tb f V E z G I C i r)(u:Below b.heap.size b D)(s:RowIs D a 37 [.pointer (some ⟨tb,0,none⟩)]):
  SeqN 169 #[.pointer (some ⟨a,0,none⟩)] (encI r (DI i)) (DI i).length (fun n1 A B=>KpT b.heap.size n1 A B/\B.heap[a]?=A.heap[a]?) D:=fun l J W v t O h0=>by
 have o:RowIs W a 37 [.pointer (some ⟨tb,0,none⟩)]:=(v.block _ s.lt).trans s;have n:Below b.heap.size b W:=u.trans (v.mono u.size);have F:=(o.cell 0).trans (show _=some (Value.pointer (some ⟨tb,0,none⟩)) from rfl);have M:=o.lt;have T:RowIs W tb 214 [.pointer (some ⟨f,0,none⟩),z]:=(n.block _ H.tw.t.lt).trans H.tw.t;obtain⟨c,L,U,x,s1,d⟩:=De W (List.replicate 60 (.bool false)) 245;have d1:c.cell? ⟨a,0,none⟩=some (.pointer (some ⟨tb,0,none⟩)):=(d.cell (p:=⟨a,0,none⟩) (World.block_lt_of_cell? _ _ F)).trans F;have d2:c.cell? ⟨tb,0,none⟩=some (.pointer (some ⟨f,0,none⟩)):=((x _ _ _ T).cell 0).trans rfl;have m:Below b.heap.size b c:=n.trans (d.mono n.size);have Q:WkI b W.heap.size (fun k X=>J k X/\RowIs X a 37 [.pointer (some ⟨tb,0,none⟩)]) 0 (fun _=>false) c.drew:=⟨⟨t _ _ _ h0 (Chg.below ⟨d.os,d.tape,d.output,d.size,d.block⟩),x _ _ _ o⟩,⟨m.os,m.tape,m.output,m.size,m.block⟩,by rw[Zj1];exact U⟩;have HW:Hid (Calls Tryz.prog 170 #[.pointer (some ⟨tb,0,none⟩),.pointer (some ⟨f,0,none⟩),.string ⟨#[]⟩,.pointer (some ⟨W.heap.size,0,none⟩),.func (.yield l) #[] #[]] c.drew fun e w'=>e = .returned (.bool true)/\w'.cell? ⟨a,0,none⟩=some (.pointer (some ⟨tb,0,none⟩))/\w'.cell? ⟨tb,0,none⟩=some (.pointer (some ⟨f,0,none⟩))/\Hid (J (DI i).length w')):=(Zhv b tb f V E z G I C i r H (DI i) l W.heap.size W.heap.size (fun k X=>J k X/\RowIs X a 37 [.pointer (some ⟨tb,0,none⟩)]) n.size (Nat.le_refl _) (fun k A Y h P=>⟨t k A Y h.1 P,P.row h.2 (.inl M)⟩) (fun k c q h=>(O k c q h.1).mono fun e W' ⟨w,g,q⟩=>⟨w,⟨g,q.2.trans h.2⟩,q.1⟩) 7 [] f 0 (fun _=>false) c.drew (.inl ⟨rfl,rfl⟩) (by simp) (fun j y g=>by rw[Nat.zero_add];exact g) Q).mono fun e w' ⟨w,R,ac⟩=>by
  have g:=R.j;rw[Nat.zero_add]at g;refine⟨w,(g.2.cell 0).trans rfl,(R.t.cell (p:=⟨tb,0,none⟩) H.tw.t.lt).trans ((H.tw.t.cell 0).trans rfl),g.1⟩
 have Z:=Db L;clear O t v s o n u T U x s1 d L Q m H M;go_enter Tryz.func169,Tryz.ntmps169;go_upto_region 0 with fail;refine wp_region_lit ?_;refine JF rfl 245 rfl ZnS ?_;refine wpList_nil ?_;rw[show W.alloc (.cells (List.replicate 60 (Value.bool false)).toArray 245)=c from Da Z]
 (try simp only[pE])
 go_upto_region 1 with fail;refine wp_region_held_drew (S:=fun X=>X.cell? ⟨a,0,none⟩=some (.pointer (some ⟨tb,0,none⟩))/\X.cell? ⟨tb,0,none⟩=some (.pointer (some ⟨f,0,none⟩))) (by kernel_rfl) ⟨d1,d2⟩ (fun ab=>?_);refine tk 0 ?_;try simp only[pE];refine tk 1 ?_;try simp only[pE];refine tk 2 ?_;try simp only[pE];refine tk 3 ?_;try simp only[pE];refine tk 4 ?_;try simp only[pE];refine tk 5 ?_;try simp only[pE];refine rk 6 (fun K N=>?_);go_simp;go_at_call 170;refine(Da HW).mono ?_;rintro e w' ⟨rfl,q1,q2,HJ⟩;go_wp2_with fail;refine N.out _ _ ⟨q1,q2⟩ (fun aa=>?_);clear N K
 (try simp only[pE])
 refine wpAnyH_done (by kernel_rfl) ?_ _;go_wp2
 go_end0
 exact⟨⟨_,rfl⟩,Da HJ⟩
end
open Go.RowKit
def nBl(d:By):Nat:=(d.size+64-1)/64
def Dx(E:Env)(C:NB)(last:By)(st:Pl)(x:It):By×Pl:=
 if x.k=1 then (Ds last (jn x.ns) 1++Do last (jn x.ns),st)
 else if x.k=3 then (Ds last (jn x.ns) 3++Do last (jn x.ns)++⟨#[UInt8.ofNat x.f]⟩,st)
 else (Ds last (jn x.ns) 2++Do last (jn x.ns)++⟨#[UInt8.ofNat x.f]⟩++Ja (C x.f).size 2++JI E x.f (C x.f) st 0 (List.range (nBl (C x.f))),
  E.puts (Dd 4 x.f) (dtB (C x.f)) st 0 (List.range (nBl (C x.f))))
def Dw(E:Env)(C:NB):By->Pl->List It->By×Pl
 | _,st,[]=>(⟨#[]⟩,st)
 | last,st,x::xs=>((Dx E C last st x).1++(Dw E C (jn x.ns) (Dx E C last st x).2 xs).1,(Dw E C (jn x.ns) (Dx E C last st x).2 xs).2)
def JV:By->List It->By
 | last,[]=>last
 | _,x::xs=>JV (jn x.ns) xs
theorem Zei:∀(last:By) (xs:List It) (x:It),JV last (xs++[x])=jn x.ns
 | _,[],_=>rfl
 | _,y::xs,x=>Zei (jn y.ns) xs x
theorem ZhA(E:Env)(C:NB):∀(last:By) (st:Pl) (xs:List It) (x:It),Dw E C last st (xs++[x])=((Dw E C last st xs).1++(Dx E C (JV last xs) (Dw E C last st xs).2 x).1,(Dx E C (JV last xs) (Dw E C last st xs).2 x).2)
 | last,st,[],x=>by
  show((Dx E C last st x).1++⟨#[]⟩,(Dx E C last st x).2)=(⟨#[]⟩++(Dx E C last st x).1,(Dx E C last st x).2);rw[Ky,Q2]
 | last,st,y::xs,x=>by
  show((Dx E C last st y).1++(Dw E C (jn y.ns) (Dx E C last st y).2 (xs++[x])).1,(Dw E C (jn y.ns) (Dx E C last st y).2 (xs++[x])).2)=_;rw[ZhA E C (jn y.ns) (Dx E C last st y).2 xs x];show(_++(_++_),_)=((_++_)++_,_);rw[Jv]
  rfl
structure ItOk(C:NB)(L:List It):Prop where
 len:L.length<=100
 kind:∀x∈L,x.k=1\/x.k=2\/x.k=3
 path:∀x∈L,(jn x.ns).size<=100
 num:∀x∈L,x.f<60
 size:∀x∈L,x.k=2->(C x.f).size<=1280
 fresh:∀(i j:Nat) x y,i<j->L[i]?=some x->L[j]?=some y->x.k=2->y.k=2->x.f≠y.f
theorem KE{d:By}(h:d.size<=1280):nBl d<=20:=by unfold nBl;omega
theorem ZlZ(a p:By)(k:Nat):(Ds a p k).size=3:=rfl
theorem Zh9(a p:By):(Do a p).size<=p.size:=by unfold Do;rw[ByteArray.size_extract];omega
theorem ZoL(E:Env)(C:NB)(a:By)(st:Pl)(x:It)(hp:(jn x.ns).size<=100)(l:x.k=2->(C x.f).size<=1280)(i:x.k=1\/x.k=2\/x.k=3):
  (Dx E C a st x).1.size<=306/\(Dx E C a st x).2.puts.length<=st.puts.length+20/\(Dx E C a st x).2.ps.length<=st.ps.length+20/\(st.hd<=1536->(Dx E C a st x).2.hd<=1536)/\
  ∀y∈(Dx E C a st x).2.puts,y∈st.puts\/(x.k=2/\∃j,j<20/\y.1=Dd 4 x.f j):=by
 have ht:=Zh9 a (jn x.ns);have c:∀k,(Ds a (jn x.ns) k).size=3:=fun k=>rfl
 have d:∀u:UInt8,(⟨#[u]⟩:By).size=1:=fun u=>rfl
 unfold Dx;rcases i with e|e|e
 ·rw[if_pos e];exact⟨by rw[ByteArray.size_append,c];omega,Nat.le_add_right _ _,Nat.le_add_right _ _,id,fun y b => .inl b⟩
 ·rw[if_neg (by omega),if_neg (by omega)];have hn:=KE (l e);obtain⟨m,n,o⟩:=Env.puts_len E (Dd 4 x.f) (dtB (C x.f)) st 0 (List.range (nBl (C x.f)));rw[List.length_range]at m n;have f:(E.puts (Dd 4 x.f) (dtB (C x.f)) st 0 (List.range (nBl (C x.f)))).puts.length<=st.puts.length+20:=by omega
  have g:(E.puts (Dd 4 x.f) (dtB (C x.f)) st 0 (List.range (nBl (C x.f)))).ps.length<=st.ps.length+20:=by omega
  refine⟨?_,f,g,o,fun y b=>?_⟩
  ·simp only[ByteArray.size_append,c,d,K2,Zed,List.length_range];omega
  ·rcases Env.puts_mem E _ _ st 0 _ y b with h|⟨j,_,p,q⟩
   ·exact .inl h
   ·rw[List.length_range]at p;exact .inr ⟨e,j,by omega,q⟩
 ·rw[if_neg (by omega),if_pos e];exact⟨by simp only[ByteArray.size_append,c,d];omega,Nat.le_add_right _ _,Nat.le_add_right _ _,id,fun y b => .inl b⟩
theorem Qc(E:Env)(C:NB):∀(last:By) (st:Pl) (xs:List It),(∀x∈xs,(jn x.ns).size<=100/\(x.k=2->(C x.f).size<=1280)/\(x.k=1\/x.k=2\/x.k=3))->
  (Dw E C last st xs).1.size<=306*xs.length/\(Dw E C last st xs).2.puts.length<=st.puts.length+20*xs.length/\(Dw E C last st xs).2.ps.length<=st.ps.length+20*xs.length/\(st.hd<=1536->(Dw E C last st xs).2.hd<=1536)/\
  ∀y∈(Dw E C last st xs).2.puts,y∈st.puts\/∃x∈xs,x.k=2/\∃j,j<20/\y.1=Dd 4 x.f j
 | last,st,[],_=>⟨Nat.le_refl _,Nat.le_refl _,Nat.le_refl _,id,fun y a => .inl a⟩
 | last,st,x::xs,h=>by
  obtain⟨i,k,l⟩:=h x (by simp);obtain⟨a1,a2,a3,b,c⟩:=ZoL E C last st x i k l;obtain⟨b1,b2,b3,d,f⟩:=Qc E C (jn x.ns) (Dx E C last st x).2 xs (fun y a=>h y (List.mem_cons_of_mem _ a));refine⟨?_,?_,?_,fun h=>d (b h),fun y a=>?_⟩
  ·show((Dx E C last st x).1++_).size<=_;rw[ByteArray.size_append,List.length_cons];omega
  ·show(Dw E C _ _ xs).2.puts.length<=_;rw[List.length_cons];omega
  ·show(Dw E C _ _ xs).2.ps.length<=_;rw[List.length_cons];omega
  ·rcases f y a with h|⟨z,g,r⟩
   ·rcases c y h with h|⟨e,r⟩
    ·exact .inl h
    ·exact .inr ⟨x,by simp,e,r⟩
   ·exact .inr ⟨z,List.mem_cons_of_mem _ g,r⟩
theorem Zfh{kk f a i j:Nat}(hi:i<65536)(hj:j<65536)(_hf:f<65536)(_hf':a<65536)(h:Dd kk f i=Dd kk a j):f=a:=by unfold Dd at h;omega
theorem ZcY{kk kk' f a i j:Nat}(hi:i<65536)(hj:j<65536)(hf:f<65536)(aa:a<65536)(h:Dd kk f i=Dd kk' a j):kk=kk':=by unfold Dd at h;omega
theorem ItOk.turn{C:NB}{L:List It}(h:ItOk C L)(E:Env)(st0:Pl)(p:st0.puts=[])(q:st0.ps=[])(r:st0.hd<=1536)(k:Nat)(x:It)(d:L[k]?=some x):
  (Dw E C ⟨#[]⟩ st0 (L.take k)).1.size<=30600/\(Dw E C ⟨#[]⟩ st0 (L.take k)).2.puts.length<=2000/\(Dw E C ⟨#[]⟩ st0 (L.take k)).2.ps.length<=2000/\(Dw E C ⟨#[]⟩ st0 (L.take k)).2.hd<=1536/\
  (x.k=2->∀y∈(Dw E C ⟨#[]⟩ st0 (L.take k)).2.puts,∀i,i<1000->y.1≠Dd 4 x.f i)/\(JV ⟨#[]⟩ (L.take k)).size<=100:=by
 have ac:=(List.getElem?_eq_some_iff.1 d).1;have ab:=h.len;have ae:(L.take k).length=k:=by rw[List.length_take];omega
 obtain⟨b1,f,g,n,l⟩:=Qc E C ⟨#[]⟩ st0 (L.take k) (fun z a=>⟨h.path z (List.mem_of_mem_take a),h.size z (List.mem_of_mem_take a),h.kind z (List.mem_of_mem_take a)⟩);rw[p]at f l;rw[q]at g;simp only[List.length_nil]at f g;refine⟨by omega,by omega,by omega,n r,fun s y c i hi e=>?_,?_⟩
 ·rcases l y c with u|⟨z,a,v,j,hj,o⟩
  ·cases u
  ·obtain⟨m,b⟩:=List.mem_iff_getElem?.1 a;have ad:=b;rw[List.getElem?_take]at b
   split at b
   ·rename_i t;have hf:=h.num z (List.mem_of_mem_take a);have aa:=h.num x (List.mem_of_getElem? d);exact h.fresh m k z x t b d v s (Zfh (by omega) (by omega) (by omega) (by omega) (o.symm.trans e))
   ·cases b
 ·cases k with
  | zero=>exact Nat.zero_le _
  | succ k=>
   obtain⟨y,c⟩:∃y,L[k]?=some y:=⟨_,List.getElem?_eq_getElem (by omega)⟩;rw[List.take_add_one,c,Option.toList_some,Zei];exact h.path y (List.mem_of_getElem? c)
def JA(E:Env)(R:Nat->Nat)(B:NB):Pl->Nat->List Nat->By
 | _,_,[]=>⟨#[]⟩
 | st,i,x::xs=>DG (E.put st (R i) (B x)).1 (Dp (B x))++JA E R B (E.put st (R i) (B x)).2 (i+1) xs
theorem ZcZ(E:Env)(R:Nat->Nat)(B:NB):∀(st:Pl) (i:Nat) (xs:List Nat) (x:Nat),JA E R B st i (xs++[x])=JA E R B st i xs++DG (E.put (E.puts R B st i xs) (R (i+xs.length)) (B x)).1 (Dp (B x))
 | st,i,[],x=>by
  show DG _ _++⟨#[]⟩=⟨#[]⟩++DG _ _;rw[Ky,Q2];rfl
 | st,i,y::xs,x=>by
  show DG _ _++JA E R B _ (i+1) (xs++[x])=DG _ _++JA E R B _ (i+1) xs++_;rw[ZcZ E R B _ (i+1) xs x,Jv,List.length_cons,show i+1+xs.length=i+(xs.length+1) by omega]
  rfl
theorem Zc0(E:Env)(R:Nat->Nat)(B:NB):∀(st:Pl) (i:Nat) (xs:List Nat),(JA E R B st i xs).size=10*xs.length
 | st,i,[]=>rfl
 | st,i,x::xs=>by
  show(DG _ _++JA E R B _ (i+1) xs).size=_;rw[ByteArray.size_append,K3,Zc0 E R B _ (i+1) xs,List.length_cons];omega
def Dy(E:Env)(kk:UInt8)(sz below:Nat)(st:Pl)(s:By):By×Pl:=
 (JA E (Dd kk.toNat below) (Dv kk s sz) st 0 (List.range ((s.size+sz-1)/sz)),E.puts (Dd kk.toNat below) (Dv kk s sz) st 0 (List.range ((s.size+sz-1)/sz)))
def DF(E:Env):Nat->Nat->Pl->By->By×Pl
 | 0,_,st,s=>(s,st)
 | d+1,below,st,s=>if 10<s.size then DF E d (below+1) (Dy E 2 60 below st s).2 (Dy E 2 60 below st s).1 else (s,st)
def Jr(E:Env)(C:NB)(st:Pl)(L:List It):By×Pl:=
 DF E 8 1 (Dy E 3 63 0 (Dw E C ⟨#[]⟩ st L).2 ((Dw E C ⟨#[]⟩ st L).1++⟨#[0]⟩)).2 (Dy E 3 63 0 (Dw E C ⟨#[]⟩ st L).2 ((Dw E C ⟨#[]⟩ st L).1++⟨#[0]⟩)).1
theorem StX.typed{n0 pb db sb so:Nat}{E:Env}{st:Pl}{O:Nat->Prop}{W:World}(h:StX n0 pb db sb so E st O W){j:Nat}(c:O j):∃L t,RowIs W j t L/\TT t=false:=by
 obtain⟨_,_,_,va,es,vp,b,_,_,_,d⟩:=h;rcases (d j).1 c with rfl|e|e
 ·exact⟨_,_,b.row,rfl⟩
 ·obtain⟨R,a⟩:=b.sa.type e;exact⟨R,350,a,rfl⟩
 ·obtain⟨R,a⟩:=Sl.type b.sp e;exact⟨R,207,a,rfl⟩
theorem SlB.typed{b:Nat}{w:World}{v:Value}{s:By}(h:SlB b w v s){g:Nat}(a:Own v g):∃L,RowIs w g 5 L:=h.1.type a
theorem U5{W:World}{j:Nat}{t:TypeId}{L:LVa}(h:RowIs W j t L)(b:TT t=false){o:Obj}(ho:W.heap[j]?=some o):¬KL o:=fun a=>by
 rw[show W.heap[j]? = _ from h]at ho
 cases ho
 have:=Zju a;rw[b]at this;cases this
theorem ZbA{W:World}{j:Nat}{t:TypeId}{L:LVa}(h:RowIs W j t L){o:Obj}(ho:W.heap[j]?=some o):o.isCells=true:=by
 rw[show W.heap[j]? = _ from h]at ho
 cases ho
 rfl
structure KpI(w:World)(n0 n1 pb db sb so tb:Nat)(E:Env)(O0:Nat->Prop)(st:Pl)(s last:By)(v:Value)(O:Nat->Prop)(W:World):Prop where
 st:StX n0 pb db sb so E st O W
 hO:∀j,O j->O0 j\/n1<=j
 b0:RowIs W w.heap.size 168 [.pointer (some ⟨pb,0,none⟩)]
 b1:RowIs W (w.heap.size+1) 59 [v]
 b2:RowIs W (w.heap.size+1+1) 9 [.string last]
 b3:RowIs W (w.heap.size+1+1+1) 37 [.pointer (some ⟨tb,0,none⟩)]
 rs:SlB n1 W v s
 dis:∀j,O j->¬Own v j
 fr:Fr O0 w W
 sz:w.heap.size+4<=W.heap.size
structure KpB(w:World)(n0 n1:Nat)(O0:Nat->Prop):Prop where
 o0:∀j,O0 j->j<w.heap.size
 n1:w.heap.size+4<=n1
 n0:n0<=w.heap.size
section
variable{w:World}{n0 n1 pb db sb so tb:Nat}{E:Env}{O0:Nat->Prop}{st:Pl}{s last:By}{v:Value}{O:Nat->Prop}{W W':World}
theorem KpI.fr'(f:KpB w n0 n1 O0)(h:KpI w n0 n1 pb db sb so tb E O0 st s last v O W){Z:Nat->Prop}(b:Fr Z W W')(a:∀j,Z j->¬O j/\¬Own v j/\w.heap.size+4<=j):KpI w n0 n1 pb db sb so tb E O0 st s last v O W':=by
 have h1:=f.n1;have h2:=f.n0;have d:∀{j t L},RowIs W j t L->j<w.heap.size+4->RowIs W' j t L:=fun {j t L} i c=>(b.block _ i.lt (fun e=>by have:=(a _ e).2.2;omega)).trans i
 refine⟨h.st.keeps b (fun j c=>⟨(a j c).1,by have:=(a j c).2.2;omega⟩),h.hO,d h.b0 (by omega),d h.b1 (by omega),d h.b2 (by omega),d h.b3 (by omega),⟨h.rs.1.fr b (fun g k e=>(a g e).2.1 k),h.rs.2⟩,h.dis,h.fr.then b (fun j c e=>by have:=(a j e).2.2;omega),Nat.le_trans h.sz b.size⟩
theorem KpI.chg(f:KpB w n0 n1 O0)(h:KpI w n0 n1 pb db sb so tb E O0 st s last v O W)(i:Chg (w.heap.size+4) W W'):KpI w n0 n1 pb db sb so tb E O0 st s last v O W':=by
 obtain⟨row,a,n⟩:=i;refine h.fr' f (Z:=fun j=>row=some j) ⟨a.os,a.tape,a.output,a.size,fun k m g=>a.block k m (fun e=>g e.symm)⟩ (fun j l=>?_);obtain⟨d,o,ho,c⟩:=n j l;refine⟨fun e=>?_,fun e=>?_,d⟩
 ·obtain⟨L,t,b,p⟩:=h.st.typed e;exact U5 b p ho c
 ·obtain⟨L,b⟩:=h.rs.typed e;exact U5 b rfl ho c
theorem KpI.say(c:KpB w n0 n1 O0)(hz:n1<=W.heap.size)(h:KpI w n0 n1 pb db sb so tb E O0 st s last v O W){u:Pl}{r:By}{a:Value}{O':Nat->Prop}(z:StX n0 pb db sb so E u O' W')(i:SlB n1 W' a r)(x:∀j,O' j->O j\/W.heap.size<=j)(y:∀j,O' j->¬Own a j)(d:Fr (fun j=>O j\/Own v j) W W'):
  KpI w n0 n1 pb db sb so tb E O0 u r last a O' (W'.setCell ⟨w.heap.size+1,0,none⟩ a)/\Fr (fun j=>O j\/Own v j\/j=w.heap.size+1) W (W'.setCell ⟨w.heap.size+1,0,none⟩ a):=by
 have h1:=c.n1;have h2:=c.n0;have h3:=h.sz;have h4:=d.size;have A:∀B,w.heap.size<=B->B<n1->¬O B:=fun B p m e=>by
  rcases h.hO B e with q|q
  ·have:=c.o0 B q;omega
  ·omega
 have o:∀B,B<n1->¬Own v B:=fun B q e=>by have:=h.rs.2 B e;omega
 have D:∀B,B<n1->¬Own a B:=fun B q e=>by have:=i.2 B e;omega
 have n:∀j,O' j->O0 j\/n1<=j:=fun j b=>(x j b).elim (h.hO j) (fun e => .inr (by omega))
 have C:¬O' (w.heap.size+1):=fun e=>by
  rcases n _ e with q|q
  ·have:=c.o0 _ q;omega
  ·omega
 have g:∀{j t L},RowIs W j t L->w.heap.size<=j->j<n1->RowIs W' j t L:=fun {j t L} f p m=>(d.block _ f.lt (fun e=>e.elim (A j p m) (o j m))).trans f
 have k:Fr (fun j=>j=w.heap.size+1) W' (W'.setCell ⟨w.heap.size+1,0,none⟩ a):=(Fr.refl _ _).set _ _ rfl;have l:∀{j t L},RowIs W' j t L->j≠w.heap.size+1->RowIs (W'.setCell ⟨w.heap.size+1,0,none⟩ a) j t L:=fun f b=>(Below.heap_setCell _ _ _ _ b).trans f
 refine⟨⟨z.keeps k (fun j b=>⟨fun ho=>C (by rw[<-b];exact ho),by omega⟩),n,l (g h.b0 (by omega) (by omega)) (by omega),(g h.b1 (by omega) (by omega)).set 0 a,l (g h.b2 (by omega) (by omega)) (by omega),l (g h.b3 (by omega) (by omega)) (by omega),⟨i.1.setCell _ _ (D (w.heap.size+1) (by omega)),i.2⟩,y,?_,by simp[World.setCell];omega⟩,?_⟩
 ·refine(h.fr.then d (fun j b e=>?_)).then k (fun j b e=>by omega);rcases e with e|e
  ·exact(h.hO j e).elim id (fun q=>by omega)
  ·exact absurd e (o j (by omega))
 ·exact(d.mono (fun j _ e=>e.elim .inl (fun e => .inr (.inl e)))).then k (fun j b e => .inr (.inr e))
theorem KpI.path(b:KpB w n0 n1 O0)(h:KpI w n0 n1 pb db sb so tb E O0 st s last v O W)(p:By):
  KpI w n0 n1 pb db sb so tb E O0 st s p v O (W.setCell ⟨w.heap.size+1+1,0,none⟩ (.string p))/\Fr (fun j=>j=w.heap.size+1+1) W (W.setCell ⟨w.heap.size+1+1,0,none⟩ (.string p)):=by
 have h1:=b.n1;have h2:=b.n0;have f:=h.sz;have i:¬O (w.heap.size+1+1):=fun e=>by
  rcases h.hO _ e with q|q
  ·have:=b.o0 _ q;omega
  ·omega
 have k:¬Own v (w.heap.size+1+1):=fun e=>by have:=h.rs.2 _ e;omega
 have c:Fr (fun j=>j=w.heap.size+1+1) W (W.setCell ⟨w.heap.size+1+1,0,none⟩ (.string p)):=(Fr.refl _ _).set _ _ rfl;have d:∀{j t L},RowIs W j t L->j≠w.heap.size+1+1->RowIs (W.setCell ⟨w.heap.size+1+1,0,none⟩ (.string p)) j t L:=fun g a=>(Below.heap_setCell _ _ _ _ a).trans g
 exact⟨⟨h.st.keeps c (fun j a=>⟨fun ho=>i (by rw[<-a];exact ho),by omega⟩),h.hO,d h.b0 (by omega),d h.b1 (by omega),h.b2.set 0 (.string p),d h.b3 (by omega),⟨h.rs.1.setCell _ _ k,h.rs.2⟩,h.dis,h.fr.then c (fun j a e=>by omega),by simp[World.setCell];exact f⟩,c⟩
theorem KpI.keeps(d:KpB w n0 n1 O0)(_hz:n1<=W.heap.size)(h:KpI w n0 n1 pb db sb so tb E O0 st s last v O W)(b:Fr (fun j=>O j\/Own v j\/j=w.heap.size+1\/j=w.heap.size+1+1) W W'):
  KpT n0 n1 W W'/\W'.heap[w.heap.size+1+1+1]?=W.heap[w.heap.size+1+1+1]?/\∀(k:Nat) (o:Obj),W.heap[k]?=some o->o.isCells=false->W'.heap[k]?=some o:=by
 have h1:=d.n1;have h2:=d.n0;have h3:=h.sz;have l:∀j,O j->n0<=j:=h.st.2.1;refine⟨⟨⟨b.os,b.tape,b.output,b.size,fun k i=>b.block k (by omega) (fun e=>?_)⟩,fun k o i ho f=>(b.block k (Array.getElem?_eq_some_iff.1 ho).1 (fun e=>?_)).trans ho⟩,b.block _ h.b3.lt (fun e=>?_),fun k o ho a=>(b.block k (Array.getElem?_eq_some_iff.1 ho).1 (fun e=>?_)).trans ho⟩
 ·rcases e with e|e|e|e
  ·have:=l k e;omega
  ·have:=h.rs.2 k e;omega
  ·omega
  ·omega
 ·rcases e with e|e|e|e
  ·obtain⟨L,t,c,g⟩:=h.st.typed e;exact U5 c g ho f
  ·obtain⟨L,c⟩:=h.rs.typed e;exact U5 c rfl ho f
  ·omega
  ·omega
 ·rcases e with e|e|e|e
  ·rcases h.hO _ e with q|q
   ·have:=d.o0 _ q;omega
   ·omega
  ·have:=h.rs.2 _ e;omega
  ·omega
  ·omega
 ·rcases e with e|e|e|e
  ·obtain⟨L,t,c,g⟩:=h.st.typed e;rw[ZbA c ho]at a;cases a
  ·obtain⟨L,c⟩:=h.rs.typed e;rw[ZbA c ho]at a;cases a
  ·subst e;rw[ZbA h.b1 ho]at a;cases a
  ·subst e;rw[ZbA h.b2 ho]at a;cases a
end
theorem itmV_1(a:NV)(ns:LY)(f:Nat):Ke a ⟨ns,1,f⟩ = .agg #[.string (jn ns),.int .u8 1,.int .i64 (f:Nat),.slice none 0 0]:=rfl
theorem entP_1(E:Env)(C:NB)(a:By)(st:Pl)(ns:LY)(f:Nat):Dx E C a st ⟨ns,1,f⟩=(Ds a (jn ns) 1++Do a (jn ns),st):=if_pos rfl
theorem entP_3(E:Env)(C:NB)(a:By)(st:Pl)(ns:LY)(f:Nat):Dx E C a st ⟨ns,3,f⟩=(Ds a (jn ns) 3++Do a (jn ns)++⟨#[UInt8.ofNat f]⟩,st):=(if_neg (by simp)).trans (if_pos rfl)
theorem entP_2(E:Env)(C:NB)(a:By)(st:Pl)(ns:LY)(f:Nat):Dx E C a st ⟨ns,2,f⟩=(Ds a (jn ns) 2++Do a (jn ns)++⟨#[UInt8.ofNat f]⟩++Ja (C f).size 2++JI E f (C f) st 0 (List.range (nBl (C f))),E.puts (Dd 4 f) (dtB (C f)) st 0 (List.range (nBl (C f)))):=(if_neg (by simp)).trans (if_neg (by simp))
theorem ZlY(X:World)(d n pb p q so:Nat)(E:Env)(Q:EnvOk E)(T:∃j,j<96/\E.nd j<=0)(st:Pl)(O:Nat->Prop)(u:StX d pb p q so E st O X)(a:OA)(l c:Nat)(s:By)(t:SlB n X (.slice a l c) s)(x:∀j,O j->¬Own (.slice a l c) j)(B:n<=X.heap.size)(V:d<=n)
  (C:NB) (F:NV) (y:It) (H:y.k=1\/y.k=2\/y.k=3) (W:(jn y.ns).size<=100) (S:y.f<60) (J:y.k=2->(C y.f).size<=1280) (m:By) (ac:m.size<=100)
  (G:y.k=2->∃v o w,F y.f = .slice v o w/\Sl X 5 1 (.slice v o w) o (Dc (C y.f))/\∀g,Own (.slice v o w) g->g<d)
  (q1:s.size<=30600) (q2:st.puts.length<=2000) (q3:st.ps.length<=2000) (q4:st.hd<=1536) (K:y.k=2->∀z∈st.puts,∀i,i<1000->z.1≠Dd 4 y.f i):
  Calls Tryz.prog 236 #[.pointer (some ⟨pb,0,none⟩),.slice a l c,.string m,Ke F y] X (Qr X n d pb p q so E O (.slice a l c) (Dx E C m st y).2 (s++(Dx E C m st y).1)):=by
 have r:∀j,Own (.slice a l c) j->d<=j:=fun j e=>Nat.le_trans V (t.2 j e)
 obtain⟨ns,k,f⟩:=y;simp only at H W S J G K;rcases H with rfl|rfl|rfl
 ·have h:=ZlX X n d pb p q so E st O u a l c s t (by omega) x r B m (jn ns) (by omega) (by omega) f (by omega) (.slice none 0 0) ⟨_,_,_,rfl⟩;rw[Jv]at h;rw[itmV_1,entP_1];exact h
 ·obtain⟨v,o,w,N,D,U⟩:=G rfl;have A:o=(C f).size:=by
   have:=D.1;rw[Dg]at this;omega
  have hz:=J rfl;have hn:=KE hz;rw[ZhX,N,entP_2];rcases D.2 with⟨e,h0⟩|⟨g,M,L,e,R,P,_⟩
  ·have h:=ZiW X n d pb p q so E st O u a l c s t (by omega) x r B m (jn ns) (by omega) (by omega) f (by omega);have aa:(C f).size=0:=by omega
   have I:nBl (C f)=0:=by unfold nBl;omega
   have Y:E.puts (Dd 4 f) (dtB (C f)) st 0 (List.range (nBl (C f)))=st:=by rw[I];rfl
   have Z:JI E f (C f) st 0 (List.range (nBl (C f)))=⟨#[]⟩:=by rw[I];rfl
   rw[Jv,Jv,Jv]at h;rw[e,Y,Z,Ky,Jv,Jv,aa];exact h
  ·have ab:=U g (by rw[e];rfl);have h:=Zko X n d pb p q so E st O u a l c s t (by omega) x r B m (jn ns) (by omega) (by omega) f (by omega) g 0 o M (C f) (SlB.rdB (b:=0) ⟨by rw[<-A,<-e];exact D,fun _ _=>Nat.zero_le _⟩) P (by omega) (fun e=>by have:=u.2.1 g e;omega) (fun e=>by have:=r g e;omega) R.lt Q T 1000 (by omega) (by omega) (by omega) q4 (K rfl) (nBl (C f)) (by rw[A];rfl) (by omega);rw[Jv,Jv,Jv,Jv,A]at h;rw[e,A,Jv,Jv,Jv];exact h
 ·have h:=Zkn X n d pb p q so E st O u a l c s t (by omega) x r B m (jn ns) (by omega) (by omega) f (by omega) (.slice none 0 0) ⟨_,_,_,rfl⟩;rw[Jv,Jv]at h;rw[ZhW,entP_3,Jv];exact h
def RowX(X:World)(n0 pb db sb so:Nat)(E:Env)(O:Nat->Prop)(st':Pl)(s':By)(e:Ending)(w6:World):Prop:=
 ∃a' l' c' O',e = .returned (.slice a' l' c')/\StX n0 pb db sb so E st' O' w6/\SlB X.heap.size w6 (.slice a' l' c') s'/\(∀j,O' j->O j\/X.heap.size<=j)/\(∀j,O' j->¬Own (.slice a' l' c') j)/\Fr O X w6
theorem SlB.some{b:Nat}{w:World}{a:OA}{l c:Nat}{s:By}(h:SlB b w (.slice a l c) s)(hs:1<=s.size):∃g,a=some ⟨g,0,none⟩/\l=s.size/\s.size<=c/\g<w.heap.size:=by
 rcases h.1.2 with⟨_,h0⟩|⟨g,aa,L,e,d,q,_⟩
 ·omega
 ·cases e;exact⟨g,rfl,rfl,q,d.lt⟩
theorem ZmF(X:World)(f pb k o so:Nat)(E:Env)(y:EnvOk E)(d:∃j,j<96/\E.nd j<=0)(st:Pl)(O:Nat->Prop)(m:StX f pb k o so E st O X)(b:Nat)(a:OA)(l c:Nat)(s:By)(p:SlB b X (.slice a l c) s)(C:∀j,O j->¬Own (.slice a l c) j)
  (v:1<=s.size) (w:s.size<60000) (H:st.puts.length+1000<=10000) (I:st.ps.length+1000<=1000000) (J:st.hd<=1536) (K:∀z∈st.puts,∀i,i<1000->z.1≠Dd 3 0 i):
  Calls Tryz.prog 237 #[.pointer (some ⟨pb,0,none⟩),.int .u8 3,.int .i64 ((0:Nat):Int),.slice a l c] X (RowX X f pb k o so E O (Dy E 3 63 0 st s).2 (Dy E 3 63 0 st s).1):=by
 obtain⟨g,rfl,rfl,F,D⟩:=p.some v;have A:∀j,O j->j<X.heap.size:=fun j d=>by obtain⟨cs,t,B⟩:=m.cells d;exact(Array.getElem?_eq_some_iff.1 B).1
 refine(ZkY X 1000 (by omega) f pb 0 (by omega) g 0 s.size c s p.rdB F w _ _ _ O O (fun n=>JA E (Dd 3 0) (Dv 3 s 63) st 0 n) m.2.2.1
  (Zk6 1000 f pb k o so E y d st H I J 3 0 K s 63) rfl (fun n x=>by have:=ZcZ E (Dd 3 0) (Dv 3 s 63) st 0 n x;rw[Nat.zero_add]at this;exact this) (Zc0 E _ _ st 0) m (fun _ h=>h) A (fun e=>C g e rfl) D ((s.size+63-1)/63) rfl (by omega)).mono ?_
 rintro e w6 ⟨r,G,u,O',rfl,q,L,M,N,P⟩;exact⟨r,G,u,O',rfl,L,⟨q.1,fun j d=>by have:=q.2 j d;omega⟩,fun j d=>(M j d).imp id (fun e=>by omega),N,P⟩
theorem ZmG(X:World)(k pb m p so:Nat)(E:Env)(A:EnvOk E)(f:∃j,j<96/\E.nd j<=0)(st:Pl)(O:Nat->Prop)(n:StX k pb m p so E st O X)(b:Nat)(a:OA)(l c:Nat)(s:By)(q:SlB b X (.slice a l c) s)(F:∀j,O j->¬Own (.slice a l c) j)(d:Nat)(D:d<65536)
  (w:1<=s.size) (y:s.size<60000) (J:st.puts.length+1000<=10000) (K:st.ps.length+1000<=1000000) (L:st.hd<=1536) (M:∀z∈st.puts,∀i,i<1000->z.1≠Dd 2 d i):
  Calls Tryz.prog 237 #[.pointer (some ⟨pb,0,none⟩),.int .u8 2,.int .i64 (d:Nat),.slice a l c] X (RowX X k pb m p so E O (Dy E 2 60 d st s).2 (Dy E 2 60 d st s).1):=by
 obtain⟨g,rfl,rfl,H,G⟩:=q.some w;have B:∀j,O j->j<X.heap.size:=fun j f=>by obtain⟨cs,t,C⟩:=n.cells f;exact(Array.getElem?_eq_some_iff.1 C).1
 refine(ZkZ X 1000 (by omega) k pb d D g 0 s.size c s q.rdB H y _ _ _ O O (fun o=>JA E (Dd 2 d) (Dv 2 s 60) st 0 o) n.2.2.1
  (Zk6 1000 k pb m p so E A f st J K L 2 d M s 60) rfl (fun o x=>by have:=ZcZ E (Dd 2 d) (Dv 2 s 60) st 0 o x;rw[Nat.zero_add]at this;exact this) (Zc0 E _ _ st 0) n (fun _ h=>h) B (fun e=>F g e rfl) G ((s.size+60-1)/60) rfl (by omega)).mono ?_
 rintro e w6 ⟨u,I,v,O',rfl,r,N,P,Q,R⟩;exact⟨u,I,v,O',rfl,N,⟨r.1,fun j f=>by have:=r.2 j f;omega⟩,fun j f=>(P j f).imp id (fun e=>by omega),Q,R⟩
def PutsK(below:Nat)(st:Pl):Prop:=∀y∈st.puts,∃kk f i,y.1=Dd kk f i/\i<1000/\(kk=4/\f<60\/kk=3/\f=0\/kk=2/\f<below)
theorem PutsK.row{a:Nat}{st:Pl}(h:PutsK a st)(_hb:a<60000)(E:Env)(B:NB)(n:Nat)(hn:n<=1000):PutsK (a+1) (E.puts (Dd 2 a) B st 0 (List.range n)):=fun y d=>by
 rcases Env.puts_mem E _ _ st 0 _ y d with q|⟨j,_,g,k⟩
 ·obtain⟨kk,f,i,e,b,c⟩:=h y q;exact⟨kk,f,i,e,b,c.imp id (fun e=>e.imp id (fun e=>⟨e.1,by omega⟩))⟩
 ·rw[List.length_range]at g;exact⟨2,a,j,k,by omega,.inr (.inr ⟨rfl,by omega⟩)⟩
theorem PutsK.fresh{a:Nat}{st:Pl}(h:PutsK a st)(hb:a<60000):∀z∈st.puts,∀i,i<1000->z.1≠Dd 2 a i:=fun z g i hi e=>by
 obtain⟨kk,f,j,c,hj,d⟩:=h z g;rw[c]at e;unfold Dd at e;rcases d with⟨rfl,b⟩|⟨rfl,b⟩|⟨rfl,b⟩<;>omega
structure IdxN(d below:Nat)(st:Pl)(s:By):Prop where
 bd:below+d=9
 pk:PutsK below st
 n1:st.puts.length+s.size<=8000
 n2:st.ps.length+s.size<=8000
 n3:st.hd<=1536
 n4:s.size<=10*6 ^ d
 n5:10<=s.size
 n6:∃n,s.size=10*n
theorem QO(E:Env)(kk:UInt8)(a b:Nat)(st:Pl)(s:By):(Dy E kk a b st s).1.size=10*((s.size+a-1)/a):=by
 unfold Dy;rw[Zc0,List.length_range]
theorem IdxN.next{d a:Nat}{st:Pl}{s:By}(h:IdxN d a st s)(hs:10<s.size)(E:Env):∃d',d=d'+1/\IdxN d' (a+1) (Dy E 2 60 a st s).2 (Dy E 2 60 a st s).1/\(Dy E 2 60 a st s).1.size<s.size:=by
 obtain⟨n,hn⟩:=h.n6;have h1:=h.n1;have h2:=h.n2;have b:=h.n4;have hb:=h.bd
 cases d with
 | zero=>simp at b;omega
 | succ d=>
  obtain⟨e,f,i⟩:=Env.puts_len E (Dd 2 a) (Dv 2 s 60) st 0 (List.range ((s.size+60-1)/60));rw[List.length_range]at e f;have c:=QO E 2 60 a st s;have g1:(Dy E 2 60 a st s).2.puts.length=st.puts.length+(s.size+60-1)/60:=e;have g2:(Dy E 2 60 a st s).2.ps.length<=st.ps.length+(s.size+60-1)/60:=f;have g:s.size<=60*6 ^ d:=by rw[Nat.pow_succ]at b;omega
  generalize 6 ^ d=m at g ⊢
  refine⟨d,rfl,⟨by omega,h.pk.row (by omega) E _ _ (by omega),by omega,by omega,i h.n3,?_,by omega,_,c⟩,by omega⟩;rw[c];omega
structure KpC(w wT:World)(n0 n1:Nat)(E:Env)(C:NB)(dv:NV)(L:List It)(st0:Pl)(O0:Nat->Prop):Prop where
 hB:KpB w n0 n1 O0
 o1:∀j,O0 j->n0<=j
 hE:EnvOk E
 hj:∃j,j<96/\E.nd j<=0
 hok:ItOk C L
 s0:st0.puts=[]
 s1:st0.ps=[]
 s2:st0.hd<=1536
 hT:Below n0 wT w
 hd:∀y∈L,y.k=2->∃a2 l2 c2,dv y.f = .slice a2 l2 c2/\Sl wT 5 1 (.slice a2 l2 c2) l2 (Dc (C y.f))/\∀g,Own (.slice a2 l2 c2) g->g<n0
theorem ZkM{E:Env}{C:NB}{L:List It}{st0:Pl}{k:Nat}{y:It}(a:L[k]?=some y):Dw E C ⟨#[]⟩ st0 (L.take (k+1))=((Dw E C ⟨#[]⟩ st0 (L.take k)).1++(Dx E C (JV ⟨#[]⟩ (L.take k)) (Dw E C ⟨#[]⟩ st0 (L.take k)).2 y).1,(Dx E C (JV ⟨#[]⟩ (L.take k)) (Dw E C ⟨#[]⟩ st0 (L.take k)).2 y).2)/\JV ⟨#[]⟩ (L.take (k+1))=jn y.ns:=by
 rw[List.take_add_one,a,Option.toList_some,ZhA,Zei];exact⟨rfl,rfl⟩
section
variable{w wT:World}{n0 n1 pb db sb so tb:Nat}{E:Env}{C:NB}{dv:NV}{L:List It}{st0:Pl}{O0:Nat->Prop}
theorem KpI.belowT(h:KpC w wT n0 n1 E C dv L st0 O0){st:Pl}{s b:By}{v:Value}{O:Nat->Prop}{X:World}(a:KpI w n0 n1 pb db sb so tb E O0 st s b v O X):Below n0 wT X:=
 h.hT.trans ⟨a.fr.os,a.fr.tape,a.fr.output,a.fr.size,fun k hk=>a.fr.block k (by have:=h.hB.n0;omega) (fun e=>by have:=h.o1 k e;omega)⟩
theorem KpC.round(h:KpC w wT n0 n1 E C dv L st0 O0){k:Nat}{y:It}(A:L[k]?=some y){a:OA}{l c:Nat}{O:Nat->Prop}{X:World}
  (b:KpI w n0 n1 pb db sb so tb E O0 (Dw E C ⟨#[]⟩ st0 (L.take k)).2 (Dw E C ⟨#[]⟩ st0 (L.take k)).1 (JV ⟨#[]⟩ (L.take k)) (.slice a l c) O X) (D:n1<=X.heap.size) {s:Nat} {u:OA} {x v:Nat}
  (hv:Ke dv y = .agg #[.string (jn y.ns),.int .u8 (y.k:Nat),.int .i64 (y.f:Nat),.slice u x v]) (n:RowIs X s 141 [.string (jn y.ns),.int .u8 (y.k:Nat),.int .i64 (y.f:Nat),.slice u x v]) (ad:n1<=s):
  Calls Tryz.prog 236 #[.pointer (some ⟨pb,0,none⟩),.slice a l c,.string (JV ⟨#[]⟩ (L.take k)),.agg #[.string (jn y.ns),.int .u8 (y.k:Nat),.int .i64 (y.f:Nat),.slice u x v]] X fun e f=>∃i p m,e = .returned (.slice i p m)/\f.cell? ⟨w.heap.size+1,0,none⟩=some (.slice a l c)/\f.frozen? ⟨w.heap.size+1,0,none⟩=false/\
   ∃Y1,f.setCell ⟨w.heap.size+1,0,none⟩ (.slice i p m)=Y1/\Y1.cell? ⟨s,0,none⟩=some (.string (jn y.ns))/\Y1.cell? ⟨w.heap.size+1+1,0,none⟩=some (.string (JV ⟨#[]⟩ (L.take k)))/\Y1.frozen? ⟨w.heap.size+1+1,0,none⟩=false/\
   Hid ((∃O',KpI w n0 n1 pb db sb so tb E O0 (Dw E C ⟨#[]⟩ st0 (L.take (k+1))).2 (Dw E C ⟨#[]⟩ st0 (L.take (k+1))).1 (JV ⟨#[]⟩ (L.take (k+1))) (.slice i p m) O' (Y1.setCell ⟨w.heap.size+1+1,0,none⟩ (.string (jn y.ns))))/\
    KpT n0 n1 X (Y1.setCell ⟨w.heap.size+1+1,0,none⟩ (.string (jn y.ns)))/\(Y1.setCell ⟨w.heap.size+1+1,0,none⟩ (.string (jn y.ns))).heap[w.heap.size+1+1+1]?=X.heap[w.heap.size+1+1+1]?/\∀(k:Nat) (o:Obj),X.heap[k]?=some o->o.isCells=false->(Y1.setCell ⟨w.heap.size+1+1,0,none⟩ (.string (jn y.ns))).heap[k]?=some o):=by
 have r:=List.mem_of_getElem? A;obtain⟨t1,t2,t3,t4,t5,t6⟩:=h.hok.turn E st0 h.s0 h.s1 h.s2 k y A;have Y:=b.belowT h;have hn:=h.hB.n0;have ae:=h.hB.n1;have I:=ZlY X n0 n1 pb db sb so E h.hE h.hj _ O b.st a l c _ b.rs b.dis D (by omega) C dv y (h.hok.kind y r) (h.hok.path y r) (h.hok.num y r) (h.hok.size y r) (JV ⟨#[]⟩ (L.take k)) t6 (fun hk=>by
  obtain⟨M,l2,N,P,Q,G⟩:=h.hd y r hk;refine⟨M,l2,N,P,Q.kept (fun g hg aa=>Y.block g (G g aa)),G⟩) t1 t2 t3 t4 t5
 rw[hv]at I;refine I.mono ?_;rintro e f ⟨i,p,m,O',rfl,W,ac,U,af,Z,J⟩;obtain⟨z,H⟩:=b.say h.hB D ac W U Z J;have nO:∀B,w.heap.size<=B->B<n1->¬O B:=fun B q1 q2 e=>by
  rcases b.hO B e with q|q
  ·have:=h.hB.o0 B q;omega
  ·omega
 have nV:∀B,B<n1->¬Own (.slice a l c) B:=fun B q e=>by have:=b.rs.2 B e;omega
 have F:RowIs f (w.heap.size+1) 59 [.slice a l c]:=(J.block _ b.b1.lt (fun e=>e.elim (nO _ (by omega) (by omega)) (nV _ (by omega)))).trans b.b1;have ab:RowIs (f.setCell ⟨w.heap.size+1,0,none⟩ (.slice i p m)) s 141 [.string (jn y.ns),.int .u8 (y.k:Nat),.int .i64 (y.f:Nat),.slice u x v]:=by
  refine(H.block _ n.lt (fun e=>?_)).trans n;rcases e with e|e|e
  ·obtain⟨K,t,d,ht⟩:=b.st.typed e;unfold RowIs at d n;rw[n]at d;cases d;cases ht
  ·obtain⟨K,d⟩:=b.rs.typed e;unfold RowIs at d n;rw[n]at d;cases d
  ·omega
 obtain⟨V,T⟩:=z.path h.hB (jn y.ns);obtain⟨R,S⟩:=ZkM (E:=E) (C:=C) (st0:=st0) A;refine⟨i,p,m,rfl,(F.cell 0).trans rfl,F.frozen 0,_,rfl,(ab.cell 0).trans rfl,(z.b2.cell 0).trans rfl,z.b2.frozen 0,⟨O',?_⟩,?_⟩
 ·rw[R,S];exact V
 ·exact b.keeps h.hB D ((H.mono (fun j _ e=>by rcases e with e|e|e;exact .inl e;exact .inr (.inl e);exact .inr (.inr (.inl e)))).then T (fun j _ e => .inr (.inr (.inr e))))
def TI(w:World)(n0 n1 pb db sb so tb:Nat)(E:Env)(O0:Nat->Prop)(D:Nat)(F:By×Pl)(below:Nat)(Y:World):Prop:=
 ∃d st s last a l c O,KpI w n0 n1 pb db sb so tb E O0 st s last (.slice a l c) O Y/\Y.heap[D]?=some (.deferred (some []))/\n1<=Y.heap.size/\IdxN d below st s/\DF E d below st s=F
theorem KpC.table(h:KpC w wT n0 n1 E C dv L st0 O0){a:OA}{l c:Nat}{O:Nat->Prop}{N:By}{X:World}
  (n:KpI w n0 n1 pb db sb so tb E O0 (Dw E C ⟨#[]⟩ st0 L).2 (Dw E C ⟨#[]⟩ st0 L).1 N (.slice a l c) O X) (k:n1<=X.heap.size) {D:Nat} (hD:X.heap[D]?=some (.deferred (some []))):
  ∃Z v F A m,X.drew.alloc (.cells #[.int .u8 0] 5)=Z/\(Builtin.append_ #[59,59] 59 #[.slice a l c,.slice (some ⟨X.heap.size,0,none⟩) 1 1]).run Tryz.prog Z = .ok (.slice v F A) m/\X.cell? ⟨w.heap.size,0,none⟩=some (.pointer (some ⟨pb,0,none⟩))/\Z.cell? ⟨w.heap.size,0,none⟩=some (.pointer (some ⟨pb,0,none⟩))/\m.cell? ⟨w.heap.size,0,none⟩=some (.pointer (some ⟨pb,0,none⟩))/\X.cell? ⟨w.heap.size+1,0,none⟩=some (.slice a l c)/\Z.cell? ⟨w.heap.size+1,0,none⟩=some (.slice a l c)/\
   Hid (Calls Tryz.prog 237 #[.pointer (some ⟨pb,0,none⟩),.int .u8 3,.int .i64 0,.slice v F A] m fun e g=>∃o r p,e = .returned (.slice o r p)/\g.cell? ⟨w.heap.size,0,none⟩=some (.pointer (some ⟨pb,0,none⟩))/\g.cell? ⟨w.heap.size+1,0,none⟩=some (.slice a l c)/\g.frozen? ⟨w.heap.size+1,0,none⟩=false/\(g.setCell ⟨w.heap.size+1,0,none⟩ (.slice o r p)).cell? ⟨w.heap.size,0,none⟩=some (.pointer (some ⟨pb,0,none⟩))/\
    Hid (TI w n0 n1 pb db sb so tb E O0 D (Jr E C st0 L) 1 (g.setCell ⟨w.heap.size+1,0,none⟩ (.slice o r p)))):=by
 have hn:=h.hB.n0;have al:=h.hB.n1;obtain⟨t1,t2,t3,H,Q⟩:=Qc E C ⟨#[]⟩ st0 L (fun z k=>⟨h.hok.path z k,h.hok.size z k,h.hok.kind z k⟩);rw[h.s0]at t2 Q;rw[h.s1]at t3;have H:=H h.s2;have ak:=h.hok.len;simp only[List.length_nil]at t2 t3;generalize hst:(Dw E C ⟨#[]⟩ st0 L).2=st at *
 generalize hss:(Dw E C ⟨#[]⟩ st0 L).1=s at *
 obtain⟨Z,eZ,xZ,kZ,sZ,bZ⟩:=De X.drew [.int .u8 0] 5;have J:Below X.heap.size X Z:=((Below.refl X.heap.size X).drew).trans bZ;have ai:RowIs Z X.heap.size 5 [.int .u8 0]:=xZ;have aj:=J.size;have d:KpI w n0 n1 pb db sb so tb E O0 st s N (.slice a l c) O Z:=n.fr' h.hB (Z:=fun _=>False) (Fr.of_below J) (fun _ e=>e.elim);obtain⟨v,F,A,m,r1,r2,G,r4⟩:=JY Z n1 (by omega) (.slice a l c) s d.rs ⟨X.heap.size,0,none⟩ 1 1 ⟨#[0]⟩ rfl (fun j u hu=>by rw[Addr.add_lit,Nat.zero_add,ai.cell];exact hu) (by omega);have nO:∀B,w.heap.size<=B->B<n1->¬O B:=fun B q1 q2 e=>by
  rcases n.hO B e with q|q
  ·have:=h.hB.o0 B q;omega
  ·omega
 have nV:∀B,B<n1->¬Own (.slice a l c) B:=fun B q e=>by have:=n.rs.2 B e;omega
 have I:RowIs m w.heap.size 168 _:=(G.block _ d.b0.lt (nV _ (by omega))).trans d.b0;have R:RowIs m (w.heap.size+1) 59 _:=(G.block _ d.b1.lt (nV _ (by omega))).trans d.b1;have ag:StX n0 pb db sb so E st O m:=d.st.keeps G (fun j f=>⟨fun ho=>d.dis j ho f,by have:=d.rs.2 j f;omega⟩);have ac:∀j,O j->¬Own (.slice v F A) j:=fun j f hv=>by
  rcases r4 j hv with e|e
  ·exact n.dis j f e
  ·obtain⟨cs,t,hb⟩:=d.st.cells f;have:=(Array.getElem?_eq_some_iff.1 hb).1;omega
 obtain⟨b,K⟩:∃b:By,b=s++⟨#[0]⟩:=⟨_,rfl⟩;have ah:b.size=s.size+1:=by rw[K];exact ByteArray.size_append
 rw[<-K]at r2;refine⟨Z,v,F,A,m,eZ,r1,(n.b0.cell 0).trans rfl,(d.b0.cell 0).trans rfl,(I.cell 0).trans rfl,(n.b1.cell 0).trans rfl,(d.b1.cell 0).trans rfl,?_⟩;refine(ZmF m n0 pb db sb so E h.hE h.hj st O ag n1 v F A _ r2 ac (by omega) (by omega) (by omega) (by omega) H (fun z k i hi e=>?_)).mono ?_
 ·rcases Q z k with q|⟨x,M,_,j,f,q⟩
  ·cases q
  ·have:=h.hok.num x M;have:=ZcY (by omega) (by omega) (by omega) (by omega) (q.symm.trans e);omega
 ·rintro e g ⟨o,r,p,O',rfl,p1,p2,p3,p4,P⟩;have am:=G.size;have aa:RowIs g w.heap.size 168 _:=(P.block _ I.lt (nO _ (by omega) (by omega))).trans I;have S:RowIs g (w.heap.size+1) 59 _:=(P.block _ R.lt (nO _ (by omega) (by omega))).trans R;have ad:Fr (fun j=>O j\/Own (.slice a l c) j) X g:=((Fr.of_below J).then (G.mono (Y:=fun j=>O j\/Own (.slice a l c) j) (fun j _ e => .inr e)) (fun _ _ e=>e)).then (P.mono (Y:=fun j=>O j\/Own (.slice a l c) j) (fun j _ e => .inl e)) (fun _ _ e=>e);obtain⟨U,T⟩:=n.say h.hB k p1 ⟨p2.1,fun j f=>by have:=p2.2 j f;omega⟩ (fun j f=>(p3 j f).imp id (fun e=>by omega)) p4 ad;have hk:=n.keeps h.hB k (T.mono (fun j _ e=>by rcases e with e|e|e;exact .inl e;exact .inr (.inl e);exact .inr (.inr (.inl e))));have ae:IdxN 8 1 (Dy E 3 63 0 st b).2 (Dy E 3 63 0 st b).1:=by
   obtain⟨W,m2,m3⟩:=Env.puts_len E (Dd 3 0) (Dv 3 b 63) st 0 (List.range ((b.size+63-1)/63));rw[List.length_range]at W m2;have V:=QO E 3 63 0 st b;have g1:(Dy E 3 63 0 st b).2.puts.length=st.puts.length+(b.size+63-1)/63:=W;have g2:(Dy E 3 63 0 st b).2.ps.length<=st.ps.length+(b.size+63-1)/63:=m2;rw[ah]at g1 g2 V;refine⟨rfl,fun y hy=>?_,by omega,by omega,m3 H,by omega,by omega,_,V⟩;rcases Env.puts_mem E _ _ st 0 _ y hy with q|⟨j,_,q2,q3⟩
   ·rcases Q y q with q|⟨x,M,_,j,f,q⟩
    ·cases q
    ·exact⟨4,x.f,j,q,by omega,.inl ⟨rfl,h.hok.num x M⟩⟩
   ·rw[List.length_range]at q2;exact⟨3,0,j,q3,by omega,.inr (.inl ⟨rfl,rfl⟩)⟩
  have af:DF E 8 1 (Dy E 3 63 0 st b).2 (Dy E 3 63 0 st b).1=Jr E C st0 L:=by unfold Jr;rw[hst,hss,<-K]
  have ab:TI w n0 n1 pb db sb so tb E O0 D (Jr E C st0 L) 1 (g.setCell ⟨w.heap.size+1,0,none⟩ (.slice o r p)):=⟨8,_,_,N,o,r,p,O',U,hk.2.2 D _ hD rfl,Nat.le_trans k T.size,ae,af⟩;exact⟨o,r,p,rfl,(aa.cell 0).trans rfl,(S.cell 0).trans rfl,S.frozen 0,(U.b0.cell 0).trans rfl,ab⟩
end
end Go.Proofs.YtaieidcohdhgpaaGreatDoor
