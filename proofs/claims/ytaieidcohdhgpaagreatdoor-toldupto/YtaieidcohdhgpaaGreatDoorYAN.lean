/- Told. -/
import Derived.Test.YtaieidcohdhgpaaGreatDoorYAM
namespace Go.Proofs.YtaieidcohdhgpaaGreatDoor
set_option maxHeartbeats 40000000
set_option maxRecDepth 100000
section
open Tryz
open Go.RowKit Go.Shelf
attribute [local go_sem] Oper.semAt_some
theorem VE(a:World)(tb g:Nat)(V:NV)(E:NS)(h:Value)(G:Gh)(I:LF)(C:IB)(ch:LY->List Ek)(f:NV)(H:LP a tb g V E h G I C ch f)(L:List It)(l n1 c:Nat)(J:Nat->World->Prop)(o:a.heap.size<=n1)(p:n1<=c)(m:∀k A A',J k A->GB n1 A A'->J k A')(n:∀k W1,k<L.length->J k W1->YieldAt Fence.wide 1 prog l (I9 f L k) W1 λe i=>e=.returned (.bool true)/\J (k+1) i/\Id a.heap.size n1 W1 i):
  ∀(d:Nat) (ns:LY) (b K:Nat) (S:F3) (w:World),FY G g ns b->7<=ns.length+d->(∀j y,(DV ch d ns S).1[j]?=some y->L[K+j]?=some y)->Iv a c J K S w->
   Cl 170 #[.pointer (some ⟨tb,0,none⟩),.pointer (some ⟨b,0,none⟩),.string (jn ns),.pointer (some ⟨c,0,none⟩),.func (.yield l) #[] #[]] w (P5 a n1 c J (K+(DV ch d ns S).1.length) (DV ch d ns S).2 w)
 |0,ns,b,K,S,w,hd,hlen,_,_=>by have:=(FY.le6 H.ok hd).1;omega
 |d+1,ns,b,K,S,w,hd,hlen,hL,hw=>Zk1 a tb g V E h G I C ch f H L l n1 c J o p m n d (VE a tb g V E h G I C ch f H L l n1 c J o p m n d) ns b K S w hd hlen hL hw
theorem Zkm:J7 (λ_=>false)=List.replicate 60 (.bool false):=by
 unfold J7;exact List.map_const' .. |>.trans (by rw[AU])
def Dt(ch:LY->List Ek):List It:=(DV ch 7 [] (λ_=>false)).1
theorem TZ(b z:World)(a tb f:Nat)(V:NV)(E:NS)(x:Value)(G:Gh)(I:LF)(C:IB)(ch:LY->List Ek)(q:NV)(H:LP b tb f V E x G I C ch q)(t:Bw b z)(r:FX z a 37 [.pointer (some ⟨tb,0,none⟩)]):
  ME 169 #[.pointer (some ⟨a,0,none⟩)] (I9 q (Dt ch)) (Dt ch).length (λn1 A B=>Id b.heap.size n1 A B/\B.heap[a]?=A.heap[a]?) z:=λl J W u s N h0=>by
 have n:FX W a 37 [.pointer (some ⟨tb,0,none⟩)]:=(u.block _ r.lt).trans r;have m:Bw b W:=t.trans (u.mono t.size);have D:=(n.cell 0).trans (show _=some (Value.pointer (some ⟨tb,0,none⟩)) from rfl);have L:=n.lt;have R:FX W tb 214 [.pointer (some ⟨f,0,none⟩),x]:=(m.block _ H.tw.t.lt).trans H.tw.t;obtain⟨c,F,T,w,s1,d⟩:=De W (List.replicate 60 (.bool false)) 245;have d1:c.cell? ⟨a,0,none⟩=some (.pointer (some ⟨tb,0,none⟩)):=(d.cell (p:=⟨a,0,none⟩) (Am _ _ D)).trans D;have d2:c.cell? ⟨tb,0,none⟩=some (.pointer (some ⟨f,0,none⟩)):=((w _ _ _ R).cell 0).trans rfl;have i:Bw b c:=m.trans (d.mono m.size);have P:Iv b W.heap.size (λk X=>J k X/\FX X a 37 [.pointer (some ⟨tb,0,none⟩)]) 0 (λ_=>false) c.drew:=⟨⟨s _ _ _ h0 (GB.below ⟨d.os,d.tape,d.output,d.size,d.block⟩),w _ _ _ n⟩,⟨i.os,i.tape,i.output,i.size,i.block⟩,by rw[Zkm];exact T⟩;have HW:Hid (Cl 170 #[.pointer (some ⟨tb,0,none⟩),.pointer (some ⟨f,0,none⟩),.string ⟨#[]⟩,.pointer (some ⟨W.heap.size,0,none⟩),.func (.yield l) #[] #[]] c.drew λe w'=>e=.returned (.bool true)/\w'.cell? ⟨a,0,none⟩=some (.pointer (some ⟨tb,0,none⟩))/\w'.cell? ⟨tb,0,none⟩=some (.pointer (some ⟨f,0,none⟩))/\Hid (J (Dt ch).length w')):=(VE b tb f V E x G I C ch q H (Dt ch) l W.heap.size W.heap.size (λk X=>J k X/\FX X a 37 [.pointer (some ⟨tb,0,none⟩)]) m.size (Aa _) (λk A U h O=>⟨s k A U h.1 O,O.row h.2 (.inl L)⟩) (λk c o h=>(N k c o h.1).mono λe W' ⟨v,g,o⟩=>⟨v,⟨g,o.2.trans h.2⟩,o.1⟩) 7 [] f 0 (λ_=>false) c.drew (.inl ⟨rfl,rfl⟩) (by simp) (λj y g=>by rw[Av];exact g) P).mono λe w' ⟨v,Q,ac⟩=>by
  have g:=Q.j;rw[Av]at g;refine⟨v,(g.2.cell 0).trans rfl,(Q.t.cell (p:=⟨tb,0,none⟩) H.tw.t.lt).trans ((H.tw.t.cell 0).trans rfl),g.1⟩
 have Y:=Db F;clear N s u r n m t R T w s1 d F P i H L;go_enter func169,ntmps169;go_upto_region 0 with fail;refine AX ?_;refine JN rfl 245 rfl Zw ?_;refine El ?_;rw[show W.alloc (.cells (List.replicate 60 (Value.bool false)).toArray 245)=c from Da Y]
 try simp only[pE]
 go_upto_region 1 with fail;refine AE (S:=λX=>X.cell? ⟨a,0,none⟩=some (.pointer (some ⟨tb,0,none⟩))/\X.cell? ⟨tb,0,none⟩=some (.pointer (some ⟨f,0,none⟩))) (by kernel_rfl) ⟨d1,d2⟩ (λab=>?_);refine tk 0 ?_;refine tk 1 ?_;refine tk 2 ?_;refine tk 3 ?_;refine tk 4 ?_;refine tk 5 ?_;refine rk 6 (λK M=>?_);go_simp;go_at_call 170;refine(Da HW).mono ?_;rintro e w'⟨rfl,q1,q2,Z⟩;go_wp2_with fail;refine M.out _ _ ⟨q1,q2⟩ (λaa=>?_);clear M K
 try simp only[pE]
 refine AO (by kernel_rfl) ?_ _;go_wp2
 go_end0
 exact⟨⟨_,rfl⟩,Da Z⟩
end
open Go.RowKit
def Gu(d:By):Nat:=(d.size+64-1)/64
def Dw(E:FZ)(C:NB)(last:By)(st:Pl)(x:It):By×Pl:=
 if x.k=1 then(Ds last (jn x.ns) 1++Do last (jn x.ns),st)
 else if x.k=3 then(Ds last (jn x.ns) 3++Do last (jn x.ns)++⟨#[UInt8.ofNat x.f]⟩,st)
 else(Ds last (jn x.ns) 2++Do last (jn x.ns)++⟨#[UInt8.ofNat x.f]⟩++Ja (C x.f).size 2++JQ E x.f (C x.f) st 0 (List.range (Gu (C x.f))),
  E.puts (Dd 4 x.f) (Gn (C x.f)) st 0 (List.range (Gu (C x.f))))
def Du(E:FZ)(C:NB):By->Pl->List It->By×Pl
 |_,st,[]=>(⟨#[]⟩,st)
 |last,st,x::xs=>((Dw E C last st x).1++(Du E C (jn x.ns) (Dw E C last st x).2 xs).1,(Du E C (jn x.ns) (Dw E C last st x).2 xs).2)
def J0:By->List It->By
 |last,[]=>last
 |_,x::xs=>J0 (jn x.ns) xs
theorem RJ:∀(last:By) (xs:List It) (x:It),J0 last (xs++[x])=jn x.ns
 |_,[],_=>rfl
 |_,y::xs,x=>RJ (jn y.ns) xs x
theorem V3(E:FZ)(C:NB):∀(last:By) (st:Pl) (xs:List It) (x:It),Du E C last st (xs++[x])=((Du E C last st xs).1++(Dw E C (J0 last xs) (Du E C last st xs).2 x).1,(Dw E C (J0 last xs) (Du E C last st xs).2 x).2)
 |last,st,[],x=>by
  show((Dw E C last st x).1++⟨#[]⟩,(Dw E C last st x).2)=(⟨#[]⟩++(Dw E C last st x).1,(Dw E C last st x).2);rw[Kv,Ud]
 |last,st,y::xs,x=>by
  show((Dw E C last st y).1++(Du E C (jn y.ns) (Dw E C last st y).2 (xs++[x])).1,(Du E C (jn y.ns) (Dw E C last st y).2 (xs++[x])).2)=_;rw[V3 E C (jn y.ns) (Dw E C last st y).2 xs x];show(_++(_++_),_)=((_++_)++_,_);rw[JA]
  rfl
structure GD(C:NB)(L:List It):Prop where
 len:L.length<=100
 kind:∀x∈L,x.k=1\/x.k=2\/x.k=3
 path:∀x∈L,(jn x.ns).size<=100
 num:∀x∈L,x.f<60
 size:∀x∈L,x.k=2->(C x.f).size<=1280
 fresh:∀(i j:Nat) x y,i<j->L[i]?=some x->L[j]?=some y->x.k=2->y.k=2->x.f≠y.f
theorem K7{d:By}(h:d.size<=1280):Gu d<=20:=by unfold Gu;omega
theorem Zmy(a p:By)(k:Nat):(Ds a p k).size=3:=rfl
theorem Vq(a p:By):(Do a p).size<=p.size:=by unfold Do;rw[Ah];omega
theorem YI(E:FZ)(C:NB)(a:By)(st:Pl)(x:It)(hp:(jn x.ns).size<=100)(l:x.k=2->(C x.f).size<=1280)(i:x.k=1\/x.k=2\/x.k=3):
  (Dw E C a st x).1.size<=306/\(Dw E C a st x).2.puts.length<=st.puts.length+20/\(Dw E C a st x).2.ps.length<=st.ps.length+20/\(st.hd<=1536->(Dw E C a st x).2.hd<=1536)/\
  ∀y∈(Dw E C a st x).2.puts,y∈st.puts\/(x.k=2/\∃j,j<20/\y.1=Dd 4 x.f j):=by
 have ht:=Vq a (jn x.ns);have c:∀k,(Ds a (jn x.ns) k).size=3:=λk=>rfl
 have d:∀u:UInt8,(⟨#[u]⟩:By).size=1:=λu=>rfl
 unfold Dw;rcases i with e|e|e
 ·rw[if_pos e];exact⟨by rw[Ai,c];omega,EW _ _,EW _ _,id,λy b => .inl b⟩
 ·rw[if_neg (by omega),if_neg (by omega)];have hn:=K7 (l e);obtain⟨m,n,o⟩:=FZ.puts_len E (Dd 4 x.f) (Gn (C x.f)) st 0 (List.range (Gu (C x.f)));rw[AU]at m n;have f:(E.puts (Dd 4 x.f) (Gn (C x.f)) st 0 (List.range (Gu (C x.f)))).puts.length<=st.puts.length+20:=by omega
  have g:(E.puts (Dd 4 x.f) (Gn (C x.f)) st 0 (List.range (Gu (C x.f)))).ps.length<=st.ps.length+20:=by omega
  refine⟨?_,f,g,o,λy b=>?_⟩
  ·simp only[Ai,c,d,Qe,RL,AU];omega
  ·rcases FZ.puts_mem E _ _ st 0 _ y b with h|⟨j,_,p,q⟩
   ·exact .inl h
   ·rw[AU]at p;exact .inr ⟨e,j,by omega,q⟩
 ·rw[if_neg (by omega),if_pos e];exact⟨by simp only[Ai,c,d];omega,EW _ _,EW _ _,id,λy b => .inl b⟩
theorem Qq(E:FZ)(C:NB):∀(last:By) (st:Pl) (xs:List It),(∀x∈xs,(jn x.ns).size<=100/\(x.k=2->(C x.f).size<=1280)/\(x.k=1\/x.k=2\/x.k=3))->
  (Du E C last st xs).1.size<=306*xs.length/\(Du E C last st xs).2.puts.length<=st.puts.length+20*xs.length/\(Du E C last st xs).2.ps.length<=st.ps.length+20*xs.length/\(st.hd<=1536->(Du E C last st xs).2.hd<=1536)/\
  ∀y∈(Du E C last st xs).2.puts,y∈st.puts\/∃x∈xs,x.k=2/\∃j,j<20/\y.1=Dd 4 x.f j
 |last,st,[],_=>⟨Aa _,Aa _,Aa _,id,λy a => .inl a⟩
 |last,st,x::xs,h=>by
  obtain⟨i,k,l⟩:=h x (by simp);obtain⟨a1,a2,a3,b,c⟩:=YI E C last st x i k l;obtain⟨b1,b2,b3,d,f⟩:=Qq E C (jn x.ns) (Dw E C last st x).2 xs (λy a=>h y (AF _ a));refine⟨?_,?_,?_,λh=>d (b h),λy a=>?_⟩
  ·show((Dw E C last st x).1++_).size<=_;rw[Ai,Al];omega
  ·show(Du E C _ _ xs).2.puts.length<=_;rw[Al];omega
  ·show(Du E C _ _ xs).2.ps.length<=_;rw[Al];omega
  ·rcases f y a with h|⟨z,g,r⟩
   ·rcases c y h with h|⟨e,r⟩
    ·exact .inl h
    ·exact .inr ⟨x,by simp,e,r⟩
   ·exact .inr ⟨z,AF _ g,r⟩
theorem Rp{kk f a i j:Nat}(hi:i<65536)(hj:j<65536)(_hf:f<65536)(_hf':a<65536)(h:Dd kk f i=Dd kk a j):f=a:=by unfold Dd at h;omega
theorem OB{kk kk' f a i j:Nat}(hi:i<65536)(hj:j<65536)(hf:f<65536)(aa:a<65536)(h:Dd kk f i=Dd kk' a j):kk=kk':=by unfold Dd at h;omega
theorem GD.turn{C:NB}{L:List It}(h:GD C L)(E:FZ)(st0:Pl)(p:st0.puts=[])(q:st0.ps=[])(r:st0.hd<=1536)(k:Nat)(x:It)(d:L[k]?=some x):
  (Du E C ⟨#[]⟩ st0 (L.take k)).1.size<=30600/\(Du E C ⟨#[]⟩ st0 (L.take k)).2.puts.length<=2000/\(Du E C ⟨#[]⟩ st0 (L.take k)).2.ps.length<=2000/\(Du E C ⟨#[]⟩ st0 (L.take k)).2.hd<=1536/\
  (x.k=2->∀y∈(Du E C ⟨#[]⟩ st0 (L.take k)).2.puts,∀i,i<1000->y.1≠Dd 4 x.f i)/\(J0 ⟨#[]⟩ (L.take k)).size<=100:=by
 have ac:=(Ae.1 d).1;have ab:=h.len;have ae:(L.take k).length=k:=by rw[An];omega
 obtain⟨b1,f,g,n,l⟩:=Qq E C ⟨#[]⟩ st0 (L.take k) (λz a=>⟨h.path z (Bv a),h.size z (Bv a),h.kind z (Bv a)⟩);rw[p]at f l;rw[q]at g;simp only[AK]at f g;refine⟨by omega,by omega,by omega,n r,λs y c i hi e=>?_,?_⟩
 ·rcases l y c with u|⟨z,a,v,j,hj,o⟩
  ·cases u
  ·obtain⟨m,b⟩:=CD.1 a;have ad:=b;rw[Ao]at b
   split at b
   ·rename_i t;have hf:=h.num z (Bv a);have aa:=h.num x (Ar d);exact h.fresh m k z x t b d v s (Rp (by omega) (by omega) (by omega) (by omega) (o.symm.trans e))
   ·cases b
 ·cases k with
  |zero=>exact Au _
  |succ k=>
   obtain⟨y,c⟩:∃y,L[k]?=some y:=⟨_,Ac (by omega)⟩;rw[BK,c,Fd,RJ];exact h.path y (Ar c)
def JG(E:FZ)(R:Nat->Nat)(B:NB):Pl->Nat->List Nat->By
 |_,_,[]=>⟨#[]⟩
 |st,i,x::xs=>DI (E.put st (R i) (B x)).1 (Dp (B x))++JG E R B (E.put st (R i) (B x)).2 (i+1) xs
theorem Oz(E:FZ)(R:Nat->Nat)(B:NB):∀(st:Pl) (i:Nat) (xs:List Nat) (x:Nat),JG E R B st i (xs++[x])=JG E R B st i xs++DI (E.put (E.puts R B st i xs) (R (i+xs.length)) (B x)).1 (Dp (B x))
 |st,i,[],x=>by
  show DI _ _++⟨#[]⟩=⟨#[]⟩++DI _ _;rw[Kv,Ud];rfl
 |st,i,y::xs,x=>by
  show DI _ _++JG E R B _ (i+1) (xs++[x])=DI _ _++JG E R B _ (i+1) xs++_;rw[Oz E R B _ (i+1) xs x,JA,Al,show i+1+xs.length=i+(xs.length+1) by omega]
  rfl
theorem Oy(E:FZ)(R:Nat->Nat)(B:NB):∀(st:Pl) (i:Nat) (xs:List Nat),(JG E R B st i xs).size=10*xs.length
 |st,i,[]=>rfl
 |st,i,x::xs=>by
  show(DI _ _++JG E R B _ (i+1) xs).size=_;rw[Ai,Qf,Oy E R B _ (i+1) xs,Al];omega
def Dy(E:FZ)(kk:UInt8)(sz below:Nat)(st:Pl)(s:By):By×Pl:=
 (JG E (Dd kk.toNat below) (Dx kk s sz) st 0 (List.range ((s.size+sz-1)/sz)),E.puts (Dd kk.toNat below) (Dx kk s sz) st 0 (List.range ((s.size+sz-1)/sz)))
def DH(E:FZ):Nat->Nat->Pl->By->By×Pl
 |0,_,st,s=>(s,st)
 |d+1,below,st,s=>if 10<s.size then DH E d (below+1) (Dy E 2 60 below st s).2 (Dy E 2 60 below st s).1 else(s,st)
def Jv(E:FZ)(C:NB)(st:Pl)(L:List It):By×Pl:=
 DH E 8 1 (Dy E 3 63 0 (Du E C ⟨#[]⟩ st L).2 ((Du E C ⟨#[]⟩ st L).1++⟨#[0]⟩)).2 (Dy E 3 63 0 (Du E C ⟨#[]⟩ st L).2 ((Du E C ⟨#[]⟩ st L).1++⟨#[0]⟩)).1
theorem GV.typed{n0 pb db sb so:Nat}{E:FZ}{st:Pl}{O:Nat->Prop}{W:World}(h:GV n0 pb db sb so E st O W){j:Nat}(c:O j):∃L t,FX W j t L/\TT t=false:=by
 obtain⟨_,_,_,va,es,vp,b,_,_,_,d⟩:=h;rcases(d j).1 c with rfl|e|e
 ·exact⟨_,_,b.row,rfl⟩
 ·obtain⟨R,a⟩:=b.sa.type e;exact⟨R,350,a,rfl⟩
 ·obtain⟨R,a⟩:=Sl.type b.sp e;exact⟨R,207,a,rfl⟩
theorem F9.typed{b:Nat}{w:World}{v:Value}{s:By}(h:F9 b w v s){g:Nat}(a:Own v g):∃L,FX w g 5 L:=h.1.type a
theorem NW{W:World}{j:Nat}{t:TypeId}{L:F0}(h:FX W j t L)(b:TT t=false){o:Obj}(ho:W.heap[j]?=some o):¬KY o:=λa=>by
 rw[show W.heap[j]? = _ from h]at ho
 cases ho
 have:=NU a;rw[b]at this;cases this
theorem OJ{W:World}{j:Nat}{t:TypeId}{L:F0}(h:FX W j t L){o:Obj}(ho:W.heap[j]?=some o):o.isCells=true:=by
 rw[show W.heap[j]? = _ from h]at ho
 cases ho
 rfl
structure Hn(w:World)(n0 n1 pb db sb so tb:Nat)(E:FZ)(O0:Nat->Prop)(st:Pl)(s last:By)(v:Value)(O:Nat->Prop)(W:World):Prop where
 st:GV n0 pb db sb so E st O W
 hO:∀j,O j->O0 j\/n1<=j
 b0:FX W w.heap.size 168 [.pointer (some ⟨pb,0,none⟩)]
 b1:FX W (w.heap.size+1) 59 [v]
 b2:FX W (w.heap.size+1+1) 9 [.string last]
 b3:FX W (w.heap.size+1+1+1) 37 [.pointer (some ⟨tb,0,none⟩)]
 rs:F9 n1 W v s
 dis:∀j,O j->¬Own v j
 fr:Fr O0 w W
 sz:w.heap.size+4<=W.heap.size
structure MS(w:World)(n0 n1:Nat)(O0:Nat->Prop):Prop where
 o0:∀j,O0 j->j<w.heap.size
 n1:w.heap.size+4<=n1
 n0:n0<=w.heap.size
section
variable{w:World}{n0 n1 pb db sb so tb:Nat}{E:FZ}{O0:Nat->Prop}{st:Pl}{s last:By}{v:Value}{O:Nat->Prop}{W W':World}
theorem Hn.fr'(f:MS w n0 n1 O0)(h:Hn w n0 n1 pb db sb so tb E O0 st s last v O W){Z:Nat->Prop}(b:Fr Z W W')(a:∀j,Z j->¬O j/\¬Own v j/\w.heap.size+4<=j):Hn w n0 n1 pb db sb so tb E O0 st s last v O W':=by
 have h1:=f.n1;have h2:=f.n0;have d:∀{j t L},FX W j t L->j<w.heap.size+4->FX W' j t L:=λ{j t L} i c=>(b.block _ i.lt (λe=>by have:=(a _ e).2.2;omega)).trans i
 refine⟨h.st.keeps b (λj c=>⟨(a j c).1,by have:=(a j c).2.2;omega⟩),h.hO,d h.b0 (by omega),d h.b1 (by omega),d h.b2 (by omega),d h.b3 (by omega),⟨h.rs.1.fr b (λg k e=>(a g e).2.1 k),h.rs.2⟩,h.dis,h.fr.then b (λj c e=>by have:=(a j e).2.2;omega),Af h.sz b.size⟩
theorem Hn.chg(f:MS w n0 n1 O0)(h:Hn w n0 n1 pb db sb so tb E O0 st s last v O W)(i:GB (w.heap.size+4) W W'):Hn w n0 n1 pb db sb so tb E O0 st s last v O W':=by
 obtain⟨row,a,n⟩:=i;refine h.fr' f (Z:=λj=>row=some j) ⟨a.os,a.tape,a.output,a.size,λk m g=>a.block k m (λe=>g e.symm)⟩ (λj l=>?_);obtain⟨d,o,ho,c⟩:=n j l;refine⟨λe=>?_,λe=>?_,d⟩
 ·obtain⟨L,t,b,p⟩:=h.st.typed e;exact NW b p ho c
 ·obtain⟨L,b⟩:=h.rs.typed e;exact NW b rfl ho c
theorem Hn.say(c:MS w n0 n1 O0)(hz:n1<=W.heap.size)(h:Hn w n0 n1 pb db sb so tb E O0 st s last v O W){u:Pl}{r:By}{a:Value}{O':Nat->Prop}(z:GV n0 pb db sb so E u O' W')(i:F9 n1 W' a r)(x:∀j,O' j->O j\/W.heap.size<=j)(y:∀j,O' j->¬Own a j)(d:Fr (λj=>O j\/Own v j) W W'):
  Hn w n0 n1 pb db sb so tb E O0 u r last a O' (W'.setCell ⟨w.heap.size+1,0,none⟩ a)/\Fr (λj=>O j\/Own v j\/j=w.heap.size+1) W (W'.setCell ⟨w.heap.size+1,0,none⟩ a):=by
 have h1:=c.n1;have h2:=c.n0;have h3:=h.sz;have h4:=d.size;have A:∀B,w.heap.size<=B->B<n1->¬O B:=λB p m e=>by
  rcases h.hO B e with q|q
  ·have:=c.o0 B q;omega
  ·omega
 have o:∀B,B<n1->¬Own v B:=λB q e=>by have:=h.rs.2 B e;omega
 have D:∀B,B<n1->¬Own a B:=λB q e=>by have:=i.2 B e;omega
 have n:∀j,O' j->O0 j\/n1<=j:=λj b=>(x j b).elim (h.hO j) (λe => .inr (by omega))
 have C:¬O' (w.heap.size+1):=λe=>by
  rcases n _ e with q|q
  ·have:=c.o0 _ q;omega
  ·omega
 have g:∀{j t L},FX W j t L->w.heap.size<=j->j<n1->FX W' j t L:=λ{j t L} f p m=>(d.block _ f.lt (λe=>e.elim (A j p m) (o j m))).trans f
 have k:Fr (λj=>j=w.heap.size+1) W' (W'.setCell ⟨w.heap.size+1,0,none⟩ a):=(Fr.refl _ _).set _ _ rfl;have l:∀{j t L},FX W' j t L->j≠w.heap.size+1->FX (W'.setCell ⟨w.heap.size+1,0,none⟩ a) j t L:=λf b=>(Aw _ _ _ _ b).trans f
 refine⟨⟨z.keeps k (λj b=>⟨λho=>C (by rw[<-b];exact ho),by omega⟩),n,l (g h.b0 (by omega) (by omega)) (by omega),(g h.b1 (by omega) (by omega)).set 0 a,l (g h.b2 (by omega) (by omega)) (by omega),l (g h.b3 (by omega) (by omega)) (by omega),⟨i.1.setCell _ _ (D (w.heap.size+1) (by omega)),i.2⟩,y,?_,by simp[World.setCell];omega⟩,?_⟩
 ·refine(h.fr.then d (λj b e=>?_)).then k (λj b e=>by omega);rcases e with e|e
  ·exact(h.hO j e).elim id (λq=>by omega)
  ·exact absurd e (o j (by omega))
 ·exact(d.mono (λj _ e=>e.elim .inl (λe => .inr (.inl e)))).then k (λj b e => .inr (.inr e))
theorem Hn.path(b:MS w n0 n1 O0)(h:Hn w n0 n1 pb db sb so tb E O0 st s last v O W)(p:By):
  Hn w n0 n1 pb db sb so tb E O0 st s p v O (W.setCell ⟨w.heap.size+1+1,0,none⟩ (.string p))/\Fr (λj=>j=w.heap.size+1+1) W (W.setCell ⟨w.heap.size+1+1,0,none⟩ (.string p)):=by
 have h1:=b.n1;have h2:=b.n0;have f:=h.sz;have i:¬O (w.heap.size+1+1):=λe=>by
  rcases h.hO _ e with q|q
  ·have:=b.o0 _ q;omega
  ·omega
 have k:¬Own v (w.heap.size+1+1):=λe=>by have:=h.rs.2 _ e;omega
 have c:Fr (λj=>j=w.heap.size+1+1) W (W.setCell ⟨w.heap.size+1+1,0,none⟩ (.string p)):=(Fr.refl _ _).set _ _ rfl;have d:∀{j t L},FX W j t L->j≠w.heap.size+1+1->FX (W.setCell ⟨w.heap.size+1+1,0,none⟩ (.string p)) j t L:=λg a=>(Aw _ _ _ _ a).trans g
 exact⟨⟨h.st.keeps c (λj a=>⟨λho=>i (by rw[<-a];exact ho),by omega⟩),h.hO,d h.b0 (by omega),d h.b1 (by omega),h.b2.set 0 (.string p),d h.b3 (by omega),⟨h.rs.1.setCell _ _ k,h.rs.2⟩,h.dis,h.fr.then c (λj a e=>by omega),by simp[World.setCell];exact f⟩,c⟩
theorem Hn.keeps(d:MS w n0 n1 O0)(_hz:n1<=W.heap.size)(h:Hn w n0 n1 pb db sb so tb E O0 st s last v O W)(b:Fr (λj=>O j\/Own v j\/j=w.heap.size+1\/j=w.heap.size+1+1) W W'):
  Id n0 n1 W W'/\W'.heap[w.heap.size+1+1+1]?=W.heap[w.heap.size+1+1+1]?/\∀(k:Nat) (o:Obj),W.heap[k]?=some o->o.isCells=false->W'.heap[k]?=some o:=by
 have h1:=d.n1;have h2:=d.n0;have h3:=h.sz;have l:∀j,O j->n0<=j:=h.st.2.1;refine⟨⟨⟨b.os,b.tape,b.output,b.size,λk i=>b.block k (by omega) (λe=>?_)⟩,λk o i ho f=>(b.block k (Aj.1 ho).1 (λe=>?_)).trans ho⟩,b.block _ h.b3.lt (λe=>?_),λk o ho a=>(b.block k (Aj.1 ho).1 (λe=>?_)).trans ho⟩
 ·rcases e with e|e|e|e
  ·have:=l k e;omega
  ·have:=h.rs.2 k e;omega
  ·omega
  ·omega
 ·rcases e with e|e|e|e
  ·obtain⟨L,t,c,g⟩:=h.st.typed e;exact NW c g ho f
  ·obtain⟨L,c⟩:=h.rs.typed e;exact NW c rfl ho f
  ·omega
  ·omega
 ·rcases e with e|e|e|e
  ·rcases h.hO _ e with q|q
   ·have:=d.o0 _ q;omega
   ·omega
  ·have:=h.rs.2 _ e;omega
  ·omega
  ·omega
 ·rcases e with e|e|e|e
  ·obtain⟨L,t,c,g⟩:=h.st.typed e;rw[OJ c ho]at a;cases a
  ·obtain⟨L,c⟩:=h.rs.typed e;rw[OJ c ho]at a;cases a
  ·subst e;rw[OJ h.b1 ho]at a;cases a
  ·subst e;rw[OJ h.b2 ho]at a;cases a
end
theorem itmV_1(a:NV)(ns:LY)(f:Nat):J5 a ⟨ns,1,f⟩=.agg #[.string (jn ns),.int .u8 1,.int .i64 (f:Nat),.slice none 0 0]:=rfl
theorem entP_1(E:FZ)(C:NB)(a:By)(st:Pl)(ns:LY)(f:Nat):Dw E C a st ⟨ns,1,f⟩=(Ds a (jn ns) 1++Do a (jn ns),st):=if_pos rfl
theorem entP_3(E:FZ)(C:NB)(a:By)(st:Pl)(ns:LY)(f:Nat):Dw E C a st ⟨ns,3,f⟩=(Ds a (jn ns) 3++Do a (jn ns)++⟨#[UInt8.ofNat f]⟩,st):=(if_neg (by simp)).trans (if_pos rfl)
theorem entP_2(E:FZ)(C:NB)(a:By)(st:Pl)(ns:LY)(f:Nat):Dw E C a st ⟨ns,2,f⟩=(Ds a (jn ns) 2++Do a (jn ns)++⟨#[UInt8.ofNat f]⟩++Ja (C f).size 2++JQ E f (C f) st 0 (List.range (Gu (C f))),E.puts (Dd 4 f) (Gn (C f)) st 0 (List.range (Gu (C f)))):=(if_neg (by simp)).trans (if_neg (by simp))
theorem Zmx(X:World)(d n1 pb o p so:Nat)(E:FZ)(P:Gt E)(S:∃j,j<96/\E.nd j<=0)(st:Pl)(O:Nat->Prop)(t:GV d pb o p so E st O X)(a:OA)(l c:Nat)(s:By)(r:F9 n1 X (.slice a l c) s)(w:∀j,O j->¬Own (.slice a l c) j)(A:n1<=X.heap.size)(U:d<=n1)(C:NB)(D:NV)(y:It)(G:y.k=1\/y.k=2\/y.k=3)(V:(jn y.ns).size<=100)(R:y.f<60)(I:y.k=2->(C y.f).size<=1280)(m:By)(ac:m.size<=100)(F:y.k=2->∃u n v,D y.f=.slice u n v/\Sl X 5 1 (.slice u n v) n (Dc (C y.f))/\∀g,Own (.slice u n v) g->g<d)(q1:s.size<=30600)(q2:st.puts.length<=2000)(q3:st.ps.length<=2000)(q4:st.hd<=1536)(J:y.k=2->∀z∈st.puts,∀i,i<1000->z.1≠Dd 4 y.f i):
  Cl 236 #[.pointer (some ⟨pb,0,none⟩),.slice a l c,.string m,J5 D y] X (QC X n1 d pb o p so E O (.slice a l c) (Dw E C m st y).2 (s++(Dw E C m st y).1)):=by
 have q:∀j,Own (.slice a l c) j->d<=j:=λj e=>Af U (r.2 j e)
 obtain⟨ns,k,f⟩:=y;simp only at G V R I F J;rcases G with rfl|rfl|rfl
 ·have h:=Zmw X n1 d pb o p so E st O t a l c s r (by omega) w q A m (jn ns) (by omega) (by omega) f (by omega) (.slice none 0 0) ⟨_,_,_,rfl⟩;rw[JA]at h;rw[itmV_1,entP_1];exact h
 ·obtain⟨u,n,v,M,B,T⟩:=F rfl;have x:n=(C f).size:=by
   have:=B.1;rw[Dg]at this;omega
  have Z:=I rfl;have hn:=K7 Z;rw[Wc,M,entP_2];rcases B.2 with⟨e,h0⟩|⟨g,K,L,e,Q,N,_⟩
  ·have h:=Zjf X n1 d pb o p so E st O t a l c s r (by omega) w q A m (jn ns) (by omega) (by omega) f (by omega);have aa:(C f).size=0:=by omega
   have H:Gu (C f)=0:=by unfold Gu;omega
   have W:E.puts (Dd 4 f) (Gn (C f)) st 0 (List.range (Gu (C f)))=st:=by rw[H];rfl
   have Y:JQ E f (C f) st 0 (List.range (Gu (C f)))=⟨#[]⟩:=by rw[H];rfl
   rw[JA,JA,JA]at h;rw[e,W,Y,Kv,JA,JA,aa];exact h
  ·have ab:=T g (by rw[e];rfl);have h:=ZkK X n1 d pb o p so E st O t a l c s r (by omega) w q A m (jn ns) (by omega) (by omega) f (by omega) g 0 n K (C f) (F9.rdB (b:=0) ⟨by rw[<-x,<-e];exact B,λ_ _=>Au _⟩) N (by omega) (λe=>by have:=t.2.1 g e;omega) (λe=>by have:=q g e;omega) Q.lt P S 1000 (by omega) (by omega) (by omega) q4 (J rfl) (Gu (C f)) (by rw[x];rfl) (by omega);rw[JA,JA,JA,JA,x]at h;rw[e,x,JA,JA,JA];exact h
 ·have h:=ZkJ X n1 d pb o p so E st O t a l c s r (by omega) w q A m (jn ns) (by omega) (by omega) f (by omega) (.slice none 0 0) ⟨_,_,_,rfl⟩;rw[JA,JA]at h;rw[Wd,entP_3,JA];exact h
def NC(X:World)(n0 pb db sb so:Nat)(E:FZ)(O:Nat->Prop)(st':Pl)(s':By)(e:Ending)(w6:World):Prop:=
 ∃a' l' c' O',e=.returned (.slice a' l' c')/\GV n0 pb db sb so E st' O' w6/\F9 X.heap.size w6 (.slice a' l' c') s'/\(∀j,O' j->O j\/X.heap.size<=j)/\(∀j,O' j->¬Own (.slice a' l' c') j)/\Fr O X w6
theorem F9.some{b:Nat}{w:World}{a:OA}{l c:Nat}{s:By}(h:F9 b w (.slice a l c) s)(hs:1<=s.size):∃g,a=some ⟨g,0,none⟩/\l=s.size/\s.size<=c/\g<w.heap.size:=by
 rcases h.1.2 with⟨_,h0⟩|⟨g,aa,L,e,d,q,_⟩
 ·omega
 ·cases e;exact⟨g,rfl,rfl,q,d.lt⟩
theorem ZO(X:World)(f pb k o so:Nat)(E:FZ)(y:Gt E)(d:∃j,j<96/\E.nd j<=0)(st:Pl)(O:Nat->Prop)(m:GV f pb k o so E st O X)(b:Nat)(a:OA)(l c:Nat)(s:By)(p:F9 b X (.slice a l c) s)(C:∀j,O j->¬Own (.slice a l c) j)(v:1<=s.size)(w:s.size<60000)(H:st.puts.length+1000<=10000)(I:st.ps.length+1000<=1000000)(J:st.hd<=1536)(K:∀z∈st.puts,∀i,i<1000->z.1≠Dd 3 0 i):
  Cl 237 #[.pointer (some ⟨pb,0,none⟩),.int .u8 3,.int .i64 ((0:Nat):Int),.slice a l c] X (NC X f pb k o so E O (Dy E 3 63 0 st s).2 (Dy E 3 63 0 st s).1):=by
 obtain⟨g,rfl,rfl,F,D⟩:=p.some v;have A:∀j,O j->j<X.heap.size:=λj d=>by obtain⟨cs,t,B⟩:=m.cells d;exact(Aj.1 B).1
 refine(Zlt X 1000 (by omega) f pb 0 (by omega) g 0 s.size c s p.rdB F w _ _ _ O O (λn=>JG E (Dd 3 0) (Dx 3 s 63) st 0 n) m.2.2.1
  (To 1000 f pb k o so E y d st H I J 3 0 K s 63) rfl (λn x=>by have:=Oz E (Dd 3 0) (Dx 3 s 63) st 0 n x;rw[Av]at this;exact this) (Oy E _ _ st 0) m (λ_ h=>h) A (λe=>C g e rfl) D ((s.size+63-1)/63) rfl (by omega)).mono ?_
 rintro e w6⟨r,G,u,O',rfl,q,L,M,N,P⟩;exact⟨r,G,u,O',rfl,L,⟨q.1,λj d=>by have:=q.2 j d;omega⟩,λj d=>(M j d).imp id (λe=>by omega),N,P⟩
theorem ZN(X:World)(k pb m p so:Nat)(E:FZ)(A:Gt E)(f:∃j,j<96/\E.nd j<=0)(st:Pl)(O:Nat->Prop)(n:GV k pb m p so E st O X)(b:Nat)(a:OA)(l c:Nat)(s:By)(q:F9 b X (.slice a l c) s)(F:∀j,O j->¬Own (.slice a l c) j)(d:Nat)(D:d<65536)(w:1<=s.size)(y:s.size<60000)(J:st.puts.length+1000<=10000)(K:st.ps.length+1000<=1000000)(L:st.hd<=1536)(M:∀z∈st.puts,∀i,i<1000->z.1≠Dd 2 d i):
  Cl 237 #[.pointer (some ⟨pb,0,none⟩),.int .u8 2,.int .i64 (d:Nat),.slice a l c] X (NC X k pb m p so E O (Dy E 2 60 d st s).2 (Dy E 2 60 d st s).1):=by
 obtain⟨g,rfl,rfl,H,G⟩:=q.some w;have B:∀j,O j->j<X.heap.size:=λj f=>by obtain⟨cs,t,C⟩:=n.cells f;exact(Aj.1 C).1
 refine(Zlu X 1000 (by omega) k pb d D g 0 s.size c s q.rdB H y _ _ _ O O (λo=>JG E (Dd 2 d) (Dx 2 s 60) st 0 o) n.2.2.1
  (To 1000 k pb m p so E A f st J K L 2 d M s 60) rfl (λo x=>by have:=Oz E (Dd 2 d) (Dx 2 s 60) st 0 o x;rw[Av]at this;exact this) (Oy E _ _ st 0) n (λ_ h=>h) B (λe=>F g e rfl) G ((s.size+60-1)/60) rfl (by omega)).mono ?_
 rintro e w6⟨u,I,v,O',rfl,r,N,P,Q,R⟩;exact⟨u,I,v,O',rfl,N,⟨r.1,λj f=>by have:=r.2 j f;omega⟩,λj f=>(P j f).imp id (λe=>by omega),Q,R⟩
def Hz(below:Nat)(st:Pl):Prop:=∀y∈st.puts,∃kk f i,y.1=Dd kk f i/\i<1000/\(kk=4/\f<60\/kk=3/\f=0\/kk=2/\f<below)
theorem Hz.row{a:Nat}{st:Pl}(h:Hz a st)(_hb:a<60000)(E:FZ)(B:NB)(n:Nat)(hn:n<=1000):Hz (a+1) (E.puts (Dd 2 a) B st 0 (List.range n)):=λy d=>by
 rcases FZ.puts_mem E _ _ st 0 _ y d with q|⟨j,_,g,k⟩
 ·obtain⟨kk,f,i,e,b,c⟩:=h y q;exact⟨kk,f,i,e,b,c.imp id (λe=>e.imp id (λe=>⟨e.1,by omega⟩))⟩
 ·rw[AU]at g;exact⟨2,a,j,k,by omega,.inr (.inr ⟨rfl,by omega⟩)⟩
theorem Hz.fresh{a:Nat}{st:Pl}(h:Hz a st)(hb:a<60000):∀z∈st.puts,∀i,i<1000->z.1≠Dd 2 a i:=λz g i hi e=>by
 obtain⟨kk,f,j,c,hj,d⟩:=h z g;rw[c]at e;unfold Dd at e;rcases d with⟨rfl,b⟩|⟨rfl,b⟩|⟨rfl,b⟩<;>omega
structure H1(d below:Nat)(st:Pl)(s:By):Prop where
 bd:below+d=9
 pk:Hz below st
 n1:st.puts.length+s.size<=8000
 n2:st.ps.length+s.size<=8000
 n3:st.hd<=1536
 n4:s.size<=10*6 ^ d
 n5:10<=s.size
 n6:∃n,s.size=10*n
theorem QQ(E:FZ)(kk:UInt8)(a b:Nat)(st:Pl)(s:By):(Dy E kk a b st s).1.size=10*((s.size+a-1)/a):=by
 unfold Dy;rw[Oy,AU]
theorem H1.next{d a:Nat}{st:Pl}{s:By}(h:H1 d a st s)(hs:10<s.size)(E:FZ):∃d',d=d'+1/\H1 d' (a+1) (Dy E 2 60 a st s).2 (Dy E 2 60 a st s).1/\(Dy E 2 60 a st s).1.size<s.size:=by
 obtain⟨n,hn⟩:=h.n6;have h1:=h.n1;have h2:=h.n2;have b:=h.n4;have hb:=h.bd
 cases d with
 |zero=>simp at b;omega
 |succ d=>
  obtain⟨e,f,i⟩:=FZ.puts_len E (Dd 2 a) (Dx 2 s 60) st 0 (List.range ((s.size+60-1)/60));rw[AU]at e f;have c:=QQ E 2 60 a st s;have g1:(Dy E 2 60 a st s).2.puts.length=st.puts.length+(s.size+60-1)/60:=e;have g2:(Dy E 2 60 a st s).2.ps.length<=st.ps.length+(s.size+60-1)/60:=f;have g:s.size<=60*6 ^ d:=by rw[Ec]at b;omega
  generalize 6 ^ d=m at g ⊢
  refine⟨d,rfl,⟨by omega,h.pk.row (by omega) E _ _ (by omega),by omega,by omega,i h.n3,?_,by omega,_,c⟩,by omega⟩;rw[c];omega
open Tryz
structure LE(w wT:World)(n0 n1:Nat)(E:FZ)(C:NB)(dv:NV)(L:List It)(st0:Pl)(O0:Nat->Prop):Prop where
 hB:MS w n0 n1 O0
 o1:∀j,O0 j->n0<=j
 hE:Gt E
 hj:∃j,j<96/\E.nd j<=0
 hok:GD C L
 s0:st0.puts=[]
 s1:st0.ps=[]
 s2:st0.hd<=1536
 hT:Below n0 wT w
 hd:∀y∈L,y.k=2->∃a2 l2 c2,dv y.f=.slice a2 l2 c2/\Sl wT 5 1 (.slice a2 l2 c2) l2 (Dc (C y.f))/\∀g,Own (.slice a2 l2 c2) g->g<n0
theorem Zlf{E:FZ}{C:NB}{L:List It}{st0:Pl}{k:Nat}{y:It}(a:L[k]?=some y):Du E C ⟨#[]⟩ st0 (L.take (k+1))=((Du E C ⟨#[]⟩ st0 (L.take k)).1++(Dw E C (J0 ⟨#[]⟩ (L.take k)) (Du E C ⟨#[]⟩ st0 (L.take k)).2 y).1,(Dw E C (J0 ⟨#[]⟩ (L.take k)) (Du E C ⟨#[]⟩ st0 (L.take k)).2 y).2)/\J0 ⟨#[]⟩ (L.take (k+1))=jn y.ns:=by
 rw[BK,a,Fd,V3,RJ];exact⟨rfl,rfl⟩
section
variable{w wT:World}{n0 n1 pb db sb so tb:Nat}{E:FZ}{C:NB}{dv:NV}{L:List It}{st0:Pl}{O0:Nat->Prop}
theorem Hn.belowT(h:LE w wT n0 n1 E C dv L st0 O0){st:Pl}{s b:By}{v:Value}{O:Nat->Prop}{X:World}(a:Hn w n0 n1 pb db sb so tb E O0 st s b v O X):Below n0 wT X:=
 h.hT.trans ⟨a.fr.os,a.fr.tape,a.fr.output,a.fr.size,λk hk=>a.fr.block k (by have:=h.hB.n0;omega) (λe=>by have:=h.o1 k e;omega)⟩
theorem LE.round(h:LE w wT n0 n1 E C dv L st0 O0){k:Nat}{y:It}(A:L[k]?=some y){a:OA}{l c:Nat}{O:Nat->Prop}{X:World}(b:Hn w n0 n1 pb db sb so tb E O0 (Du E C ⟨#[]⟩ st0 (L.take k)).2 (Du E C ⟨#[]⟩ st0 (L.take k)).1 (J0 ⟨#[]⟩ (L.take k)) (.slice a l c) O X)(D:n1<=X.heap.size){s:Nat}{u:OA}{x v:Nat}(hv:J5 dv y=.agg #[.string (jn y.ns),.int .u8 (y.k:Nat),.int .i64 (y.f:Nat),.slice u x v])(n:FX X s 141 [.string (jn y.ns),.int .u8 (y.k:Nat),.int .i64 (y.f:Nat),.slice u x v])(ad:n1<=s):
  Cl 236 #[.pointer (some ⟨pb,0,none⟩),.slice a l c,.string (J0 ⟨#[]⟩ (L.take k)),.agg #[.string (jn y.ns),.int .u8 (y.k:Nat),.int .i64 (y.f:Nat),.slice u x v]] X λe f=>∃i p m,e=.returned (.slice i p m)/\f.cell? ⟨w.heap.size+1,0,none⟩=some (.slice a l c)/\f.frozen? ⟨w.heap.size+1,0,none⟩=false/\
   ∃Y1,f.setCell ⟨w.heap.size+1,0,none⟩ (.slice i p m)=Y1/\Y1.cell? ⟨s,0,none⟩=some (.string (jn y.ns))/\Y1.cell? ⟨w.heap.size+1+1,0,none⟩=some (.string (J0 ⟨#[]⟩ (L.take k)))/\Y1.frozen? ⟨w.heap.size+1+1,0,none⟩=false/\
   Hid ((∃O',Hn w n0 n1 pb db sb so tb E O0 (Du E C ⟨#[]⟩ st0 (L.take (k+1))).2 (Du E C ⟨#[]⟩ st0 (L.take (k+1))).1 (J0 ⟨#[]⟩ (L.take (k+1))) (.slice i p m) O' (Y1.setCell ⟨w.heap.size+1+1,0,none⟩ (.string (jn y.ns))))/\
    Id n0 n1 X (Y1.setCell ⟨w.heap.size+1+1,0,none⟩ (.string (jn y.ns)))/\(Y1.setCell ⟨w.heap.size+1+1,0,none⟩ (.string (jn y.ns))).heap[w.heap.size+1+1+1]?=X.heap[w.heap.size+1+1+1]?/\∀(k:Nat) (o:Obj),X.heap[k]?=some o->o.isCells=false->(Y1.setCell ⟨w.heap.size+1+1,0,none⟩ (.string (jn y.ns))).heap[k]?=some o):=by
 have r:=Ar A;obtain⟨t1,t2,t3,t4,t5,t6⟩:=h.hok.turn E st0 h.s0 h.s1 h.s2 k y A;have Y:=b.belowT h;have hn:=h.hB.n0;have ae:=h.hB.n1;have I:=Zmx X n0 n1 pb db sb so E h.hE h.hj _ O b.st a l c _ b.rs b.dis D (by omega) C dv y (h.hok.kind y r) (h.hok.path y r) (h.hok.num y r) (h.hok.size y r) (J0 ⟨#[]⟩ (L.take k)) t6 (λhk=>by
  obtain⟨M,l2,N,P,Q,G⟩:=h.hd y r hk;refine⟨M,l2,N,P,Q.kept (λg hg aa=>Y.block g (G g aa)),G⟩) t1 t2 t3 t4 t5
 rw[hv]at I;refine I.mono ?_;rintro e f⟨i,p,m,O',rfl,W,ac,U,af,Z,J⟩;obtain⟨z,H⟩:=b.say h.hB D ac W U Z J;have nO:∀B,w.heap.size<=B->B<n1->¬O B:=λB q1 q2 e=>by
  rcases b.hO B e with q|q
  ·have:=h.hB.o0 B q;omega
  ·omega
 have nV:∀B,B<n1->¬Own (.slice a l c) B:=λB q e=>by have:=b.rs.2 B e;omega
 have F:FX f (w.heap.size+1) 59 [.slice a l c]:=(J.block _ b.b1.lt (λe=>e.elim (nO _ (by omega) (by omega)) (nV _ (by omega)))).trans b.b1;have ab:FX (f.setCell ⟨w.heap.size+1,0,none⟩ (.slice i p m)) s 141 [.string (jn y.ns),.int .u8 (y.k:Nat),.int .i64 (y.f:Nat),.slice u x v]:=by
  refine(H.block _ n.lt (λe=>?_)).trans n;rcases e with e|e|e
  ·obtain⟨K,t,d,ht⟩:=b.st.typed e;unfold FX at d n;rw[n]at d;cases d;cases ht
  ·obtain⟨K,d⟩:=b.rs.typed e;unfold FX at d n;rw[n]at d;cases d
  ·omega
 obtain⟨V,T⟩:=z.path h.hB (jn y.ns);obtain⟨R,S⟩:=Zlf (E:=E) (C:=C) (st0:=st0) A;refine⟨i,p,m,rfl,(F.cell 0).trans rfl,F.frozen 0,_,rfl,(ab.cell 0).trans rfl,(z.b2.cell 0).trans rfl,z.b2.frozen 0,⟨O',?_⟩,?_⟩
 ·rw[R,S];exact V
 ·exact b.keeps h.hB D ((H.mono (λj _ e=>by rcases e with e|e|e;exact .inl e;exact .inr (.inl e);exact .inr (.inr (.inl e)))).then T (λj _ e => .inr (.inr (.inr e))))
def TI(w:World)(n0 n1 pb db sb so tb:Nat)(E:FZ)(O0:Nat->Prop)(D:Nat)(F:By×Pl)(below:Nat)(Y:World):Prop:=
 ∃d st s last a l c O,Hn w n0 n1 pb db sb so tb E O0 st s last (.slice a l c) O Y/\Y.heap[D]?=some (.deferred (some []))/\n1<=Y.heap.size/\H1 d below st s/\DH E d below st s=F
theorem LE.table(h:LE w wT n0 n1 E C dv L st0 O0){a:OA}{l c:Nat}{O:Nat->Prop}{N:By}{X:World}(n:Hn w n0 n1 pb db sb so tb E O0 (Du E C ⟨#[]⟩ st0 L).2 (Du E C ⟨#[]⟩ st0 L).1 N (.slice a l c) O X)(k:n1<=X.heap.size){D:Nat}(hD:X.heap[D]?=some (.deferred (some []))):
  ∃Z v F A m,X.drew.alloc (.cells #[.int .u8 0] 5)=Z/\(Builtin.append_ #[59,59] 59 #[.slice a l c,.slice (some ⟨X.heap.size,0,none⟩) 1 1]).run prog Z=.ok (.slice v F A) m/\X.cell? ⟨w.heap.size,0,none⟩=some (.pointer (some ⟨pb,0,none⟩))/\Z.cell? ⟨w.heap.size,0,none⟩=some (.pointer (some ⟨pb,0,none⟩))/\m.cell? ⟨w.heap.size,0,none⟩=some (.pointer (some ⟨pb,0,none⟩))/\X.cell? ⟨w.heap.size+1,0,none⟩=some (.slice a l c)/\Z.cell? ⟨w.heap.size+1,0,none⟩=some (.slice a l c)/\
   Hid (Cl 237 #[.pointer (some ⟨pb,0,none⟩),.int .u8 3,.int .i64 0,.slice v F A] m λe g=>∃o r p,e=.returned (.slice o r p)/\g.cell? ⟨w.heap.size,0,none⟩=some (.pointer (some ⟨pb,0,none⟩))/\g.cell? ⟨w.heap.size+1,0,none⟩=some (.slice a l c)/\g.frozen? ⟨w.heap.size+1,0,none⟩=false/\(g.setCell ⟨w.heap.size+1,0,none⟩ (.slice o r p)).cell? ⟨w.heap.size,0,none⟩=some (.pointer (some ⟨pb,0,none⟩))/\
    Hid (TI w n0 n1 pb db sb so tb E O0 D (Jv E C st0 L) 1 (g.setCell ⟨w.heap.size+1,0,none⟩ (.slice o r p)))):=by
 have hn:=h.hB.n0;have al:=h.hB.n1;obtain⟨t1,t2,t3,H,Q⟩:=Qq E C ⟨#[]⟩ st0 L (λz k=>⟨h.hok.path z k,h.hok.size z k,h.hok.kind z k⟩);rw[h.s0]at t2 Q;rw[h.s1]at t3;have H:=H h.s2;have ak:=h.hok.len;simp only[AK]at t2 t3;generalize hst:(Du E C ⟨#[]⟩ st0 L).2=st at *
 generalize hss:(Du E C ⟨#[]⟩ st0 L).1=s at *
 obtain⟨Z,eZ,xZ,kZ,sZ,bZ⟩:=De X.drew [.int .u8 0] 5;have J:Bw X Z:=((Ak X.heap.size X).drew).trans bZ;have ai:FX Z X.heap.size 5 [.int .u8 0]:=xZ;have aj:=J.size;have d:Hn w n0 n1 pb db sb so tb E O0 st s N (.slice a l c) O Z:=n.fr' h.hB (Z:=λ_=>False) (Fr.of_below J) (λ_ e=>e.elim);obtain⟨v,F,A,m,r1,r2,G,r4⟩:=JX Z n1 (by omega) (.slice a l c) s d.rs ⟨X.heap.size,0,none⟩ 1 1 ⟨#[0]⟩ rfl (λj u hu=>by rw[AI,Av,ai.cell];exact hu) (by omega);have nO:∀B,w.heap.size<=B->B<n1->¬O B:=λB q1 q2 e=>by
  rcases n.hO B e with q|q
  ·have:=h.hB.o0 B q;omega
  ·omega
 have nV:∀B,B<n1->¬Own (.slice a l c) B:=λB q e=>by have:=n.rs.2 B e;omega
 have I:FX m w.heap.size 168 _:=(G.block _ d.b0.lt (nV _ (by omega))).trans d.b0;have R:FX m (w.heap.size+1) 59 _:=(G.block _ d.b1.lt (nV _ (by omega))).trans d.b1;have ag:GV n0 pb db sb so E st O m:=d.st.keeps G (λj f=>⟨λho=>d.dis j ho f,by have:=d.rs.2 j f;omega⟩);have ac:∀j,O j->¬Own (.slice v F A) j:=λj f hv=>by
  rcases r4 j hv with e|e
  ·exact n.dis j f e
  ·obtain⟨cs,t,hb⟩:=d.st.cells f;have:=(Aj.1 hb).1;omega
 obtain⟨b,K⟩:∃b:By,b=s++⟨#[0]⟩:=⟨_,rfl⟩;have ah:b.size=s.size+1:=by rw[K];exact Ai
 rw[<-K]at r2;refine⟨Z,v,F,A,m,eZ,r1,(n.b0.cell 0).trans rfl,(d.b0.cell 0).trans rfl,(I.cell 0).trans rfl,(n.b1.cell 0).trans rfl,(d.b1.cell 0).trans rfl,?_⟩;refine(ZO m n0 pb db sb so E h.hE h.hj st O ag n1 v F A _ r2 ac (by omega) (by omega) (by omega) (by omega) H (λz k i hi e=>?_)).mono ?_
 ·rcases Q z k with q|⟨x,M,_,j,f,q⟩
  ·cases q
  ·have:=h.hok.num x M;have:=OB (by omega) (by omega) (by omega) (by omega) (q.symm.trans e);omega
 ·rintro e g⟨o,r,p,O',rfl,p1,p2,p3,p4,P⟩;have am:=G.size;have aa:FX g w.heap.size 168 _:=(P.block _ I.lt (nO _ (by omega) (by omega))).trans I;have S:FX g (w.heap.size+1) 59 _:=(P.block _ R.lt (nO _ (by omega) (by omega))).trans R;have ad:Fr (λj=>O j\/Own (.slice a l c) j) X g:=((Fr.of_below J).then (G.mono (Y:=λj=>O j\/Own (.slice a l c) j) (λj _ e => .inr e)) (λ_ _ e=>e)).then (P.mono (Y:=λj=>O j\/Own (.slice a l c) j) (λj _ e => .inl e)) (λ_ _ e=>e);obtain⟨U,T⟩:=n.say h.hB k p1 ⟨p2.1,λj f=>by have:=p2.2 j f;omega⟩ (λj f=>(p3 j f).imp id (λe=>by omega)) p4 ad;have hk:=n.keeps h.hB k (T.mono (λj _ e=>by rcases e with e|e|e;exact .inl e;exact .inr (.inl e);exact .inr (.inr (.inl e))));have ae:H1 8 1 (Dy E 3 63 0 st b).2 (Dy E 3 63 0 st b).1:=by
   obtain⟨W,m2,m3⟩:=FZ.puts_len E (Dd 3 0) (Dx 3 b 63) st 0 (List.range ((b.size+63-1)/63));rw[AU]at W m2;have V:=QQ E 3 63 0 st b;have g1:(Dy E 3 63 0 st b).2.puts.length=st.puts.length+(b.size+63-1)/63:=W;have g2:(Dy E 3 63 0 st b).2.ps.length<=st.ps.length+(b.size+63-1)/63:=m2;rw[ah]at g1 g2 V;refine⟨rfl,λy hy=>?_,by omega,by omega,m3 H,by omega,by omega,_,V⟩;rcases FZ.puts_mem E _ _ st 0 _ y hy with q|⟨j,_,q2,q3⟩
   ·rcases Q y q with q|⟨x,M,_,j,f,q⟩
    ·cases q
    ·exact⟨4,x.f,j,q,by omega,.inl ⟨rfl,h.hok.num x M⟩⟩
   ·rw[AU]at q2;exact⟨3,0,j,q3,by omega,.inr (.inl ⟨rfl,rfl⟩)⟩
  have af:DH E 8 1 (Dy E 3 63 0 st b).2 (Dy E 3 63 0 st b).1=Jv E C st0 L:=by unfold Jv;rw[hst,hss,<-K]
  have ab:TI w n0 n1 pb db sb so tb E O0 D (Jv E C st0 L) 1 (g.setCell ⟨w.heap.size+1,0,none⟩ (.slice o r p)):=⟨8,_,_,N,o,r,p,O',U,hk.2.2 D _ hD rfl,Af k T.size,ae,af⟩;exact⟨o,r,p,rfl,(aa.cell 0).trans rfl,(S.cell 0).trans rfl,S.frozen 0,(U.b0.cell 0).trans rfl,ab⟩
end
def Mh(w:World)(n0 pb db sb so:Nat)(E:FZ)(O0:Nat->Prop)(F:By×Pl)(e:Ending)(w':World):Prop:=
 e=.returned (.tuple #[])/\F.1.size=10/\∃O',Qx w' pb db sb so E F.2 (GA F.1:Nat) (GE F.1:Nat) O'/\II w' n0 db sb so E/\Fr O0 w w'/\∀j,O' j->O0 j\/w.heap.size<=j
section
variable{w wT:World}{n0 n1 pb db sb so tb:Nat}{E:FZ}{C:NB}{dv:NV}{L:List It}{st0:Pl}{O0:Nat->Prop}
theorem LE.index(h:LE w wT n0 n1 E C dv L st0 O0){a:OA}{l c d b D:Nat}{O:Nat->Prop}{st:Pl}{s v:By}{F:By×Pl}{Y:World}(f:Hn w n0 n1 pb db sb so tb E O0 st s v (.slice a l c) O Y)(z:Y.heap[D]?=some (.deferred (some [])))(o:n1<=Y.heap.size)(m:H1 d b st s)(A:DH E d b st s=F)(u:10<s.size):
  Cl 237 #[.pointer (some ⟨pb,0,none⟩),.int .u8 2,.int .i64 (b:Nat),.slice a l c] Y λe g=>∃i n k,e=.returned (.slice i n k)/\g.cell? ⟨w.heap.size+1,0,none⟩=some (.slice a l c)/\g.frozen? ⟨w.heap.size+1,0,none⟩=false/\
   Hid (TI w n0 n1 pb db sb so tb E O0 D F (b+1) (g.setCell ⟨w.heap.size+1,0,none⟩ (.slice i n k))):=by
 have hn:=h.hB.n0;have aa:=h.hB.n1;have hb:=m.bd;have i1:=m.n1;have i2:=m.n2;obtain⟨r,rfl,J,_⟩:=m.next u E;have P:∀B,w.heap.size<=B->B<n1->¬O B:=λB q1 q2 e=>by
  rcases f.hO B e with q|q
  ·have:=h.hB.o0 B q;omega
  ·omega
 refine(ZN Y n0 pb db sb so E h.hE h.hj st O f.st n1 a l c s f.rs f.dis b (by omega) (by omega) (by omega) (by omega) (by omega) m.n3 (m.pk.fresh (by omega))).mono ?_;rintro e g⟨i,n,k,O',rfl,Q,x,R,S,y⟩;have p:FX g (w.heap.size+1) 59 _:=(y.block _ f.b1.lt (P _ (by omega) (by omega))).trans f.b1;have I:Fr (λj=>O j\/Own (.slice a l c) j) Y g:=y.mono (λj _ e => .inl e);obtain⟨G,t⟩:=f.say h.hB o Q ⟨x.1,λj M=>by have:=x.2 j M;omega⟩ R S I;have N:=f.keeps h.hB o (t.mono (λj _ e=>by rcases e with e|e|e;exact .inl e;exact .inr (.inl e);exact .inr (.inr (.inl e))));have K:DH E r (b+1) (Dy E 2 60 b st s).2 (Dy E 2 60 b st s).1=F:=by
  rw[<-A];show _=(if _ then _ else _);rw[if_pos u]
 have H:TI w n0 n1 pb db sb so tb E O0 D F (b+1) (g.setCell ⟨w.heap.size+1,0,none⟩ (.slice i n k)):=⟨r,_,_,v,i,n,k,O',G,N.2.2 D _ z rfl,Af o t.size,J,K⟩;exact⟨i,n,k,rfl,(p.cell 0).trans rfl,p.frozen 0,H⟩
theorem LE.top(h:LE w wT n0 n1 E C dv L st0 O0){a:OA}{l c d I D:Nat}{O:Nat->Prop}{st:Pl}{s G:By}{F:By×Pl}{Y:World}(f:Hn w n0 n1 pb db sb so tb E O0 st s G (.slice a l c) O Y)(y:Y.heap[D]?=some (.deferred (some [])))(aj:w.heap.size<=D)(hz:n1<=Y.heap.size)(M:H1 d I st s)(W:DH E d I st s=F)(hs:¬10<s.size):
  l=10/\∃b,Y.alloc (.cells #[.slice a l c] 287)=b/\b.cell? ⟨w.heap.size,0,none⟩=some (.pointer (some ⟨pb,0,none⟩))/\
    Hid (Cl 238 #[.pointer (some ⟨Y.heap.size,0,none⟩)] b.drew λe Z=>∃p x:Nat,e=.returned (.agg #[.int .i64 (p:Nat),.int .u64 (x:Nat)])/\Z.cell? ⟨w.heap.size,0,none⟩=some (.pointer (some ⟨pb,0,none⟩))/\Z.cell? ⟨pb,101,none⟩=some (.int .i64 0)/\Z.cell? ⟨pb,102,none⟩=some (.int .u64 0)/\Z.frozen? ⟨pb,101,none⟩=false/\Z.frozen? ⟨pb,102,none⟩=false/\((Z.setCell ⟨pb,101,none⟩ (.int .i64 (p:Nat))).setCell ⟨pb,102,none⟩ (.int .u64 (x:Nat))).cell? ⟨w.heap.size,0,none⟩=some (.pointer (some ⟨pb,0,none⟩))/\
     Hid (((Z.setCell ⟨pb,101,none⟩ (.int .i64 (p:Nat))).setCell ⟨pb,102,none⟩ (.int .u64 (x:Nat))).heap[D]?=some (.deferred (some []))/\Mh w n0 pb db sb so E O0 F (.returned (.tuple #[])) (((Z.setCell ⟨pb,101,none⟩ (.int .i64 (p:Nat))).setCell ⟨pb,102,none⟩ (.int .u64 (x:Nat))).putObj D (.deferred none)))):=by
 have hn:=h.hB.n0;have am:=h.hB.n1;have n:=M.bd;have i5:=M.n5;have Q:s.size=10:=by omega
 obtain⟨g,rfl,rfl,ag,ak⟩:=f.rs.some (by omega);have aa:F=(s,st):=by
  rw[<-W]
  cases d with
  |zero=>rfl
  |succ d=>show(if _ then _ else _)=_;rw[if_neg hs]
 subst aa;obtain⟨b,T,x8,k8,s8,H⟩:=De Y [.slice (some ⟨g,0,none⟩) s.size c] 287;have A:Hn w n0 n1 pb db sb so tb E O0 st s G (.slice (some ⟨g,0,none⟩) s.size c) O b:=f.fr' h.hB (Z:=λ_=>False) (Fr.of_below H) (λ_ e=>e.elim);have ah:Gp b.drew (some ⟨g,0,none⟩) s.size c s:=A.rs.rdB;refine⟨Q,b,T,(A.b0.cell 0).trans rfl,?_⟩;refine(NY b.drew Y.heap.size (some ⟨g,0,none⟩) s.size c s (show FX b.drew Y.heap.size 287 [.slice (some ⟨g,0,none⟩) s.size c] from x8) ah ag (λx e=>by cases e;simp only;omega) (by omega)).mono ?_;rintro e Z⟨rfl,_,_,_,_,_,_,m⟩;have K:Fr (λk=>k=Y.heap.size) b Z:=⟨m.os,m.tape,m.output,m.size,m.block⟩;have ai:∀j,O j->j<Y.heap.size:=λj i=>by obtain⟨v,t,n⟩:=f.st.cells i;exact(Aj.1 n).1
 have q:Hn w n0 n1 pb db sb so tb E O0 st s G (.slice (some ⟨g,0,none⟩) s.size c) O Z:=A.fr' h.hB K (λj e=>⟨λho=>by have:=ai j ho;omega,λhv=>by have:=Own.lt f.rs hv;omega,by omega⟩);obtain⟨V,ab,al,va,es,vp,o,q2,q3,q4,S⟩:=q.st;have u:O pb:=(S pb).2 (.inl rfl);have an:pb<w.heap.size\/n1<=pb:=(f.hO pb u).imp (h.hB.o0 pb) id;have P:D≠pb:=λe=>by
  subst e;obtain⟨v,t,n⟩:=f.st.cells u;rw[y]at n;cases n
 have ac:=o.top (GA s:Nat) (GE s:Nat);have U:=(Aj.1 y).1;have J:((Z.setCell ⟨pb,101,none⟩ (.int .i64 (GA s:Nat))).setCell ⟨pb,102,none⟩ (.int .u64 (GE s:Nat))).heap[D]?=some (.deferred (some [])):=by
  rw[Aw _ _ _ _ (show D≠pb from P),Aw _ _ _ _ (show D≠pb from P),K.block D (by omega) (by omega),H.block D U];exact y
 have R:∀B,w.heap.size<=B->B<n1->B≠pb:=λB r1 r2 e=>by omega
 have mF:FX ((Z.setCell ⟨pb,101,none⟩ (.int .i64 (GA s:Nat))).setCell ⟨pb,102,none⟩ (.int .u64 (GE s:Nat))) w.heap.size 168 [.pointer (some ⟨pb,0,none⟩)]:=(Aw _ _ _ _ (R _ (by omega) (by omega))).trans ((Aw _ _ _ _ (R _ (by omega) (by omega))).trans q.b0);refine⟨GA s,GE s,rfl,(q.b0.cell 0).trans rfl,(o.row.cell 101).trans (JD _ _ _ _ _ _ _ _ _ _ 3),(o.row.cell 102).trans (JD _ _ _ _ _ _ _ _ _ _ 4),o.row.frozen 101,o.row.frozen 102,(mF.cell 0).trans rfl,J,rfl,Q,O,⟨va,es,vp,?_,q2,q3,q4,S⟩,?_,?_,λj i=>(f.hO j i).imp id (λe=>by omega)⟩
 ·refine ac.cellsKept (λj v t i=>?_);simp only[World.putObj];rw[A7,if_neg (λe=>by subst e;rw[J]at i;cases i)];exact i
 ·refine V.kept (λk v t z r e=>?_);have N:k≠pb:=λe=>by subst e;have:=ab k u;omega
  have af:k≠D:=by omega
  simp only[World.putObj];rw[A7,if_neg (λe=>af e.symm)];exact(Aw _ _ _ _ N).trans ((Aw _ _ _ _ N).trans e)
 ·have ad:Fr (λk=>k=pb) Z ((Z.setCell ⟨pb,101,none⟩ (.int .i64 (GA s:Nat))).setCell ⟨pb,102,none⟩ (.int .u64 (GE s:Nat))):=Fr.set (X:=λk=>k=pb) (Fr.set (X:=λk=>k=pb) (Fr.refl (λk=>k=pb) Z) ⟨pb,101,none⟩ _ rfl) ⟨pb,102,none⟩ _ rfl;have ae:Fr O0 w ((Z.setCell ⟨pb,101,none⟩ (.int .i64 (GA s:Nat))).setCell ⟨pb,102,none⟩ (.int .u64 (GE s:Nat))):=q.fr.then ad (λk r e=>by subst e;exact(f.hO k u).elim id (λe=>by omega));refine ae.then (Y:=λk=>k=D) ⟨rfl,rfl,rfl,by simp[World.putObj],λk _ r=>by
   simp only[World.putObj];rw[A7,if_neg (λe=>r e.symm)]⟩ (λk r e=>by omega)
end
section
open Go.RowKit Go.Shelf
attribute [local go_sem] Oper.semAt_some
theorem Id.chgs{a n1:Nat}(X:World)(o:Obj)(r:Nat)(b:a<=r)(h1:r<n1):Id a n1 X (X.putObj r o):=⟨Xi X o b,λk o' hk ho _=>(Bs (by omega)).trans ho⟩
theorem ZlW(w wT:World)(N pb db sb so tb rd:Nat)(E:FZ)(hE:Gt E)(T:∃j,j<96/\E.nd j<=0)(st0:Pl)(aR:st0.puts=[])(aS:st0.ps=[])(aT:st0.hd<=1536)(M:Nat->Prop)(ai:GV N pb db sb so E st0 M w)(aU:wT.heap.size=N)(hT:Below N wT w)(V:NV)(Ed:NS)(vi:Value)(G:Gh)(I:LF)(CI:IB)(ch:LY->List Ek)(dv:NV)(H:LP wT tb rd V Ed vi G I CI ch dv)(C:NB)(aQ:GD C (Dt ch))(hd:∀y∈Dt ch,y.k=2->∃F f u,dv y.f=.slice F f u/\Sl wT 5 1 (.slice F f u) f (Dc (C y.f))/\∀g,Own (.slice F f u) g->g<N):
  Cl 199 #[.pointer (some ⟨pb,0,none⟩),.pointer (some ⟨tb,0,none⟩)] w (Mh w N pb db sb so E M (Jv E C st0 (Dt ch))):=by
 have aN:∀j,M j->j<w.heap.size:=λj T=>by obtain⟨cs,t,hb⟩:=ai.cells T;exact(Aj.1 hb).1
 have W:=ai.2.2.1;have an:LE w wT N (w.heap.size+6) E C dv (Dt ch) st0 M:=⟨⟨aN,by omega,W⟩,ai.2.1,hE,T,aQ,aR,aS,aT,hT,hd⟩;obtain⟨W1,e1,x1,k1,s1,b1⟩:=De w [.pointer (some ⟨pb,0,none⟩)] 168;obtain⟨W2,e2,x2,k2,s2,b2⟩:=De W1 [.slice none 0 0] 59;obtain⟨W3,e3,x3,k3,s3,b3⟩:=De W2 [.string ⟨#[]⟩] 9;obtain⟨W4,e4,x4,k4,s4,b4⟩:=De W3 [.pointer (some ⟨tb,0,none⟩)] 37;have ao:Bw w W4:=b1.trans ((b2.mono (by omega)).trans ((b3.mono (by omega)).trans (b4.mono (by omega))));have y1:=k4 _ _ _ (k3 _ _ _ (k2 _ _ _ x1));have y2:=k4 _ _ _ (k3 _ _ _ x2);have y3:=k4 _ _ _ x3;have t2:W2.heap.size=w.heap.size+1+1:=by omega
 have t3:W3.heap.size=w.heap.size+1+1+1:=by omega
 have t4:W4.heap.size=w.heap.size+4:=by omega
 rw[s1]at y2;rw[t2]at y3;rw[t3]at x4;have aE:=TZ wT W4 (w.heap.size+1+1+1) tb rd V Ed vi G I CI ch dv H (by unfold Bw;rw[aU];exact hT.trans (ao.mono W)) x4;have aL:Hn w N (w.heap.size+6) pb db sb so tb E M st0 ⟨#[]⟩ ⟨#[]⟩ (.slice none 0 0) M W4:=⟨ai.keeps (Z:=λ_=>False) (Fr.of_below ao) (λ_ e=>e.elim),λj T => .inl T,y1,y2,y3,x4,F9.nil _ _,λj _ e=>by simp[Own,Value.ownBlock]at e,Fr.of_below ao,by omega⟩;obtain⟨L,hL⟩:=ex (Dt ch);rw[<-hL]at an aE ⊢;have aP:∀k y,L[k]?=some y->∃z D B,J5 dv y=.agg #[.string (jn y.ns),.int .u8 (y.k:Nat),.int .i64 (y.f:Nat),.slice z D B]:=λk y J=>by
  unfold J5;by_cases hk:y.k=2
  ·rw[if_pos hk];obtain⟨F,f,u,q1,_⟩:=an.hd y (Ar J) hk;exact⟨F,f,u,by rw[q1]⟩
  ·rw[if_neg hk];exact⟨_,_,_,rfl⟩
 have aY:=Db aP;have ab:=Db an;have aZ:=Db aE;have aX:=Db aL;have ae:=Db t4;have aG:=Db e1;have aH:=Db e2;have aI:=Db e3;have aJ:=Db e4;have aK:=Db W;clear x1 x2 x3 x4 k1 k2 k3 k4 s1 s2 s3 s4 b1 b2 b3 b4 y1 y2 y3 t2 t3 t4 e1 e2 e3 e4 ao aE ai aL an H hE T aR aS aT hT aQ hd aN hL aP W;refine(A2 (n:=3)).1 ?_;refine Br func199 rfl trivial ?_ rfl;simp only[ntmps199,AM,Al,AK,Nat.reduceAdd,Nat.reduceSub,AQ,AP,AZ,AT,AD,AN]
 gi_wp2_with (refine⟨trivial,?_⟩;gi_at_call 115;refine(SS _ _ _).mono ?_;rintro e w'⟨rfl,rfl⟩)
 rw[show w.alloc (.cells #[.pointer (some ⟨pb,0,none⟩)] 168)=W1 from Da aG,show W1.alloc (.cells #[.slice none 0 0] 59)=W2 from Da aH,show W2.alloc (.cells #[.string ⟨#[]⟩] 9)=W3 from Da aI,show W3.alloc (.cells #[.pointer (some ⟨tb,0,none⟩)] 37)=W4 from Da aJ];rename_i K0 aM;clear aG aH aI aJ;have t4:=Da ae;have W:=Da aK;refine RQ (gf:=169) (lb:=#[.pointer (some ⟨w.heap.size+1+1+1,0,none⟩)]) rfl (EB func169 (by kernel_rfl) rfl)
  (Da aZ) (Ak _ _) (λh k=>⟨h.1.trans k.1,k.2.trans h.2⟩) (λX o o' ho _=>⟨Id.chgs X o' _ (by omega) (by omega),Bs (by omega)⟩) (Vp _ _)
  (λk X=>∃a l c O,Hn w N (w.heap.size+6) pb db sb so tb E M (Du E C ⟨#[]⟩ st0 (L.take k)).2 (Du E C ⟨#[]⟩ st0 (L.take k)).1 (J0 ⟨#[]⟩ (L.take k)) (.slice a l c) O X)
  (λk A A' hA hc=>by
   obtain⟨a,l,c,O,hA⟩:=hA;rw[t4]at hc;exact⟨a,l,c,O,hA.chg (Da ab).hB hc⟩)
  ⟨none,0,0,M,Da aX⟩
  (λk a' X=>∃Bx y z D B,L[k]?=some y/\W4.heap.size+2<=Bx/\FX X Bx 141 [.string (jn y.ns),.int .u8 (y.k:Nat),.int .i64 (y.f:Nat),.slice z D B]/\J5 dv y=.agg #[.string (jn y.ns),.int .u8 (y.k:Nat),.int .i64 (y.f:Nat),.slice z D B]/\a'={ tmps:=#[.pointer (some ⟨pb,0,none⟩),.pointer (some ⟨tb,0,none⟩),.pointer (some ⟨w.heap.size,0,none⟩),undef,.pointer (some ⟨w.heap.size+1,0,none⟩),.pointer (some ⟨w.heap.size+1+1,0,none⟩),.pointer (some ⟨Bx,0,none⟩),undef,undef,.pointer (some ⟨tb,0,none⟩),.func (.func 169) #[] #[.pointer (some ⟨w.heap.size+1+1+1,0,none⟩)],.agg #[.string (jn y.ns),.int .u8 (y.k:Nat),.int .i64 (y.f:Nat),.slice z D B],undef,undef,undef,undef,undef,undef,undef,undef,undef,undef,undef,undef,undef,undef,undef,undef,undef,undef,undef,undef,undef,undef,undef,undef,undef,undef,undef,undef],defers:=[] })
  (λk a' A A' hA hs hc T=>by
   obtain⟨Bx,y,z,D,B,J,al,hr,hv,ha⟩:=hA;exact⟨Bx,y,z,D,B,J,al,(T Bx al).trans hr,hv,ha⟩)
  ?assign ?body ?done
 case assign=>
  rintro k X Kk hk r hz aO;obtain⟨y,J⟩:∃y,L[k]?=some y:=⟨_,Ac hk⟩;obtain⟨z,D,B,hv⟩:=Da aY k y J;rw[Vc J,hv];have HY:=Db J;have HV:=Db hv;have aW:=Db aO;have HZ:=Db hz;have HI:=Db r;clear t4 J hv aO hz r W
  gi_wp2
  have t4:=Da ae;obtain⟨a,l,c,O,r⟩:=Da HI;have a4:GB (w.heap.size+4) X (X.alloc (.cells #[.string (jn y.ns),.int .u8 (y.k:Nat),.int .i64 (y.f:Nat),.slice z D B] 141)):=GB.alloc _ _;have aC:Bw X (X.alloc (.cells #[.string (jn y.ns),.int .u8 (y.k:Nat),.int .i64 (y.f:Nat),.slice z D B] 141)):=(Ak _ X).alloc (Aa _) _;have hz:=Da HZ;have W:=Da aK;exact Da aW _ _ ((Es _ _).from _) ⟨⟨aC.mono (by omega),λj o T ho _=>(aC.block j (Aj.1 ho).1).trans ho⟩,aC.block _ (by omega)⟩ ⟨a,l,c,O,r.chg (Da ab).hB a4⟩ ⟨X.heap.size,y,z,D,B,Da HY,hz,B9 X _,Da HV,rfl⟩
 case body=>
  rintro k a' X hk hz⟨a,l,c,O,r⟩ ⟨Bx,y,z,D,B,J,al,ad,hv,rfl⟩;have aF:=Db ((Da ab).round J r (by omega) hv ad (by omega));have c0:=(r.b0.cell 0).trans (show _=some (Value.pointer (some ⟨pb,0,none⟩)) from rfl);have c1:=(r.b1.cell 0).trans (show _=some (Value.slice a l c) from rfl);have u:=(r.b2.cell 0).trans (show _=some (Value.string (J0 ⟨#[]⟩ (L.take k))) from rfl);have d0:=(ad.cell 0).trans (show _=some (Value.string (jn y.ns)) from rfl);have d1:=(ad.cell 1).trans (show _=some (Value.int .u8 (y.k:Nat)) from rfl);have d2:=(ad.cell 2).trans (show _=some (Value.int .i64 (y.f:Nat)) from rfl);have d3:=(ad.cell 3).trans (show _=some (Value.slice z D B) from rfl);clear t4 W hz r al ad hv J hk
  gi_wp2_with (fail)
  refine⟨trivial,?_⟩;refine(Cx _ (A2.2 (Da aF))).mono ?_;rintro e W'⟨a',l',c',rfl,f0,f1,Y1,rfl,g0,g1,g2,HE⟩;clear c0 c1 u d0 d1 d2 d3 aF
  gi_wp2
  obtain⟨⟨O',h1⟩,h2,h3,h4⟩:=Da HE;exact⟨⟨h2.1.size,λj o _ ho hc=>h4 j o ho hc⟩,⟨by rw[Da ae,aU];exact h2,h3⟩,a',l',c',O',h1⟩
 case done=>
  rintro X hz⟨a,l,c,O,r⟩ hD;rw[Cy]at r;obtain⟨Z,a5,l5,c5,w5,hZ,ap,m0,mZ,m5,aV,nZ,ak⟩:=(Da ab).table r (by omega) hD;have HZ:=Db hZ;clear hZ hD r hz t4 W;show K0 _ _;refine aM _ _ ?_;clear aM
  gi_step
  refine EH Qo ?_;refine BE.2 ?_;refine AE (S:=λV=>V.cell? ⟨w.heap.size,0,none⟩=some (.pointer (some ⟨pb,0,none⟩))) (by kernel_rfl) m0 (λag=>?_);refine tk 0 ?_;refine Bo (rs:=[1,2]) (by kernel_rfl) (by simp) ?_;refine(AR (i:=1) rfl ?_ (AR (i:=2) rfl ?_ Bg))
  ·intro K b;go_simp;refine b.out _ _ ag (λaw=>?_);clear b K
   try simp only[pE]
   refine rk 2 (λK b=>?_);go_simp;rw[show(X.alloc (.cells #[.int .u8 0] 5)).drew=Z from Da HZ];refine b.out _ _ mZ (λam=>?_);clear b K
   try simp only[pE]
   refine rk 3 (λK b=>?_);refine JV rfl _ _ 59 59 rfl _ _ rfl rfl ap ?_;refine b.out _ _ m5 (λax=>?_);clear b K
   try simp only[pE]
   refine rk 4 (λK b=>?_);go_simp;go_at_call 237;refine(Da ak).mono ?_;rintro e w6⟨a',l',c',rfl,d0,d1,d2,d3,ac⟩;go_wp2_with fail;refine b.out _ _ d0 (λay=>?_);clear b K
   try simp only[pE]
   refine rk 5 (λK b=>?_);go_simp;refine b.out _ _ d3 (λaz=>?_);clear b K
   try simp only[pE]
   refine AO (by kernel_rfl) ?_ _;refine K8 ?_;clear aw am ax ay az ag ap m0 mZ m5 aV nZ d0 d1 d2 d3 ak HZ
   gi_wp2
   gi_loopw [7] (λi wr=>∃P:Nat,i=.int .i64 (P:Nat)/\Hid (TI w N (w.heap.size+6) pb db sb so tb E M W4.heap.size (Jv E C st0 L) P wr)) (λi _=>10-(intOf i).toNat)
   case atStart=>exact⟨1,rfl,Da ac⟩
   case round=>
    obtain⟨P,rfl,HR⟩:=hrel;obtain⟨d,st,s,a8,F,f,u,O2,m,Q,aa,v,R⟩:=Da HR;have c0:=(m.b0.cell 0).trans (show _=some (Value.pointer (some ⟨pb,0,none⟩)) from rfl);have c1:=(m.b1.cell 0).trans (show _=some (Value.slice F f u) from rfl);have ah:f=s.size:=by
     obtain⟨g,_,q,_⟩:=m.rs.some (by have:=v.n5;omega);exact q
    have aB:=v.bd;by_cases U:10<s.size
    ·have HC:=Db ((Da ab).index m Q aa v R U);have a6:(10:Int)<(f:Int):=by omega
     clear m Q aa v R HR ah U ac
     gi_wp2_with (fail)
     refine⟨trivial,?_⟩;refine(A2.2 (Da HC)).mono ?_;rintro e w7⟨a3,l3,c3,rfl,f0,f1,au⟩;clear HC c0 c1
     gi_wp2
     go_roundw
     case rel=>exact⟨P+1,by go_num,Da au⟩
     case measure=>simp[intOf];omega
    ·obtain⟨aD,w8,aj,m8,ar⟩:=(Da ab).top m Q (by have:=Da ae;omega) aa v R U;have a7:¬(10:Int)<(f:Int):=by omega
     have af:=Db aj;clear m Q aa v R HR ah U ac aj aD aB
     gi_wp2
     rw[show wr.alloc (.cells #[.slice F f u] 287)=w8 from Da af];clear af;refine EH Qo ?_;refine BE.2 ?_;refine AE (S:=λV=>V.cell? ⟨w.heap.size,0,none⟩=some (.pointer (some ⟨pb,0,none⟩))) (by kernel_rfl) m8 (λag=>?_);refine tk 0 ?_;refine rk 1 (λK b=>?_);go_simp;go_at_call 238;refine(Da ar).mono ?_;rintro e Y⟨p,x,rfl,p0,p1,p2,p3,p4,p5,aq⟩;go_wp2_with fail;refine b.out _ _ p0 (λa0=>?_);clear b K
     try simp only[pE]
     refine tk 2 ?_;refine tk 3 ?_;refine tk 4 ?_;refine rk 5 (λK b=>?_);go_simp;refine b.out _ _ p5 (λa1=>?_);clear b K
     try simp only[pE]
     refine AO (by kernel_rfl) ?_ _;refine K8 ?_
     gi_wp2
     obtain⟨av,aA⟩:=Da aq;refine⟨by simp,.inl ⟨_,_,rfl,BP av,?_⟩⟩;exact⟨_,Eb rfl _ _ _,aA⟩
  ·intro K b;go_simp;rw[show(X.alloc (.cells #[.int .u8 0] 5)).drew=Z from Da HZ];refine b.out _ _ mZ (λam=>?_);clear b K
   try simp only[pE]
   refine rk 1 (λK b=>?_);go_simp;refine b.out _ _ am (λaw=>?_);clear b K
   try simp only[pE]
   refine rk 3 (λK b=>?_);refine JV rfl _ _ 59 59 rfl _ _ rfl rfl ap ?_;refine b.out _ _ m5 (λax=>?_);clear b K
   try simp only[pE]
   refine rk 4 (λK b=>?_);go_simp;go_at_call 237;refine(Da ak).mono ?_;rintro e w6⟨a',l',c',rfl,d0,d1,d2,d3,ac⟩;go_wp2_with fail;refine b.out _ _ d0 (λay=>?_);clear b K
   try simp only[pE]
   refine rk 5 (λK b=>?_);go_simp;refine b.out _ _ d3 (λaz=>?_);clear b K
   try simp only[pE]
   refine AO (by kernel_rfl) ?_ _;refine K8 ?_;clear aw am ax ay az ag ap m0 mZ m5 aV nZ d0 d1 d2 d3 ak HZ
   gi_wp2
   gi_loopw [7] (λi wr=>∃P:Nat,i=.int .i64 (P:Nat)/\Hid (TI w N (w.heap.size+6) pb db sb so tb E M W4.heap.size (Jv E C st0 L) P wr)) (λi _=>10-(intOf i).toNat)
   case atStart=>exact⟨1,rfl,Da ac⟩
   case round=>
    obtain⟨P,rfl,HR⟩:=hrel;obtain⟨d,st,s,a8,F,f,u,O2,m,Q,aa,v,R⟩:=Da HR;have c0:=(m.b0.cell 0).trans (show _=some (Value.pointer (some ⟨pb,0,none⟩)) from rfl);have c1:=(m.b1.cell 0).trans (show _=some (Value.slice F f u) from rfl);have ah:f=s.size:=by
     obtain⟨g,_,q,_⟩:=m.rs.some (by have:=v.n5;omega);exact q
    have aB:=v.bd;by_cases U:10<s.size
    ·have HC:=Db ((Da ab).index m Q aa v R U);have a6:(10:Int)<(f:Int):=by omega
     clear m Q aa v R HR ah U ac
     gi_wp2_with (fail)
     refine⟨trivial,?_⟩;refine(A2.2 (Da HC)).mono ?_;rintro e w7⟨a3,l3,c3,rfl,f0,f1,au⟩;clear HC c0 c1
     gi_wp2
     go_roundw
     case rel=>exact⟨P+1,by go_num,Da au⟩
     case measure=>simp[intOf];omega
    ·obtain⟨aD,w8,aj,m8,ar⟩:=(Da ab).top m Q (by have:=Da ae;omega) aa v R U;have a7:¬(10:Int)<(f:Int):=by omega
     have af:=Db aj;clear m Q aa v R HR ah U ac aj aD aB
     gi_wp2
     rw[show wr.alloc (.cells #[.slice F f u] 287)=w8 from Da af];clear af;refine EH Qo ?_;refine BE.2 ?_;refine AE (S:=λV=>V.cell? ⟨w.heap.size,0,none⟩=some (.pointer (some ⟨pb,0,none⟩))) (by kernel_rfl) m8 (λag=>?_);refine tk 0 ?_;refine rk 1 (λK b=>?_);go_simp;go_at_call 238;refine(Da ar).mono ?_;rintro e Y⟨p,x,rfl,p0,p1,p2,p3,p4,p5,aq⟩;go_wp2_with fail;refine b.out _ _ p0 (λa0=>?_);clear b K
     try simp only[pE]
     refine tk 2 ?_;refine tk 3 ?_;refine tk 4 ?_;refine rk 5 (λK b=>?_);go_simp;refine b.out _ _ p5 (λa1=>?_);clear b K
     try simp only[pE]
     refine AO (by kernel_rfl) ?_ _;refine K8 ?_
     gi_wp2
     obtain⟨av,aA⟩:=Da aq;refine⟨by simp,.inl ⟨_,_,rfl,BP av,?_⟩⟩;exact⟨_,Eb rfl _ _ _,aA⟩
end
def PY(w:World)(db sb so:Nat)(E:FZ)(F:By×Pl)(e:Ending)(w':World):Prop:=
 ∃pb O',e=.returned (.pointer (some ⟨pb,0,none⟩))/\w.heap.size<=pb/\F.1.size=10/\Qx w' pb db sb so E F.2 (GA F.1:Nat) (GE F.1:Nat) O'/\Bw w w'/\∀j,O' j->w.heap.size<=j
def Dl(es:LI)(cl:Bool)(tp:Nat)(D:LY):FZ:=⟨Dh es,cl,es,tp,D⟩
theorem ZhW(w:World)(c b so tb rd a:Nat)(cl:Bool)(es:LI)(D:LY)(f:Gt (Dl es cl a D))(m:II w w.heap.size c b so (Dl es cl a D))(Z:∃j,j<96/\Dh es j<=0)(V:NV)(M:NS)(vi:Value)(G:Gh)(I:LF)(J:IB)(ch:LY->List Ek)(u:NV)(H:LP w tb rd V M vi G I J ch u)(C:NB)(aa:GD C (Dt ch))(W:∀y∈Dt ch,y.k=2->∃a2 l2 c2,u y.f=.slice a2 l2 c2/\Sl w 5 1 (.slice a2 l2 c2) l2 (Dc (C y.f))/\∀g,Own (.slice a2 l2 c2) g->g<w.heap.size):
  Cl 131 #[.pointer (some ⟨c,0,none⟩),.pointer (some ⟨b,so,none⟩),.pointer (some ⟨tb,0,none⟩),.bool cl] w (PY w c b so (Dl es cl a D) (Jv (Dl es cl a D) C ⟨a+1,[],[]⟩ (Dt ch))):=by
 have ap:a<1536:=f.bt;obtain⟨vb,aj,ag,ao⟩:=m.cb;have E:w.cell? ⟨b,so+1,none⟩=some (.int .i64 (a:Nat)):=m.ct;have ab:b<w.heap.size:=m.sbl;have P:=Db (WM w.drew b so vb es aj ag ⟨f.len,f.srt,f.pl⟩);have O:Hid (∀X,Bw w X->∃Y,X.alloc (.cells (Kc c b so (Dh es) cl (a+1) (.slice none 0 0) 0 0 (.slice none 0 0)).toArray 184)=Y/\Y.cell? ⟨b,so+1,none⟩=some (.int .i64 (a:Nat))/\Hid (Cl 199 #[.pointer (some ⟨X.heap.size,0,none⟩),.pointer (some ⟨tb,0,none⟩)] Y λe w'=>e=.returned (.tuple #[])/\Hid (PY w c b so (Dl es cl a D) (Jv (Dl es cl a D) C ⟨a+1,[],[]⟩ (Dt ch)) (.returned (.pointer (some ⟨X.heap.size,0,none⟩))) w'))):=λX r=>by
  obtain⟨Y,q,xY,kY,sY,bY⟩:=De X (Kc c b so (Dh es) cl (a+1) (.slice none 0 0) 0 0 (.slice none 0 0)) 184;have U:=r.size;have d:Bw w Y:=r.trans (bY.mono U);have hP:F4 Y X.heap.size c b so (Dh es) cl (a+1) (.slice none 0 0) [] 0 0 (.slice none 0 0) []:=⟨xY,⟨rfl,.inl ⟨rfl,rfl⟩⟩,Hw.nil _,λe=>by simp[Own,Value.ownBlock]at e,λe=>by simp[Own,Value.ownBlock]at e,λk e=>by simp[Own,Value.ownBlock]at e⟩;have ak:GV w.heap.size X.heap.size c b so (Dl es cl a D) ⟨a+1,[],[]⟩ (λk=>k=X.heap.size) Y:=by
   refine⟨m.kept (λk cs t z s e=>(d.block k s).trans e),λk s=>by omega,d.size,.slice none 0 0,[],.slice none 0 0,hP,λj k x y _ hx=>by simp at hx,rfl,λx=>by simp,λk=>?_⟩;simp[Own,Value.ownBlock]
  refine⟨Y,q,(d.cell (p:=⟨b,so+1,none⟩) ab).trans E,?_⟩;refine(ZlW Y w w.heap.size X.heap.size c b so tb rd (Dl es cl a D) f Z ⟨a+1,[],[]⟩ rfl rfl (by show a+1<=1536;omega) _ ak rfl d V M vi G I J ch u H C aa W).mono ?_;rintro e w'⟨rfl,af,O',q1,q2,o,q4⟩;refine⟨rfl,X.heap.size,O',rfl,U,af,q1,?_,λg hg=>by have:=q4 g hg;have:=d.size;omega⟩;exact⟨o.os.trans d.os,o.tape.trans d.tape,o.output.trans d.output,Af d.size o.size,λk s=>(o.block k (by have:=d.size;omega) (by omega)).trans (d.block k s)⟩
 have N:=Db (Zo c b so (Dh es) cl (a+1));obtain⟨ae,B⟩:∃V,V=Value.agg (GI (Dh es)).toArray:=⟨_,rfl⟩;obtain⟨R,A⟩:∃L,L=Kc c b so (Dh es) cl (a+1) (.slice none 0 0) 0 0 (.slice none 0 0):=⟨_,rfl⟩;obtain⟨VP,T⟩:∃V,V=Value.agg R.toArray:=⟨_,rfl⟩;rw[<-B,<-A]at N;rw[<-B]at P;rw[<-A]at O;have Q:=Db T;clear B A T;have HC:Hid (∀X,Bw w X->X.cell? ⟨b,so+1,none⟩=some (.int .i64 (a:Nat))):=λX r=>(r.cell (p:=⟨b,so+1,none⟩) ab).trans E
 clear H aa W f m Z;go_enter func131,ntmps131;go_upto_region 1 with fail;refine AE (S:=λX=>X.cell? ⟨b,so+1,none⟩=some (.int .i64 (a:Nat))) (by kernel_rfl) E (λan=>?_);refine tk 0 ?_;refine tk 1 ?_;refine tk 2 ?_;refine tk 4 ?_;refine tk 5 ?_;refine tk 6 ?_;refine tk 7 ?_;refine tk 8 ?_;refine tk 9 ?_;refine A5 (i:=10) (v:=.int .i64 ((a+1:Nat):Int)) rfl (by kernel_rfl) (by kernel_rfl) (by kernel_rfl) (λ_ _ _ h=>h) (Or.inl ⟨by rfl,?_⟩) (by assumption) ?_
 ·intro w ah;(try dsimp only at ah);go_simp;rw[AV];omega
 try simp only[pE]
 refine rk 3 (λK n=>?_);go_simp;go_at_call 198;refine(Da P).mono ?_;rintro e X⟨rfl,l⟩;have F:Bw w X:=⟨l.os,l.tape,l.output,l.size,l.block⟩;have ai:=Da HC X F;obtain⟨Y,q,cY,ad⟩:=Da O X F;have ac:=Db q;clear l F q;go_wp2_with fail;refine n.out _ _ ai (λam=>?_);clear n K
 try simp only[pE]
 refine A5 (i:=11) (v:=VP) rfl (by kernel_rfl) (by kernel_rfl) (by kernel_rfl) (λ_ _ _ h=>h) (Or.inl ⟨by rfl,λV _=>?_⟩) (by assumption) ?_
 ·rw[Da Q];exact Ow V 184 _ rfl (vs:=#[(0,.pointer (some ⟨c,0,none⟩)),(1,.pointer (some ⟨b,so,none⟩)),(2,ae),(3,.bool cl),(4,.int .i64 ((a+1:Nat):Int))]) (by simp[Act.eval]) (Da N)
 try simp only[pE]
 refine rk 12 (λK n=>?_);refine ZT rfl 184 _ rfl R (Da Q) ?_;rw[Da ac];refine n.out _ _ cY (λal=>?_);clear n K
 try simp only[pE]
 refine tk 13 ?_;refine AO (by kernel_rfl) ?_ _;go_wp2_with(go_at_call 199;refine(Da ad).mono ?_;rintro e w'⟨rfl,HP⟩);go_ret;exact Da HP
def Sq(w:World)(stb db:Nat)(vk:Value)(tp tx tn:Int)(vf vn vw ve:Value)(D:LY)(ps:LB)(es:List Int)(e:Ending)(w':World):Prop:=
 e=.returned (.tuple #[])/\∃ve',GW w' stb db vk tp tx tn vf vn vw ve' D ps (es++[((ps.length:Nat):Int)])/\Dk w ve ve'/\Fr (λk=>k=db\/Own ve k) w w'
theorem ZkR(w:World)(c a pb:Nat)(n:Value)(l m k:Int)(g f vw d:Value)(D:LY)(ps:LB)(es:List Int)(h:GW w c a n l m k g f vw d D ps es)(B J so:Nat)(H:Nat->Int)(cl:Bool)(E:Nat)(M:Value)(C:LI)(K L:Int)(O:Value)(b:F4 w pb B J so H cl E M C K L O [])(F:es.length<=999999998)(q:¬GY c a f vw d pb):
  Cl 133 #[.pointer (some ⟨c,0,none⟩),.pointer (some ⟨pb,0,none⟩)] w (Sq w c a n l m k g f vw d D ps es):=by
 obtain⟨z,lp,A,rfl⟩:=Sl.shape b.sp;have r:=Sl.len b.sp;simp only[AK]at r;subst r;have ab:=b.cells.2.2.2.2.2.2;have aa:=(h.row.cell 0).trans (show _=some (Value.pointer (some ⟨a,0,none⟩)) from rfl);obtain⟨o,t,p,rfl⟩:=Sl.shape h.sw;have j:=Sl.len h.sw;have x:Hid (Cl 200 #[.pointer (some ⟨a,0,none⟩)] w λe w'=>e=.returned (.tuple #[])/\w'.cell? ⟨pb,103,none⟩=some (.slice z 0 A)/\Hid (Sq w c a n l m k g f (.slice o t p) d D ps es (.returned (.tuple #[])) w')):=by
  refine(RF w a g f d o t p h.disk.1 es h.se h.nd.2.2 (by omega)).mono ?_;intro e w' s;obtain⟨N,u,I,v⟩:=h.flush s;have G:FX w' pb 184 _:=b.row.fr v (λe=>q (e.elim (λe => .inr (.inl e)) (λe => .inr (.inr (.inr (.inr e))))));rw[j]at u;exact⟨s.1,(G.cell 103).trans (JD _ _ _ _ _ _ _ _ _ _ 5),rfl,N,j ▸ u,I,v⟩
 clear h b F q j;go_enter func133,ntmps133;go_wp2
 go_loopw [11] (λi wr=>i=.int .i64 0/\wr=w) (λi _=>0)
 case atStart=>exact⟨rfl,rfl⟩
 case round=>
  obtain⟨rfl,rfl⟩:=hrel;go_wp2_with(go_at_call 200;refine(Da x).mono ?_;rintro e w3⟨rfl,m1,y⟩);refine Ap (Eb rfl _ _ _) rfl ?_;exact Da y
theorem FZ.puts_ind{E:FZ}{Q:Pl->Prop}(b:∀st r s,s.size=64->Q st->Q (E.put st r s).2)(R:Nat->Nat)(B:NB)(a:∀x,(B x).size=64):∀(st:Pl) (i:Nat) (xs:List Nat),Q st->Q (E.puts R B st i xs)
 |_,_,[],h=>h
 |st,i,x::xs,h=>FZ.puts_ind b R B a _ (i+1) xs (b st (R i) (B x) (a x) h)
theorem Tx{E:FZ}{Q:Pl->Prop}(a:∀st r s,s.size=64->Q st->Q (E.put st r s).2)(C:NB):∀(last:By) (st:Pl) (xs:List It),Q st->Q (Du E C last st xs).2
 |_,_,[],h=>h
 |last,st,x::xs,h=>by
  refine Tx a C (jn x.ns) _ xs ?_;unfold Dw
  split
  ·exact h
  ·split
   ·exact h
   ·exact FZ.puts_ind a _ _ (λx=>Qr _ x) _ _ _ h
theorem TF{E:FZ}{Q:Pl->Prop}(a:∀st r s,s.size=64->Q st->Q (E.put st r s).2):∀(d below:Nat) (st:Pl) (s:By),Q st->Q (DH E d below st s).2
 |0,_,_,_,h=>h
 |d+1,below,st,s,h=>by
  unfold DH
  split
  ·exact TF a d _ _ _ (FZ.puts_ind a _ _ (λx=>Qc _ _ _ x) _ _ _ h)
  ·exact h
theorem Wf{E:FZ}{Q:Pl->Prop}(a:∀st r s,s.size=64->Q st->Q (E.put st r s).2)(C:NB)(st:Pl)(L:List It)(h:Q st):Q (Jv E C st L).2:=
 TF a _ _ _ _ (FZ.puts_ind a _ _ (λx=>Qc _ _ _ x) _ _ _ (Tx a C _ _ _ h))
def Ly(st:Pl):Prop:=(∀y∈st.puts,y.2<1536)/\∀x∈st.ps,x.1<1536/\x.2.size=64
theorem Ly.put{E:FZ}(c:Gt E)(st:Pl)(r:Nat)(s:By)(d:s.size=64)(h:Ly st):Ly (E.put st r s).2:=by
 refine⟨λy b=>?_,λx a=>?_⟩
 ·rw[FZ.put_puts]at b;rcases Aq.1 b with q|q
  ·exact h.1 y q
  ·rw[Ad.1 q];exact c.place_lt st r s
 ·unfold FZ.put at a
  split at a
  ·exact h.2 x a
  ·rcases Aq.1 a with q|q
   ·exact h.2 x q
   ·rw[Ad.1 q];exact⟨Nat.mod_lt _ (by decide),d⟩
theorem SN(E:FZ):∀(d below:Nat) (st:Pl) (s:By),H1 d below st s->∃below',below'<=9/\H1 (9-below') below' (DH E d below st s).2 (DH E d below st s).1/\(DH E d below st s).1.size=10
 |0,below,st,s,h=>⟨below,by have:=h.bd;omega,by have:=h.bd;rw[show 9-below=0 by omega];exact h,by have:=h.n4;have:=h.n5;simp at *;show s.size=10;omega⟩
 |d+1,below,st,s,h=>by
  unfold DH
  split
  ·rename_i a;obtain⟨d',e,b,_⟩:=h.next a E
   cases e
   exact SN E d _ _ _ b
  ·rename_i a;refine⟨below,by have:=h.bd;omega,by have:=h.bd;rw[show 9-below=d+1 by omega];exact h,?_⟩;have:=h.n5;show s.size=10;omega
theorem Ty{C:NB}{L:List It}(b:GD C L)(E:FZ)(st0:Pl)(o:st0.puts=[])(p:st0.ps=[])(r:st0.hd<=1536):
  H1 8 1 (Dy E 3 63 0 (Du E C ⟨#[]⟩ st0 L).2 ((Du E C ⟨#[]⟩ st0 L).1++⟨#[0]⟩)).2 (Dy E 3 63 0 (Du E C ⟨#[]⟩ st0 L).2 ((Du E C ⟨#[]⟩ st0 L).1++⟨#[0]⟩)).1:=by
 obtain⟨t1,i,k,d,l⟩:=Qq E C ⟨#[]⟩ st0 L (λz c=>⟨b.path z c,b.size z c,b.kind z c⟩);rw[o]at i l;rw[p]at k;have d:=d r;have aa:=b.len;simp only[AK]at i k;generalize (Du E C ⟨#[]⟩ st0 L).2=st at *
 generalize (Du E C ⟨#[]⟩ st0 L).1=s at *
 obtain⟨a,e⟩:∃a:By,a=s++⟨#[0]⟩:=⟨_,rfl⟩;have t:a.size=s.size+1:=by rw[e];exact Ai
 rw[<-e];obtain⟨g,h,w⟩:=FZ.puts_len E (Dd 3 0) (Dx 3 a 63) st 0 (List.range ((a.size+63-1)/63));rw[AU]at g h;have f:=QQ E 3 63 0 st a;have m:(Dy E 3 63 0 st a).2.puts.length=st.puts.length+(a.size+63-1)/63:=g;have n:(Dy E 3 63 0 st a).2.ps.length<=st.ps.length+(a.size+63-1)/63:=h;rw[t]at m n f;refine⟨rfl,λy v=>?_,by omega,by omega,w d,by omega,by omega,_,f⟩;rcases FZ.puts_mem E _ _ st 0 _ y v with q|⟨j,_,A,B⟩
 ·rcases l y q with q|⟨x,u,_,j,hj,q⟩
  ·cases q
  ·exact⟨4,x.f,j,q,by omega,.inl ⟨rfl,b.num x u⟩⟩
 ·rw[AU]at A;exact⟨3,0,j,B,by omega,.inr (.inl ⟨rfl,rfl⟩)⟩
structure MA(F:By×Pl):Prop where
 pl:Ly F.2
 n1:F.2.puts.length<=8000
 n2:F.2.ps.length<=8000
 n3:F.1.size=10
 pk:Hz 9 F.2
theorem QU{C:NB}{L:List It}(l:GD C L)(E:FZ)(k:Gt E)(a:Nat)(j:a<=1536):MA (Jv E C ⟨a,[],[]⟩ L):=by
 obtain⟨b,hb,c,d⟩:=SN E 8 1 _ _ (Ty l E ⟨a,[],[]⟩ rfl rfl j);have i1:=c.n1;have i2:=c.n2;refine⟨Wf (Q:=Ly) (λst r s d h=>h.put k st r s d) C _ L ⟨λy g=>(by cases g),λx m=>(by cases m)⟩,?_,?_,d,λy g=>?_⟩
 ·show(DH E 8 1 _ _).2.puts.length<=_;omega
 ·show(DH E 8 1 _ _).2.ps.length<=_;omega
 ·obtain⟨kk,f,i,e,n,o⟩:=c.pk y g;exact⟨kk,f,i,e,n,o.imp id (λe=>e.imp id (λe=>⟨e.1,by omega⟩))⟩
def Hk(puts:List (Nat×Nat))(es:LI):Prop:=Gy es/\es.length=puts.length/\∀x,x∈es↔∃y∈puts,x=((y.1:Int),(y.2:Int))
theorem Hk.places{a:List (Nat×Nat)}{es:LI}(h:Hk a es)(b:a.length<=10000)(c:∀y∈a,y.2<1536):Up es:=
 ⟨by rw[h.2.1];exact b,h.1,λx d=>by
  obtain⟨y,e,rfl⟩:=(h.2.2 x).1 d;exact⟨y.2,rfl,c y e⟩⟩
theorem Gy.nodup{es:LI}(h:Gy es):es.Nodup:=by
 rw[AJ,Bk];intro i j a c b e;have:=h i j es[i] es[j] b (Ac a) (Ac c);rw[e]at this;unfold GK at this;simp at this
theorem UC{α : Type}:∀(J K:List α),J.Nodup->(∀x∈J,x∈K)->K.length<=J.length->List.Perm J K
 |[],K,_,_,hl=>by
  have:K=[]:=AA (by simpa using hl);rw[this]
 |a::J,K,hnd,hs,hl=>by
  rw[Cw]at hnd;obtain⟨s,t,rfl⟩:=List.append_of_mem (hs a (by simp));have ih:=UC J (s++t) hnd.2 (λx b=>by
   have:=hs x (by simp[b]);rcases Aq.1 this with h|h
   ·exact Bn _ h
   ·rcases AC.1 h with rfl|h
    ·exact absurd b hnd.1
    ·exact BZ _ h) (by simp at hl ⊢;omega)
  exact(ih.cons a).trans List.perm_middle.symm
theorem Hk.perm{a:List (Nat×Nat)}{es:LI}(h:Hk a es):List.Perm es (a.map (λy=>((y.1:Int),(y.2:Int)))):=
 UC _ _ h.1.nodup (λx b=>by obtain⟨y,c,rfl⟩:=(h.2.2 x).1 b;exact As.2 ⟨y,c,rfl⟩) (by rw[AL,h.2.1];exact Aa _)
def I6(puts:List (Nat×Nat))(j:Nat):Int:=(if j=0 then 2 else 0)+(puts.countP (λy=>y.2/16==j):Nat)
theorem Hk.nd{a:List (Nat×Nat)}{es:LI}(h:Hk a es):Dh es=I6 a:=by
 funext j
 unfold Dh I6;rw[h.perm.countP_eq,List.countP_map]
 rfl
end Go.Proofs.YtaieidcohdhgpaaGreatDoor
