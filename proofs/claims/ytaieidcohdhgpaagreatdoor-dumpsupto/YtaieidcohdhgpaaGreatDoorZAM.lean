/- Dumps. -/
import Derived.Test.YtaieidcohdhgpaaGreatDoorZAL
import Derived.Deep.WholeRow
namespace Go.Proofs.YtaieidcohdhgpaaGreatDoor
set_option maxHeartbeats 40000000
set_option maxRecDepth 100000
open Go.RowKit
theorem WU(L xs a:LV)(i n:Nat)(hL:(n+1)*2<=L.length)(d:L.take (n*2)=xs)(hi:i<n)(b:a.length=2):
  (FM (FM L ((i+1)*2) (xs.drop (i*2))) (i*2) a).take ((n+1)*2)=xs.take (i*2)++a++xs.drop (i*2):=by
 have c:xs.length=n*2:=by rw[<-d,Ar];omega
 have g:(xs.drop (i*2)).length=(n-i)*2:=by rw[AK,c];omega
 have e:(FM L ((i+1)*2) (xs.drop (i*2))).take (i*2)=xs.take (i*2):=by
  unfold FM;rw[AC,Ep (by rw[Ar];omega),C8,Bu (by omega),<-d,C8,Bu (by omega)]
 have f:(FM L ((i+1)*2) (xs.drop (i*2))).drop (i*2+a.length)=xs.drop (i*2)++L.drop ((i+1)*2+(xs.drop (i*2)).length):=by
  unfold FM;rw[AC,b,show i*2+2=(L.take ((i+1)*2)).length by rw[Ar];omega,FC]
 rw[FM,e,f,<-AC];exact Cw (by simp only[Ab,Ar,g,b,c];omega)
theorem YQ(Z xs a:LV)(i n:Nat)(f:xs.length=n*2)(hi:i<n)(_hZ:(n+1)*2<=(xs.take (i*2)++Z).length)(c:a.length=2):
  (FM (FM (xs.take (i*2)++Z) (i*2) a) ((i+1)*2) (xs.drop (i*2))).take ((n+1)*2)=xs.take (i*2)++a++xs.drop (i*2):=by
 have e:(xs.drop (i*2)).length=(n-i)*2:=by rw[AK,f];omega
 have b:(xs.take (i*2)).length=i*2:=by rw[Ar];omega
 have d:(FM (xs.take (i*2)++Z) (i*2) a).take ((i+1)*2)=xs.take (i*2)++a:=by
  unfold FM;rw[Cw b];exact Cw (by simp only[Ab,b,c];omega)
 rw[FM,d];exact Cw (by simp only[Ab,b,e,c];omega)
theorem Xq{w c:World}{b ho:Nat}{v d:Value}{e:TypeId}{n:Nat}{xs:LV}(g:w.cell? ⟨b,ho,none⟩=some v)(j:v.ownBlock≠some b)(o:Sl c e 2 d n xs)(s:Dh w v d)
  (t:c.os=w.os) (y:c.tape=w.tape) (u:c.output=w.output) (x:w.heap.size<=c.heap.size) (f:∀k,k<w.heap.size->v.ownBlock≠some k->c.heap[k]?=w.heap[k]?):
  (c.setCell ⟨b,ho,none⟩ d).cell? ⟨b,ho,none⟩=some d/\Sl (c.setCell ⟨b,ho,none⟩ d) e 2 d n xs/\Ii w (c.setCell ⟨b,ho,none⟩ d) b ho v d:=by
 have r:b<w.heap.size:=Al _ _ g;have i:c.heap[b]?=w.heap[b]? := f b r j;have p:c.cell? ⟨b,ho,none⟩=some v:=(Ax (w:=w) (a:=⟨b,ho,none⟩) i).trans g;refine⟨B8 _ _ _ p,o.setCell _ _ (fun e=>?_),t,y,u,by simpa [World.setCell] using x,fun k q l m=>?_,?_⟩
 ·rcases s b e with h|h
  ·exact j h
  ·omega
 ·rw[AB _ _ _ _ l];exact f k q m
 ·simp only[World.setCell,Fe,EZ];rw[i]
theorem Mn(w:World)(v:Value)(a:LI)(i:Nat)(x:Int×Int)(vb:Nat)(A:Sl w 350 2 v a.length (Dq a))(hi:i<=a.length)(t:a.length<=10000)
  (y:FH w vb 350 (GM x)) (H:v.ownBlock≠some vb):
  Cl 274 #[v,.int .i64 i,.slice (some ⟨vb,0,none⟩) 1 1] w fun e w'=>∃l,e = .returned l/\Sl w' 350 2 l (a.length+1) (Dq (a.take i++x::a.drop i))/\w.grownBy w' v.ownBlock/\Dh w v l:=by
 have o:∀u∈GM x,u.oneCell'=true:=fun u J=>Pq [x] u (by simpa [Dq] using J)
 have f:Dq (a.take i++x::a.drop i)=(Dq a).take (i*2)++GM x++(Dq a).drop (i*2):=by
  rw[Zi1,Zi2,ZgZ,AC];rfl
 have j:=ZgY a;rcases Bk i a.length with n|aa
 ·rcases A.2 with⟨rfl,h0⟩|⟨g,m,L,rfl,z,E,B,d,s⟩
  ·omega
  ·have I:vb≠g:=fun e=>H (by simp[Value.ownBlock,e])
   have C:((Dq a).take (i*2)++GM x++(Dq a).drop (i*2)).length=(a.length+1)*2:=by
    simp only[Ab,Ar,AK,j];simp[GM];omega
   rcases Bk m (a.length+1) with F|D
   ·refine(X7 w g a.length m (Dq a) L i vb (GM x) z d s n E F t y rfl (Pq a) o).mono ?_;rintro e w' ⟨G,Z,rfl,p,q,b,r,c⟩;refine⟨_,rfl,⟨by rw[f];exact C,.inr ⟨_,G,_,rfl,r,p,q,?_,?_⟩⟩,⟨c.os,c.tape,c.output,c.size,fun k h _=>c.block k h (by simp;omega)⟩,fun k h => .inr (by simp[Value.ownBlock]at h;omega)⟩
    ·rw[DP,DP,b]
     ·rw[b];simp[GM];omega
     ·rw[DP (by rw[b];simp[GM];omega),b,AK,j];omega
    ·rw[f];exact YQ Z (Dq a) (GM x) i a.length j n (by rw[b];omega) rfl
   ·refine(Xi w g a.length m (Dq a) L i vb (GM x) z d s n D B t y rfl (Pq a) o I).mono ?_;rintro e w' ⟨rfl,r,c⟩;refine⟨_,rfl,⟨by rw[f];exact C,.inr ⟨_,m,_,rfl,r,D,B,?_,?_⟩⟩,c,fun k h => .inl h⟩
    ·rw[DP,DP,d]
     ·rw[AK,j,d];omega
     ·rw[DP (by rw[AK,j,d];omega),d];simp[GM];omega
    ·rw[f];exact WU L (Dq a) (GM x) i a.length (by rw[d];omega) s n rfl
 ·obtain rfl:i=a.length:=by omega
  refine(Xh w v a.length (Dq a) vb (GM x) A t y rfl o).mono ?_;rintro e w' ⟨l,rfl,p,q,b⟩;refine⟨l,rfl,?_,q,b⟩;rw[f,AI (by omega),Bf (by omega),AZ];exact p
theorem Lm(w:World)(c ho:Nat)(v:Value)(a:LI)(d:Int)(hc:w.cell? ⟨c,ho,none⟩=some v)(g:Sl w 350 2 v a.length (Dq a))(h:a.length<=10000)(j:Gi a):
  Cl 273 #[.pointer (some ⟨c,ho,none⟩),.int .u64 d] w fun e w'=>∃(i:Nat) (b:Bool),e = .returned (.tuple #[.int .i64 i,.bool b])/\Lg a d i b/\Bw w w':=by
 have l:=L6 v a d w g h j;clear g h j;go_enter Tryz.func273,Tryz.ntmps273;go_wp2_with fail;refine l.mono ?_;rintro e w' ⟨i,b,rfl,f,c⟩;have k:=Db f;clear f;go_wp2
 go_ret2
 exact⟨i,b,rfl,Da k,c⟩
def LO(es:LI)(key:Int)(r:Int)(b:Bool):Prop:=(b=true/\(key,r)∈es)\/(b=false/\r=0/\∀x∈es,x.1≠key)
theorem Lg.here{a:LI}{b:Int}{i:Nat}(h:Lg a b i true):∃r,a[i]?=some (b,r):=by
 obtain⟨x,c,d⟩:=h.2.2.2.1 rfl;exact⟨x.2,by rw[c,<-d]⟩
theorem Lg.not{a:LI}{l:Int}{i:Nat}(m:Gi a)(h:Lg a l i false):∀x∈a,x.1≠l:=by
 intro x n e;obtain⟨k,b⟩:=BR n;rcases Bk k i with j|j
 ·have:=h.2.1 k x j b;rw[e,Qj]at this;cases this
 ·rcases Bk i k with c|c
  ·have g:i<a.length:=by have:=(Ad.1 b).1;omega
   have d:=m i k _ x c (Ac g) b;have f:=h.2.2.1 i _ (Aa _) (Ac g);rw[e]at d;rw[d]at f;cases f
  ·obtain rfl:k=i:=by omega
   have:=h.2.2.2.2 ⟨x,b,e⟩
   cases this
theorem NN(w:World)(c ho:Nat)(v:Value)(a:LI)(o:Int)(l:w.cell? ⟨c,ho,none⟩=some v)(k:Sl w 350 2 v a.length (Dq a))(D:a.length<=10000)(y:Gi a):
  Cl 300 #[.pointer (some ⟨c,ho,none⟩),.int .u64 o] w fun e w'=>∃(r:Int) (b:Bool),e = .returned (.tuple #[.int .i64 r,.bool b])/\LO a o r b/\Bw w w':=by
 have C:c<w.heap.size:=Al _ _ l;have x:=Lm w c ho v a o l k D y;go_enter Tryz.func300,Tryz.ntmps300;go_wp2_with fail;refine x.mono ?_;rintro e w1 ⟨i,b,rfl,f,h⟩;clear x
 cases b with
 | false=>
  have A:=Db (Lg.not y f);clear f k;go_wp2
  go_ret2
  exact⟨0,false,rfl,.inr ⟨rfl,rfl,Da A⟩,h⟩
 | true=>
  obtain⟨r,d⟩:=f.here;rcases k.2 with⟨rfl,h0⟩|⟨g,aa,L,rfl,n,ab,ac,B,s⟩
  ·have:=(Ad.1 d).1;omega
  ·have t:∀j u,(Dq a)[j]?=some u->w1.cell? ⟨g,j,none⟩=some u:=fun j u m=>by
    rw[h.cell (p:=⟨g,j,none⟩) n.lt,n.cell];rw[<-s,Ap]at m
    split at m
    ·exact m
    ·cases m
   have q:=M9 a i _ d;have q0:=(h.cell (p:=⟨c,ho,none⟩) C).trans l;have q1:=t _ _ q.2;have hi:i<a.length:=(Ad.1 d).1;have z:=Db (An d);clear q t n B s k f d l;go_wp2
   go_ret2
   exact⟨r,true,rfl,.inl ⟨rfl,Da z⟩,h⟩
theorem Zl{a:LI}{e:Int}{i:Nat}(f:Int)(l:Gi a)(h:Lg a e i false):
  Gi (a.take i++(e,f)::a.drop i)/\(a.take i++(e,f)::a.drop i).length=a.length+1/\∀x,x∈a.take i++(e,f)::a.drop i↔x=(e,f)\/x∈a:=by
 have hi:=h.1;have v:=Lg.not l h;have r:∀k x,i<=k->a[k]?=some x->Gn e x.1=true:=fun k x t c=>by
  have b:=h.2.2.1 k x t c;have g:=v x (An c);exact TP b g
 have u:(a.take i).length=i:=by rw[Ar];omega
 have q:∀k,(a.take i++(e,f)::a.drop i)[k]?=if k<i then a[k]? else if k=i then some (e,f) else a[k-1]? := fun k=>by
  by_cases b:k<i
  ·rw[if_pos b,AU (by omega),Ap,if_pos b]
  ·rw[if_neg b,AD (by omega),u];by_cases g:k=i
   ·rw[if_pos g];simp[g]
   ·rw[if_neg g,show k-i=(k-i-1)+1 by omega,BU,A3]
    congr 1;omega
 refine⟨fun j k x y s c d=>?_,?_,fun x=>?_⟩
 ·rw[q]at c d;by_cases o:j<i
  ·rw[if_pos o]at c;by_cases m:k<i
   ·rw[if_pos m]at d;exact l j k x y s c d
   ·rw[if_neg m]at d;by_cases n:k=i
    ·rw[if_pos n]at d;cases d;exact h.2.1 j x o c
    ·rw[if_neg n]at d;exact l j (k-1) x y (by omega) c d
  ·rw[if_neg o]at c;have m:¬k<i:=by omega
   have n:¬k=i:=by omega
   rw[if_neg m,if_neg n]at d;by_cases p:j=i
   ·rw[if_pos p]at c;cases c;exact r (k-1) y (by omega) d
   ·rw[if_neg p]at c;exact l (j-1) (k-1) x y (by omega) c d
 ·simp;omega
 ·have:a=a.take i++a.drop i:=(BT i a).symm;constructor
  ·intro c;simp only[As,AG]at c;rcases c with b|b|b
   ·exact .inr (Bm b)
   ·exact .inl b
   ·exact .inr (BH b)
  ·intro c;simp only[As,AG];rcases c with b|b
   ·exact .inr (.inl b)
   ·rw[this,As]at b;rcases b with b|b
    ·exact .inl b
    ·exact .inr (.inr b)
theorem RT(w:World)(c ho:Nat)(v:Value)(d:LI)(j:Int)(r:Int)(o:w.cell? ⟨c,ho,none⟩=some v)(hf:w.frozen? ⟨c,ho,none⟩=false)(D:v.ownBlock≠some c)(y:Sl w 350 2 v d.length (Dq d))(P:d.length<=10000)(E:Gi d)(R:∀x∈d,x.1≠j):
  Cl 243 #[.pointer (some ⟨c,ho,none⟩),.int .u64 j,.int .i64 r] w fun e w'=>e = .returned (.tuple #[])/\∃f es',w'.cell? ⟨c,ho,none⟩=some f/\Sl w' 350 2 f es'.length (Dq es')/\
   Gi es'/\es'.length=d.length+1/\(∀x,x∈es'↔x=(j,r)\/x∈d)/\Dh w v f/\Ii w w' c ho v f:=by
 have B:c<w.heap.size:=Al _ _ o;have M:=Lm w c ho v d j o y P E;go_enter Tryz.func243,Tryz.ntmps243;go_wp2_with fail;refine M.mono ?_;rintro e w1 ⟨i,b,rfl,t,l⟩;have ab:b=false:=by
  cases b with
  | false=>rfl
  | true=>obtain⟨r',af⟩:=t.here;exact absurd rfl (R _ (An af))
 subst ab;have q0:w1.cell? ⟨c,ho,none⟩=some v:=(l.cell (p:=⟨c,ho,none⟩) B).trans o;have ai:w.heap.size<=w1.heap.size:=l.size;have z:Sl w1 350 2 v d.length (Dq d):=y.kept (fun k C _=>l.block k C);have N:∀W:World,W.heap=(w1.alloc (.cells #[.int .u64 j,.int .i64 r] 350)).heap->W.os=w1.os->W.tape=w1.tape->W.output=w1.output->Cl 274 #[v,.int .i64 i,.slice (some ⟨w1.heap.size,0,none⟩) 1 1] W fun e w'=>∃m s n f,e = .returned (.slice m s n)/\f = .slice m s n/\
   (w'.cell? ⟨c,ho,none⟩=some v/\w'.frozen? ⟨c,ho,none⟩=false)/\Hid ((w'.setCell ⟨c,ho,none⟩ f).cell? ⟨c,ho,none⟩=some f/\Sl (w'.setCell ⟨c,ho,none⟩ f) 350 2 f (d.length+1) (Dq (d.take i++(j,r)::d.drop i))/\Ii w (w'.setCell ⟨c,ho,none⟩ f) c ho v f/\Dh w v f):=fun W u U V X=>by
  have Z:Sl W 350 2 v d.length (Dq d):=(Sl.of_owns (z.owns.alloc _)).heap u;have Y:FH W w1.heap.size 350 (GM (j,r)):=by unfold FH;rw[u];exact Bs w1 _
  refine(Mn W v d i (j,r) w1.heap.size Z t.1 P Y (fun e=>by have:=z.lt e;omega)).mono ?_;rintro e w' ⟨f,rfl,L,q,ae⟩;have aa:w.heap.size<=W.heap.size:=by rw[u];simp;omega
  have A:∀k,k<w.heap.size->v.ownBlock≠some k->w'.heap[k]?=w.heap[k]? := fun k C ad=>by
   rw[q.block k (by omega) (fun e=>ad e.symm),u,BE _ _ _ (by omega),l.block k C]
  have Q:Dh w v f:=fun g ac=>(ae g ac).imp id (fun h=>by omega)
  obtain⟨G,H,I⟩:=Xq (ho:=ho) o D L Q (q.os.trans (U.trans l.os)) (q.tape.trans (V.trans l.tape)) (q.output.trans (X.trans l.output)) (Ae aa q.size) A;obtain⟨m,s,n,K⟩:=L.shape;exact⟨m,s,n,f,by rw[K],K,⟨(Ax (w:=w) (a:=⟨c,ho,none⟩) (A c B D)).trans o,(CX (w:=w) (a:=⟨c,ho,none⟩) (A c B D)).trans hf⟩,G,H,I,Q⟩
 have F:=Db (Zl r E t);have O:(d.take i++(j,r)::d.drop i).length=d.length+1:=(Da F).2.1;have J:=Db O;have T:=Db N;clear O t y z E R M l N;go_wp2_with (go_at_call 274;refine(Da T _ (by exact rfl) (by exact rfl) (by exact rfl) (by exact rfl)).mono ?_;rintro e w2 ⟨m,s,n,f,rfl,rfl,⟨ag,ah⟩,S⟩)
 all_goals (
  go_end0
  obtain⟨G,H,I,m4⟩:=Da S;exact⟨rfl,_,_,G,by rw[Da J];exact H,(Da F).1,Da J,(Da F).2.2,m4,I⟩)
section
open Go.RowKit Go.Shelf
attribute [local go_sem] Oper.semAt_some
theorem MF(F:Fence)(n:Nat)(M:F.fn 270)(Q:F.round=none)(hn:1<=n)(l t h A ho g D:Nat){α : Type}(b : α -> Int×Int)(a:List α)(ab:a.length<=10000)(B:g<h)(J y:List α -> World->Prop)
  (W:World) (G:AbidesFrom W.heap.size J)
  (L:∀pre x W,J pre W->pre.length<a.length->YieldAt F (n-1) Tryz.prog l #[.int .u64 (b x).1,.int .i64 (b x).2] W fun e c=>
   (e = .returned (.bool true)/\J (pre++[x]) c/\Below h W c)\/(e = .returned (.bool false)/\y (pre++[x]) c))
  (aa:W.cell? ⟨t,0,none⟩=some (.pointer (some ⟨A,ho,none⟩))) (hc:W.cell? ⟨A,ho,none⟩=some (.slice (some ⟨g,0,none⟩) a.length D))
  (s:∀j u,(Dq (a.map b))[j]?=some u->W.cell? ⟨g,j,none⟩=some u) (P:h<=W.heap.size) (E:J [] W):
  CallsIn F n Tryz.prog 270 #[.func (.yield l) #[] #[],.pointer (some ⟨t,0,none⟩)] W fun e c=>(∃v,e = .returned v)/\
   ((∃ys,ys=a/\J ys c)\/(∃pre,pre <+: a/\y pre c)):=by
 refine Cv Tryz.func270 rfl M ?_ Q;simp only[Tryz.ntmps270,AQ,Af,Ay,Nat.reduceAdd,Nat.reduceSub,AP,AO,AV,AR,AJ,AL]
 gi_wp2
 gi_loopw [10] (fun i wr=>∃k:Nat,k<=a.length/\i = .int .i64 k/\J (a.take k) wr/\Below h W wr)
  (fun i _=>a.length-(intOf i).toNat)
 case atStart=>exact⟨0,Aw _,rfl,E,Ag _ _⟩
 case round=>
  obtain⟨k,hk,rfl,m,d⟩:=hrel;by_cases O:k<a.length
  ·obtain⟨x,f⟩:∃x,a[k]?=some x:=⟨_,Ac O⟩;have w:Hid (a.take (k+1)=a.take k++[x]):=by show _=_;rw[Bg,f];rfl
   have q:=M9 (a.map b) k (b x) (by rw[Be,f];rfl);have q0:=(d.cell (p:=⟨g,k*2,none⟩) B).trans (s _ _ q.1);have q1:=(d.cell (p:=⟨g,k*2+1,none⟩) B).trans (s _ _ q.2);have C:(a.take k).length<a.length:=by rw[Ar];omega
   have z:∀o,J (a.take k) (wr.alloc o):=fun o=>G _ _ _ none m (Nk wr o) (fun r e=>by cases e)
   obtain⟨fn,tmps,assign,body,hy,K⟩:=L _ x (wr.alloc (.cells #[.int .u64 (b x).1,.int .i64 (b x).2] 350)) (z _) C;have HX:=Db f;clear q f C z s
   gi_wp2
   refine K.mono ?_;rintro e W3 (⟨rfl,H,N⟩|⟨rfl,I⟩)
   ·gi_wp2
    go_roundw
    case rel=>exact⟨k+1,by omega,by go_num,by rw[Da w];exact H,(d.alloc (Ae P d.size) _).trans N⟩
    case measure=>simp[intOf];omega
   ·gi_wp2
    refine Aq (CZ rfl _ _ _) rfl ?_;exact⟨⟨_,rfl⟩,.inr ⟨_,by rw[<-Da w];exact Fh _ _,I⟩⟩
  ·obtain rfl:k=a.length:=by omega
   gi_wp2
   go_end0
   exact⟨⟨_,rfl⟩,.inl ⟨_,rfl,by rw[BN]at m;exact m⟩⟩
theorem Yy(F:Fence)(n:Nat)(g:F.fn 270)(h:F.round=none)(l a b ho:Nat){α : Type}(J:List α -> World->Prop)(W:World)
  (aa:W.cell? ⟨a,0,none⟩=some (.pointer (some ⟨b,ho,none⟩))) (hc:W.cell? ⟨b,ho,none⟩=some (.slice none 0 0)) (d:J [] W):
  CallsIn F n Tryz.prog 270 #[.func (.yield l) #[] #[],.pointer (some ⟨a,0,none⟩)] W fun e c=>(∃v,e = .returned v)/\J [] c:=by
 refine Cv Tryz.func270 rfl g ?_ h;simp only[Tryz.ntmps270,AQ,Af,Ay,Nat.reduceAdd,Nat.reduceSub,AP,AO,AV,AR,AJ,AL]
 gi_wp2
 gi_loopw [10] (fun i wr=>i = .int .i64 0/\J [] wr) (fun _ _=>0)
 case atStart=>exact⟨rfl,d⟩
 case round=>
  obtain⟨rfl,f⟩:=hrel
  gi_wp2
  go_end0
  exact⟨⟨_,rfl⟩,f⟩
theorem Wz(F:Fence)(n:Nat)(b:F.fn 235)(c:F.round=none)(a:OA)(w:World):
  CallsIn F n Tryz.prog 235 #[.pointer a] w fun e w'=>e = .returned (.func (.func 270) #[] #[.pointer (some ⟨w.heap.size,0,none⟩)])/\w'=w.alloc (.cells #[.pointer a] 294):=by
 refine Cv Tryz.func235 rfl b ?_ c;simp only[Tryz.ntmps235,AQ,Af,Ay,Nat.reduceAdd,Nat.reduceSub,AP,AO,AV,AR,AJ,AL]
 gi_wp2
 go_ret;exact⟨rfl,rfl⟩
theorem ZkU(F:Fence)(n:Nat)(s:F.fn 270)(t:F.round=none)(M:1<=n)(b h c ho:Nat)(v:Value){α : Type}(i : α -> Int×Int)(a:List α)(K:a.length<=10000)(w:World)(B:b<w.heap.size)(H:c<w.heap.size)(N:h<=w.heap.size)
  (A:w.cell? ⟨b,0,none⟩=some (.pointer (some ⟨c,ho,none⟩))) (I:w.cell? ⟨c,ho,none⟩=some v) (D:Sl w 350 2 v a.length (Dq (a.map i))) (O:∀g,v.ownBlock=some g->g<h):
  SeqStopsK F n Tryz.prog 270 #[.pointer (some ⟨b,0,none⟩)] (fun x : α => #[.int .u64 (i x).1,.int .i64 (i x).2]) (Below h) (fun Q=>Q=a) (fun P=>P <+: a) a.length w:=fun l J y W d C _ G m=>by
 have o:=(d.cell (p:=⟨b,0,none⟩) B).trans A;have r:=(d.cell (p:=⟨c,ho,none⟩) H).trans I;rcases D.2 with⟨rfl,k⟩|⟨g,z,R,rfl,q,_,_,_,E⟩
 ·obtain rfl:a=[]:=Ak k;exact(Yy F n s t l b c ho J W o r m).mono fun e W' ⟨k,L⟩=>⟨k,.inl ⟨_,rfl,L⟩⟩
 ·exact MF F n s t M l b h c ho g z i a K (O g rfl) J y W C G o r (fun j u f=>by
   rw[d.cell (p:=⟨g,j,none⟩) q.lt,q.cell];rw[<-E,Ap]at f
   split at f
   ·exact f
   ·cases f) (Ae N d.size) m
end
theorem Tp(s:By)(k:Nat)(h:k<s.size):(Dd s)[k]?=some (.int .u8 (s.data[k].toNat:Int)):=by
 unfold Dd;rw[Be,Ac (by simpa using h)];simp
def Mq(y:Int)(b:UInt8):Int:=IntKind.u64.wrap (bits BinOp.xor IntKind.u64 y (IntKind.u64.wrap b.toNat)*1099511628211)
def KI(l:List UInt8):Int:=l.foldl Mq 14695981039346656037
theorem T5(l:List UInt8)(b:UInt8):KI (l++[b])=Mq (KI l) b:=by unfold KI;rw[FG];rfl
theorem Tz(s:By)(k:Nat)(h:k<s.size):s.data.toList.take (k+1)=s.data.toList.take k++[s.data[k]]:=by
 rw[B9 (by simpa using h)];simp
theorem M0(w:World)(a:OA)(l c:Nat)(s:By)(h:Ge w a l c s)(hs:s.size<=2000000):
  Cl 215 #[.slice a l c] w fun e w'=>e = .returned (.int .u64 (KI s.data.toList))/\w'=w:=by
 obtain⟨q,_,f⟩:=h;subst q;have m:=Db f;clear f;obtain⟨r,b⟩:=ex (KI s.data.toList);rw[<-b];have n:=Db b;clear b;go_enter Tryz.func215,Tryz.ntmps215;go_wp2
 go_loop [3,8] (fun x i=>∃(k:Nat) (y:Int),k<=s.size/\i = .int .i64 k/\x = .int .u64 y/\Hid (y=KI (s.data.toList.take k))) (fun _ i=>s.size-(intOf i).toNat)
 case atStart=>exact⟨0,_,Aw _,rfl,rfl,rfl⟩
 case round=>
  obtain⟨k,y,hk,rfl,rfl,j⟩:=hrel;by_cases d:k<s.size
  ·obtain⟨g,rfl,q0⟩:=Da m k _ (Tp s k d);go_wp2
   go_round
   case rel=>exact⟨k+1,_,by omega,by go_num,rfl,by show _=_;rw[Tz s k d,T5,<-Da j];rfl⟩
   case measure=>simp[intOf];omega
  ·obtain rfl:k=s.size:=by omega
   go_wp2;go_ret;have o:s.data.toList.take s.size=s.data.toList:=AI (Fd Az);have p:y=r:=by rw[Da n,Da j,o]
   exact⟨by rw[p]<;>rfl,rfl⟩
def cP(b:Nat)(w:World)(v:Value)(s:By):Prop:=Sl w 5 1 v s.size (Dd s)/\∀g,v.ownBlock=some g->b<=g
theorem cP.nil(b:Nat)(w:World):cP b w (.slice none 0 0) ⟨#[]⟩:=⟨⟨rfl,.inl ⟨rfl,rfl⟩⟩,fun g h=>by simp[Value.ownBlock]at h⟩
theorem cP.below{b:Nat}{w w':World}{v:Value}{s:By}(h:cP b w v s)(a:Bw w w'):cP b w' v s:=⟨h.1.kept (fun k c _=>a.block k c),h.2⟩
theorem cP.rdB{b:Nat}{w:World}{a:OA}{l c:Nat}{s:By}(h:cP b w (.slice a l c) s):Ge w a l c s:=by
 have f:l=s.size:=by
  rcases h.1.2 with⟨e,d⟩|⟨g,aa,L,e,_⟩
  ·cases e;exact d.symm
  ·cases e;rfl
 subst f;exact h.1.rdB
def Own(v:Value)(k:Nat):Prop:=v.ownBlock=some k
theorem Fr.then{X Y:Nat->Prop}{w w1 d:World}(h:Fr X w w1)(a:Fr Y w1 d)(f:∀k,k<w.heap.size->Y k->X k):Fr X w d:=
 ⟨a.os.trans h.os,a.tape.trans h.tape,a.output.trans h.output,Ae h.size a.size,fun k b c=>(a.block k (Ao b h.size) (fun e=>c (f k b e))).trans (h.block k b c)⟩
theorem cP.frBelow{b:Nat}{w w':World}{v:Value}{s:By}(h:cP b w v s)(hb:b<=w.heap.size)(a:Fr (Own v) w w'):Below b w w':=
 ⟨a.os,a.tape,a.output,a.size,fun k hk=>a.block k (by omega) (fun e=>by have:=h.2 k e;omega)⟩
theorem Kj(w:World)(b:Nat)(hb:b<=w.heap.size)(v:Value)(s:By)(h:cP b w v s)(a:Addr)(m c:Nat)(t:By)(z:t.size=m)(A:∀j u,(Dd t)[j]?=some u->w.cell? (a.add j)=some u)(hl:s.size+m<=4000000):
  ∃d i f w',(Builtin.append_ #[59,59] 59 #[v,.slice (some a) m c]).run Tryz.prog w = .ok (.slice d i f) w'/\cP b w' (.slice d i f) (s++t)/\Fr (Own v) w w'/\Dh w v (.slice d i f):=by
 obtain⟨E,x,B,C,D⟩:=Bn Qc;obtain⟨v',G,F,o,l,p⟩:=JZ (P:=Tryz.prog) w 59 59 5 E _ 1 1 Tryz.underlying59 x B C D rfl (by decide) v s.size (Dd s) h.1 a m c (Dd t) (by rw[Dj];omega)
  A (Qi t) (by unfold maxLen;omega) (by omega)
 obtain⟨d,i,f,rfl⟩:=o.shape;refine⟨d,i,f,G,F,⟨?_,fun g r=>?_⟩,⟨l.os,l.tape,l.output,l.size,fun k y q=>l.block k y (fun e=>q e.symm)⟩,p⟩
 ·rw[KF,show(s++t).size=s.size+m by rw[Ai,z]];exact o
 ·rcases p g r with n|n
  ·exact h.2 g n
  ·omega
def DK:Nat->Nat->List UInt8
 | _,0=>[]
 | x,m+1=>UInt8.ofNat x::DK (x/256) m
theorem Qz:∀(m x:Nat),(DK x m).length=m
 | 0,_=>rfl
 | m+1,x=>by simp[DK,Qz m]
theorem K2(s:By):s++⟨#[]⟩=s:=by
 apply AY;simp
theorem Ox(s:By)(l:List UInt8)(b:UInt8):s++⟨l.toArray⟩++⟨#[b]⟩=s++⟨(l++[b]).toArray⟩:=by
 apply AY;simp
theorem TY{x y m k:Nat}(b:k<m)(h:DK y (m-k)=(DK x m).drop k):(DK x m).take (k+1)=(DK x m).take k++[UInt8.ofNat y]/\DK (y/256) (m-(k+1))=(DK x m).drop (k+1):=by
 have e:m-k=(m-(k+1))+1:=by omega
 rw[e]at h;have a:k<(DK x m).length:=by rw[Qz];exact b
 rw[BY a]at h;simp only[DK,List.cons.injEq]at h;exact⟨by rw[B9 a,h.1],h.2⟩
theorem Ka(y:Nat):IntKind.u8.wrap (y:Int)=((UInt8.ofNat y).toNat:Int):=by
 simp[IntKind.wrap,IntKind.bits,IntKind.signed]
theorem UI(w:World)(b:Nat)(hb:b<=w.heap.size)(a:OA)(l c:Nat)(s:By)(h:cP b w (.slice a l c) s)(x:Nat)(U:x<18446744073709551616)(m:Nat)(hm:m<=8)(hs:s.size<=2000000):
  Cl 212 #[.slice a l c,.int .u64 x,.int .i64 m] w fun e w'=>∃d o f,e = .returned (.slice d o f)/\cP b w' (.slice d o f) (s++⟨(DK x m).toArray⟩)/\Fr (Own (.slice a l c)) w w'/\Dh w (.slice a l c) (.slice d o f):=by
 have H:=Db h;clear h;go_enter Tryz.func212,Tryz.ntmps212;go_wp2
 go_loopw [0,1,8] (fun v y i wr=>∃(k y':Nat) (d:OA) (o f:Nat),k<=m/\i = .int .i64 k/\y = .int .u64 y'/\v = .slice d o f/\y'<18446744073709551616/\Hid (cP b wr v (s++⟨((DK x m).take k).toArray⟩))/\Hid (DK y' (m-k)=(DK x m).drop k)/\Hid (Fr (Own (.slice a l c)) w wr/\Dh w (.slice a l c) v)) (fun _ _ i _=>m-(intOf i).toNat)
 case atStart=>exact⟨0,x,a,l,c,Aw _,rfl,rfl,rfl,U,by show cP _ _ _ _;rw[Co,K2];exact Da H,rfl,Fr.refl _ _,fun g r => .inl r⟩
 case round=>
  obtain⟨k,y,d,o,f,P,rfl,rfl,rfl,hy,t,L,p⟩:=hrel;by_cases R:k<m
  ·have G:IntKind.u8.wrap (y:Int)=((UInt8.ofNat y).toNat:Int):=Ka y;have aa:=(Da p).1.size;obtain⟨W,E,I,Q,S,q⟩:=De wr [.int .u8 (IntKind.u8.wrap (y:Int))] 5;obtain⟨z,J,A,V,F,D,B,C⟩:=Kj W b (by omega) _ _ ((Da t).below q) ⟨wr.heap.size,0,none⟩ 1 1 ⟨#[UInt8.ofNat y]⟩ rfl (fun j u T=>by rw[AF,Au,I.cell,G];exact T) (by rw[Ai];show s.size+(List.toArray _).size+1<=_;simp;omega);have M:=Db D;have K:Hid (Fr (Own (.slice a l c)) w V/\Dh w (.slice a l c) (.slice z J A)):=by
    refine⟨((Da p).1.then (Fr.of_below (X:=Own (.slice a l c)) q) (fun k _ h=>h)).then B (fun k P e=>((Da p).2 k e).elim id (fun h=>by omega)),fun g r=>?_⟩;rcases C g r with n|n
    ·exact(Da p).2 g n
    ·exact .inr (by omega)
   have N:=Db E;clear D B C I Q S q E G;rw[<-Da N]at F;go_wp2_with (at_builtin;refine Aj _ rfl _ _ 59 59 rfl _ _ rfl rfl _ _ F ?_)
   go_roundw
   case rel=>
    obtain⟨n,O⟩:=TY R (Da L);exact⟨k+1,y/256,z,J,A,by omega,by go_num,by go_num,rfl,by omega,by show cP _ _ _ _;rw[n,<-Ox];exact Da M,O,K⟩
   case measure=>simp[intOf];omega
  ·obtain rfl:k=m:=by omega
   go_wp2;go_ret;have n:=Da t;rw[AI (by rw[Qz];exact Aa _)]at n;exact⟨d,o,f,rfl,n,Da p⟩
abbrev Ey:=@zero_of_info
def Du(n:Nat):By:=⟨(List.replicate n 0).toArray⟩
def DG(s:By):Value := .agg (Dd s).toArray
theorem KE{P:Program}{b:Array Oper}{c:List Oper}{o:Oper}{a:Act}{w:World}{Q:Exit->Act->World->Prop}(e:o.guard=none)(t:TypeId)(ho:o.op = .alloc t){zs:Array Value}(f:∀w,(zeroValue t).run P w = .ok (.agg zs) w)
  (h:wpList P b Q c (a.put o.dst (.pointer (some ⟨w.heap.size,0,none⟩))) (w.alloc (.cells zs t))):wpList P b Q (o::c) a w:=by
 refine Fw e fun K d=>?_
 unfold Oper.wp execOp;simp only[ho,Instr.alloc,Cy,f,Cr];simp[newVar,newRow,go_sem,Value.cells];exact d _ _ h
theorem Ry:(Tryz.prog.info? 188).map (fun i=>(i.zero,i.size))=some (some (DG (Du 64)),64):=by kernel_rfl
theorem Ui:∀w,(zeroValue 188).run Tryz.prog w = .ok (DG (Du 64)) w:=(Ey Ry).1
theorem Kf:(Tryz.prog.info? 188).map (·.size)=some 64:=(Ey Ry).2
theorem KX:Tryz.prog.underlying 188=some (.array 64 5):=by kernel_rfl
theorem Ziy{P:Program}{b:Array Oper}{c:List Oper}{o:Oper}{a:Act}{w:World}{Q:Exit->Act->World->Prop}(e:o.guard=none)(x:Operand)(ho:o.op = .move x)
  (h:wpList P b Q c (a.put o.dst (a.eval x)) w):wpList P b Q (o::c) a w:=by
 refine Fw e fun K d=>?_
 unfold Oper.wp execOp;simp only[ho];exact d _ _ h
theorem V9{P:Program}{d:Array Oper}{f:List Oper}{o:Oper}{a:Act}{w:World}{Q:Exit->Act->World->Prop}(g:o.guard=none)(t:TypeId)(i:Nat)(x:Operand)(ho:o.op = .build t #[(i,x)])(u:Value)(j:a.eval x=u){b:Array Value}(c:P.built t [(i,u)]=some b)
  (h:wpList P d Q f (a.put o.dst (.agg b)) w):wpList P d Q (o::f) a w:=by
 have e:((#[(i,x)]:Array (Nat×Operand)).map fun (i,x)=>(i,a.eval x)).toList=[(i,u)]:=by simp[j]
 refine wpList_build g t _ ho ?_ ?_
 ·rw[e,c];rfl
 ·rw[e,c];exact h
theorem Yj(x:Int):Tryz.prog.built 188 [(0,.int .u8 x)]=some (Value.int .u8 x::List.replicate 63 (.int .u8 0)).toArray:=by kernel_rfl
theorem Ni(k:UInt8)(s:By):Dd (⟨#[k]⟩++s) = .int .u8 (k.toNat:Int)::Dd s:=by rw[KF];rfl
theorem MU(s:By):(Dd s).toArray.all (·.oneCell')=true:=Ef (Qi s)
theorem Kr(n:Nat):(Du n).size=n:=by show(List.toArray _).size=n;simp
theorem UE(n:Nat):Dd (Du n)=List.replicate n (.int .u8 0):=QX n
theorem Zia(w:World)(x:Addr)(n c:Nat):(Builtin.copy_ #[59,59] 3 #[.slice (some x) n c,.slice none 0 0]).run Tryz.prog w = .ok (goInt 0) w:=by
 obtain⟨i0,a,aa,ab,ac⟩:=Bn Qc;simp[Builtin.copy_,run_underlying Tryz.underlying59,Builtin.lenOf,sizeOf,typeInfo,a,Builtin.firstCells,storeCells]
theorem OZ(w:World)(g:Nat)(t:TypeId)(L:LV)(f:FH w g t L)(o n d:Nat)(a:OA)(l c:Nat)(s:By)(h:Ge w a l c s)(u:s.size<=n)(hn:o+n<=L.length):
  ∃w',(Builtin.copy_ #[59,59] 3 #[.slice (some ⟨g,o,none⟩) n d,.slice a l c]).run Tryz.prog w = .ok (goInt s.size) w'/\FH w' g t (FM L o (Dd s))/\w.grownBy w' (some g):=by
 cases a with
 | none=>
  have b:s.size=0:=by
   rcases E4 s.size with e|e
   ·exact e
   ·obtain⟨x,A,_⟩:=h.2.2 0 ((Dd s)[0]'(by rw[Dj];exact e)) (Ac _)
    cases A
  have r:l=0:=by rw[h.1,b]
  have q:=h.2.1 rfl;subst r q;have p:Dd s=[]:=Ak (by rw[Dj,b]);refine⟨w,by rw[b];exact Zia w _ _ _,by rw[p];simpa [FM] using f,⟨rfl,rfl,rfl,Aa _,fun _ _ _=>rfl⟩⟩
 | some x=>
  have i:Nat.min l n=s.size:=by rw[h.1];exact Bu u
  obtain⟨m,k,C,D⟩:=J5 (P:=Tryz.prog) w 59 59 3 5 1 g o n d x l c L t (Dd s) Tryz.underlying59 NZ f (by rw[i,Dj,Ci])
   (fun j v z=>by obtain⟨y,e,B⟩:=h.2.2 j v z;cases e;exact B) (by rw[Dj];omega) (Qi s)
  exact⟨m,by rw[i]at k;exact k,C,D⟩
theorem WV(k:UInt8)(s:By)(hs:s.size<=63):FM (Dd (⟨#[k]⟩++Du 63)) 1 (Dd s)=Dd (⟨#[k]⟩++Dt s 63):=by
 rw[Ni,Ni,UE];unfold FM Dt;rw[Dj];have b:(Value.int .u8 (k.toNat:Int)::List.replicate 63 (Value.int .u8 0)).drop (1+s.size)=List.replicate (63-s.size) (.int .u8 0):=by
  rw[EY,El,EV]
 rw[b];by_cases a:63<=s.size
 ·have c:(Dd s).take (63-0)=Dd s:=AI (by rw[Dj];omega);rw[if_pos a,show 63-s.size=0 by omega,KD,CP,c];simp
 ·rw[if_neg a,KF,QX];simp
theorem M3(k:UInt8)(s:By):(Dd (⟨#[k]⟩++Dt s 63)).toArray.size=64:=by
 rw[Ni];simp[Dj,J6]
theorem VX(w:World)(a:OA)(l c:Nat)(s:By)(h:Ge w a l c s)(D:s.size<=63)(k:UInt8):
  Cl 213 #[.int .u8 (k.toNat:Int),.slice a l c] w fun e w'=>e = .returned (DG (⟨#[k]⟩++Dt s 63))/\Bw w w':=by
 have G:=Db h;clear h;go_enter Tryz.func213,Tryz.ntmps213;go_upto_region 0 with fail;refine AT ?_;refine KE rfl 188 rfl Ui ?_;refine Et ?_;obtain⟨W,x,o,K,E,A⟩:=De w (Dd (Du 64)) 188;rw[x];clear x;go_upto_region 1 with fail;refine AT ?_;refine Ziy rfl _ rfl ?_;refine V9 rfl 188 0 _ rfl (.int .u8 (k.toNat:Int)) rfl ((Yj _).trans (C1 some (show _=(Dd (⟨#[k]⟩++Du 63)).toArray by rw[Ni,UE]))) ?_;refine KE rfl 188 rfl Ui ?_;obtain⟨b,y,p,C,M,B⟩:=De W (Dd (Du 64)) 188;rw[y];clear y;refine CH rfl 188 _ _ rfl W.heap.size (Dd (⟨#[k]⟩++Du 63)).toArray rfl rfl 188 _ p ?_ ?_ (MU _) ?_
 ·rw[Kf];rfl
 ·rfl
 refine Et ?_;have q:FH (b.setRow W.heap.size (Dd (⟨#[k]⟩++Du 63)).toArray) W.heap.size 188 (Dd (⟨#[k]⟩++Du 63)):=Cu b _ _ _ 188 _ p;have f:Bw W (b.setRow W.heap.size (Dd (⟨#[k]⟩++Du 63)).toArray):=B.trans ⟨rfl,rfl,rfl,by simp,fun j J=>BZ b _ j _ (by omega)⟩;have N:=C _ _ _ o;obtain⟨m,z⟩:∃X,X=b.setRow W.heap.size (Dd (⟨#[k]⟩++Du 63)).toArray:=⟨_,rfl⟩;rw[<-z]at q f ⊢;have g:Bw w m:=A.trans (f.mono (by omega));have r:FH m w.heap.size 188 (Dd (Du 64)):=(f.block _ (by omega)).trans o;obtain⟨d,L,t,n⟩:=OZ m W.heap.size 188 _ q 1 63 63 a l c s ((Da G).below g) D (by rw[Dj];exact Aa 64);have F:FH d w.heap.size 188 (Dd (Du 64)):=(n.block _ r.lt (fun e=>by simp at e;omega)).trans r;have i:=WV k s D;rw[i]at t;have H:=Db t;have u:=Db F;have I:Bw w d:=g.grown n g.size (fun k e=>by cases e;omega);have aa:=Db E;clear t F r q p N o K C z A B f g n i E M;go_upto_region 3 with(at_builtin;refine Qm _ rfl _ _ 59 59 rfl _ _ rfl rfl L ?_);refine AT ?_;refine wpList_load_row rfl 188 _ rfl W.heap.size rfl 188 _ (0,0) _ (Da H) KX rfl ?_ ?_
 ·rw[Kf,M3]
 refine CH rfl 188 _ _ rfl w.heap.size (Dd (⟨#[k]⟩++Dt s 63)).toArray rfl rfl 188 _ (Da u) ?_ ?_ (MU _) ?_
 ·rw[Kf,M3]
 ·rw[M3];rfl
 refine Et ?_;go_wp2;have i:FH (d.setRow w.heap.size (Dd (⟨#[k]⟩++Dt s 63)).toArray) w.heap.size 188 (Dd (⟨#[k]⟩++Dt s 63)):=Cu d _ _ _ 188 _ (Da u);refine Aq (v:=DG ((⟨#[k]⟩:By)++Dt s 63)) (Ff rfl _ _ w.heap.size 188 _ (0,0) _ rfl i KX rfl ?_) rfl ⟨rfl,?_⟩
 ·rw[Kf,M3]
 ·exact I.trans ⟨rfl,rfl,rfl,by simp,fun j J=>BZ d _ j _ (by omega)⟩
theorem Ib(x:Nat)(h:x<18446744073709551616):IntKind.u64.wrap (x:Int)=x:=by
 simp[IntKind.wrap,IntKind.bits,IntKind.signed];omega
theorem OQ(x i b:Nat)(c:b<2 ^ i)(h:2 ^ i*x+b<18446744073709551616):bits BinOp.or IntKind.u64 ((2 ^ i*x:Nat):Int) (b:Int)=((2 ^ i*x+b:Nat):Int):=by
 show IntKind.u64.wrap (((BitVec.ofInt 64 ((2 ^ i*x:Nat):Int) ||| BitVec.ofInt 64 (b:Int):BitVec 64).toNat:Nat):Int)=_;simp only[BitVec.ofInt_natCast,BitVec.toNat_or,BitVec.toNat_ofNat];rw[Nat.mod_eq_of_lt (a:=2 ^ i*x) (by show _<18446744073709551616;omega),Nat.mod_eq_of_lt (a:=b) (by show _<18446744073709551616;omega),<-Nat.two_pow_add_eq_or_of_lt c,Ib _ h]
theorem WS(k n t:Nat)(hk:k<256)(hn:n<65536)(d:t<65536):bits BinOp.or IntKind.u64 (bits BinOp.or IntKind.u64 ((k:Int)*4294967296) ((n:Int)*65536)) (t:Int)=((k*4294967296+n*65536+t:Nat):Int):=by
 have a:((k:Int)*4294967296)=((2 ^ 32*k:Nat):Int):=by omega
 have b:((n:Int)*65536)=((n*65536:Nat):Int):=by omega
 rw[a,b,OQ k 32 (n*65536) (by show _<4294967296;omega) (by show 4294967296*k+_<_;omega)];have c:2 ^ 32*k+n*65536=2 ^ 16*(k*65536+n):=by show 4294967296*k+_=65536*_;omega
 rw[c,OQ _ 16 t d (by show 65536*_+_<_;omega)]
 congr 1;show 65536*_+_=_;omega
theorem Vx(w:World)(k n t:Nat)(b:k<256)(c:n<65536)(d:t<65536):
  Cl 244 #[.int .u8 k,.int .i64 n,.int .i64 t] w fun e w'=>e = .returned (.int .u64 ((k*4294967296+n*65536+t:Nat):Int))/\w'=w:=by
 have a:=Db (WS k n t b c d);go_enter Tryz.func244,Tryz.ntmps244;go_wp2;go_ret;exact⟨C1 (fun z=>Ending.returned (.int .u64 z)) (Da a),rfl⟩
def D3(p x:Nat):By:=⟨(DK p 2++DK x 8).toArray⟩
theorem YJ(s:By)(p x:Nat):s++⟨(DK p 2).toArray⟩++⟨(DK x 8).toArray⟩=s++D3 p x:=by
 apply AY;simp[D3]
theorem Own.lt{b:Nat}{w:World}{v:Value}{s:By}(h:cP b w v s){g:Nat}(a:Own v g):g<w.heap.size:=by
 rcases h.1.2 with⟨e,_⟩|⟨g',aa,L,e,c,_⟩
 ·rw[e]at a;simp[Own,Value.ownBlock]at a
 ·rw[e]at a;simp[Own,Value.ownBlock]at a;subst a;exact c.lt
theorem TX(x m:Nat):(⟨(DK x m).toArray⟩:By).size=m:=by show(List.toArray _).size=m;simp[Qz]
theorem PP(w:World)(b:Nat)(L:b<=w.heap.size)(a:OA)(l c:Nat)(s:By)(h:cP b w (.slice a l c) s)(p x:Nat)(hp:p<65536)(V:x<18446744073709551616)(hs:s.size<=1000000):
  Cl 214 #[.agg #[.int .i64 p,.int .u64 x],.slice a l c] w fun e w'=>∃d i f,e = .returned (.slice d i f)/\cP b w' (.slice d i f) (s++D3 p x)/\Fr (Own (.slice a l c)) w w'/\Dh w (.slice a l c) (.slice d i f):=by
 obtain⟨W,K,t,P,E,v⟩:=De w [.int .i64 p,.int .u64 x] 175;have z:¬Own (.slice a l c) w.heap.size:=fun e=>by have:=Own.lt h e;omega
 have G:Hid (∀X,Bw W X->Cl 212 #[.slice a l c,.int .u64 (IntKind.u64.wrap (p:Int)),.int .i64 2] X fun e w'=>∃d i f,e = .returned (.slice d i f)/\Hid (cP b w' (.slice d i f) (s++⟨(DK p 2).toArray⟩)/\Fr (Own (.slice a l c)) W w'/\Dh W (.slice a l c) (.slice d i f))/\FH w' w.heap.size 175 [.int .i64 p,.int .u64 x]):=fun X r=>by
  rw[Ib p (by omega)];have U:Bw w X:=v.trans (r.mono (by omega));have T:=r.size;refine(UI X b (by omega) a l c s (h.below U) p (by omega) 2 (by omega) (by omega)).mono ?_;rintro e w' ⟨d,i,f,rfl,u,o,q⟩;refine⟨d,i,f,rfl,⟨u,(Fr.of_below r).then o (fun _ _ e=>e),fun g y=>(q g y).elim .inl (fun h => .inr (by omega))⟩,?_⟩;exact(show FH X w.heap.size 175 _ from (r.block _ (by omega)).trans t).fr o z
 have H:Hid (∀X j n m,Hid (cP b X (.slice j n m) (s++⟨(DK p 2).toArray⟩)/\Fr (Own (.slice a l c)) W X/\Dh W (.slice a l c) (.slice j n m))->FH X w.heap.size 175 [.int .i64 p,.int .u64 x]->Cl 212 #[.slice j n m,.int .u64 x,.int .i64 8] X fun e w'=>∃d i f,e = .returned (.slice d i f)/\Hid (cP b w' (.slice d i f) (s++D3 p x)/\Fr (Own (.slice a l c)) w w'/\Dh w (.slice a l c) (.slice d i f))/\FH w' w.heap.size 175 [.int .i64 p,.int .u64 x]):=fun X j n m O S=>by
  obtain⟨u,o,q⟩:=Da O;have T:=o.size;refine(UI X b (by omega) j n m _ u x V 8 (by omega) (by rw[Ai,TX];omega)).mono ?_;rintro e w' ⟨d,i,f,rfl,Z,F,q3⟩;refine⟨d,i,f,rfl,⟨by rw[<-YJ];exact Z,((Fr.of_below v).then o (fun _ _ e=>e)).then F (fun k hk e=>(q k e).elim id (fun h=>by omega)),fun g y=>?_⟩,?_⟩
  ·rcases q3 g y with B|B
   ·exact(q g B).elim .inl (fun h => .inr (by omega))
   ·exact .inr (by omega)
  ·exact S.fr F (fun e=>(q _ e).elim z (fun h=>by omega))
 have ab:=t.cell 0;have ac:=t.cell 1;clear h z P t v L;have N:Bw W W:=Ag _ _;have M:Bw W W.drew:=N.drew;have aa:=Db E;clear E;go_enter Tryz.func214,Tryz.ntmps214;go_upto_region 1 with fail;clear K
 go_region_held3 (fun W=>W.cell? ⟨w.heap.size,0,none⟩=some (.int .i64 p)/\W.cell? ⟨w.heap.size,1,none⟩=some (.int .u64 x)) (go_keep)
  (first|(have R:=C;clear R;go_at_call 212;refine(Da H _ j n m C A).mono ?_;rintro e w4 ⟨I,Y,J,rfl,Q,D⟩;have n0:=D.cell 0;have n1:=D.cell 1)|(go_at_call 212;refine(Da G _ M).mono ?_;rintro e w3 ⟨j,n,m,rfl,C,A⟩;have m0:=A.cell 0;have m1:=A.cell 1))
 all_goals
  go_wp2;go_ret;exact⟨I,Y,J,rfl,Da Q⟩
def JW(D:LY):LV:=D.flatMap Dd
theorem PQ:∀{D:LY},(∀s∈D,s.size=64)->(JW D).length=D.length*64
 | [],_=>rfl
 | s::D,h=>by
  have a:=PQ (D:=D) (fun x b=>h x (AA _ b));have h2:=h s Bp;unfold JW at a ⊢;simp only[AW,Ab,Dj,Af];omega
theorem Tq:∀{D:LY},(∀s∈D,s.size=64)->∀(i j:Nat) (s:By),D[i]?=some s->j<64->(JW D)[i*64+j]?=(Dd s)[j]?
 | [],_,i,j,s,hi,_=>by simp at hi
 | x::D,h,0,j,s,hi,hj=>by
  simp at hi;subst hi;have a:=h x Bp;unfold JW;rw[AW,Nat.zero_mul,Au,AU (by rw[Dj];omega)]
 | x::D,h,i+1,j,s,hi,hj=>by
  have a:=h x Bp;have:=Tq (D:=D) (fun y b=>h y (AA _ b)) i j s (by simpa using hi) hj;unfold JW at this ⊢;rw[AW,AD (by rw[Dj];omega),Dj,<-this]
  congr 1;omega
def Hc(w:World)(v:Value)(D:LY):Prop:=Sl w 188 64 v D.length (JW D)/\∀s∈D,s.size=64
theorem Hc.range{w:World}{a:OA}{l c:Nat}{D:LY}(h:Hc w (.slice a l c) D)(i:Nat)(s:By)(b:D[i]?=some s):∃g,a=some ⟨g,0,none⟩/\l=D.length/\w.rangeAt g (i*64) (Dd s):=by
 have ab:=(Ad.1 b).1;rcases h.1.2 with⟨e,h0⟩|⟨g,aa,L,e,k,h1,h2,h3,f⟩
 ·omega
 ·simp only[BI]at e;obtain⟨rfl,rfl,rfl⟩:=e;refine⟨g,rfl,rfl,fun j v d=>?_⟩;have hs:=h.2 s (An b);have m:j<64:=by have:=(Ad.1 d).1;rw[Dj]at this;omega
  have:=Tq h.2 i j s b m;rw[d,<-f,Ap]at this
  split at this
  ·rw[k.cell];exact this
  ·cases this
def Kt(w:World)(db:Nat)(vf vn vw ve:Value)(D:LY):Prop:=FH w db 204 [vf,vn,vw,ve]/\Hc w vn D/\D.length=1536
theorem WA(w:World)(m:Nat)(G vw F:Value)(a:OA)(l c:Nat)(D:LY)(h:Kt w m G (.slice a l c) vw F D)(i:Nat)(s:By)(d:D[i]?=some s):
  Cl 239 #[.pointer (some ⟨m,0,none⟩),.int .i64 i] w fun e w'=>e = .returned (DG s)/\Bw w w':=by
 obtain⟨g,rfl,rfl,q⟩:=h.2.1.range i s d;have ac:i<D.length:=(Ad.1 d).1;have u:=h.2.1.2 s (An d);obtain⟨W,n,z,o,y,f⟩:=De w (Dd (Du 64)) 188;have t:=o _ _ _ h.1;have ab:=t.cell 1;have r:W.rangeAt g (i*64) (Dd s):=fun j v E=>by
  have:=q j v E;exact(f.cell (p:=⟨g,i*64+j,none⟩) (Al _ _ this)).trans this
 have x:(Dd s).length=64:=by rw[Dj,u]
 have B:=Db r;have k:=Db z;have aa:=Db y;have A:=Db f;have b:=Db x;have hD:=h.2.2;clear h q d u t o z y f r x;go_enter Tryz.func239,Tryz.ntmps239;go_upto_region 0 with fail;refine AT ?_;refine KE rfl 188 rfl Ui ?_;refine Et ?_;rw[show w.alloc (.cells (Dd (Du 64)).toArray 188)=W from n];clear n;go_wp2_with (first|(refine wpList_load_mid rfl 188 _ rfl g (i*64) rfl (Dd s) _ (Da B) KX rfl (by rw[Kf,Da b]) ?_)|(refine CH rfl 188 _ _ rfl w.heap.size (Dd s).toArray rfl rfl 188 _ (Da k) (by rw[Kf];simp[Da b]) (by simp[Da b,Dj,Kr]) (MU _) ?_));have C:FH (W.setRow w.heap.size (Dd s).toArray) w.heap.size 188 (Dd s):=Cu W _ _ _ 188 _ (Da k);refine Aq (v:=DG s) (Ff rfl _ _ w.heap.size 188 _ (0,0) _ rfl C KX rfl ?_) rfl ⟨rfl,?_⟩
 ·rw[Kf];simp[Da b]
 ·exact(Da A).trans ⟨rfl,rfl,rfl,by simp,fun j hj=>BZ W _ j _ (by omega)⟩
def Jp(nd:Nat->Int):Nat->Nat->Nat
 | 0,h=>h
 | f+1,h=>if h%16=0/\0<nd (h/16%96) then Jp nd f (h+16) else h
theorem Zkh{a:Nat->Int}{h:Nat}(b:¬(h%16=0/\0<a (h/16%96))):∀f,Jp a f h=h
 | 0=>rfl
 | f+1=>by unfold Jp;rw[if_neg b]
theorem YP{a:Nat->Int}{h f:Nat}(b:h%16=0/\0<a (h/16%96)):Jp a (f+1) h=Jp a f (h+16):=by
 conv=>lhs;unfold Jp
 rw[if_pos b]
def US(w:World)(a:Addr):Nat:=match w.cell? a with|some (.int _ x)=>x.toNat|_=>0
theorem SA{w:World}{a:Addr}{k:IntKind}{x:Nat}(h:w.cell? a=some (.int k x)):US w a=x:=by unfold US;rw[h];rfl
theorem Fr.drewN{X:Nat->Prop}{w w1:World}(h:Fr X w w1)(n:Nat):Fr X w (w1.drewN n):=⟨h.os,h.tape,h.output,h.size,h.block⟩
def Tb(w:World)(pb:Nat)(L:LV)(nd:Nat->Int)(hd:Nat)(e:Ending)(w':World):Prop:=
 ∃p,p=Jp nd 96 hd%1536/\FH w' pb 184 (L.set 99 (.int .i64 ((p+1:Nat):Int)))/\e = .returned (.int .i64 (p:Nat))/\w'.cell? ⟨pb,99,none⟩=some (.int .i64 ((p+1:Nat):Int))/\Fr (fun k=>k=pb) w w'/\(∀j,j≠99->w'.cell? ⟨pb,j,none⟩=w.cell? ⟨pb,j,none⟩)
theorem ZW(w:World)(pb:Nat)(L:LV)(z:FH w pb 184 L)(b:Nat->Int)(a:Nat)(hh:a<=1536)(N:∀j,j<96->w.cell? ⟨pb,2+j,none⟩=some (.int .i64 (b j)))(J:w.cell? ⟨pb,99,none⟩=some (.int .i64 a))(hf:w.frozen? ⟨pb,99,none⟩=false)
  (Q:∃k,k<96/\b ((a/16+k)%96)<=0):
  Cl 302 #[.pointer (some ⟨pb,0,none⟩)] w (Tb w pb L b a):=by
 have T:=Db z;have W:=Db N;have Y:=Db Q;have H:L.set 99 (.int .i64 (a:Int))=L:=by
  have c:L[99]?=some (.int .i64 (a:Int)):=by rw[<-z.cell 99];exact J
  obtain⟨i,G⟩:=Ad.1 c;rw[<-G];exact List.set_getElem_self i
 have U:=Db H;clear N Q z H;go_enter Tryz.func302,Tryz.ntmps302;go_wp2_with fail
 go_loopw [4] (fun _ wr=>∃k h:Nat,k<=96/\h=a+16*k/\Hid (Jp b (96-k) h=Jp b 96 a/\∀j,j<k->0<b ((a/16+j)%96))/\wr.cell? ⟨pb,99,none⟩=some (.int .i64 h)/\wr.frozen? ⟨pb,99,none⟩=false/\Hid (Fr (fun k=>k=pb) w wr/\(∀j,j≠99->wr.cell? ⟨pb,j,none⟩=w.cell? ⟨pb,j,none⟩)/\FH wr pb 184 (L.set 99 (.int .i64 (h:Int))))) (fun _ wr=>a+1600-US wr ⟨pb,99,none⟩)
 case atStart=>exact⟨0,a,by omega,by omega,⟨rfl,fun j g=>absurd g (by omega)⟩,J,hf,Fr.refl _ _,fun _ _=>rfl,by rw[Da U];exact Da T⟩
 case round=>
  obtain⟨k,h,hk,A,s,q,aa,d⟩:=hrel;have l:=SA q;have V:=Db l;clear l;have ag:h<=3072:=by omega
  have r:=Db A;clear A;have o:(h:Int).tmod 16=((h%16:Nat):Int):=by rw[BF (by omega)];omega
  have F:(IntKind.i64.wrap ((h:Int)/16)).tmod 96=((h/16%96:Nat):Int):=by rw[BD,BF (by omega)];omega
  obtain⟨x,D⟩:=ex (h/16%96);have P:x<96:=by omega
  rw[<-D]at F;have ab:(x:Int)<96:=by omega
  have ac:¬(96:Int)<=(x:Int):=by omega
  have K:wr.cell? ⟨pb,2+x,none⟩=some (.int .i64 (b x)):=((Da d).2.1 _ (by omega)).trans (Da W _ P);obtain⟨v,C⟩:=ex (b x);rw[<-C]at K;have y:=Db D;have u:=Db C;clear D C;have Z:(h:Int).tmod 1536=((h%1536:Nat):Int):=by rw[BF (by omega)];omega
  obtain⟨p,B⟩:=ex (h%1536);have ai:p<1536:=by omega
  rw[<-B]at Z;have X:=Db B;clear B;have E:Hid (¬(h%16=0/\0<b (h/16%96))->∀nq,Tb w pb L b a (.returned (.int .i64 p)) ((wr.drewN nq).setCell ⟨pb,99,none⟩ (.int .i64 ((p:Int)+1)))):=fun f nq=>by
   refine⟨p,?_,?_,rfl,B8 _ _ _ q,?_,fun j g=>?_⟩
   ·rw[<-(Da s).1,Zkh f];exact Da X
   ·have:=FH.set (show FH (wr.drewN nq) pb 184 _ from (Da d).2.2) 99 (.int .i64 ((p:Int)+1));rw[List.set_set]at this;exact this
   ·exact Fr.set ((Da d).1.drewN nq) ⟨pb,99,none⟩ _ rfl
   ·exact(Cm _ _ _ _ (by simp)).trans ((Da d).2.1 j g)
  by_cases e:h%16=0
  ·have ae:((h:Int).tmod 16==0)=true:=by rw[o,e];rfl
   have S:=Db e;clear e o;by_cases n:0<v
   ·have O:Hid (k<96/\Jp b (96-(k+1)) (h+16)=Jp b 96 a/\∀j,j<k+1->0<b ((a/16+j)%96)):=by
     have A:=Da r;have e:=Da S;have ad:(a/16+k)%96=x:=by rw[Da y];omega
     have I:∀j,j<k+1->0<b ((a/16+j)%96):=fun j g=>by
      rcases Bk j k with c|c
      ·exact(Da s).2 j c
      ·obtain rfl:j=k:=by omega
       rw[ad,<-Da u];exact n
     obtain⟨R,af,ah⟩:=Da Y;have M:k<96:=by
      rcases Bk R (k+1) with c|c
      ·have:=I R c;omega
      ·omega
     refine⟨M,?_,I⟩;rw[<-(Da s).1,show 96-k=(96-(k+1))+1 by omega,YP ⟨e,by rw[<-Da y,<-Da u];exact n⟩]
    have M:=(Da O).1;go_upto_region 1 with fail
    go_quiet (fail)
    go_wp2
    go_roundw
    case rel=>
     refine⟨k+1,h+16,by omega,by rw[Da r];omega,(Da O).2,?_,?_,?_,fun j g=>?_,?_⟩
     ·exact(B8 _ _ _ q).trans (by go_num)
     ·simpa using aa
     ·exact Fr.set ((Da d).1.drewN nq) ⟨pb,99,none⟩ _ rfl
     ·exact(Cm _ _ _ _ (by simp)).trans ((Da d).2.1 j g)
     ·have:=FH.set (show FH (wr.drewN nq) pb 184 _ from (Da d).2.2) 99 (.int .i64 ((h:Int)+16));rw[List.set_set]at this;exact this
    case measure=>
     have c:US ((wr.drewN nq).setCell ⟨pb,99,none⟩ (.int .i64 ((h:Int)+16))) ⟨pb,99,none⟩=h+16:=SA (k := .i64) (x:=h+16) (B8 _ _ _ q);have i:=Da V;have G:=Da r;omega
   ·have f:¬(h%16=0/\0<b (h/16%96)):=fun ⟨_,i⟩=>by rw[<-Da y,<-Da u]at i;exact n i
    have t:=Db f;have aj:decide (0<v)=false:=BW n;clear f n;go_upto_region 1 with fail
    go_quiet (fail)
    go_wp2;go_ret;exact Da E (Da t) _
  ·have f:¬(h%16=0/\0<b (h/16%96)):=fun ⟨c,_⟩=>e c
   have t:=Db f;obtain⟨m,l⟩:∃m:Nat,h%16=m+1:=⟨h%16-1,by omega⟩;have e4:(h:Int).tmod 16=(m:Int)+1:=by rw[o,l];omega
   have e5:decide ((m:Int)+1=0)=false:=BW (by omega);have e6:((m:Int)+1==0)=false:=by rw[AH];omega
   clear f e o F K ab ac P l;go_upto_region 1 with fail
   go_quiet (fail)
   go_wp2;go_ret;exact Da E (Da t) _
theorem ZgK(w:World)(pb h so:Nat)(b:Nat->Int)(a i:Nat)(hi:i<1536)(aa:a<1536)(c:∀j,j<96->w.cell? ⟨pb,2+j,none⟩=some (.int .i64 (b j)))(hc:w.cell? ⟨pb,1,none⟩=some (.pointer (some ⟨h,so,none⟩)))(ht:w.cell? ⟨h,so+1,none⟩=some (.int .i64 a)):
  Cl 301 #[.pointer (some ⟨pb,0,none⟩),.int .i64 i] w fun e w'=>e = .returned (.bool (decide (i/16≠a/16/\b (i/16)<=8)))/\w'=w:=by
 obtain⟨x,f⟩:=ex (i/16);obtain⟨y,g⟩:=ex (a/16);have e1:(IntKind.i64.wrap ((i:Int)/16))=(x:Int):=by rw[BD];omega
 have e2:(IntKind.i64.wrap ((a:Int)/16))=(y:Int):=by rw[BD];omega
 have k:=c x (by omega);obtain⟨v,d⟩:=ex (b x);rw[<-f,<-g];rw[<-d]at k ⊢;have ab:(x:Int)<96:=by omega
 have ac:¬(96:Int)<=(x:Int):=by omega
 clear c f g d;by_cases l:x=y
 ·subst l;go_enter Tryz.func301,Tryz.ntmps301;go_wp2;go_ret;exact⟨rfl,rfl⟩
 ·have ad:((x:Int) != (y:Int))=true:=by simp;omega
  go_enter Tryz.func301,Tryz.ntmps301;go_wp2;go_ret;exact⟨rfl,rfl⟩
theorem Zkf{P:Program}{p:Array Oper}{o:Oper}{a:Act}{w:World}{K:Act->World->Prop}{Q:Exit->Act->World->Prop}{E:Prop}
  (k:o.guard=none) (d x:Operand) (c e:TypeId) (l:o.op=Op.call { callee:=Callee.builtin Builtin.append,args := #[d,x],argTypes := #[c,e] })
  (v u:Value) (j:a.eval d=v) (n:a.eval x=u) {f:Value->World->Prop} (m:∃b w',(Builtin.append_ #[c,e] o.type #[v,u]).run P w = .ok b w'/\f b w') (i:∀b w',f b w'->K (a.put o.dst b) w'):
  if Region.wanted o (yielded p a.tmps)=true then Oper.wp P o a w K Q else E:=by
 obtain⟨b,w',g,h⟩:=m;exact JD k d x c e l v u j n g (i b w' h)
theorem NQ(w:World)(v:Value)(a:List Int)(m:Sl w 3 1 v a.length (a.map (.int .i64)))(h:Nat)(x:Int)(q:FH w h 3 [.int .i64 x])(hl:a.length<=1000000000):
  ∃i w',(Builtin.append_ #[53,53] 53 #[v,.slice (some ⟨h,0,none⟩) 1 1]).run Tryz.prog w = .ok i w'/\∃b d c,i = .slice b d c/\Sl w' 3 1 (.slice b d c) (a.length+1) ((a++[x]).map (.int .i64))/\Fr (Own v) w w'/\Dh w v (.slice b d c):=by
 obtain⟨y,o,r,s,t⟩:=Bn (P:=Tryz.prog) (e:=3) (z := .int .i64 0) (size:=1) (bytes:=8) (by kernel_rfl);obtain⟨i,C,A,l,f,B⟩:=JZ (P:=Tryz.prog) w 53 53 3 y _ 1 8 (by kernel_rfl) o r s t rfl (by decide) v a.length (a.map (.int .i64)) m ⟨h,0,none⟩ 1 1 [.int .i64 x] rfl
  (fun j u g=>by rw[AF,Au,q.cell];exact g) (fun u g=>by rw[Av.1 g];rfl) (by unfold maxLen;omega) (by omega)
 obtain⟨b,d,c,rfl⟩:=l.shape;exact⟨_,C,A,b,d,c,rfl,by rw[Bo];exact l,⟨f.os,f.tape,f.output,f.size,fun k p n=>f.block k p (fun e=>n e.symm)⟩,B⟩
def Pm(w:World)(db:Nat)(vf vn vw ve:Value)(es:List Int)(m:Int)(e:Ending)(w':World):Prop:=
 e = .returned (.tuple #[])/\∃ve',FH w' db 204 [vf,vn,vw,ve']/\Sl w' 3 1 ve' (es.length+1) ((es++[m]).map (.int .i64))/\Fr (fun k=>k=db\/Own ve k) w w'/\Dh w ve ve'
theorem Pw(w:World)(b:Nat)(q r u:Value)(a:OA)(l c:Nat)(h:FH w b 204 [q,r,.slice a l c,u])(m:List Int)(x:Sl w 3 1 u m.length (m.map (.int .i64)))(y:¬Own u b)(I:m.length<=1000000000):
  Cl 200 #[.pointer (some ⟨b,0,none⟩)] w (Pm w b q r (.slice a l c) u m l):=by
 obtain⟨n,p,o,rfl⟩:=x.shape;have E:Hid (∀j,Bw w j->∀t,FH j t 3 [.int .i64 l]->∃z w',(Builtin.append_ #[53,53] 53 #[.slice n p o,.slice (some ⟨t,0,none⟩) 1 1]).run Tryz.prog j = .ok z w'/\∃d i f,z = .slice d i f/\FH w' b 204 [q,r,.slice a l c,.slice n p o]/\Hid (Pm w b q r (.slice a l c) (.slice n p o) m l (.returned (.tuple #[])) (w'.setCell ⟨b,3,none⟩ (.slice d i f)))):=fun j s t J=>by
  obtain⟨z,w',K,d,i,f,rfl,L,C,D⟩:=NQ j _ m (x.kept (fun k H _=>s.block k H)) t l J I;have B:FH w' b 204 [q,r,.slice a l c,.slice n p o]:=FH.fr (show FH j b 204 _ from (s.block _ h.lt).trans h) C y;have ad:=s.size;refine⟨_,w',K,d,i,f,rfl,B,rfl,.slice d i f,by simpa using B.set 3 (.slice d i f),?_,?_,fun g G=>(D g G).imp id (fun h=>by omega)⟩
  ·refine L.setCell _ _ (fun e=>?_);rcases D _ e with v|v
   ·exact y v
   ·have:=h.lt;simp only at v;omega
  ·exact((Fr.of_below s).then C (fun k _ e => .inr e)).set ⟨b,3,none⟩ _ (.inl rfl)
 have c2:w.cell? ⟨b,2,none⟩=some (.slice a l c):=(h.cell 2).trans rfl;have c3:w.cell? ⟨b,3,none⟩=some (.slice n p o):=(h.cell 3).trans rfl;have aa:=h.lt;have ab:¬b=w.heap.size:=by omega
 have ac:¬w.heap.size=b:=by omega
 clear h x y;go_enter Tryz.func200,Tryz.ntmps200;go_wp2_with fail
 go_region_law (refine Zkf rfl _ _ 53 53 rfl _ _ (by simp[Act.eval]) (by simp[Act.eval]) (Da E _ (by first|exact((Ag _ w).drew.alloc (by simp) _)|exact((Ag _ w).alloc (by simp) _)) _ (Jj _ _ _)) ?_;rintro v2 w2 ⟨d,i,f,rfl,A,F⟩;have d3:=A.cell 3;have f3:=A.frozen 3)
 all_goals
  go_wp2
  go_end0
  exact Da F
end Go.Proofs.YtaieidcohdhgpaaGreatDoor
