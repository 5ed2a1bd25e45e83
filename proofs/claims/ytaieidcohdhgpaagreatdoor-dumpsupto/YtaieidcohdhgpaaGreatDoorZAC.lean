/- Dumps. -/
import Derived.Test.YtaieidcohdhgpaaGreatDoorZAB
namespace Go.Proofs.YtaieidcohdhgpaaGreatDoor
set_option maxHeartbeats 40000000
set_option maxRecDepth 100000
open Go.RowKit
theorem FH.set{w:World}{g:Nat}{e:TypeId}{L:LV}(h:FH w g e L)(j:Nat)(u:Value):FH (w.setCell ⟨g,j,none⟩ u) g e (L.set j u):=by
 unfold FH at h ⊢;simp only[World.setCell,Fe,EZ,h,Cn];simp
theorem IY(w:World)(d ho:Nat)(v:Value)(n:Nat)(xs:LV)(hc:w.cell? ⟨d,ho,none⟩=some v)(b:Sl w 310 3 v n xs):
  Cl 178 #[.pointer (some ⟨d,ho,none⟩)] w fun e w'=>e = .returned (.int .i64 n)/\w'=w:=by
 have f:∃a m c,v = .slice a m c/\m=n:=by
  rcases b.2 with⟨rfl,rfl⟩|⟨g',aa,L,rfl,hr,_⟩
  ·exact⟨_,_,_,rfl,rfl⟩
  ·exact⟨_,_,_,rfl,rfl⟩
 obtain⟨a,m,c,rfl,rfl⟩:=f;clear b;go_enter Tryz.func178,Tryz.ntmps178;go_wp2;go_ret;exact⟨rfl,rfl⟩
theorem Zu{a:LS}{p:By}{i:Nat}(g:FZ a)(h:IK a p i true):
  FZ (a.take i++a.drop (i+1))/\(a.take i++a.drop (i+1)).length+1=a.length/\∀x,x∈a.take i++a.drop (i+1)↔x∈a/\x.1≠p:=by
 obtain⟨r,m⟩:=h.here;have hi:i<a.length:=(Ad.1 m).1;have s:(a.take i).length=i:=by rw[Ar];omega
 have l:∀k,(a.take i++a.drop (i+1))[k]?=if k<i then a[k]? else a[k+1]? := fun k=>by
  by_cases b:k<i
  ·rw[if_pos b,AU (by omega),Ap,if_pos b]
  ·rw[if_neg b,AD (by omega),s,A3]
   congr 1;omega
 refine⟨fun j k x y q d f=>?_,by simp;omega,fun x=>?_⟩
 ·rw[l]at d f;by_cases n:j<i
  ·rw[if_pos n]at d;by_cases o:k<i
   ·rw[if_pos o]at f;exact g j k x y q d f
   ·rw[if_neg o]at f;exact g j (k+1) x y (by omega) d f
  ·rw[if_neg n]at d;rw[if_neg (by omega)]at f;exact g (j+1) (k+1) x y (by omega) d f
 ·constructor
  ·intro d;obtain⟨k,c⟩:=BR d;rw[l]at c;by_cases b:k<i
   ·rw[if_pos b]at c;refine⟨An c,fun e=>?_⟩;have:=g k i x _ b c m;rw[e,Q2]at this;cases this
   ·rw[if_neg b]at c;refine⟨An c,fun e=>?_⟩;have:=g i (k+1) _ x (by omega) m c;rw[e,Q2]at this;cases this
  ·rintro⟨d,t⟩;obtain⟨k,c⟩:=BR d;rcases CQ k i with b|b|b
   ·exact An (i:=k) (by rw[l,if_pos b];exact c)
   ·subst b;rw[m]at c;cases c;exact absurd rfl t
   ·exact An (i:=k-1) (by rw[l,if_neg (by omega),show k-1+1=k by omega];exact c)
theorem Mt(w:World)(c ho:Nat)(v:Value)(d:LS)(y:By)(r:VS)(n:w.cell? ⟨c,ho,none⟩=some v)(U:w.frozen? ⟨c,ho,none⟩=false)(D:v.ownBlock≠some c)(z:Sl w 310 3 v d.length (Di d))(O:d.length<=10000)(t:FZ d)(M:(y,r)∈d):
  Cl 233 #[.pointer (some ⟨c,ho,none⟩),.string y] w fun e w'=>e = .returned (.tuple #[])/\∃f es',w'.cell? ⟨c,ho,none⟩=some f/\Sl w' 310 3 f es'.length (Di es')/\
   FZ es'/\es'.length+1=d.length/\(∀x,x∈es'↔x∈d/\x.1≠y)/\Dh w v f/\Ii w w' c ho v f:=by
 have B:c<w.heap.size:=Al _ _ n;have L:=N4 w c ho v d y n z O t;go_enter Tryz.func233,Tryz.ntmps233;go_wp2_with fail;refine L.mono ?_;rintro e w1 ⟨i,b,rfl,s,j⟩;have T:b=true:=by
  cases b with
  | true=>rfl
  | false=>exact absurd rfl (IK.not t s _ M)
 subst T;have W:i<d.length:=by obtain⟨r',Z⟩:=s.here;exact(Ad.1 Z).1
 have q0:w1.cell? ⟨c,ho,none⟩=some v:=(j.cell (p:=⟨c,ho,none⟩) B).trans n;have J:Sl w1 310 3 v d.length (Di d):=z.kept (fun k C _=>j.block k C);have K:Cl 268 #[v,.int .i64 i,.int .i64 ((i:Int)+1)] w1 fun e w'=>∃l q m f,e = .returned (.slice l q m)/\f = .slice l q m/\
   (w'.cell? ⟨c,ho,none⟩=some v/\w'.frozen? ⟨c,ho,none⟩=false)/\Hid ((w'.setCell ⟨c,ho,none⟩ f).cell? ⟨c,ho,none⟩=some f/\Sl (w'.setCell ⟨c,ho,none⟩ f) 310 3 f (d.length-1) (Di (d.take i++d.drop (i+1)))/\Ii w (w'.setCell ⟨c,ho,none⟩ f) c ho v f/\Dh w v f):=by
  refine(Mw w1 v d i J W O).mono ?_;rintro e w' ⟨f,rfl,I,o,Y⟩;have A:∀k,k<w.heap.size->v.ownBlock≠some k->w'.heap[k]?=w.heap[k]? := fun k C X=>by
   rw[o.block k (by have:=j.size;omega) (fun e=>X e.symm),j.block k C]
  have P:Dh w v f:=fun g V=>(Y g V).imp id (fun h=>by have:=j.size;omega)
  obtain⟨E,F,G⟩:=UT (ho:=ho) n D I P (o.os.trans j.os) (o.tape.trans j.tape) (o.output.trans j.output) (Ae j.size o.size) A;obtain⟨l,q,m,H⟩:=I.shape;exact⟨l,q,m,f,by rw[H],H,⟨(Ax (w:=w) (a:=⟨c,ho,none⟩) (A c B D)).trans n,(CX (w:=w) (a:=⟨c,ho,none⟩) (A c B D)).trans U⟩,E,F,G,P⟩
 have u:=Db (Zu t s);have N:(d.take i++d.drop (i+1)).length=d.length-1:=by have:=(Da u).2.1;omega
 have S:=Db N;have Q:=Db K;clear N s z J t M L j K;go_wp2_with (go_at_call 268;refine(Da Q).mono ?_;rintro e w2 ⟨l,q,m,f,rfl,rfl,⟨aa,ab⟩,R⟩)
 go_end0
 obtain⟨E,F,G,m4⟩:=Da R;exact⟨rfl,_,_,E,by rw[Da S];exact F,(Da u).1,(Da u).2.1,(Da u).2.2,m4,G⟩
theorem NL(w:World)(d ho:Nat)(v:Value)(n:Nat)(xs:LV)(hc:w.cell? ⟨d,ho,none⟩=some v)(b:Sl w 293 3 v n xs):
  Cl 144 #[.pointer (some ⟨d,ho,none⟩)] w fun e w'=>e = .returned (.int .i64 n)/\w'=w:=by
 have f:∃a m c,v = .slice a m c/\m=n:=by
  rcases b.2 with⟨rfl,rfl⟩|⟨g',aa,L,rfl,hr,_⟩
  ·exact⟨_,_,_,rfl,rfl⟩
  ·exact⟨_,_,_,rfl,rfl⟩
 obtain⟨a,m,c,rfl,rfl⟩:=f;clear b;go_enter Tryz.func144,Tryz.ntmps144;go_wp2;go_ret;exact⟨rfl,rfl⟩
theorem Zt{a:LF}{p:Int}{i:Nat}(g:F5 a)(h:Io a p i true):
  F5 (a.take i++a.drop (i+1))/\(a.take i++a.drop (i+1)).length+1=a.length/\∀x,x∈a.take i++a.drop (i+1)↔x∈a/\x.1≠p:=by
 obtain⟨r,m⟩:=h.here;have hi:i<a.length:=(Ad.1 m).1;have s:(a.take i).length=i:=by rw[Ar];omega
 have l:∀k,(a.take i++a.drop (i+1))[k]?=if k<i then a[k]? else a[k+1]? := fun k=>by
  by_cases b:k<i
  ·rw[if_pos b,AU (by omega),Ap,if_pos b]
  ·rw[if_neg b,AD (by omega),s,A3]
   congr 1;omega
 refine⟨fun j k x y q d f=>?_,by simp;omega,fun x=>?_⟩
 ·rw[l]at d f;by_cases n:j<i
  ·rw[if_pos n]at d;by_cases o:k<i
   ·rw[if_pos o]at f;exact g j k x y q d f
   ·rw[if_neg o]at f;exact g j (k+1) x y (by omega) d f
  ·rw[if_neg n]at d;rw[if_neg (by omega)]at f;exact g (j+1) (k+1) x y (by omega) d f
 ·constructor
  ·intro d;obtain⟨k,c⟩:=BR d;rw[l]at c;by_cases b:k<i
   ·rw[if_pos b]at c;refine⟨An c,fun e=>?_⟩;have:=g k i x _ b c m;rw[e,Qj]at this;cases this
   ·rw[if_neg b]at c;refine⟨An c,fun e=>?_⟩;have:=g i (k+1) _ x (by omega) m c;rw[e,Qj]at this;cases this
  ·rintro⟨d,t⟩;obtain⟨k,c⟩:=BR d;rcases CQ k i with b|b|b
   ·exact An (i:=k) (by rw[l,if_pos b];exact c)
   ·subst b;rw[m]at c;cases c;exact absurd rfl t
   ·exact An (i:=k-1) (by rw[l,if_neg (by omega),show k-1+1=k by omega];exact c)
theorem Mu(w:World)(c ho:Nat)(v:Value)(d:LF)(y:Int)(r:VF)(n:w.cell? ⟨c,ho,none⟩=some v)(U:w.frozen? ⟨c,ho,none⟩=false)(D:v.ownBlock≠some c)(z:Sl w 293 3 v d.length (Dm d))(O:d.length<=10000)(t:F5 d)(M:(y,r)∈d):
  Cl 234 #[.pointer (some ⟨c,ho,none⟩),.int .i64 y] w fun e w'=>e = .returned (.tuple #[])/\∃f es',w'.cell? ⟨c,ho,none⟩=some f/\Sl w' 293 3 f es'.length (Dm es')/\
   F5 es'/\es'.length+1=d.length/\(∀x,x∈es'↔x∈d/\x.1≠y)/\Dh w v f/\Ii w w' c ho v f:=by
 have B:c<w.heap.size:=Al _ _ n;have L:=UJ w c ho v d y n z O t;go_enter Tryz.func234,Tryz.ntmps234;go_wp2_with fail;refine L.mono ?_;rintro e w1 ⟨i,b,rfl,s,j⟩;have T:b=true:=by
  cases b with
  | true=>rfl
  | false=>exact absurd rfl (Io.not t s _ M)
 subst T;have W:i<d.length:=by obtain⟨r',Z⟩:=s.here;exact(Ad.1 Z).1
 have q0:w1.cell? ⟨c,ho,none⟩=some v:=(j.cell (p:=⟨c,ho,none⟩) B).trans n;have J:Sl w1 293 3 v d.length (Dm d):=z.kept (fun k C _=>j.block k C);have K:Cl 269 #[v,.int .i64 i,.int .i64 ((i:Int)+1)] w1 fun e w'=>∃l q m f,e = .returned (.slice l q m)/\f = .slice l q m/\
   (w'.cell? ⟨c,ho,none⟩=some v/\w'.frozen? ⟨c,ho,none⟩=false)/\Hid ((w'.setCell ⟨c,ho,none⟩ f).cell? ⟨c,ho,none⟩=some f/\Sl (w'.setCell ⟨c,ho,none⟩ f) 293 3 f (d.length-1) (Dm (d.take i++d.drop (i+1)))/\Ii w (w'.setCell ⟨c,ho,none⟩ f) c ho v f/\Dh w v f):=by
  refine(Mx w1 v d i J W O).mono ?_;rintro e w' ⟨f,rfl,I,o,Y⟩;have A:∀k,k<w.heap.size->v.ownBlock≠some k->w'.heap[k]?=w.heap[k]? := fun k C X=>by
   rw[o.block k (by have:=j.size;omega) (fun e=>X e.symm),j.block k C]
  have P:Dh w v f:=fun g V=>(Y g V).imp id (fun h=>by have:=j.size;omega)
  obtain⟨E,F,G⟩:=UT (ho:=ho) n D I P (o.os.trans j.os) (o.tape.trans j.tape) (o.output.trans j.output) (Ae j.size o.size) A;obtain⟨l,q,m,H⟩:=I.shape;exact⟨l,q,m,f,by rw[H],H,⟨(Ax (w:=w) (a:=⟨c,ho,none⟩) (A c B D)).trans n,(CX (w:=w) (a:=⟨c,ho,none⟩) (A c B D)).trans U⟩,E,F,G,P⟩
 have u:=Db (Zt t s);have N:(d.take i++d.drop (i+1)).length=d.length-1:=by have:=(Da u).2.1;omega
 have S:=Db N;have Q:=Db K;clear N s z J t M L j K;go_wp2_with (go_at_call 269;refine(Da Q).mono ?_;rintro e w2 ⟨l,q,m,f,rfl,rfl,⟨aa,ab⟩,R⟩)
 go_end0
 obtain⟨E,F,G,m4⟩:=Da R;exact⟨rfl,_,_,E,by rw[Da S];exact F,(Da u).1,(Da u).2.1,(Da u).2.2,m4,G⟩
theorem ZF{a:LF}{d:Int}{i:Nat}(f:VF)(n:F5 a)(h:Io a d i true):
  F5 (a.set i (d,f))/\(a.set i (d,f)).length=a.length/\∀x,x∈a.set i (d,f)↔x=(d,f)\/x∈a/\x.1≠d:=by
 obtain⟨r,l⟩:=h.here;have u:i<a.length:=(Ad.1 l).1;have m:∀k,(a.set i (d,f))[k]?=if k=i then some (d,f) else a[k]? := fun k=>by
  rw[EG];by_cases e:i=k
  ·subst e;simp[u]
  ·rw[if_neg e,if_neg (fun h=>e h.symm)]
 have p:∀(k:Nat) (x:Int×VF),(a.set i (d,f))[k]?=some x->∃y:Int×VF,a[k]?=some y/\y.1=x.1:=fun k x c=>by
  rw[m]at c;by_cases e:k=i
  ·rw[if_pos e]at c;cases c;exact⟨(d,r),by rw[e];exact l,rfl⟩
  ·rw[if_neg e]at c;exact⟨x,c,rfl⟩
 refine⟨fun j k x y v c z=>?_,by simp,fun x=>?_⟩
 ·obtain⟨A,g,q⟩:=p j x c;obtain⟨B,s,t⟩:=p k y z;rw[<-q,<-t];exact n j k A B v g s
 ·constructor
  ·intro c;obtain⟨k,b⟩:=BR c;rw[m]at b;by_cases e:k=i
   ·rw[if_pos e]at b;cases b;exact .inl rfl
   ·rw[if_neg e]at b;refine .inr ⟨An b,fun o=>?_⟩;rcases Nat.lt_or_gt_of_ne e with g|g
    ·have:=n k i x _ g b l;rw[o,Qj]at this;cases this
    ·have:=n i k _ x g l b;rw[o,Qj]at this;cases this
  ·rintro(rfl|⟨c,w⟩)
   ·exact An (i:=i) (by rw[m,if_pos rfl])
   ·obtain⟨k,b⟩:=BR c;refine An (i:=k) ?_;rw[m,if_neg (fun e=>?_)]
    ·exact b
    ·subst e;rw[l]at b;cases b;exact w rfl
theorem ZkK(b:LF)(i:Nat)(c:Int)(d r:VF)(h:b[i]?=some (c,d)):((Dm b).set (i*3+1) (.slice r.a r.l r.c)).set (i*3+2) (.int .i64 r.f)=Dm (b.set i (c,r)):=by
 induction b generalizing i with
 | nil=>simp at h
 | cons a l ih=>
  cases i with
  | zero=>simp at h;subst h;simp[Dm,GD]
  | succ i=>
   simp at h;have:=ih i h;simp only[Dm,AW,List.set_cons_succ]at this ⊢;rw[<-this];rw[EC _ _ (by simp[GD];omega),EC _ _ (by simp[GD];omega)];simp only[GD,Af,Ay];rw[show(i+1)*3+1-(0+1+1+1)=i*3+1 by omega,show(i+1)*3+2-(0+1+1+1)=i*3+2 by omega]
theorem YD(w:World)(d ho:Nat)(v:Value)(c:LF)(f:Int)(r0 r:VF)(G:w.cell? ⟨d,ho,none⟩=some v)(ab:v.ownBlock≠some d)(t:Sl w 293 3 v c.length (Dm c))(hn:c.length<=10000)(y:F5 c)(R:(f,r0)∈c):
  Cl 228 #[.pointer (some ⟨d,ho,none⟩),.int .i64 f,.agg #[.slice r.a r.l r.c,.int .i64 r.f]] w fun e w'=>e = .returned (.tuple #[])/\∃es',w'.cell? ⟨d,ho,none⟩=some v/\Sl w' 293 3 v es'.length (Dm es')/\
   F5 es'/\es'.length=c.length/\(∀x,x∈es'↔x=(f,r)\/x∈c/\x.1≠f)/\w.grownBy w' v.ownBlock:=by
 have P:d<w.heap.size:=Al _ _ G;have F:∀o,Bw w (w.alloc o):=fun o=>(Ag _ _).alloc (Aa _) o
 have Q:=fun o=>UJ (w.alloc o) d ho v c f (((F o).cell (p:=⟨d,ho,none⟩) P).trans G) (Sl.of_owns (t.owns.alloc o)) hn y
 go_enter Tryz.func228,Tryz.ntmps228;go_wp2_with fail;refine(Q _).mono ?_;rintro e w1 ⟨i,b,rfl,n,K⟩;have X:b=true:=by
  cases b with
  | true=>rfl
  | false=>exact absurd rfl (Io.not y n _ R)
 subst X;obtain⟨r1,I⟩:=n.here;have hi:i<c.length:=(Ad.1 I).1;have s:Below (w.heap.size+1) (w.alloc (.cells #[.slice r.a r.l r.c,.int .i64 r.f] 217)) w1:=by simpa[Bw]using K
 have h:Bw w w1:=(F _).trans (s.mono (by omega));have q0:w1.cell? ⟨d,ho,none⟩=some v:=(h.cell (p:=⟨d,ho,none⟩) P).trans G;have z:∀j,w1.cell? ⟨w.heap.size,j,none⟩=(#[.slice r.a r.l r.c,.int .i64 r.f]:Array Value)[j]? := fun j=>(s.cell (p:=⟨w.heap.size,j,none⟩) (by simp)).trans (Ch _ _ _ _ rfl)
 have z0:w1.cell? ⟨w.heap.size,0,none⟩=some (.slice r.a r.l r.c):=z 0;have z1:w1.cell? ⟨w.heap.size,1,none⟩=some (.int .i64 r.f):=z 1;have N:Sl w1 293 3 v c.length (Dm c):=t.kept (fun k l _=>h.block k l);rcases N.2 with⟨rfl,h0⟩|⟨g,C,L,rfl,m,Y,Z,M,D⟩
 ·omega
 ·have H:∀j u,(Dm c)[j]?=some u->w1.cell? ⟨g,j,none⟩=some u:=fun j u A=>by
   rw[m.cell];rw[<-D,Ap]at A
   split at A
   ·exact A
   ·cases A
  have q:=QO c i _ I;have q1:=H _ _ q.2.1;have q2:=H _ _ q.2.2;have f1:=m.frozen (i*3+1);have f2:=m.frozen (i*3+2);have af:g<w.heap.size:=t.lt rfl;have ac:d≠g:=fun e=>ab (by simp[Value.ownBlock,e])
  have J:∀W:World,W.heap=((w1.setCell ⟨g,i*3+1,none⟩ (.slice r.a r.l r.c)).setCell ⟨g,i*3+2,none⟩ (.int .i64 r.f)).heap->W.os=w1.os->W.tape=w1.tape->W.output=w1.output->
    ∃es',W.cell? ⟨d,ho,none⟩=some (.slice (some ⟨g,0,none⟩) c.length C)/\Sl W 293 3 (.slice (some ⟨g,0,none⟩) c.length C) es'.length (Dm es')/\F5 es'/\es'.length=c.length/\(∀x,x∈es'↔x=(f,r)\/x∈c/\x.1≠f)/\w.grownBy W (some g):=fun W E T U V=>by
   obtain⟨p1,B,p3⟩:=ZF r y n;have O:∀k,k≠g->W.heap[k]?=w1.heap[k]? := fun k l=>by
    rw[E,AB _ _ _ _ l,AB _ _ _ _ l]
   refine⟨c.set i (f,r),?_,⟨PR _,.inr ⟨g,C,(L.set (i*3+1) (.slice r.a r.l r.c)).set (i*3+2) (.int .i64 r.f),?_,?_,?_,Z,?_,?_⟩⟩,p1,B,p3,?_⟩
   ·exact(Ax (w:=w1) (a:=⟨d,ho,none⟩) (O d ac)).trans q0
   ·rw[B]
   ·unfold FH;rw[E];exact(m.set _ _).set _ _
   ·rw[B];exact Y
   ·simpa using M
   ·rw[B,<-ZkK c i f r1 r I,<-D,List.take_set,List.take_set]
   ·refine⟨T.trans h.os,U.trans h.tape,V.trans h.output,?_,fun k l aa=>?_⟩
    ·rw[E];simpa [World.setCell] using h.size
    ·rw[O k (fun e=>aa (by rw[e])),h.block k l]
  have S:=Db J;have ag:w.heap.size<w1.heap.size:=by have:=s.size;simp at this;omega
  have ad:¬(g=w.heap.size):=by omega
  have ae:¬(w.heap.size=g):=by omega
  clear F Q K s n t N m M D H q z y R J h;go_wp2
  go_region
  all_goals (
   go_wp2;refine Aq (CZ rfl _ _ _) rfl ?_;exact⟨rfl,Da S _ rfl rfl rfl rfl⟩)
def Qr(n:Int):Bool:=decide ((97<=n/\n<=122)\/(48<=n/\n<=57)\/n=46\/n=95\/n=45)
def Id(c:UInt8):Bool:=Qr (c.toNat:Int)
def DC(s:By):Bool := !s.toList.isEmpty && !(s.toList==[46]) && !(s.toList==[46,46]) && decide (s.size<=12) && s.data.toList.all Id
theorem SB(n:Int):Qr n=true↔((97<=n/\n<=122)\/(48<=n/\n<=57)\/n=46\/n=95\/n=45):=by simp[Qr]
theorem Wk(n:Int)(w:World):Cl 292 #[.int .u8 n] w fun e w'=>e = .returned (.bool (Qr n))/\w'=w:=by
 obtain⟨b,h⟩:=ex (Qr n);have g:=SB n;rw[<-h]at g ⊢;have a:=Db g;clear g h;by_cases c:97<=n/\n<=122
 ·obtain⟨c,d⟩:=c;obtain rfl:b=true:=(Da a).2 (by omega);clear a;go_enter Tryz.func292,Tryz.ntmps292;go_wp2;go_ret;exact⟨rfl,rfl⟩
 ·by_cases d:48<=n/\n<=57
  ·obtain⟨d,f⟩:=d;obtain rfl:b=true:=(Da a).2 (by omega);clear a c;go_enter Tryz.func292,Tryz.ntmps292;go_wp2;go_ret;exact⟨rfl,rfl⟩
  ·by_cases f:n=46\/n=95\/n=45
   ·obtain rfl:b=true:=(Da a).2 (by omega);clear a c d;rcases f with rfl|rfl|rfl
    all_goals
     go_enter Tryz.func292,Tryz.ntmps292;go_wp2;go_ret;exact⟨rfl,rfl⟩
   ·obtain rfl:b=false:=by
     cases b with
     | false=>rfl
     | true=>have:=(Da a).1 rfl;omega
    clear a;have q1:(n==46)=false:=by rw[AH];omega
    have q2:(n==95)=false:=by rw[AH];omega
    have q3:(n==45)=false:=by rw[AH];omega
    clear f;go_enter Tryz.func292,Tryz.ntmps292;go_wp2
    all_goals first|omega|(go_ret;exact⟨rfl,rfl⟩)
theorem Wf(s:By)(k:Nat)(h:k<s.size)(a:(s.data.toList.take k).all Id=true):(s.data.toList.take (k+1)).all Id=Id s[k]:=by
 have e:s.data.toList.take (k+1)=s.data.toList.take k++[s[k]]:=by
  rw[B9 (by simpa using h)];rfl
 rw[e,Fq,a];simp
theorem Tk(s:By)(k:Nat)(h:k<s.size)(a:Id s[k]=false):s.data.toList.all Id=false:=by
 rw[List.all_eq_false];exact⟨s[k],by have:s[k]=s.data.toList[k]'(by simpa using h):=rfl;rw[this];exact Cq _,by rw[a];simp⟩
theorem Vr(s:By)(w:World)(p:s.size<=maxLen):Cl 263 #[.string s] w fun e w'=>e = .returned (.bool (DC s))/\w'=w:=by
 unfold maxLen at p;obtain⟨b,a⟩:=ex (DC s);rw[<-a]
 cases h1:s.toList.isEmpty with
 | true=>
  obtain rfl:b=false:=by rw[a];simp[DC,h1]
  clear a;go_enter Tryz.func263,Tryz.ntmps263;go_wp2;go_ret;exact⟨rfl,rfl⟩
 | false=>
 cases h2:(s.toList==[46]) with
 | true=>
  obtain rfl:b=false:=by rw[a];simp only[DC,h1,h2];rfl
  clear a;go_enter Tryz.func263,Tryz.ntmps263;go_wp2;go_ret;exact⟨rfl,rfl⟩
 | false=>
 cases h3:(s.toList==[46,46]) with
 | true=>
  obtain rfl:b=false:=by rw[a];simp only[DC,h1,h2,h3];rfl
  clear a;go_enter Tryz.func263,Tryz.ntmps263;go_wp2;go_ret;exact⟨rfl,rfl⟩
 | false=>
 by_cases h:s.size<=12
 ·have j:b=s.data.toList.all Id:=by rw[a];simp only[DC,h1,h2,h3,h];simp
  have c:=Db j;clear a j;go_enter Tryz.func263,Tryz.ntmps263;go_wp2
  go_loop [21] (fun i=>∃k:Nat,k<=s.size/\i = .int .i64 k/\Hid ((s.data.toList.take k).all Id=true)) (fun i=>s.size-(intOf i).toNat)
  case atStart=>exact⟨0,Aw _,rfl,rfl⟩
  case round=>
   obtain⟨k,hk,rfl,d⟩:=hrel;by_cases m:k<s.size
   ·cases hq:Id s[k] with
    | true=>
     have g:=Wf s k m (Da d);rw[hq]at g;have n:=Db g;have o:Qr (s[k].toNat:Int)=true:=hq;clear g hq;go_wp2_with (go_at_call 292;refine(Wk _ _).mono ?_;rintro e w' ⟨rfl,rfl⟩)
     go_round
     case rel=>exact⟨k+1,by omega,by go_num,n⟩
     case measure=>simp[intOf];omega
    | false=>
     have l:=Tk s k m hq;have o:Qr (s[k].toNat:Int)=false:=hq;rw[l]at c;obtain rfl:=Da c;clear l hq;go_wp2_with (go_at_call 292;refine(Wk _ _).mono ?_;rintro e w' ⟨rfl,rfl⟩);go_ret;exact⟨rfl,rfl⟩
   ·obtain rfl:k=s.size:=by omega
    have:s.data.toList.take s.size=s.data.toList:=AI (Fd Az);have f:=Da d;rw[this]at f;rw[f]at c;obtain rfl:=Da c;clear d f;go_wp2;go_ret;exact⟨rfl,rfl⟩
 ·obtain rfl:b=false:=by rw[a];simp only[DC,h];simp
  clear a;go_enter Tryz.func263,Tryz.ntmps263;go_wp2;go_ret;exact⟨rfl,rfl⟩
theorem Uv(s:By):s.toList.isEmpty=decide (s.size<1):=by
 rw[BV];have:s.data.toList.length=s.size:=Az
 cases h:s.data.toList with
 | nil=>rw[h]at this;exact(CN (by rw[<-this];exact Nat.one_pos)).symm
 | cons a l=>rw[h,Af]at this;exact(BW (by omega)).symm
theorem Nm(s:By)(w:World)(B:s.size<=maxLen):Cl 162 #[.string s] w fun e w'=>e = .returned (.bool (DC s))/\w'=w:=by
 unfold maxLen at B;obtain⟨b,a⟩:=ex (DC s);have c:=Uv s;rw[<-a];by_cases u:s.size<1
 ·obtain rfl:b=false:=by rw[a];simp[DC,c,u]
  clear a c;go_enter Tryz.func162,Tryz.ntmps162;go_wp2;go_ret;exact⟨rfl,rfl⟩
 have d:s.toList.isEmpty=false:=by rw[c];exact BW u
 by_cases A:12<s.size
 ·have n:¬s.size<=12:=by omega
  obtain rfl:b=false:=by rw[a];simp only[DC,n];simp
  clear a c d n;go_enter Tryz.func162,Tryz.ntmps162;go_wp2;go_ret;exact⟨rfl,rfl⟩
 have n:s.size<=12:=by omega
 clear A
 cases h2:(s.toList==[46]) with
 | true=>
  obtain rfl:b=false:=by rw[a];simp only[DC,d,h2];rfl
  clear a c d;go_enter Tryz.func162,Tryz.ntmps162;go_wp2;go_ret;exact⟨rfl,rfl⟩
 | false=>
 cases h3:(s.toList==[46,46]) with
 | true=>
  obtain rfl:b=false:=by rw[a];simp only[DC,d,h2,h3];rfl
  clear a c d;go_enter Tryz.func162,Tryz.ntmps162;go_wp2;go_ret;exact⟨rfl,rfl⟩
 | false=>
  have v:b=s.data.toList.all Id:=by rw[a];simp only[DC,d,h2,h3,n];simp
  have j:=Db v;clear a v c d;go_enter Tryz.func162,Tryz.ntmps162;go_wp2
  go_loop [3] (fun i=>∃k:Nat,k<=s.size/\i = .int .i64 k/\Hid ((s.data.toList.take k).all Id=true)) (fun i=>s.size-(intOf i).toNat)
  case atStart=>exact⟨0,Aw _,rfl,rfl⟩
  case round=>
   obtain⟨k,hk,rfl,q⟩:=hrel;by_cases y:k<s.size
   ·have o:=SB (s[k].toNat:Int)
    cases hq:Id s[k] with
    | true=>
     have t:=Wf s k y (Da q);rw[hq]at t;have p:=Db t;have f:=o.1 hq;clear t hq o;by_cases l:97<=(s[k].toNat:Int)/\(s[k].toNat:Int)<=122
     ·obtain⟨l,m⟩:=l;clear f;go_wp2
      go_round
      case rel=>exact⟨k+1,by omega,by go_num,p⟩
      case measure=>simp[intOf];omega
     by_cases m:48<=(s[k].toNat:Int)/\(s[k].toNat:Int)<=57
     ·obtain⟨m,g⟩:=m;clear f l;go_wp2
      go_round
      case rel=>exact⟨k+1,by omega,by go_num,p⟩
      case measure=>simp[intOf];omega
     have g:(s[k].toNat:Int)=46\/(s[k].toNat:Int)=95\/(s[k].toNat:Int)=45:=by omega
     clear f l m;rcases g with g|g|g
     all_goals
      go_wp2
      go_round
      case rel=>exact⟨k+1,by omega,by go_num,p⟩
      case measure=>simp[intOf];omega
    | false=>
     have x:=Tk s k y hq;have f:¬((97<=(s[k].toNat:Int)/\(s[k].toNat:Int)<=122)\/(48<=(s[k].toNat:Int)/\(s[k].toNat:Int)<=57)\/(s[k].toNat:Int)=46\/(s[k].toNat:Int)=95\/(s[k].toNat:Int)=45):=fun h=>by
      have:=o.2 h;unfold Id at hq;rw[this]at hq;cases hq
     rw[x]at j;obtain rfl:=Da j;clear x hq o;have q1:((s[k].toNat:Int) != 46)=true:=by rw[Eu];omega
     have q2:((s[k].toNat:Int) != 95)=true:=by rw[Eu];omega
     have q3:((s[k].toNat:Int) != 45)=true:=by rw[Eu];omega
     have z:=Db f;clear f;go_wp2
     all_goals first|(exact absurd (Da z) (by omega))|(go_ret;exact⟨rfl,rfl⟩)
   ·obtain rfl:k=s.size:=by omega
    have:s.data.toList.take s.size=s.data.toList:=AI (Fd Az);have r:=Da q;rw[this]at r;rw[r]at j;obtain rfl:=Da j;clear q r;go_wp2;go_ret;exact⟨rfl,rfl⟩
end Go.Proofs.YtaieidcohdhgpaaGreatDoor
