/- Spoilt. -/
import Derived.Test.YtaieidcohdhgpaaGreatDoorXAB
namespace Go.Proofs.YtaieidcohdhgpaaGreatDoor
set_option maxHeartbeats 40000000
set_option maxRecDepth 100000
open Go.RowKit
theorem F0.set{w:World}{g:Nat}{e:TypeId}{L:F6}(h:F0 w g e L)(j:Nat)(u:Value):F0 (w.setCell ⟨g,j,none⟩ u) g e (L.set j u):=by
 unfold F0 at h ⊢;simp only[World.setCell,Fm,if_true,h,FG];simp
theorem I9(w:World)(d ho:Nat)(v:Value)(n:Nat)(xs:F6)(hc:w.cell? ⟨d,ho,none⟩=some v)(b:Sl w 310 3 v n xs):
  Cl 178 #[.pointer (some ⟨d,ho,none⟩)] w fun e w'=>e = .returned (.int .i64 n)/\w'=w:=by
 have f:∃a m c,v = .slice a m c/\m=n:=by
  rcases b.2 with⟨rfl,rfl⟩|⟨g',aa,L,rfl,hr,_⟩
  ·exact⟨_,_,_,rfl,rfl⟩
  ·exact⟨_,_,_,rfl,rfl⟩
 obtain⟨a,m,c,rfl,rfl⟩:=f;clear b;go_enter Tryz.func178,Tryz.ntmps178;go_wp2;go_ret;exact⟨rfl,rfl⟩
theorem Zmw{es:LS}{o:By}{i:Nat}(f:Gm es)(h:Lm es o i true):
  Gm (es.take i++es.drop (i+1))/\(es.take i++es.drop (i+1)).length+1=es.length/\∀x,x∈es.take i++es.drop (i+1)↔x∈es/\x.1≠o:=by
 obtain⟨r,l⟩:=h.here;have hi:i<es.length:=(Ae.1 l).1;have q:(es.take i).length=i:=by rw[Am];omega
 have g:∀k,(es.take i++es.drop (i+1))[k]?=if k<i then es[k]? else es[k+1]? := fun k=>by
  by_cases a:k<i
  ·rw[if_pos a,AP (by omega),Ao,if_pos a]
  ·rw[if_neg a,AH (by omega),q,Bc]
   congr 1;omega
 refine⟨fun j k x y p c d=>?_,by simp;omega,fun x=>?_⟩
 ·rw[g]at c d;by_cases m:j<i
  ·rw[if_pos m]at c;by_cases n:k<i
   ·rw[if_pos n]at d;exact f j k x y p c d
   ·rw[if_neg n]at d;exact f j (k+1) x y (by omega) c d
  ·rw[if_neg m]at c;rw[if_neg (by omega)]at d;exact f (j+1) (k+1) x y (by omega) c d
 ·constructor
  ·intro c;obtain⟨k,b⟩:=BF c;rw[g]at b;by_cases a:k<i
   ·rw[if_pos a]at b;refine⟨An b,fun e=>?_⟩;have:=f k i x _ a b l;rw[e,Uv]at this;cases this
   ·rw[if_neg a]at b;refine⟨An b,fun e=>?_⟩;have:=f i (k+1) _ x (by omega) l b;rw[e,Uv]at this;cases this
  ·rintro⟨c,s⟩;obtain⟨k,b⟩:=BF c;rcases Cz k i with a|a|a
   ·exact An (i:=k) (by rw[g,if_pos a];exact b)
   ·subst a;rw[l]at b;cases b;exact absurd rfl s
   ·exact An (i:=k-1) (by rw[g,if_neg (by omega),show k-1+1=k by omega];exact b)
theorem M8(w:World)(c ho:Nat)(v:Value)(es:LS)(u:By)(r:VS)(m:w.cell? ⟨c,ho,none⟩=some v)(T:w.frozen? ⟨c,ho,none⟩=false)(C:v.ownBlock≠some c)(y:Sl w 310 3 v es.length (Dq es))(N:es.length<=10000)(s:Gm es)(L:(u,r)∈es):
  Cl 233 #[.pointer (some ⟨c,ho,none⟩),.string u] w fun e w'=>e = .returned (.tuple #[])/\∃d es',w'.cell? ⟨c,ho,none⟩=some d/\Sl w' 310 3 d es'.length (Dq es')/\
   Gm es'/\es'.length+1=es.length/\(∀x,x∈es'↔x∈es/\x.1≠u)/\Dm w v d/\IK w w' c ho v d:=by
 have A:c<w.heap.size:=Aj _ _ m;have K:=O3 w c ho v es u m y N s;go_enter Tryz.func233,Tryz.ntmps233;go_wp2_with fail;refine K.mono ?_;rintro e w1 ⟨i,b,rfl,q,f⟩;have S:b=true:=by
  cases b with
  | true=>rfl
  | false=>exact absurd rfl (Lm.not s q _ L)
 subst S;have V:i<es.length:=by obtain⟨r',Y⟩:=q.here;exact(Ae.1 Y).1
 have q0:w1.cell? ⟨c,ho,none⟩=some v:=(f.cell (p:=⟨c,ho,none⟩) A).trans m;have I:Sl w1 310 3 v es.length (Dq es):=y.kept (fun k B _=>f.block k B);have J:Cl 268 #[v,.int .i64 i,.int .i64 ((i:Int)+1)] w1 fun e w'=>∃j o l d,e = .returned (.slice j o l)/\d = .slice j o l/\
   (w'.cell? ⟨c,ho,none⟩=some v/\w'.frozen? ⟨c,ho,none⟩=false)/\Hid ((w'.setCell ⟨c,ho,none⟩ d).cell? ⟨c,ho,none⟩=some d/\Sl (w'.setCell ⟨c,ho,none⟩ d) 310 3 d (es.length-1) (Dq (es.take i++es.drop (i+1)))/\IK w (w'.setCell ⟨c,ho,none⟩ d) c ho v d/\Dm w v d):=by
  refine(Nb w1 v es i I V N).mono ?_;rintro e w' ⟨d,rfl,H,n,X⟩;have z:∀k,k<w.heap.size->v.ownBlock≠some k->w'.heap[k]?=w.heap[k]? := fun k B W=>by
   rw[n.block k (by have:=f.size;omega) (fun e=>W e.symm),f.block k B]
  have O:Dm w v d:=fun g U=>(X g U).imp id (fun h=>by have:=f.size;omega)
  obtain⟨D,E,F⟩:=UV (ho:=ho) m C H O (n.os.trans f.os) (n.tape.trans f.tape) (n.output.trans f.output) (Ag f.size n.size) z;obtain⟨j,o,l,G⟩:=H.shape;exact⟨j,o,l,d,by rw[G],G,⟨(AC (w:=w) (a:=⟨c,ho,none⟩) (z c A C)).trans m,(Ee (w:=w) (a:=⟨c,ho,none⟩) (z c A C)).trans T⟩,D,E,F,O⟩
 have t:=Db (Zmw s q);have M:(es.take i++es.drop (i+1)).length=es.length-1:=by have:=(Da t).2.1;omega
 have R:=Db M;have P:=Db J;clear M q y I s L K f J;go_wp2_with (go_at_call 268;refine(Da P).mono ?_;rintro e w2 ⟨j,o,l,d,rfl,rfl,⟨aa,ab⟩,Q⟩)
 go_end0
 obtain⟨D,E,F,Z⟩:=Da Q;exact⟨rfl,_,_,D,by rw[Da R];exact E,(Da t).1,(Da t).2.1,(Da t).2.2,Z,F⟩
theorem OG(w:World)(d ho:Nat)(v:Value)(n:Nat)(xs:F6)(hc:w.cell? ⟨d,ho,none⟩=some v)(b:Sl w 293 3 v n xs):
  Cl 144 #[.pointer (some ⟨d,ho,none⟩)] w fun e w'=>e = .returned (.int .i64 n)/\w'=w:=by
 have f:∃a m c,v = .slice a m c/\m=n:=by
  rcases b.2 with⟨rfl,rfl⟩|⟨g',aa,L,rfl,hr,_⟩
  ·exact⟨_,_,_,rfl,rfl⟩
  ·exact⟨_,_,_,rfl,rfl⟩
 obtain⟨a,m,c,rfl,rfl⟩:=f;clear b;go_enter Tryz.func144,Tryz.ntmps144;go_wp2;go_ret;exact⟨rfl,rfl⟩
theorem Zmx{es:LF}{o:Int}{i:Nat}(f:Gn es)(h:I0 es o i true):
  Gn (es.take i++es.drop (i+1))/\(es.take i++es.drop (i+1)).length+1=es.length/\∀x,x∈es.take i++es.drop (i+1)↔x∈es/\x.1≠o:=by
 obtain⟨r,l⟩:=h.here;have hi:i<es.length:=(Ae.1 l).1;have q:(es.take i).length=i:=by rw[Am];omega
 have g:∀k,(es.take i++es.drop (i+1))[k]?=if k<i then es[k]? else es[k+1]? := fun k=>by
  by_cases a:k<i
  ·rw[if_pos a,AP (by omega),Ao,if_pos a]
  ·rw[if_neg a,AH (by omega),q,Bc]
   congr 1;omega
 refine⟨fun j k x y p c d=>?_,by simp;omega,fun x=>?_⟩
 ·rw[g]at c d;by_cases m:j<i
  ·rw[if_pos m]at c;by_cases n:k<i
   ·rw[if_pos n]at d;exact f j k x y p c d
   ·rw[if_neg n]at d;exact f j (k+1) x y (by omega) c d
  ·rw[if_neg m]at c;rw[if_neg (by omega)]at d;exact f (j+1) (k+1) x y (by omega) c d
 ·constructor
  ·intro c;obtain⟨k,b⟩:=BF c;rw[g]at b;by_cases a:k<i
   ·rw[if_pos a]at b;refine⟨An b,fun e=>?_⟩;have:=f k i x _ a b l;rw[e,Kq]at this;cases this
   ·rw[if_neg a]at b;refine⟨An b,fun e=>?_⟩;have:=f i (k+1) _ x (by omega) l b;rw[e,Kq]at this;cases this
  ·rintro⟨c,s⟩;obtain⟨k,b⟩:=BF c;rcases Cz k i with a|a|a
   ·exact An (i:=k) (by rw[g,if_pos a];exact b)
   ·subst a;rw[l]at b;cases b;exact absurd rfl s
   ·exact An (i:=k-1) (by rw[g,if_neg (by omega),show k-1+1=k by omega];exact b)
theorem M9(w:World)(c ho:Nat)(v:Value)(es:LF)(u:Int)(r:VF)(m:w.cell? ⟨c,ho,none⟩=some v)(T:w.frozen? ⟨c,ho,none⟩=false)(C:v.ownBlock≠some c)(y:Sl w 293 3 v es.length (Du es))(N:es.length<=10000)(s:Gn es)(L:(u,r)∈es):
  Cl 234 #[.pointer (some ⟨c,ho,none⟩),.int .i64 u] w fun e w'=>e = .returned (.tuple #[])/\∃d es',w'.cell? ⟨c,ho,none⟩=some d/\Sl w' 293 3 d es'.length (Du es')/\
   Gn es'/\es'.length+1=es.length/\(∀x,x∈es'↔x∈es/\x.1≠u)/\Dm w v d/\IK w w' c ho v d:=by
 have A:c<w.heap.size:=Aj _ _ m;have K:=UR w c ho v es u m y N s;go_enter Tryz.func234,Tryz.ntmps234;go_wp2_with fail;refine K.mono ?_;rintro e w1 ⟨i,b,rfl,q,f⟩;have S:b=true:=by
  cases b with
  | true=>rfl
  | false=>exact absurd rfl (I0.not s q _ L)
 subst S;have V:i<es.length:=by obtain⟨r',Y⟩:=q.here;exact(Ae.1 Y).1
 have q0:w1.cell? ⟨c,ho,none⟩=some v:=(f.cell (p:=⟨c,ho,none⟩) A).trans m;have I:Sl w1 293 3 v es.length (Du es):=y.kept (fun k B _=>f.block k B);have J:Cl 269 #[v,.int .i64 i,.int .i64 ((i:Int)+1)] w1 fun e w'=>∃j o l d,e = .returned (.slice j o l)/\d = .slice j o l/\
   (w'.cell? ⟨c,ho,none⟩=some v/\w'.frozen? ⟨c,ho,none⟩=false)/\Hid ((w'.setCell ⟨c,ho,none⟩ d).cell? ⟨c,ho,none⟩=some d/\Sl (w'.setCell ⟨c,ho,none⟩ d) 293 3 d (es.length-1) (Du (es.take i++es.drop (i+1)))/\IK w (w'.setCell ⟨c,ho,none⟩ d) c ho v d/\Dm w v d):=by
  refine(Nc w1 v es i I V N).mono ?_;rintro e w' ⟨d,rfl,H,n,X⟩;have z:∀k,k<w.heap.size->v.ownBlock≠some k->w'.heap[k]?=w.heap[k]? := fun k B W=>by
   rw[n.block k (by have:=f.size;omega) (fun e=>W e.symm),f.block k B]
  have O:Dm w v d:=fun g U=>(X g U).imp id (fun h=>by have:=f.size;omega)
  obtain⟨D,E,F⟩:=UV (ho:=ho) m C H O (n.os.trans f.os) (n.tape.trans f.tape) (n.output.trans f.output) (Ag f.size n.size) z;obtain⟨j,o,l,G⟩:=H.shape;exact⟨j,o,l,d,by rw[G],G,⟨(AC (w:=w) (a:=⟨c,ho,none⟩) (z c A C)).trans m,(Ee (w:=w) (a:=⟨c,ho,none⟩) (z c A C)).trans T⟩,D,E,F,O⟩
 have t:=Db (Zmx s q);have M:(es.take i++es.drop (i+1)).length=es.length-1:=by have:=(Da t).2.1;omega
 have R:=Db M;have P:=Db J;clear M q y I s L K f J;go_wp2_with (go_at_call 269;refine(Da P).mono ?_;rintro e w2 ⟨j,o,l,d,rfl,rfl,⟨aa,ab⟩,Q⟩)
 go_end0
 obtain⟨D,E,F,Z⟩:=Da Q;exact⟨rfl,_,_,D,by rw[Da R];exact E,(Da t).1,(Da t).2.1,(Da t).2.2,Z,F⟩
theorem Zlp{es:LF}{c:Int}{i:Nat}(d:VF)(m:Gn es)(h:I0 es c i true):
  Gn (es.set i (c,d))/\(es.set i (c,d)).length=es.length/\∀x,x∈es.set i (c,d)↔x=(c,d)\/x∈es/\x.1≠c:=by
 obtain⟨r,g⟩:=h.here;have t:i<es.length:=(Ae.1 g).1;have l:∀k,(es.set i (c,d))[k]?=if k=i then some (c,d) else es[k]? := fun k=>by
  rw[Fe];by_cases e:i=k
  ·subst e;simp[t]
  ·rw[if_neg e,if_neg (fun h=>e h.symm)]
 have o:∀(k:Nat) (x:Int×VF),(es.set i (c,d))[k]?=some x->∃y:Int×VF,es[k]?=some y/\y.1=x.1:=fun k x b=>by
  rw[l]at b;by_cases e:k=i
  ·rw[if_pos e]at b;cases b;exact⟨(c,r),by rw[e];exact g,rfl⟩
  ·rw[if_neg e]at b;exact⟨x,b,rfl⟩
 refine⟨fun j k x y u b w=>?_,by simp,fun x=>?_⟩
 ·obtain⟨z,f,p⟩:=o j x b;obtain⟨A,q,s⟩:=o k y w;rw[<-p,<-s];exact m j k z A u f q
 ·constructor
  ·intro b;obtain⟨k,a⟩:=BF b;rw[l]at a;by_cases e:k=i
   ·rw[if_pos e]at a;cases a;exact .inl rfl
   ·rw[if_neg e]at a;refine .inr ⟨An a,fun n=>?_⟩;rcases Nat.lt_or_gt_of_ne e with f|f
    ·have:=m k i x _ f a g;rw[n,Kq]at this;cases this
    ·have:=m i k _ x f g a;rw[n,Kq]at this;cases this
  ·rintro(rfl|⟨b,v⟩)
   ·exact An (i:=i) (by rw[l,if_pos rfl])
   ·obtain⟨k,a⟩:=BF b;refine An (i:=k) ?_;rw[l,if_neg (fun e=>?_)]
    ·exact a
    ·subst e;rw[g]at a;cases a;exact v rfl
theorem ZkI(es:LF)(i:Nat)(b:Int)(c r:VF)(h:es[i]?=some (b,c)):((Du es).set (i*3+1) (.slice r.a r.l r.c)).set (i*3+2) (.int .i64 r.f)=Du (es.set i (b,r)):=by
 induction es generalizing i with
 | nil=>simp at h
 | cons a l ih=>
  cases i with
  | zero=>simp at h;subst h;simp[Du,He]
  | succ i=>
   simp at h;have:=ih i h;simp only[Du,A9,FR]at this ⊢;rw[<-this];rw[Em _ _ (by simp[He];omega),Em _ _ (by simp[He];omega)];simp only[He,Aq,AS];rw[show(i+1)*3+1-(0+1+1+1)=i*3+1 by omega,show(i+1)*3+2-(0+1+1+1)=i*3+2 by omega]
theorem Zq(w:World)(c ho:Nat)(v:Value)(es:LF)(d:Int)(r0 r:VF)(F:w.cell? ⟨c,ho,none⟩=some v)(aa:v.ownBlock≠some c)(s:Sl w 293 3 v es.length (Du es))(hn:es.length<=10000)(t:Gn es)(Q:(d,r0)∈es):
  Cl 228 #[.pointer (some ⟨c,ho,none⟩),.int .i64 d,.agg #[.slice r.a r.l r.c,.int .i64 r.f]] w fun e w'=>e = .returned (.tuple #[])/\∃es',w'.cell? ⟨c,ho,none⟩=some v/\Sl w' 293 3 v es'.length (Du es')/\
   Gn es'/\es'.length=es.length/\(∀x,x∈es'↔x=(d,r)\/x∈es/\x.1≠d)/\w.grownBy w' v.ownBlock:=by
 have O:c<w.heap.size:=Aj _ _ F;have E:∀o,Bw w (w.alloc o):=fun o=>(Al _ _).alloc (Aa _) o
 have P:=fun o=>UR (w.alloc o) c ho v es d (((E o).cell (p:=⟨c,ho,none⟩) O).trans F) (Sl.of_owns (s.owns.alloc o)) hn t
 go_enter Tryz.func228,Tryz.ntmps228;go_wp2_with fail;refine(P _).mono ?_;rintro e w1 ⟨i,b,rfl,m,J⟩;have V:b=true:=by
  cases b with
  | true=>rfl
  | false=>exact absurd rfl (I0.not t m _ Q)
 subst V;obtain⟨r1,H⟩:=m.here;have hi:i<es.length:=(Ae.1 H).1;have n:Below (w.heap.size+1) (w.alloc (.cells #[.slice r.a r.l r.c,.int .i64 r.f] 217)) w1:=by simpa[Bw]using J
 have f:Bw w w1:=(E _).trans (n.mono (by omega));have q0:w1.cell? ⟨c,ho,none⟩=some v:=(f.cell (p:=⟨c,ho,none⟩) O).trans F;have z:∀j,w1.cell? ⟨w.heap.size,j,none⟩=(#[.slice r.a r.l r.c,.int .i64 r.f]:Array Value)[j]? := fun j=>(n.cell (p:=⟨w.heap.size,j,none⟩) (by simp)).trans (CV _ _ _ _ rfl)
 have z0:w1.cell? ⟨w.heap.size,0,none⟩=some (.slice r.a r.l r.c):=z 0;have z1:w1.cell? ⟨w.heap.size,1,none⟩=some (.int .i64 r.f):=z 1;have M:Sl w1 293 3 v es.length (Du es):=s.kept (fun k h _=>f.block k h);rcases M.2 with⟨rfl,h0⟩|⟨g,B,L,rfl,l,X,Y,K,C⟩
 ·omega
 ·have G:∀j u,(Du es)[j]?=some u->w1.cell? ⟨g,j,none⟩=some u:=fun j u y=>by
   rw[l.cell];rw[<-C,Ao]at y
   split at y
   ·exact y
   ·cases y
  have q:=QK es i _ H;have q1:=G _ _ q.2.1;have q2:=G _ _ q.2.2;have f1:=l.frozen (i*3+1);have f2:=l.frozen (i*3+2);have ae:g<w.heap.size:=s.lt rfl;have ab:c≠g:=fun e=>aa (by simp[Value.ownBlock,e])
  have I:∀W:World,W.heap=((w1.setCell ⟨g,i*3+1,none⟩ (.slice r.a r.l r.c)).setCell ⟨g,i*3+2,none⟩ (.int .i64 r.f)).heap->W.os=w1.os->W.tape=w1.tape->W.output=w1.output->
    ∃es',W.cell? ⟨c,ho,none⟩=some (.slice (some ⟨g,0,none⟩) es.length B)/\Sl W 293 3 (.slice (some ⟨g,0,none⟩) es.length B) es'.length (Du es')/\Gn es'/\es'.length=es.length/\(∀x,x∈es'↔x=(d,r)\/x∈es/\x.1≠d)/\w.grownBy W (some g):=fun W D S T U=>by
   obtain⟨p1,A,p3⟩:=Zlp r t m;have N:∀k,k≠g->W.heap[k]?=w1.heap[k]? := fun k h=>by
    rw[D,AB _ _ _ _ h,AB _ _ _ _ h]
   refine⟨es.set i (d,r),?_,⟨RR _,.inr ⟨g,B,(L.set (i*3+1) (.slice r.a r.l r.c)).set (i*3+2) (.int .i64 r.f),?_,?_,?_,Y,?_,?_⟩⟩,p1,A,p3,?_⟩
   ·exact(AC (w:=w1) (a:=⟨c,ho,none⟩) (N c ab)).trans q0
   ·rw[A]
   ·unfold F0;rw[D];exact(l.set _ _).set _ _
   ·rw[A];exact X
   ·simpa using K
   ·rw[A,<-ZkI es i d r1 r H,<-C,List.take_set,List.take_set]
   ·refine⟨S.trans f.os,T.trans f.tape,U.trans f.output,?_,fun k h Z=>?_⟩
    ·rw[D];simpa [World.setCell] using f.size
    ·rw[N k (fun e=>Z (by rw[e])),f.block k h]
  have R:=Db I;have af:w.heap.size<w1.heap.size:=by have:=n.size;simp at this;omega
  have ac:¬(g=w.heap.size):=by omega
  have ad:¬(w.heap.size=g):=by omega
  clear E P J n m s M l K C G q z t Q I f;go_wp2
  go_region
  all_goals (
   go_wp2;refine Ax (Ei rfl _ _ _) rfl ?_;exact⟨rfl,Da R _ rfl rfl rfl rfl⟩)
def K9(n:Int):Bool:=decide ((97<=n/\n<=122)\/(48<=n/\n<=57)\/n=46\/n=95\/n=45)
def Lw(c:UInt8):Bool:=K9 (c.toNat:Int)
def DX(s:By):Bool := !s.toList.isEmpty && !(s.toList==[46]) && !(s.toList==[46,46]) && decide (s.size<=12) && s.data.toList.all Lw
theorem Zj(n:Int):K9 n=true↔((97<=n/\n<=122)\/(48<=n/\n<=57)\/n=46\/n=95\/n=45):=by simp[K9]
theorem Xf(n:Int)(w:World):Cl 292 #[.int .u8 n] w fun e w'=>e = .returned (.bool (K9 n))/\w'=w:=by
 obtain⟨b,h⟩:=ex (K9 n);have g:=Zj n;rw[<-h]at g ⊢;have a:=Db g;clear g h;by_cases c:97<=n/\n<=122
 ·obtain⟨c,d⟩:=c;obtain rfl:b=true:=(Da a).2 (by omega);clear a;go_enter Tryz.func292,Tryz.ntmps292;go_wp2;go_ret;exact⟨rfl,rfl⟩
 ·by_cases d:48<=n/\n<=57
  ·obtain⟨d,f⟩:=d;obtain rfl:b=true:=(Da a).2 (by omega);clear a c;go_enter Tryz.func292,Tryz.ntmps292;go_wp2;go_ret;exact⟨rfl,rfl⟩
  ·by_cases f:n=46\/n=95\/n=45
   ·obtain rfl:b=true:=(Da a).2 (by omega);clear a c d;rcases f with rfl|rfl|rfl
    all_goals
     go_enter Tryz.func292,Tryz.ntmps292;go_wp2;go_ret;exact⟨rfl,rfl⟩
   ·obtain rfl:b=false:=by
     cases b with
     | false=>rfl
     | true=>have:=(Da a).1 rfl;omega
    clear a;have q1:(n==46)=false:=by rw[BK];omega
    have q2:(n==95)=false:=by rw[BK];omega
    have q3:(n==45)=false:=by rw[BK];omega
    clear f;go_enter Tryz.func292,Tryz.ntmps292;go_wp2
    all_goals first|omega|(go_ret;exact⟨rfl,rfl⟩)
theorem ZhE(s:By)(k:Nat)(h:k<s.size)(a:(s.data.toList.take k).all Lw=true):(s.data.toList.take (k+1)).all Lw=Lw s[k]:=by
 have e:s.data.toList.take (k+1)=s.data.toList.take k++[s[k]]:=by
  rw[CH (by simpa using h)];rfl
 rw[e,List.all_append,a];simp
theorem ZmO(s:By)(k:Nat)(h:k<s.size)(a:Lw s[k]=false):s.data.toList.all Lw=false:=by
 rw[List.all_eq_false];exact⟨s[k],by have:s[k]=s.data.toList[k]'(by simpa using h):=rfl;rw[this];exact EA _,by rw[a];simp⟩
theorem WP(s:By)(w:World)(p:s.size<=maxLen):Cl 263 #[.string s] w fun e w'=>e = .returned (.bool (DX s))/\w'=w:=by
 unfold maxLen at p;obtain⟨b,a⟩:=ex (DX s);rw[<-a]
 cases h1:s.toList.isEmpty with
 | true=>
  obtain rfl:b=false:=by rw[a];simp[DX,h1]
  clear a;go_enter Tryz.func263,Tryz.ntmps263;go_wp2;go_ret;exact⟨rfl,rfl⟩
 | false=>
 cases h2:(s.toList==[46]) with
 | true=>
  obtain rfl:b=false:=by rw[a];simp only[DX,h1,h2];rfl
  clear a;go_enter Tryz.func263,Tryz.ntmps263;go_wp2;go_ret;exact⟨rfl,rfl⟩
 | false=>
 cases h3:(s.toList==[46,46]) with
 | true=>
  obtain rfl:b=false:=by rw[a];simp only[DX,h1,h2,h3];rfl
  clear a;go_enter Tryz.func263,Tryz.ntmps263;go_wp2;go_ret;exact⟨rfl,rfl⟩
 | false=>
 by_cases h:s.size<=12
 ·have j:b=s.data.toList.all Lw:=by rw[a];simp only[DX,h1,h2,h3,h];simp
  have c:=Db j;clear a j;go_enter Tryz.func263,Tryz.ntmps263;go_wp2
  go_loop [21] (fun i=>∃k:Nat,k<=s.size/\i = .int .i64 k/\Hid ((s.data.toList.take k).all Lw=true)) (fun i=>s.size-(intOf i).toNat)
  case atStart=>exact⟨0,Aw _,rfl,rfl⟩
  case round=>
   obtain⟨k,hk,rfl,d⟩:=hrel;by_cases m:k<s.size
   ·cases hq:Lw s[k] with
    | true=>
     have g:=ZhE s k m (Da d);rw[hq]at g;have n:=Db g;have o:K9 (s[k].toNat:Int)=true:=hq;clear g hq;go_wp2_with (go_at_call 292;refine(Xf _ _).mono ?_;rintro e w' ⟨rfl,rfl⟩)
     go_round
     case rel=>exact⟨k+1,by omega,by go_num,n⟩
     case measure=>simp[intOf];omega
    | false=>
     have l:=ZmO s k m hq;have o:K9 (s[k].toNat:Int)=false:=hq;rw[l]at c;obtain rfl:=Da c;clear l hq;go_wp2_with (go_at_call 292;refine(Xf _ _).mono ?_;rintro e w' ⟨rfl,rfl⟩);go_ret;exact⟨rfl,rfl⟩
   ·obtain rfl:k=s.size:=by omega
    have:s.data.toList.take s.size=s.data.toList:=Ah (Ej AG);have f:=Da d;rw[this]at f;rw[f]at c;obtain rfl:=Da c;clear d f;go_wp2;go_ret;exact⟨rfl,rfl⟩
 ·obtain rfl:b=false:=by rw[a];simp only[DX,h];simp
  clear a;go_enter Tryz.func263,Tryz.ntmps263;go_wp2;go_ret;exact⟨rfl,rfl⟩
end Go.Proofs.YtaieidcohdhgpaaGreatDoor
