/- Failed. -/
import Derived.Test.YtaieidcohdhgpaaGreatDoorSAD
namespace Go.Proofs.YtaieidcohdhgpaaGreatDoor
set_option maxHeartbeats 40000000
set_option maxRecDepth 100000
open Go.RowKit
theorem RowIs.set{w:World}{g:Nat}{e:TypeId}{L:LVa}(h:RowIs w g e L)(j:Nat)(u:Value):RowIs (w.setCell ⟨g,j,none⟩ u) g e (L.set j u):=by
 unfold RowIs at h ⊢;simp only[World.setCell,Array.getElem?_modify,if_true,h,Option.map_some];simp
theorem lenS(w:World)(d ho:Nat)(v:Value)(n:Nat)(xs:LVa)(hc:w.cell? ⟨d,ho,none⟩=some v)(b:Sl w 310 3 v n xs):
  Calls Tryz.prog 178 #[.pointer (some ⟨d,ho,none⟩)] w fun e w'=>e = .returned (.int .i64 n)/\w'=w:=by
 have f:∃a m c,v = .slice a m c/\m=n:=by
  rcases b.2 with⟨rfl,rfl⟩|⟨g',aa,L,rfl,hr,_⟩
  ·exact⟨_,_,_,rfl,rfl⟩
  ·exact⟨_,_,_,rfl,rfl⟩
 obtain⟨a,m,c,rfl,rfl⟩:=f;clear b;go_enter Tryz.func178,Tryz.ntmps178;go_wp2;go_ret;exact⟨rfl,rfl⟩
theorem Zl3{es:LS}{o:By}{i:Nat}(f:SrtS es)(h:AtS es o i true):
  SrtS (es.take i++es.drop (i+1))/\(es.take i++es.drop (i+1)).length+1=es.length/\∀x,x∈es.take i++es.drop (i+1)↔x∈es/\x.1≠o:=by
 obtain⟨r,l⟩:=h.here;have hi:i<es.length:=(List.getElem?_eq_some_iff.1 l).1;have q:(es.take i).length=i:=by rw[List.length_take];omega
 have g:∀k,(es.take i++es.drop (i+1))[k]?=if k<i then es[k]? else es[k+1]? := fun k=>by
  by_cases a:k<i
  ·rw[if_pos a,List.getElem?_append_left (by omega),List.getElem?_take,if_pos a]
  ·rw[if_neg a,List.getElem?_append_right (by omega),q,List.getElem?_drop]
   congr 1;omega
 refine⟨fun j k x y p c d=>?_,by simp;omega,fun x=>?_⟩
 ·rw[g]at c d;by_cases m:j<i
  ·rw[if_pos m]at c;by_cases n:k<i
   ·rw[if_pos n]at d;exact f j k x y p c d
   ·rw[if_neg n]at d;exact f j (k+1) x y (by omega) c d
  ·rw[if_neg m]at c;rw[if_neg (by omega)]at d;exact f (j+1) (k+1) x y (by omega) c d
 ·constructor
  ·intro c;obtain⟨k,b⟩:=List.getElem?_of_mem c;rw[g]at b;by_cases a:k<i
   ·rw[if_pos a]at b;refine⟨List.mem_of_getElem? b,fun e=>?_⟩;have:=f k i x _ a b l;rw[e,Uh]at this;cases this
   ·rw[if_neg a]at b;refine⟨List.mem_of_getElem? b,fun e=>?_⟩;have:=f i (k+1) _ x (by omega) l b;rw[e,Uh]at this;cases this
  ·rintro⟨c,s⟩;obtain⟨k,b⟩:=List.getElem?_of_mem c;rcases Nat.lt_trichotomy k i with a|a|a
   ·exact List.mem_of_getElem? (i:=k) (by rw[g,if_pos a];exact b)
   ·subst a;rw[l]at b;cases b;exact absurd rfl s
   ·exact List.mem_of_getElem? (i:=k-1) (by rw[g,if_neg (by omega),show k-1+1=k by omega];exact b)
theorem dropS(w:World)(c ho:Nat)(v:Value)(es:LS)(u:By)(r:VS)(m:w.cell? ⟨c,ho,none⟩=some v)(T:w.frozen? ⟨c,ho,none⟩=false)(C:v.ownBlock≠some c)(y:Sl w 310 3 v es.length (Dn es))(N:es.length<=10000)(s:SrtS es)(L:(u,r)∈es):
  Calls Tryz.prog 233 #[.pointer (some ⟨c,ho,none⟩),.string u] w fun e w'=>e = .returned (.tuple #[])/\∃d es',w'.cell? ⟨c,ho,none⟩=some d/\Sl w' 310 3 d es'.length (Dn es')/\
   SrtS es'/\es'.length+1=es.length/\(∀x,x∈es'↔x∈es/\x.1≠u)/\Dk w v d/\Zd7 w w' c ho v d:=by
 have A:c<w.heap.size:=World.block_lt_of_cell? _ _ m;have K:=ZoB w c ho v es u m y N s;go_enter Tryz.func233,Tryz.ntmps233;go_wp2_with fail;refine K.mono ?_;rintro e w1 ⟨i,b,rfl,q,f⟩;have S:b=true:=by
  cases b with
  | true=>rfl
  | false=>exact absurd rfl (AtS.not s q _ L)
 subst S;have V:i<es.length:=by obtain⟨r',Y⟩:=q.here;exact(List.getElem?_eq_some_iff.1 Y).1
 have q0:w1.cell? ⟨c,ho,none⟩=some v:=(f.cell (p:=⟨c,ho,none⟩) A).trans m;have I:Sl w1 310 3 v es.length (Dn es):=y.kept (fun k B _=>f.block k B);have J:Calls Tryz.prog 268 #[v,.int .i64 i,.int .i64 ((i:Int)+1)] w1 fun e w'=>∃j o l d,e = .returned (.slice j o l)/\d = .slice j o l/\
   (w'.cell? ⟨c,ho,none⟩=some v/\w'.frozen? ⟨c,ho,none⟩=false)/\Hid ((w'.setCell ⟨c,ho,none⟩ d).cell? ⟨c,ho,none⟩=some d/\Sl (w'.setCell ⟨c,ho,none⟩ d) 310 3 d (es.length-1) (Dn (es.take i++es.drop (i+1)))/\Zd7 w (w'.setCell ⟨c,ho,none⟩ d) c ho v d/\Dk w v d):=by
  refine(delES w1 v es i I V N).mono ?_;rintro e w' ⟨d,rfl,H,n,X⟩;have z:∀k,k<w.heap.size->v.ownBlock≠some k->w'.heap[k]?=w.heap[k]? := fun k B W=>by
   rw[n.block k (by have:=f.size;omega) (fun e=>W e.symm),f.block k B]
  have O:Dk w v d:=fun g U=>(X g U).imp id (fun h=>by have:=f.size;omega)
  obtain⟨D,E,F⟩:=Uy (ho:=ho) m C H O (n.os.trans f.os) (n.tape.trans f.tape) (n.output.trans f.output) (Nat.le_trans f.size n.size) z;obtain⟨j,o,l,G⟩:=H.shape;exact⟨j,o,l,d,by rw[G],G,⟨(World.cell?_of_block (w:=w) (a:=⟨c,ho,none⟩) (z c A C)).trans m,(World.frozen?_of_block (w:=w) (a:=⟨c,ho,none⟩) (z c A C)).trans T⟩,D,E,F,O⟩
 have t:=Db (Zl3 s q);have M:(es.take i++es.drop (i+1)).length=es.length-1:=by have:=(Da t).2.1;omega
 have R:=Db M;have P:=Db J;clear M q y I s L K f J;go_wp2_with (go_at_call 268;refine(Da P).mono ?_;rintro e w2 ⟨j,o,l,d,rfl,rfl,⟨aa,ab⟩,Q⟩)
 go_end0
 obtain⟨D,E,F,Z⟩:=Da Q;exact⟨rfl,_,_,D,by rw[Da R];exact E,(Da t).1,(Da t).2.1,(Da t).2.2,Z,F⟩
theorem lenI(w:World)(d ho:Nat)(v:Value)(n:Nat)(xs:LVa)(hc:w.cell? ⟨d,ho,none⟩=some v)(b:Sl w 293 3 v n xs):
  Calls Tryz.prog 144 #[.pointer (some ⟨d,ho,none⟩)] w fun e w'=>e = .returned (.int .i64 n)/\w'=w:=by
 have f:∃a m c,v = .slice a m c/\m=n:=by
  rcases b.2 with⟨rfl,rfl⟩|⟨g',aa,L,rfl,hr,_⟩
  ·exact⟨_,_,_,rfl,rfl⟩
  ·exact⟨_,_,_,rfl,rfl⟩
 obtain⟨a,m,c,rfl,rfl⟩:=f;clear b;go_enter Tryz.func144,Tryz.ntmps144;go_wp2;go_ret;exact⟨rfl,rfl⟩
theorem Zl4{es:LF}{o:Int}{i:Nat}(f:SrtI es)(h:AtI es o i true):
  SrtI (es.take i++es.drop (i+1))/\(es.take i++es.drop (i+1)).length+1=es.length/\∀x,x∈es.take i++es.drop (i+1)↔x∈es/\x.1≠o:=by
 obtain⟨r,l⟩:=h.here;have hi:i<es.length:=(List.getElem?_eq_some_iff.1 l).1;have q:(es.take i).length=i:=by rw[List.length_take];omega
 have g:∀k,(es.take i++es.drop (i+1))[k]?=if k<i then es[k]? else es[k+1]? := fun k=>by
  by_cases a:k<i
  ·rw[if_pos a,List.getElem?_append_left (by omega),List.getElem?_take,if_pos a]
  ·rw[if_neg a,List.getElem?_append_right (by omega),q,List.getElem?_drop]
   congr 1;omega
 refine⟨fun j k x y p c d=>?_,by simp;omega,fun x=>?_⟩
 ·rw[g]at c d;by_cases m:j<i
  ·rw[if_pos m]at c;by_cases n:k<i
   ·rw[if_pos n]at d;exact f j k x y p c d
   ·rw[if_neg n]at d;exact f j (k+1) x y (by omega) c d
  ·rw[if_neg m]at c;rw[if_neg (by omega)]at d;exact f (j+1) (k+1) x y (by omega) c d
 ·constructor
  ·intro c;obtain⟨k,b⟩:=List.getElem?_of_mem c;rw[g]at b;by_cases a:k<i
   ·rw[if_pos a]at b;refine⟨List.mem_of_getElem? b,fun e=>?_⟩;have:=f k i x _ a b l;rw[e,KC]at this;cases this
   ·rw[if_neg a]at b;refine⟨List.mem_of_getElem? b,fun e=>?_⟩;have:=f i (k+1) _ x (by omega) l b;rw[e,KC]at this;cases this
  ·rintro⟨c,s⟩;obtain⟨k,b⟩:=List.getElem?_of_mem c;rcases Nat.lt_trichotomy k i with a|a|a
   ·exact List.mem_of_getElem? (i:=k) (by rw[g,if_pos a];exact b)
   ·subst a;rw[l]at b;cases b;exact absurd rfl s
   ·exact List.mem_of_getElem? (i:=k-1) (by rw[g,if_neg (by omega),show k-1+1=k by omega];exact b)
theorem dropI(w:World)(c ho:Nat)(v:Value)(es:LF)(u:Int)(r:VF)(m:w.cell? ⟨c,ho,none⟩=some v)(T:w.frozen? ⟨c,ho,none⟩=false)(C:v.ownBlock≠some c)(y:Sl w 293 3 v es.length (Dr es))(N:es.length<=10000)(s:SrtI es)(L:(u,r)∈es):
  Calls Tryz.prog 234 #[.pointer (some ⟨c,ho,none⟩),.int .i64 u] w fun e w'=>e = .returned (.tuple #[])/\∃d es',w'.cell? ⟨c,ho,none⟩=some d/\Sl w' 293 3 d es'.length (Dr es')/\
   SrtI es'/\es'.length+1=es.length/\(∀x,x∈es'↔x∈es/\x.1≠u)/\Dk w v d/\Zd7 w w' c ho v d:=by
 have A:c<w.heap.size:=World.block_lt_of_cell? _ _ m;have K:=Uw w c ho v es u m y N s;go_enter Tryz.func234,Tryz.ntmps234;go_wp2_with fail;refine K.mono ?_;rintro e w1 ⟨i,b,rfl,q,f⟩;have S:b=true:=by
  cases b with
  | true=>rfl
  | false=>exact absurd rfl (AtI.not s q _ L)
 subst S;have V:i<es.length:=by obtain⟨r',Y⟩:=q.here;exact(List.getElem?_eq_some_iff.1 Y).1
 have q0:w1.cell? ⟨c,ho,none⟩=some v:=(f.cell (p:=⟨c,ho,none⟩) A).trans m;have I:Sl w1 293 3 v es.length (Dr es):=y.kept (fun k B _=>f.block k B);have J:Calls Tryz.prog 269 #[v,.int .i64 i,.int .i64 ((i:Int)+1)] w1 fun e w'=>∃j o l d,e = .returned (.slice j o l)/\d = .slice j o l/\
   (w'.cell? ⟨c,ho,none⟩=some v/\w'.frozen? ⟨c,ho,none⟩=false)/\Hid ((w'.setCell ⟨c,ho,none⟩ d).cell? ⟨c,ho,none⟩=some d/\Sl (w'.setCell ⟨c,ho,none⟩ d) 293 3 d (es.length-1) (Dr (es.take i++es.drop (i+1)))/\Zd7 w (w'.setCell ⟨c,ho,none⟩ d) c ho v d/\Dk w v d):=by
  refine(delEI w1 v es i I V N).mono ?_;rintro e w' ⟨d,rfl,H,n,X⟩;have z:∀k,k<w.heap.size->v.ownBlock≠some k->w'.heap[k]?=w.heap[k]? := fun k B W=>by
   rw[n.block k (by have:=f.size;omega) (fun e=>W e.symm),f.block k B]
  have O:Dk w v d:=fun g U=>(X g U).imp id (fun h=>by have:=f.size;omega)
  obtain⟨D,E,F⟩:=Uy (ho:=ho) m C H O (n.os.trans f.os) (n.tape.trans f.tape) (n.output.trans f.output) (Nat.le_trans f.size n.size) z;obtain⟨j,o,l,G⟩:=H.shape;exact⟨j,o,l,d,by rw[G],G,⟨(World.cell?_of_block (w:=w) (a:=⟨c,ho,none⟩) (z c A C)).trans m,(World.frozen?_of_block (w:=w) (a:=⟨c,ho,none⟩) (z c A C)).trans T⟩,D,E,F,O⟩
 have t:=Db (Zl4 s q);have M:(es.take i++es.drop (i+1)).length=es.length-1:=by have:=(Da t).2.1;omega
 have R:=Db M;have P:=Db J;clear M q y I s L K f J;go_wp2_with (go_at_call 269;refine(Da P).mono ?_;rintro e w2 ⟨j,o,l,d,rfl,rfl,⟨aa,ab⟩,Q⟩)
 go_end0
 obtain⟨D,E,F,Z⟩:=Da Q;exact⟨rfl,_,_,D,by rw[Da R];exact E,(Da t).1,(Da t).2.1,(Da t).2.2,Z,F⟩
theorem Zk0{es:LF}{c:Int}{i:Nat}(d:VF)(m:SrtI es)(h:AtI es c i true):
  SrtI (es.set i (c,d))/\(es.set i (c,d)).length=es.length/\∀x,x∈es.set i (c,d)↔x=(c,d)\/x∈es/\x.1≠c:=by
 obtain⟨r,g⟩:=h.here;have t:i<es.length:=(List.getElem?_eq_some_iff.1 g).1;have l:∀k,(es.set i (c,d))[k]?=if k=i then some (c,d) else es[k]? := fun k=>by
  rw[List.getElem?_set];by_cases e:i=k
  ·subst e;simp[t]
  ·rw[if_neg e,if_neg (fun h=>e h.symm)]
 have o:∀(k:Nat) (x:Int×VF),(es.set i (c,d))[k]?=some x->∃y:Int×VF,es[k]?=some y/\y.1=x.1:=fun k x b=>by
  rw[l]at b;by_cases e:k=i
  ·rw[if_pos e]at b;cases b;exact⟨(c,r),by rw[e];exact g,rfl⟩
  ·rw[if_neg e]at b;exact⟨x,b,rfl⟩
 refine⟨fun j k x y u b w=>?_,by simp,fun x=>?_⟩
 ·obtain⟨z,f,p⟩:=o j x b;obtain⟨A,q,s⟩:=o k y w;rw[<-p,<-s];exact m j k z A u f q
 ·constructor
  ·intro b;obtain⟨k,a⟩:=List.getElem?_of_mem b;rw[l]at a;by_cases e:k=i
   ·rw[if_pos e]at a;cases a;exact .inl rfl
   ·rw[if_neg e]at a;refine .inr ⟨List.mem_of_getElem? a,fun n=>?_⟩;rcases Nat.lt_or_gt_of_ne e with f|f
    ·have:=m k i x _ f a g;rw[n,KC]at this;cases this
    ·have:=m i k _ x f g a;rw[n,KC]at this;cases this
  ·rintro(rfl|⟨b,v⟩)
   ·exact List.mem_of_getElem? (i:=i) (by rw[l,if_pos rfl])
   ·obtain⟨k,a⟩:=List.getElem?_of_mem b;refine List.mem_of_getElem? (i:=k) ?_;rw[l,if_neg (fun e=>?_)]
    ·exact a
    ·subst e;rw[g]at a;cases a;exact v rfl
theorem Zks(es:LF)(i:Nat)(b:Int)(c r:VF)(h:es[i]?=some (b,c)):((Dr es).set (i*3+1) (.slice r.a r.l r.c)).set (i*3+2) (.int .i64 r.f)=Dr (es.set i (b,r)):=by
 induction es generalizing i with
 | nil=>simp at h
 | cons a l ih=>
  cases i with
  | zero=>simp at h;subst h;simp[Dr,clI]
  | succ i=>
   simp at h;have:=ih i h;simp only[Dr,List.flatMap_cons,List.set_cons_succ]at this ⊢;rw[<-this];rw[List.set_append_right _ _ (by simp[clI];omega),List.set_append_right _ _ (by simp[clI];omega)];simp only[clI,List.length_cons,List.length_nil];rw[show(i+1)*3+1-(0+1+1+1)=i*3+1 by omega,show(i+1)*3+2-(0+1+1+1)=i*3+2 by omega]
theorem ZmK(w:World)(c ho:Nat)(v:Value)(es:LF)(d:Int)(r0 r:VF)(F:w.cell? ⟨c,ho,none⟩=some v)(aa:v.ownBlock≠some c)(s:Sl w 293 3 v es.length (Dr es))(hn:es.length<=10000)(t:SrtI es)(Q:(d,r0)∈es):
  Calls Tryz.prog 228 #[.pointer (some ⟨c,ho,none⟩),.int .i64 d,.agg #[.slice r.a r.l r.c,.int .i64 r.f]] w fun e w'=>e = .returned (.tuple #[])/\∃es',w'.cell? ⟨c,ho,none⟩=some v/\Sl w' 293 3 v es'.length (Dr es')/\
   SrtI es'/\es'.length=es.length/\(∀x,x∈es'↔x=(d,r)\/x∈es/\x.1≠d)/\w.grownBy w' v.ownBlock:=by
 have O:c<w.heap.size:=World.block_lt_of_cell? _ _ F;have E:∀o,Below w.heap.size w (w.alloc o):=fun o=>(Below.refl _ _).alloc (Nat.le_refl _) o
 have P:=fun o=>Uw (w.alloc o) c ho v es d (((E o).cell (p:=⟨c,ho,none⟩) O).trans F) (Sl.of_owns (s.owns.alloc o)) hn t
 go_enter Tryz.func228,Tryz.ntmps228;go_wp2_with fail;refine(P _).mono ?_;rintro e w1 ⟨i,b,rfl,m,J⟩;have V:b=true:=by
  cases b with
  | true=>rfl
  | false=>exact absurd rfl (AtI.not t m _ Q)
 subst V;obtain⟨r1,H⟩:=m.here;have hi:i<es.length:=(List.getElem?_eq_some_iff.1 H).1;have n:Below (w.heap.size+1) (w.alloc (.cells #[.slice r.a r.l r.c,.int .i64 r.f] 217)) w1:=by simpa using J
 have f:Below w.heap.size w w1:=(E _).trans (n.mono (by omega));have q0:w1.cell? ⟨c,ho,none⟩=some v:=(f.cell (p:=⟨c,ho,none⟩) O).trans F;have z:∀j,w1.cell? ⟨w.heap.size,j,none⟩=(#[.slice r.a r.l r.c,.int .i64 r.f]:Array Value)[j]? := fun j=>(n.cell (p:=⟨w.heap.size,j,none⟩) (by simp)).trans (World.cell?_alloc_at _ _ _ _ rfl)
 have z0:w1.cell? ⟨w.heap.size,0,none⟩=some (.slice r.a r.l r.c):=z 0;have z1:w1.cell? ⟨w.heap.size,1,none⟩=some (.int .i64 r.f):=z 1;have M:Sl w1 293 3 v es.length (Dr es):=s.kept (fun k h _=>f.block k h);rcases M.2 with⟨rfl,h0⟩|⟨g,B,L,rfl,l,X,Y,K,C⟩
 ·omega
 ·have G:∀j u,(Dr es)[j]?=some u->w1.cell? ⟨g,j,none⟩=some u:=fun j u y=>by
   rw[l.cell];rw[<-C,List.getElem?_take]at y
   split at y
   ·exact y
   ·cases y
  have q:=Qu es i _ H;have q1:=G _ _ q.2.1;have q2:=G _ _ q.2.2;have f1:=l.frozen (i*3+1);have f2:=l.frozen (i*3+2);have ae:g<w.heap.size:=s.lt rfl;have ab:c≠g:=fun e=>aa (by simp[Value.ownBlock,e])
  have I:∀W:World,W.heap=((w1.setCell ⟨g,i*3+1,none⟩ (.slice r.a r.l r.c)).setCell ⟨g,i*3+2,none⟩ (.int .i64 r.f)).heap->W.os=w1.os->W.tape=w1.tape->W.output=w1.output->
    ∃es',W.cell? ⟨c,ho,none⟩=some (.slice (some ⟨g,0,none⟩) es.length B)/\Sl W 293 3 (.slice (some ⟨g,0,none⟩) es.length B) es'.length (Dr es')/\SrtI es'/\es'.length=es.length/\(∀x,x∈es'↔x=(d,r)\/x∈es/\x.1≠d)/\w.grownBy W (some g):=fun W D S T U=>by
   obtain⟨p1,A,p3⟩:=Zk0 r t m;have N:∀k,k≠g->W.heap[k]?=w1.heap[k]? := fun k h=>by
    rw[D,Below.heap_setCell _ _ _ _ h,Below.heap_setCell _ _ _ _ h]
   refine⟨es.set i (d,r),?_,⟨Zcw _,.inr ⟨g,B,(L.set (i*3+1) (.slice r.a r.l r.c)).set (i*3+2) (.int .i64 r.f),?_,?_,?_,Y,?_,?_⟩⟩,p1,A,p3,?_⟩
   ·exact(World.cell?_of_block (w:=w1) (a:=⟨c,ho,none⟩) (N c ab)).trans q0
   ·rw[A]
   ·unfold RowIs;rw[D];exact(l.set _ _).set _ _
   ·rw[A];exact X
   ·simpa using K
   ·rw[A,<-Zks es i d r1 r H,<-C,List.take_set,List.take_set]
   ·refine⟨S.trans f.os,T.trans f.tape,U.trans f.output,?_,fun k h Z=>?_⟩
    ·rw[D];simpa [World.setCell] using f.size
    ·rw[N k (fun e=>Z (by rw[e])),f.block k h]
  have R:=Db I;have af:w.heap.size<w1.heap.size:=by have:=n.size;simp at this;omega
  have ac:¬(g=w.heap.size):=by omega
  have ad:¬(w.heap.size=g):=by omega
  clear E P J n m s M l K C G q z t Q I f;go_wp2
  go_region
  all_goals (
   go_wp2;refine bodyPost_ret (results_none rfl _ _ _) rfl ?_;exact⟨rfl,Da R _ rfl rfl rfl rfl⟩)
def K5(n:Int):Bool:=decide ((97<=n/\n<=122)\/(48<=n/\n<=57)\/n=46\/n=95\/n=45)
def okB(c:UInt8):Bool:=K5 (c.toNat:Int)
def DP(s:By):Bool := !s.toList.isEmpty && !(s.toList==[46]) && !(s.toList==[46,46]) && decide (s.size<=12) && s.data.toList.all okB
theorem ZmP(n:Int):K5 n=true↔((97<=n/\n<=122)\/(48<=n/\n<=57)\/n=46\/n=95\/n=45):=by simp[K5]
theorem Zdj(n:Int)(w:World):Calls Tryz.prog 292 #[.int .u8 n] w fun e w'=>e = .returned (.bool (K5 n))/\w'=w:=by
 obtain⟨b,h⟩:∃b,b=K5 n:=⟨_,rfl⟩;have g:=ZmP n;rw[<-h]at g ⊢;have a:=Db g;clear g h;by_cases c:97<=n/\n<=122
 ·obtain⟨c,d⟩:=c;obtain rfl:b=true:=(Da a).2 (by omega);clear a;go_enter Tryz.func292,Tryz.ntmps292;go_wp2;go_ret;exact⟨rfl,rfl⟩
 ·by_cases d:48<=n/\n<=57
  ·obtain⟨d,f⟩:=d;obtain rfl:b=true:=(Da a).2 (by omega);clear a c;go_enter Tryz.func292,Tryz.ntmps292;go_wp2;go_ret;exact⟨rfl,rfl⟩
  ·by_cases f:n=46\/n=95\/n=45
   ·obtain rfl:b=true:=(Da a).2 (by omega);clear a c d;rcases f with rfl|rfl|rfl
    all_goals
     go_enter Tryz.func292,Tryz.ntmps292;go_wp2;go_ret;exact⟨rfl,rfl⟩
   ·obtain rfl:b=false:=by
     cases b with
     | false=>rfl
     | true=>have:=(Da a).1 rfl;omega
    clear a;have q1:(n==46)=false:=by rw[beq_eq_false_iff_ne];omega
    have q2:(n==95)=false:=by rw[beq_eq_false_iff_ne];omega
    have q3:(n==45)=false:=by rw[beq_eq_false_iff_ne];omega
    clear f;go_enter Tryz.func292,Tryz.ntmps292;go_wp2
    all_goals first|omega|(go_ret;exact⟨rfl,rfl⟩)
theorem Zhh(s:By)(k:Nat)(h:k<s.size)(a:(s.data.toList.take k).all okB=true):(s.data.toList.take (k+1)).all okB=okB s[k]:=by
 have e:s.data.toList.take (k+1)=s.data.toList.take k++[s[k]]:=by
  rw[List.take_succ_eq_append_getElem (by simpa using h)];rfl
 rw[e,List.all_append,a];simp
theorem Zmh(s:By)(k:Nat)(h:k<s.size)(a:okB s[k]=false):s.data.toList.all okB=false:=by
 rw[List.all_eq_false];exact⟨s[k],by have:s[k]=s.data.toList[k]'(by simpa using h):=rfl;rw[this];exact List.getElem_mem _,by rw[a];simp⟩
theorem Zfw(s:By)(w:World)(p:s.size<=maxLen):Calls Tryz.prog 263 #[.string s] w fun e w'=>e = .returned (.bool (DP s))/\w'=w:=by
 unfold maxLen at p;obtain⟨b,a⟩:∃b,b=DP s:=⟨_,rfl⟩;rw[<-a]
 cases h1:s.toList.isEmpty with
 | true=>
  obtain rfl:b=false:=by rw[a];simp[DP,h1]
  clear a;go_enter Tryz.func263,Tryz.ntmps263;go_wp2;go_ret;exact⟨rfl,rfl⟩
 | false=>
 cases h2:(s.toList==[46]) with
 | true=>
  obtain rfl:b=false:=by rw[a];simp only[DP,h1,h2];rfl
  clear a;go_enter Tryz.func263,Tryz.ntmps263;go_wp2;go_ret;exact⟨rfl,rfl⟩
 | false=>
 cases h3:(s.toList==[46,46]) with
 | true=>
  obtain rfl:b=false:=by rw[a];simp only[DP,h1,h2,h3];rfl
  clear a;go_enter Tryz.func263,Tryz.ntmps263;go_wp2;go_ret;exact⟨rfl,rfl⟩
 | false=>
 by_cases h:s.size<=12
 ·have j:b=s.data.toList.all okB:=by rw[a];simp only[DP,h1,h2,h3,h];simp
  have c:=Db j;clear a j;go_enter Tryz.func263,Tryz.ntmps263;go_wp2
  go_loop [21] (fun i=>∃k:Nat,k<=s.size/\i = .int .i64 k/\Hid ((s.data.toList.take k).all okB=true)) (fun i=>s.size-(intOf i).toNat)
  case atStart=>exact⟨0,Nat.zero_le _,rfl,rfl⟩
  case round=>
   obtain⟨k,hk,rfl,d⟩:=hrel;by_cases m:k<s.size
   ·cases hq:okB s[k] with
    | true=>
     have g:=Zhh s k m (Da d);rw[hq]at g;have n:=Db g;have o:K5 (s[k].toNat:Int)=true:=hq;clear g hq;go_wp2_with (go_at_call 292;refine(Zdj _ _).mono ?_;rintro e w' ⟨rfl,rfl⟩)
     go_round
     case rel=>exact⟨k+1,by omega,by go_num,n⟩
     case measure=>simp[intOf];omega
    | false=>
     have l:=Zmh s k m hq;have o:K5 (s[k].toNat:Int)=false:=hq;rw[l]at c;obtain rfl:=Da c;clear l hq;go_wp2_with (go_at_call 292;refine(Zdj _ _).mono ?_;rintro e w' ⟨rfl,rfl⟩);go_ret;exact⟨rfl,rfl⟩
   ·obtain rfl:k=s.size:=by omega
    have:s.data.toList.take s.size=s.data.toList:=List.take_of_length_le (Nat.le_of_eq Array.length_toList);have f:=Da d;rw[this]at f;rw[f]at c;obtain rfl:=Da c;clear d f;go_wp2;go_ret;exact⟨rfl,rfl⟩
 ·obtain rfl:b=false:=by rw[a];simp only[DP,h];simp
  clear a;go_enter Tryz.func263,Tryz.ntmps263;go_wp2;go_ret;exact⟨rfl,rfl⟩
end Go.Proofs.YtaieidcohdhgpaaGreatDoor
