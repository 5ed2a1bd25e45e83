/- Failed. -/
import Derived.Test.YtaieidcohdhgpaaGreatDoorSAC
namespace Go.Proofs.YtaieidcohdhgpaaGreatDoor
set_option maxHeartbeats 40000000
set_option maxRecDepth 100000
open Go.RowKit
theorem Zny(L xs a:LVa)(i n:Nat)(hL:(n+1)*3<=L.length)(d:L.take (n*3)=xs)(hi:i<n)(b:a.length=3):
  (spl (spl L ((i+1)*3) (xs.drop (i*3))) (i*3) a).take ((n+1)*3)=xs.take (i*3)++a++xs.drop (i*3):=by
 have c:xs.length=n*3:=by rw[<-d,List.length_take];omega
 have g:(xs.drop (i*3)).length=(n-i)*3:=by rw[List.length_drop,c];omega
 have e:(spl L ((i+1)*3) (xs.drop (i*3))).take (i*3)=xs.take (i*3):=by
  unfold spl;rw[List.append_assoc,List.take_append_of_le_length (by rw[List.length_take];omega),List.take_take,Nat.min_eq_left (by omega),<-d,List.take_take,Nat.min_eq_left (by omega)]
 have f:(spl L ((i+1)*3) (xs.drop (i*3))).drop (i*3+a.length)=xs.drop (i*3)++L.drop ((i+1)*3+(xs.drop (i*3)).length):=by
  unfold spl;rw[List.append_assoc,b,show i*3+3=(L.take ((i+1)*3)).length by rw[List.length_take];omega,List.drop_left]
 rw[spl,e,f,<-List.append_assoc];exact List.take_left' (by simp only[List.length_append,List.length_take,g,b,c];omega)
theorem ZkQ(Z xs a:LVa)(i n:Nat)(f:xs.length=n*3)(hi:i<n)(_hZ:(n+1)*3<=(xs.take (i*3)++Z).length)(c:a.length=3):
  (spl (spl (xs.take (i*3)++Z) (i*3) a) ((i+1)*3) (xs.drop (i*3))).take ((n+1)*3)=xs.take (i*3)++a++xs.drop (i*3):=by
 have e:(xs.drop (i*3)).length=(n-i)*3:=by rw[List.length_drop,f];omega
 have b:(xs.take (i*3)).length=i*3:=by rw[List.length_take];omega
 have d:(spl (xs.take (i*3)++Z) (i*3) a).take ((i+1)*3)=xs.take (i*3)++a:=by
  unfold spl;rw[List.take_left' b];exact List.take_left' (by simp only[List.length_append,b,c];omega)
 rw[spl,d];exact List.take_left' (by simp only[List.length_append,b,e,c];omega)
theorem Znz(L xs z:LVa)(i n:Nat)(hL:n*3<=L.length)(c:L.take (n*3)=xs)(hi:i<n):
  (spl (spl L (i*3) (xs.drop ((i+1)*3))) ((n-1)*3) z).take ((n-1)*3)=xs.take (i*3)++xs.drop ((i+1)*3):=by
 have f:xs.length=n*3:=by rw[<-c,List.length_take];omega
 have a:(xs.drop ((i+1)*3)).length=(n-1-i)*3:=by rw[List.length_drop,f];omega
 have d:L.take (i*3)=xs.take (i*3):=by rw[<-c,List.take_take,Nat.min_eq_left (by omega)]
 have b:(xs.take (i*3)).length=i*3:=by rw[List.length_take];omega
 have e:(spl L (i*3) (xs.drop ((i+1)*3))).take ((n-1)*3)=xs.take (i*3)++xs.drop ((i+1)*3):=by
  unfold spl;rw[d];exact List.take_left' (by simp only[List.length_append,b,a];omega)
 rw[spl,List.append_assoc,e];exact List.take_left' (by simp only[List.length_append,b,a];omega)
theorem set2(w1:World)(b:Nat)(x y g c:Value)(e:w1.cell? ⟨b,0,none⟩=some g)(f:w1.cell? ⟨b,1,none⟩=some c):
  (w1.setCell ⟨b,0,none⟩ x).cell? ⟨b,0,none⟩=some x/\((w1.setCell ⟨b,0,none⟩ x).setCell ⟨b,1,none⟩ y).cell? ⟨b,0,none⟩=some x/\((w1.setCell ⟨b,0,none⟩ x).setCell ⟨b,1,none⟩ y).cell? ⟨b,1,none⟩=some y:=by
 have a:(w1.setCell ⟨b,0,none⟩ x).cell? ⟨b,0,none⟩=some x:=World.cell?_setCell_same _ _ _ e;have d:(w1.setCell ⟨b,0,none⟩ x).cell? ⟨b,1,none⟩=some c:=(World.cell?_setCell_other _ _ _ _ (by simp)).trans f;exact⟨a,(World.cell?_setCell_other _ _ _ _ (by simp)).trans a,World.cell?_setCell_same _ _ _ d⟩
theorem ZbM(w:World)(o:Obj)(p:Addr)(h:p.block<w.heap.size):(w.alloc o).cell? p=w.cell? p:=(Below.cell (B:=w.heap.size) ((Below.refl _ _).alloc (Nat.le_refl _) o) h)
structure Zd7(w w':World)(hb ho:Nat)(v v':Value):Prop where
 os:w'.os=w.os
 tape:w'.tape=w.tape
 output:w'.output=w.output
 size:w.heap.size<=w'.heap.size
 block:∀k,k<w.heap.size->k≠hb->v.ownBlock≠some k->w'.heap[k]?=w.heap[k]?
 head:w'.heap[hb]?=(w.setCell ⟨hb,ho,none⟩ v').heap[hb]?
theorem Sl.setCell{w:World}{e:TypeId}{b:Nat}{v:Value}{n:Nat}{xs:LVa}(h:Sl w e b v n xs)(a:Addr)(u:Value)(i:v.ownBlock≠some a.block):Sl (w.setCell a u) e b v n xs:=by
 refine⟨h.1,?_⟩;rcases h.2 with d|⟨g,c,L,rfl,j,f⟩
 ·exact .inl d
 ·refine .inr ⟨g,c,L,rfl,?_,f⟩;unfold RowIs;rw[Below.heap_setCell _ _ _ _ (fun e=>i (by simp[Value.ownBlock,e]))];exact j
theorem Sl.heap{w w':World}{e:TypeId}{a:Nat}{v:Value}{n:Nat}{xs:LVa}(h:Sl w e a v n xs)(b:w'.heap=w.heap):Sl w' e a v n xs:=by
 unfold Sl RowIs at h ⊢;rw[b];exact h
theorem Sl.kept{w w':World}{e:TypeId}{b:Nat}{v:Value}{n:Nat}{xs:LVa}(h:Sl w e b v n xs)(i:∀k,k<w.heap.size->v.ownBlock=some k->w'.heap[k]?=w.heap[k]?):Sl w' e b v n xs:=by
 refine⟨h.1,?_⟩;rcases h.2 with d|⟨g,c,L,rfl,a,f⟩
 ·exact .inl d
 ·refine .inr ⟨g,c,L,rfl,?_,f⟩;unfold RowIs;rw[i g a.lt rfl];exact a
theorem Sl.lt{w:World}{e:TypeId}{c:Nat}{v:Value}{n:Nat}{xs:LVa}(h:Sl w e c v n xs){g:Nat}(a:v.ownBlock=some g):g<w.heap.size:=by
 rcases h.2 with⟨rfl,_⟩|⟨g',aa,L,rfl,b,_⟩
 ·simp[Value.ownBlock]at a
 ·simp[Value.ownBlock]at a;subst a;exact b.lt
theorem Sl.shape{w:World}{e:TypeId}{b:Nat}{v:Value}{n:Nat}{xs:LVa}(h:Sl w e b v n xs):∃a m c,v = .slice a m c:=by
 rcases h.2 with⟨rfl,_⟩|⟨g',aa,L,rfl,hr,_⟩
 ·exact⟨_,_,_,rfl⟩
 ·exact⟨_,_,_,rfl⟩
theorem Uy{w w2:World}{b ho:Nat}{v c:Value}{e:TypeId}{n:Nat}{xs:LVa}(f:w.cell? ⟨b,ho,none⟩=some v)(i:v.ownBlock≠some b)(m:Sl w2 e 3 c n xs)(r:Dk w v c)
  (s:w2.os=w.os) (x:w2.tape=w.tape) (t:w2.output=w.output) (u:w.heap.size<=w2.heap.size) (d:∀k,k<w.heap.size->v.ownBlock≠some k->w2.heap[k]?=w.heap[k]?):
  (w2.setCell ⟨b,ho,none⟩ c).cell? ⟨b,ho,none⟩=some c/\Sl (w2.setCell ⟨b,ho,none⟩ c) e 3 c n xs/\Zd7 w (w2.setCell ⟨b,ho,none⟩ c) b ho v c:=by
 have q:b<w.heap.size:=World.block_lt_of_cell? _ _ f;have g:w2.heap[b]?=w.heap[b]? := d b q i;have o:w2.cell? ⟨b,ho,none⟩=some v:=(World.cell?_of_block (w:=w) (a:=⟨b,ho,none⟩) g).trans f;refine⟨World.cell?_setCell_same _ _ _ o,m.setCell _ _ (fun e=>?_),s,x,t,by simpa [World.setCell] using u,fun k p j l=>?_,?_⟩
 ·rcases r b e with h|h
  ·exact i h
  ·omega
 ·rw[Below.heap_setCell _ _ _ _ j];exact d k p l
 ·simp only[World.setCell,Array.getElem?_modify,if_true];rw[g]
theorem insES(w:World)(v:Value)(es:LS)(i:Nat)(x:By×VS)(d:Nat)(A:Sl w 310 3 v es.length (Dn es))(hi:i<=es.length)(t:es.length<=10000)
  (y:RowIs w d 310 (clS x)) (H:v.ownBlock≠some d):
  Calls Tryz.prog 265 #[v,.int .i64 i,.slice (some ⟨d,0,none⟩) 1 1] w fun e w'=>∃l,e = .returned l/\Sl w' 310 3 l (es.length+1) (Dn (es.take i++x::es.drop i))/\w.grownBy w' v.ownBlock/\Dk w v l:=by
 have o:∀u∈clS x,u.oneCell'=true:=fun u J=>Zc6 [x] u (by simpa [Dn] using J)
 have f:Dn (es.take i++x::es.drop i)=(Dn es).take (i*3)++clS x++(Dn es).drop (i*3):=by
  rw[ZfJ,ZfK,ZdS,List.append_assoc];rfl
 have j:=ZdR es;rcases Nat.lt_or_ge i es.length with n|aa
 ·rcases A.2 with⟨rfl,h0⟩|⟨g,m,L,rfl,z,E,B,c,s⟩
  ·omega
  ·have I:d≠g:=fun e=>H (by simp[Value.ownBlock,e])
   have C:((Dn es).take (i*3)++clS x++(Dn es).drop (i*3)).length=(es.length+1)*3:=by
    simp only[List.length_append,List.length_take,List.length_drop,j];simp[clS];omega
   rcases Nat.lt_or_ge m (es.length+1) with F|D
   ·refine(Zke w g es.length m (Dn es) L i d (clS x) z c s n E F t y rfl (Zc6 es) o).mono ?_;rintro e w' ⟨G,Z,rfl,p,q,a,r,b⟩;refine⟨_,rfl,⟨by rw[f];exact C,.inr ⟨_,G,_,rfl,r,p,q,?_,?_⟩⟩,⟨b.os,b.tape,b.output,b.size,fun k h _=>b.block k h (by simp;omega)⟩,fun k h => .inr (by simp[Value.ownBlock]at h;omega)⟩
    ·rw[DV,DV,a]
     ·rw[a];simp[clS];omega
     ·rw[DV (by rw[a];simp[clS];omega),a,List.length_drop,j];omega
    ·rw[f];exact ZkQ Z (Dn es) (clS x) i es.length j n (by rw[a];omega) rfl
   ·refine(ZlB w g es.length m (Dn es) L i d (clS x) z c s n D B t y rfl (Zc6 es) o I).mono ?_;rintro e w' ⟨rfl,r,b⟩;refine⟨_,rfl,⟨by rw[f];exact C,.inr ⟨_,m,_,rfl,r,D,B,?_,?_⟩⟩,b,fun k h => .inl h⟩
    ·rw[DV,DV,c]
     ·rw[List.length_drop,j,c];omega
     ·rw[DV (by rw[List.length_drop,j,c];omega),c];simp[clS];omega
    ·rw[f];exact Zny L (Dn es) (clS x) i es.length (by rw[c];omega) s n rfl
 ·obtain rfl:i=es.length:=by omega
  refine(ZlE w v es.length (Dn es) d (clS x) A t y rfl o).mono ?_;rintro e w' ⟨l,rfl,p,q,a⟩;refine⟨l,rfl,?_,q,a⟩;rw[f,List.take_of_length_le (by omega),List.drop_eq_nil_of_le (by omega),List.append_nil];exact p
theorem delES(w:World)(v:Value)(es:LS)(i:Nat)(o:Sl w 310 3 v es.length (Dn es))(j:i<es.length)(r:es.length<=10000):
  Calls Tryz.prog 268 #[v,.int .i64 i,.int .i64 ((i:Int)+1)] w fun e w'=>∃v',e = .returned v'/\Sl w' 310 3 v' (es.length-1) (Dn (es.take i++es.drop (i+1)))/\w.grownBy w' v.ownBlock/\Dk w v v':=by
 have f:Dn (es.take i++es.drop (i+1))=(Dn es).take (i*3)++(Dn es).drop ((i+1)*3):=by
  rw[ZfJ,ZfK,ZdS]
 have b:=ZdR es;rcases o.2 with⟨rfl,h0⟩|⟨g,c,L,rfl,n,p,h,a,d⟩
 ·omega
 ·refine(del164 w g es.length c (Dn es) L i n a d j p h r (Zc6 es)).mono ?_;rintro e w' ⟨rfl,l,m⟩;refine⟨_,rfl,⟨?_,.inr ⟨_,c,_,rfl,l,by omega,h,?_,?_⟩⟩,m,fun k q => .inl q⟩
  ·rw[f];simp only[List.length_append,List.length_take,List.length_drop,b];omega
  ·rw[DV,DV,a]
   ·rw[List.length_drop,b,a];omega
   ·rw[DV (by rw[List.length_drop,b,a];omega),a];simp;omega
  ·rw[f];exact Znz L (Dn es) _ i es.length (by rw[a];omega) d j
theorem ZoB(w:World)(a ho:Nat)(v:Value)(es:LS)(c:By)(hc:w.cell? ⟨a,ho,none⟩=some v)(f:Sl w 310 3 v es.length (Dn es))(g:es.length<=10000)(h:SrtS es):
  Calls Tryz.prog 264 #[.pointer (some ⟨a,ho,none⟩),.string c] w fun e w'=>∃(i:Nat) (b:Bool),e = .returned (.tuple #[.int .i64 i,.bool b])/\AtS es c i b/\Below w.heap.size w w':=by
 have k:=srchS v es c w f g h;clear f g h;go_enter Tryz.func264,Tryz.ntmps264;go_wp2_with fail;refine k.mono ?_;rintro e w' ⟨i,b,rfl,d,a⟩;have j:=Db d;clear d;go_wp2
 go_ret2
 exact⟨i,b,rfl,Da j,a⟩
def ZnQ(es:LS)(key:By)(r:VS)(b:Bool):Prop:=(b=true/\(key,r)∈es)\/(b=false/\r=⟨none,0⟩/\∀x∈es,x.1≠key)
theorem AtS.here{es:LS}{a:By}{i:Nat}(h:AtS es a i true):∃r,es[i]?=some (a,r):=by
 obtain⟨x,b,c⟩:=h.2.2.2.1 rfl;exact⟨x.2,by rw[b,<-c]⟩
theorem AtS.not{es:LS}{j:By}{i:Nat}(l:SrtS es)(h:AtS es j i false):∀x∈es,x.1≠j:=by
 intro x m e;obtain⟨k,a⟩:=List.getElem?_of_mem m;rcases Nat.lt_or_ge k i with g|g
 ·have:=h.2.1 k x g a;rw[e,Uh]at this;cases this
 ·rcases Nat.lt_or_ge i k with b|b
  ·have f:i<es.length:=by have:=(List.getElem?_eq_some_iff.1 a).1;omega
   have c:=l i k _ x b (List.getElem?_eq_getElem f) a;have d:=h.2.2.1 i _ (Nat.le_refl _) (List.getElem?_eq_getElem f);rw[e]at c;rw[c]at d;cases d
  ·obtain rfl:k=i:=by omega
   have:=h.2.2.2.2 ⟨x,a,e⟩
   cases this
theorem getS(w:World)(a ho:Nat)(v:Value)(es:LS)(y:By)(n:w.cell? ⟨a,ho,none⟩=some v)(l:Sl w 310 3 v es.length (Dn es))(P:es.length<=10000)(H:SrtS es):
  Calls Tryz.prog 266 #[.pointer (some ⟨a,ho,none⟩),.string y] w fun e w'=>∃(r:VS) (b:Bool),e = .returned (.tuple #[.agg #[.pointer r.p,.int .i64 r.f],.bool b])/\ZnQ es y r b/\Below w.heap.size w w':=by
 have E:a<w.heap.size:=World.block_lt_of_cell? _ _ n;have m:∀o,Below w.heap.size w (w.alloc o):=fun o=>(Below.refl _ _).alloc (Nat.le_refl _) o
 have F:=fun o=>ZoB (w.alloc o) a ho v es y (((m o).cell (p:=⟨a,ho,none⟩) E).trans n) (Sl.of_owns (l.owns.alloc o)) P H
 go_enter Tryz.func266,Tryz.ntmps266;go_wp2_with fail;refine(F _).mono ?_;rintro e w1 ⟨i,b,rfl,k,C⟩;have c:Below (w.heap.size+1) (w.alloc (.cells #[.pointer none,.int .i64 0] 260)) w1:=by simpa using C
 have h:∀p:Addr,p.block<w.heap.size->w1.cell? p=w.cell? p:=fun p Q=>(c.cell (p:=p) (by omega)).trans ((m _).cell Q)
 have z:∀j,w1.cell? ⟨w.heap.size,j,none⟩=(#[.pointer none,.int .i64 0]:Array Value)[j]? := fun j=>(c.cell (p:=⟨w.heap.size,j,none⟩) (by simp)).trans (World.cell?_alloc_at _ _ _ _ rfl)
 have J:w1.cell? ⟨w.heap.size,0,none⟩=some (.pointer none):=z 0;have K:w1.cell? ⟨w.heap.size,1,none⟩=some (.int .i64 0):=z 1;have f:∀j,w1.frozen? ⟨w.heap.size,j,none⟩=false:=fun j=>(c.frozen (p:=⟨w.heap.size,j,none⟩) (by simp)).trans (World.frozen?_alloc_at _ _ _ _ rfl)
 have f0:=f 0;have f1:=f 1;have G:Below w.heap.size w w1:=(m _).trans (c.mono (by omega));have I:w.heap.size<w1.heap.size:=by have:=c.size;simp at this;omega
 clear z f F m C
 cases b with
 | false=>
  have N:=Db (AtS.not H k);clear k l h;obtain⟨R,A,B⟩:=set2 w1 w.heap.size (.pointer none) (.int .i64 0) _ _ J K;have t1:=fun o=>(ZbM ((w1.setCell ⟨w.heap.size,0,none⟩ (.pointer none)).setCell ⟨w.heap.size,1,none⟩ (.int .i64 0)) o ⟨w.heap.size,0,none⟩ (by simpa using I)).trans A
  have S:=fun o=>(ZbM ((w1.setCell ⟨w.heap.size,0,none⟩ (.pointer none)).setCell ⟨w.heap.size,1,none⟩ (.int .i64 0)) o ⟨w.heap.size,1,none⟩ (by simpa using I)).trans B
  go_wp2;exact bodyPost_ret (v := .tuple #[.agg #[.pointer none,.int .i64 0],.bool false]) (by simp[results,Tryz.results266,go_sem,t1,S]) rfl
   ⟨⟨none,0⟩,false,rfl,.inr ⟨rfl,rfl,Da N⟩,((G.setCell (p:=⟨w.heap.size,0,none⟩) (Nat.le_refl _) _).setCell (p:=⟨w.heap.size,1,none⟩) (Nat.le_refl _) _).alloc (by simp;omega) _⟩
 | true=>
  obtain⟨r,d⟩:=k.here;rcases l.2 with⟨rfl,h0⟩|⟨g,aa,L,rfl,t,ab,ac,O,D⟩
  ·have:=(List.getElem?_eq_some_iff.1 d).1;omega
  ·have x:∀j u,(Dn es)[j]?=some u->w1.cell? ⟨g,j,none⟩=some u:=fun j u s=>by
    rw[h _ t.lt,t.cell];rw[<-D,List.getElem?_take]at s
    split at s
    ·exact s
    ·cases s
   have q:=Qv es i _ d;have q0:=(h ⟨a,ho,none⟩ E).trans n;have q1:=x _ _ q.2.1;have q2:=x _ _ q.2.2;have hi:i<es.length:=(List.getElem?_eq_some_iff.1 d).1;have M:=Db (List.mem_of_getElem? d);clear q x t O D l k d h n;obtain⟨R,A,B⟩:=set2 w1 w.heap.size (.pointer r.p) (.int .i64 r.f) _ _ J K;go_wp2;exact bodyPost_ret (v := .tuple #[.agg #[.pointer r.p,.int .i64 r.f],.bool true]) (by simp[results,Tryz.results266,go_sem,A,B]) rfl
    ⟨r,true,rfl,.inl ⟨rfl,Da M⟩,(G.setCell (p:=⟨w.heap.size,0,none⟩) (Nat.le_refl _) _).setCell (p:=⟨w.heap.size,1,none⟩) (Nat.le_refl _) _⟩
theorem Zlz{es:LS}{d:By}{i:Nat}(e:VS)(g:SrtS es)(h:AtS es d i false):
  SrtS (es.take i++(d,e)::es.drop i)/\(es.take i++(d,e)::es.drop i).length=es.length+1/\∀x,x∈es.take i++(d,e)::es.drop i↔x=(d,e)\/x∈es:=by
 have hi:=h.1;have u:=AtS.not g h;have q:∀k x,i<=k->es[k]?=some x->ltS d x.1=true:=fun k x s b=>by
  have a:=h.2.2.1 k x s b;have f:=u x (List.mem_of_getElem? b);exact Zll a f
 have t:(es.take i).length=i:=by rw[List.length_take];omega
 have p:∀k,(es.take i++(d,e)::es.drop i)[k]?=if k<i then es[k]? else if k=i then some (d,e) else es[k-1]? := fun k=>by
  by_cases a:k<i
  ·rw[if_pos a,List.getElem?_append_left (by omega),List.getElem?_take,if_pos a]
  ·rw[if_neg a,List.getElem?_append_right (by omega),t];by_cases f:k=i
   ·rw[if_pos f];simp[f]
   ·rw[if_neg f,show k-i=(k-i-1)+1 by omega,List.getElem?_cons_succ,List.getElem?_drop]
    congr 1;omega
 refine⟨fun j k x y r b c=>?_,?_,fun x=>?_⟩
 ·rw[p]at b c;by_cases n:j<i
  ·rw[if_pos n]at b;by_cases l:k<i
   ·rw[if_pos l]at c;exact g j k x y r b c
   ·rw[if_neg l]at c;by_cases m:k=i
    ·rw[if_pos m]at c;cases c;exact h.2.1 j x n b
    ·rw[if_neg m]at c;exact g j (k-1) x y (by omega) b c
  ·rw[if_neg n]at b;have l:¬k<i:=by omega
   have m:¬k=i:=by omega
   rw[if_neg l,if_neg m]at c;by_cases o:j=i
   ·rw[if_pos o]at b;cases b;exact q (k-1) y (by omega) c
   ·rw[if_neg o]at b;exact g (j-1) (k-1) x y (by omega) b c
 ·simp;omega
 ·have:es=es.take i++es.drop i:=(List.take_append_drop i es).symm;constructor
  ·intro b;simp only[List.mem_append,List.mem_cons]at b;rcases b with a|a|a
   ·exact .inr (List.mem_of_mem_take a)
   ·exact .inl a
   ·exact .inr (List.mem_of_mem_drop a)
  ·intro b;simp only[List.mem_append,List.mem_cons];rcases b with a|a
   ·exact .inr (.inl a)
   ·rw[this,List.mem_append]at a;rcases a with a|a
    ·exact .inl a
    ·exact .inr (.inr a)
theorem Zob(w:World)(c ho:Nat)(v:Value)(es:LS)(f:By)(r:VS)(q:w.cell? ⟨c,ho,none⟩=some v)(hf:w.frozen? ⟨c,ho,none⟩=false)(H:v.ownBlock≠some c)(C:Sl w 310 3 v es.length (Dn es))(U:es.length<=10000)(I:SrtS es)(X:∀x∈es,x.1≠f):
  Calls Tryz.prog 226 #[.pointer (some ⟨c,ho,none⟩),.string f,.agg #[.pointer r.p,.int .i64 r.f]] w fun e w'=>e = .returned (.tuple #[])/\∃d es',w'.cell? ⟨c,ho,none⟩=some d/\Sl w' 310 3 d es'.length (Dn es')/\
   SrtS es'/\es'.length=es.length+1/\(∀x,x∈es'↔x=(f,r)\/x∈es)/\Dk w v d/\Zd7 w w' c ho v d:=by
 have B:c<w.heap.size:=World.block_lt_of_cell? _ _ q;have E:∀o,Below w.heap.size w (w.alloc o):=fun o=>(Below.refl _ _).alloc (Nat.le_refl _) o
 have R:=fun o=>ZoB (w.alloc o) c ho v es f (((E o).cell (p:=⟨c,ho,none⟩) B).trans q) (Sl.of_owns (C.owns.alloc o)) U I
 go_enter Tryz.func226,Tryz.ntmps226;go_wp2_with fail;refine(R _).mono ?_;rintro e w1 ⟨i,b,rfl,u,P⟩;have ac:b=false:=by
  cases b with
  | false=>rfl
  | true=>obtain⟨r',ag⟩:=u.here;exact absurd rfl (X _ (List.mem_of_getElem? ag))
 subst ac;have y:Below (w.heap.size+1) (w.alloc (.cells #[.pointer r.p,.int .i64 r.f] 260)) w1:=by simpa using P
 have l:Below w.heap.size w w1:=(E _).trans (y.mono (by omega));have q0:w1.cell? ⟨c,ho,none⟩=some v:=(l.cell (p:=⟨c,ho,none⟩) B).trans q;have z:∀j,w1.cell? ⟨w.heap.size,j,none⟩=(#[.pointer r.p,.int .i64 r.f]:Array Value)[j]? := fun j=>(y.cell (p:=⟨w.heap.size,j,none⟩) (by simp)).trans (World.cell?_alloc_at _ _ _ _ rfl)
 have z0:w1.cell? ⟨w.heap.size,0,none⟩=some (.pointer r.p):=z 0;have z1:w1.cell? ⟨w.heap.size,1,none⟩=some (.int .i64 r.f):=z 1;have ak:w.heap.size<w1.heap.size:=by have:=y.size;simp at this;omega
 have D:Sl w1 310 3 v es.length (Dn es):=C.kept (fun k G _=>l.block k G);have S:∀W:World,W.heap=(w1.alloc (.cells #[.string f,.pointer r.p,.int .i64 r.f] 310)).heap->W.os=w1.os->W.tape=w1.tape->W.output=w1.output->Calls Tryz.prog 265 #[v,.int .i64 i,.slice (some ⟨w1.heap.size,0,none⟩) 1 1] W fun e w'=>∃m t n d,e = .returned (.slice m t n)/\d = .slice m t n/\
   (w'.cell? ⟨c,ho,none⟩=some v/\w'.frozen? ⟨c,ho,none⟩=false)/\Hid ((w'.setCell ⟨c,ho,none⟩ d).cell? ⟨c,ho,none⟩=some d/\Sl (w'.setCell ⟨c,ho,none⟩ d) 310 3 d (es.length+1) (Dn (es.take i++(f,r)::es.drop i))/\Zd7 w (w'.setCell ⟨c,ho,none⟩ d) c ho v d/\Dk w v d):=fun W A h1 h2 h3=>by
  have aa:Sl W 310 3 v es.length (Dn es):=(Sl.of_owns (D.owns.alloc _)).heap A;have hR:RowIs W w1.heap.size 310 (clS (f,r)):=by unfold RowIs;rw[A];exact heap_alloc_new w1 _
  refine(insES W v es i (f,r) w1.heap.size aa u.1 U hR (fun e=>by have:=D.lt e;omega)).mono ?_;rintro e w' ⟨d,rfl,Q,s,af⟩;have ab:w.heap.size<=W.heap.size:=by rw[A];simp;omega
  have F:∀k,k<w.heap.size->v.ownBlock≠some k->w'.heap[k]?=w.heap[k]? := fun k G ae=>by
   rw[s.block k (by omega) (fun e=>ae e.symm),A,Below.heap_alloc _ _ _ (by omega),l.block k G]
  have V:Dk w v d:=fun g ad=>(af g ad).imp id (fun h=>by omega)
  obtain⟨K,L,M⟩:=Uy (ho:=ho) q H Q V (s.os.trans (h1.trans l.os)) (s.tape.trans (h2.trans l.tape)) (s.output.trans (h3.trans l.output)) (Nat.le_trans ab s.size) F;obtain⟨m,t,n,O⟩:=Q.shape;exact⟨m,t,n,d,by rw[O],O,⟨(World.cell?_of_block (w:=w) (a:=⟨c,ho,none⟩) (F c B H)).trans q,(World.frozen?_of_block (w:=w) (a:=⟨c,ho,none⟩) (F c B H)).trans hf⟩,K,L,M,V⟩
 have J:=Db (Zlz r I u);have T:(es.take i++(f,r)::es.drop i).length=es.length+1:=(Da J).2.1;have N:=Db T;have ah:c<w1.heap.size:=by omega
 have Z:=Db S;clear T z P u C D I X R E y l S;go_wp2
 go_region_with (go_at_call 265;refine(Da Z _ (by exact rfl) (by exact rfl) (by exact rfl) (by exact rfl)).mono ?_;rintro e w2 ⟨m,t,n,d,rfl,rfl,⟨ai,aj⟩,Y⟩)
 all_goals (
  go_end0
  obtain⟨K,L,M,m4⟩:=Da Y;exact⟨rfl,_,_,K,by rw[Da N];exact L,(Da J).1,Da N,(Da J).2.2,m4,M⟩)
theorem insEI(w:World)(v:Value)(es:LF)(i:Nat)(x:Int×VF)(d:Nat)(A:Sl w 293 3 v es.length (Dr es))(hi:i<=es.length)(t:es.length<=10000)
  (y:RowIs w d 293 (clI x)) (H:v.ownBlock≠some d):
  Calls Tryz.prog 267 #[v,.int .i64 i,.slice (some ⟨d,0,none⟩) 1 1] w fun e w'=>∃l,e = .returned l/\Sl w' 293 3 l (es.length+1) (Dr (es.take i++x::es.drop i))/\w.grownBy w' v.ownBlock/\Dk w v l:=by
 have o:∀u∈clI x,u.oneCell'=true:=fun u J=>Zc7 [x] u (by simpa [Dr] using J)
 have f:Dr (es.take i++x::es.drop i)=(Dr es).take (i*3)++clI x++(Dr es).drop (i*3):=by
  rw[ZfL,ZfM,ZdU,List.append_assoc];rfl
 have j:=Zcw es;rcases Nat.lt_or_ge i es.length with n|aa
 ·rcases A.2 with⟨rfl,h0⟩|⟨g,m,L,rfl,z,E,B,c,s⟩
  ·omega
  ·have I:d≠g:=fun e=>H (by simp[Value.ownBlock,e])
   have C:((Dr es).take (i*3)++clI x++(Dr es).drop (i*3)).length=(es.length+1)*3:=by
    simp only[List.length_append,List.length_take,List.length_drop,j];simp[clI];omega
   rcases Nat.lt_or_ge m (es.length+1) with F|D
   ·refine(Zkf w g es.length m (Dr es) L i d (clI x) z c s n E F t y rfl (Zc7 es) o).mono ?_;rintro e w' ⟨G,Z,rfl,p,q,a,r,b⟩;refine⟨_,rfl,⟨by rw[f];exact C,.inr ⟨_,G,_,rfl,r,p,q,?_,?_⟩⟩,⟨b.os,b.tape,b.output,b.size,fun k h _=>b.block k h (by simp;omega)⟩,fun k h => .inr (by simp[Value.ownBlock]at h;omega)⟩
    ·rw[DV,DV,a]
     ·rw[a];simp[clI];omega
     ·rw[DV (by rw[a];simp[clI];omega),a,List.length_drop,j];omega
    ·rw[f];exact ZkQ Z (Dr es) (clI x) i es.length j n (by rw[a];omega) rfl
   ·refine(ZlC w g es.length m (Dr es) L i d (clI x) z c s n D B t y rfl (Zc7 es) o I).mono ?_;rintro e w' ⟨rfl,r,b⟩;refine⟨_,rfl,⟨by rw[f];exact C,.inr ⟨_,m,_,rfl,r,D,B,?_,?_⟩⟩,b,fun k h => .inl h⟩
    ·rw[DV,DV,c]
     ·rw[List.length_drop,j,c];omega
     ·rw[DV (by rw[List.length_drop,j,c];omega),c];simp[clI];omega
    ·rw[f];exact Zny L (Dr es) (clI x) i es.length (by rw[c];omega) s n rfl
 ·obtain rfl:i=es.length:=by omega
  refine(ZlF w v es.length (Dr es) d (clI x) A t y rfl o).mono ?_;rintro e w' ⟨l,rfl,p,q,a⟩;refine⟨l,rfl,?_,q,a⟩;rw[f,List.take_of_length_le (by omega),List.drop_eq_nil_of_le (by omega),List.append_nil];exact p
theorem delEI(w:World)(v:Value)(es:LF)(i:Nat)(o:Sl w 293 3 v es.length (Dr es))(j:i<es.length)(r:es.length<=10000):
  Calls Tryz.prog 269 #[v,.int .i64 i,.int .i64 ((i:Int)+1)] w fun e w'=>∃v',e = .returned v'/\Sl w' 293 3 v' (es.length-1) (Dr (es.take i++es.drop (i+1)))/\w.grownBy w' v.ownBlock/\Dk w v v':=by
 have f:Dr (es.take i++es.drop (i+1))=(Dr es).take (i*3)++(Dr es).drop ((i+1)*3):=by
  rw[ZfL,ZfM,ZdU]
 have b:=Zcw es;rcases o.2 with⟨rfl,h0⟩|⟨g,c,L,rfl,n,p,h,a,d⟩
 ·omega
 ·refine(del160 w g es.length c (Dr es) L i n a d j p h r (Zc7 es)).mono ?_;rintro e w' ⟨rfl,l,m⟩;refine⟨_,rfl,⟨?_,.inr ⟨_,c,_,rfl,l,by omega,h,?_,?_⟩⟩,m,fun k q => .inl q⟩
  ·rw[f];simp only[List.length_append,List.length_take,List.length_drop,b];omega
  ·rw[DV,DV,a]
   ·rw[List.length_drop,b,a];omega
   ·rw[DV (by rw[List.length_drop,b,a];omega),a];simp;omega
  ·rw[f];exact Znz L (Dr es) _ i es.length (by rw[a];omega) d j
theorem Uw(w:World)(a ho:Nat)(v:Value)(es:LF)(c:Int)(hc:w.cell? ⟨a,ho,none⟩=some v)(f:Sl w 293 3 v es.length (Dr es))(g:es.length<=10000)(h:SrtI es):
  Calls Tryz.prog 221 #[.pointer (some ⟨a,ho,none⟩),.int .i64 c] w fun e w'=>∃(i:Nat) (b:Bool),e = .returned (.tuple #[.int .i64 i,.bool b])/\AtI es c i b/\Below w.heap.size w w':=by
 have k:=srchI v es c w f g h;clear f g h;go_enter Tryz.func221,Tryz.ntmps221;go_wp2_with fail;refine k.mono ?_;rintro e w' ⟨i,b,rfl,d,a⟩;have j:=Db d;clear d;go_wp2
 go_ret2
 exact⟨i,b,rfl,Da j,a⟩
def FoundI(es:LF)(key:Int)(r:VF)(b:Bool):Prop:=(b=true/\(key,r)∈es)\/(b=false/\r=⟨none,0,0,0⟩/\∀x∈es,x.1≠key)
theorem AtI.here{es:LF}{a:Int}{i:Nat}(h:AtI es a i true):∃r,es[i]?=some (a,r):=by
 obtain⟨x,b,c⟩:=h.2.2.2.1 rfl;exact⟨x.2,by rw[b,<-c]⟩
theorem AtI.not{es:LF}{j:Int}{i:Nat}(l:SrtI es)(h:AtI es j i false):∀x∈es,x.1≠j:=by
 intro x m e;obtain⟨k,a⟩:=List.getElem?_of_mem m;rcases Nat.lt_or_ge k i with g|g
 ·have:=h.2.1 k x g a;rw[e,KC]at this;cases this
 ·rcases Nat.lt_or_ge i k with b|b
  ·have f:i<es.length:=by have:=(List.getElem?_eq_some_iff.1 a).1;omega
   have c:=l i k _ x b (List.getElem?_eq_getElem f) a;have d:=h.2.2.1 i _ (Nat.le_refl _) (List.getElem?_eq_getElem f);rw[e]at c;rw[c]at d;cases d
  ·obtain rfl:k=i:=by omega
   have:=h.2.2.2.2 ⟨x,a,e⟩
   cases this
theorem getI(w:World)(a ho:Nat)(v:Value)(es:LF)(y:Int)(n:w.cell? ⟨a,ho,none⟩=some v)(l:Sl w 293 3 v es.length (Dr es))(P:es.length<=10000)(H:SrtI es):
  Calls Tryz.prog 175 #[.pointer (some ⟨a,ho,none⟩),.int .i64 y] w fun e w'=>∃(r:VF) (b:Bool),e = .returned (.tuple #[.agg #[.slice r.a r.l r.c,.int .i64 r.f],.bool b])/\FoundI es y r b/\Below w.heap.size w w':=by
 have E:a<w.heap.size:=World.block_lt_of_cell? _ _ n;have m:∀o,Below w.heap.size w (w.alloc o):=fun o=>(Below.refl _ _).alloc (Nat.le_refl _) o
 have F:=fun o=>Uw (w.alloc o) a ho v es y (((m o).cell (p:=⟨a,ho,none⟩) E).trans n) (Sl.of_owns (l.owns.alloc o)) P H
 go_enter Tryz.func175,Tryz.ntmps175;go_wp2_with fail;refine(F _).mono ?_;rintro e w1 ⟨i,b,rfl,k,C⟩;have c:Below (w.heap.size+1) (w.alloc (.cells #[.slice none 0 0,.int .i64 0] 217)) w1:=by simpa using C
 have h:∀p:Addr,p.block<w.heap.size->w1.cell? p=w.cell? p:=fun p Q=>(c.cell (p:=p) (by omega)).trans ((m _).cell Q)
 have z:∀j,w1.cell? ⟨w.heap.size,j,none⟩=(#[.slice none 0 0,.int .i64 0]:Array Value)[j]? := fun j=>(c.cell (p:=⟨w.heap.size,j,none⟩) (by simp)).trans (World.cell?_alloc_at _ _ _ _ rfl)
 have J:w1.cell? ⟨w.heap.size,0,none⟩=some (.slice none 0 0):=z 0;have K:w1.cell? ⟨w.heap.size,1,none⟩=some (.int .i64 0):=z 1;have f:∀j,w1.frozen? ⟨w.heap.size,j,none⟩=false:=fun j=>(c.frozen (p:=⟨w.heap.size,j,none⟩) (by simp)).trans (World.frozen?_alloc_at _ _ _ _ rfl)
 have f0:=f 0;have f1:=f 1;have G:Below w.heap.size w w1:=(m _).trans (c.mono (by omega));have I:w.heap.size<w1.heap.size:=by have:=c.size;simp at this;omega
 clear z f F m C
 cases b with
 | false=>
  have N:=Db (AtI.not H k);clear k l h;obtain⟨R,A,B⟩:=set2 w1 w.heap.size (.slice none 0 0) (.int .i64 0) _ _ J K;have t1:=fun o=>(ZbM ((w1.setCell ⟨w.heap.size,0,none⟩ (.slice none 0 0)).setCell ⟨w.heap.size,1,none⟩ (.int .i64 0)) o ⟨w.heap.size,0,none⟩ (by simpa using I)).trans A
  have S:=fun o=>(ZbM ((w1.setCell ⟨w.heap.size,0,none⟩ (.slice none 0 0)).setCell ⟨w.heap.size,1,none⟩ (.int .i64 0)) o ⟨w.heap.size,1,none⟩ (by simpa using I)).trans B
  go_wp2;exact bodyPost_ret (v := .tuple #[.agg #[.slice none 0 0,.int .i64 0],.bool false]) (by simp[results,Tryz.results175,go_sem,t1,S]) rfl
   ⟨⟨none,0,0,0⟩,false,rfl,.inr ⟨rfl,rfl,Da N⟩,((G.setCell (p:=⟨w.heap.size,0,none⟩) (Nat.le_refl _) _).setCell (p:=⟨w.heap.size,1,none⟩) (Nat.le_refl _) _).alloc (by simp;omega) _⟩
 | true=>
  obtain⟨r,d⟩:=k.here;rcases l.2 with⟨rfl,h0⟩|⟨g,aa,L,rfl,t,ab,ac,O,D⟩
  ·have:=(List.getElem?_eq_some_iff.1 d).1;omega
  ·have x:∀j u,(Dr es)[j]?=some u->w1.cell? ⟨g,j,none⟩=some u:=fun j u s=>by
    rw[h _ t.lt,t.cell];rw[<-D,List.getElem?_take]at s
    split at s
    ·exact s
    ·cases s
   have q:=Qu es i _ d;have q0:=(h ⟨a,ho,none⟩ E).trans n;have q1:=x _ _ q.2.1;have q2:=x _ _ q.2.2;have hi:i<es.length:=(List.getElem?_eq_some_iff.1 d).1;have M:=Db (List.mem_of_getElem? d);clear q x t O D l k d h n;obtain⟨R,A,B⟩:=set2 w1 w.heap.size (.slice r.a r.l r.c) (.int .i64 r.f) _ _ J K;go_wp2;exact bodyPost_ret (v := .tuple #[.agg #[.slice r.a r.l r.c,.int .i64 r.f],.bool true]) (by simp[results,Tryz.results175,go_sem,A,B]) rfl
    ⟨r,true,rfl,.inl ⟨rfl,Da M⟩,(G.setCell (p:=⟨w.heap.size,0,none⟩) (Nat.le_refl _) _).setCell (p:=⟨w.heap.size,1,none⟩) (Nat.le_refl _) _⟩
theorem ZlD{es:LF}{d:Int}{i:Nat}(e:VF)(g:SrtI es)(h:AtI es d i false):
  SrtI (es.take i++(d,e)::es.drop i)/\(es.take i++(d,e)::es.drop i).length=es.length+1/\∀x,x∈es.take i++(d,e)::es.drop i↔x=(d,e)\/x∈es:=by
 have hi:=h.1;have u:=AtI.not g h;have q:∀k x,i<=k->es[k]?=some x->ltI d x.1=true:=fun k x s b=>by
  have a:=h.2.2.1 k x s b;have f:=u x (List.mem_of_getElem? b);exact ZhS a f
 have t:(es.take i).length=i:=by rw[List.length_take];omega
 have p:∀k,(es.take i++(d,e)::es.drop i)[k]?=if k<i then es[k]? else if k=i then some (d,e) else es[k-1]? := fun k=>by
  by_cases a:k<i
  ·rw[if_pos a,List.getElem?_append_left (by omega),List.getElem?_take,if_pos a]
  ·rw[if_neg a,List.getElem?_append_right (by omega),t];by_cases f:k=i
   ·rw[if_pos f];simp[f]
   ·rw[if_neg f,show k-i=(k-i-1)+1 by omega,List.getElem?_cons_succ,List.getElem?_drop]
    congr 1;omega
 refine⟨fun j k x y r b c=>?_,?_,fun x=>?_⟩
 ·rw[p]at b c;by_cases n:j<i
  ·rw[if_pos n]at b;by_cases l:k<i
   ·rw[if_pos l]at c;exact g j k x y r b c
   ·rw[if_neg l]at c;by_cases m:k=i
    ·rw[if_pos m]at c;cases c;exact h.2.1 j x n b
    ·rw[if_neg m]at c;exact g j (k-1) x y (by omega) b c
  ·rw[if_neg n]at b;have l:¬k<i:=by omega
   have m:¬k=i:=by omega
   rw[if_neg l,if_neg m]at c;by_cases o:j=i
   ·rw[if_pos o]at b;cases b;exact q (k-1) y (by omega) c
   ·rw[if_neg o]at b;exact g (j-1) (k-1) x y (by omega) b c
 ·simp;omega
 ·have:es=es.take i++es.drop i:=(List.take_append_drop i es).symm;constructor
  ·intro b;simp only[List.mem_append,List.mem_cons]at b;rcases b with a|a|a
   ·exact .inr (List.mem_of_mem_take a)
   ·exact .inl a
   ·exact .inr (List.mem_of_mem_drop a)
  ·intro b;simp only[List.mem_append,List.mem_cons];rcases b with a|a
   ·exact .inr (.inl a)
   ·rw[this,List.mem_append]at a;rcases a with a|a
    ·exact .inl a
    ·exact .inr (.inr a)
theorem Zoc(w:World)(c ho:Nat)(v:Value)(es:LF)(f:Int)(r:VF)(q:w.cell? ⟨c,ho,none⟩=some v)(hf:w.frozen? ⟨c,ho,none⟩=false)(H:v.ownBlock≠some c)(C:Sl w 293 3 v es.length (Dr es))(U:es.length<=10000)(I:SrtI es)(X:∀x∈es,x.1≠f):
  Calls Tryz.prog 228 #[.pointer (some ⟨c,ho,none⟩),.int .i64 f,.agg #[.slice r.a r.l r.c,.int .i64 r.f]] w fun e w'=>e = .returned (.tuple #[])/\∃d es',w'.cell? ⟨c,ho,none⟩=some d/\Sl w' 293 3 d es'.length (Dr es')/\
   SrtI es'/\es'.length=es.length+1/\(∀x,x∈es'↔x=(f,r)\/x∈es)/\Dk w v d/\Zd7 w w' c ho v d:=by
 have B:c<w.heap.size:=World.block_lt_of_cell? _ _ q;have E:∀o,Below w.heap.size w (w.alloc o):=fun o=>(Below.refl _ _).alloc (Nat.le_refl _) o
 have R:=fun o=>Uw (w.alloc o) c ho v es f (((E o).cell (p:=⟨c,ho,none⟩) B).trans q) (Sl.of_owns (C.owns.alloc o)) U I
 go_enter Tryz.func228,Tryz.ntmps228;go_wp2_with fail;refine(R _).mono ?_;rintro e w1 ⟨i,b,rfl,u,P⟩;have ac:b=false:=by
  cases b with
  | false=>rfl
  | true=>obtain⟨r',ag⟩:=u.here;exact absurd rfl (X _ (List.mem_of_getElem? ag))
 subst ac;have y:Below (w.heap.size+1) (w.alloc (.cells #[.slice r.a r.l r.c,.int .i64 r.f] 217)) w1:=by simpa using P
 have l:Below w.heap.size w w1:=(E _).trans (y.mono (by omega));have q0:w1.cell? ⟨c,ho,none⟩=some v:=(l.cell (p:=⟨c,ho,none⟩) B).trans q;have z:∀j,w1.cell? ⟨w.heap.size,j,none⟩=(#[.slice r.a r.l r.c,.int .i64 r.f]:Array Value)[j]? := fun j=>(y.cell (p:=⟨w.heap.size,j,none⟩) (by simp)).trans (World.cell?_alloc_at _ _ _ _ rfl)
 have z0:w1.cell? ⟨w.heap.size,0,none⟩=some (.slice r.a r.l r.c):=z 0;have z1:w1.cell? ⟨w.heap.size,1,none⟩=some (.int .i64 r.f):=z 1;have ak:w.heap.size<w1.heap.size:=by have:=y.size;simp at this;omega
 have D:Sl w1 293 3 v es.length (Dr es):=C.kept (fun k G _=>l.block k G);have S:∀W:World,W.heap=(w1.alloc (.cells #[.int .i64 f,.slice r.a r.l r.c,.int .i64 r.f] 293)).heap->W.os=w1.os->W.tape=w1.tape->W.output=w1.output->Calls Tryz.prog 267 #[v,.int .i64 i,.slice (some ⟨w1.heap.size,0,none⟩) 1 1] W fun e w'=>∃m t n d,e = .returned (.slice m t n)/\d = .slice m t n/\
   (w'.cell? ⟨c,ho,none⟩=some v/\w'.frozen? ⟨c,ho,none⟩=false)/\Hid ((w'.setCell ⟨c,ho,none⟩ d).cell? ⟨c,ho,none⟩=some d/\Sl (w'.setCell ⟨c,ho,none⟩ d) 293 3 d (es.length+1) (Dr (es.take i++(f,r)::es.drop i))/\Zd7 w (w'.setCell ⟨c,ho,none⟩ d) c ho v d/\Dk w v d):=fun W A h1 h2 h3=>by
  have aa:Sl W 293 3 v es.length (Dr es):=(Sl.of_owns (D.owns.alloc _)).heap A;have hR:RowIs W w1.heap.size 293 (clI (f,r)):=by unfold RowIs;rw[A];exact heap_alloc_new w1 _
  refine(insEI W v es i (f,r) w1.heap.size aa u.1 U hR (fun e=>by have:=D.lt e;omega)).mono ?_;rintro e w' ⟨d,rfl,Q,s,af⟩;have ab:w.heap.size<=W.heap.size:=by rw[A];simp;omega
  have F:∀k,k<w.heap.size->v.ownBlock≠some k->w'.heap[k]?=w.heap[k]? := fun k G ae=>by
   rw[s.block k (by omega) (fun e=>ae e.symm),A,Below.heap_alloc _ _ _ (by omega),l.block k G]
  have V:Dk w v d:=fun g ad=>(af g ad).imp id (fun h=>by omega)
  obtain⟨K,L,M⟩:=Uy (ho:=ho) q H Q V (s.os.trans (h1.trans l.os)) (s.tape.trans (h2.trans l.tape)) (s.output.trans (h3.trans l.output)) (Nat.le_trans ab s.size) F;obtain⟨m,t,n,O⟩:=Q.shape;exact⟨m,t,n,d,by rw[O],O,⟨(World.cell?_of_block (w:=w) (a:=⟨c,ho,none⟩) (F c B H)).trans q,(World.frozen?_of_block (w:=w) (a:=⟨c,ho,none⟩) (F c B H)).trans hf⟩,K,L,M,V⟩
 have J:=Db (ZlD r I u);have T:(es.take i++(f,r)::es.drop i).length=es.length+1:=(Da J).2.1;have N:=Db T;have ah:c<w1.heap.size:=by omega
 have Z:=Db S;clear T z P u C D I X R E y l S;go_wp2
 go_region_with (go_at_call 267;refine(Da Z _ (by exact rfl) (by exact rfl) (by exact rfl) (by exact rfl)).mono ?_;rintro e w2 ⟨m,t,n,d,rfl,rfl,⟨ai,aj⟩,Y⟩)
 all_goals (
  go_end0
  obtain⟨K,L,M,m4⟩:=Da Y;exact⟨rfl,_,_,K,by rw[Da N];exact L,(Da J).1,Da N,(Da J).2.2,m4,M⟩)
end Go.Proofs.YtaieidcohdhgpaaGreatDoor
