/- Failed. -/
import Derived.RangeFuncNested
import Derived.RangeFuncBound
import Derived.Shelf.RegionOpen
import Derived.OwnWalkIn
import Derived.LoopNIn
import Derived.LoopIn
import Derived.Test.YtaieidcohdhgpaaGreatDoorSAG
namespace Go.Proofs.YtaieidcohdhgpaaGreatDoor
set_option maxHeartbeats 40000000
set_option maxRecDepth 100000
section
open Go.RowKit Go.Shelf
attribute [local go_sem] Oper.semAt_some
theorem Zct(w:World)(o:Obj):w.grownBy (w.alloc o) none:=⟨rfl,rfl,rfl,by simp,fun k a _=>Below.heap_alloc w o k a⟩
theorem Zdi{W a:World}(h:Below W.heap.size W a):KeepsOthers W a:=⟨h.size,fun k _o b _=>(h.block k (Array.getElem?_eq_some_iff.1 b).1).trans b⟩
theorem all1S(F:Fence)(n:Nat)(L:F.fn 222)(P:F.round=none)(hn:1<=n)(l t h A ho g C:Nat){α : Type}(a : α -> By×VS)(es:List α)(ab:es.length<=10000)(s:g<h)(J y:List α -> World->Prop)
  (W:World) (E:AbidesFrom W.heap.size J)
  (K:∀pre x W,J pre W->pre.length<es.length->YieldAt F (n-1) Tryz.prog l #[.string (a x).1,.agg #[.pointer (a x).2.p,.int .i64 (a x).2.f]] W fun e b=>
   (e = .returned (.bool true)/\J (pre++[x]) b/\Below h W b)\/(e = .returned (.bool false)/\y (pre++[x]) b))
  (aa:W.cell? ⟨t,0,none⟩=some (.pointer (some ⟨A,ho,none⟩))) (hc:W.cell? ⟨A,ho,none⟩=some (.slice (some ⟨g,0,none⟩) es.length C))
  (d:∀j u,(Dn (es.map a))[j]?=some u->W.cell? ⟨g,j,none⟩=some u) (O:h<=W.heap.size) (D:J [] W):
  CallsIn F n Tryz.prog 222 #[.func (.yield l) #[] #[],.pointer (some ⟨t,0,none⟩)] W fun e b=>(∃v,e = .returned v)/\
   ((∃ys,ys=es/\J ys b)\/(∃pre,pre <+: es/\y pre b)):=by
 refine callsIn_of_wp Tryz.func222 rfl L ?_ P;simp only[Tryz.ntmps222,List.size_toArray,List.length_cons,List.length_nil,Nat.reduceAdd,Nat.reduceSub,Array.replicate_succ,Array.replicate_zero,List.push_toArray,List.append_toArray,List.nil_append,List.cons_append]
 gi_wp2
 gi_loopw [10] (fun i wr=>∃k:Nat,k<=es.length/\i = .int .i64 k/\J (es.take k) wr/\Below h W wr)
  (fun i _=>es.length-(intOf i).toNat)
 case atStart=>exact⟨0,Nat.zero_le _,rfl,D,Below.refl _ _⟩
 case round=>
  obtain⟨k,hk,rfl,m,c⟩:=hrel;by_cases N:k<es.length
  ·obtain⟨x,f⟩:∃x,es[k]?=some x:=⟨_,List.getElem?_eq_getElem N⟩;have w:Hid (es.take (k+1)=es.take k++[x]):=by show _=_;rw[List.take_add_one,f];rfl
   have q:=Qv (es.map a) k (a x) (by rw[List.getElem?_map,f];rfl);have q0:=(c.cell (p:=⟨g,k*3,none⟩) s).trans (d _ _ q.1);have q1:=(c.cell (p:=⟨g,k*3+1,none⟩) s).trans (d _ _ q.2.1);have q2:=(c.cell (p:=⟨g,k*3+2,none⟩) s).trans (d _ _ q.2.2);have B:(es.take k).length<es.length:=by rw[List.length_take];omega
   have z:∀o,J (es.take k) (wr.alloc o):=fun o=>E _ _ _ none m (Zct wr o) (fun r e=>by cases e)
   obtain⟨fn,tmps,assign,body,hy,I⟩:=K _ x (wr.alloc (.cells #[.string (a x).1,.pointer (a x).2.p,.int .i64 (a x).2.f] 310)) (z _) B;have HX:=Db f;clear q f B z d
   gi_wp2
   refine I.mono ?_;rintro e W3 (⟨rfl,G,M⟩|⟨rfl,H⟩)
   ·gi_wp2
    go_roundw
    case rel=>exact⟨k+1,by omega,by go_num,by rw[Da w];exact G,(c.alloc (Nat.le_trans O c.size) _).trans M⟩
    case measure=>simp[intOf];omega
   ·gi_wp2
    refine bodyPost_ret (results_none rfl _ _ _) rfl ?_;exact⟨⟨_,rfl⟩,.inr ⟨_,by rw[<-Da w];exact List.take_prefix _ _,H⟩⟩
  ·obtain rfl:k=es.length:=by omega
   gi_wp2
   go_end0
   exact⟨⟨_,rfl⟩,.inl ⟨_,rfl,by rw[List.take_length]at m;exact m⟩⟩
theorem Zik(F:Fence)(n:Nat)(g:F.fn 222)(h:F.round=none)(l a b ho:Nat){α : Type}(J:List α -> World->Prop)(W:World)
  (aa:W.cell? ⟨a,0,none⟩=some (.pointer (some ⟨b,ho,none⟩))) (hc:W.cell? ⟨b,ho,none⟩=some (.slice none 0 0)) (d:J [] W):
  CallsIn F n Tryz.prog 222 #[.func (.yield l) #[] #[],.pointer (some ⟨a,0,none⟩)] W fun e c=>(∃v,e = .returned v)/\J [] c:=by
 refine callsIn_of_wp Tryz.func222 rfl g ?_ h;simp only[Tryz.ntmps222,List.size_toArray,List.length_cons,List.length_nil,Nat.reduceAdd,Nat.reduceSub,Array.replicate_succ,Array.replicate_zero,List.push_toArray,List.append_toArray,List.nil_append,List.cons_append]
 gi_wp2
 gi_loopw [10] (fun i wr=>i = .int .i64 0/\J [] wr) (fun _ _=>0)
 case atStart=>exact⟨rfl,d⟩
 case round=>
  obtain⟨rfl,f⟩:=hrel
  gi_wp2
  go_end0
  exact⟨⟨_,rfl⟩,f⟩
theorem Zja(F:Fence)(n:Nat)(b:F.fn 179)(c:F.round=none)(a:OA)(w:World):
  CallsIn F n Tryz.prog 179 #[.pointer a] w fun e w'=>e = .returned (.func (.func 222) #[] #[.pointer (some ⟨w.heap.size,0,none⟩)])/\w'=w.alloc (.cells #[.pointer a] 307):=by
 refine callsIn_of_wp Tryz.func179 rfl b ?_ c;simp only[Tryz.ntmps179,List.size_toArray,List.length_cons,List.length_nil,Nat.reduceAdd,Nat.reduceSub,Array.replicate_succ,Array.replicate_zero,List.push_toArray,List.append_toArray,List.nil_append,List.cons_append]
 gi_wp2
 go_ret;exact⟨rfl,rfl⟩
theorem Zgx(F:Fence)(n:Nat)(r:F.fn 222)(s:F.round=none)(L:1<=n)(a h b ho:Nat)(v:Value){α : Type}(c : α -> By×VS)(es:List α)(I:es.length<=10000)(w:World)(A:a<w.heap.size)(G:b<w.heap.size)(M:h<=w.heap.size)
  (z:w.cell? ⟨a,0,none⟩=some (.pointer (some ⟨b,ho,none⟩))) (H:w.cell? ⟨b,ho,none⟩=some v) (C:Sl w 310 3 v es.length (Dn (es.map c))) (N:∀g,v.ownBlock=some g->g<h):
  SeqStopsK F n Tryz.prog 222 #[.pointer (some ⟨a,0,none⟩)] (fun x : α => #[.string (c x).1,.agg #[.pointer (c x).2.p,.int .i64 (c x).2.f]]) (Below h) (fun P=>P=es) (fun O=>O <+: es) es.length w:=fun l J t W d B _ E k=>by
 have m:=(d.cell (p:=⟨a,0,none⟩) A).trans z;have q:=(d.cell (p:=⟨b,ho,none⟩) G).trans H;rcases C.2 with⟨rfl,i⟩|⟨g,y,R,rfl,o,_,_,_,D⟩
 ·obtain rfl:es=[]:=List.eq_nil_of_length_eq_zero i;exact(Zik F n r s l a b ho J W m q k).mono fun e W' ⟨i,K⟩=>⟨i,.inl ⟨_,rfl,K⟩⟩
 ·exact all1S F n r s L l a h b ho g y c es I (N g rfl) J t W B E m q (fun j u f=>by
   rw[d.cell (p:=⟨g,j,none⟩) o.lt,o.cell];rw[<-D,List.getElem?_take]at f
   split at f
   ·exact f
   ·cases f) (Nat.le_trans M d.size) k
theorem all1I(F:Fence)(n:Nat)(L:F.fn 204)(P:F.round=none)(hn:1<=n)(l t h A ho g C:Nat){α : Type}(a : α -> Int×VF)(es:List α)(ab:es.length<=10000)(s:g<h)(J y:List α -> World->Prop)
  (W:World) (E:AbidesFrom W.heap.size J)
  (K:∀pre x W,J pre W->pre.length<es.length->YieldAt F (n-1) Tryz.prog l #[.int .i64 (a x).1,.agg #[.slice (a x).2.a (a x).2.l (a x).2.c,.int .i64 (a x).2.f]] W fun e b=>
   (e = .returned (.bool true)/\J (pre++[x]) b/\Below h W b)\/(e = .returned (.bool false)/\y (pre++[x]) b))
  (aa:W.cell? ⟨t,0,none⟩=some (.pointer (some ⟨A,ho,none⟩))) (hc:W.cell? ⟨A,ho,none⟩=some (.slice (some ⟨g,0,none⟩) es.length C))
  (d:∀j u,(Dr (es.map a))[j]?=some u->W.cell? ⟨g,j,none⟩=some u) (O:h<=W.heap.size) (D:J [] W):
  CallsIn F n Tryz.prog 204 #[.func (.yield l) #[] #[],.pointer (some ⟨t,0,none⟩)] W fun e b=>(∃v,e = .returned v)/\
   ((∃ys,ys=es/\J ys b)\/(∃pre,pre <+: es/\y pre b)):=by
 refine callsIn_of_wp Tryz.func204 rfl L ?_ P;simp only[Tryz.ntmps204,List.size_toArray,List.length_cons,List.length_nil,Nat.reduceAdd,Nat.reduceSub,Array.replicate_succ,Array.replicate_zero,List.push_toArray,List.append_toArray,List.nil_append,List.cons_append]
 gi_wp2
 gi_loopw [10] (fun i wr=>∃k:Nat,k<=es.length/\i = .int .i64 k/\J (es.take k) wr/\Below h W wr)
  (fun i _=>es.length-(intOf i).toNat)
 case atStart=>exact⟨0,Nat.zero_le _,rfl,D,Below.refl _ _⟩
 case round=>
  obtain⟨k,hk,rfl,m,c⟩:=hrel;by_cases N:k<es.length
  ·obtain⟨x,f⟩:∃x,es[k]?=some x:=⟨_,List.getElem?_eq_getElem N⟩;have w:Hid (es.take (k+1)=es.take k++[x]):=by show _=_;rw[List.take_add_one,f];rfl
   have q:=Qu (es.map a) k (a x) (by rw[List.getElem?_map,f];rfl);have q0:=(c.cell (p:=⟨g,k*3,none⟩) s).trans (d _ _ q.1);have q1:=(c.cell (p:=⟨g,k*3+1,none⟩) s).trans (d _ _ q.2.1);have q2:=(c.cell (p:=⟨g,k*3+2,none⟩) s).trans (d _ _ q.2.2);have B:(es.take k).length<es.length:=by rw[List.length_take];omega
   have z:∀o,J (es.take k) (wr.alloc o):=fun o=>E _ _ _ none m (Zct wr o) (fun r e=>by cases e)
   obtain⟨fn,tmps,assign,body,hy,I⟩:=K _ x (wr.alloc (.cells #[.int .i64 (a x).1,.slice (a x).2.a (a x).2.l (a x).2.c,.int .i64 (a x).2.f] 293)) (z _) B;have HX:=Db f;clear q f B z d
   gi_wp2
   refine I.mono ?_;rintro e W3 (⟨rfl,G,M⟩|⟨rfl,H⟩)
   ·gi_wp2
    go_roundw
    case rel=>exact⟨k+1,by omega,by go_num,by rw[Da w];exact G,(c.alloc (Nat.le_trans O c.size) _).trans M⟩
    case measure=>simp[intOf];omega
   ·gi_wp2
    refine bodyPost_ret (results_none rfl _ _ _) rfl ?_;exact⟨⟨_,rfl⟩,.inr ⟨_,by rw[<-Da w];exact List.take_prefix _ _,H⟩⟩
  ·obtain rfl:k=es.length:=by omega
   gi_wp2
   go_end0
   exact⟨⟨_,rfl⟩,.inl ⟨_,rfl,by rw[List.take_length]at m;exact m⟩⟩
theorem Zmk(F:Fence)(n:Nat)(g:F.fn 204)(h:F.round=none)(l a b ho:Nat){α : Type}(J:List α -> World->Prop)(W:World)
  (aa:W.cell? ⟨a,0,none⟩=some (.pointer (some ⟨b,ho,none⟩))) (hc:W.cell? ⟨b,ho,none⟩=some (.slice none 0 0)) (d:J [] W):
  CallsIn F n Tryz.prog 204 #[.func (.yield l) #[] #[],.pointer (some ⟨a,0,none⟩)] W fun e c=>(∃v,e = .returned v)/\J [] c:=by
 refine callsIn_of_wp Tryz.func204 rfl g ?_ h;simp only[Tryz.ntmps204,List.size_toArray,List.length_cons,List.length_nil,Nat.reduceAdd,Nat.reduceSub,Array.replicate_succ,Array.replicate_zero,List.push_toArray,List.append_toArray,List.nil_append,List.cons_append]
 gi_wp2
 gi_loopw [10] (fun i wr=>i = .int .i64 0/\J [] wr) (fun _ _=>0)
 case atStart=>exact⟨rfl,d⟩
 case round=>
  obtain⟨rfl,f⟩:=hrel
  gi_wp2
  go_end0
  exact⟨⟨_,rfl⟩,f⟩
theorem Zmi(F:Fence)(n:Nat)(b:F.fn 145)(c:F.round=none)(a:OA)(w:World):
  CallsIn F n Tryz.prog 145 #[.pointer a] w fun e w'=>e = .returned (.func (.func 204) #[] #[.pointer (some ⟨w.heap.size,0,none⟩)])/\w'=w.alloc (.cells #[.pointer a] 290):=by
 refine callsIn_of_wp Tryz.func145 rfl b ?_ c;simp only[Tryz.ntmps145,List.size_toArray,List.length_cons,List.length_nil,Nat.reduceAdd,Nat.reduceSub,Array.replicate_succ,Array.replicate_zero,List.push_toArray,List.append_toArray,List.nil_append,List.cons_append]
 gi_wp2
 go_ret;exact⟨rfl,rfl⟩
theorem Zgy(F:Fence)(n:Nat)(r:F.fn 204)(s:F.round=none)(L:1<=n)(b h c ho:Nat)(v:Value){α : Type}(a : α -> Int×VF)(es:List α)(I:es.length<=10000)(w:World)(A:b<w.heap.size)(G:c<w.heap.size)(M:h<=w.heap.size)
  (z:w.cell? ⟨b,0,none⟩=some (.pointer (some ⟨c,ho,none⟩))) (H:w.cell? ⟨c,ho,none⟩=some v) (C:Sl w 293 3 v es.length (Dr (es.map a))) (N:∀g,v.ownBlock=some g->g<h):
  SeqStopsK F n Tryz.prog 204 #[.pointer (some ⟨b,0,none⟩)] (fun x : α => #[.int .i64 (a x).1,.agg #[.slice (a x).2.a (a x).2.l (a x).2.c,.int .i64 (a x).2.f]]) (Below h) (fun P=>P=es) (fun O=>O <+: es) es.length w:=fun l J t W d B _ E k=>by
 have m:=(d.cell (p:=⟨b,0,none⟩) A).trans z;have q:=(d.cell (p:=⟨c,ho,none⟩) G).trans H;rcases C.2 with⟨rfl,i⟩|⟨g,y,R,rfl,o,_,_,_,D⟩
 ·obtain rfl:es=[]:=List.eq_nil_of_length_eq_zero i;exact(Zmk F n r s l b c ho J W m q k).mono fun e W' ⟨i,K⟩=>⟨i,.inl ⟨_,rfl,K⟩⟩
 ·exact all1I F n r s L l b h c ho g y a es I (N g rfl) J t W B E m q (fun j u f=>by
   rw[d.cell (p:=⟨g,j,none⟩) o.lt,o.cell];rw[<-D,List.getElem?_take]at f
   split at f
   ·exact f
   ·cases f) (Nat.le_trans M d.size) k
end
section
open Go.RowKit Go.Shelf
attribute [local go_sem] Oper.semAt_some
theorem Un{β : Type}(B:Nat)(t:TypeId)(f : β -> LVa):Own (fun s W=>RowIs W B t (f s)):=fun s X Y row a d e=>
 a.kept d (fun b=>by obtain⟨o,ho,c⟩:=e B b.symm;rw[show X.heap[B]? = _ from a]at ho;cases ho;cases c)
theorem Jd(w:World)(L:LVa)(e:TypeId):RowIs (w.alloc (.cells L.toArray e)) w.heap.size e L:=World.alloc_heap_new w _
def DO(l:List Nat):Nat:=(l.map (fun n=>(n+63)/64)).sum
theorem ZkH(l:List Nat)(n:Nat):DO (l++[n])=DO l+(n+63)/64:=by simp[DO]
theorem ZkI(l:List Nat)(h:∀n∈l,n<=2000000):DO l<=l.length*40000:=by
 induction l with
 | nil=>simp[DO]
 | cons a l ih=>
  have h1:=ih (fun n c=>h n (by simp[c]));have h2:=h a (by simp);have b:DO (a::l)=(a+63)/64+DO l:=by simp[DO]
  rw[b,List.length_cons];omega
theorem Zea(w:World)(tb:Nat)(T m:Value)(I:LF)(G:RowIs w tb 214 [T,m])(B:Sl w 293 3 m I.length (Dr I))(v:I.length<=10000)(E:∀x∈I,x.2.l<=2000000):
  Calls Tryz.prog 82 #[.pointer (some ⟨tb,0,none⟩)] w fun e w'=>e = .returned (.int .i64 (DO (I.map (·.2.l)):Nat))/\Below w.heap.size w w':=by
 refine(callsIn_wide (n:=3)).1 ?_;refine callsIn_of_wp_marks Tryz.func82 rfl trivial ?_ rfl;simp only[Tryz.ntmps82,List.size_toArray,List.length_cons,List.length_nil,Nat.reduceAdd,Nat.reduceSub,Array.replicate_succ,Array.replicate_zero,List.push_toArray,List.append_toArray,List.nil_append,List.cons_append]
 gi_wp2_with (refine⟨trivial,?_⟩;gi_at_call 145;refine(Zmi _ _ trivial rfl _ _).mono ?_;rintro e w' ⟨rfl,rfl⟩)
 obtain⟨a,j⟩:∃a,(w.alloc (Obj.cells #[Value.int IntKind.i64 0] 3)).alloc (Obj.cells #[Value.pointer (some { block:=tb,off:=1 })] 290)=a:=⟨_,rfl⟩;rw[j];have ad:a.heap.size=w.heap.size+2:=by rw[<-j];simp
 have t:Below w.heap.size w a:=by rw[<-j];exact((Below.refl _ w).alloc (Nat.le_refl _) _).alloc (by simp) _
 have M:Boxed a w.heap.size 3 (.int .i64 0):=by rw[<-j];exact(Boxed.new w 3 _).alloc _
 have N:Boxed a (w.heap.size+1) 290 (.pointer (some ⟨tb,1,none⟩)):=by rw[<-j];have:=Boxed.new (w.alloc (Obj.cells #[Value.int IntKind.i64 0] 3)) 290 (.pointer (some ⟨tb,1,none⟩));simpa using this
 have S:tb<w.heap.size:=G.lt;have L:Sl a 293 3 m I.length (Dr I):=B.kept (fun k Q _=>t.block k Q);have P:a.cell? ⟨tb,1,none⟩=some m:=(t.cell (p:=⟨tb,1,none⟩) S).trans (G.cell 1);have C:I.attach.map (fun x=>x.1)=I:=List.attach_map_subtype_val I;clear j;refine wpIn_rangeFunc_ownH (α := { x // x∈I }) rfl (by omega) (gf:=204) (lb := #[.pointer (some ⟨w.heap.size+1,0,none⟩)]) rfl trivial (enters_of Tryz.func204 (by kernel_rfl) rfl)
  (Zgy Fence.wide 2 trivial rfl (by omega) (w.heap.size+1) w.heap.size tb 1 m (fun x=>x.1) I.attach (by simpa using v) a (by omega) (by omega) (by omega) N.cell P (by rw[C];simpa using L) (fun g u=>B.lt u))
  belowK_t (belowK_b (by omega)) (Below.refl _ _) (fun _=>rfl)
  (fun b W=>Boxed W w.heap.size 3 (.int .i64 (DO (b.map (·.1.2.l)):Nat))/\Below w.heap.size w W)
  (fun _ _ _=>False)
  (OwnFrom.and (Own.from (boxed_own _ _ _) _) (ownFrom_below (Nat.le_refl _) (by omega)))
  (fun _ _ _ _ _ z _ _=>z)
  ⟨M,t⟩
  (fun x q W=>∃f,w.heap.size<f/\RowIs W f 217 [.slice x.1.2.a x.1.2.l x.1.2.c,.int .i64 x.1.2.f]/\q={ tmps := #[.pointer (some ⟨tb,0,none⟩),undef,.int .i64 0,.pointer (some ⟨w.heap.size,0,none⟩),undef,.pointer (some ⟨f,0,none⟩),.pointer (some ⟨tb,0,none⟩),.pointer (some ⟨tb,0,none⟩),.pointer (some ⟨tb,1,none⟩),.func (.func 204) #[] #[.pointer (some ⟨w.heap.size+1,0,none⟩)],.int .i64 x.1.1,.agg #[.slice x.1.2.a x.1.2.l x.1.2.c,.int .i64 x.1.2.f],undef,undef,undef,undef,undef,undef,undef,undef,undef],defers:=[] })
  (fun x q _ X Y row z u F=>by
   obtain⟨f,s,A,J⟩:=z;exact⟨f,s,(Un (β := Unit) f 217 (fun _=>_)).from _ () X Y row A u F,J⟩)
  ?assign ?body ?done ?stop
 case assign=>
  rintro l b x W K ⟨d,i⟩ o
  gi_wp2
  refine o _ _ ((KeepsOthers.alloc _ _).from _) ((Below.refl _ W).alloc i.size _) ⟨d.alloc _,i.alloc i.size _⟩ ⟨W.heap.size,d.lt,Jd W _ _,rfl⟩
 case body=>
  rintro l b x q W ab ⟨r,F⟩ ⟨d,i⟩ ⟨f,aa,H,rfl⟩ R;have hx:=E x.1 x.2;have O:=d.cell;have hf:=d.frozen;have x0:=H.cell 0;have ac:DO (b.map (·.1.2.l))<=10000*40000:=by
   have s:=ZkI (b.map (·.1.2.l)) (fun n v=>by obtain⟨y,hy,e⟩:=List.mem_map.1 v;rw[<-e];exact E _ y.2);rw[List.length_map]at s;have A:b.length<I.length:=by simpa using R
   omega
  gi_wp2
  have e:((DO (b.map (·.1.2.l)):Nat):Int)+((x.1.2.l:Int)+64-1)/64=((DO ((b++[x]).map (·.1.2.l)):Nat):Int):=by
   rw[List.map_append,List.map_cons,List.map_nil,ZkH];omega
  exact⟨(KeepsOthers.setCell _ _ _).from _,(Below.refl w.heap.size W).setCell (p:=⟨w.heap.size,0,none⟩) (Nat.le_refl _) _,by rw[e];exact d.set _,i.setCell (p:=⟨w.heap.size,0,none⟩) (Nat.le_refl _) _⟩
 case done=>
  rintro D ys W hD rfl ⟨d,i⟩ o;have O:=d.cell
  gi_wp2
  refine⟨by simp,.inl ⟨_,_,rfl,run_takeDeferred o,?_⟩⟩;exact⟨_,results_tmp rfl _ _ _,by
   have:I.attach.map (fun x=>x.1.2.l)=I.map (fun x=>x.2.l):=by
    have:=congrArg (List.map (fun x:Int×VF=>x.2.l)) C;rw[List.map_map]at this;exact this
   rw[<-this];rfl,i.trans (belowK_b (w:=w) (Nat.le_refl _) W D _ _ (by omega) o rfl rfl)⟩
 case stop=>
  rintro D c b W _ _ h _;exact h.elim
theorem ZlO(w:World)(tb:Nat)(rp A:Value)(I:LF)(O:RowIs w tb 214 [rp,A])(L:Sl w 293 3 A I.length (Dr I))(hn:I.length<=10000)(P:SrtI I)(Q:∀x∈I,0<=x.1):
  Calls Tryz.prog 186 #[.pointer (some ⟨tb,0,none⟩)] w fun e w'=>∃f:Nat,e = .returned (.int .i64 f)/\f<=I.length/\(∀x∈I,x.1≠f)/\Below w.heap.size w w':=by
 refine(callsIn_wide (n:=3)).1 ?_;refine callsIn_of_wp_marks Tryz.func186 rfl trivial ?_ rfl;simp only[Tryz.ntmps186,List.size_toArray,List.length_cons,List.length_nil,Nat.reduceAdd,Nat.reduceSub,Array.replicate_succ,Array.replicate_zero,List.push_toArray,List.append_toArray,List.nil_append,List.cons_append]
 gi_wp2_with (refine⟨trivial,?_⟩;gi_at_call 145;refine(Zmi _ _ trivial rfl _ _).mono ?_;rintro e w' ⟨rfl,rfl⟩)
 obtain⟨b,s⟩:∃b,(w.alloc (Obj.cells #[Value.int IntKind.i64 0] 3)).alloc (Obj.cells #[Value.pointer (some { block:=tb,off:=1 })] 290)=b:=⟨_,rfl⟩;rw[s];have af:b.heap.size=w.heap.size+2:=by rw[<-s];simp
 have J:Below w.heap.size w b:=by rw[<-s];exact((Below.refl _ w).alloc (Nat.le_refl _) _).alloc (by simp) _
 have U:Boxed b w.heap.size 3 (.int .i64 0):=by rw[<-s];exact(Boxed.new w 3 _).alloc _
 have V:Boxed b (w.heap.size+1) 290 (.pointer (some ⟨tb,1,none⟩)):=by rw[<-s];have:=Boxed.new (w.alloc (Obj.cells #[Value.int IntKind.i64 0] 3)) 290 (.pointer (some ⟨tb,1,none⟩));simpa using this
 have ac:tb<w.heap.size:=O.lt;have T:Sl b 293 3 A I.length (Dr I):=L.kept (fun k o _=>J.block k o);have Y:b.cell? ⟨tb,1,none⟩=some A:=(J.cell (p:=⟨tb,1,none⟩) ac).trans (O.cell 1);have X:I.map (fun x=>x)=I:=List.map_id I;clear s;refine wpIn_rangeFunc_ownF rfl (by omega) (gf:=204) (lb := #[.pointer (some ⟨w.heap.size+1,0,none⟩)]) rfl trivial (enters_of Tryz.func204 (by kernel_rfl) rfl)
  (Zgy Fence.wide 2 trivial rfl (by omega) (w.heap.size+1) w.heap.size tb 1 A (fun x=>x) I (by simpa using hn) b (by omega) (by omega) (by omega) V.cell Y (by rw[X];exact T) (fun g Z=>L.lt Z))
  belowK_t (belowK_b (by omega)) (Below.refl _ _) (fun _=>rfl)
  (fun a W=>(Boxed W w.heap.size 3 (.int .i64 (a.length:Nat))/\Below w.heap.size w W)/\∀(j:Nat) (y:Int×VF),a[j]?=some y->y.1=j)
  (fun c a W=>(Boxed W w.heap.size 3 (.int .i64 ((a.length-1:Nat):Int))/\Below w.heap.size w W)/\c = .exit 0/\(∃y,a[a.length-1]?=some y/\y.1≠(a.length-1:Nat))/\∀(j:Nat) (y:Int×VF),j<a.length-1->a[j]?=some y->y.1=j)
  (OwnFrom.and (OwnFrom.and (Own.from (boxed_own _ _ _) _) (ownFrom_below (Nat.le_refl _) (by omega))) (ownFrom_pure _ _))
  (fun c=>OwnFrom.and (OwnFrom.and (Own.from (boxed_own _ _ _) _) (ownFrom_below (Nat.le_refl _) (by omega))) (ownFrom_pure _ _))
  ⟨⟨U,J⟩,fun j y h=>by simp at h⟩
  (fun x=>{ tmps := #[.pointer (some ⟨tb,0,none⟩),undef,.int .i64 0,.pointer (some ⟨w.heap.size,0,none⟩),.int .i64 x.1,.pointer (some ⟨tb,0,none⟩),.pointer (some ⟨tb,0,none⟩),.pointer (some ⟨tb,1,none⟩),.func (.func 204) #[] #[.pointer (some ⟨w.heap.size+1,0,none⟩)],.int .i64 x.1,.agg #[.slice x.2.a x.2.l x.2.c,.int .i64 x.2.f],undef,undef,undef,undef,undef,undef],defers:=[] })
  ?assign ?body ?done ?stop
 case assign=>
  intro l x W K q
  gi_wp2
  exact q
 case body=>
  rintro l a x W ⟨⟨d,r⟩,o⟩ ab;have M:=d.cell;have hf:=d.frozen;by_cases u:x.1=(a.length:Nat)
  ·gi_wp2
   refine⟨(KeepsOthers.setCell _ _ _),(Below.refl w.heap.size W).setCell (p:=⟨w.heap.size,0,none⟩) (Nat.le_refl _) _,⟨by rw[List.length_append];exact d.set _,r.setCell (p:=⟨w.heap.size,0,none⟩) (Nat.le_refl _) _⟩,fun j y h=>?_⟩;rw[List.getElem?_append]at h
   split at h
   ·exact o j y h
   ·rename_i m;have:j-a.length=0:=by
     rcases Nat.eq_zero_or_pos (j-a.length) with e|e
     ·exact e
     ·rw[List.getElem?_eq_none (by simp;omega)]at h;cases h
    rw[this]at h;simp at h;rw[<-h,u];omega
  ·gi_wp2
   refine⟨KeepsOthers.refl _,⟨by rw[List.length_append];exact d,r⟩,rfl,⟨x,by simp,by simpa using u⟩,fun j y m h=>?_⟩;rw[List.getElem?_append_left (by simpa using m)]at h;exact o j y h
 case done=>
  rintro D ys W S rfl ⟨⟨d,r⟩,o⟩ q;have M:=d.cell
  gi_wp2
  refine⟨by simp,.inl ⟨_,_,rfl,run_takeDeferred q,?_⟩⟩;refine⟨_,results_tmp rfl _ _ _,_,rfl,Nat.le_refl _,fun x u e=>?_,r.trans (belowK_b (w:=w) (Nat.le_refl _) W D _ _ (by omega) q rfl rfl)⟩;obtain⟨j,m⟩:=List.getElem?_of_mem u;have G:=o j x m;have H:=(List.getElem?_eq_some_iff.1 m).1;omega
 case stop=>
  rintro D c a W S N ⟨⟨d,r⟩,rfl,⟨y,E,ad⟩,o⟩ q;have M:=d.cell
  gi_wp2
  refine⟨by simp,.inl ⟨_,_,rfl,run_takeDeferred q,?_⟩⟩;have ae:=N.length_le;have ab:=(List.getElem?_eq_some_iff.1 E).1;refine⟨_,results_tmp rfl _ _ _,_,rfl,by omega,fun x u e=>?_,r.trans (belowK_b (w:=w) (Nat.le_refl _) W D _ _ (by omega) q rfl rfl)⟩;obtain⟨i,B⟩:=List.getElem?_of_mem u;have C:∀j,j<a.length->I[j]?=a[j]? := fun j m=>by
   obtain⟨t,rfl⟩:=N;rw[List.getElem?_append_left m]
  have aa:∀(j:Nat) (z:Int×VF),I[j]?=some z->(j:Int)<=z.1:=by
   intro j
   induction j with
   | zero=>intro z F;exact Q z (List.mem_of_getElem? F)
   | succ j ih=>
    intro z F;have m:=(List.getElem?_eq_some_iff.1 F).1;have G:=ih I[j] (List.getElem?_eq_getElem (by omega));have H:=P j (j+1) I[j] z (by omega) (List.getElem?_eq_getElem (by omega)) F;have R:I[j].1<z.1:=of_decide_eq_true H;omega
  rcases Nat.lt_trichotomy i (a.length-1) with v|v|v
  ·have:=o i x v (by rw[<-C i (by omega)];exact B);omega
  ·rw[v,C _ (by omega),E]at B
   cases B;exact ad e
  ·have G:=P (a.length-1) i y x v (by rw[C _ (by omega)];exact E) B;have H:y.1<x.1:=of_decide_eq_true G;have R:=aa _ y (by rw[C (a.length-1) (by omega)];exact E);omega
end
open Go.RowKit
def IsDir(G:Gh)(rd:Nat)(ns:LY)(b:Nat):Prop:=(ns=[]/\b=rd)\/(ns,(⟨some ⟨b,0,none⟩,0⟩:VS))∈G
structure DirW(w:World)(G:Gh)(rd:Nat)(V:NV)(E:NS):Prop where
 shp:∀x∈G,x.2.p=none\/∃b,x.2=⟨some ⟨b,0,none⟩,0⟩
 row:∀ns b,IsDir G rd ns b->RowIs w b 229 [V b]
 sl:∀ns b,IsDir G rd ns b->Sl w 310 3 (V b) (E b).length (Dn (E b))
 srt:∀ns b,IsDir G rd ns b->SrtS (E b)
 en:∀ns b,IsDir G rd ns b->EnOk G ns (E b)
 inj:∀ns ns' b,IsDir G rd ns b->IsDir G rd ns' b->ns=ns'
 own:∀ns ns' b b' g,IsDir G rd ns b->IsDir G rd ns' b'->(V b).ownBlock=some g->(V b').ownBlock=some g->b=b'
 lo:∀ns b,IsDir G rd ns b->rd<=b/\∀g,(V b).ownBlock=some g->rd<=g
theorem DirW.fr{X:Nat->Prop}{w w':World}{G:Gh}{f:Nat}{V:NV}{E:NS}(h:DirW w G f V E)(d:Fr X w w')(c:∀k t R,X k->RowIs w k t R->t≠229/\t≠310):DirW w' G f V E:=
 ⟨h.shp,fun ns b a=>(h.row ns b a).fr d (fun e=>(c _ _ _ e (h.row ns b a)).1 rfl),
  fun ns b a=>(h.sl ns b a).fr d (fun g j e=>by obtain⟨R,i⟩:=(h.sl ns b a).type j;exact(c _ _ _ e i).2 rfl),
  h.srt,h.en,h.inj,h.own,h.lo⟩
theorem DirW.below{w w':World}{G:Gh}{a:Nat}{V:NV}{E:NS}(h:DirW w G a V E){B:Nat}(c:Below B w w')(b:w.heap.size<=B):DirW w' G a V E:=
 h.fr (X:=fun _=>False) (Fr.of_below (c.mono b)) (fun _ _ _ e=>e.elim)
theorem DirW.len{w:World}{G:Gh}{c:Nat}{V:NV}{E:NS}(h:DirW w G c V E)(d:GOk G){ns:LY}{b:Nat}(a:IsDir G c ns b):(E b).length=G.countP (qIn ns):=(h.en ns b a).length d (h.srt ns b a)
theorem DirW.le{w:World}{G:Gh}{a:Nat}{V:NV}{E:NS}(h:DirW w G a V E)(c:GOk G){ns:LY}{b:Nat}(d:IsDir G a ns b):(E b).length<=G.length:=by
 rw[h.len c d];exact List.countP_le_length
theorem DirW.sub{w:World}{G:Gh}{c:Nat}{V:NV}{E:NS}(h:DirW w G c V E){ns:LY}{b:Nat}(g:IsDir G c ns b){x:By×VS}(i:x∈E b):
  x.2.p=none\/∃a,x.2=⟨some ⟨a,0,none⟩,0⟩/\IsDir G c (ns++[x.1]) a:=by
 have d:=(h.en ns b g x.1 x.2).1 i;rcases h.shp _ d with f|⟨a,e⟩
 ·exact .inl f
 ·exact .inr ⟨a,e,.inr (by rw[<-e];exact d)⟩
def fD(G:Gh)(ns:LY)(x:By×VS):Nat:=if x.2.p.isSome=true then cD G (ns++[x.1]) else 0
def fE(G:Gh)(ns:LY)(x:By×VS):Nat:=if x.2.p.isSome=true then cE G (ns++[x.1]) else 0
def Jh(f:By×VS->Nat)(l:LS):Nat:=(l.map f).sum
theorem ZdB(f:By×VS->Nat)(l:LS)(x:By×VS):Jh f (l++[x])=Jh f l+f x:=by simp[Jh]
theorem ZkO(f:By×VS->Nat)(m:Nat)(c:∀x,f x<=m)(l:LS):Jh f l<=l.length*m:=by
 induction l with
 | nil=>simp[Jh]
 | cons a l ih=>
  have b:Jh f (a::l)=f a+Jh f l:=by simp[Jh]
  have:=c a;rw[b,List.length_cons,Nat.add_mul];omega
theorem ZoN(G:Gh)(ns:LY):cD G ns<=1+G.length:=by
 unfold cD;exact Nat.add_le_add_left List.countP_le_length 1
theorem cE_le(G:Gh)(ns:LY):cE G ns<=G.length:=by unfold cE;exact List.countP_le_length
theorem fD_le(G:Gh)(ns:LY)(x:By×VS):fD G ns x<=1+G.length:=by
 unfold fD;split
 ·exact ZoN _ _
 ·omega
theorem fE_le(G:Gh)(ns:LY)(x:By×VS):fE G ns x<=G.length:=by
 unfold fE;split
 ·exact cE_le _ _
 ·omega
theorem Zmz{G:Gh}(b:GOk G){ns:LY}{es:LS}(f:SrtS es)(d:EnOk G ns es):∀k,k<=es.length->
  Ki G (fun x=>x.2.p.isSome) ns (Kf (es.take k))=Jh (fD G ns) (es.take k)/\Ki G (fun _=>true) ns (Kf (es.take k))=k+Jh (fE G ns) (es.take k):=by
 intro k
 induction k with
 | zero=>
  intro _;have:∀r,Ki G r ns []=0:=fun r=>by unfold Ki;rw[List.countP_eq_zero];intro x _;simp
  simp[Kf,Jh,this]
 | succ k ih=>
  intro hk;obtain⟨h,i⟩:=ih (by omega);have c:k<es.length:=by omega
  have g:es.take (k+1)=es.take k++[es[k]]:=by rw[List.take_add_one,List.getElem?_eq_getElem c];rfl
  have e:=(d es[k].1 es[k].2).1 (List.getElem_mem c);rw[ZjJ b _ f d k c,ZjJ b _ f d k c,h,i,g,ZdB,ZdB];unfold fD fE cD cE
  cases hp:es[k].2.p with
  | none=>
   rw[Zgv b (fun x=>x.2.p.isSome) e hp,Zgv b (fun _=>true) e hp];simp;omega
  | some a=>simp;omega
theorem ZnX{G:Gh}(c:GOk G){ns:LY}{es:LS}(e:SrtS es)(d:EnOk G ns es):1+Jh (fD G ns) es=cD G ns/\es.length+Jh (fE G ns) es=cE G ns:=by
 obtain⟨a,b⟩:=Zmz c e d es.length (Nat.le_refl _);rw[List.take_length,Znc c _ d]at a b;exact⟨by rw[<-a];rfl,by rw[<-b];rfl⟩
section
open Go.RowKit Go.Shelf
attribute [local go_sem] Oper.semAt_some
theorem Zgp(G:Gh)(hG:GOk G)(ah:G.length<=10000)(N:Nat)(V:NV)(E:NS)(ns:LY)(b:Nat)(u:IsDir G N ns b)
  (an:∀x F w,x∈E b->IsDir G N (ns++[x.1]) F->DirW w G N V E->Calls Tryz.prog 143 #[.pointer (some ⟨F,0,none⟩)] w fun e w'=>e = .returned (.tuple #[.int .i64 (cD G (ns++[x.1]):Nat),.int .i64 (cE G (ns++[x.1]):Nat)])/\Below w.heap.size w w')
  (w:World) (h:DirW w G N V E):
  Calls Tryz.prog 143 #[.pointer (some ⟨b,0,none⟩)] w fun e w'=>e = .returned (.tuple #[.int .i64 (cD G ns:Nat),.int .i64 (cE G ns:Nat)])/\Below w.heap.size w w':=by
 have hS:=h.sl ns b u;have aE:=h.le hG u;have ao:=h.row ns b u;have hc:=ao.cell 0;have ak:b<w.heap.size:=ao.lt;have am:=fun (W:World) (hb:Below w.heap.size w W)=>lenS W b 0 (V b) (E b).length (Dn (E b)) ((hb.cell (p:=⟨b,0,none⟩) ak).trans hc) (hS.kept (fun k hk _=>hb.block k hk))
 have af:=Db am;clear am;refine(callsIn_wide (n:=3)).1 ?_;refine callsIn_of_wp_marks Tryz.func143 rfl trivial ?_ rfl;simp only[Tryz.ntmps143,List.size_toArray,List.length_cons,List.length_nil,Nat.reduceAdd,Nat.reduceSub,Array.replicate_succ,Array.replicate_zero,List.push_toArray,List.append_toArray,List.nil_append,List.cons_append]
 gi_wp2_with (refine⟨trivial,?_⟩;first|(gi_at_call 178;refine(callsIn_wide.2 (Da af _ (by exact((Below.refl _ w).alloc (Nat.le_refl _) _).alloc (by simp) _))).mono ?_;rintro e w' ⟨rfl,hw⟩;rw[hw];clear hw)|(gi_at_call 179;refine(Zja _ _ trivial rfl _ _).mono ?_;rintro e w' ⟨rfl,rfl⟩))
 obtain⟨j,q⟩:∃j,((w.alloc (Obj.cells #[Value.int IntKind.i64 1] 3)).alloc (Obj.cells #[Value.int IntKind.i64 ((E b).length:Nat)] 3)).alloc (Obj.cells #[Value.pointer (some { block:=b,off:=0 })] 307)=j:=⟨_,rfl⟩;rw[q];have aM:j.heap.size=w.heap.size+3:=by rw[<-q];simp
 have aa:Below w.heap.size w j:=by rw[<-q];exact(((Below.refl _ w).alloc (Nat.le_refl _) _).alloc (by simp) _).alloc (by simp;omega) _
 have aA:Boxed j w.heap.size 3 (.int .i64 1):=by rw[<-q];exact((Boxed.new w 3 _).alloc _).alloc _
 have aB:Boxed j (w.heap.size+1) 3 (.int .i64 ((E b).length:Nat)):=by rw[<-q];have:=(Boxed.new (w.alloc (Obj.cells #[Value.int IntKind.i64 1] 3)) 3 (.int .i64 ((E b).length:Nat))).alloc (Obj.cells #[Value.pointer (some { block:=b,off:=0 })] 307);simpa using this
 have aC:Boxed j (w.heap.size+1+1) 307 (.pointer (some ⟨b,0,none⟩)):=by rw[<-q];have:=Boxed.new ((w.alloc (Obj.cells #[Value.int IntKind.i64 1] 3)).alloc (Obj.cells #[Value.int IntKind.i64 ((E b).length:Nat)] 3)) 307 (.pointer (some ⟨b,0,none⟩));simpa using this
 have ay:Sl j 310 3 (V b) (E b).length (Dn (E b)):=hS.kept (fun k hk _=>aa.block k hk);have aD:j.cell? ⟨b,0,none⟩=some (V b):=(aa.cell (p:=⟨b,0,none⟩) ak).trans hc;have ab:(E b).attach.map (fun x=>x.1)=E b:=List.attach_map_subtype_val _;have av:=Db an;have C:=Db h;clear q an h af;refine wpIn_rangeFunc_ownH (α := { x // x∈E b }) rfl (by omega) (gf:=222) (lb := #[.pointer (some ⟨w.heap.size+1+1,0,none⟩)]) rfl trivial (enters_of Tryz.func222 (by kernel_rfl) rfl)
  (Zgx Fence.wide 2 trivial rfl (by omega) (w.heap.size+1+1) w.heap.size b 0 (V b) (fun x=>x.1) (E b).attach (by simpa using Nat.le_trans aE ah) j (by omega) (by omega) (by omega) aC.cell aD (by rw[ab];simpa using ay) (fun g hg=>hS.lt hg))
  belowK_t (belowK_b (by omega)) (Below.refl _ _) (fun _=>rfl)
  (fun a W=>(Boxed W w.heap.size 3 (.int .i64 ((1+Jh (fD G ns) (a.map (·.1)):Nat):Int))/\Boxed W (w.heap.size+1) 3 (.int .i64 (((E b).length+Jh (fE G ns) (a.map (·.1)):Nat):Int)))/\Below w.heap.size w W)
  (fun _ _ _=>False)
  (OwnFrom.and (OwnFrom.and (Own.from (boxed_own _ _ _) _) (Own.from (boxed_own _ _ _) _)) (ownFrom_below (Nat.le_refl _) (by omega)))
  (fun _ _ _ _ _ hs _ _=>hs)
  ⟨⟨aA,aB⟩,aa⟩
  (fun x R W=>∃o,w.heap.size+1<o/\RowIs W o 260 [.pointer x.1.2.p,.int .i64 x.1.2.f]/\R={ tmps := #[.pointer (some ⟨b,0,none⟩),undef,.pointer (some ⟨w.heap.size,0,none⟩),.pointer (some ⟨w.heap.size+1,0,none⟩),undef,.pointer (some ⟨o,0,none⟩),undef,undef,.pointer (some ⟨b,0,none⟩),.pointer (some ⟨b,0,none⟩),.pointer (some ⟨b,0,none⟩),.int .i64 ((E b).length:Nat),.pointer (some ⟨b,0,none⟩),.pointer (some ⟨b,0,none⟩),.pointer (some ⟨b,0,none⟩),.func (.func 222) #[] #[.pointer (some ⟨w.heap.size+1+1,0,none⟩)],.string x.1.1,.agg #[.pointer x.1.2.p,.int .i64 x.1.2.f],undef,undef,undef,undef,undef,undef,undef,undef,undef,undef,undef,undef,undef,undef,undef,undef,undef],defers:=[] })
  (fun x R _ X Y row hs hg hr=>by
   obtain⟨o,h1,h2,h3⟩:=hs;exact⟨o,h1,(Un (β := Unit) o 260 (fun _=>_)).from _ () X Y row h2 hg hr,h3⟩)
  ?assign ?body ?done ?stop
 case assign=>
  rintro l a x W K ⟨⟨i,f⟩,m⟩ hK
  gi_wp2
  refine hK _ _ ((KeepsOthers.alloc _ _).from _) ((Below.refl _ W).alloc m.size _) ⟨⟨i.alloc _,f.alloc _⟩,m.alloc m.size _⟩ ⟨W.heap.size,f.lt,Jd W _ _,rfl⟩
 case body=>
  rintro l a x R W aI ⟨r,hr⟩ ⟨⟨i,f⟩,m⟩ ⟨o,aH,bX,rfl⟩ aF;have aL:a.length<(E b).length:=by simpa using aF
  have I:=ZkO (fD G ns) 10001 (fun y=>Nat.le_trans (fD_le G ns y) (by omega)) (a.map (·.1));have J:=ZkO (fE G ns) 10000 (fun y=>Nat.le_trans (fE_le G ns y) (by omega)) (a.map (·.1));rw[List.length_map]at I J;have U:Jh (fD G ns) ((a++[x]).map (·.1))=Jh (fD G ns) (a.map (·.1))+fD G ns x.1:=by rw[List.map_append,List.map_cons,List.map_nil,ZdB]
  have Z:Jh (fE G ns) ((a++[x]).map (·.1))=Jh (fE G ns) (a.map (·.1))+fE G ns x.1:=by rw[List.map_append,List.map_cons,List.map_nil,ZdB]
  obtain⟨O,ap⟩:∃s,s=Jh (fD G ns) (a.map (·.1)):=⟨_,rfl⟩;obtain⟨P,aq⟩:∃s,s=Jh (fE G ns) (a.map (·.1)):=⟨_,rfl⟩;rw[<-ap]at I U i;rw[<-aq]at J Z f;have E1:=Db U;have E2:=Db Z;clear ap aq U Z;have x0:=bX.cell 0;have aJ:O<=100010000:=Nat.le_trans I (by omega);have aK:P<=100000000:=Nat.le_trans J (by omega);clear I J;rcases (Da C).sub u x.2 with hp|⟨F,ae,aG⟩
  ·have L:fD G ns x.1=0:=by unfold fD;rw[hp];rfl
   have M:fE G ns x.1=0:=by unfold fE;rw[hp];rfl
   rw[hp]at x0
   gi_wp2
   exact⟨(KeepsOthers.refl _).from _,Below.refl _ _,⟨by rw[Da E1,L];exact i,by rw[Da E2,M];exact f⟩,m⟩
  ·have L:fD G ns x.1=cD G (ns++[x.1.1]):=by unfold fD;rw[ae];rfl
   have M:fE G ns x.1=cE G (ns++[x.1.1]):=by unfold fE;rw[ae];rfl
   have ai:=Nat.le_trans (ZoN G (ns++[x.1.1])) (by omega:_<=10001);have aj:=Nat.le_trans (cE_le G (ns++[x.1.1])) ah;have t:=Da av x.1 F W x.2 aG ((Da C).below m (Nat.le_refl _));rw[ae]at x0;rw[<-L]at t ai;rw[<-M]at t aj;obtain⟨d1,ac⟩:∃d,d=fD G ns x.1:=⟨_,rfl⟩;obtain⟨d2,ad⟩:∃d,d=fE G ns x.1:=⟨_,rfl⟩;have ar:=Db ac;have au:=Db ad;rw[<-ac]at t ai;rw[<-ad]at t aj;clear L M ac ad
   gi_wp2_with fail
   refine⟨trivial,?_⟩;refine(CallsIn.inRound l (callsIn_wide.2 t)).mono ?_;rintro e Q ⟨rfl,H⟩;have A:Boxed Q w.heap.size 3 _:=(H.block _ i.lt).trans i;have B:Boxed Q (w.heap.size+1) 3 _:=(H.block _ f.lt).trans f;have c0:=A.cell;have c1:=B.cell;have f0:=A.frozen;have f1:=B.frozen;clear t
   gi_wp2
   have v1:(1+(O:Int)+(d1:Int))=((1+Jh (fD G ns) ((a++[x]).map (·.1)):Nat):Int):=by rw[Da E1,<-Da ar];omega
   have v2:(((E b).length:Int)+(P:Int)+(d2:Int))=(((E b).length+Jh (fE G ns) ((a++[x]).map (·.1)):Nat):Int):=by rw[Da E2,<-Da au];omega
   have al:Below w.heap.size W Q:=H.mono m.size;refine⟨((Zdi H).trans ((KeepsOthers.setCell _ _ _).trans (KeepsOthers.setCell _ _ _))).from _,(al.setCell (p:=⟨w.heap.size,0,none⟩) (Nat.le_refl _) _).setCell (p:=⟨w.heap.size+1,0,none⟩) (Nat.le_succ _) _,⟨?_,?_⟩,((m.trans al).setCell (p:=⟨w.heap.size,0,none⟩) (Nat.le_refl _) _).setCell (p:=⟨w.heap.size+1,0,none⟩) (Nat.le_succ _) _⟩
   ·rw[v1];exact(A.set _).other (by omega) _
   ·rw[v2];exact(B.other (by omega) _).set _
 case done=>
  rintro D ys W hD rfl ⟨⟨i,f⟩,m⟩ hK;have c0:=i.cell;have c1:=f.cell;have f0:=i.frozen;have f1:=f.frozen;obtain⟨O,P⟩:=ZnX hG ((Da C).srt ns b u) ((Da C).en ns b u);rw[ab,O]at c0 i;rw[ab,P]at c1 f;have A:=i;have B:=f;clear i f
  gi_wp2
  gi_region
  all_goals gi_wp2
  have S:Boxed ((W.setCell ⟨w.heap.size,0,none⟩ (.int .i64 (cD G ns:Nat))).setCell ⟨w.heap.size+1,0,none⟩ (.int .i64 (cE G ns:Nat))).drew w.heap.size 3 (.int .i64 (cD G ns:Nat)):=(A.set _).other (by omega) _;have T:Boxed ((W.setCell ⟨w.heap.size,0,none⟩ (.int .i64 (cD G ns:Nat))).setCell ⟨w.heap.size+1,0,none⟩ (.int .i64 (cE G ns:Nat))).drew (w.heap.size+1) 3 (.int .i64 (cE G ns:Nat)):=(B.other (by omega) _).set _;have ag:Below w.heap.size w ((W.setCell ⟨w.heap.size,0,none⟩ (.int .i64 (cD G ns:Nat))).setCell ⟨w.heap.size+1,0,none⟩ (.int .i64 (cE G ns:Nat))).drew:=((m.setCell (p:=⟨w.heap.size,0,none⟩) (Nat.le_refl _) _).setCell (p:=⟨w.heap.size+1,0,none⟩) (Nat.le_succ _) _).drew;have z:((W.setCell ⟨w.heap.size,0,none⟩ (.int .i64 (cD G ns:Nat))).setCell ⟨w.heap.size+1,0,none⟩ (.int .i64 (cE G ns:Nat))).drew.heap[D]?=some (.deferred (some [])):=(((KeepsOthers.setCell W ⟨w.heap.size,0,none⟩ (.int .i64 (cD G ns:Nat))).trans (KeepsOthers.setCell _ ⟨w.heap.size+1,0,none⟩ (.int .i64 (cE G ns:Nat)))).trans (KeepsOthers.drew _)).same D _ hK rfl;obtain⟨v,az⟩:∃v,((W.setCell ⟨w.heap.size,0,none⟩ (.int .i64 (cD G ns:Nat))).setCell ⟨w.heap.size+1,0,none⟩ (.int .i64 (cE G ns:Nat))).drew=v:=⟨_,rfl⟩;rw[az]at S T ag z ⊢;have aw:=(S.kept (grownBy_putObj' v D (.deferred none)) (fun e=>by cases e;have:=S.symm.trans z;cases this)).cell;have ax:=(T.kept (grownBy_putObj' v D (.deferred none)) (fun e=>by cases e;have:=T.symm.trans z;cases this)).cell;refine⟨by simp,.inl ⟨_,_,rfl,run_takeDeferred z,?_⟩⟩;refine⟨.tuple #[.int .i64 (cD G ns:Nat),.int .i64 (cE G ns:Nat)],?_,rfl,ag.trans (belowK_b (w:=w) (Nat.le_refl _) v D _ _ (by omega) z rfl rfl)⟩;simp[results,Tryz.results143,go_sem,aw,ax]
 case stop=>
  rintro D c a W _ _ h _;exact h.elim
theorem IsDir.le{G:Gh}(a:GOk G){c:Nat}{ns:LY}{b:Nat}(h:IsDir G c ns b):ns.length<=6:=by
 rcases h with⟨rfl,_⟩|h
 ·exact Nat.zero_le _
 ·exact a.le _ h
theorem Zgq(G:Gh)(c:GOk G)(j:G.length<=10000)(a:Nat)(V:NV)(E:NS):∀(d:Nat) (ns:LY) (b:Nat) (w:World),6<=ns.length+d->IsDir G a ns b->DirW w G a V E->
  Calls Tryz.prog 143 #[.pointer (some ⟨b,0,none⟩)] w fun e w'=>e = .returned (.tuple #[.int .i64 (cD G ns:Nat),.int .i64 (cE G ns:Nat)])/\Below w.heap.size w w':=by
 intro d
 induction d with
 | zero=>
  intro ns b w k h g;exact Zgp G c j a V E ns b h (fun x i w' _ f _=>by have:=f.le c;simp at this;omega) w g
 | succ d ih=>
  intro ns b w k h g;exact Zgp G c j a V E ns b h (fun x i w' _ f l=>ih _ i w' (by simp;omega) f l) w g
end
end Go.Proofs.YtaieidcohdhgpaaGreatDoor
