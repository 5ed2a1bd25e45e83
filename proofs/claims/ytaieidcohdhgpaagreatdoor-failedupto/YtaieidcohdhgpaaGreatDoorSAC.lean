/- Failed. -/
import Derived.Test.YtaieidcohdhgpaaGreatDoorSAB
namespace Go.Proofs.YtaieidcohdhgpaaGreatDoor
set_option maxHeartbeats 40000000
set_option maxRecDepth 100000
open Go.RowKit
theorem Zii:∀l:List UInt8,Op.bytesLess l l=false
 | []=>rfl
 | a::l=>by simp[Op.bytesLess,Zii l]
theorem ZjL:∀a b c:List UInt8,Op.bytesLess a b=true->Op.bytesLess b c=true->Op.bytesLess a c=true
 | [],[],_,h,_=>by simp[Op.bytesLess]at h
 | [],_::_,[],_,h=>by simp[Op.bytesLess]at h
 | [],_::_,_::_,_,_=>by simp[Op.bytesLess]
 | _::_,[],_,h,_=>by simp[Op.bytesLess]at h
 | _::_,_::_,[],_,h=>by simp[Op.bytesLess]at h
 | a::x,b::y,c::z,e,d=>by
  simp only[Op.bytesLess,Bool.or_eq_true,Bool.and_eq_true,decide_eq_true_eq,beq_iff_eq]at e d ⊢;rcases e with e|⟨rfl,e⟩
  ·rcases d with d|⟨rfl,d⟩
   ·exact .inl (UInt8.lt_trans e d)
   ·exact .inl e
  ·rcases d with d|⟨rfl,d⟩
   ·exact .inl d
   ·exact .inr ⟨rfl,ZjL x y z e d⟩
theorem ZjM:∀a b:List UInt8,Op.bytesLess a b=false->a≠b->Op.bytesLess b a=true
 | [],[],_,h=>absurd rfl h
 | [],_::_,h,_=>by simp[Op.bytesLess]at h
 | _::_,[],_,_=>by simp[Op.bytesLess]
 | a::x,b::y,h,hne=>by
  simp only[Op.bytesLess,Bool.or_eq_false_iff,decide_eq_false_iff_not,Bool.and_eq_false_iff,beq_eq_false_iff_ne]at h;simp only[Op.bytesLess,Bool.or_eq_true,Bool.and_eq_true,decide_eq_true_eq,beq_iff_eq];by_cases e:a=b
  ·subst e;refine .inr ⟨rfl,ZjM x y (h.2.resolve_left (fun k=>k rfl)) (fun k=>hne (by rw[k]))⟩
  ·refine .inl ?_;have c:=h.1;rw[UInt8.lt_iff_toNat_lt]at c ⊢;have h2:a.toNat≠b.toNat:=fun k=>e (UInt8.toNat_inj.1 k)
   omega
theorem Uh(a:By):ltS a a=false:=Zii _
theorem Zfr{a b c:By}(h:ltS a b=true)(k:ltS b c=true):ltS a c=true:=ZjL _ _ _ h k
theorem toList_inj{a b:By}(h:a.toList=b.toList):a=b:=by
 rw[ByteArray.toList_eq,ByteArray.toList_eq]at h;exact WideShapes.bytes_inj h
theorem Zll{a b:By}(h:ltS a b=false)(c:a≠b):ltS b a=true:=ZjM _ _ h (fun e=>c (toList_inj e))
theorem Zmc(a b:By):KO a b<0↔ltS a b=true:=by
 unfold KO;split
 ·simp[*]
 ·split<;>simp[*]
theorem Zmb(a b:By):KO a b=0↔a=b:=by
 unfold KO;split
 ·rename_i h;simp only[show((-1:Int)=0)=False by simp,false_iff];rintro rfl;rw[Uh]at h;cases h
 ·split
  ·rename_i h;simp[toList_inj h]
  ·rename_i h;simp only[show((1:Int)=0)=False by simp,false_iff];rintro rfl;exact h rfl
def ltI(a b:Int):Bool:=decide (a<b)
theorem KC(a:Int):ltI a a=false:=by simp[ltI]
theorem ZdN{a b c:Int}(h:ltI a b=true)(k:ltI b c=true):ltI a c=true:=by simp[ltI]at *;omega
theorem ZhS{a b:Int}(h:ltI a b=false)(aa:a≠b):ltI b a=true:=by simp[ltI]at *;omega
theorem UT(a b:Int):Kd a b<0↔ltI a b=true:=by
 unfold Kd ltI;split
 ·simp[*]
 ·split<;>simp[*]
theorem Zie(a b:Int):Kd a b=0↔a=b:=by
 unfold Kd;split
 ·simp;omega
 ·split<;>simp[*]
structure VS where
 p:OA
 f:Int
structure VF where
 a:OA
 l:Nat
 c:Nat
 f:Int
def clS(x:By×VS):LVa:=[.string x.1,.pointer x.2.p,.int .i64 x.2.f]
def Dn(es:List (By×VS)):LVa:=es.flatMap clS
theorem ZdR(es:List (By×VS)):(Dn es).length=es.length*3:=by
 induction es with
 | nil=>rfl
 | cons a l ih=>simp[Dn,clS]at ih ⊢;omega
theorem ZdS(a b:List (By×VS)):Dn (a++b)=Dn a++Dn b:=by simp[Dn]
theorem ZfJ(es:List (By×VS))(i:Nat):(Dn es).take (i*3)=Dn (es.take i):=by
 induction es generalizing i with
 | nil=>simp[Dn]
 | cons a l ih=>
  cases i with
  | zero=>simp[Dn]
  | succ i=>
   have:=ih i;simp only[Dn,List.flatMap_cons,List.take_succ_cons]at this ⊢;rw[<-this,show(i+1)*3=(clS a).length+i*3 by simp[clS];omega,List.take_length_add_append]
theorem ZfK(es:List (By×VS))(i:Nat):(Dn es).drop (i*3)=Dn (es.drop i):=by
 induction es generalizing i with
 | nil=>simp[Dn]
 | cons a l ih=>
  cases i with
  | zero=>simp[Dn]
  | succ i=>
   have:=ih i;simp only[Dn,List.flatMap_cons,List.drop_succ_cons]at this ⊢;rw[<-this,show(i+1)*3=(clS a).length+i*3 by simp[clS];omega,List.drop_length_add_append]
theorem Zc6(es:List (By×VS)):∀u∈Dn es,u.oneCell'=true:=by
 intro u a;simp only[Dn,List.mem_flatMap,clS,List.mem_cons,List.mem_nil_iff,or_false]at a;obtain⟨x,_,rfl|rfl|rfl⟩:=a<;>simp[Value.oneCell']
theorem Qv(es:List (By×VS))(k:Nat)(x:By×VS)(h:es[k]?=some x):(Dn es)[k*3]?=some (.string x.1)/\(Dn es)[k*3+1]?=some (.pointer x.2.p)/\(Dn es)[k*3+2]?=some (.int .i64 x.2.f):=by
 induction es generalizing k with
 | nil=>simp at h
 | cons a l ih=>
  cases k with
  | zero=>simp at h;subst h;simp[Dn,clS]
  | succ k=>
   simp at h;have:=ih k h;simp only[Dn,List.flatMap_cons]at this ⊢;have e:∀r,(clS a++List.flatMap clS l)[(k+1)*3+r]?=(List.flatMap clS l)[k*3+r]? := fun r=>by
    rw[List.getElem?_append_right (by simp[clS];omega)];congr 1;simp[clS];omega
   have b:=e 0;simp only[Nat.add_zero]at b;rw[b,e 1,e 2];exact this
def SrtS(es:List (By×VS)):Prop:=∀(j k:Nat) (x y:By×VS),j<k->es[j]?=some x->es[k]?=some y->ltS x.1 y.1=true
def AtS(es:List (By×VS))(t:By)(i:Nat)(b:Bool):Prop:=
 i<=es.length/\(∀k x,k<i->es[k]?=some x->ltS x.1 t=true)/\(∀k x,i<=k->es[k]?=some x->ltS x.1 t=false)/\(b=true↔∃x,es[i]?=some x/\x.1=t)
theorem ZnI(x:By×VS)(a:By)(w:World):Calls Tryz.prog 294 #[.agg #[.string x.1,.pointer x.2.p,.int .i64 x.2.f],.string a] w fun e w'=>e = .returned (.int .i64 (KO x.1 a))/\Below w.heap.size w w':=by
 go_enter Tryz.func294,Tryz.ntmps294;go_wp2_with (go_at_call 295;refine(Zm9 _ _ _).mono ?_;rintro e w' ⟨rfl,rfl⟩);go_ret;exact⟨rfl,(Below.refl _ _).alloc (Nat.le_refl _) _⟩
theorem bsrS(g n J:Nat)(en:Nat->By×VS)(d:By)(w:World)(hn:n<=10000)
 (f:∀k,k<n->w.cell? ⟨g,k*3,none⟩=some (.string (en k).1))
 (l:∀k,k<n->w.cell? ⟨g,k*3+1,none⟩=some (.pointer (en k).2.p))
 (m:∀k,k<n->w.cell? ⟨g,k*3+2,none⟩=some (.int .i64 (en k).2.f))
 (G:∀j k,j<k->k<n->ltS (en j).1 (en k).1=true):
  Calls Tryz.prog 293 #[.slice (some ⟨g,0,none⟩) n J,.string d,.func (.func 294) #[] #[]] w fun e w'=>∃(i:Nat) (b:Bool),e = .returned (.tuple #[.int .i64 i,.bool b])/\
   (i<=n/\(∀k,k<i->ltS (en k).1 d=true)/\(∀k,i<=k->k<n->ltS (en k).1 d=false)/\(b=true↔i<n/\(en i).1=d))/\Below w.heap.size w w':=by
 have A:=Db G;clear G;go_enter Tryz.func293,Tryz.ntmps293;go_wp2_with fail
 go_loopw [9,10] (fun i j wr=>∃a b:Nat,i = .int .i64 a/\j = .int .i64 b/\a<=b/\b<=n/\Hid (∀k,k<a->ltS (en k).1 d=true)/\Hid (∀k,b<=k->k<n->ltS (en k).1 d=false)/\Below w.heap.size w wr) (fun i j _=>(intOf j-intOf i).toNat)
 case atStart=>exact⟨0,n,rfl,rfl,Nat.zero_le _,Nat.le_refl _,fun _ h=>absurd h (Nat.not_lt_zero _),fun k K v=>absurd v (by omega),Below.refl _ _⟩
 case round=>
  obtain⟨a,b,rfl,rfl,aa,x,z,y,c⟩:=hrel;by_cases ab:a<b
  ·have t:(a+b)/2<n:=by omega
   have o:g<w.heap.size:=World.block_lt_of_cell? _ _ (f _ t);have L:=(c.cell (p:=⟨g,(a+b)/2*3,none⟩) o).trans (f _ t);have M:=(c.cell (p:=⟨g,(a+b)/2*3+1,none⟩) o).trans (l _ t);have N:=(c.cell (p:=⟨g,(a+b)/2*3+2,none⟩) o).trans (m _ t);have B:=Db f;have C:=Db l;have D:=Db m;clear f l m;go_wp2_with fail;refine(ZnI (en ((a+b)/2)) _ _).mono ?_;rintro e w' ⟨rfl,u⟩;by_cases E:KO (en ((a+b)/2)).1 d<0
   ·have s:=(Zmc _ _).1 E;have r:=Db s;clear s;go_wp2
    go_roundw
    case rel=>
     refine⟨(a+b)/2+1,b,by go_num,rfl,by omega,x,fun k hk=>?_,y,c.trans (u.mono c.size)⟩;rcases Nat.lt_or_ge k ((a+b)/2) with h|h
     ·exact Zfr (Da A _ _ h t) (Da r)
     ·obtain rfl:k=(a+b)/2:=by omega
      exact Da r
    case measure=>simp[intOf];omega
   ·have s:ltS (en ((a+b)/2)).1 d=false:=by
     cases h:ltS (en ((a+b)/2)).1 d with
     | false=>rfl
     | true=>exact absurd ((Zmc _ _).2 h) E
    have r:=Db s;clear s;go_wp2
    go_roundw
    case rel=>
     refine⟨a,(a+b)/2,rfl,by go_num,by omega,by omega,z,fun k K v=>?_,c.trans (u.mono c.size)⟩;rcases Nat.lt_or_ge ((a+b)/2) k with h|h
     ·cases F:ltS (en k).1 d with
      | false=>rfl
      | true=>exact absurd (Zfr (Da A _ _ h v) F) (by rw[Da r];simp)
     ·obtain rfl:k=(a+b)/2:=by omega
      exact Da r
    case measure=>simp[intOf];omega
  ·obtain rfl:a=b:=by omega
   by_cases q:a<n
   ·have o:g<w.heap.size:=World.block_lt_of_cell? _ _ (f _ q);have L:=(c.cell (p:=⟨g,a*3,none⟩) o).trans (f _ q);have M:=(c.cell (p:=⟨g,a*3+1,none⟩) o).trans (l _ q);have N:=(c.cell (p:=⟨g,a*3+2,none⟩) o).trans (m _ q);have B:=Db f;have C:=Db l;have D:=Db m;clear f l m;go_wp2_with fail;refine(ZnI (en a) _ _).mono ?_;rintro e w' ⟨rfl,u⟩;have H:=Zmb (en a).1 d;have I:=Db H;clear H;go_wp2
    go_ret2
    refine⟨a,_,rfl,⟨x,z,y,?_⟩,c.trans (u.mono c.size)⟩;simp[Da I,q]
   ·have F:decide (((a:Nat):Int)<(n:Int))=false:=by simp;omega
    have B:=Db f;have C:=Db l;have D:=Db m;clear f l m;go_wp2
    go_ret2
    exact⟨a,_,rfl,⟨x,z,y,by simp[q]⟩,c⟩
theorem srchS(v:Value)(es:List (By×VS))(l:By)(w:World)(B:Sl w 310 3 v es.length (Dn es))(F:es.length<=10000)(G:SrtS es):
  Calls Tryz.prog 293 #[v,.string l,.func (.func 294) #[] #[]] w fun e w'=>∃(i:Nat) (b:Bool),e = .returned (.tuple #[.int .i64 i,.bool b])/\AtS es l i b/\Below w.heap.size w w':=by
 rcases B.2 with⟨rfl,z⟩|⟨g,r,L,rfl,A,hc,aa,hL,C⟩
 ·have:es=[]:=List.eq_nil_of_length_eq_zero z;subst this;go_enter Tryz.func293,Tryz.ntmps293;go_wp2_with fail
  go_loopw [9,10] (fun i j wr=>i = .int .i64 0/\j = .int .i64 0/\wr=w) (fun _ _ _=>0)
  case atStart=>exact⟨rfl,rfl,rfl⟩
  case round=>
   obtain⟨rfl,rfl,rfl⟩:=hrel;go_wp2
   go_ret2
   exact⟨0,false,rfl,⟨Nat.zero_le _,fun k x h _=>absurd h (Nat.not_lt_zero _),fun k x _ h=>by simp at h,by simp⟩,Below.refl _ _⟩
 ·have o:∀j u,(Dn es)[j]?=some u->w.cell? ⟨g,j,none⟩=some u:=fun j u f=>by
   rw[A.cell];rw[<-C,List.getElem?_take]at f
   split at f
   ·exact f
   ·cases f
  cases hes:es with
  | nil=>
   subst hes;refine(bsrS g 0 r (fun _=>(⟨#[]⟩,⟨none,0⟩)) l w (by omega) (fun k h=>absurd h (by omega)) (fun k h=>absurd h (by omega)) (fun k h=>absurd h (by omega)) (fun j k _ h=>absurd h (by omega))).mono ?_;rintro e w' ⟨i,b,rfl,⟨s,t,y,m⟩,n⟩;obtain rfl:i=0:=by omega
   exact⟨0,b,rfl,⟨Nat.le_refl _,fun k x h _=>absurd h (by omega),fun k x _ h=>by simp at h,by rw[m];simp⟩,n⟩
  | cons x0 l0=>
   rw[<-hes];have d:∀k,k<es.length->es[k]?=some (es.getD k x0):=fun k a=>by simp[List.getD,List.getElem?_eq_getElem a]
   refine(bsrS g es.length r (fun k=>es.getD k x0) l w F (fun k a=>o _ _ (Qv es k _ (d k a)).1) (fun k a=>o _ _ (Qv es k _ (d k a)).2.1) (fun k a=>o _ _ (Qv es k _ (d k a)).2.2)
    (fun j k E a=>G j k _ _ E (d j (by omega)) (d k a))).mono ?_
   rintro e w' ⟨i,b,rfl,⟨s,t,y,m⟩,n⟩;have p:∀k x,es[k]?=some x->k<es.length:=fun k x h=>(List.getElem?_eq_some_iff.1 h).1
   have q:∀k x,es[k]?=some x->x=es.getD k x0:=fun k x h=>by have:=d k (p k x h);rw[h]at this;exact Option.some.inj this
   refine⟨i,b,rfl,⟨s,fun k x a c=>?_,fun k x a c=>?_,?_⟩,n⟩
   ·rw[q k x c];exact t k a
   ·rw[q k x c];exact y k a (p k x c)
   ·rw[m];constructor
    ·rintro⟨D,e⟩;exact⟨_,d i D,e⟩
    ·rintro⟨x,c,e⟩;exact⟨p i x c,by rw[<-e,q i x c]⟩
def clI(x:Int×VF):LVa:=[.int .i64 x.1,.slice x.2.a x.2.l x.2.c,.int .i64 x.2.f]
def Dr(es:List (Int×VF)):LVa:=es.flatMap clI
theorem Zcw(es:List (Int×VF)):(Dr es).length=es.length*3:=by
 induction es with
 | nil=>rfl
 | cons a l ih=>simp[Dr,clI]at ih ⊢;omega
theorem ZdU(a b:List (Int×VF)):Dr (a++b)=Dr a++Dr b:=by simp[Dr]
theorem ZfL(es:List (Int×VF))(i:Nat):(Dr es).take (i*3)=Dr (es.take i):=by
 induction es generalizing i with
 | nil=>simp[Dr]
 | cons a l ih=>
  cases i with
  | zero=>simp[Dr]
  | succ i=>
   have:=ih i;simp only[Dr,List.flatMap_cons,List.take_succ_cons]at this ⊢;rw[<-this,show(i+1)*3=(clI a).length+i*3 by simp[clI];omega,List.take_length_add_append]
theorem ZfM(es:List (Int×VF))(i:Nat):(Dr es).drop (i*3)=Dr (es.drop i):=by
 induction es generalizing i with
 | nil=>simp[Dr]
 | cons a l ih=>
  cases i with
  | zero=>simp[Dr]
  | succ i=>
   have:=ih i;simp only[Dr,List.flatMap_cons,List.drop_succ_cons]at this ⊢;rw[<-this,show(i+1)*3=(clI a).length+i*3 by simp[clI];omega,List.drop_length_add_append]
theorem Zc7(es:List (Int×VF)):∀u∈Dr es,u.oneCell'=true:=by
 intro u a;simp only[Dr,List.mem_flatMap,clI,List.mem_cons,List.mem_nil_iff,or_false]at a;obtain⟨x,_,rfl|rfl|rfl⟩:=a<;>simp[Value.oneCell']
theorem Qu(es:List (Int×VF))(k:Nat)(x:Int×VF)(h:es[k]?=some x):(Dr es)[k*3]?=some (.int .i64 x.1)/\(Dr es)[k*3+1]?=some (.slice x.2.a x.2.l x.2.c)/\(Dr es)[k*3+2]?=some (.int .i64 x.2.f):=by
 induction es generalizing k with
 | nil=>simp at h
 | cons a l ih=>
  cases k with
  | zero=>simp at h;subst h;simp[Dr,clI]
  | succ k=>
   simp at h;have:=ih k h;simp only[Dr,List.flatMap_cons]at this ⊢;have e:∀r,(clI a++List.flatMap clI l)[(k+1)*3+r]?=(List.flatMap clI l)[k*3+r]? := fun r=>by
    rw[List.getElem?_append_right (by simp[clI];omega)];congr 1;simp[clI];omega
   have b:=e 0;simp only[Nat.add_zero]at b;rw[b,e 1,e 2];exact this
def SrtI(es:List (Int×VF)):Prop:=∀(j k:Nat) (x y:Int×VF),j<k->es[j]?=some x->es[k]?=some y->ltI x.1 y.1=true
def AtI(es:List (Int×VF))(t:Int)(i:Nat)(b:Bool):Prop:=
 i<=es.length/\(∀k x,k<i->es[k]?=some x->ltI x.1 t=true)/\(∀k x,i<=k->es[k]?=some x->ltI x.1 t=false)/\(b=true↔∃x,es[i]?=some x/\x.1=t)
theorem ZnK(x:Int×VF)(a:Int)(w:World):Calls Tryz.prog 259 #[.agg #[.int .i64 x.1,.slice x.2.a x.2.l x.2.c,.int .i64 x.2.f],.int .i64 a] w fun e w'=>e = .returned (.int .i64 (Kd x.1 a))/\Below w.heap.size w w':=by
 go_enter Tryz.func259,Tryz.ntmps259;go_wp2_with (go_at_call 260;refine(Znb _ _ _).mono ?_;rintro e w' ⟨rfl,rfl⟩);go_ret;exact⟨rfl,(Below.refl _ _).alloc (Nat.le_refl _) _⟩
theorem bsrI(g n J:Nat)(en:Nat->Int×VF)(d:Int)(w:World)(hn:n<=10000)
 (f:∀k,k<n->w.cell? ⟨g,k*3,none⟩=some (.int .i64 (en k).1))
 (l:∀k,k<n->w.cell? ⟨g,k*3+1,none⟩=some (.slice (en k).2.a (en k).2.l (en k).2.c))
 (m:∀k,k<n->w.cell? ⟨g,k*3+2,none⟩=some (.int .i64 (en k).2.f))
 (G:∀j k,j<k->k<n->ltI (en j).1 (en k).1=true):
  Calls Tryz.prog 258 #[.slice (some ⟨g,0,none⟩) n J,.int .i64 d,.func (.func 259) #[] #[]] w fun e w'=>∃(i:Nat) (b:Bool),e = .returned (.tuple #[.int .i64 i,.bool b])/\
   (i<=n/\(∀k,k<i->ltI (en k).1 d=true)/\(∀k,i<=k->k<n->ltI (en k).1 d=false)/\(b=true↔i<n/\(en i).1=d))/\Below w.heap.size w w':=by
 have A:=Db G;clear G;go_enter Tryz.func258,Tryz.ntmps258;go_wp2_with fail
 go_loopw [9,10] (fun i j wr=>∃a b:Nat,i = .int .i64 a/\j = .int .i64 b/\a<=b/\b<=n/\Hid (∀k,k<a->ltI (en k).1 d=true)/\Hid (∀k,b<=k->k<n->ltI (en k).1 d=false)/\Below w.heap.size w wr) (fun i j _=>(intOf j-intOf i).toNat)
 case atStart=>exact⟨0,n,rfl,rfl,Nat.zero_le _,Nat.le_refl _,fun _ h=>absurd h (Nat.not_lt_zero _),fun k K v=>absurd v (by omega),Below.refl _ _⟩
 case round=>
  obtain⟨a,b,rfl,rfl,aa,x,z,y,c⟩:=hrel;by_cases ab:a<b
  ·have t:(a+b)/2<n:=by omega
   have o:g<w.heap.size:=World.block_lt_of_cell? _ _ (f _ t);have L:=(c.cell (p:=⟨g,(a+b)/2*3,none⟩) o).trans (f _ t);have M:=(c.cell (p:=⟨g,(a+b)/2*3+1,none⟩) o).trans (l _ t);have N:=(c.cell (p:=⟨g,(a+b)/2*3+2,none⟩) o).trans (m _ t);have B:=Db f;have C:=Db l;have D:=Db m;clear f l m;go_wp2_with fail;refine(ZnK (en ((a+b)/2)) _ _).mono ?_;rintro e w' ⟨rfl,u⟩;by_cases E:Kd (en ((a+b)/2)).1 d<0
   ·have s:=(UT _ _).1 E;have r:=Db s;clear s;go_wp2
    go_roundw
    case rel=>
     refine⟨(a+b)/2+1,b,by go_num,rfl,by omega,x,fun k hk=>?_,y,c.trans (u.mono c.size)⟩;rcases Nat.lt_or_ge k ((a+b)/2) with h|h
     ·exact ZdN (Da A _ _ h t) (Da r)
     ·obtain rfl:k=(a+b)/2:=by omega
      exact Da r
    case measure=>simp[intOf];omega
   ·have s:ltI (en ((a+b)/2)).1 d=false:=by
     cases h:ltI (en ((a+b)/2)).1 d with
     | false=>rfl
     | true=>exact absurd ((UT _ _).2 h) E
    have r:=Db s;clear s;go_wp2
    go_roundw
    case rel=>
     refine⟨a,(a+b)/2,rfl,by go_num,by omega,by omega,z,fun k K v=>?_,c.trans (u.mono c.size)⟩;rcases Nat.lt_or_ge ((a+b)/2) k with h|h
     ·cases F:ltI (en k).1 d with
      | false=>rfl
      | true=>exact absurd (ZdN (Da A _ _ h v) F) (by rw[Da r];simp)
     ·obtain rfl:k=(a+b)/2:=by omega
      exact Da r
    case measure=>simp[intOf];omega
  ·obtain rfl:a=b:=by omega
   by_cases q:a<n
   ·have o:g<w.heap.size:=World.block_lt_of_cell? _ _ (f _ q);have L:=(c.cell (p:=⟨g,a*3,none⟩) o).trans (f _ q);have M:=(c.cell (p:=⟨g,a*3+1,none⟩) o).trans (l _ q);have N:=(c.cell (p:=⟨g,a*3+2,none⟩) o).trans (m _ q);have B:=Db f;have C:=Db l;have D:=Db m;clear f l m;go_wp2_with fail;refine(ZnK (en a) _ _).mono ?_;rintro e w' ⟨rfl,u⟩;have H:=Zie (en a).1 d;have I:=Db H;clear H;go_wp2
    go_ret2
    refine⟨a,_,rfl,⟨x,z,y,?_⟩,c.trans (u.mono c.size)⟩;simp[Da I,q]
   ·have F:decide (((a:Nat):Int)<(n:Int))=false:=by simp;omega
    have B:=Db f;have C:=Db l;have D:=Db m;clear f l m;go_wp2
    go_ret2
    exact⟨a,_,rfl,⟨x,z,y,by simp[q]⟩,c⟩
theorem srchI(v:Value)(es:List (Int×VF))(l:Int)(w:World)(B:Sl w 293 3 v es.length (Dr es))(F:es.length<=10000)(G:SrtI es):
  Calls Tryz.prog 258 #[v,.int .i64 l,.func (.func 259) #[] #[]] w fun e w'=>∃(i:Nat) (b:Bool),e = .returned (.tuple #[.int .i64 i,.bool b])/\AtI es l i b/\Below w.heap.size w w':=by
 rcases B.2 with⟨rfl,z⟩|⟨g,r,L,rfl,A,hc,aa,hL,C⟩
 ·have:es=[]:=List.eq_nil_of_length_eq_zero z;subst this;go_enter Tryz.func258,Tryz.ntmps258;go_wp2_with fail
  go_loopw [9,10] (fun i j wr=>i = .int .i64 0/\j = .int .i64 0/\wr=w) (fun _ _ _=>0)
  case atStart=>exact⟨rfl,rfl,rfl⟩
  case round=>
   obtain⟨rfl,rfl,rfl⟩:=hrel;go_wp2
   go_ret2
   exact⟨0,false,rfl,⟨Nat.zero_le _,fun k x h _=>absurd h (Nat.not_lt_zero _),fun k x _ h=>by simp at h,by simp⟩,Below.refl _ _⟩
 ·have o:∀j u,(Dr es)[j]?=some u->w.cell? ⟨g,j,none⟩=some u:=fun j u f=>by
   rw[A.cell];rw[<-C,List.getElem?_take]at f
   split at f
   ·exact f
   ·cases f
  cases hes:es with
  | nil=>
   subst hes;refine(bsrI g 0 r (fun _=>(0,⟨none,0,0,0⟩)) l w (by omega) (fun k h=>absurd h (by omega)) (fun k h=>absurd h (by omega)) (fun k h=>absurd h (by omega)) (fun j k _ h=>absurd h (by omega))).mono ?_;rintro e w' ⟨i,b,rfl,⟨s,t,y,m⟩,n⟩;obtain rfl:i=0:=by omega
   exact⟨0,b,rfl,⟨Nat.le_refl _,fun k x h _=>absurd h (by omega),fun k x _ h=>by simp at h,by rw[m];simp⟩,n⟩
  | cons x0 l0=>
   rw[<-hes];have d:∀k,k<es.length->es[k]?=some (es.getD k x0):=fun k a=>by simp[List.getD,List.getElem?_eq_getElem a]
   refine(bsrI g es.length r (fun k=>es.getD k x0) l w F (fun k a=>o _ _ (Qu es k _ (d k a)).1) (fun k a=>o _ _ (Qu es k _ (d k a)).2.1) (fun k a=>o _ _ (Qu es k _ (d k a)).2.2)
    (fun j k E a=>G j k _ _ E (d j (by omega)) (d k a))).mono ?_
   rintro e w' ⟨i,b,rfl,⟨s,t,y,m⟩,n⟩;have p:∀k x,es[k]?=some x->k<es.length:=fun k x h=>(List.getElem?_eq_some_iff.1 h).1
   have q:∀k x,es[k]?=some x->x=es.getD k x0:=fun k x h=>by have:=d k (p k x h);rw[h]at this;exact Option.some.inj this
   refine⟨i,b,rfl,⟨s,fun k x a c=>?_,fun k x a c=>?_,?_⟩,n⟩
   ·rw[q k x c];exact t k a
   ·rw[q k x c];exact y k a (p k x c)
   ·rw[m];constructor
    ·rintro⟨D,e⟩;exact⟨_,d i D,e⟩
    ·rintro⟨x,c,e⟩;exact⟨p i x c,by rw[<-e,q i x c]⟩
abbrev NS:=Nat->List (ByteArray×VS)
abbrev LS:=List (ByteArray×VS)
abbrev LF:=List (Int×VF)
end Go.Proofs.YtaieidcohdhgpaaGreatDoor
