/- Spoilt. -/
import Derived.Test.YtaieidcohdhgpaaGreatDoorXAA
namespace Go.Proofs.YtaieidcohdhgpaaGreatDoor
set_option maxHeartbeats 40000000
set_option maxRecDepth 100000
open Go.RowKit
theorem U1:∀l:List UInt8,Op.bytesLess l l=false
 | []=>rfl
 | a::l=>by simp[Op.bytesLess,U1 l]
theorem T7:∀a b c:List UInt8,Op.bytesLess a b=true->Op.bytesLess b c=true->Op.bytesLess a c=true
 | [],[],_,h,_=>by simp[Op.bytesLess]at h
 | [],_::_,[],_,h=>by simp[Op.bytesLess]at h
 | [],_::_,_::_,_,_=>by simp[Op.bytesLess]
 | _::_,[],_,h,_=>by simp[Op.bytesLess]at h
 | _::_,_::_,[],_,h=>by simp[Op.bytesLess]at h
 | a::x,b::y,c::z,e,d=>by
  simp only[Op.bytesLess,FN,Bu,AJ,Fc]at e d ⊢;rcases e with e|⟨rfl,e⟩
  ·rcases d with d|⟨rfl,d⟩
   ·exact .inl (UInt8.lt_trans e d)
   ·exact .inl e
  ·rcases d with d|⟨rfl,d⟩
   ·exact .inl d
   ·exact .inr ⟨rfl,T7 x y z e d⟩
theorem T6:∀a b:List UInt8,Op.bytesLess a b=false->a≠b->Op.bytesLess b a=true
 | [],[],_,h=>absurd rfl h
 | [],_::_,h,_=>by simp[Op.bytesLess]at h
 | _::_,[],_,_=>by simp[Op.bytesLess]
 | a::x,b::y,h,hne=>by
  simp only[Op.bytesLess,Bool.or_eq_false_iff,decide_eq_false_iff_not,Bool.and_eq_false_iff,BK]at h;simp only[Op.bytesLess,FN,Bu,AJ,Fc];by_cases e:a=b
  ·subst e;refine .inr ⟨rfl,T6 x y (h.2.resolve_left (fun k=>k rfl)) (fun k=>hne (by rw[k]))⟩
  ·refine .inl ?_;have c:=h.1;rw[UInt8.lt_iff_toNat_lt]at c ⊢;have h2:a.toNat≠b.toNat:=fun k=>e (E8.1 k)
   omega
theorem Uv(a:By):Hu a a=false:=U1 _
theorem Rf{a b c:By}(h:Hu a b=true)(k:Hu b c=true):Hu a c=true:=T7 _ _ _ h k
theorem toList_inj{a b:By}(h:a.toList=b.toList):a=b:=by
 rw[CM,CM]at h;exact A7 h
theorem ZlL{a b:By}(h:Hu a b=false)(c:a≠b):Hu b a=true:=T6 _ _ h (fun e=>c (toList_inj e))
theorem SQ(a b:By):KV a b<0↔Hu a b=true:=by
 unfold KV;split
 ·simp[*]
 ·split<;>simp[*]
theorem ZmF(a b:By):KV a b=0↔a=b:=by
 unfold KV;split
 ·rename_i h;simp only[show((-1:Int)=0)=False by simp,false_iff];rintro rfl;rw[Uv]at h;cases h
 ·split
  ·rename_i h;simp[toList_inj h]
  ·rename_i h;simp only[show((1:Int)=0)=False by simp,false_iff];rintro rfl;exact h rfl
def GU(a b:Int):Bool:=decide (a<b)
theorem Kq(a:Int):GU a a=false:=by simp[GU]
theorem N5{a b c:Int}(h:GU a b=true)(k:GU b c=true):GU a c=true:=by simp[GU]at *;omega
theorem Vv{a b:Int}(h:GU a b=false)(aa:a≠b):GU b a=true:=by simp[GU]at *;omega
theorem U0(a b:Int):Ki a b<0↔GU a b=true:=by
 unfold Ki GU;split
 ·simp[*]
 ·split<;>simp[*]
theorem Vi(a b:Int):Ki a b=0↔a=b:=by
 unfold Ki;split
 ·simp;omega
 ·split<;>simp[*]
structure VS where
 p:OA
 f:Int
structure VF where
 a:OA
 l:Nat
 c:Nat
 f:Int
def Hq(x:By×VS):F6:=[.string x.1,.pointer x.2.p,.int .i64 x.2.f]
def Dq(es:List (By×VS)):F6:=es.flatMap Hq
theorem Xq(es:List (By×VS)):(Dq es).length=es.length*3:=by
 induction es with
 | nil=>rfl
 | cons a l ih=>simp[Dq,Hq]at ih ⊢;omega
theorem Xp(a b:List (By×VS)):Dq (a++b)=Dq a++Dq b:=by simp[Dq]
theorem WJ(es:List (By×VS))(i:Nat):(Dq es).take (i*3)=Dq (es.take i):=by
 induction es generalizing i with
 | nil=>simp[Dq]
 | cons a l ih=>
  cases i with
  | zero=>simp[Dq]
  | succ i=>
   have:=ih i;simp only[Dq,A9,Ew]at this ⊢;rw[<-this,show(i+1)*3=(Hq a).length+i*3 by simp[Hq];omega,CE]
theorem WX(es:List (By×VS))(i:Nat):(Dq es).drop (i*3)=Dq (es.drop i):=by
 induction es generalizing i with
 | nil=>simp[Dq]
 | cons a l ih=>
  cases i with
  | zero=>simp[Dq]
  | succ i=>
   have:=ih i;simp only[Dq,A9,CK]at this ⊢;rw[<-this,show(i+1)*3=(Hq a).length+i*3 by simp[Hq];omega,CF]
theorem NW(es:List (By×VS)):∀u∈Dq es,u.oneCell'=true:=by
 intro u a;simp only[Dq,ET,Hq,AE,Ft,or_false]at a;obtain⟨x,_,rfl|rfl|rfl⟩:=a<;>simp[Value.oneCell']
theorem QL(es:List (By×VS))(k:Nat)(x:By×VS)(h:es[k]?=some x):(Dq es)[k*3]?=some (.string x.1)/\(Dq es)[k*3+1]?=some (.pointer x.2.p)/\(Dq es)[k*3+2]?=some (.int .i64 x.2.f):=by
 induction es generalizing k with
 | nil=>simp at h
 | cons a l ih=>
  cases k with
  | zero=>simp at h;subst h;simp[Dq,Hq]
  | succ k=>
   simp at h;have:=ih k h;simp only[Dq,A9]at this ⊢;have e:∀r,(Hq a++List.flatMap Hq l)[(k+1)*3+r]?=(List.flatMap Hq l)[k*3+r]? := fun r=>by
    rw[AH (by simp[Hq];omega)];congr 1;simp[Hq];omega
   have b:=e 0;simp only[El]at b;rw[b,e 1,e 2];exact this
def Gm(es:List (By×VS)):Prop:=∀(j k:Nat) (x y:By×VS),j<k->es[j]?=some x->es[k]?=some y->Hu x.1 y.1=true
def Lm(es:List (By×VS))(t:By)(i:Nat)(b:Bool):Prop:=
 i<=es.length/\(∀k x,k<i->es[k]?=some x->Hu x.1 t=true)/\(∀k x,i<=k->es[k]?=some x->Hu x.1 t=false)/\(b=true↔∃x,es[i]?=some x/\x.1=t)
theorem Se(x:By×VS)(a:By)(w:World):Cl 294 #[.agg #[.string x.1,.pointer x.2.p,.int .i64 x.2.f],.string a] w fun e w'=>e = .returned (.int .i64 (KV x.1 a))/\Bw w w':=by
 go_enter Tryz.func294,Tryz.ntmps294;go_wp2_with (go_at_call 295;refine(ZI _ _ _).mono ?_;rintro e w' ⟨rfl,rfl⟩);go_ret;exact⟨rfl,(Al _ _).alloc (Aa _) _⟩
theorem Nf(g n K:Nat)(c:Nat->By×VS)(f:By)(w:World)(hn:n<=10000)
 (l:∀k,k<n->w.cell? ⟨g,k*3,none⟩=some (.string (c k).1))
 (m:∀k,k<n->w.cell? ⟨g,k*3+1,none⟩=some (.pointer (c k).2.p))
 (o:∀k,k<n->w.cell? ⟨g,k*3+2,none⟩=some (.int .i64 (c k).2.f))
 (H:∀j k,j<k->k<n->Hu (c j).1 (c k).1=true):
  Cl 293 #[.slice (some ⟨g,0,none⟩) n K,.string f,.func (.func 294) #[] #[]] w fun e w'=>∃(i:Nat) (b:Bool),e = .returned (.tuple #[.int .i64 i,.bool b])/\
   (i<=n/\(∀k,k<i->Hu (c k).1 f=true)/\(∀k,i<=k->k<n->Hu (c k).1 f=false)/\(b=true↔i<n/\(c i).1=f))/\Bw w w':=by
 have B:=Db H;clear H;go_enter Tryz.func293,Tryz.ntmps293;go_wp2_with fail
 go_loopw [9,10] (fun i j wr=>∃a b:Nat,i = .int .i64 a/\j = .int .i64 b/\a<=b/\b<=n/\Hid (∀k,k<a->Hu (c k).1 f=true)/\Hid (∀k,b<=k->k<n->Hu (c k).1 f=false)/\Bw w wr) (fun i j _=>(intOf j-intOf i).toNat)
 case atStart=>exact⟨0,n,rfl,rfl,Aw _,Aa _,fun _ h=>absurd h (Eu _),fun k L x=>absurd x (by omega),Al _ _⟩
 case round=>
  obtain⟨a,b,rfl,rfl,aa,y,A,z,d⟩:=hrel;by_cases ab:a<b
  ·have u:(a+b)/2<n:=by omega
   have q:g<w.heap.size:=Aj _ _ (l _ u);have q0:=(d.cell (p:=⟨g,(a+b)/2*3,none⟩) q).trans (l _ u);have M:=(d.cell (p:=⟨g,(a+b)/2*3+1,none⟩) q).trans (m _ u);have N:=(d.cell (p:=⟨g,(a+b)/2*3+2,none⟩) q).trans (o _ u);have C:=Db l;have D:=Db m;have E:=Db o;clear l m o;go_wp2_with fail;refine(Se (c ((a+b)/2)) _ _).mono ?_;rintro e w' ⟨rfl,v⟩;by_cases F:KV (c ((a+b)/2)).1 f<0
   ·have t:=(SQ _ _).1 F;have s:=Db t;clear t;go_wp2
    go_roundw
    case rel=>
     refine⟨(a+b)/2+1,b,by go_num,rfl,by omega,y,fun k hk=>?_,z,d.trans (v.mono d.size)⟩;rcases AO k ((a+b)/2) with h|h
     ·exact Rf (Da B _ _ h u) (Da s)
     ·obtain rfl:k=(a+b)/2:=by omega
      exact Da s
    case measure=>simp[intOf];omega
   ·have t:Hu (c ((a+b)/2)).1 f=false:=by
     cases h:Hu (c ((a+b)/2)).1 f with
     | false=>rfl
     | true=>exact absurd ((SQ _ _).2 h) F
    have s:=Db t;clear t;go_wp2
    go_roundw
    case rel=>
     refine⟨a,(a+b)/2,rfl,by go_num,by omega,by omega,A,fun k L x=>?_,d.trans (v.mono d.size)⟩;rcases AO ((a+b)/2) k with h|h
     ·cases G:Hu (c k).1 f with
      | false=>rfl
      | true=>exact absurd (Rf (Da B _ _ h x) G) (by rw[Da s];simp)
     ·obtain rfl:k=(a+b)/2:=by omega
      exact Da s
    case measure=>simp[intOf];omega
  ·obtain rfl:a=b:=by omega
   by_cases r:a<n
   ·have q:g<w.heap.size:=Aj _ _ (l _ r);have q0:=(d.cell (p:=⟨g,a*3,none⟩) q).trans (l _ r);have M:=(d.cell (p:=⟨g,a*3+1,none⟩) q).trans (m _ r);have N:=(d.cell (p:=⟨g,a*3+2,none⟩) q).trans (o _ r);have C:=Db l;have D:=Db m;have E:=Db o;clear l m o;go_wp2_with fail;refine(Se (c a) _ _).mono ?_;rintro e w' ⟨rfl,v⟩;have I:=ZmF (c a).1 f;have J:=Db I;clear I;go_wp2
    go_ret2
    refine⟨a,_,rfl,⟨y,A,z,?_⟩,d.trans (v.mono d.size)⟩;simp[Da J,r]
   ·have G:decide (((a:Nat):Int)<(n:Int))=false:=by simp;omega
    have C:=Db l;have D:=Db m;have E:=Db o;clear l m o;go_wp2
    go_ret2
    exact⟨a,_,rfl,⟨y,A,z,by simp[r]⟩,d⟩
theorem MN(v:Value)(es:List (By×VS))(l:By)(w:World)(B:Sl w 310 3 v es.length (Dq es))(F:es.length<=10000)(G:Gm es):
  Cl 293 #[v,.string l,.func (.func 294) #[] #[]] w fun e w'=>∃(i:Nat) (b:Bool),e = .returned (.tuple #[.int .i64 i,.bool b])/\Lm es l i b/\Bw w w':=by
 rcases B.2 with⟨rfl,z⟩|⟨g,r,L,rfl,A,hc,aa,hL,C⟩
 ·have:es=[]:=Ay z;subst this;go_enter Tryz.func293,Tryz.ntmps293;go_wp2_with fail
  go_loopw [9,10] (fun i j wr=>i = .int .i64 0/\j = .int .i64 0/\wr=w) (fun _ _ _=>0)
  case atStart=>exact⟨rfl,rfl,rfl⟩
  case round=>
   obtain⟨rfl,rfl,rfl⟩:=hrel;go_wp2
   go_ret2
   exact⟨0,false,rfl,⟨Aw _,fun k x h _=>absurd h (Eu _),fun k x _ h=>by simp at h,by simp⟩,Al _ _⟩
 ·have o:∀j u,(Dq es)[j]?=some u->w.cell? ⟨g,j,none⟩=some u:=fun j u f=>by
   rw[A.cell];rw[<-C,Ao]at f
   split at f
   ·exact f
   ·cases f
  cases hes:es with
  | nil=>
   subst hes;refine(Nf g 0 r (fun _=>(⟨#[]⟩,⟨none,0⟩)) l w (by omega) (fun k h=>absurd h (by omega)) (fun k h=>absurd h (by omega)) (fun k h=>absurd h (by omega)) (fun j k _ h=>absurd h (by omega))).mono ?_;rintro e w' ⟨i,b,rfl,⟨s,t,y,m⟩,n⟩;obtain rfl:i=0:=by omega
   exact⟨0,b,rfl,⟨Aa _,fun k x h _=>absurd h (by omega),fun k x _ h=>by simp at h,by rw[m];simp⟩,n⟩
  | cons x0 l0=>
   rw[<-hes];have d:∀k,k<es.length->es[k]?=some (es.getD k x0):=fun k a=>by simp[List.getD,List.getElem?_eq_getElem a]
   refine(Nf g es.length r (fun k=>es.getD k x0) l w F (fun k a=>o _ _ (QL es k _ (d k a)).1) (fun k a=>o _ _ (QL es k _ (d k a)).2.1) (fun k a=>o _ _ (QL es k _ (d k a)).2.2)
    (fun j k E a=>G j k _ _ E (d j (by omega)) (d k a))).mono ?_
   rintro e w' ⟨i,b,rfl,⟨s,t,y,m⟩,n⟩;have p:∀k x,es[k]?=some x->k<es.length:=fun k x h=>(Ae.1 h).1
   have q:∀k x,es[k]?=some x->x=es.getD k x0:=fun k x h=>by have:=d k (p k x h);rw[h]at this;exact BV this
   refine⟨i,b,rfl,⟨s,fun k x a c=>?_,fun k x a c=>?_,?_⟩,n⟩
   ·rw[q k x c];exact t k a
   ·rw[q k x c];exact y k a (p k x c)
   ·rw[m];constructor
    ·rintro⟨D,e⟩;exact⟨_,d i D,e⟩
    ·rintro⟨x,c,e⟩;exact⟨p i x c,by rw[<-e,q i x c]⟩
def He(x:Int×VF):F6:=[.int .i64 x.1,.slice x.2.a x.2.l x.2.c,.int .i64 x.2.f]
def Du(es:List (Int×VF)):F6:=es.flatMap He
theorem RR(es:List (Int×VF)):(Du es).length=es.length*3:=by
 induction es with
 | nil=>rfl
 | cons a l ih=>simp[Du,He]at ih ⊢;omega
theorem Xn(a b:List (Int×VF)):Du (a++b)=Du a++Du b:=by simp[Du]
theorem WW(es:List (Int×VF))(i:Nat):(Du es).take (i*3)=Du (es.take i):=by
 induction es generalizing i with
 | nil=>simp[Du]
 | cons a l ih=>
  cases i with
  | zero=>simp[Du]
  | succ i=>
   have:=ih i;simp only[Du,A9,Ew]at this ⊢;rw[<-this,show(i+1)*3=(He a).length+i*3 by simp[He];omega,CE]
theorem WV(es:List (Int×VF))(i:Nat):(Du es).drop (i*3)=Du (es.drop i):=by
 induction es generalizing i with
 | nil=>simp[Du]
 | cons a l ih=>
  cases i with
  | zero=>simp[Du]
  | succ i=>
   have:=ih i;simp only[Du,A9,CK]at this ⊢;rw[<-this,show(i+1)*3=(He a).length+i*3 by simp[He];omega,CF]
theorem NU(es:List (Int×VF)):∀u∈Du es,u.oneCell'=true:=by
 intro u a;simp only[Du,ET,He,AE,Ft,or_false]at a;obtain⟨x,_,rfl|rfl|rfl⟩:=a<;>simp[Value.oneCell']
theorem QK(es:List (Int×VF))(k:Nat)(x:Int×VF)(h:es[k]?=some x):(Du es)[k*3]?=some (.int .i64 x.1)/\(Du es)[k*3+1]?=some (.slice x.2.a x.2.l x.2.c)/\(Du es)[k*3+2]?=some (.int .i64 x.2.f):=by
 induction es generalizing k with
 | nil=>simp at h
 | cons a l ih=>
  cases k with
  | zero=>simp at h;subst h;simp[Du,He]
  | succ k=>
   simp at h;have:=ih k h;simp only[Du,A9]at this ⊢;have e:∀r,(He a++List.flatMap He l)[(k+1)*3+r]?=(List.flatMap He l)[k*3+r]? := fun r=>by
    rw[AH (by simp[He];omega)];congr 1;simp[He];omega
   have b:=e 0;simp only[El]at b;rw[b,e 1,e 2];exact this
def Gn(es:List (Int×VF)):Prop:=∀(j k:Nat) (x y:Int×VF),j<k->es[j]?=some x->es[k]?=some y->GU x.1 y.1=true
def I0(es:List (Int×VF))(t:Int)(i:Nat)(b:Bool):Prop:=
 i<=es.length/\(∀k x,k<i->es[k]?=some x->GU x.1 t=true)/\(∀k x,i<=k->es[k]?=some x->GU x.1 t=false)/\(b=true↔∃x,es[i]?=some x/\x.1=t)
theorem SF(x:Int×VF)(a:Int)(w:World):Cl 259 #[.agg #[.int .i64 x.1,.slice x.2.a x.2.l x.2.c,.int .i64 x.2.f],.int .i64 a] w fun e w'=>e = .returned (.int .i64 (Ki x.1 a))/\Bw w w':=by
 go_enter Tryz.func259,Tryz.ntmps259;go_wp2_with (go_at_call 260;refine(ZG _ _ _).mono ?_;rintro e w' ⟨rfl,rfl⟩);go_ret;exact⟨rfl,(Al _ _).alloc (Aa _) _⟩
theorem Nh(g n K:Nat)(c:Nat->Int×VF)(f:Int)(w:World)(hn:n<=10000)
 (l:∀k,k<n->w.cell? ⟨g,k*3,none⟩=some (.int .i64 (c k).1))
 (m:∀k,k<n->w.cell? ⟨g,k*3+1,none⟩=some (.slice (c k).2.a (c k).2.l (c k).2.c))
 (o:∀k,k<n->w.cell? ⟨g,k*3+2,none⟩=some (.int .i64 (c k).2.f))
 (H:∀j k,j<k->k<n->GU (c j).1 (c k).1=true):
  Cl 258 #[.slice (some ⟨g,0,none⟩) n K,.int .i64 f,.func (.func 259) #[] #[]] w fun e w'=>∃(i:Nat) (b:Bool),e = .returned (.tuple #[.int .i64 i,.bool b])/\
   (i<=n/\(∀k,k<i->GU (c k).1 f=true)/\(∀k,i<=k->k<n->GU (c k).1 f=false)/\(b=true↔i<n/\(c i).1=f))/\Bw w w':=by
 have B:=Db H;clear H;go_enter Tryz.func258,Tryz.ntmps258;go_wp2_with fail
 go_loopw [9,10] (fun i j wr=>∃a b:Nat,i = .int .i64 a/\j = .int .i64 b/\a<=b/\b<=n/\Hid (∀k,k<a->GU (c k).1 f=true)/\Hid (∀k,b<=k->k<n->GU (c k).1 f=false)/\Bw w wr) (fun i j _=>(intOf j-intOf i).toNat)
 case atStart=>exact⟨0,n,rfl,rfl,Aw _,Aa _,fun _ h=>absurd h (Eu _),fun k L x=>absurd x (by omega),Al _ _⟩
 case round=>
  obtain⟨a,b,rfl,rfl,aa,y,A,z,d⟩:=hrel;by_cases ab:a<b
  ·have u:(a+b)/2<n:=by omega
   have q:g<w.heap.size:=Aj _ _ (l _ u);have q0:=(d.cell (p:=⟨g,(a+b)/2*3,none⟩) q).trans (l _ u);have M:=(d.cell (p:=⟨g,(a+b)/2*3+1,none⟩) q).trans (m _ u);have N:=(d.cell (p:=⟨g,(a+b)/2*3+2,none⟩) q).trans (o _ u);have C:=Db l;have D:=Db m;have E:=Db o;clear l m o;go_wp2_with fail;refine(SF (c ((a+b)/2)) _ _).mono ?_;rintro e w' ⟨rfl,v⟩;by_cases F:Ki (c ((a+b)/2)).1 f<0
   ·have t:=(U0 _ _).1 F;have s:=Db t;clear t;go_wp2
    go_roundw
    case rel=>
     refine⟨(a+b)/2+1,b,by go_num,rfl,by omega,y,fun k hk=>?_,z,d.trans (v.mono d.size)⟩;rcases AO k ((a+b)/2) with h|h
     ·exact N5 (Da B _ _ h u) (Da s)
     ·obtain rfl:k=(a+b)/2:=by omega
      exact Da s
    case measure=>simp[intOf];omega
   ·have t:GU (c ((a+b)/2)).1 f=false:=by
     cases h:GU (c ((a+b)/2)).1 f with
     | false=>rfl
     | true=>exact absurd ((U0 _ _).2 h) F
    have s:=Db t;clear t;go_wp2
    go_roundw
    case rel=>
     refine⟨a,(a+b)/2,rfl,by go_num,by omega,by omega,A,fun k L x=>?_,d.trans (v.mono d.size)⟩;rcases AO ((a+b)/2) k with h|h
     ·cases G:GU (c k).1 f with
      | false=>rfl
      | true=>exact absurd (N5 (Da B _ _ h x) G) (by rw[Da s];simp)
     ·obtain rfl:k=(a+b)/2:=by omega
      exact Da s
    case measure=>simp[intOf];omega
  ·obtain rfl:a=b:=by omega
   by_cases r:a<n
   ·have q:g<w.heap.size:=Aj _ _ (l _ r);have q0:=(d.cell (p:=⟨g,a*3,none⟩) q).trans (l _ r);have M:=(d.cell (p:=⟨g,a*3+1,none⟩) q).trans (m _ r);have N:=(d.cell (p:=⟨g,a*3+2,none⟩) q).trans (o _ r);have C:=Db l;have D:=Db m;have E:=Db o;clear l m o;go_wp2_with fail;refine(SF (c a) _ _).mono ?_;rintro e w' ⟨rfl,v⟩;have I:=Vi (c a).1 f;have J:=Db I;clear I;go_wp2
    go_ret2
    refine⟨a,_,rfl,⟨y,A,z,?_⟩,d.trans (v.mono d.size)⟩;simp[Da J,r]
   ·have G:decide (((a:Nat):Int)<(n:Int))=false:=by simp;omega
    have C:=Db l;have D:=Db m;have E:=Db o;clear l m o;go_wp2
    go_ret2
    exact⟨a,_,rfl,⟨y,A,z,by simp[r]⟩,d⟩
theorem MP(v:Value)(es:List (Int×VF))(l:Int)(w:World)(B:Sl w 293 3 v es.length (Du es))(F:es.length<=10000)(G:Gn es):
  Cl 258 #[v,.int .i64 l,.func (.func 259) #[] #[]] w fun e w'=>∃(i:Nat) (b:Bool),e = .returned (.tuple #[.int .i64 i,.bool b])/\I0 es l i b/\Bw w w':=by
 rcases B.2 with⟨rfl,z⟩|⟨g,r,L,rfl,A,hc,aa,hL,C⟩
 ·have:es=[]:=Ay z;subst this;go_enter Tryz.func258,Tryz.ntmps258;go_wp2_with fail
  go_loopw [9,10] (fun i j wr=>i = .int .i64 0/\j = .int .i64 0/\wr=w) (fun _ _ _=>0)
  case atStart=>exact⟨rfl,rfl,rfl⟩
  case round=>
   obtain⟨rfl,rfl,rfl⟩:=hrel;go_wp2
   go_ret2
   exact⟨0,false,rfl,⟨Aw _,fun k x h _=>absurd h (Eu _),fun k x _ h=>by simp at h,by simp⟩,Al _ _⟩
 ·have o:∀j u,(Du es)[j]?=some u->w.cell? ⟨g,j,none⟩=some u:=fun j u f=>by
   rw[A.cell];rw[<-C,Ao]at f
   split at f
   ·exact f
   ·cases f
  cases hes:es with
  | nil=>
   subst hes;refine(Nh g 0 r (fun _=>(0,⟨none,0,0,0⟩)) l w (by omega) (fun k h=>absurd h (by omega)) (fun k h=>absurd h (by omega)) (fun k h=>absurd h (by omega)) (fun j k _ h=>absurd h (by omega))).mono ?_;rintro e w' ⟨i,b,rfl,⟨s,t,y,m⟩,n⟩;obtain rfl:i=0:=by omega
   exact⟨0,b,rfl,⟨Aa _,fun k x h _=>absurd h (by omega),fun k x _ h=>by simp at h,by rw[m];simp⟩,n⟩
  | cons x0 l0=>
   rw[<-hes];have d:∀k,k<es.length->es[k]?=some (es.getD k x0):=fun k a=>by simp[List.getD,List.getElem?_eq_getElem a]
   refine(Nh g es.length r (fun k=>es.getD k x0) l w F (fun k a=>o _ _ (QK es k _ (d k a)).1) (fun k a=>o _ _ (QK es k _ (d k a)).2.1) (fun k a=>o _ _ (QK es k _ (d k a)).2.2)
    (fun j k E a=>G j k _ _ E (d j (by omega)) (d k a))).mono ?_
   rintro e w' ⟨i,b,rfl,⟨s,t,y,m⟩,n⟩;have p:∀k x,es[k]?=some x->k<es.length:=fun k x h=>(Ae.1 h).1
   have q:∀k x,es[k]?=some x->x=es.getD k x0:=fun k x h=>by have:=d k (p k x h);rw[h]at this;exact BV this
   refine⟨i,b,rfl,⟨s,fun k x a c=>?_,fun k x a c=>?_,?_⟩,n⟩
   ·rw[q k x c];exact t k a
   ·rw[q k x c];exact y k a (p k x c)
   ·rw[m];constructor
    ·rintro⟨D,e⟩;exact⟨_,d i D,e⟩
    ·rintro⟨x,c,e⟩;exact⟨p i x c,by rw[<-e,q i x c]⟩
abbrev NS:=Nat->List (ByteArray×VS)
abbrev LS:=List (ByteArray×VS)
abbrev LF:=List (Int×VF)
theorem Sp(L xs a:F6)(i n:Nat)(hL:(n+1)*3<=L.length)(d:L.take (n*3)=xs)(hi:i<n)(b:a.length=3):
  (F8 (F8 L ((i+1)*3) (xs.drop (i*3))) (i*3) a).take ((n+1)*3)=xs.take (i*3)++a++xs.drop (i*3):=by
 have c:xs.length=n*3:=by rw[<-d,Am];omega
 have g:(xs.drop (i*3)).length=(n-i)*3:=by rw[Az,c];omega
 have e:(F8 L ((i+1)*3) (xs.drop (i*3))).take (i*3)=xs.take (i*3):=by
  unfold F8;rw[Ar,A4 (by rw[Am];omega),B9,BB (by omega),<-d,B9,BB (by omega)]
 have f:(F8 L ((i+1)*3) (xs.drop (i*3))).drop (i*3+a.length)=xs.drop (i*3)++L.drop ((i+1)*3+(xs.drop (i*3)).length):=by
  unfold F8;rw[Ar,b,show i*3+3=(L.take ((i+1)*3)).length by rw[Am];omega,Fi]
 rw[F8,e,f,<-Ar];exact BP (by simp only[Ad,Am,g,b,c];omega)
theorem S9(Z xs a:F6)(i n:Nat)(f:xs.length=n*3)(hi:i<n)(_hZ:(n+1)*3<=(xs.take (i*3)++Z).length)(c:a.length=3):
  (F8 (F8 (xs.take (i*3)++Z) (i*3) a) ((i+1)*3) (xs.drop (i*3))).take ((n+1)*3)=xs.take (i*3)++a++xs.drop (i*3):=by
 have e:(xs.drop (i*3)).length=(n-i)*3:=by rw[Az,f];omega
 have b:(xs.take (i*3)).length=i*3:=by rw[Am];omega
 have d:(F8 (xs.take (i*3)++Z) (i*3) a).take ((i+1)*3)=xs.take (i*3)++a:=by
  unfold F8;rw[BP b];exact BP (by simp only[Ad,b,c];omega)
 rw[F8,d];exact BP (by simp only[Ad,b,e,c];omega)
theorem So(L xs z:F6)(i n:Nat)(hL:n*3<=L.length)(c:L.take (n*3)=xs)(hi:i<n):
  (F8 (F8 L (i*3) (xs.drop ((i+1)*3))) ((n-1)*3) z).take ((n-1)*3)=xs.take (i*3)++xs.drop ((i+1)*3):=by
 have f:xs.length=n*3:=by rw[<-c,Am];omega
 have a:(xs.drop ((i+1)*3)).length=(n-1-i)*3:=by rw[Az,f];omega
 have d:L.take (i*3)=xs.take (i*3):=by rw[<-c,B9,BB (by omega)]
 have b:(xs.take (i*3)).length=i*3:=by rw[Am];omega
 have e:(F8 L (i*3) (xs.drop ((i+1)*3))).take ((n-1)*3)=xs.take (i*3)++xs.drop ((i+1)*3):=by
  unfold F8;rw[d];exact BP (by simp only[Ad,b,a];omega)
 rw[F8,Ar,e];exact BP (by simp only[Ad,b,a];omega)
theorem Ls(w1:World)(b:Nat)(x y g c:Value)(e:w1.cell? ⟨b,0,none⟩=some g)(f:w1.cell? ⟨b,1,none⟩=some c):
  (w1.setCell ⟨b,0,none⟩ x).cell? ⟨b,0,none⟩=some x/\((w1.setCell ⟨b,0,none⟩ x).setCell ⟨b,1,none⟩ y).cell? ⟨b,0,none⟩=some x/\((w1.setCell ⟨b,0,none⟩ x).setCell ⟨b,1,none⟩ y).cell? ⟨b,1,none⟩=some y:=by
 have a:(w1.setCell ⟨b,0,none⟩ x).cell? ⟨b,0,none⟩=some x:=Ck _ _ _ e;have d:(w1.setCell ⟨b,0,none⟩ x).cell? ⟨b,1,none⟩=some c:=(BR _ _ _ _ (by simp)).trans f;exact⟨a,(BR _ _ _ _ (by simp)).trans a,Ck _ _ _ d⟩
theorem Oq(w:World)(o:Obj)(p:Addr)(h:p.block<w.heap.size):(w.alloc o).cell? p=w.cell? p:=(Below.cell (B:=w.heap.size) ((Al _ _).alloc (Aa _) o) h)
structure IK(w w':World)(hb ho:Nat)(v v':Value):Prop where
 os:w'.os=w.os
 tape:w'.tape=w.tape
 output:w'.output=w.output
 size:w.heap.size<=w'.heap.size
 block:∀k,k<w.heap.size->k≠hb->v.ownBlock≠some k->w'.heap[k]?=w.heap[k]?
 head:w'.heap[hb]?=(w.setCell ⟨hb,ho,none⟩ v').heap[hb]?
theorem Sl.setCell{w:World}{e:TypeId}{b:Nat}{v:Value}{n:Nat}{xs:F6}(h:Sl w e b v n xs)(a:Addr)(u:Value)(i:v.ownBlock≠some a.block):Sl (w.setCell a u) e b v n xs:=by
 refine⟨h.1,?_⟩;rcases h.2 with d|⟨g,c,L,rfl,j,f⟩
 ·exact .inl d
 ·refine .inr ⟨g,c,L,rfl,?_,f⟩;unfold F0;rw[AB _ _ _ _ (fun e=>i (by simp[Value.ownBlock,e]))];exact j
theorem Sl.heap{w w':World}{e:TypeId}{a:Nat}{v:Value}{n:Nat}{xs:F6}(h:Sl w e a v n xs)(b:w'.heap=w.heap):Sl w' e a v n xs:=by
 unfold Sl F0 at h ⊢;rw[b];exact h
theorem Sl.kept{w w':World}{e:TypeId}{b:Nat}{v:Value}{n:Nat}{xs:F6}(h:Sl w e b v n xs)(i:∀k,k<w.heap.size->v.ownBlock=some k->w'.heap[k]?=w.heap[k]?):Sl w' e b v n xs:=by
 refine⟨h.1,?_⟩;rcases h.2 with d|⟨g,c,L,rfl,a,f⟩
 ·exact .inl d
 ·refine .inr ⟨g,c,L,rfl,?_,f⟩;unfold F0;rw[i g a.lt rfl];exact a
theorem Sl.lt{w:World}{e:TypeId}{c:Nat}{v:Value}{n:Nat}{xs:F6}(h:Sl w e c v n xs){g:Nat}(a:v.ownBlock=some g):g<w.heap.size:=by
 rcases h.2 with⟨rfl,_⟩|⟨g',aa,L,rfl,b,_⟩
 ·simp[Value.ownBlock]at a
 ·simp[Value.ownBlock]at a;subst a;exact b.lt
theorem Sl.shape{w:World}{e:TypeId}{b:Nat}{v:Value}{n:Nat}{xs:F6}(h:Sl w e b v n xs):∃a m c,v = .slice a m c:=by
 rcases h.2 with⟨rfl,_⟩|⟨g',aa,L,rfl,hr,_⟩
 ·exact⟨_,_,_,rfl⟩
 ·exact⟨_,_,_,rfl⟩
theorem UV{w w2:World}{b ho:Nat}{v c:Value}{e:TypeId}{n:Nat}{xs:F6}(f:w.cell? ⟨b,ho,none⟩=some v)(i:v.ownBlock≠some b)(m:Sl w2 e 3 c n xs)(r:Dm w v c)
  (s:w2.os=w.os) (x:w2.tape=w.tape) (t:w2.output=w.output) (u:w.heap.size<=w2.heap.size) (d:∀k,k<w.heap.size->v.ownBlock≠some k->w2.heap[k]?=w.heap[k]?):
  (w2.setCell ⟨b,ho,none⟩ c).cell? ⟨b,ho,none⟩=some c/\Sl (w2.setCell ⟨b,ho,none⟩ c) e 3 c n xs/\IK w (w2.setCell ⟨b,ho,none⟩ c) b ho v c:=by
 have q:b<w.heap.size:=Aj _ _ f;have g:w2.heap[b]?=w.heap[b]? := d b q i;have o:w2.cell? ⟨b,ho,none⟩=some v:=(AC (w:=w) (a:=⟨b,ho,none⟩) g).trans f;refine⟨Ck _ _ _ o,m.setCell _ _ (fun e=>?_),s,x,t,by simpa [World.setCell] using u,fun k p j l=>?_,?_⟩
 ·rcases r b e with h|h
  ·exact i h
  ·omega
 ·rw[AB _ _ _ _ j];exact d k p l
 ·simp only[World.setCell,Fm,if_true];rw[g]
theorem M3(w:World)(v:Value)(es:LS)(i:Nat)(x:By×VS)(d:Nat)(A:Sl w 310 3 v es.length (Dq es))(hi:i<=es.length)(t:es.length<=10000)
  (y:F0 w d 310 (Hq x)) (H:v.ownBlock≠some d):
  Cl 265 #[v,.int .i64 i,.slice (some ⟨d,0,none⟩) 1 1] w fun e w'=>∃l,e = .returned l/\Sl w' 310 3 l (es.length+1) (Dq (es.take i++x::es.drop i))/\w.grownBy w' v.ownBlock/\Dm w v l:=by
 have o:∀u∈Hq x,u.oneCell'=true:=fun u J=>NW [x] u (by simpa [Dq] using J)
 have f:Dq (es.take i++x::es.drop i)=(Dq es).take (i*3)++Hq x++(Dq es).drop (i*3):=by
  rw[WJ,WX,Xp,Ar];rfl
 have j:=Xq es;rcases AO i es.length with n|aa
 ·rcases A.2 with⟨rfl,h0⟩|⟨g,m,L,rfl,z,E,B,c,s⟩
  ·omega
  ·have I:d≠g:=fun e=>H (by simp[Value.ownBlock,e])
   have C:((Dq es).take (i*3)++Hq x++(Dq es).drop (i*3)).length=(es.length+1)*3:=by
    simp only[Ad,Am,Az,j];simp[Hq];omega
   rcases AO m (es.length+1) with F|D
   ·refine(Zkt w g es.length m (Dq es) L i d (Hq x) z c s n E F t y rfl (NW es) o).mono ?_;rintro e w' ⟨G,Z,rfl,p,q,a,r,b⟩;refine⟨_,rfl,⟨by rw[f];exact C,.inr ⟨_,G,_,rfl,r,p,q,?_,?_⟩⟩,⟨b.os,b.tape,b.output,b.size,fun k h _=>b.block k h (by simp;omega)⟩,fun k h => .inr (by simp[Value.ownBlock]at h;omega)⟩
    ·rw[D3,D3,a]
     ·rw[a];simp[Hq];omega
     ·rw[D3 (by rw[a];simp[Hq];omega),a,Az,j];omega
    ·rw[f];exact S9 Z (Dq es) (Hq x) i es.length j n (by rw[a];omega) rfl
   ·refine(Zl1 w g es.length m (Dq es) L i d (Hq x) z c s n D B t y rfl (NW es) o I).mono ?_;rintro e w' ⟨rfl,r,b⟩;refine⟨_,rfl,⟨by rw[f];exact C,.inr ⟨_,m,_,rfl,r,D,B,?_,?_⟩⟩,b,fun k h => .inl h⟩
    ·rw[D3,D3,c]
     ·rw[Az,j,c];omega
     ·rw[D3 (by rw[Az,j,c];omega),c];simp[Hq];omega
    ·rw[f];exact Sp L (Dq es) (Hq x) i es.length (by rw[c];omega) s n rfl
 ·obtain rfl:i=es.length:=by omega
  refine(Zl4 w v es.length (Dq es) d (Hq x) A t y rfl o).mono ?_;rintro e w' ⟨l,rfl,p,q,a⟩;refine⟨l,rfl,?_,q,a⟩;rw[f,Ah (by omega),Cr (by omega),CG];exact p
theorem Nb(w:World)(v:Value)(es:LS)(i:Nat)(o:Sl w 310 3 v es.length (Dq es))(j:i<es.length)(r:es.length<=10000):
  Cl 268 #[v,.int .i64 i,.int .i64 ((i:Int)+1)] w fun e w'=>∃v',e = .returned v'/\Sl w' 310 3 v' (es.length-1) (Dq (es.take i++es.drop (i+1)))/\w.grownBy w' v.ownBlock/\Dm w v v':=by
 have f:Dq (es.take i++es.drop (i+1))=(Dq es).take (i*3)++(Dq es).drop ((i+1)*3):=by
  rw[WJ,WX,Xp]
 have b:=Xq es;rcases o.2 with⟨rfl,h0⟩|⟨g,c,L,rfl,n,p,h,a,d⟩
 ·omega
 ·refine(Mm w g es.length c (Dq es) L i n a d j p h r (NW es)).mono ?_;rintro e w' ⟨rfl,l,m⟩;refine⟨_,rfl,⟨?_,.inr ⟨_,c,_,rfl,l,by omega,h,?_,?_⟩⟩,m,fun k q => .inl q⟩
  ·rw[f];simp only[Ad,Am,Az,b];omega
  ·rw[D3,D3,a]
   ·rw[Az,b,a];omega
   ·rw[D3 (by rw[Az,b,a];omega),a];simp;omega
  ·rw[f];exact So L (Dq es) _ i es.length (by rw[a];omega) d j
theorem O3(w:World)(a ho:Nat)(v:Value)(es:LS)(c:By)(hc:w.cell? ⟨a,ho,none⟩=some v)(f:Sl w 310 3 v es.length (Dq es))(g:es.length<=10000)(h:Gm es):
  Cl 264 #[.pointer (some ⟨a,ho,none⟩),.string c] w fun e w'=>∃(i:Nat) (b:Bool),e = .returned (.tuple #[.int .i64 i,.bool b])/\Lm es c i b/\Bw w w':=by
 have k:=MN v es c w f g h;clear f g h;go_enter Tryz.func264,Tryz.ntmps264;go_wp2_with fail;refine k.mono ?_;rintro e w' ⟨i,b,rfl,d,a⟩;have j:=Db d;clear d;go_wp2
 go_ret2
 exact⟨i,b,rfl,Da j,a⟩
def Sy(es:LS)(key:By)(r:VS)(b:Bool):Prop:=(b=true/\(key,r)∈es)\/(b=false/\r=⟨none,0⟩/\∀x∈es,x.1≠key)
theorem Lm.here{es:LS}{a:By}{i:Nat}(h:Lm es a i true):∃r,es[i]?=some (a,r):=by
 obtain⟨x,b,c⟩:=h.2.2.2.1 rfl;exact⟨x.2,by rw[b,<-c]⟩
theorem Lm.not{es:LS}{j:By}{i:Nat}(l:Gm es)(h:Lm es j i false):∀x∈es,x.1≠j:=by
 intro x m e;obtain⟨k,a⟩:=BF m;rcases AO k i with g|g
 ·have:=h.2.1 k x g a;rw[e,Uv]at this;cases this
 ·rcases AO i k with b|b
  ·have f:i<es.length:=by have:=(Ae.1 a).1;omega
   have c:=l i k _ x b (Ac f) a;have d:=h.2.2.1 i _ (Aa _) (Ac f);rw[e]at c;rw[c]at d;cases d
  ·obtain rfl:k=i:=by omega
   have:=h.2.2.2.2 ⟨x,a,e⟩
   cases this
theorem OJ(w:World)(a ho:Nat)(v:Value)(es:LS)(y:By)(n:w.cell? ⟨a,ho,none⟩=some v)(l:Sl w 310 3 v es.length (Dq es))(P:es.length<=10000)(H:Gm es):
  Cl 266 #[.pointer (some ⟨a,ho,none⟩),.string y] w fun e w'=>∃(r:VS) (b:Bool),e = .returned (.tuple #[.agg #[.pointer r.p,.int .i64 r.f],.bool b])/\Sy es y r b/\Bw w w':=by
 have E:a<w.heap.size:=Aj _ _ n;have m:∀o,Bw w (w.alloc o):=fun o=>(Al _ _).alloc (Aa _) o
 have F:=fun o=>O3 (w.alloc o) a ho v es y (((m o).cell (p:=⟨a,ho,none⟩) E).trans n) (Sl.of_owns (l.owns.alloc o)) P H
 go_enter Tryz.func266,Tryz.ntmps266;go_wp2_with fail;refine(F _).mono ?_;rintro e w1 ⟨i,b,rfl,k,C⟩;have c:Below (w.heap.size+1) (w.alloc (.cells #[.pointer none,.int .i64 0] 260)) w1:=by simpa[Bw]using C
 have h:∀p:Addr,p.block<w.heap.size->w1.cell? p=w.cell? p:=fun p Q=>(c.cell (p:=p) (by omega)).trans ((m _).cell Q)
 have z:∀j,w1.cell? ⟨w.heap.size,j,none⟩=(#[.pointer none,.int .i64 0]:Array Value)[j]? := fun j=>(c.cell (p:=⟨w.heap.size,j,none⟩) (by simp)).trans (CV _ _ _ _ rfl)
 have J:w1.cell? ⟨w.heap.size,0,none⟩=some (.pointer none):=z 0;have K:w1.cell? ⟨w.heap.size,1,none⟩=some (.int .i64 0):=z 1;have f:∀j,w1.frozen? ⟨w.heap.size,j,none⟩=false:=fun j=>(c.frozen (p:=⟨w.heap.size,j,none⟩) (by simp)).trans (World.frozen?_alloc_at _ _ _ _ rfl)
 have f0:=f 0;have f1:=f 1;have G:Bw w w1:=(m _).trans (c.mono (by omega));have I:w.heap.size<w1.heap.size:=by have:=c.size;simp at this;omega
 clear z f F m C
 cases b with
 | false=>
  have N:=Db (Lm.not H k);clear k l h;obtain⟨R,A,B⟩:=Ls w1 w.heap.size (.pointer none) (.int .i64 0) _ _ J K;have t1:=fun o=>(Oq ((w1.setCell ⟨w.heap.size,0,none⟩ (.pointer none)).setCell ⟨w.heap.size,1,none⟩ (.int .i64 0)) o ⟨w.heap.size,0,none⟩ (by simpa using I)).trans A
  have S:=fun o=>(Oq ((w1.setCell ⟨w.heap.size,0,none⟩ (.pointer none)).setCell ⟨w.heap.size,1,none⟩ (.int .i64 0)) o ⟨w.heap.size,1,none⟩ (by simpa using I)).trans B
  go_wp2;exact Ax (v := .tuple #[.agg #[.pointer none,.int .i64 0],.bool false]) (by simp[results,Tryz.results266,go_sem,t1,S]) rfl
   ⟨⟨none,0⟩,false,rfl,.inr ⟨rfl,rfl,Da N⟩,((G.setCell (p:=⟨w.heap.size,0,none⟩) (Aa _) _).setCell (p:=⟨w.heap.size,1,none⟩) (Aa _) _).alloc (by simp;omega) _⟩
 | true=>
  obtain⟨r,d⟩:=k.here;rcases l.2 with⟨rfl,h0⟩|⟨g,aa,L,rfl,t,ab,ac,O,D⟩
  ·have:=(Ae.1 d).1;omega
  ·have x:∀j u,(Dq es)[j]?=some u->w1.cell? ⟨g,j,none⟩=some u:=fun j u s=>by
    rw[h _ t.lt,t.cell];rw[<-D,Ao]at s
    split at s
    ·exact s
    ·cases s
   have q:=QL es i _ d;have q0:=(h ⟨a,ho,none⟩ E).trans n;have q1:=x _ _ q.2.1;have q2:=x _ _ q.2.2;have hi:i<es.length:=(Ae.1 d).1;have M:=Db (An d);clear q x t O D l k d h n;obtain⟨R,A,B⟩:=Ls w1 w.heap.size (.pointer r.p) (.int .i64 r.f) _ _ J K;go_wp2;exact Ax (v := .tuple #[.agg #[.pointer r.p,.int .i64 r.f],.bool true]) (by simp[results,Tryz.results266,go_sem,A,B]) rfl
    ⟨r,true,rfl,.inl ⟨rfl,Da M⟩,(G.setCell (p:=⟨w.heap.size,0,none⟩) (Aa _) _).setCell (p:=⟨w.heap.size,1,none⟩) (Aa _) _⟩
theorem ZlZ{es:LS}{d:By}{i:Nat}(e:VS)(g:Gm es)(h:Lm es d i false):
  Gm (es.take i++(d,e)::es.drop i)/\(es.take i++(d,e)::es.drop i).length=es.length+1/\∀x,x∈es.take i++(d,e)::es.drop i↔x=(d,e)\/x∈es:=by
 have hi:=h.1;have u:=Lm.not g h;have q:∀k x,i<=k->es[k]?=some x->Hu d x.1=true:=fun k x s b=>by
  have a:=h.2.2.1 k x s b;have f:=u x (An b);exact ZlL a f
 have t:(es.take i).length=i:=by rw[Am];omega
 have p:∀k,(es.take i++(d,e)::es.drop i)[k]?=if k<i then es[k]? else if k=i then some (d,e) else es[k-1]? := fun k=>by
  by_cases a:k<i
  ·rw[if_pos a,AP (by omega),Ao,if_pos a]
  ·rw[if_neg a,AH (by omega),t];by_cases f:k=i
   ·rw[if_pos f];simp[f]
   ·rw[if_neg f,show k-i=(k-i-1)+1 by omega,CZ,Bc]
    congr 1;omega
 refine⟨fun j k x y r b c=>?_,?_,fun x=>?_⟩
 ·rw[p]at b c;by_cases n:j<i
  ·rw[if_pos n]at b;by_cases l:k<i
   ·rw[if_pos l]at c;exact g j k x y r b c
   ·rw[if_neg l]at c;by_cases m:k=i
    ·rw[if_pos m]at c;cases c;exact h.2.1 j x n b
    ·rw[if_neg m]at c;exact g j (k-1) x y (by omega) b c
  ·rw[if_neg n]at b;have l:¬k<i:=by omega
   have m:¬k=i:=by omega
   rw[if_neg l,if_neg m]at c;by_cases o:j=i
   ·rw[if_pos o]at b;cases b;exact q (k-1) y (by omega) c
   ·rw[if_neg o]at b;exact g (j-1) (k-1) x y (by omega) b c
 ·simp;omega
 ·have:es=es.take i++es.drop i:=(B8 i es).symm;constructor
  ·intro b;simp only[Ap,AE]at b;rcases b with a|a|a
   ·exact .inr (BE a)
   ·exact .inl a
   ·exact .inr (BX a)
  ·intro b;simp only[Ap,AE];rcases b with a|a
   ·exact .inr (.inl a)
   ·rw[this,Ap]at a;rcases a with a|a
    ·exact .inl a
    ·exact .inr (.inr a)
theorem Yi(w:World)(c ho:Nat)(v:Value)(es:LS)(f:By)(r:VS)(q:w.cell? ⟨c,ho,none⟩=some v)(hf:w.frozen? ⟨c,ho,none⟩=false)(H:v.ownBlock≠some c)(C:Sl w 310 3 v es.length (Dq es))(U:es.length<=10000)(I:Gm es)(X:∀x∈es,x.1≠f):
  Cl 226 #[.pointer (some ⟨c,ho,none⟩),.string f,.agg #[.pointer r.p,.int .i64 r.f]] w fun e w'=>e = .returned (.tuple #[])/\∃d es',w'.cell? ⟨c,ho,none⟩=some d/\Sl w' 310 3 d es'.length (Dq es')/\
   Gm es'/\es'.length=es.length+1/\(∀x,x∈es'↔x=(f,r)\/x∈es)/\Dm w v d/\IK w w' c ho v d:=by
 have B:c<w.heap.size:=Aj _ _ q;have E:∀o,Bw w (w.alloc o):=fun o=>(Al _ _).alloc (Aa _) o
 have R:=fun o=>O3 (w.alloc o) c ho v es f (((E o).cell (p:=⟨c,ho,none⟩) B).trans q) (Sl.of_owns (C.owns.alloc o)) U I
 go_enter Tryz.func226,Tryz.ntmps226;go_wp2_with fail;refine(R _).mono ?_;rintro e w1 ⟨i,b,rfl,u,P⟩;have ac:b=false:=by
  cases b with
  | false=>rfl
  | true=>obtain⟨r',ag⟩:=u.here;exact absurd rfl (X _ (An ag))
 subst ac;have y:Below (w.heap.size+1) (w.alloc (.cells #[.pointer r.p,.int .i64 r.f] 260)) w1:=by simpa[Bw]using P
 have l:Bw w w1:=(E _).trans (y.mono (by omega));have q0:w1.cell? ⟨c,ho,none⟩=some v:=(l.cell (p:=⟨c,ho,none⟩) B).trans q;have z:∀j,w1.cell? ⟨w.heap.size,j,none⟩=(#[.pointer r.p,.int .i64 r.f]:Array Value)[j]? := fun j=>(y.cell (p:=⟨w.heap.size,j,none⟩) (by simp)).trans (CV _ _ _ _ rfl)
 have z0:w1.cell? ⟨w.heap.size,0,none⟩=some (.pointer r.p):=z 0;have z1:w1.cell? ⟨w.heap.size,1,none⟩=some (.int .i64 r.f):=z 1;have ak:w.heap.size<w1.heap.size:=by have:=y.size;simp at this;omega
 have D:Sl w1 310 3 v es.length (Dq es):=C.kept (fun k G _=>l.block k G);have S:∀W:World,W.heap=(w1.alloc (.cells #[.string f,.pointer r.p,.int .i64 r.f] 310)).heap->W.os=w1.os->W.tape=w1.tape->W.output=w1.output->Cl 265 #[v,.int .i64 i,.slice (some ⟨w1.heap.size,0,none⟩) 1 1] W fun e w'=>∃m t n d,e = .returned (.slice m t n)/\d = .slice m t n/\
   (w'.cell? ⟨c,ho,none⟩=some v/\w'.frozen? ⟨c,ho,none⟩=false)/\Hid ((w'.setCell ⟨c,ho,none⟩ d).cell? ⟨c,ho,none⟩=some d/\Sl (w'.setCell ⟨c,ho,none⟩ d) 310 3 d (es.length+1) (Dq (es.take i++(f,r)::es.drop i))/\IK w (w'.setCell ⟨c,ho,none⟩ d) c ho v d/\Dm w v d):=fun W A h1 h2 h3=>by
  have aa:Sl W 310 3 v es.length (Dq es):=(Sl.of_owns (D.owns.alloc _)).heap A;have hR:F0 W w1.heap.size 310 (Hq (f,r)):=by unfold F0;rw[A];exact CN w1 _
  refine(M3 W v es i (f,r) w1.heap.size aa u.1 U hR (fun e=>by have:=D.lt e;omega)).mono ?_;rintro e w' ⟨d,rfl,Q,s,af⟩;have ab:w.heap.size<=W.heap.size:=by rw[A];simp;omega
  have F:∀k,k<w.heap.size->v.ownBlock≠some k->w'.heap[k]?=w.heap[k]? := fun k G ae=>by
   rw[s.block k (by omega) (fun e=>ae e.symm),A,BO _ _ _ (by omega),l.block k G]
  have V:Dm w v d:=fun g ad=>(af g ad).imp id (fun h=>by omega)
  obtain⟨K,L,M⟩:=UV (ho:=ho) q H Q V (s.os.trans (h1.trans l.os)) (s.tape.trans (h2.trans l.tape)) (s.output.trans (h3.trans l.output)) (Ag ab s.size) F;obtain⟨m,t,n,O⟩:=Q.shape;exact⟨m,t,n,d,by rw[O],O,⟨(AC (w:=w) (a:=⟨c,ho,none⟩) (F c B H)).trans q,(Ee (w:=w) (a:=⟨c,ho,none⟩) (F c B H)).trans hf⟩,K,L,M,V⟩
 have J:=Db (ZlZ r I u);have T:(es.take i++(f,r)::es.drop i).length=es.length+1:=(Da J).2.1;have N:=Db T;have ah:c<w1.heap.size:=by omega
 have Z:=Db S;clear T z P u C D I X R E y l S;go_wp2
 go_region_with (go_at_call 265;refine(Da Z _ (by exact rfl) (by exact rfl) (by exact rfl) (by exact rfl)).mono ?_;rintro e w2 ⟨m,t,n,d,rfl,rfl,⟨ai,aj⟩,Y⟩)
 all_goals (
  go_end0
  obtain⟨K,L,M,m4⟩:=Da Y;exact⟨rfl,_,_,K,by rw[Da N];exact L,(Da J).1,Da N,(Da J).2.2,m4,M⟩)
theorem M5(w:World)(v:Value)(es:LF)(i:Nat)(x:Int×VF)(d:Nat)(A:Sl w 293 3 v es.length (Du es))(hi:i<=es.length)(t:es.length<=10000)
  (y:F0 w d 293 (He x)) (H:v.ownBlock≠some d):
  Cl 267 #[v,.int .i64 i,.slice (some ⟨d,0,none⟩) 1 1] w fun e w'=>∃l,e = .returned l/\Sl w' 293 3 l (es.length+1) (Du (es.take i++x::es.drop i))/\w.grownBy w' v.ownBlock/\Dm w v l:=by
 have o:∀u∈He x,u.oneCell'=true:=fun u J=>NU [x] u (by simpa [Du] using J)
 have f:Du (es.take i++x::es.drop i)=(Du es).take (i*3)++He x++(Du es).drop (i*3):=by
  rw[WW,WV,Xn,Ar];rfl
 have j:=RR es;rcases AO i es.length with n|aa
 ·rcases A.2 with⟨rfl,h0⟩|⟨g,m,L,rfl,z,E,B,c,s⟩
  ·omega
  ·have I:d≠g:=fun e=>H (by simp[Value.ownBlock,e])
   have C:((Du es).take (i*3)++He x++(Du es).drop (i*3)).length=(es.length+1)*3:=by
    simp only[Ad,Am,Az,j];simp[He];omega
   rcases AO m (es.length+1) with F|D
   ·refine(Zku w g es.length m (Du es) L i d (He x) z c s n E F t y rfl (NU es) o).mono ?_;rintro e w' ⟨G,Z,rfl,p,q,a,r,b⟩;refine⟨_,rfl,⟨by rw[f];exact C,.inr ⟨_,G,_,rfl,r,p,q,?_,?_⟩⟩,⟨b.os,b.tape,b.output,b.size,fun k h _=>b.block k h (by simp;omega)⟩,fun k h => .inr (by simp[Value.ownBlock]at h;omega)⟩
    ·rw[D3,D3,a]
     ·rw[a];simp[He];omega
     ·rw[D3 (by rw[a];simp[He];omega),a,Az,j];omega
    ·rw[f];exact S9 Z (Du es) (He x) i es.length j n (by rw[a];omega) rfl
   ·refine(Zl2 w g es.length m (Du es) L i d (He x) z c s n D B t y rfl (NU es) o I).mono ?_;rintro e w' ⟨rfl,r,b⟩;refine⟨_,rfl,⟨by rw[f];exact C,.inr ⟨_,m,_,rfl,r,D,B,?_,?_⟩⟩,b,fun k h => .inl h⟩
    ·rw[D3,D3,c]
     ·rw[Az,j,c];omega
     ·rw[D3 (by rw[Az,j,c];omega),c];simp[He];omega
    ·rw[f];exact Sp L (Du es) (He x) i es.length (by rw[c];omega) s n rfl
 ·obtain rfl:i=es.length:=by omega
  refine(Zl5 w v es.length (Du es) d (He x) A t y rfl o).mono ?_;rintro e w' ⟨l,rfl,p,q,a⟩;refine⟨l,rfl,?_,q,a⟩;rw[f,Ah (by omega),Cr (by omega),CG];exact p
theorem Nc(w:World)(v:Value)(es:LF)(i:Nat)(o:Sl w 293 3 v es.length (Du es))(j:i<es.length)(r:es.length<=10000):
  Cl 269 #[v,.int .i64 i,.int .i64 ((i:Int)+1)] w fun e w'=>∃v',e = .returned v'/\Sl w' 293 3 v' (es.length-1) (Du (es.take i++es.drop (i+1)))/\w.grownBy w' v.ownBlock/\Dm w v v':=by
 have f:Du (es.take i++es.drop (i+1))=(Du es).take (i*3)++(Du es).drop ((i+1)*3):=by
  rw[WW,WV,Xn]
 have b:=RR es;rcases o.2 with⟨rfl,h0⟩|⟨g,c,L,rfl,n,p,h,a,d⟩
 ·omega
 ·refine(Mn w g es.length c (Du es) L i n a d j p h r (NU es)).mono ?_;rintro e w' ⟨rfl,l,m⟩;refine⟨_,rfl,⟨?_,.inr ⟨_,c,_,rfl,l,by omega,h,?_,?_⟩⟩,m,fun k q => .inl q⟩
  ·rw[f];simp only[Ad,Am,Az,b];omega
  ·rw[D3,D3,a]
   ·rw[Az,b,a];omega
   ·rw[D3 (by rw[Az,b,a];omega),a];simp;omega
  ·rw[f];exact So L (Du es) _ i es.length (by rw[a];omega) d j
theorem UR(w:World)(a ho:Nat)(v:Value)(es:LF)(c:Int)(hc:w.cell? ⟨a,ho,none⟩=some v)(f:Sl w 293 3 v es.length (Du es))(g:es.length<=10000)(h:Gn es):
  Cl 221 #[.pointer (some ⟨a,ho,none⟩),.int .i64 c] w fun e w'=>∃(i:Nat) (b:Bool),e = .returned (.tuple #[.int .i64 i,.bool b])/\I0 es c i b/\Bw w w':=by
 have k:=MP v es c w f g h;clear f g h;go_enter Tryz.func221,Tryz.ntmps221;go_wp2_with fail;refine k.mono ?_;rintro e w' ⟨i,b,rfl,d,a⟩;have j:=Db d;clear d;go_wp2
 go_ret2
 exact⟨i,b,rfl,Da j,a⟩
def MA(es:LF)(key:Int)(r:VF)(b:Bool):Prop:=(b=true/\(key,r)∈es)\/(b=false/\r=⟨none,0,0,0⟩/\∀x∈es,x.1≠key)
theorem I0.here{es:LF}{a:Int}{i:Nat}(h:I0 es a i true):∃r,es[i]?=some (a,r):=by
 obtain⟨x,b,c⟩:=h.2.2.2.1 rfl;exact⟨x.2,by rw[b,<-c]⟩
theorem I0.not{es:LF}{j:Int}{i:Nat}(l:Gn es)(h:I0 es j i false):∀x∈es,x.1≠j:=by
 intro x m e;obtain⟨k,a⟩:=BF m;rcases AO k i with g|g
 ·have:=h.2.1 k x g a;rw[e,Kq]at this;cases this
 ·rcases AO i k with b|b
  ·have f:i<es.length:=by have:=(Ae.1 a).1;omega
   have c:=l i k _ x b (Ac f) a;have d:=h.2.2.1 i _ (Aa _) (Ac f);rw[e]at c;rw[c]at d;cases d
  ·obtain rfl:k=i:=by omega
   have:=h.2.2.2.2 ⟨x,a,e⟩
   cases this
theorem Mi(w:World)(a ho:Nat)(v:Value)(es:LF)(y:Int)(n:w.cell? ⟨a,ho,none⟩=some v)(l:Sl w 293 3 v es.length (Du es))(P:es.length<=10000)(H:Gn es):
  Cl 175 #[.pointer (some ⟨a,ho,none⟩),.int .i64 y] w fun e w'=>∃(r:VF) (b:Bool),e = .returned (.tuple #[.agg #[.slice r.a r.l r.c,.int .i64 r.f],.bool b])/\MA es y r b/\Bw w w':=by
 have E:a<w.heap.size:=Aj _ _ n;have m:∀o,Bw w (w.alloc o):=fun o=>(Al _ _).alloc (Aa _) o
 have F:=fun o=>UR (w.alloc o) a ho v es y (((m o).cell (p:=⟨a,ho,none⟩) E).trans n) (Sl.of_owns (l.owns.alloc o)) P H
 go_enter Tryz.func175,Tryz.ntmps175;go_wp2_with fail;refine(F _).mono ?_;rintro e w1 ⟨i,b,rfl,k,C⟩;have c:Below (w.heap.size+1) (w.alloc (.cells #[.slice none 0 0,.int .i64 0] 217)) w1:=by simpa[Bw]using C
 have h:∀p:Addr,p.block<w.heap.size->w1.cell? p=w.cell? p:=fun p Q=>(c.cell (p:=p) (by omega)).trans ((m _).cell Q)
 have z:∀j,w1.cell? ⟨w.heap.size,j,none⟩=(#[.slice none 0 0,.int .i64 0]:Array Value)[j]? := fun j=>(c.cell (p:=⟨w.heap.size,j,none⟩) (by simp)).trans (CV _ _ _ _ rfl)
 have J:w1.cell? ⟨w.heap.size,0,none⟩=some (.slice none 0 0):=z 0;have K:w1.cell? ⟨w.heap.size,1,none⟩=some (.int .i64 0):=z 1;have f:∀j,w1.frozen? ⟨w.heap.size,j,none⟩=false:=fun j=>(c.frozen (p:=⟨w.heap.size,j,none⟩) (by simp)).trans (World.frozen?_alloc_at _ _ _ _ rfl)
 have f0:=f 0;have f1:=f 1;have G:Bw w w1:=(m _).trans (c.mono (by omega));have I:w.heap.size<w1.heap.size:=by have:=c.size;simp at this;omega
 clear z f F m C
 cases b with
 | false=>
  have N:=Db (I0.not H k);clear k l h;obtain⟨R,A,B⟩:=Ls w1 w.heap.size (.slice none 0 0) (.int .i64 0) _ _ J K;have t1:=fun o=>(Oq ((w1.setCell ⟨w.heap.size,0,none⟩ (.slice none 0 0)).setCell ⟨w.heap.size,1,none⟩ (.int .i64 0)) o ⟨w.heap.size,0,none⟩ (by simpa using I)).trans A
  have S:=fun o=>(Oq ((w1.setCell ⟨w.heap.size,0,none⟩ (.slice none 0 0)).setCell ⟨w.heap.size,1,none⟩ (.int .i64 0)) o ⟨w.heap.size,1,none⟩ (by simpa using I)).trans B
  go_wp2;exact Ax (v := .tuple #[.agg #[.slice none 0 0,.int .i64 0],.bool false]) (by simp[results,Tryz.results175,go_sem,t1,S]) rfl
   ⟨⟨none,0,0,0⟩,false,rfl,.inr ⟨rfl,rfl,Da N⟩,((G.setCell (p:=⟨w.heap.size,0,none⟩) (Aa _) _).setCell (p:=⟨w.heap.size,1,none⟩) (Aa _) _).alloc (by simp;omega) _⟩
 | true=>
  obtain⟨r,d⟩:=k.here;rcases l.2 with⟨rfl,h0⟩|⟨g,aa,L,rfl,t,ab,ac,O,D⟩
  ·have:=(Ae.1 d).1;omega
  ·have x:∀j u,(Du es)[j]?=some u->w1.cell? ⟨g,j,none⟩=some u:=fun j u s=>by
    rw[h _ t.lt,t.cell];rw[<-D,Ao]at s
    split at s
    ·exact s
    ·cases s
   have q:=QK es i _ d;have q0:=(h ⟨a,ho,none⟩ E).trans n;have q1:=x _ _ q.2.1;have q2:=x _ _ q.2.2;have hi:i<es.length:=(Ae.1 d).1;have M:=Db (An d);clear q x t O D l k d h n;obtain⟨R,A,B⟩:=Ls w1 w.heap.size (.slice r.a r.l r.c) (.int .i64 r.f) _ _ J K;go_wp2;exact Ax (v := .tuple #[.agg #[.slice r.a r.l r.c,.int .i64 r.f],.bool true]) (by simp[results,Tryz.results175,go_sem,A,B]) rfl
    ⟨r,true,rfl,.inl ⟨rfl,Da M⟩,(G.setCell (p:=⟨w.heap.size,0,none⟩) (Aa _) _).setCell (p:=⟨w.heap.size,1,none⟩) (Aa _) _⟩
theorem Zl3{es:LF}{d:Int}{i:Nat}(e:VF)(g:Gn es)(h:I0 es d i false):
  Gn (es.take i++(d,e)::es.drop i)/\(es.take i++(d,e)::es.drop i).length=es.length+1/\∀x,x∈es.take i++(d,e)::es.drop i↔x=(d,e)\/x∈es:=by
 have hi:=h.1;have u:=I0.not g h;have q:∀k x,i<=k->es[k]?=some x->GU d x.1=true:=fun k x s b=>by
  have a:=h.2.2.1 k x s b;have f:=u x (An b);exact Vv a f
 have t:(es.take i).length=i:=by rw[Am];omega
 have p:∀k,(es.take i++(d,e)::es.drop i)[k]?=if k<i then es[k]? else if k=i then some (d,e) else es[k-1]? := fun k=>by
  by_cases a:k<i
  ·rw[if_pos a,AP (by omega),Ao,if_pos a]
  ·rw[if_neg a,AH (by omega),t];by_cases f:k=i
   ·rw[if_pos f];simp[f]
   ·rw[if_neg f,show k-i=(k-i-1)+1 by omega,CZ,Bc]
    congr 1;omega
 refine⟨fun j k x y r b c=>?_,?_,fun x=>?_⟩
 ·rw[p]at b c;by_cases n:j<i
  ·rw[if_pos n]at b;by_cases l:k<i
   ·rw[if_pos l]at c;exact g j k x y r b c
   ·rw[if_neg l]at c;by_cases m:k=i
    ·rw[if_pos m]at c;cases c;exact h.2.1 j x n b
    ·rw[if_neg m]at c;exact g j (k-1) x y (by omega) b c
  ·rw[if_neg n]at b;have l:¬k<i:=by omega
   have m:¬k=i:=by omega
   rw[if_neg l,if_neg m]at c;by_cases o:j=i
   ·rw[if_pos o]at b;cases b;exact q (k-1) y (by omega) c
   ·rw[if_neg o]at b;exact g (j-1) (k-1) x y (by omega) b c
 ·simp;omega
 ·have:es=es.take i++es.drop i:=(B8 i es).symm;constructor
  ·intro b;simp only[Ap,AE]at b;rcases b with a|a|a
   ·exact .inr (BE a)
   ·exact .inl a
   ·exact .inr (BX a)
  ·intro b;simp only[Ap,AE];rcases b with a|a
   ·exact .inr (.inl a)
   ·rw[this,Ap]at a;rcases a with a|a
    ·exact .inl a
    ·exact .inr (.inr a)
theorem Yh(w:World)(c ho:Nat)(v:Value)(es:LF)(f:Int)(r:VF)(q:w.cell? ⟨c,ho,none⟩=some v)(hf:w.frozen? ⟨c,ho,none⟩=false)(H:v.ownBlock≠some c)(C:Sl w 293 3 v es.length (Du es))(U:es.length<=10000)(I:Gn es)(X:∀x∈es,x.1≠f):
  Cl 228 #[.pointer (some ⟨c,ho,none⟩),.int .i64 f,.agg #[.slice r.a r.l r.c,.int .i64 r.f]] w fun e w'=>e = .returned (.tuple #[])/\∃d es',w'.cell? ⟨c,ho,none⟩=some d/\Sl w' 293 3 d es'.length (Du es')/\
   Gn es'/\es'.length=es.length+1/\(∀x,x∈es'↔x=(f,r)\/x∈es)/\Dm w v d/\IK w w' c ho v d:=by
 have B:c<w.heap.size:=Aj _ _ q;have E:∀o,Bw w (w.alloc o):=fun o=>(Al _ _).alloc (Aa _) o
 have R:=fun o=>UR (w.alloc o) c ho v es f (((E o).cell (p:=⟨c,ho,none⟩) B).trans q) (Sl.of_owns (C.owns.alloc o)) U I
 go_enter Tryz.func228,Tryz.ntmps228;go_wp2_with fail;refine(R _).mono ?_;rintro e w1 ⟨i,b,rfl,u,P⟩;have ac:b=false:=by
  cases b with
  | false=>rfl
  | true=>obtain⟨r',ag⟩:=u.here;exact absurd rfl (X _ (An ag))
 subst ac;have y:Below (w.heap.size+1) (w.alloc (.cells #[.slice r.a r.l r.c,.int .i64 r.f] 217)) w1:=by simpa[Bw]using P
 have l:Bw w w1:=(E _).trans (y.mono (by omega));have q0:w1.cell? ⟨c,ho,none⟩=some v:=(l.cell (p:=⟨c,ho,none⟩) B).trans q;have z:∀j,w1.cell? ⟨w.heap.size,j,none⟩=(#[.slice r.a r.l r.c,.int .i64 r.f]:Array Value)[j]? := fun j=>(y.cell (p:=⟨w.heap.size,j,none⟩) (by simp)).trans (CV _ _ _ _ rfl)
 have z0:w1.cell? ⟨w.heap.size,0,none⟩=some (.slice r.a r.l r.c):=z 0;have z1:w1.cell? ⟨w.heap.size,1,none⟩=some (.int .i64 r.f):=z 1;have ak:w.heap.size<w1.heap.size:=by have:=y.size;simp at this;omega
 have D:Sl w1 293 3 v es.length (Du es):=C.kept (fun k G _=>l.block k G);have S:∀W:World,W.heap=(w1.alloc (.cells #[.int .i64 f,.slice r.a r.l r.c,.int .i64 r.f] 293)).heap->W.os=w1.os->W.tape=w1.tape->W.output=w1.output->Cl 267 #[v,.int .i64 i,.slice (some ⟨w1.heap.size,0,none⟩) 1 1] W fun e w'=>∃m t n d,e = .returned (.slice m t n)/\d = .slice m t n/\
   (w'.cell? ⟨c,ho,none⟩=some v/\w'.frozen? ⟨c,ho,none⟩=false)/\Hid ((w'.setCell ⟨c,ho,none⟩ d).cell? ⟨c,ho,none⟩=some d/\Sl (w'.setCell ⟨c,ho,none⟩ d) 293 3 d (es.length+1) (Du (es.take i++(f,r)::es.drop i))/\IK w (w'.setCell ⟨c,ho,none⟩ d) c ho v d/\Dm w v d):=fun W A h1 h2 h3=>by
  have aa:Sl W 293 3 v es.length (Du es):=(Sl.of_owns (D.owns.alloc _)).heap A;have hR:F0 W w1.heap.size 293 (He (f,r)):=by unfold F0;rw[A];exact CN w1 _
  refine(M5 W v es i (f,r) w1.heap.size aa u.1 U hR (fun e=>by have:=D.lt e;omega)).mono ?_;rintro e w' ⟨d,rfl,Q,s,af⟩;have ab:w.heap.size<=W.heap.size:=by rw[A];simp;omega
  have F:∀k,k<w.heap.size->v.ownBlock≠some k->w'.heap[k]?=w.heap[k]? := fun k G ae=>by
   rw[s.block k (by omega) (fun e=>ae e.symm),A,BO _ _ _ (by omega),l.block k G]
  have V:Dm w v d:=fun g ad=>(af g ad).imp id (fun h=>by omega)
  obtain⟨K,L,M⟩:=UV (ho:=ho) q H Q V (s.os.trans (h1.trans l.os)) (s.tape.trans (h2.trans l.tape)) (s.output.trans (h3.trans l.output)) (Ag ab s.size) F;obtain⟨m,t,n,O⟩:=Q.shape;exact⟨m,t,n,d,by rw[O],O,⟨(AC (w:=w) (a:=⟨c,ho,none⟩) (F c B H)).trans q,(Ee (w:=w) (a:=⟨c,ho,none⟩) (F c B H)).trans hf⟩,K,L,M,V⟩
 have J:=Db (Zl3 r I u);have T:(es.take i++(f,r)::es.drop i).length=es.length+1:=(Da J).2.1;have N:=Db T;have ah:c<w1.heap.size:=by omega
 have Z:=Db S;clear T z P u C D I X R E y l S;go_wp2
 go_region_with (go_at_call 267;refine(Da Z _ (by exact rfl) (by exact rfl) (by exact rfl) (by exact rfl)).mono ?_;rintro e w2 ⟨m,t,n,d,rfl,rfl,⟨ai,aj⟩,Y⟩)
 all_goals (
  go_end0
  obtain⟨K,L,M,m4⟩:=Da Y;exact⟨rfl,_,_,K,by rw[Da N];exact L,(Da J).1,Da N,(Da J).2.2,m4,M⟩)
end Go.Proofs.YtaieidcohdhgpaaGreatDoor
