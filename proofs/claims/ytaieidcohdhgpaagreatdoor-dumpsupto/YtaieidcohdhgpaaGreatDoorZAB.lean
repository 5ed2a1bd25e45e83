/- Dumps. -/
import Derived.Test.YtaieidcohdhgpaaGreatDoorZAA
namespace Go.Proofs.YtaieidcohdhgpaaGreatDoor
set_option maxHeartbeats 40000000
set_option maxRecDepth 100000
open Go.RowKit
theorem Tm:∀l:List UInt8,Op.bytesLess l l=false
 | []=>rfl
 | a::l=>by simp[Op.bytesLess,Tm l]
theorem SM:∀a b c:List UInt8,Op.bytesLess a b=true->Op.bytesLess b c=true->Op.bytesLess a c=true
 | [],[],_,h,_=>by simp[Op.bytesLess]at h
 | [],_::_,[],_,h=>by simp[Op.bytesLess]at h
 | [],_::_,_::_,_,_=>by simp[Op.bytesLess]
 | _::_,[],_,h,_=>by simp[Op.bytesLess]at h
 | _::_,_::_,[],_,h=>by simp[Op.bytesLess]at h
 | a::x,b::y,c::z,e,d=>by
  simp only[Op.bytesLess,ED,A8,AM,CE]at e d ⊢;rcases e with e|⟨rfl,e⟩
  ·rcases d with d|⟨rfl,d⟩
   ·exact .inl (UInt8.lt_trans e d)
   ·exact .inl e
  ·rcases d with d|⟨rfl,d⟩
   ·exact .inl d
   ·exact .inr ⟨rfl,SM x y z e d⟩
theorem SL:∀a b:List UInt8,Op.bytesLess a b=false->a≠b->Op.bytesLess b a=true
 | [],[],_,h=>absurd rfl h
 | [],_::_,h,_=>by simp[Op.bytesLess]at h
 | _::_,[],_,_=>by simp[Op.bytesLess]
 | a::x,b::y,h,hne=>by
  simp only[Op.bytesLess,Bool.or_eq_false_iff,E3,Bool.and_eq_false_iff,AH]at h;simp only[Op.bytesLess,ED,A8,AM,CE];by_cases e:a=b
  ·subst e;refine .inr ⟨rfl,SL x y (h.2.resolve_left (fun k=>k rfl)) (fun k=>hne (by rw[k]))⟩
  ·refine .inl ?_;have c:=h.1;rw[UInt8.lt_iff_toNat_lt]at c ⊢;have h2:a.toNat≠b.toNat:=fun k=>e (EA.1 k)
   omega
theorem Q2(a:By):Gu a a=false:=Tm _
theorem Nd{a b c:By}(h:Gu a b=true)(k:Gu b c=true):Gu a c=true:=SM _ _ _ h k
theorem Qy{a b:By}(h:a.toList=b.toList):a=b:=by
 rw[BV,BV]at h;exact AY h
theorem TQ{a b:By}(h:Gu a b=false)(c:a≠b):Gu b a=true:=SL _ _ h (fun e=>c (Qy e))
theorem RD(a b:By):K9 a b<0↔Gu a b=true:=by
 unfold K9;split
 ·simp[*]
 ·split<;>simp[*]
theorem Zp(a b:By):K9 a b=0↔a=b:=by
 unfold K9;split
 ·rename_i h;simp only[show((-1:Int)=0)=False by simp,false_iff];rintro rfl;rw[Q2]at h;cases h
 ·split
  ·rename_i h;simp[Qy h]
  ·rename_i h;simp only[show((1:Int)=0)=False by simp,false_iff];rintro rfl;exact h rfl
def Gn(a b:Int):Bool:=decide (a<b)
theorem Qj(a:Int):Gn a a=false:=by simp[Gn]
theorem Nc{a b c:Int}(h:Gn a b=true)(k:Gn b c=true):Gn a c=true:=by simp[Gn]at *;omega
theorem TP{a b:Int}(h:Gn a b=false)(aa:a≠b):Gn b a=true:=by simp[Gn]at *;omega
theorem U7(a b:Int):Ks a b<0↔Gn a b=true:=by
 unfold Ks Gn;split
 ·simp[*]
 ·split<;>simp[*]
theorem Tt(a b:Int):Ks a b=0↔a=b:=by
 unfold Ks;split
 ·simp;omega
 ·split<;>simp[*]
structure VS where
 p:OA
 f:Int
structure VF where
 a:OA
 l:Nat
 c:Nat
 f:Int
def GL(x:By×VS):LV:=[.string x.1,.pointer x.2.p,.int .i64 x.2.f]
def Di(es:List (By×VS)):LV:=es.flatMap GL
theorem Wc(b:List (By×VS)):(Di b).length=b.length*3:=by
 induction b with
 | nil=>rfl
 | cons a l ih=>simp[Di,GL]at ih ⊢;omega
theorem Wb(a b:List (By×VS)):Di (a++b)=Di a++Di b:=by simp[Di]
theorem VL(b:List (By×VS))(i:Nat):(Di b).take (i*3)=Di (b.take i):=by
 induction b generalizing i with
 | nil=>simp[Di]
 | cons a l ih=>
  cases i with
  | zero=>simp[Di]
  | succ i=>
   have:=ih i;simp only[Di,AW,ES]at this ⊢;rw[<-this,show(i+1)*3=(GL a).length+i*3 by simp[GL];omega,Ca]
theorem VJ(b:List (By×VS))(i:Nat):(Di b).drop (i*3)=Di (b.drop i):=by
 induction b generalizing i with
 | nil=>simp[Di]
 | cons a l ih=>
  cases i with
  | zero=>simp[Di]
  | succ i=>
   have:=ih i;simp only[Di,AW,El]at this ⊢;rw[<-this,show(i+1)*3=(GL a).length+i*3 by simp[GL];omega,Cd]
theorem Nu(b:List (By×VS)):∀u∈Di b,u.oneCell'=true:=by
 intro u a;simp only[Di,Cz,GL,AG,EO,or_false]at a;obtain⟨x,_,rfl|rfl|rfl⟩:=a<;>simp[Value.oneCell']
theorem QP(b:List (By×VS))(k:Nat)(x:By×VS)(h:b[k]?=some x):(Di b)[k*3]?=some (.string x.1)/\(Di b)[k*3+1]?=some (.pointer x.2.p)/\(Di b)[k*3+2]?=some (.int .i64 x.2.f):=by
 induction b generalizing k with
 | nil=>simp at h
 | cons a l ih=>
  cases k with
  | zero=>simp at h;subst h;simp[Di,GL]
  | succ k=>
   simp at h;have:=ih k h;simp only[Di,AW]at this ⊢;have e:∀r,(GL a++List.flatMap GL l)[(k+1)*3+r]?=(List.flatMap GL l)[k*3+r]? := fun r=>by
    rw[AD (by simp[GL];omega)];congr 1;simp[GL];omega
   have c:=e 0;simp only[Ct]at c;rw[c,e 1,e 2];exact this
def FZ(es:List (By×VS)):Prop:=∀(j k:Nat) (x y:By×VS),j<k->es[j]?=some x->es[k]?=some y->Gu x.1 y.1=true
def IK(es:List (By×VS))(t:By)(i:Nat)(b:Bool):Prop:=
 i<=es.length/\(∀k x,k<i->es[k]?=some x->Gu x.1 t=true)/\(∀k x,i<=k->es[k]?=some x->Gu x.1 t=false)/\(b=true↔∃x,es[i]?=some x/\x.1=t)
theorem P7(x:By×VS)(a:By)(w:World):Cl 294 #[.agg #[.string x.1,.pointer x.2.p,.int .i64 x.2.f],.string a] w fun e w'=>e = .returned (.int .i64 (K9 x.1 a))/\Bw w w':=by
 go_enter Tryz.func294,Tryz.ntmps294;go_wp2_with (go_at_call 295;refine(XL _ _ _).mono ?_;rintro e w' ⟨rfl,rfl⟩);go_ret;exact⟨rfl,(Ag _ _).alloc (Aa _) _⟩
theorem MA(g n K:Nat)(c:Nat->By×VS)(f:By)(w:World)(hn:n<=10000)
 (l:∀k,k<n->w.cell? ⟨g,k*3,none⟩=some (.string (c k).1))
 (m:∀k,k<n->w.cell? ⟨g,k*3+1,none⟩=some (.pointer (c k).2.p))
 (o:∀k,k<n->w.cell? ⟨g,k*3+2,none⟩=some (.int .i64 (c k).2.f))
 (H:∀j k,j<k->k<n->Gu (c j).1 (c k).1=true):
  Cl 293 #[.slice (some ⟨g,0,none⟩) n K,.string f,.func (.func 294) #[] #[]] w fun e w'=>∃(i:Nat) (b:Bool),e = .returned (.tuple #[.int .i64 i,.bool b])/\
   (i<=n/\(∀k,k<i->Gu (c k).1 f=true)/\(∀k,i<=k->k<n->Gu (c k).1 f=false)/\(b=true↔i<n/\(c i).1=f))/\Bw w w':=by
 have B:=Db H;clear H;go_enter Tryz.func293,Tryz.ntmps293;go_wp2_with fail
 go_loopw [9,10] (fun i j wr=>∃a b:Nat,i = .int .i64 a/\j = .int .i64 b/\a<=b/\b<=n/\Hid (∀k,k<a->Gu (c k).1 f=true)/\Hid (∀k,b<=k->k<n->Gu (c k).1 f=false)/\Bw w wr) (fun i j _=>(intOf j-intOf i).toNat)
 case atStart=>exact⟨0,n,rfl,rfl,Aw _,Aa _,fun _ h=>absurd h (CT _),fun k L x=>absurd x (by omega),Ag _ _⟩
 case round=>
  obtain⟨a,b,rfl,rfl,aa,y,A,z,d⟩:=hrel;by_cases ab:a<b
  ·have u:(a+b)/2<n:=by omega
   have q:g<w.heap.size:=Al _ _ (l _ u);have M:=(d.cell (p:=⟨g,(a+b)/2*3,none⟩) q).trans (l _ u);have N:=(d.cell (p:=⟨g,(a+b)/2*3+1,none⟩) q).trans (m _ u);have O:=(d.cell (p:=⟨g,(a+b)/2*3+2,none⟩) q).trans (o _ u);have C:=Db l;have D:=Db m;have E:=Db o;clear l m o;go_wp2_with fail;refine(P7 (c ((a+b)/2)) _ _).mono ?_;rintro e w' ⟨rfl,v⟩;by_cases F:K9 (c ((a+b)/2)).1 f<0
   ·have t:=(RD _ _).1 F;have s:=Db t;clear t;go_wp2
    go_roundw
    case rel=>
     refine⟨(a+b)/2+1,b,by go_num,rfl,by omega,y,fun k hk=>?_,z,d.trans (v.mono d.size)⟩;rcases Bk k ((a+b)/2) with h|h
     ·exact Nd (Da B _ _ h u) (Da s)
     ·obtain rfl:k=(a+b)/2:=by omega
      exact Da s
    case measure=>simp[intOf];omega
   ·have t:Gu (c ((a+b)/2)).1 f=false:=by
     cases h:Gu (c ((a+b)/2)).1 f with
     | false=>rfl
     | true=>exact absurd ((RD _ _).2 h) F
    have s:=Db t;clear t;go_wp2
    go_roundw
    case rel=>
     refine⟨a,(a+b)/2,rfl,by go_num,by omega,by omega,A,fun k L x=>?_,d.trans (v.mono d.size)⟩;rcases Bk ((a+b)/2) k with h|h
     ·cases G:Gu (c k).1 f with
      | false=>rfl
      | true=>exact absurd (Nd (Da B _ _ h x) G) (by rw[Da s];simp)
     ·obtain rfl:k=(a+b)/2:=by omega
      exact Da s
    case measure=>simp[intOf];omega
  ·obtain rfl:a=b:=by omega
   by_cases r:a<n
   ·have q:g<w.heap.size:=Al _ _ (l _ r);have M:=(d.cell (p:=⟨g,a*3,none⟩) q).trans (l _ r);have N:=(d.cell (p:=⟨g,a*3+1,none⟩) q).trans (m _ r);have O:=(d.cell (p:=⟨g,a*3+2,none⟩) q).trans (o _ r);have C:=Db l;have D:=Db m;have E:=Db o;clear l m o;go_wp2_with fail;refine(P7 (c a) _ _).mono ?_;rintro e w' ⟨rfl,v⟩;have I:=Zp (c a).1 f;have J:=Db I;clear I;go_wp2
    go_ret2
    refine⟨a,_,rfl,⟨y,A,z,?_⟩,d.trans (v.mono d.size)⟩;simp[Da J,r]
   ·have G:decide (((a:Nat):Int)<(n:Int))=false:=by simp;omega
    have C:=Db l;have D:=Db m;have E:=Db o;clear l m o;go_wp2
    go_ret2
    exact⟨a,_,rfl,⟨y,A,z,by simp[r]⟩,d⟩
theorem L5(v:Value)(a:List (By×VS))(m:By)(w:World)(C:Sl w 310 3 v a.length (Di a))(G:a.length<=10000)(H:FZ a):
  Cl 293 #[v,.string m,.func (.func 294) #[] #[]] w fun e w'=>∃(i:Nat) (b:Bool),e = .returned (.tuple #[.int .i64 i,.bool b])/\IK a m i b/\Bw w w':=by
 rcases C.2 with⟨rfl,A⟩|⟨g,s,L,rfl,B,hc,aa,hL,D⟩
 ·have:a=[]:=Ak A;subst this;go_enter Tryz.func293,Tryz.ntmps293;go_wp2_with fail
  go_loopw [9,10] (fun i j wr=>i = .int .i64 0/\j = .int .i64 0/\wr=w) (fun _ _ _=>0)
  case atStart=>exact⟨rfl,rfl,rfl⟩
  case round=>
   obtain⟨rfl,rfl,rfl⟩:=hrel;go_wp2
   go_ret2
   exact⟨0,false,rfl,⟨Aw _,fun k x h _=>absurd h (CT _),fun k x _ h=>by simp at h,by simp⟩,Ag _ _⟩
 ·have p:∀j u,(Di a)[j]?=some u->w.cell? ⟨g,j,none⟩=some u:=fun j u l=>by
   rw[B.cell];rw[<-D,Ap]at l
   split at l
   ·exact l
   ·cases l
  cases hes:a with
  | nil=>
   subst hes;refine(MA g 0 s (fun _=>(⟨#[]⟩,⟨none,0⟩)) m w (by omega) (fun k h=>absurd h (by omega)) (fun k h=>absurd h (by omega)) (fun k h=>absurd h (by omega)) (fun j k _ h=>absurd h (by omega))).mono ?_;rintro e w' ⟨i,b,rfl,⟨t,y,z,n⟩,o⟩;obtain rfl:i=0:=by omega
   exact⟨0,b,rfl,⟨Aa _,fun k x h _=>absurd h (by omega),fun k x _ h=>by simp at h,by rw[n];simp⟩,o⟩
  | cons x0 l0=>
   rw[<-hes];have f:∀k,k<a.length->a[k]?=some (a.getD k x0):=fun k c=>by simp[List.getD,List.getElem?_eq_getElem c]
   refine(MA g a.length s (fun k=>a.getD k x0) m w G (fun k c=>p _ _ (QP a k _ (f k c)).1) (fun k c=>p _ _ (QP a k _ (f k c)).2.1) (fun k c=>p _ _ (QP a k _ (f k c)).2.2)
    (fun j k F c=>H j k _ _ F (f j (by omega)) (f k c))).mono ?_
   rintro e w' ⟨i,b,rfl,⟨t,y,z,n⟩,o⟩;have q:∀k x,a[k]?=some x->k<a.length:=fun k x h=>(Ad.1 h).1
   have r:∀k x,a[k]?=some x->x=a.getD k x0:=fun k x h=>by have:=f k (q k x h);rw[h]at this;exact BG this
   refine⟨i,b,rfl,⟨t,fun k x c d=>?_,fun k x c d=>?_,?_⟩,o⟩
   ·rw[r k x d];exact y k c
   ·rw[r k x d];exact z k c (q k x d)
   ·rw[n];constructor
    ·rintro⟨E,e⟩;exact⟨_,f i E,e⟩
    ·rintro⟨x,d,e⟩;exact⟨q i x d,by rw[<-e,r i x d]⟩
def GD(x:Int×VF):LV:=[.int .i64 x.1,.slice x.2.a x.2.l x.2.c,.int .i64 x.2.f]
def Dm(es:List (Int×VF)):LV:=es.flatMap GD
theorem PR(b:List (Int×VF)):(Dm b).length=b.length*3:=by
 induction b with
 | nil=>rfl
 | cons a l ih=>simp[Dm,GD]at ih ⊢;omega
theorem Wi(a b:List (Int×VF)):Dm (a++b)=Dm a++Dm b:=by simp[Dm]
theorem VI(b:List (Int×VF))(i:Nat):(Dm b).take (i*3)=Dm (b.take i):=by
 induction b generalizing i with
 | nil=>simp[Dm]
 | cons a l ih=>
  cases i with
  | zero=>simp[Dm]
  | succ i=>
   have:=ih i;simp only[Dm,AW,ES]at this ⊢;rw[<-this,show(i+1)*3=(GD a).length+i*3 by simp[GD];omega,Ca]
theorem VH(b:List (Int×VF))(i:Nat):(Dm b).drop (i*3)=Dm (b.drop i):=by
 induction b generalizing i with
 | nil=>simp[Dm]
 | cons a l ih=>
  cases i with
  | zero=>simp[Dm]
  | succ i=>
   have:=ih i;simp only[Dm,AW,El]at this ⊢;rw[<-this,show(i+1)*3=(GD a).length+i*3 by simp[GD];omega,Cd]
theorem Nt(b:List (Int×VF)):∀u∈Dm b,u.oneCell'=true:=by
 intro u a;simp only[Dm,Cz,GD,AG,EO,or_false]at a;obtain⟨x,_,rfl|rfl|rfl⟩:=a<;>simp[Value.oneCell']
theorem QO(b:List (Int×VF))(k:Nat)(x:Int×VF)(h:b[k]?=some x):(Dm b)[k*3]?=some (.int .i64 x.1)/\(Dm b)[k*3+1]?=some (.slice x.2.a x.2.l x.2.c)/\(Dm b)[k*3+2]?=some (.int .i64 x.2.f):=by
 induction b generalizing k with
 | nil=>simp at h
 | cons a l ih=>
  cases k with
  | zero=>simp at h;subst h;simp[Dm,GD]
  | succ k=>
   simp at h;have:=ih k h;simp only[Dm,AW]at this ⊢;have e:∀r,(GD a++List.flatMap GD l)[(k+1)*3+r]?=(List.flatMap GD l)[k*3+r]? := fun r=>by
    rw[AD (by simp[GD];omega)];congr 1;simp[GD];omega
   have c:=e 0;simp only[Ct]at c;rw[c,e 1,e 2];exact this
def F5(es:List (Int×VF)):Prop:=∀(j k:Nat) (x y:Int×VF),j<k->es[j]?=some x->es[k]?=some y->Gn x.1 y.1=true
def Io(es:List (Int×VF))(t:Int)(i:Nat)(b:Bool):Prop:=
 i<=es.length/\(∀k x,k<i->es[k]?=some x->Gn x.1 t=true)/\(∀k x,i<=k->es[k]?=some x->Gn x.1 t=false)/\(b=true↔∃x,es[i]?=some x/\x.1=t)
theorem P5(x:Int×VF)(a:Int)(w:World):Cl 259 #[.agg #[.int .i64 x.1,.slice x.2.a x.2.l x.2.c,.int .i64 x.2.f],.int .i64 a] w fun e w'=>e = .returned (.int .i64 (Ks x.1 a))/\Bw w w':=by
 go_enter Tryz.func259,Tryz.ntmps259;go_wp2_with (go_at_call 260;refine(XJ _ _ _).mono ?_;rintro e w' ⟨rfl,rfl⟩);go_ret;exact⟨rfl,(Ag _ _).alloc (Aa _) _⟩
theorem MC(g n K:Nat)(c:Nat->Int×VF)(f:Int)(w:World)(hn:n<=10000)
 (l:∀k,k<n->w.cell? ⟨g,k*3,none⟩=some (.int .i64 (c k).1))
 (m:∀k,k<n->w.cell? ⟨g,k*3+1,none⟩=some (.slice (c k).2.a (c k).2.l (c k).2.c))
 (o:∀k,k<n->w.cell? ⟨g,k*3+2,none⟩=some (.int .i64 (c k).2.f))
 (H:∀j k,j<k->k<n->Gn (c j).1 (c k).1=true):
  Cl 258 #[.slice (some ⟨g,0,none⟩) n K,.int .i64 f,.func (.func 259) #[] #[]] w fun e w'=>∃(i:Nat) (b:Bool),e = .returned (.tuple #[.int .i64 i,.bool b])/\
   (i<=n/\(∀k,k<i->Gn (c k).1 f=true)/\(∀k,i<=k->k<n->Gn (c k).1 f=false)/\(b=true↔i<n/\(c i).1=f))/\Bw w w':=by
 have B:=Db H;clear H;go_enter Tryz.func258,Tryz.ntmps258;go_wp2_with fail
 go_loopw [9,10] (fun i j wr=>∃a b:Nat,i = .int .i64 a/\j = .int .i64 b/\a<=b/\b<=n/\Hid (∀k,k<a->Gn (c k).1 f=true)/\Hid (∀k,b<=k->k<n->Gn (c k).1 f=false)/\Bw w wr) (fun i j _=>(intOf j-intOf i).toNat)
 case atStart=>exact⟨0,n,rfl,rfl,Aw _,Aa _,fun _ h=>absurd h (CT _),fun k L x=>absurd x (by omega),Ag _ _⟩
 case round=>
  obtain⟨a,b,rfl,rfl,aa,y,A,z,d⟩:=hrel;by_cases ab:a<b
  ·have u:(a+b)/2<n:=by omega
   have q:g<w.heap.size:=Al _ _ (l _ u);have M:=(d.cell (p:=⟨g,(a+b)/2*3,none⟩) q).trans (l _ u);have N:=(d.cell (p:=⟨g,(a+b)/2*3+1,none⟩) q).trans (m _ u);have O:=(d.cell (p:=⟨g,(a+b)/2*3+2,none⟩) q).trans (o _ u);have C:=Db l;have D:=Db m;have E:=Db o;clear l m o;go_wp2_with fail;refine(P5 (c ((a+b)/2)) _ _).mono ?_;rintro e w' ⟨rfl,v⟩;by_cases F:Ks (c ((a+b)/2)).1 f<0
   ·have t:=(U7 _ _).1 F;have s:=Db t;clear t;go_wp2
    go_roundw
    case rel=>
     refine⟨(a+b)/2+1,b,by go_num,rfl,by omega,y,fun k hk=>?_,z,d.trans (v.mono d.size)⟩;rcases Bk k ((a+b)/2) with h|h
     ·exact Nc (Da B _ _ h u) (Da s)
     ·obtain rfl:k=(a+b)/2:=by omega
      exact Da s
    case measure=>simp[intOf];omega
   ·have t:Gn (c ((a+b)/2)).1 f=false:=by
     cases h:Gn (c ((a+b)/2)).1 f with
     | false=>rfl
     | true=>exact absurd ((U7 _ _).2 h) F
    have s:=Db t;clear t;go_wp2
    go_roundw
    case rel=>
     refine⟨a,(a+b)/2,rfl,by go_num,by omega,by omega,A,fun k L x=>?_,d.trans (v.mono d.size)⟩;rcases Bk ((a+b)/2) k with h|h
     ·cases G:Gn (c k).1 f with
      | false=>rfl
      | true=>exact absurd (Nc (Da B _ _ h x) G) (by rw[Da s];simp)
     ·obtain rfl:k=(a+b)/2:=by omega
      exact Da s
    case measure=>simp[intOf];omega
  ·obtain rfl:a=b:=by omega
   by_cases r:a<n
   ·have q:g<w.heap.size:=Al _ _ (l _ r);have M:=(d.cell (p:=⟨g,a*3,none⟩) q).trans (l _ r);have N:=(d.cell (p:=⟨g,a*3+1,none⟩) q).trans (m _ r);have O:=(d.cell (p:=⟨g,a*3+2,none⟩) q).trans (o _ r);have C:=Db l;have D:=Db m;have E:=Db o;clear l m o;go_wp2_with fail;refine(P5 (c a) _ _).mono ?_;rintro e w' ⟨rfl,v⟩;have I:=Tt (c a).1 f;have J:=Db I;clear I;go_wp2
    go_ret2
    refine⟨a,_,rfl,⟨y,A,z,?_⟩,d.trans (v.mono d.size)⟩;simp[Da J,r]
   ·have G:decide (((a:Nat):Int)<(n:Int))=false:=by simp;omega
    have C:=Db l;have D:=Db m;have E:=Db o;clear l m o;go_wp2
    go_ret2
    exact⟨a,_,rfl,⟨y,A,z,by simp[r]⟩,d⟩
theorem L7(v:Value)(a:List (Int×VF))(m:Int)(w:World)(C:Sl w 293 3 v a.length (Dm a))(G:a.length<=10000)(H:F5 a):
  Cl 258 #[v,.int .i64 m,.func (.func 259) #[] #[]] w fun e w'=>∃(i:Nat) (b:Bool),e = .returned (.tuple #[.int .i64 i,.bool b])/\Io a m i b/\Bw w w':=by
 rcases C.2 with⟨rfl,A⟩|⟨g,s,L,rfl,B,hc,aa,hL,D⟩
 ·have:a=[]:=Ak A;subst this;go_enter Tryz.func258,Tryz.ntmps258;go_wp2_with fail
  go_loopw [9,10] (fun i j wr=>i = .int .i64 0/\j = .int .i64 0/\wr=w) (fun _ _ _=>0)
  case atStart=>exact⟨rfl,rfl,rfl⟩
  case round=>
   obtain⟨rfl,rfl,rfl⟩:=hrel;go_wp2
   go_ret2
   exact⟨0,false,rfl,⟨Aw _,fun k x h _=>absurd h (CT _),fun k x _ h=>by simp at h,by simp⟩,Ag _ _⟩
 ·have p:∀j u,(Dm a)[j]?=some u->w.cell? ⟨g,j,none⟩=some u:=fun j u l=>by
   rw[B.cell];rw[<-D,Ap]at l
   split at l
   ·exact l
   ·cases l
  cases hes:a with
  | nil=>
   subst hes;refine(MC g 0 s (fun _=>(0,⟨none,0,0,0⟩)) m w (by omega) (fun k h=>absurd h (by omega)) (fun k h=>absurd h (by omega)) (fun k h=>absurd h (by omega)) (fun j k _ h=>absurd h (by omega))).mono ?_;rintro e w' ⟨i,b,rfl,⟨t,y,z,n⟩,o⟩;obtain rfl:i=0:=by omega
   exact⟨0,b,rfl,⟨Aa _,fun k x h _=>absurd h (by omega),fun k x _ h=>by simp at h,by rw[n];simp⟩,o⟩
  | cons x0 l0=>
   rw[<-hes];have f:∀k,k<a.length->a[k]?=some (a.getD k x0):=fun k c=>by simp[List.getD,List.getElem?_eq_getElem c]
   refine(MC g a.length s (fun k=>a.getD k x0) m w G (fun k c=>p _ _ (QO a k _ (f k c)).1) (fun k c=>p _ _ (QO a k _ (f k c)).2.1) (fun k c=>p _ _ (QO a k _ (f k c)).2.2)
    (fun j k F c=>H j k _ _ F (f j (by omega)) (f k c))).mono ?_
   rintro e w' ⟨i,b,rfl,⟨t,y,z,n⟩,o⟩;have q:∀k x,a[k]?=some x->k<a.length:=fun k x h=>(Ad.1 h).1
   have r:∀k x,a[k]?=some x->x=a.getD k x0:=fun k x h=>by have:=f k (q k x h);rw[h]at this;exact BG this
   refine⟨i,b,rfl,⟨t,fun k x c d=>?_,fun k x c d=>?_,?_⟩,o⟩
   ·rw[r k x d];exact y k c
   ·rw[r k x d];exact z k c (q k x d)
   ·rw[n];constructor
    ·rintro⟨E,e⟩;exact⟨_,f i E,e⟩
    ·rintro⟨x,d,e⟩;exact⟨q i x d,by rw[<-e,r i x d]⟩
abbrev NS:=Nat->List (ByteArray×VS)
abbrev LS:=List (ByteArray×VS)
abbrev LF:=List (Int×VF)
theorem Rf(L xs a:LV)(i n:Nat)(hL:(n+1)*3<=L.length)(d:L.take (n*3)=xs)(hi:i<n)(b:a.length=3):
  (FM (FM L ((i+1)*3) (xs.drop (i*3))) (i*3) a).take ((n+1)*3)=xs.take (i*3)++a++xs.drop (i*3):=by
 have c:xs.length=n*3:=by rw[<-d,Ar];omega
 have g:(xs.drop (i*3)).length=(n-i)*3:=by rw[AK,c];omega
 have e:(FM L ((i+1)*3) (xs.drop (i*3))).take (i*3)=xs.take (i*3):=by
  unfold FM;rw[AC,Ep (by rw[Ar];omega),C8,Bu (by omega),<-d,C8,Bu (by omega)]
 have f:(FM L ((i+1)*3) (xs.drop (i*3))).drop (i*3+a.length)=xs.drop (i*3)++L.drop ((i+1)*3+(xs.drop (i*3)).length):=by
  unfold FM;rw[AC,b,show i*3+3=(L.take ((i+1)*3)).length by rw[Ar];omega,FC]
 rw[FM,e,f,<-AC];exact Cw (by simp only[Ab,Ar,g,b,c];omega)
theorem RY(Z xs a:LV)(i n:Nat)(f:xs.length=n*3)(hi:i<n)(_hZ:(n+1)*3<=(xs.take (i*3)++Z).length)(c:a.length=3):
  (FM (FM (xs.take (i*3)++Z) (i*3) a) ((i+1)*3) (xs.drop (i*3))).take ((n+1)*3)=xs.take (i*3)++a++xs.drop (i*3):=by
 have e:(xs.drop (i*3)).length=(n-i)*3:=by rw[AK,f];omega
 have b:(xs.take (i*3)).length=i*3:=by rw[Ar];omega
 have d:(FM (xs.take (i*3)++Z) (i*3) a).take ((i+1)*3)=xs.take (i*3)++a:=by
  unfold FM;rw[Cw b];exact Cw (by simp only[Ab,b,c];omega)
 rw[FM,d];exact Cw (by simp only[Ab,b,e,c];omega)
theorem Re(L xs z:LV)(i n:Nat)(hL:n*3<=L.length)(c:L.take (n*3)=xs)(hi:i<n):
  (FM (FM L (i*3) (xs.drop ((i+1)*3))) ((n-1)*3) z).take ((n-1)*3)=xs.take (i*3)++xs.drop ((i+1)*3):=by
 have f:xs.length=n*3:=by rw[<-c,Ar];omega
 have a:(xs.drop ((i+1)*3)).length=(n-1-i)*3:=by rw[AK,f];omega
 have d:L.take (i*3)=xs.take (i*3):=by rw[<-c,C8,Bu (by omega)]
 have b:(xs.take (i*3)).length=i*3:=by rw[Ar];omega
 have e:(FM L (i*3) (xs.drop ((i+1)*3))).take ((n-1)*3)=xs.take (i*3)++xs.drop ((i+1)*3):=by
  unfold FM;rw[d];exact Cw (by simp only[Ab,b,a];omega)
 rw[FM,AC,e];exact Cw (by simp only[Ab,b,a];omega)
theorem IU(w1:World)(b:Nat)(x y g c:Value)(e:w1.cell? ⟨b,0,none⟩=some g)(f:w1.cell? ⟨b,1,none⟩=some c):
  (w1.setCell ⟨b,0,none⟩ x).cell? ⟨b,0,none⟩=some x/\((w1.setCell ⟨b,0,none⟩ x).setCell ⟨b,1,none⟩ y).cell? ⟨b,0,none⟩=some x/\((w1.setCell ⟨b,0,none⟩ x).setCell ⟨b,1,none⟩ y).cell? ⟨b,1,none⟩=some y:=by
 have a:(w1.setCell ⟨b,0,none⟩ x).cell? ⟨b,0,none⟩=some x:=B8 _ _ _ e;have d:(w1.setCell ⟨b,0,none⟩ x).cell? ⟨b,1,none⟩=some c:=(Cm _ _ _ _ (by simp)).trans f;exact⟨a,(Cm _ _ _ _ (by simp)).trans a,B8 _ _ _ d⟩
theorem Nw(w:World)(o:Obj)(p:Addr)(h:p.block<w.heap.size):(w.alloc o).cell? p=w.cell? p:=(Below.cell (B:=w.heap.size) ((Ag _ _).alloc (Aa _) o) h)
structure Ii(w w':World)(hb ho:Nat)(v v':Value):Prop where
 os:w'.os=w.os
 tape:w'.tape=w.tape
 output:w'.output=w.output
 size:w.heap.size<=w'.heap.size
 block:∀k,k<w.heap.size->k≠hb->v.ownBlock≠some k->w'.heap[k]?=w.heap[k]?
 head:w'.heap[hb]?=(w.setCell ⟨hb,ho,none⟩ v').heap[hb]?
theorem Sl.setCell{w:World}{e:TypeId}{b:Nat}{v:Value}{n:Nat}{xs:LV}(h:Sl w e b v n xs)(a:Addr)(u:Value)(i:v.ownBlock≠some a.block):Sl (w.setCell a u) e b v n xs:=by
 refine⟨h.1,?_⟩;rcases h.2 with d|⟨g,c,L,rfl,j,f⟩
 ·exact .inl d
 ·refine .inr ⟨g,c,L,rfl,?_,f⟩;unfold FH;rw[AB _ _ _ _ (fun e=>i (by simp[Value.ownBlock,e]))];exact j
theorem Sl.heap{w w':World}{e:TypeId}{a:Nat}{v:Value}{n:Nat}{xs:LV}(h:Sl w e a v n xs)(b:w'.heap=w.heap):Sl w' e a v n xs:=by
 unfold Sl FH at h ⊢;rw[b];exact h
theorem Sl.kept{w w':World}{e:TypeId}{b:Nat}{v:Value}{n:Nat}{xs:LV}(h:Sl w e b v n xs)(i:∀k,k<w.heap.size->v.ownBlock=some k->w'.heap[k]?=w.heap[k]?):Sl w' e b v n xs:=by
 refine⟨h.1,?_⟩;rcases h.2 with d|⟨g,c,L,rfl,a,f⟩
 ·exact .inl d
 ·refine .inr ⟨g,c,L,rfl,?_,f⟩;unfold FH;rw[i g a.lt rfl];exact a
theorem Sl.lt{w:World}{e:TypeId}{c:Nat}{v:Value}{n:Nat}{xs:LV}(h:Sl w e c v n xs){g:Nat}(a:v.ownBlock=some g):g<w.heap.size:=by
 rcases h.2 with⟨rfl,_⟩|⟨g',aa,L,rfl,b,_⟩
 ·simp[Value.ownBlock]at a
 ·simp[Value.ownBlock]at a;subst a;exact b.lt
theorem Sl.shape{w:World}{e:TypeId}{b:Nat}{v:Value}{n:Nat}{xs:LV}(h:Sl w e b v n xs):∃a m c,v = .slice a m c:=by
 rcases h.2 with⟨rfl,_⟩|⟨g',aa,L,rfl,hr,_⟩
 ·exact⟨_,_,_,rfl⟩
 ·exact⟨_,_,_,rfl⟩
theorem UT{w c:World}{b ho:Nat}{v d:Value}{e:TypeId}{n:Nat}{xs:LV}(g:w.cell? ⟨b,ho,none⟩=some v)(j:v.ownBlock≠some b)(o:Sl c e 3 d n xs)(s:Dh w v d)
  (t:c.os=w.os) (y:c.tape=w.tape) (u:c.output=w.output) (x:w.heap.size<=c.heap.size) (f:∀k,k<w.heap.size->v.ownBlock≠some k->c.heap[k]?=w.heap[k]?):
  (c.setCell ⟨b,ho,none⟩ d).cell? ⟨b,ho,none⟩=some d/\Sl (c.setCell ⟨b,ho,none⟩ d) e 3 d n xs/\Ii w (c.setCell ⟨b,ho,none⟩ d) b ho v d:=by
 have r:b<w.heap.size:=Al _ _ g;have i:c.heap[b]?=w.heap[b]? := f b r j;have p:c.cell? ⟨b,ho,none⟩=some v:=(Ax (w:=w) (a:=⟨b,ho,none⟩) i).trans g;refine⟨B8 _ _ _ p,o.setCell _ _ (fun e=>?_),t,y,u,by simpa [World.setCell] using x,fun k q l m=>?_,?_⟩
 ·rcases s b e with h|h
  ·exact j h
  ·omega
 ·rw[AB _ _ _ _ l];exact f k q m
 ·simp only[World.setCell,Fe,EZ];rw[i]
theorem Mm(w:World)(v:Value)(a:LS)(i:Nat)(x:By×VS)(vb:Nat)(A:Sl w 310 3 v a.length (Di a))(hi:i<=a.length)(t:a.length<=10000)
  (y:FH w vb 310 (GL x)) (H:v.ownBlock≠some vb):
  Cl 265 #[v,.int .i64 i,.slice (some ⟨vb,0,none⟩) 1 1] w fun e w'=>∃l,e = .returned l/\Sl w' 310 3 l (a.length+1) (Di (a.take i++x::a.drop i))/\w.grownBy w' v.ownBlock/\Dh w v l:=by
 have o:∀u∈GL x,u.oneCell'=true:=fun u J=>Nu [x] u (by simpa [Di] using J)
 have f:Di (a.take i++x::a.drop i)=(Di a).take (i*3)++GL x++(Di a).drop (i*3):=by
  rw[VL,VJ,Wb,AC];rfl
 have j:=Wc a;rcases Bk i a.length with n|aa
 ·rcases A.2 with⟨rfl,h0⟩|⟨g,m,L,rfl,z,E,B,d,s⟩
  ·omega
  ·have I:vb≠g:=fun e=>H (by simp[Value.ownBlock,e])
   have C:((Di a).take (i*3)++GL x++(Di a).drop (i*3)).length=(a.length+1)*3:=by
    simp only[Ab,Ar,AK,j];simp[GL];omega
   rcases Bk m (a.length+1) with F|D
   ·refine(Zky w g a.length m (Di a) L i vb (GL x) z d s n E F t y rfl (Nu a) o).mono ?_;rintro e w' ⟨G,Z,rfl,p,q,b,r,c⟩;refine⟨_,rfl,⟨by rw[f];exact C,.inr ⟨_,G,_,rfl,r,p,q,?_,?_⟩⟩,⟨c.os,c.tape,c.output,c.size,fun k h _=>c.block k h (by simp;omega)⟩,fun k h => .inr (by simp[Value.ownBlock]at h;omega)⟩
    ·rw[DP,DP,b]
     ·rw[b];simp[GL];omega
     ·rw[DP (by rw[b];simp[GL];omega),b,AK,j];omega
    ·rw[f];exact RY Z (Di a) (GL x) i a.length j n (by rw[b];omega) rfl
   ·refine(Zj w g a.length m (Di a) L i vb (GL x) z d s n D B t y rfl (Nu a) o I).mono ?_;rintro e w' ⟨rfl,r,c⟩;refine⟨_,rfl,⟨by rw[f];exact C,.inr ⟨_,m,_,rfl,r,D,B,?_,?_⟩⟩,c,fun k h => .inl h⟩
    ·rw[DP,DP,d]
     ·rw[AK,j,d];omega
     ·rw[DP (by rw[AK,j,d];omega),d];simp[GL];omega
    ·rw[f];exact Rf L (Di a) (GL x) i a.length (by rw[d];omega) s n rfl
 ·obtain rfl:i=a.length:=by omega
  refine(Zg w v a.length (Di a) vb (GL x) A t y rfl o).mono ?_;rintro e w' ⟨l,rfl,p,q,b⟩;refine⟨l,rfl,?_,q,b⟩;rw[f,AI (by omega),Bf (by omega),AZ];exact p
theorem Mw(w:World)(v:Value)(a:LS)(i:Nat)(p:Sl w 310 3 v a.length (Di a))(l:i<a.length)(s:a.length<=10000):
  Cl 268 #[v,.int .i64 i,.int .i64 ((i:Int)+1)] w fun e w'=>∃v',e = .returned v'/\Sl w' 310 3 v' (a.length-1) (Di (a.take i++a.drop (i+1)))/\w.grownBy w' v.ownBlock/\Dh w v v':=by
 have h:Di (a.take i++a.drop (i+1))=(Di a).take (i*3)++(Di a).drop ((i+1)*3):=by
  rw[VL,VJ,Wb]
 have c:=Wc a;rcases p.2 with⟨rfl,h0⟩|⟨g,d,L,rfl,o,q,j,b,f⟩
 ·omega
 ·refine(Lz w g a.length d (Di a) L i o b f l q j s (Nu a)).mono ?_;rintro e w' ⟨rfl,m,n⟩;refine⟨_,rfl,⟨?_,.inr ⟨_,d,_,rfl,m,by omega,j,?_,?_⟩⟩,n,fun k r => .inl r⟩
  ·rw[h];simp only[Ab,Ar,AK,c];omega
  ·rw[DP,DP,b]
   ·rw[AK,c,b];omega
   ·rw[DP (by rw[AK,c,b];omega),b];simp;omega
  ·rw[h];exact Re L (Di a) _ i a.length (by rw[b];omega) f l
theorem N4(w:World)(c ho:Nat)(v:Value)(a:LS)(d:By)(hc:w.cell? ⟨c,ho,none⟩=some v)(g:Sl w 310 3 v a.length (Di a))(h:a.length<=10000)(j:FZ a):
  Cl 264 #[.pointer (some ⟨c,ho,none⟩),.string d] w fun e w'=>∃(i:Nat) (b:Bool),e = .returned (.tuple #[.int .i64 i,.bool b])/\IK a d i b/\Bw w w':=by
 have l:=L5 v a d w g h j;clear g h j;go_enter Tryz.func264,Tryz.ntmps264;go_wp2_with fail;refine l.mono ?_;rintro e w' ⟨i,b,rfl,f,c⟩;have k:=Db f;clear f;go_wp2
 go_ret2
 exact⟨i,b,rfl,Da k,c⟩
def Rj(es:LS)(key:By)(r:VS)(b:Bool):Prop:=(b=true/\(key,r)∈es)\/(b=false/\r=⟨none,0⟩/\∀x∈es,x.1≠key)
theorem IK.here{a:LS}{b:By}{i:Nat}(h:IK a b i true):∃r,a[i]?=some (b,r):=by
 obtain⟨x,c,d⟩:=h.2.2.2.1 rfl;exact⟨x.2,by rw[c,<-d]⟩
theorem IK.not{a:LS}{l:By}{i:Nat}(m:FZ a)(h:IK a l i false):∀x∈a,x.1≠l:=by
 intro x n e;obtain⟨k,b⟩:=BR n;rcases Bk k i with j|j
 ·have:=h.2.1 k x j b;rw[e,Q2]at this;cases this
 ·rcases Bk i k with c|c
  ·have g:i<a.length:=by have:=(Ad.1 b).1;omega
   have d:=m i k _ x c (Ac g) b;have f:=h.2.2.1 i _ (Aa _) (Ac g);rw[e]at d;rw[d]at f;cases f
  ·obtain rfl:k=i:=by omega
   have:=h.2.2.2.2 ⟨x,b,e⟩
   cases this
theorem NM(w:World)(c ho:Nat)(v:Value)(a:LS)(A:By)(s:w.cell? ⟨c,ho,none⟩=some v)(m:Sl w 310 3 v a.length (Di a))(Q:a.length<=10000)(I:FZ a):
  Cl 266 #[.pointer (some ⟨c,ho,none⟩),.string A] w fun e w'=>∃(r:VS) (b:Bool),e = .returned (.tuple #[.agg #[.pointer r.p,.int .i64 r.f],.bool b])/\Rj a A r b/\Bw w w':=by
 have F:c<w.heap.size:=Al _ _ s;have n:∀o,Bw w (w.alloc o):=fun o=>(Ag _ _).alloc (Aa _) o
 have G:=fun o=>N4 (w.alloc o) c ho v a A (((n o).cell (p:=⟨c,ho,none⟩) F).trans s) (Sl.of_owns (m.owns.alloc o)) Q I
 go_enter Tryz.func266,Tryz.ntmps266;go_wp2_with fail;refine(G _).mono ?_;rintro e w1 ⟨i,b,rfl,l,D⟩;have d:Below (w.heap.size+1) (w.alloc (.cells #[.pointer none,.int .i64 0] 260)) w1:=by simpa[Bw]using D
 have k:∀p:Addr,p.block<w.heap.size->w1.cell? p=w.cell? p:=fun p R=>(d.cell (p:=p) (by omega)).trans ((n _).cell R)
 have z:∀j,w1.cell? ⟨w.heap.size,j,none⟩=(#[.pointer none,.int .i64 0]:Array Value)[j]? := fun j=>(d.cell (p:=⟨w.heap.size,j,none⟩) (by simp)).trans (Ch _ _ _ _ rfl)
 have K:w1.cell? ⟨w.heap.size,0,none⟩=some (.pointer none):=z 0;have M:w1.cell? ⟨w.heap.size,1,none⟩=some (.int .i64 0):=z 1;have f:∀j,w1.frozen? ⟨w.heap.size,j,none⟩=false:=fun j=>(d.frozen (p:=⟨w.heap.size,j,none⟩) (by simp)).trans (World.frozen?_alloc_at _ _ _ _ rfl)
 have f0:=f 0;have f1:=f 1;have H:Bw w w1:=(n _).trans (d.mono (by omega));have J:w.heap.size<w1.heap.size:=by have:=d.size;simp at this;omega
 clear z f G n D
 cases b with
 | false=>
  have O:=Db (IK.not I l);clear l m k;obtain⟨S,B,C⟩:=IU w1 w.heap.size (.pointer none) (.int .i64 0) _ _ K M;have T:=fun o=>(Nw ((w1.setCell ⟨w.heap.size,0,none⟩ (.pointer none)).setCell ⟨w.heap.size,1,none⟩ (.int .i64 0)) o ⟨w.heap.size,0,none⟩ (by simpa using J)).trans B
  have U:=fun o=>(Nw ((w1.setCell ⟨w.heap.size,0,none⟩ (.pointer none)).setCell ⟨w.heap.size,1,none⟩ (.int .i64 0)) o ⟨w.heap.size,1,none⟩ (by simpa using J)).trans C
  go_wp2;exact Aq (v := .tuple #[.agg #[.pointer none,.int .i64 0],.bool false]) (by simp[results,Tryz.results266,go_sem,T,U]) rfl
   ⟨⟨none,0⟩,false,rfl,.inr ⟨rfl,rfl,Da O⟩,((H.setCell (p:=⟨w.heap.size,0,none⟩) (Aa _) _).setCell (p:=⟨w.heap.size,1,none⟩) (Aa _) _).alloc (by simp;omega) _⟩
 | true=>
  obtain⟨r,h⟩:=l.here;rcases m.2 with⟨rfl,h0⟩|⟨g,aa,L,rfl,x,ab,ac,P,E⟩
  ·have:=(Ad.1 h).1;omega
  ·have y:∀j u,(Di a)[j]?=some u->w1.cell? ⟨g,j,none⟩=some u:=fun j u t=>by
    rw[k _ x.lt,x.cell];rw[<-E,Ap]at t
    split at t
    ·exact t
    ·cases t
   have q:=QP a i _ h;have q0:=(k ⟨c,ho,none⟩ F).trans s;have q1:=y _ _ q.2.1;have q2:=y _ _ q.2.2;have hi:i<a.length:=(Ad.1 h).1;have N:=Db (An h);clear q y x P E m l h k s;obtain⟨S,B,C⟩:=IU w1 w.heap.size (.pointer r.p) (.int .i64 r.f) _ _ K M;go_wp2;exact Aq (v := .tuple #[.agg #[.pointer r.p,.int .i64 r.f],.bool true]) (by simp[results,Tryz.results266,go_sem,B,C]) rfl
    ⟨r,true,rfl,.inl ⟨rfl,Da N⟩,(H.setCell (p:=⟨w.heap.size,0,none⟩) (Aa _) _).setCell (p:=⟨w.heap.size,1,none⟩) (Aa _) _⟩
theorem Zm{a:LS}{e:By}{i:Nat}(f:VS)(l:FZ a)(h:IK a e i false):
  FZ (a.take i++(e,f)::a.drop i)/\(a.take i++(e,f)::a.drop i).length=a.length+1/\∀x,x∈a.take i++(e,f)::a.drop i↔x=(e,f)\/x∈a:=by
 have hi:=h.1;have v:=IK.not l h;have r:∀k x,i<=k->a[k]?=some x->Gu e x.1=true:=fun k x t c=>by
  have b:=h.2.2.1 k x t c;have g:=v x (An c);exact TQ b g
 have u:(a.take i).length=i:=by rw[Ar];omega
 have q:∀k,(a.take i++(e,f)::a.drop i)[k]?=if k<i then a[k]? else if k=i then some (e,f) else a[k-1]? := fun k=>by
  by_cases b:k<i
  ·rw[if_pos b,AU (by omega),Ap,if_pos b]
  ·rw[if_neg b,AD (by omega),u];by_cases g:k=i
   ·rw[if_pos g];simp[g]
   ·rw[if_neg g,show k-i=(k-i-1)+1 by omega,BU,A3]
    congr 1;omega
 refine⟨fun j k x y s c d=>?_,?_,fun x=>?_⟩
 ·rw[q]at c d;by_cases o:j<i
  ·rw[if_pos o]at c;by_cases m:k<i
   ·rw[if_pos m]at d;exact l j k x y s c d
   ·rw[if_neg m]at d;by_cases n:k=i
    ·rw[if_pos n]at d;cases d;exact h.2.1 j x o c
    ·rw[if_neg n]at d;exact l j (k-1) x y (by omega) c d
  ·rw[if_neg o]at c;have m:¬k<i:=by omega
   have n:¬k=i:=by omega
   rw[if_neg m,if_neg n]at d;by_cases p:j=i
   ·rw[if_pos p]at c;cases c;exact r (k-1) y (by omega) d
   ·rw[if_neg p]at c;exact l (j-1) (k-1) x y (by omega) c d
 ·simp;omega
 ·have:a=a.take i++a.drop i:=(BT i a).symm;constructor
  ·intro c;simp only[As,AG]at c;rcases c with b|b|b
   ·exact .inr (Bm b)
   ·exact .inl b
   ·exact .inr (BH b)
  ·intro c;simp only[As,AG];rcases c with b|b
   ·exact .inr (.inl b)
   ·rw[this,As]at b;rcases b with b|b
    ·exact .inl b
    ·exact .inr (.inr b)
theorem WM(w:World)(c ho:Nat)(v:Value)(d:LS)(l:By)(r:VS)(s:w.cell? ⟨c,ho,none⟩=some v)(hf:w.frozen? ⟨c,ho,none⟩=false)(I:v.ownBlock≠some c)(D:Sl w 310 3 v d.length (Di d))(V:d.length<=10000)(J:FZ d)(Y:∀x∈d,x.1≠l):
  Cl 226 #[.pointer (some ⟨c,ho,none⟩),.string l,.agg #[.pointer r.p,.int .i64 r.f]] w fun e w'=>e = .returned (.tuple #[])/\∃f es',w'.cell? ⟨c,ho,none⟩=some f/\Sl w' 310 3 f es'.length (Di es')/\
   FZ es'/\es'.length=d.length+1/\(∀x,x∈es'↔x=(l,r)\/x∈d)/\Dh w v f/\Ii w w' c ho v f:=by
 have C:c<w.heap.size:=Al _ _ s;have F:∀o,Bw w (w.alloc o):=fun o=>(Ag _ _).alloc (Aa _) o
 have S:=fun o=>N4 (w.alloc o) c ho v d l (((F o).cell (p:=⟨c,ho,none⟩) C).trans s) (Sl.of_owns (D.owns.alloc o)) V J
 go_enter Tryz.func226,Tryz.ntmps226;go_wp2_with fail;refine(S _).mono ?_;rintro e w1 ⟨i,b,rfl,y,Q⟩;have ad:b=false:=by
  cases b with
  | false=>rfl
  | true=>obtain⟨r',ah⟩:=y.here;exact absurd rfl (Y _ (An ah))
 subst ad;have A:Below (w.heap.size+1) (w.alloc (.cells #[.pointer r.p,.int .i64 r.f] 260)) w1:=by simpa[Bw]using Q
 have m:Bw w w1:=(F _).trans (A.mono (by omega));have q0:w1.cell? ⟨c,ho,none⟩=some v:=(m.cell (p:=⟨c,ho,none⟩) C).trans s;have z:∀j,w1.cell? ⟨w.heap.size,j,none⟩=(#[.pointer r.p,.int .i64 r.f]:Array Value)[j]? := fun j=>(A.cell (p:=⟨w.heap.size,j,none⟩) (by simp)).trans (Ch _ _ _ _ rfl)
 have z0:w1.cell? ⟨w.heap.size,0,none⟩=some (.pointer r.p):=z 0;have z1:w1.cell? ⟨w.heap.size,1,none⟩=some (.int .i64 r.f):=z 1;have al:w.heap.size<w1.heap.size:=by have:=A.size;simp at this;omega
 have E:Sl w1 310 3 v d.length (Di d):=D.kept (fun k H _=>m.block k H);have T:∀W:World,W.heap=(w1.alloc (.cells #[.string l,.pointer r.p,.int .i64 r.f] 310)).heap->W.os=w1.os->W.tape=w1.tape->W.output=w1.output->Cl 265 #[v,.int .i64 i,.slice (some ⟨w1.heap.size,0,none⟩) 1 1] W fun e w'=>∃n u q f,e = .returned (.slice n u q)/\f = .slice n u q/\
   (w'.cell? ⟨c,ho,none⟩=some v/\w'.frozen? ⟨c,ho,none⟩=false)/\Hid ((w'.setCell ⟨c,ho,none⟩ f).cell? ⟨c,ho,none⟩=some f/\Sl (w'.setCell ⟨c,ho,none⟩ f) 310 3 f (d.length+1) (Di (d.take i++(l,r)::d.drop i))/\Ii w (w'.setCell ⟨c,ho,none⟩ f) c ho v f/\Dh w v f):=fun W B h1 h2 h3=>by
  have ab:Sl W 310 3 v d.length (Di d):=(Sl.of_owns (E.owns.alloc _)).heap B;have hR:FH W w1.heap.size 310 (GL (l,r)):=by unfold FH;rw[B];exact Bs w1 _
  refine(Mm W v d i (l,r) w1.heap.size ab y.1 V hR (fun e=>by have:=E.lt e;omega)).mono ?_;rintro e w' ⟨f,rfl,R,t,ag⟩;have ac:w.heap.size<=W.heap.size:=by rw[B];simp;omega
  have G:∀k,k<w.heap.size->v.ownBlock≠some k->w'.heap[k]?=w.heap[k]? := fun k H af=>by
   rw[t.block k (by omega) (fun e=>af e.symm),B,BE _ _ _ (by omega),m.block k H]
  have X:Dh w v f:=fun g ae=>(ag g ae).imp id (fun h=>by omega)
  obtain⟨L,M,N⟩:=UT (ho:=ho) s I R X (t.os.trans (h1.trans m.os)) (t.tape.trans (h2.trans m.tape)) (t.output.trans (h3.trans m.output)) (Ae ac t.size) G;obtain⟨n,u,q,P⟩:=R.shape;exact⟨n,u,q,f,by rw[P],P,⟨(Ax (w:=w) (a:=⟨c,ho,none⟩) (G c C I)).trans s,(CX (w:=w) (a:=⟨c,ho,none⟩) (G c C I)).trans hf⟩,L,M,N,X⟩
 have K:=Db (Zm r J y);have U:(d.take i++(l,r)::d.drop i).length=d.length+1:=(Da K).2.1;have O:=Db U;have ai:c<w1.heap.size:=by omega
 have aa:=Db T;clear U z Q y D E J Y S F A m T;go_wp2
 go_region_with (go_at_call 265;refine(Da aa _ (by exact rfl) (by exact rfl) (by exact rfl) (by exact rfl)).mono ?_;rintro e w2 ⟨n,u,q,f,rfl,rfl,⟨aj,ak⟩,Z⟩)
 all_goals (
  go_end0
  obtain⟨L,M,N,m4⟩:=Da Z;exact⟨rfl,_,_,L,by rw[Da O];exact M,(Da K).1,Da O,(Da K).2.2,m4,N⟩)
theorem Mo(w:World)(v:Value)(a:LF)(i:Nat)(x:Int×VF)(vb:Nat)(A:Sl w 293 3 v a.length (Dm a))(hi:i<=a.length)(t:a.length<=10000)
  (y:FH w vb 293 (GD x)) (H:v.ownBlock≠some vb):
  Cl 267 #[v,.int .i64 i,.slice (some ⟨vb,0,none⟩) 1 1] w fun e w'=>∃l,e = .returned l/\Sl w' 293 3 l (a.length+1) (Dm (a.take i++x::a.drop i))/\w.grownBy w' v.ownBlock/\Dh w v l:=by
 have o:∀u∈GD x,u.oneCell'=true:=fun u J=>Nt [x] u (by simpa [Dm] using J)
 have f:Dm (a.take i++x::a.drop i)=(Dm a).take (i*3)++GD x++(Dm a).drop (i*3):=by
  rw[VI,VH,Wi,AC];rfl
 have j:=PR a;rcases Bk i a.length with n|aa
 ·rcases A.2 with⟨rfl,h0⟩|⟨g,m,L,rfl,z,E,B,d,s⟩
  ·omega
  ·have I:vb≠g:=fun e=>H (by simp[Value.ownBlock,e])
   have C:((Dm a).take (i*3)++GD x++(Dm a).drop (i*3)).length=(a.length+1)*3:=by
    simp only[Ab,Ar,AK,j];simp[GD];omega
   rcases Bk m (a.length+1) with F|D
   ·refine(Zkz w g a.length m (Dm a) L i vb (GD x) z d s n E F t y rfl (Nt a) o).mono ?_;rintro e w' ⟨G,Z,rfl,p,q,b,r,c⟩;refine⟨_,rfl,⟨by rw[f];exact C,.inr ⟨_,G,_,rfl,r,p,q,?_,?_⟩⟩,⟨c.os,c.tape,c.output,c.size,fun k h _=>c.block k h (by simp;omega)⟩,fun k h => .inr (by simp[Value.ownBlock]at h;omega)⟩
    ·rw[DP,DP,b]
     ·rw[b];simp[GD];omega
     ·rw[DP (by rw[b];simp[GD];omega),b,AK,j];omega
    ·rw[f];exact RY Z (Dm a) (GD x) i a.length j n (by rw[b];omega) rfl
   ·refine(Zi w g a.length m (Dm a) L i vb (GD x) z d s n D B t y rfl (Nt a) o I).mono ?_;rintro e w' ⟨rfl,r,c⟩;refine⟨_,rfl,⟨by rw[f];exact C,.inr ⟨_,m,_,rfl,r,D,B,?_,?_⟩⟩,c,fun k h => .inl h⟩
    ·rw[DP,DP,d]
     ·rw[AK,j,d];omega
     ·rw[DP (by rw[AK,j,d];omega),d];simp[GD];omega
    ·rw[f];exact Rf L (Dm a) (GD x) i a.length (by rw[d];omega) s n rfl
 ·obtain rfl:i=a.length:=by omega
  refine(Zf w v a.length (Dm a) vb (GD x) A t y rfl o).mono ?_;rintro e w' ⟨l,rfl,p,q,b⟩;refine⟨l,rfl,?_,q,b⟩;rw[f,AI (by omega),Bf (by omega),AZ];exact p
theorem Mx(w:World)(v:Value)(a:LF)(i:Nat)(p:Sl w 293 3 v a.length (Dm a))(l:i<a.length)(s:a.length<=10000):
  Cl 269 #[v,.int .i64 i,.int .i64 ((i:Int)+1)] w fun e w'=>∃v',e = .returned v'/\Sl w' 293 3 v' (a.length-1) (Dm (a.take i++a.drop (i+1)))/\w.grownBy w' v.ownBlock/\Dh w v v':=by
 have h:Dm (a.take i++a.drop (i+1))=(Dm a).take (i*3)++(Dm a).drop ((i+1)*3):=by
  rw[VI,VH,Wi]
 have c:=PR a;rcases p.2 with⟨rfl,h0⟩|⟨g,d,L,rfl,o,q,j,b,f⟩
 ·omega
 ·refine(LA w g a.length d (Dm a) L i o b f l q j s (Nt a)).mono ?_;rintro e w' ⟨rfl,m,n⟩;refine⟨_,rfl,⟨?_,.inr ⟨_,d,_,rfl,m,by omega,j,?_,?_⟩⟩,n,fun k r => .inl r⟩
  ·rw[h];simp only[Ab,Ar,AK,c];omega
  ·rw[DP,DP,b]
   ·rw[AK,c,b];omega
   ·rw[DP (by rw[AK,c,b];omega),b];simp;omega
  ·rw[h];exact Re L (Dm a) _ i a.length (by rw[b];omega) f l
theorem UJ(w:World)(c ho:Nat)(v:Value)(a:LF)(d:Int)(hc:w.cell? ⟨c,ho,none⟩=some v)(g:Sl w 293 3 v a.length (Dm a))(h:a.length<=10000)(j:F5 a):
  Cl 221 #[.pointer (some ⟨c,ho,none⟩),.int .i64 d] w fun e w'=>∃(i:Nat) (b:Bool),e = .returned (.tuple #[.int .i64 i,.bool b])/\Io a d i b/\Bw w w':=by
 have l:=L7 v a d w g h j;clear g h j;go_enter Tryz.func221,Tryz.ntmps221;go_wp2_with fail;refine l.mono ?_;rintro e w' ⟨i,b,rfl,f,c⟩;have k:=Db f;clear f;go_wp2
 go_ret2
 exact⟨i,b,rfl,Da k,c⟩
def LP(es:LF)(key:Int)(r:VF)(b:Bool):Prop:=(b=true/\(key,r)∈es)\/(b=false/\r=⟨none,0,0,0⟩/\∀x∈es,x.1≠key)
theorem Io.here{a:LF}{b:Int}{i:Nat}(h:Io a b i true):∃r,a[i]?=some (b,r):=by
 obtain⟨x,c,d⟩:=h.2.2.2.1 rfl;exact⟨x.2,by rw[c,<-d]⟩
theorem Io.not{a:LF}{l:Int}{i:Nat}(m:F5 a)(h:Io a l i false):∀x∈a,x.1≠l:=by
 intro x n e;obtain⟨k,b⟩:=BR n;rcases Bk k i with j|j
 ·have:=h.2.1 k x j b;rw[e,Qj]at this;cases this
 ·rcases Bk i k with c|c
  ·have g:i<a.length:=by have:=(Ad.1 b).1;omega
   have d:=m i k _ x c (Ac g) b;have f:=h.2.2.1 i _ (Aa _) (Ac g);rw[e]at d;rw[d]at f;cases f
  ·obtain rfl:k=i:=by omega
   have:=h.2.2.2.2 ⟨x,b,e⟩
   cases this
theorem Lw(w:World)(c ho:Nat)(v:Value)(a:LF)(A:Int)(s:w.cell? ⟨c,ho,none⟩=some v)(m:Sl w 293 3 v a.length (Dm a))(Q:a.length<=10000)(I:F5 a):
  Cl 175 #[.pointer (some ⟨c,ho,none⟩),.int .i64 A] w fun e w'=>∃(r:VF) (b:Bool),e = .returned (.tuple #[.agg #[.slice r.a r.l r.c,.int .i64 r.f],.bool b])/\LP a A r b/\Bw w w':=by
 have F:c<w.heap.size:=Al _ _ s;have n:∀o,Bw w (w.alloc o):=fun o=>(Ag _ _).alloc (Aa _) o
 have G:=fun o=>UJ (w.alloc o) c ho v a A (((n o).cell (p:=⟨c,ho,none⟩) F).trans s) (Sl.of_owns (m.owns.alloc o)) Q I
 go_enter Tryz.func175,Tryz.ntmps175;go_wp2_with fail;refine(G _).mono ?_;rintro e w1 ⟨i,b,rfl,l,D⟩;have d:Below (w.heap.size+1) (w.alloc (.cells #[.slice none 0 0,.int .i64 0] 217)) w1:=by simpa[Bw]using D
 have k:∀p:Addr,p.block<w.heap.size->w1.cell? p=w.cell? p:=fun p R=>(d.cell (p:=p) (by omega)).trans ((n _).cell R)
 have z:∀j,w1.cell? ⟨w.heap.size,j,none⟩=(#[.slice none 0 0,.int .i64 0]:Array Value)[j]? := fun j=>(d.cell (p:=⟨w.heap.size,j,none⟩) (by simp)).trans (Ch _ _ _ _ rfl)
 have K:w1.cell? ⟨w.heap.size,0,none⟩=some (.slice none 0 0):=z 0;have M:w1.cell? ⟨w.heap.size,1,none⟩=some (.int .i64 0):=z 1;have f:∀j,w1.frozen? ⟨w.heap.size,j,none⟩=false:=fun j=>(d.frozen (p:=⟨w.heap.size,j,none⟩) (by simp)).trans (World.frozen?_alloc_at _ _ _ _ rfl)
 have f0:=f 0;have f1:=f 1;have H:Bw w w1:=(n _).trans (d.mono (by omega));have J:w.heap.size<w1.heap.size:=by have:=d.size;simp at this;omega
 clear z f G n D
 cases b with
 | false=>
  have O:=Db (Io.not I l);clear l m k;obtain⟨S,B,C⟩:=IU w1 w.heap.size (.slice none 0 0) (.int .i64 0) _ _ K M;have T:=fun o=>(Nw ((w1.setCell ⟨w.heap.size,0,none⟩ (.slice none 0 0)).setCell ⟨w.heap.size,1,none⟩ (.int .i64 0)) o ⟨w.heap.size,0,none⟩ (by simpa using J)).trans B
  have U:=fun o=>(Nw ((w1.setCell ⟨w.heap.size,0,none⟩ (.slice none 0 0)).setCell ⟨w.heap.size,1,none⟩ (.int .i64 0)) o ⟨w.heap.size,1,none⟩ (by simpa using J)).trans C
  go_wp2;exact Aq (v := .tuple #[.agg #[.slice none 0 0,.int .i64 0],.bool false]) (by simp[results,Tryz.results175,go_sem,T,U]) rfl
   ⟨⟨none,0,0,0⟩,false,rfl,.inr ⟨rfl,rfl,Da O⟩,((H.setCell (p:=⟨w.heap.size,0,none⟩) (Aa _) _).setCell (p:=⟨w.heap.size,1,none⟩) (Aa _) _).alloc (by simp;omega) _⟩
 | true=>
  obtain⟨r,h⟩:=l.here;rcases m.2 with⟨rfl,h0⟩|⟨g,aa,L,rfl,x,ab,ac,P,E⟩
  ·have:=(Ad.1 h).1;omega
  ·have y:∀j u,(Dm a)[j]?=some u->w1.cell? ⟨g,j,none⟩=some u:=fun j u t=>by
    rw[k _ x.lt,x.cell];rw[<-E,Ap]at t
    split at t
    ·exact t
    ·cases t
   have q:=QO a i _ h;have q0:=(k ⟨c,ho,none⟩ F).trans s;have q1:=y _ _ q.2.1;have q2:=y _ _ q.2.2;have hi:i<a.length:=(Ad.1 h).1;have N:=Db (An h);clear q y x P E m l h k s;obtain⟨S,B,C⟩:=IU w1 w.heap.size (.slice r.a r.l r.c) (.int .i64 r.f) _ _ K M;go_wp2;exact Aq (v := .tuple #[.agg #[.slice r.a r.l r.c,.int .i64 r.f],.bool true]) (by simp[results,Tryz.results175,go_sem,B,C]) rfl
    ⟨r,true,rfl,.inl ⟨rfl,Da N⟩,(H.setCell (p:=⟨w.heap.size,0,none⟩) (Aa _) _).setCell (p:=⟨w.heap.size,1,none⟩) (Aa _) _⟩
theorem Zh{a:LF}{e:Int}{i:Nat}(f:VF)(l:F5 a)(h:Io a e i false):
  F5 (a.take i++(e,f)::a.drop i)/\(a.take i++(e,f)::a.drop i).length=a.length+1/\∀x,x∈a.take i++(e,f)::a.drop i↔x=(e,f)\/x∈a:=by
 have hi:=h.1;have v:=Io.not l h;have r:∀k x,i<=k->a[k]?=some x->Gn e x.1=true:=fun k x t c=>by
  have b:=h.2.2.1 k x t c;have g:=v x (An c);exact TP b g
 have u:(a.take i).length=i:=by rw[Ar];omega
 have q:∀k,(a.take i++(e,f)::a.drop i)[k]?=if k<i then a[k]? else if k=i then some (e,f) else a[k-1]? := fun k=>by
  by_cases b:k<i
  ·rw[if_pos b,AU (by omega),Ap,if_pos b]
  ·rw[if_neg b,AD (by omega),u];by_cases g:k=i
   ·rw[if_pos g];simp[g]
   ·rw[if_neg g,show k-i=(k-i-1)+1 by omega,BU,A3]
    congr 1;omega
 refine⟨fun j k x y s c d=>?_,?_,fun x=>?_⟩
 ·rw[q]at c d;by_cases o:j<i
  ·rw[if_pos o]at c;by_cases m:k<i
   ·rw[if_pos m]at d;exact l j k x y s c d
   ·rw[if_neg m]at d;by_cases n:k=i
    ·rw[if_pos n]at d;cases d;exact h.2.1 j x o c
    ·rw[if_neg n]at d;exact l j (k-1) x y (by omega) c d
  ·rw[if_neg o]at c;have m:¬k<i:=by omega
   have n:¬k=i:=by omega
   rw[if_neg m,if_neg n]at d;by_cases p:j=i
   ·rw[if_pos p]at c;cases c;exact r (k-1) y (by omega) d
   ·rw[if_neg p]at c;exact l (j-1) (k-1) x y (by omega) c d
 ·simp;omega
 ·have:a=a.take i++a.drop i:=(BT i a).symm;constructor
  ·intro c;simp only[As,AG]at c;rcases c with b|b|b
   ·exact .inr (Bm b)
   ·exact .inl b
   ·exact .inr (BH b)
  ·intro c;simp only[As,AG];rcases c with b|b
   ·exact .inr (.inl b)
   ·rw[this,As]at b;rcases b with b|b
    ·exact .inl b
    ·exact .inr (.inr b)
theorem WL(w:World)(c ho:Nat)(v:Value)(d:LF)(l:Int)(r:VF)(s:w.cell? ⟨c,ho,none⟩=some v)(hf:w.frozen? ⟨c,ho,none⟩=false)(I:v.ownBlock≠some c)(D:Sl w 293 3 v d.length (Dm d))(V:d.length<=10000)(J:F5 d)(Y:∀x∈d,x.1≠l):
  Cl 228 #[.pointer (some ⟨c,ho,none⟩),.int .i64 l,.agg #[.slice r.a r.l r.c,.int .i64 r.f]] w fun e w'=>e = .returned (.tuple #[])/\∃f es',w'.cell? ⟨c,ho,none⟩=some f/\Sl w' 293 3 f es'.length (Dm es')/\
   F5 es'/\es'.length=d.length+1/\(∀x,x∈es'↔x=(l,r)\/x∈d)/\Dh w v f/\Ii w w' c ho v f:=by
 have C:c<w.heap.size:=Al _ _ s;have F:∀o,Bw w (w.alloc o):=fun o=>(Ag _ _).alloc (Aa _) o
 have S:=fun o=>UJ (w.alloc o) c ho v d l (((F o).cell (p:=⟨c,ho,none⟩) C).trans s) (Sl.of_owns (D.owns.alloc o)) V J
 go_enter Tryz.func228,Tryz.ntmps228;go_wp2_with fail;refine(S _).mono ?_;rintro e w1 ⟨i,b,rfl,y,Q⟩;have ad:b=false:=by
  cases b with
  | false=>rfl
  | true=>obtain⟨r',ah⟩:=y.here;exact absurd rfl (Y _ (An ah))
 subst ad;have A:Below (w.heap.size+1) (w.alloc (.cells #[.slice r.a r.l r.c,.int .i64 r.f] 217)) w1:=by simpa[Bw]using Q
 have m:Bw w w1:=(F _).trans (A.mono (by omega));have q0:w1.cell? ⟨c,ho,none⟩=some v:=(m.cell (p:=⟨c,ho,none⟩) C).trans s;have z:∀j,w1.cell? ⟨w.heap.size,j,none⟩=(#[.slice r.a r.l r.c,.int .i64 r.f]:Array Value)[j]? := fun j=>(A.cell (p:=⟨w.heap.size,j,none⟩) (by simp)).trans (Ch _ _ _ _ rfl)
 have z0:w1.cell? ⟨w.heap.size,0,none⟩=some (.slice r.a r.l r.c):=z 0;have z1:w1.cell? ⟨w.heap.size,1,none⟩=some (.int .i64 r.f):=z 1;have al:w.heap.size<w1.heap.size:=by have:=A.size;simp at this;omega
 have E:Sl w1 293 3 v d.length (Dm d):=D.kept (fun k H _=>m.block k H);have T:∀W:World,W.heap=(w1.alloc (.cells #[.int .i64 l,.slice r.a r.l r.c,.int .i64 r.f] 293)).heap->W.os=w1.os->W.tape=w1.tape->W.output=w1.output->Cl 267 #[v,.int .i64 i,.slice (some ⟨w1.heap.size,0,none⟩) 1 1] W fun e w'=>∃n u q f,e = .returned (.slice n u q)/\f = .slice n u q/\
   (w'.cell? ⟨c,ho,none⟩=some v/\w'.frozen? ⟨c,ho,none⟩=false)/\Hid ((w'.setCell ⟨c,ho,none⟩ f).cell? ⟨c,ho,none⟩=some f/\Sl (w'.setCell ⟨c,ho,none⟩ f) 293 3 f (d.length+1) (Dm (d.take i++(l,r)::d.drop i))/\Ii w (w'.setCell ⟨c,ho,none⟩ f) c ho v f/\Dh w v f):=fun W B h1 h2 h3=>by
  have ab:Sl W 293 3 v d.length (Dm d):=(Sl.of_owns (E.owns.alloc _)).heap B;have hR:FH W w1.heap.size 293 (GD (l,r)):=by unfold FH;rw[B];exact Bs w1 _
  refine(Mo W v d i (l,r) w1.heap.size ab y.1 V hR (fun e=>by have:=E.lt e;omega)).mono ?_;rintro e w' ⟨f,rfl,R,t,ag⟩;have ac:w.heap.size<=W.heap.size:=by rw[B];simp;omega
  have G:∀k,k<w.heap.size->v.ownBlock≠some k->w'.heap[k]?=w.heap[k]? := fun k H af=>by
   rw[t.block k (by omega) (fun e=>af e.symm),B,BE _ _ _ (by omega),m.block k H]
  have X:Dh w v f:=fun g ae=>(ag g ae).imp id (fun h=>by omega)
  obtain⟨L,M,N⟩:=UT (ho:=ho) s I R X (t.os.trans (h1.trans m.os)) (t.tape.trans (h2.trans m.tape)) (t.output.trans (h3.trans m.output)) (Ae ac t.size) G;obtain⟨n,u,q,P⟩:=R.shape;exact⟨n,u,q,f,by rw[P],P,⟨(Ax (w:=w) (a:=⟨c,ho,none⟩) (G c C I)).trans s,(CX (w:=w) (a:=⟨c,ho,none⟩) (G c C I)).trans hf⟩,L,M,N,X⟩
 have K:=Db (Zh r J y);have U:(d.take i++(l,r)::d.drop i).length=d.length+1:=(Da K).2.1;have O:=Db U;have ai:c<w1.heap.size:=by omega
 have aa:=Db T;clear U z Q y D E J Y S F A m T;go_wp2
 go_region_with (go_at_call 267;refine(Da aa _ (by exact rfl) (by exact rfl) (by exact rfl) (by exact rfl)).mono ?_;rintro e w2 ⟨n,u,q,f,rfl,rfl,⟨aj,ak⟩,Z⟩)
 all_goals (
  go_end0
  obtain⟨L,M,N,m4⟩:=Da Z;exact⟨rfl,_,_,L,by rw[Da O];exact M,(Da K).1,Da O,(Da K).2.2,m4,N⟩)
end Go.Proofs.YtaieidcohdhgpaaGreatDoor
