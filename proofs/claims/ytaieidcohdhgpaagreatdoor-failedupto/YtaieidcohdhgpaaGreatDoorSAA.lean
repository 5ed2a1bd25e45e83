/- Failed. -/
import Derived.Test.YtaieidcohdhgpaaGreatDoorProg
import Derived.PartsItems
import Derived.CheckFast
import Derived.HeadItems
import Derived.WalkLawsBesides
import Derived.WalkSpells
import Derived.BigQuiet
import Derived.Handy
import Derived.Lib.AppendZeros
import Derived.Lib.Overlaps
import Derived.Deep.RegionLaw
import Derived.Deep.AppendSrc
namespace Go.Proofs.YtaieidcohdhgpaaGreatDoor
set_option maxHeartbeats 40000000
set_option maxRecDepth 100000
open Go.RowKit
theorem Db{p:Prop}(h:p):Hid p:=h
theorem Da{p:Prop}(h:Hid p):p:=h
def ltS(a b:ByteArray):Bool:=Op.bytesLess a.toList b.toList
def KO(a b:ByteArray):Int:=if ltS a b=true then -1 else if a.toList=b.toList then 0 else 1
def Kd(a b:Int):Int:=if a<b then -1 else if a=b then 0 else 1
theorem Zlw(s:ByteArray)(w:World):Calls Tryz.prog 317 #[.string s] w fun e w'=>e = .returned (.bool false)/\w'=w:=by
 go_enter Tryz.func317,Tryz.ntmps317;go_wp2;go_ret;exact⟨by simp,rfl⟩
theorem Zly(s:Int)(w:World):Calls Tryz.prog 290 #[.int .i64 s] w fun e w'=>e = .returned (.bool false)/\w'=w:=by
 go_enter Tryz.func290,Tryz.ntmps290;go_wp2;go_ret;exact⟨by simp,rfl⟩
theorem Zm9(a b:ByteArray)(w:World):Calls Tryz.prog 295 #[.string a,.string b] w fun e w'=>e = .returned (.int .i64 (KO a b))/\w'=w:=by
 have c:KO a b=if ltS a b=true then -1 else if a.toList=b.toList then 0 else 1:=rfl
 unfold ltS at c;by_cases f:Op.bytesLess a.toList b.toList=true
 ·rw[if_pos f]at c;have H:=Db c;clear c;go_enter Tryz.func295,Tryz.ntmps295;go_wp2_with (go_at_call 317;refine(Zlw _ _).mono ?_;rintro e w' ⟨rfl,rfl⟩);go_ret;exact⟨by rw[Da H];rfl,rfl⟩
 ·rw[if_neg f]at c;have h:Op.bytesLess a.toList b.toList=false:=by simpa using f
  by_cases d:a.toList=b.toList
  ·rw[if_pos d]at c;have H:=Db c;clear c;have g:(a.toList==b.toList)=true:=by simpa using d
   have i:(!Op.bytesLess a.toList b.toList && !(a.toList==b.toList))=false:=by rw[h,g];rfl
   clear f d;go_enter Tryz.func295,Tryz.ntmps295;go_wp2_with (go_at_call 317;refine(Zlw _ _).mono ?_;rintro e w' ⟨rfl,rfl⟩);go_ret;exact⟨by rw[Da H];rfl,rfl⟩
  ·rw[if_neg d]at c;have H:=Db c;clear c;have g:(a.toList==b.toList)=false:=by simpa using d
   have i:(!Op.bytesLess a.toList b.toList && !(a.toList==b.toList))=true:=by rw[h,g];rfl
   clear f d;go_enter Tryz.func295,Tryz.ntmps295;go_wp2_with (go_at_call 317;refine(Zlw _ _).mono ?_;rintro e w' ⟨rfl,rfl⟩);go_ret;exact⟨by rw[Da H];rfl,rfl⟩
theorem Znb(a b:Int)(w:World):Calls Tryz.prog 260 #[.int .i64 a,.int .i64 b] w fun e w'=>e = .returned (.int .i64 (Kd a b))/\w'=w:=by
 have c:Kd a b=if a<b then -1 else if a=b then 0 else 1:=rfl
 have H:=Db c;clear c;by_cases d:a<b
 ·go_enter Tryz.func260,Tryz.ntmps260;go_wp2_with (go_at_call 290;refine(Zly _ _).mono ?_;rintro e w' ⟨rfl,rfl⟩);go_ret;exact⟨by rw[Da H,if_pos d];rfl,rfl⟩
 ·by_cases h2:b<a
  ·go_enter Tryz.func260,Tryz.ntmps260;go_wp2_with (go_at_call 290;refine(Zly _ _).mono ?_;rintro e w' ⟨rfl,rfl⟩);go_ret;exact⟨by rw[Da H,if_neg (by omega),if_neg (by omega)];rfl,rfl⟩
  ·go_enter Tryz.func260,Tryz.ntmps260;go_wp2_with (go_at_call 290;refine(Zly _ _).mono ?_;rintro e w' ⟨rfl,rfl⟩);go_ret;exact⟨by rw[Da H,if_neg (by omega),if_pos (by omega)];rfl,rfl⟩
theorem pE:(∀(a:Act) (d:Tmp) (v:Value),a.put (some d) v={ a with tmps:=a.tmps.setIfInBounds d v })/\(∀(a:Act) (v:Value),a.put none v=a)/\(∀{α : Type} (xs:List α) (i:Nat) (h:i<xs.toArray.size),xs.toArray[i]=xs[i]'(by simpa using h))/\(∀{α : Type} (x : α) (xs:List α) (h:0<(x::xs).length),(x::xs)[0]=x)/\(∀{α : Type} (x : α) (xs:List α) (i:Nat) (h:i+1<(x::xs).length),(x::xs)[i+1]=xs[i]'(by simpa using h))/\(∀{α : Type} (xs:List α) (i:Nat) (x : α),xs.toArray.setIfInBounds i x=(xs.set i x).toArray)/\(∀{α : Type} (x : α) (xs:List α) (y : α),(x::xs).set 0 y=y::xs)/\(∀{α : Type} (x : α) (xs:List α) (i:Nat) (y : α),(x::xs).set (i+1) y=x::xs.set i y):=
 ⟨fun _ _ _=>rfl,fun _ _=>rfl,fun _ _ _=>List.getElem_toArray _,fun _ _ _=>rfl,fun _ _ _ _=>rfl,fun _ _ _=>List.setIfInBounds_toArray ..,fun _ _ _=>rfl,fun _ _ _ _=>rfl⟩
abbrev LY:=List ByteArray
abbrev LVa:=List Value
abbrev NV:=Nat -> Value
abbrev OA:=Option Addr
abbrev NB:=Nat -> ByteArray
abbrev IB:=Int -> ByteArray
abbrev LB:=List (Nat×ByteArray)
abbrev LI:=List (Int×Int)
abbrev By:=ByteArray
def spl(L:LVa)(o:Nat)(cs:LVa):LVa:=L.take o++cs++L.drop (o+cs.length)
theorem DV{L:LVa}{o:Nat}{a:LVa}(h:o+a.length<=L.length):(spl L o a).length=L.length:=by simp[spl];omega
def RowIs(w:World)(g:Nat)(e:TypeId)(L:LVa):Prop:=w.heap[g]?=some (.cells L.toArray e (0,0))
theorem RowIs.lt{w:World}{g:Nat}{e:TypeId}{L:LVa}(h:RowIs w g e L):g<w.heap.size:=(Array.getElem?_eq_some_iff.1 h).1
theorem RowIs.cell{w:World}{g:Nat}{e:TypeId}{L:LVa}(h:RowIs w g e L)(j:Nat):w.cell? ⟨g,j,none⟩=L[j]? := by
 rw[cell_of_row w g j _ e (0,0) h];simp
theorem RowIs.frozen{w:World}{g:Nat}{e:TypeId}{L:LVa}(h:RowIs w g e L)(j:Nat):w.frozen? ⟨g,j,none⟩=false:=frozen_of_row w g j _ e h
theorem RowIs.kept{w w':World}{g:Nat}{e:TypeId}{L:LVa}{row:Option Nat}(h:RowIs w g e L)(a:w.grownBy w' row)(b:some g≠row):RowIs w' g e L:=by
 unfold RowIs;rw[a.block g h.lt b];exact h
theorem QG(w:World)(row:Option Nat):w.grownBy w row:=⟨rfl,rfl,rfl,Nat.le_refl _,fun _ _ _=>rfl⟩
theorem JL{a b c:World}{row:Option Nat}(h:a.grownBy b row)(k:b.grownBy c row):a.grownBy c row:=
 ⟨k.os.trans h.os,k.tape.trans h.tape,k.output.trans h.output,Nat.le_trans h.size k.size,fun i d e=>(k.block i (Nat.lt_of_lt_of_le d h.size) e).trans (h.block i d e)⟩
theorem QE{a b:World}{row:Option Nat}(h:a.grownBy b row):a.grownBy b.drew row:=⟨h.os,h.tape,h.output,h.size,h.block⟩
section
variable{P:Program}
theorem JK(w:World)(l D ty h:TypeId)(f g o d r:Nat)(a:Addr)(c q:Nat)(L:LVa)(t:TypeId)(b:LVa)
  (C:P.underlying l=some (.slice h)) (n:(P.info? h).map (·.size)=some f)
  (m:RowIs w g t L) (A:b.length=Nat.min c d*f)
  (B:∀j v,b[j]?=some v->w.cell? (a.add j)=some v) (x:o+b.length<=L.length) (s:∀v∈b,v.oneCell'=true):
  ∃w',(Builtin.copy_ #[l,D] ty #[.slice (some ⟨g,o,none⟩) d r,.slice (some a) c q]).run P w = .ok (goInt (Nat.min c d)) w'/\RowIs w' g t (spl L o b)/\w.grownBy w' (some g):=by
 have p:=run_storeCells_at P g o t b 0 L.toArray w m (by simpa using x) s;have u:=run_firstCells_some (P:=P) w f (Nat.min c d) a c q b A B;refine⟨w.setRow g (spl L o b).toArray,?_,setRow_heap w g L.toArray _ t _ m,⟨rfl,rfl,rfl,by simp,fun k _ z=>setRow_other w g k _ (fun e=>z (by rw[e]))⟩⟩
 cases hq:P.info? h with
 | none=>simp[hq]at n
 | some i=>
  have y:i.size=f:=by simpa [hq] using n
  simp only[Nat.add_zero]at p;simp[Builtin.copy_,run_underlying C,Builtin.lenOf,sizeOf,typeInfo,hq,y,u,p,spl]
theorem Ziw(w:World){o:Oper}{a:Act}{K:Act->World->Prop}{Q:Exit->Act->World->Prop}(d s:Operand)(t b:TypeId)
  (ho:o.op = .call { callee := .builtin .copy,args := #[d,s],argTypes := #[t,b] }) (v u:Value) (e:a.eval d=v) (g:a.eval s=u) {c:Value} {w':World}
  (f:(Builtin.copy_ #[t,b] o.type #[v,u]).run P w = .ok c w') (h:K (a.put o.dst c) w'):o.wp P a w K Q:=by
 unfold Oper.wp execOp;simp only[ho,resolve,invoke,builtin,Sem.run_bind,Sem.run_pure,Result.andThen_ok,List.map_toArray,List.map_cons,List.map_nil,e,g,f];exact h
theorem D6(w:World){c:Array Oper}{e:List Oper}{o:Oper}{a:Act}{Q:Exit->Act->World->Prop}(j:o.guard=none)(d s:Operand)(t b:TypeId)
  (ho:o.op = .call { callee := .builtin .copy,args := #[d,s],argTypes := #[t,b] }) (v u:Value) (i:a.eval d=v) (l:a.eval s=u) {f:Value} {w':World}
  (k:(Builtin.copy_ #[t,b] o.type #[v,u]).run P w = .ok f w') (h:wpList P c Q e (a.put o.dst f) w'):wpList P c Q (o::e) a w:=
 wpList_plain j fun _ g=>Ziw w d s t b ho v u i l k (g _ _ h)
theorem KB{c:Array Oper}{o:Oper}{a:Act}{w:World}{K:Act->World->Prop}{Q:Exit->Act->World->Prop}{E:Prop}
  (i:o.guard=none) (d x:Operand) (b e:TypeId) (j:o.op=Op.call { callee:=Callee.builtin Builtin.copy,args := #[d,x],argTypes := #[b,e] })
  (v u:Value) (h:a.eval d=v) (m:a.eval x=u) {f:Value} {w':World} (k:(Builtin.copy_ #[b,e] o.type #[v,u]).run P w = .ok f w') (g:K (a.put o.dst f) w'):
  if Region.wanted o (yielded c a.tmps)=true then Oper.wp P o a w K Q else E:=by
 have l:Region.wanted o (yielded c a.tmps)=true:=by simp[Region.wanted,i]
 rw[if_pos l];unfold Oper.wp;simp[execOp,j,resolve,invoke,builtin,h,m,k,Result.andThen];exact g
theorem JM{c:Array Oper}{o:Oper}{a:Act}{w:World}{K:Act->World->Prop}{Q:Exit->Act->World->Prop}{E:Prop}
  (i:o.guard=none) (d x:Operand) (b e:TypeId) (j:o.op=Op.call { callee:=Callee.builtin Builtin.append,args := #[d,x],argTypes := #[b,e] })
  (v u:Value) (h:a.eval d=v) (m:a.eval x=u) {f:Value} {w':World} (k:(Builtin.append_ #[b,e] o.type #[v,u]).run P w = .ok f w') (g:K (a.put o.dst f) w'):
  if Region.wanted o (yielded c a.tmps)=true then Oper.wp P o a w K Q else E:=by
 have l:Region.wanted o (yielded c a.tmps)=true:=by simp[Region.wanted,i]
 rw[if_pos l];unfold Oper.wp;simp[execOp,j,resolve,invoke,builtin,h,m,k,Result.andThen];exact g
end
def Sl(w:World)(e:TypeId)(sz:Nat)(v:Value)(n:Nat)(xs:LVa):Prop:=
 xs.length=n*sz/\
 ((v = .slice none 0 0/\n=0)\/
  ∃g cap L,v = .slice (some ⟨g,0,none⟩) n cap/\RowIs w g e L/\n<=cap/\cap<=maxLen/\L.length=cap*sz/\L.take (n*sz)=xs)
theorem Sl.owns{w:World}{e:TypeId}{a:Nat}{v:Value}{n:Nat}{xs:LVa}(h:Sl w e a v n xs):w.ownsRow 0 e a v n xs:=by
 refine⟨h.1,?_⟩;rcases h.2 with c|⟨g,b,L,rfl,k,d,f,i,j⟩
 ·exact .inl c
 ·exact .inr ⟨g,b,L.toArray,rfl,Nat.zero_le _,k,d,f,by simpa using i,by simpa using j⟩
theorem Sl.of_owns{w:World}{e:TypeId}{b:Nat}{v:Value}{n:Nat}{xs:LVa}{base:Nat}(h:w.ownsRow base e b v n xs):Sl w e b v n xs:=by
 refine⟨h.1,?_⟩;rcases h.2 with a|⟨g,c,d,rfl,hr,a,f,i,j,k⟩
 ·exact .inl a
 ·exact .inr ⟨g,c,d.toList,rfl,by simpa [RowIs] using a,f,i,by simpa using j,by simpa using k⟩
def Dk(w:World)(v v':Value):Prop:=∀g,v'.ownBlock=some g->v.ownBlock=some g\/w.heap.size<=g
theorem KH{P:Program}(w:World)(t ty e:TypeId)(i:TypeInfo)(z:Value)(size bytes:Nat)(C:P.underlying t=some (.slice e))(x:P.info? e=some i)(J:i.zero=some z)
  (o:i.size=size) (F:i.bytes=bytes) (K:z.cells.size=size) (U:0<size)
  (v:Value) (n:Nat) (xs:LVa) (h:Sl w e size v n xs)
  (a:Addr) (m c:Nat) (b:LVa) (f:b.length=m*size) (y:∀j u,b[j]?=some u->w.cell? (a.add j)=some u) (q:∀u∈b,u.oneCell'=true)
  (r:n+m<=maxLen) (G:(n+m)*bytes<=140737488355328):
  ∃p w',(Builtin.append_ #[t,t] ty #[v,.slice (some a) m c]).run P w = .ok p w'/\Sl w' e size p (n+m) (xs++b)/\w.grownBy w' v.ownBlock/\Dk w v p:=by
 rcases h.2 with⟨rfl,rfl⟩|⟨g,d,L,rfl,I,E,M,N,O⟩
 ·obtain⟨p,w',q,D,E,_⟩:=run_append_own (P:=P) w w.heap.size t ty e i z size bytes C x J o F K U _ 0 xs ⟨h.1,.inl ⟨rfl,rfl⟩⟩ a m c b f y q r G (Nat.le_refl _);exact⟨p,w',q,Sl.of_owns D,E,fun g R => .inr (D.lt g R).1⟩
 ·by_cases B:n+m<=d
  ·have s:n*i.size+b.length<=L.toArray.size:=by rw[o,f];simp[N,<-Nat.add_mul];exact Nat.mul_le_mul_right _ B
   have A:=run_append_room (P:=P) w t ty e i C x g n d L.toArray I a m c b (by rw[o];exact f) y q B s;refine⟨_,_,A,⟨by rw[List.length_append,h.1,f,Nat.add_mul],.inr ⟨g,d,L.take (n*size)++b++L.drop (n*size+b.length),rfl,?_,B,M,?_,?_⟩⟩,?_,fun k l => .inl l⟩
   ·rw[o];exact setRow_heap w g L.toArray _ e _ I
   ·simp only[List.length_append,List.length_take,List.length_drop];rw[o]at s;simp at s;omega
   ·rw[O];have:(n+m)*size=(xs++b).length:=by rw[List.length_append,h.1,f,Nat.add_mul]
    rw[this];exact List.take_left
   ·exact⟨rfl,rfl,rfl,by simp,fun k _ l=>setRow_other w g k _ (fun e=>l (by simp[Value.ownBlock,e]))⟩
  ·have T:∀j u,xs[j]?=some u->w.cell? ((⟨g,0,none⟩:Addr).add j)=some u:=h.owns.cells (g:=g) rfl;subst o;subst F
   have A:=run_append_grow (P:=P) w t ty e i z C x J ⟨g,0,none⟩ n d xs h.1 T a m c b f y (by omega) (by simp only[maxLen]at r;omega) (growslice_fits (by omega) G);have S:=grownCap_ge w (n+m) d e;have Q:grownCap w (n+m) d e<=maxLen:=grownCap_le_maxLen w (n+m) d e r;have H:(xs++b).length=(n+m)*i.size:=by rw[List.length_append,h.1,f,Nat.add_mul]
   refine⟨_,_,A,⟨H,.inr ⟨w.heap.size,_,(xs.toArray++b.toArray++Builtin.zeroCells z.cells (grownCap w (n+m) d e-(n+m))).toList,rfl,by unfold RowIs;rw[Array.toArray_toList];exact heap_alloc_new w.drew _,S,Q,?_,?_⟩⟩,⟨rfl,rfl,rfl,by simp,fun k l _=>Below.heap_alloc w.drew _ k l⟩,fun k l=>?_⟩
   ·simp only[Array.length_toList,Array.size_append,List.size_toArray,size_zeroCells,K,h.1,f,<-Nat.add_mul]
    congr 1
    omega
   ·simp only[Array.toList_append,List.append_assoc];rw[<-List.append_assoc,<-H];exact List.take_left
   ·simp[Value.ownBlock]at l;omega
end Go.Proofs.YtaieidcohdhgpaaGreatDoor
