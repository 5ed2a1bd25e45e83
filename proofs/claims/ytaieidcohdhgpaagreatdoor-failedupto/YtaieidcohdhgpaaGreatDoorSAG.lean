/- Failed. -/
import Derived.Test.YtaieidcohdhgpaaGreatDoorSAE
import Derived.Test.YtaieidcohdhgpaaGreatDoorSAF
import Derived.Deep.DeepCutAuto
import Derived.Deep.RegionHeld3
namespace Go.Proofs.YtaieidcohdhgpaaGreatDoor
set_option maxHeartbeats 40000000
set_option maxRecDepth 100000
open Go.RowKit
theorem ZnG:∀(l:List UInt8) (i:Nat),(∀j,j<i->l[j]? ≠ some 47)->l[i]?=some 47->Lib.indexByte l 47=i
 | [],i,_,h=>by simp at h
 | a::l,0,_,h=>by simp at h;simp[Lib.indexByte,h]
 | a::l,i+1,h,h1=>by
  have b:a≠47:=fun e=>h 0 (by omega) (by simp[e])
  have:=ZnG l i (fun j hj=>by have:=h (j+1) (by omega);simpa using this) (by simpa using h1);simp[Lib.indexByte,b,this]
theorem ZlM:∀(l:List UInt8),(∀j:Nat,l[j]? ≠ some 47)->Lib.indexByte l 47 = -1
 | [],_=>by simp[Lib.indexByte]
 | a::l,h=>by
  have b:a≠47:=fun e=>h 0 (by simp[e])
  have:=ZlM l (fun j=>by have:=h (j+1);simpa using this);simp[Lib.indexByte,b,this]
def pc(s:By):LY:=Lib.splitB ⟨#[47]⟩ 0 (Lib.countB s ⟨#[47]⟩) s
theorem Zgm(s:By):Lib.indexB s ⟨#[47]⟩=Lib.indexByte s.data.toList 47:=Lib.index_one _ _
theorem Q0(s:By)(h:∀j:Nat,s.data.toList[j]? ≠ some 47):pc s=[s]:=
 Lib.splitB_miss _ _ _ _ ((Zgm s).trans (ZlM _ h))
theorem Zk8(s:By)(i:Nat)(h:∀j,j<i->s.data.toList[j]? ≠ some 47)(b:s.data.toList[i]?=some 47):pc s=s.extract 0 i::pc (s.extract (i+1) s.size):=by
 have a:=(Zgm s).trans (ZnG _ i h b);unfold pc;rw[Lib.countB_hit s ⟨#[47]⟩ i (Nat.le_refl 1) a,Nat.add_comm 1,Lib.splitB_hit _ _ _ _ i a]
 rfl
theorem ZdA(p:By)(f:Nat):(p.extract f p.size).data.toList=p.data.toList.drop f:=Lib.extract_to_end p f
def Df(p:By):LY:=if p.toList==[47] then [] else pc (p.extract 1 p.size)
def DQ(p:By):Bool:=p.toList==[47] || (p.data.toList[0]? == some 47 && decide ((pc (p.extract 1 p.size)).length<=6) && (pc (p.extract 1 p.size)).all DP)
theorem ZmN(p:By):(pc p).length<=p.size+1:=by
 have:=Lib.splitB_length_le ⟨#[47]⟩ 0 (Lib.countB p ⟨#[47]⟩) p;have h2:=Lib.countB_le ⟨#[47]⟩ (Nat.le_refl 1) p.size p (Nat.le_refl _);unfold pc;omega
theorem Zji(l:List UInt8):(∀j:Nat,l[j]? ≠ some 47)\/∃i:Nat,(∀j,j<i->l[j]? ≠ some 47)/\l[i]?=some 47:=by
 induction l with
 | nil=>exact .inl (by simp)
 | cons a l ih=>
  by_cases h:a=47
  ·exact .inr ⟨0,fun j b=>absurd b (Nat.not_lt_zero _),by simp[h]⟩
  ·rcases ih with ih|⟨i,c,d⟩
   ·exact .inl (fun j=>by cases j with
     | zero=>simp[h]
     | succ j=>simpa using ih j)
   ·exact .inr ⟨i+1,fun j b=>by
     cases j with
     | zero=>simp[h]
     | succ j=>simpa using c j (by omega),by simpa using d⟩
theorem Zj9(l:List Nat)(x:Nat)(h:x∈l):x<=l.sum:=by
 induction l with
 | nil=>cases h
 | cons a l ih=>
  rw[List.sum_cons];rcases List.mem_cons.1 h with rfl|h
  ·omega
  ·have:=ih h;omega
theorem ZnC:∀(k:Nat) (s:By),s.size<=k->((pc s).map (fun x=>x.size+1)).sum=s.size+1:=by
 intro k
 induction k with
 | zero=>
  intro s d;have b:s.data.toList=[]:=List.eq_nil_of_length_eq_zero (by have:s.data.toList.length=s.size:=Array.length_toList;omega);rw[Q0 s (fun j=>by rw[b];simp)];simp
 | succ k ih=>
  intro s d;rcases Zji s.data.toList with h|⟨i,c,a⟩
  ·rw[Q0 s h];simp
  ·have hi:i<s.size:=(List.getElem?_eq_some_iff.1 a).1;rw[Zk8 s i c a,List.map_cons,List.sum_cons,ih _ (by simp[ByteArray.size_extract];omega)];simp[ByteArray.size_extract];omega
theorem sum_le(l:LY)(h:l.all DP=true):(l.map (fun x=>x.size+1)).sum<=l.length*13:=by
 induction l with
 | nil=>simp
 | cons a l ih=>
  simp only[List.all_cons,Bool.and_eq_true]at h;have:=ih h.2;have ha:a.size<=12:=by
   have b:=h.1;simp only[DP,Bool.and_eq_true,decide_eq_true_eq]at b;exact b.1.2
  simp only[List.map_cons,List.sum_cons,List.length_cons];omega
theorem Zfm(p:By)(h:DQ p=true):p.size<=78:=by
 unfold DQ at h;rw[Bool.or_eq_true]at h;rcases h with h|h
 ·have a:p.toList=[47]:=by simpa using h
  rw[ByteArray.toList_eq]at a;have:p.data.toList.length=p.size:=Array.length_toList;rw[a]at this;simp at this;omega
 ·simp only[Bool.and_eq_true,decide_eq_true_eq]at h;have a:=ZnC _ (p.extract 1 p.size) (Nat.le_refl _);have h2:=sum_le _ h.2;have h3:(p.extract 1 p.size).size=p.size-1:=by simp[ByteArray.size_extract]
  have:=h.1.2;omega
theorem ZjC(p:By):Lib.hasPrefix p.data.toList [47]=(p.data.toList[0]? == some 47):=by
 cases h:p.data.toList with
 | nil=>rfl
 | cons a l=>rw[Bool.eq_iff_iff];simp[Lib.hasPrefix,List.isPrefixOf];exact eq_comm
def Qo(p:By)(w:World)(e:Ending)(w':World):Prop:=
 ((DQ p=false/\e = .returned (.tuple #[.slice none 0 0,.bool false]))\/
  (DQ p=true/\∃a c,e = .returned (.tuple #[.slice a (Df p).length c,.bool true])/\Sl w' 9 1 (.slice a (Df p).length c) (Df p).length ((Df p).map .string)))/\Below w.heap.size w w'
theorem Zeh(p:By)(m:Int)(w:World)(hp:p.size<=2000000)(O:w.cell? ⟨0,0,none⟩=some (.int .i64 m)):Calls Tryz.prog 224 #[.string p] w (Qo p w):=by
 obtain⟨b,n⟩:∃b,b=DQ p:=⟨_,rfl⟩
 cases h0:(p.toList==[47]) with
 | true=>
  have d:Df p=[]:=by simp[Df,h0]
  have a:DQ p=true:=by simp[DQ,h0]
  have f:=Db (show Qo p w (.returned (.tuple #[.slice none 0 0,.bool true])) w from ⟨.inr ⟨a,none,0,by rw[d];rfl,by rw[d];exact⟨rfl,.inl ⟨rfl,rfl⟩⟩⟩,Below.refl _ _⟩);clear n d a;go_enter Tryz.func224,Tryz.ntmps224;go_wp2
  go_ret2
  exact Da f
 | false=>
 by_cases aa:78<p.size
 ·have a:DQ p=false:=by
   cases h:DQ p with
   | false=>rfl
   | true=>have:=Zfm p h;omega
  have f:=Db (show Qo p w (.returned (.tuple #[.slice none 0 0,.bool false])) w from ⟨.inl ⟨a,rfl⟩,Below.refl _ _⟩);clear n a;go_enter Tryz.func224,Tryz.ntmps224;go_wp2
  go_ret2
  exact Da f
 cases c:(p.data.toList[0]? == some 47) with
 | false=>
  have a:DQ p=false:=by simp only[DQ,h0,c];rfl
  have f:=Db (show Qo p w (.returned (.tuple #[.slice none 0 0,.bool false])) w from ⟨.inl ⟨a,rfl⟩,Below.refl _ _⟩);have y:=ZjC p;rw[c]at y;clear n a c;go_enter Tryz.func224,Tryz.ntmps224;go_wp2_with (go_at_call 194;refine(Tryz.strings_HasPrefix _ _ _).mono ?_;rintro e w' ⟨rfl,rfl⟩)
  go_ret2
  exact Da f
 | true=>
  have y:=ZjC p;rw[c]at y;have ac:1<=p.size:=by
   have:p.data.toList[0]?=some 47:=by simpa using c
   have r:=(List.getElem?_eq_some_iff.1 this).1;have h3:p.data.toList.length=p.size:=Array.length_toList;omega
  have d:Df p=pc (p.extract 1 p.size):=by simp[Df,h0]
  have a:DQ p=(decide ((pc (p.extract 1 p.size)).length<=6) && (pc (p.extract 1 p.size)).all DP):=by simp only[DQ,h0,c];simp
  have E:(pc (p.extract 1 p.size)).length=Lib.countB (p.extract 1 p.size) ⟨#[47]⟩+1:=Lib.splitB_all ⟨#[47]⟩ (Nat.le_refl 1) 0 _ _ rfl;have g:=Tryz.strings_Split (p.extract 1 p.size) ⟨#[47]⟩ m w (by simp[ByteArray.size_extract];omega) O (Nat.le_refl 1);rw[<-E]at g;change Calls Tryz.prog 262 #[.string (p.extract 1 p.size),.string ⟨#[47]⟩] w fun e w'=>e = .returned (.slice (some ⟨w.heap.size,0,none⟩) (pc (p.extract 1 p.size)).length (pc (p.extract 1 p.size)).length)/\w'=w.alloc (.cells ((pc (p.extract 1 p.size)).map Value.string).toArray 9) at g
  have C:=ZmN (p.extract 1 p.size);have N:(p.extract 1 p.size).size<=2000000:=by simp[ByteArray.size_extract];omega
  have z:∀x∈pc (p.extract 1 p.size),x.size<=2000001:=fun x l=>by
   have c:=ZnC _ (p.extract 1 p.size) (Nat.le_refl _);have r:x.size+1<=((pc (p.extract 1 p.size)).map (fun x=>x.size+1)).sum:=Zj9 _ _ (List.mem_map.2 ⟨x,l,rfl⟩);omega
  obtain⟨P,s⟩:∃P,P=pc (p.extract 1 p.size):=⟨_,rfl⟩;have B:Sl (w.alloc (.cells (P.map Value.string).toArray 9)) 9 1 (.slice (some ⟨w.heap.size,0,none⟩) P.length P.length) P.length (P.map .string):=
   ⟨by simp,.inr ⟨_,P.length,P.map .string,rfl,heap_alloc_new w _,Nat.le_refl _,by unfold maxLen;rw[s];omega,by simp,by rw[Nat.mul_one];exact List.take_of_length_le (by simp)⟩⟩
  have u:Below w.heap.size w (w.alloc (.cells (P.map Value.string).toArray 9)):=(Below.refl _ _).alloc (Nat.le_refl _) _;rw[<-s]at d a g C z;have M:Hid (P.length<=6->P.all DP=true->Qo p w (.returned (.tuple #[.slice (some ⟨w.heap.size,0,none⟩) P.length P.length,.bool true])) (w.alloc (.cells (P.map Value.string).toArray 9))):=fun c r=>
   ⟨.inr ⟨by rw[a,r];simp[c],some ⟨w.heap.size,0,none⟩,P.length,by rw[d],by rw[d];exact B⟩,u⟩
  have A:Hid ((¬P.length<=6)\/P.all DP=false->Qo p w (.returned (.tuple #[.slice none 0 0,.bool false])) (w.alloc (.cells (P.map Value.string).toArray 9))):=fun h=>
   ⟨.inl ⟨by rw[a];rcases h with h|h<;>simp[h],rfl⟩,u⟩
  have D:∀k,(w.alloc (.cells (P.map Value.string).toArray 9)).cell? ⟨w.heap.size,k,none⟩=(P[k]?).map Value.string:=fun k=>by
   rw[World.cell?_alloc_at _ _ _ _ rfl];simp
  have J:=Db D;have L:=Db z;have ab:P.length<=2000001:=by omega
  clear n a E C N s B u d D z c;by_cases h6:6<P.length
  ·go_enter Tryz.func224,Tryz.ntmps224;go_wp2_with (first|(go_at_call 194;refine(Tryz.strings_HasPrefix _ _ _).mono ?_;rintro e w' ⟨rfl,j⟩;rw[j];clear j)|(go_at_call 262;refine g.mono ?_;rintro e w' ⟨rfl,rfl⟩))
   go_ret2
   exact Da A (.inl (by omega))
  ·go_enter Tryz.func224,Tryz.ntmps224;go_wp2_with (first|(go_at_call 194;refine(Tryz.strings_HasPrefix _ _ _).mono ?_;rintro e w' ⟨rfl,j⟩;rw[j];clear j)|(go_at_call 262;refine g.mono ?_;rintro e w' ⟨rfl,rfl⟩))
   go_loop [25,6] (fun i _=>∃k:Nat,k<=P.length/\i = .int .i64 k/\Hid ((P.take k).all DP=true)) (fun i _=>P.length-(intOf i).toNat)
   case atStart=>exact⟨0,Nat.zero_le _,rfl,rfl⟩
   case round=>
    obtain⟨k,hk,rfl,v⟩:=hrel;by_cases G:k<P.length
    ·have l:P[k]?=some P[k]:=List.getElem?_eq_getElem G;have q:(w.alloc (.cells (P.map Value.string).toArray 9)).cell? ⟨w.heap.size,k,none⟩=some (.string P[k]):=by rw[Da J,l];rfl
     have I:P[k].size<=maxLen:=by unfold maxLen;have:=Da L P[k] (List.getElem_mem _);omega
     cases hokk:DP P[k] with
     | false=>
      have F:P.all DP=false:=by rw[List.all_eq_false];exact⟨P[k],List.getElem_mem _,by simp[hokk]⟩
      have o:=Db (Da A (.inr F));clear F l;go_wp2_with (go_at_call 263;refine(Zfw _ _ I).mono ?_;rintro e w' ⟨rfl,rfl⟩)
      go_ret2
      exact Da o
     | true=>
      have H:(P.take (k+1)).all DP=true:=by
       rw[List.take_succ_eq_append_getElem G,List.all_append,Da v];simp[hokk]
      have K:=Db H;clear H l;go_wp2_with (go_at_call 263;refine(Zfw _ _ I).mono ?_;rintro e w' ⟨rfl,rfl⟩)
      go_round
      case rel=>exact⟨k+1,by omega,by go_num,K⟩
      case measure=>simp[intOf];omega
    ·obtain rfl:k=P.length:=by omega
     have t:=Da v;rw[List.take_length]at t;have o:=Db (Da M (by omega) t);clear t v;go_wp2
     go_ret2
     exact Da o
def clL(x:By×Int):LVa:=[.string x.1,.int .i64 x.2]
def cellsL(es:List (By×Int)):LVa:=es.flatMap clL
def ZnD:List UInt8->Option Nat
 | []=>none
 | c::l=>match ZnD l with
  | some k=>some (k+1)
  | none=>if c=47 then some 0 else none
def HasSl(p:By):Prop:=∃k,ZnD p.data.toList=some k
def Zn9(f:Int)(x:By×Int):Bool:=x.2==f
def RdF(w:World)(a:OA)(F:LY):Prop:=∀(k:Nat) (x:By),F[k]?=some x->∃g,a=some ⟨g,0,none⟩/\w.cell? ⟨g,k,none⟩=some (.string x)
theorem Sl.rdF{w:World}{v:Value}{F:LY}(h:Sl w 9 1 v F.length (F.map .string)):∃a c,v = .slice a F.length c/\RdF w a F:=by
 rcases h.2 with⟨rfl,d⟩|⟨g,b,R,rfl,e,hc,aa,hL,f⟩
 ·have:F=[]:=List.eq_nil_of_length_eq_zero d;subst this;exact⟨none,0,rfl,fun k x h=>by simp at h⟩
 ·refine⟨_,b,rfl,fun k x i=>⟨g,rfl,?_⟩⟩;have:(F.map Value.string)[k]?=some (.string x):=by simp[i]
  rw[e.cell];rw[<-f,List.getElem?_take]at this
  split at this
  ·exact this
  ·cases this
structure Fr(X:Nat->Prop)(w w':World):Prop where
 os:w'.os=w.os
 tape:w'.tape=w.tape
 output:w'.output=w.output
 size:w.heap.size<=w'.heap.size
 block:∀k,k<w.heap.size->¬X k->w'.heap[k]?=w.heap[k]?
theorem Fr.refl(X:Nat->Prop)(w:World):Fr X w w:=⟨rfl,rfl,rfl,Nat.le_refl _,fun _ _ _=>rfl⟩
theorem Fr.of_below{X:Nat->Prop}{w w':World}(h:Below w.heap.size w w'):Fr X w w':=⟨h.os,h.tape,h.output,h.size,fun k a _=>h.block k a⟩
theorem Fr.mono{X Y:Nat->Prop}{w w':World}(h:Fr X w w')(b:∀k,k<w.heap.size->X k->Y k):Fr Y w w':=⟨h.os,h.tape,h.output,h.size,fun k a c=>h.block k a (fun e=>c (b k a e))⟩
theorem Fr.trans{X:Nat->Prop}{a b c:World}(h:Fr X a b)(k:Fr X b c):Fr X a c:=
 ⟨k.os.trans h.os,k.tape.trans h.tape,k.output.trans h.output,Nat.le_trans h.size k.size,fun i d e=>(k.block i (Nat.lt_of_lt_of_le d h.size) e).trans (h.block i d e)⟩
theorem Fr.of_grown{X:Nat->Prop}{w w':World}{row:Option Nat}(h:w.grownBy w' row)(a:∀k,row=some k->X k):Fr X w w':=
 ⟨h.os,h.tape,h.output,h.size,fun k b c=>h.block k b (fun e=>c (a k e.symm))⟩
theorem Fr.set{X:Nat->Prop}{w w':World}(h:Fr X w w')(a:Addr)(u:Value)(c:X a.block):Fr X w (w'.setCell a u):=
 ⟨h.os,h.tape,h.output,by simpa [World.setCell] using h.size,fun k d b=>by rw[Below.heap_setCell _ _ _ _ (fun e=>b (by rw[e];exact c))];exact h.block k d b⟩
theorem RowIs.fr{X:Nat->Prop}{w w':World}{g:Nat}{e:TypeId}{L:LVa}(h:RowIs w g e L)(b:Fr X w w')(a:¬X g):RowIs w' g e L:=by
 unfold RowIs;rw[b.block g h.lt a];exact h
theorem Sl.fr{X:Nat->Prop}{w w':World}{e:TypeId}{a:Nat}{v:Value}{n:Nat}{xs:LVa}(h:Sl w e a v n xs)(c:Fr X w w')(b:∀g,v.ownBlock=some g->¬X g):Sl w' e a v n xs:=
 h.kept (fun k d e=>c.block k d (b k e))
structure RefW(w:World)(rb:Nat)(vl vf:Value)(L:List (By×Int))(F:LY):Prop where
 hd:RowIs w rb 89 [vl,vf]
 sl:Sl w 103 2 vl L.length (cellsL L)
 sf:Sl w 9 1 vf F.length (F.map .string)
 nl:L.length<=2000000
 nf:F.length<=2000000
 ok:∀x∈L,x.1.size<=2000000/\HasSl x.1
 okf:∀s∈F,s.size<=2000000
 sep:∀g,vl.ownBlock=some g->vf.ownBlock≠some g
theorem Sl.type{w:World}{e:TypeId}{c:Nat}{v:Value}{n:Nat}{xs:LVa}(h:Sl w e c v n xs){g:Nat}(a:v.ownBlock=some g):∃L,RowIs w g e L:=by
 rcases h.2 with⟨rfl,_⟩|⟨g',aa,L,rfl,b,_⟩
 ·simp[Value.ownBlock]at a
 ·simp[Value.ownBlock]at a;subst a;exact⟨L,b⟩
theorem RowIs.type{w:World}{g:Nat}{e b:TypeId}{L c:LVa}(h:RowIs w g e L)(a:RowIs w g b c):e=b:=by
 unfold RowIs at h a;rw[h]at a;simp at a;exact a.2
def RefOwn(rb:Nat)(vl vf:Value)(k:Nat):Prop:=k=rb\/vl.ownBlock=some k\/vf.ownBlock=some k
section
variable{w:World}{rb:Nat}{vl vf:Value}{L:List (By×Int)}{F:LY}
end


theorem KJ{w w':World}(h:w.grownBy w' none):Below w.heap.size w w':=⟨h.os,h.tape,h.output,h.size,fun k a=>h.block k a (by simp)⟩
def cutR(s:By)(at_ n:Int):By:=s.extract (min at_.toNat s.size) (min at_.toNat s.size+min n.toNat (s.size-min at_.toNat s.size))
def Di(s:By)(n:Nat):By:=if n<=s.size then s.extract 0 n else s++⟨(List.replicate (n-s.size) 0).toArray⟩
theorem Ku:(Tryz.prog.info? 5).map (fun i=>(i.zero,i.size,i.bytes))=some (some (.int .u8 0),1,1):=by kernel_rfl

theorem Jc(s:By)(n:Nat):(Di s n).size=n:=by
 unfold Di
 split
 ·rw[ByteArray.size_extract];omega
 ·rw[ByteArray.size_append];have:(ByteArray.mk (List.replicate (n-s.size) (0:UInt8)).toArray).size=n-s.size:=List.length_replicate;omega
def wrR(s:By)(i:Nat)(d:By):By:=Di s i++d++(if i+d.size<s.size then s.extract (i+d.size) s.size else ⟨#[]⟩)
theorem Q4(s:By)(m:Nat)(d:By):(wrR s m d).size=max (m+d.size) s.size:=by
 unfold wrR;rw[ByteArray.size_append,ByteArray.size_append,Jc]
 split
 ·rw[ByteArray.size_extract];omega
 ·have:(ByteArray.mk #[]).size=0:=rfl;omega
def ZiJ:Value := .agg #[.string ⟨#[]⟩,.bool false,.int .i64 0,.int .i64 0]



def jl(ns:LY):List UInt8:=ns.flatMap (fun n=>47::n.data.toList)
def jn(ns:LY):By:=⟨(jl ns).toArray⟩
def NoSl(n:By):Prop:=(47:UInt8)∉n.data.toList
theorem NoSl.at{n:By}(h:NoSl n)(j:Nat):n.data.toList[j]? ≠ some 47:=fun e=>h (List.mem_of_getElem? e)
theorem ZiI{n:By}(h:DP n=true):NoSl n:=fun a=>by
 simp only[DP,Bool.and_eq_true]at h;have:=List.all_eq_true.1 h.2 _ a
 revert this;decide
theorem ZhM{n:By}(h:DP n=true):n.data.toList≠[]:=fun e=>by
 simp[DP,ByteArray.toList_eq,e]at h
theorem Qs(ns:LY):(jn ns).data.toList=jl ns:=by simp[jn]
theorem ZhV(ns:LY):(jn ns).toList=jl ns:=by rw[ByteArray.toList_eq,Qs]
theorem ZnE:jl []=[]:=rfl
theorem KV(n:By)(ns:LY):jl (n::ns)=47::n.data.toList++jl ns:=by simp[jl]
theorem Zlt(a b:LY):jl (a++b)=jl a++jl b:=by simp[jl]
theorem Zls(n:By):jl [n]=47::n.data.toList:=by simp[jl]
theorem Q7{a b:By}(h:a.data.toList=b.data.toList):a=b:=WideShapes.bytes_inj h
theorem Zlr(ns:LY):(jn ns).size=(jl ns).length:=by show(jn ns).data.size=_;simp[jn]
def Nms(ns:LY):Prop:=∀n∈ns,DP n=true
theorem pc_jl(n:By)(ns:LY)(b:∀m∈n::ns,NoSl m)(s:By)(a:s.data.toList=n.data.toList++jl ns):pc s=n::ns:=by
 induction ns generalizing n s with
 | nil=>
  have:s=n:=Q7 (by simpa [ZnE] using a);subst this;exact Q0 s (b s (by simp)).at
 | cons m ms ih=>
  have e:=b n (by simp);rw[Zk8 s n.size (fun j f=>by rw[a,List.getElem?_append_left (by simpa using f)];exact e.at j) (by rw[a,KV,List.getElem?_append_right (by simp)];simp)];have c:s.extract 0 n.size=n:=Q7 (by rw[Lib.extract_data,a];simp);have d:(s.extract (n.size+1) s.size).data.toList=m.data.toList++jl ms:=by
   rw[ZdA,a,KV,List.drop_append];simp
  rw[c,ih m (fun x g=>b x (List.mem_cons_of_mem _ g)) _ d]
theorem ZgS{ns:LY}(h:Nms ns)(b:ns≠[]):Df (jn ns)=ns:=by
 cases ns with
 | nil=>exact absurd rfl b
 | cons n ns=>
  unfold Df;rw[if_neg (by
   rw[ZhV,KV];have:=ZhM (h n (by simp));simp[this])]
  exact pc_jl n ns (fun m a=>ZiI (h m a)) _ (by rw[ZdA,Qs,KV];simp)
theorem jl_pc:∀(k:Nat) (s:By),s.size<=k->jl (pc s)=47::s.data.toList:=by
 intro k
 induction k with
 | zero=>
  intro s l;have c:s.data.toList=[]:=List.eq_nil_of_length_eq_zero (by have:s.data.toList.length=s.size:=Array.length_toList;omega);rw[Q0 s (fun j=>by rw[c];simp),Zls]
 | succ k ih=>
  intro s l;rcases Zji s.data.toList with h|⟨i,d,a⟩
  ·rw[Q0 s h,Zls]
  ·have hi:i<s.size:=(List.getElem?_eq_some_iff.1 a).1;rw[Zk8 s i d a,KV,ih _ (by simp[ByteArray.size_extract];omega),ZdA,Lib.extract_data];have f:s.data.toList.drop i=47::s.data.toList.drop (i+1):=by
    obtain⟨g,e⟩:=List.getElem?_eq_some_iff.1 a;rw[List.drop_eq_getElem_cons g,e]
   have b:s.data.toList=s.data.toList.take i++s.data.toList.drop i:=(List.take_append_drop _ _).symm;rw[f]at b;simp only[List.drop_zero,Nat.sub_zero];rw[List.cons_append,List.cons.injEq];exact⟨rfl,b.symm⟩
theorem Uq{p:By}(h:DQ p=true)(d:(p.toList==[47])=false):p=jn (Df p)/\Nms (Df p)/\Df p≠[]/\(Df p).length<=6:=by
 unfold DQ at h;rw[d,Bool.false_or]at h;simp only[Bool.and_eq_true,decide_eq_true_eq]at h;have g:Df p=pc (p.extract 1 p.size):=by unfold Df;rw[d];simp
 have b:=jl_pc _ (p.extract 1 p.size) (Nat.le_refl _);rw[<-g]at h b;refine⟨?_,fun n f=>List.all_eq_true.1 h.2 n f,fun e=>by rw[e]at b;simp[ZnE]at b,h.1.2⟩;refine Q7 ?_;rw[Qs,b,ZdA];have a:p.data.toList[0]?=some 47:=by simpa using h.1.1
 obtain⟨hl,e⟩:=List.getElem?_eq_some_iff.1 a
 cases hp:p.data.toList with
 | nil=>rw[hp]at a;simp at a
 | cons c l=>rw[hp]at a;simp at a;simp[a]
theorem Zgl{ns:LY}(h:Nms ns)(a:ns≠[]):((jn ns).toList==[47])=false:=by
 cases ns with
 | nil=>exact absurd rfl a
 | cons n ns=>
  rw[ZhV,KV];have:=ZhM (h n (by simp));simp[this]
theorem Zlf{ns:LY}(h:Nms ns)(b:ns≠[])(c:ns.length<=6):DQ (jn ns)=true:=by
 have a:=ZgS h b;unfold Df at a;rw[Zgl h b]at a;simp only[Bool.false_eq_true,if_false]at a;unfold DQ;rw[Zgl h b,a,Qs]
 cases ns with
 | nil=>exact absurd rfl b
 | cons n ns=>
  simp only[Bool.false_or,KV,Bool.and_eq_true,decide_eq_true_eq];exact⟨⟨by simp,c⟩,List.all_eq_true.2 h⟩
theorem Ui{p:By}(a:(p.toList==[47])=true):Df p=[]:=by unfold Df;rw[a];rfl
def D8:LY->LY->List (LY)
 | _,[]=>[]
 | _,[_]=>[]
 | d,n::m::ns=>(d++[n])::D8 (d++[n]) (m::ns)
abbrev Gh:=List (LY×VS)
def nodeV(ρ : Int->Nat)(u:VS):Int:=if u.p.isSome=true then -1 else (ρ u.f:Int)
def vw(ρ : Int->Nat)(x:LY×VS):By×Int:=(jn x.1,nodeV ρ x.2)
def atG(G:Gh)(ns:LY):Option VS:=(G.find? (fun x=>decide (x.1=ns))).map (·.2)
structure GOk(G:Gh):Prop where
 nms:∀x∈G,Nms x.1
 ne:∀x∈G,x.1≠[]
 le:∀x∈G,x.1.length<=6
 nd:(G.map (·.1)).Nodup
 up:∀ns n u,(ns++[n],u)∈G->ns=[]\/∃v,(ns,v)∈G/\v.p.isSome=true
def ahG(G:Gh):List (LY)->Int
 | []=>0
 | q::r=>match atG G q with
  | none=>3
  | some u=>if u.p.isSome=true then ahG G r else 4
theorem KT{G:Gh}{ns:LY}{u:VS}(h:atG G ns=some u):(ns,u)∈G:=by
 unfold atG at h
 cases hf:G.find? (fun x=>decide (x.1=ns)) with
 | none=>rw[hf]at h;cases h
 | some x=>
  rw[hf]at h;have b:=List.mem_of_find?_eq_some hf;have a:=List.find?_some hf;simp at h a;rw[<-h,<-a];exact b
theorem QJ{α β : Type}{G:List (α × β)}(h:(G.map (·.1)).Nodup){a : α}{u v : β}(g:(a,u)∈G)(i:(a,v)∈G):u=v:=by
 induction G with
 | nil=>cases g
 | cons x G ih=>
  rw[List.map_cons,List.nodup_cons]at h;rcases List.mem_cons.1 g with d|e
  ·rcases List.mem_cons.1 i with b|c
   ·rw[<-d]at b;exact(Prod.mk.inj b).2.symm
   ·exact absurd (List.mem_map_of_mem (f:=(·.1)) c) (by rw[<-d]at h;exact h.1)
  ·rcases List.mem_cons.1 i with b|c
   ·exact absurd (List.mem_map_of_mem (f:=(·.1)) e) (by rw[<-b]at h;exact h.1)
   ·exact ih h.2 e c
theorem KX{G:Gh}(h:(G.map (·.1)).Nodup){ns:LY}{u:VS}(a:(ns,u)∈G):atG G ns=some u:=by
 cases ha:atG G ns with
 | none=>
  unfold atG at ha;rw[Option.map_eq_none_iff,List.find?_eq_none]at ha;exact absurd (by simp:decide ((ns,u).1=ns)=true) (ha _ a)
 | some v=>rw[QJ h a (KT ha)]
theorem Ud{G:Gh}{ns:LY}(h:atG G ns=none)(u:VS):(ns,u)∉G:=fun a=>by
 unfold atG at h;rw[Option.map_eq_none_iff,List.find?_eq_none]at h;exact absurd (by simp:decide ((ns,u).1=ns)=true) (h _ a)
def qIn(ns:LY)(x:LY×VS):Bool:=decide (x.1.dropLast=ns)
theorem Zf7{ns:LY}(h:ns≠[]):∃d n,ns=d++[n]:=⟨ns.dropLast,ns.getLast h,(List.dropLast_concat_getLast h).symm⟩
def EnOk(G:Gh)(ns:LY)(es:LS):Prop:=∀n u,(n,u)∈es↔(ns++[n],u)∈G
theorem Zlm(a:By):ltS a a=false:=by
 unfold ltS
 cases h:Op.bytesLess a.toList a.toList with
 | false=>rfl
 | true=>
  have:∀l:List UInt8,Op.bytesLess l l=false:=by
   intro l
   induction l with
   | nil=>rfl
   | cons c l ih=>simp[Op.bytesLess,ih]
  rw[this]at h;cases h
theorem SrtS.nodup{es:LS}(h:SrtS es):(es.map (·.1)).Nodup:=by
 unfold List.Nodup;rw[List.pairwise_iff_getElem];intro i j a c b e;have ab:j<es.length:=by simpa using c
 have aa:i<es.length:=by simpa using a
 rw[List.getElem_map,List.getElem_map]at e;have:=h i j es[i] es[j] b (List.getElem?_eq_getElem _) (List.getElem?_eq_getElem _);rw[e,Zlm]at this;cases this
theorem Zft{α : Type}{a b:List α}(c:a.Nodup)(d:b.Nodup)(h:∀x,x∈a↔x∈b):a.length=b.length:=((List.perm_ext_iff_of_nodup c d).2 h).length_eq
theorem ZeB{α β : Type}{G:List (α × β)}(h:(G.map (·.1)).Nodup):G.Nodup:=by
 induction G with
 | nil=>exact List.nodup_nil
 | cons x G ih=>
  rw[List.map_cons,List.nodup_cons]at h;exact List.nodup_cons.2 ⟨fun a=>h.1 (List.mem_map_of_mem (f:=(·.1)) a),ih h.2⟩
theorem ZgQ{α β : Type}(f : α -> β){l:List α}(h:l.Nodup)(d:∀x∈l,∀y∈l,f x=f y->x=y):(l.map f).Nodup:=by
 induction l with
 | nil=>exact List.nodup_nil
 | cons a l ih=>
  rw[List.nodup_cons]at h;rw[List.map_cons,List.nodup_cons];refine⟨fun g=>?_,ih h.2 (fun x i y j=>d x (by simp[i]) y (by simp[j]))⟩;obtain⟨b,c,e⟩:=List.mem_map.1 g;have:=d b (by simp[c]) a (by simp) e;rw[this]at c;exact h.1 c
theorem EnOk.length{G:Gh}{ns:LY}{es:LS}(b:GOk G)(l:SrtS es)(h:EnOk G ns es):es.length=G.countP (qIn ns):=by
 have j:(es.map (fun x=>(ns++[x.1],x.2))).Nodup:=ZgQ _ (ZeB l.nodup) (fun x _ y _ e=>by
  obtain⟨f,i⟩:=Prod.mk.inj e;have g:x.1=y.1:=by simpa using f
  exact Prod.ext g i)
 have k:(G.filter (qIn ns)).Nodup:=(ZeB b.nd).filter _;rw[List.countP_eq_length_filter,<-Zft j k,List.length_map];intro x;rw[List.mem_map,List.mem_filter];constructor
 ·rintro⟨y,m,rfl⟩;exact⟨(h y.1 y.2).1 m,by simp[qIn]⟩
 ·rintro⟨c,a⟩;obtain⟨d,n,e⟩:=Zf7 (b.ne x c);unfold qIn at a;rw[e,List.dropLast_concat,decide_eq_true_eq]at a;obtain rfl:=a;refine⟨(n,x.2),(h n x.2).2 (by rw[<-e];exact c),by rw[<-e]⟩
def qB(ns:LY)(x:LY×VS):Bool:=decide (ns.length<x.1.length/\ns <+: x.1)
def qP(ns:LY)(x:LY×VS):Bool:=decide (ns <+: x.1)
theorem Zb0{α : Type}(p q : α -> Bool):∀(l:List α),(∀x∈l,¬(p x=true/\q x=true))->l.countP (fun x=>p x || q x)=l.countP p+l.countP q
 | [],_=>rfl
 | a::l,h=>by
  rw[List.countP_cons,List.countP_cons,List.countP_cons,Zb0 p q l (fun x b=>h x (by simp[b]))];have:=h a (by simp)
  cases hp:p a<;>cases hq:q a<;>simp[hp,hq]at this ⊢ <;> omega
theorem Zcv{α : Type}{p q : α -> Bool}{l:List α}(h:∀x∈l,p x=q x):l.countP p=l.countP q:=List.countP_congr (fun x a=>by rw[h x a])
def Ki(G:Gh)(r:LY×VS->Bool)(ns:LY)(ks:LY):Nat:=G.countP (fun x=>r x && ks.any (fun n=>qP (ns++[n]) x))
theorem ZmL{ns:LY}{n m:By}{x:LY}(a:ns++[n] <+: x)(b:ns++[m] <+: x):n=m:=by
 obtain⟨r,rfl⟩:=a;obtain⟨s,e⟩:=b;rw[List.append_assoc,List.append_assoc]at e;have:=List.append_cancel_left e;simp at this;exact this.1.symm
theorem Zl8(G:Gh)(r:LY×VS->Bool)(ns:LY)(c:LY)(n:By)(f:n∉c):
  Ki G r ns (c++[n])=Ki G r ns c+G.countP (fun x=>r x && qP (ns++[n]) x):=by
 unfold Ki;rw[<-Zb0]
 ·refine Zcv (fun x _=>?_);rw[List.any_append]
  cases r x<;>simp
 ·rintro x _ ⟨d,e⟩;simp only[Bool.and_eq_true,List.any_eq_true]at d e;obtain⟨_,m,g,b⟩:=d;have a:=e.2;unfold qP at b a;rw[decide_eq_true_eq]at b a;rw[ZmL a b]at f;exact f g
theorem Zkq{G:Gh}(a:(G.map (·.1)).Nodup)(r:LY×VS->Bool){ns:LY}{u:VS}(h:(ns,u)∈G):G.countP (fun x=>r x && decide (x.1=ns))=if r (ns,u)=true then 1 else 0:=by
 induction G with
 | nil=>cases h
 | cons y G ih=>
  rw[List.map_cons,List.nodup_cons]at a;rw[List.countP_cons];rcases List.mem_cons.1 h with rfl|h
  ·have:G.countP (fun x=>r x && decide (x.1=ns))=0:=by
    rw[List.countP_eq_zero];intro x b;have:x.1≠ns:=fun e=>a.1 (by rw[<-e];exact List.mem_map_of_mem (f:=(·.1)) b)
    simp[this]
   rw[this]
   cases hr:r (ns,u)<;>simp
  ·rw[ih a.2 h];have:y.1≠ns:=fun e=>a.1 (by rw[e];exact List.mem_map_of_mem (f:=(·.1)) h)
   simp[this]
theorem Zl6{G:Gh}(f:(G.map (·.1)).Nodup)(r:LY×VS->Bool){ns:LY}{u:VS}(h:(ns,u)∈G):
  G.countP (fun x=>r x && qP ns x)=(if r (ns,u)=true then 1 else 0)+G.countP (fun x=>r x && qB ns x):=by
 rw[<-Zkq f r h,<-Zb0]
 ·refine Zcv (fun x _=>?_);have:qP ns x=(decide (x.1=ns) || qB ns x):=by
   unfold qP qB;rw[Bool.eq_iff_iff,Bool.or_eq_true,decide_eq_true_eq,decide_eq_true_eq,decide_eq_true_eq];constructor
   ·intro a;rcases Nat.lt_or_ge ns.length x.1.length with b|b
    ·exact .inr ⟨b,a⟩
    ·exact .inl (a.eq_of_length_le b).symm
   ·rintro(e|⟨_,a⟩)
    ·rw[e];exact List.prefix_refl _
    ·exact a
  rw[this]
  cases r x<;>simp
 ·rintro x _ ⟨c,d⟩;simp only[Bool.and_eq_true,decide_eq_true_eq,qB]at c d;rw[c.2]at d;omega
theorem GOk.pre{G:Gh}(h:GOk G):∀(k:Nat) (x:LY×VS),x∈G->∀ns,ns≠[]->ns <+: x.1->x.1.length=ns.length+k->0<k->∃v,(ns,v)∈G/\v.p.isSome=true:=by
 intro k
 induction k with
 | zero=>intro _ _ _ _ _ _ h0;omega
 | succ k ih=>
  intro x j ns f g a _;obtain⟨d,n,e⟩:=Zf7 (h.ne x j);have p:(d++[n],x.2)∈G:=by rw[<-e];exact j
  have b:ns <+: d:=by
   rw[e]at g a;exact List.prefix_of_prefix_length_le g (List.prefix_append d [n]) (by simp at a;omega)
  have l:d≠[]:=fun c=>by rw[c]at b;exact f (List.prefix_nil.1 b)
  rcases h.up d n x.2 p with c|⟨v,i,m⟩
  ·exact absurd c l
  ·have o:d.length=ns.length+k:=by rw[e]at a;simp at a;omega
   cases k with
   | zero=>exact⟨v,by rw[b.eq_of_length_le (by omega)];exact i,m⟩
   | succ k=>exact ih (d,v) i ns f b o (by omega)
theorem GOk.pre'{G:Gh}(h:GOk G){x:LY×VS}(c:x∈G){ns:LY}(b:ns≠[])(a:qB ns x=true):∃v,(ns,v)∈G/\v.p.isSome=true:=by
 unfold qB at a;rw[decide_eq_true_eq]at a;exact h.pre (x.1.length-ns.length) x c ns b a.2 (by omega) (by omega)
theorem Zgv{G:Gh}(h:GOk G)(r:LY×VS->Bool){ns:LY}{u:VS}(c:(ns,u)∈G)(d:u.p=none):G.countP (fun x=>r x && qB ns x)=0:=by
 rw[List.countP_eq_zero];intro x f a;rw[Bool.and_eq_true]at a;obtain⟨v,e,b⟩:=h.pre' f (h.ne _ c) a.2;rw[QJ h.nd e c,d]at b;cases b
def Kf(es:LS):LY:=es.map (·.1)
theorem Znc{G:Gh}(h:GOk G)(r:LY×VS->Bool){ns:LY}{es:LS}(g:EnOk G ns es):Ki G r ns (Kf es)=G.countP (fun x=>r x && qB ns x):=by
 unfold Ki;refine Zcv (fun x f=>?_);have:(Kf es).any (fun n=>qP (ns++[n]) x)=qB ns x:=by
  rw[Bool.eq_iff_iff,List.any_eq_true];unfold qB qP;constructor
  ·rintro⟨n,hn,c⟩;rw[decide_eq_true_eq]at c ⊢;have a:=c.length_le;simp at a;exact⟨by omega,(List.prefix_append ns [n]).trans c⟩
  ·intro d;rw[decide_eq_true_eq]at d;obtain⟨a,t,b⟩:=d
   cases t with
   | nil=>rw[<-b]at a;simp at a
   | cons n t=>
    refine⟨n,?_,by rw[decide_eq_true_eq,<-b];exact⟨t,by simp⟩⟩;have:∃u,(ns++[n],u)∈G:=by
     by_cases e:t=[]
     ·subst e;exact⟨x.2,by rw[b];exact f⟩
     ·obtain⟨v,j,_⟩:=h.pre' f (ns:=ns++[n]) (by simp) (by
       unfold qB;rw[decide_eq_true_eq,<-b];refine⟨?_,⟨t,by simp⟩⟩
       cases t with
       | nil=>exact absurd rfl e
       | cons m t=>simp)
      exact⟨v,j⟩
    obtain⟨u,i⟩:=this;exact List.mem_map.2 ⟨(n,u),(g n u).2 i,rfl⟩
 rw[this]
def cD(G:Gh)(ns:LY):Nat:=1+G.countP (fun x=>x.2.p.isSome && qB ns x)
def cE(G:Gh)(ns:LY):Nat:=G.countP (fun x=>true && qB ns x)
theorem Zlp(es:LS)(k:Nat)(h:k<es.length):Kf (es.take (k+1))=Kf (es.take k)++[es[k].1]:=by
 unfold Kf;have:es.take (k+1)=es.take k++[es[k]]:=by rw[List.take_add_one,List.getElem?_eq_getElem h];rfl
 rw[this,List.map_append];rfl
theorem Zon{es:LS}(f:SrtS es)(k:Nat)(h:k<es.length):es[k].1∉Kf (es.take k):=fun a=>by
 unfold Kf at a;obtain⟨y,g,e⟩:=List.mem_map.1 a;obtain⟨j,c,b⟩:=List.getElem_of_mem g;have d:j<k:=by simp at c;omega
 have:=f j k y es[k] d (by rw[<-b,List.getElem_take];exact List.getElem?_eq_getElem _) (List.getElem?_eq_getElem h);rw[e,Zlm]at this;cases this
theorem ZjJ{G:Gh}(a:GOk G)(r:LY×VS->Bool){ns:LY}{es:LS}(c:SrtS es)(b:EnOk G ns es)(k:Nat)(h:k<es.length):
  Ki G r ns (Kf (es.take (k+1)))=Ki G r ns (Kf (es.take k))+((if r (ns++[es[k].1],es[k].2)=true then 1 else 0)+G.countP (fun x=>r x && qB (ns++[es[k].1]) x)):=by
 rw[Zlp es k h,Zl8 _ _ _ _ _ (Zon c k h),Zl6 a.nd r ((b es[k].1 es[k].2).1 (List.getElem_mem h))]
theorem ZoM{G:Gh}(h:GOk G):cE G []=G.length:=by
 unfold cE;refine List.countP_eq_length.2 (fun x b=>?_);have:=h.ne x b;simp only[qB,Bool.true_and,decide_eq_true_eq];exact⟨by cases hx1:x.1 with
  | nil=>exact absurd hx1 this
  | cons a l=>simp,List.nil_prefix⟩
structure NumOk(I:LF)(ρ : Int->Nat)(L:List (By×Int))(F:LY):Prop where
 nd:(I.map (·.1)).Nodup
 inj:∀x∈I,∀y∈I,ρ x.1 = ρ y.1->x.1=y.1
 lt:∀x∈I,ρ x.1<F.length
 live:∀x∈I,0<L.countP (Zn9 (ρ x.1))
 all:∀f:Nat,f<F.length->0<L.countP (Zn9 f)->∃x∈I,ρ x.1=f
 size:∀x∈I,x.2.l=(F[ρ x.1]?.getD ⟨#[]⟩).size
 links:∀x∈I,x.2.f=(L.countP (Zn9 (ρ x.1)):Nat)
end Go.Proofs.YtaieidcohdhgpaaGreatDoor
