/- Told. -/
import Derived.Test.YtaieidcohdhgpaaGreatDoorYAB
import Derived.Test.YtaieidcohdhgpaaGreatDoorYAC
import Derived.Deep.DeepCutAuto
import Derived.Deep.RegionHeld3
import Derived.RangeFuncNested
import Derived.RangeFuncBound
import Derived.Shelf.RegionOpen
import Derived.OwnWalkIn
import Derived.LoopNIn
import Derived.LoopIn
namespace Go.Proofs.YtaieidcohdhgpaaGreatDoor
set_option maxHeartbeats 40000000
set_option maxRecDepth 100000
open Go.RowKit
abbrev Cb:=@Lib.extract_data
abbrev FJ:=@Lib.toList_data
theorem SC:∀(l:List UInt8) (i:Nat),(∀j,j<i->l[j]? ≠ some 47)->l[i]?=some 47->Lib.indexByte l 47=i
 |[],i,_,h=>by simp at h
 |a::l,0,_,h=>by simp at h;simp[Lib.indexByte,h]
 |a::l,i+1,h,h1=>by
  have b:a≠47:=λe=>h 0 (by omega) (by simp[e])
  have:=SC l i (λj hj=>by have:=h (j+1) (by omega);simpa using this) (by simpa using h1);simp[Lib.indexByte,b,this]
theorem SK:∀(l:List UInt8),(∀j:Nat,l[j]? ≠ some 47)->Lib.indexByte l 47 = -1
 |[],_=>by simp[Lib.indexByte]
 |a::l,h=>by
  have b:a≠47:=λe=>h 0 (by simp[e])
  have:=SK l (λj=>by have:=h (j+1);simpa using this);simp[Lib.indexByte,b,this]
def pc(s:By):LY:=Lib.splitB ⟨#[47]⟩ 0 (Lib.countB s ⟨#[47]⟩) s
theorem Wu(s:By):Lib.indexB s ⟨#[47]⟩=Lib.indexByte s.data.toList 47:=Lib.index_one _ _
theorem Ub(s:By)(h:∀j:Nat,s.data.toList[j]? ≠ some 47):pc s=[s]:=
 Lib.splitB_miss _ _ _ _ ((Wu s).trans (SK _ h))
theorem Ps(s:By)(i:Nat)(h:∀j,j<i->s.data.toList[j]? ≠ some 47)(b:s.data.toList[i]?=some 47):pc s=s.extract 0 i::pc (s.extract (i+1) s.size):=by
 have a:=(Wu s).trans (SC _ i h b);unfold pc;rw[Lib.countB_hit s ⟨#[47]⟩ i (Aa 1) a,Fa 1,Lib.splitB_hit _ _ _ _ i a]
 rfl
theorem N4(p:By)(f:Nat):(p.extract f p.size).data.toList=p.data.toList.drop f:=Lib.extract_to_end p f
def Df(p:By):LY:=if p.toList==[47] then [] else pc (p.extract 1 p.size)
def DS(p:By):Bool:=p.toList==[47] || (p.data.toList[0]? == some 47 && decide ((pc (p.extract 1 p.size)).length<=6) && (pc (p.extract 1 p.size)).all DL)
theorem ZnC(p:By):(pc p).length<=p.size+1:=by
 have:=Lib.splitB_length_le ⟨#[47]⟩ 0 (Lib.countB p ⟨#[47]⟩) p;have h2:=Lib.countB_le ⟨#[47]⟩ (Aa 1) p.size p (Aa _);unfold pc;omega
open Tryz
theorem TV(l:List UInt8):(∀j:Nat,l[j]? ≠ some 47)\/∃i:Nat,(∀j,j<i->l[j]? ≠ some 47)/\l[i]?=some 47:=by
 induction l with
 |nil=>exact .inl (by simp)
 |cons a l ih=>
  by_cases h:a=47
  ·exact .inr ⟨0,λj b=>absurd b (Eo _),by simp[h]⟩
  ·rcases ih with ih|⟨i,c,d⟩
   ·exact .inl (λj=>by cases j with
     |zero=>simp[h]
     |succ j=>simpa using ih j)
   ·exact .inr ⟨i+1,λj b=>by
     cases j with
     |zero=>simp[h]
     |succ j=>simpa using c j (by omega),by simpa using d⟩
theorem Zkv(l:List Nat)(x:Nat)(h:x∈l):x<=l.sum:=by
 induction l with
 |nil=>cases h
 |cons a l ih=>
  rw[List.sum_cons];rcases AC.1 h with rfl|h
  ·omega
  ·have:=ih h;omega
theorem Sf:∀(k:Nat) (s:By),s.size<=k->((pc s).map (λx=>x.size+1)).sum=s.size+1:=by
 intro k
 induction k with
 |zero=>
  intro s d;have b:s.data.toList=[]:=AA (by have:s.data.toList.length=s.size:=AG;omega);rw[Ub s (λj=>by rw[b];simp)];simp
 |succ k ih=>
  intro s d;rcases TV s.data.toList with h|⟨i,c,a⟩
  ·rw[Ub s h];simp
  ·have hi:i<s.size:=(Ae.1 a).1;rw[Ps s i c a,BI,List.sum_cons,ih _ (by simp[ByteArray.size_extract];omega)];simp[ByteArray.size_extract];omega
theorem sum_le(l:LY)(h:l.all DL=true):(l.map (λx=>x.size+1)).sum<=l.length*13:=by
 induction l with
 |nil=>simp
 |cons a l ih=>
  simp only[List.all_cons,A6]at h;have:=ih h.2;have ha:a.size<=12:=by
   have b:=h.1;simp only[DL,A6,AH]at b;exact b.1.2
  simp only[BI,List.sum_cons,Al];omega
theorem Rn(p:By)(h:DS p=true):p.size<=78:=by
 unfold DS at h;rw[FM]at h;rcases h with h|h
 ·have a:p.toList=[47]:=by simpa using h
  rw[Ez]at a;have:p.data.toList.length=p.size:=AG;rw[a]at this;simp at this;omega
 ·simp only[A6,AH]at h;have a:=Sf _ (p.extract 1 p.size) (Aa _);have h2:=sum_le _ h.2;have h3:(p.extract 1 p.size).size=p.size-1:=by simp[ByteArray.size_extract]
  have:=h.1.2;omega
theorem TD(p:By):Lib.hasPrefix p.data.toList [47]=(p.data.toList[0]? == some 47):=by
 cases h:p.data.toList with
 |nil=>rfl
 |cons a l=>rw[EO];simp[Lib.hasPrefix,List.isPrefixOf];exact eq_comm
def QA(p:By)(w:World)(e:Ending)(w':World):Prop:=
 ((DS p=false/\e=.returned (.tuple #[.slice none 0 0,.bool false]))\/
  (DS p=true/\∃a c,e=.returned (.tuple #[.slice a (Df p).length c,.bool true])/\Sl w' 9 1 (.slice a (Df p).length c) (Df p).length ((Df p).map .string)))/\Bw w w'
theorem RK(p:By)(m:Int)(w:World)(hp:p.size<=2000000)(O:w.cell? ⟨0,0,none⟩=some (.int .i64 m)):Cl 224 #[.string p] w (QA p w):=by
 obtain⟨b,n⟩:=ex (DS p)
 cases h0:(p.toList==[47]) with
 |true=>
  have d:Df p=[]:=by simp[Df,h0]
  have a:DS p=true:=by simp[DS,h0]
  have f:=Db (show QA p w (.returned (.tuple #[.slice none 0 0,.bool true])) w from⟨.inr ⟨a,none,0,by rw[d];rfl,by rw[d];exact⟨rfl,.inl ⟨rfl,rfl⟩⟩⟩,Ak _ _⟩);clear n d a;go_enter func224,ntmps224;go_wp2
  go_ret2
  exact Da f
 |false=>
 by_cases aa:78<p.size
 ·have a:DS p=false:=by
   cases h:DS p with
   |false=>rfl
   |true=>have:=Rn p h;omega
  have f:=Db (show QA p w (.returned (.tuple #[.slice none 0 0,.bool false])) w from⟨.inl ⟨a,rfl⟩,Ak _ _⟩);clear n a;go_enter func224,ntmps224;go_wp2
  go_ret2
  exact Da f
 cases c:(p.data.toList[0]? == some 47) with
 |false=>
  have a:DS p=false:=by simp only[DS,h0,c];rfl
  have f:=Db (show QA p w (.returned (.tuple #[.slice none 0 0,.bool false])) w from⟨.inl ⟨a,rfl⟩,Ak _ _⟩);have y:=TD p;rw[c]at y;clear n a c;go_enter func224,ntmps224;go_wp2_with(go_at_call 194;refine(Tryz.strings_HasPrefix _ _ _).mono ?_;rintro e w'⟨rfl,rfl⟩)
  go_ret2
  exact Da f
 |true=>
  have y:=TD p;rw[c]at y;have ac:1<=p.size:=by
   have:p.data.toList[0]?=some 47:=by simpa using c
   have r:=(Ae.1 this).1;have h3:p.data.toList.length=p.size:=AG;omega
  have d:Df p=pc (p.extract 1 p.size):=by simp[Df,h0]
  have a:DS p=(decide ((pc (p.extract 1 p.size)).length<=6) && (pc (p.extract 1 p.size)).all DL):=by simp only[DS,h0,c];simp
  have E:(pc (p.extract 1 p.size)).length=Lib.countB (p.extract 1 p.size) ⟨#[47]⟩+1:=Lib.splitB_all ⟨#[47]⟩ (Aa 1) 0 _ _ rfl;have g:=Tryz.strings_Split (p.extract 1 p.size) ⟨#[47]⟩ m w (by simp[ByteArray.size_extract];omega) O (Aa 1);rw[<-E]at g;change Cl 262 #[.string (p.extract 1 p.size),.string ⟨#[47]⟩] w λe w'=>e=.returned (.slice (some ⟨w.heap.size,0,none⟩) (pc (p.extract 1 p.size)).length (pc (p.extract 1 p.size)).length)/\w'=w.alloc (.cells ((pc (p.extract 1 p.size)).map Value.string).toArray 9) at g
  have C:=ZnC (p.extract 1 p.size);have N:(p.extract 1 p.size).size<=2000000:=by simp[ByteArray.size_extract];omega
  have z:∀x∈pc (p.extract 1 p.size),x.size<=2000001:=λx l=>by
   have c:=Sf _ (p.extract 1 p.size) (Aa _);have r:x.size+1<=((pc (p.extract 1 p.size)).map (λx=>x.size+1)).sum:=Zkv _ _ (As.2 ⟨x,l,rfl⟩);omega
  obtain⟨P,s⟩:=ex (pc (p.extract 1 p.size));have B:Sl (w.alloc (.cells (P.map Value.string).toArray 9)) 9 1 (.slice (some ⟨w.heap.size,0,none⟩) P.length P.length) P.length (P.map .string):=
   ⟨by simp,.inr ⟨_,P.length,P.map .string,rfl,CQ w _,Aa _,by unfold maxLen;rw[s];omega,by simp,by rw[BS];exact Ag (by simp)⟩⟩
  have u:Bw w (w.alloc (.cells (P.map Value.string).toArray 9)):=(Ak _ _).alloc (Aa _) _;rw[<-s]at d a g C z;have M:Hid (P.length<=6->P.all DL=true->QA p w (.returned (.tuple #[.slice (some ⟨w.heap.size,0,none⟩) P.length P.length,.bool true])) (w.alloc (.cells (P.map Value.string).toArray 9))):=λc r=>
   ⟨.inr ⟨by rw[a,r];simp[c],some ⟨w.heap.size,0,none⟩,P.length,by rw[d],by rw[d];exact B⟩,u⟩
  have A:Hid ((¬P.length<=6)\/P.all DL=false->QA p w (.returned (.tuple #[.slice none 0 0,.bool false])) (w.alloc (.cells (P.map Value.string).toArray 9))):=λh=>
   ⟨.inl ⟨by rw[a];rcases h with h|h<;>simp[h],rfl⟩,u⟩
  have D:∀k,(w.alloc (.cells (P.map Value.string).toArray 9)).cell? ⟨w.heap.size,k,none⟩=(P[k]?).map Value.string:=λk=>by
   rw[CT _ _ _ _ rfl];simp
  have J:=Db D;have L:=Db z;have ab:P.length<=2000001:=by omega
  clear n a E C N s B u d D z c;by_cases h6:6<P.length
  ·go_enter func224,ntmps224;go_wp2_with(first|(go_at_call 194;refine(Tryz.strings_HasPrefix _ _ _).mono ?_;rintro e w'⟨rfl,j⟩;rw[j];clear j)|(go_at_call 262;refine g.mono ?_;rintro e w'⟨rfl,rfl⟩))
   go_ret2
   exact Da A (.inl (by omega))
  ·go_enter func224,ntmps224;go_wp2_with(first|(go_at_call 194;refine(Tryz.strings_HasPrefix _ _ _).mono ?_;rintro e w'⟨rfl,j⟩;rw[j];clear j)|(go_at_call 262;refine g.mono ?_;rintro e w'⟨rfl,rfl⟩))
   go_loop [25,6] (λi _=>∃k:Nat,k<=P.length/\i=.int .i64 k/\Hid ((P.take k).all DL=true)) (λi _=>P.length-(intOf i).toNat)
   case atStart=>exact⟨0,Au _,rfl,rfl⟩
   case round=>
    obtain⟨k,hk,rfl,v⟩:=hrel;by_cases G:k<P.length
    ·have l:P[k]?=some P[k]:=Ac G;have q:(w.alloc (.cells (P.map Value.string).toArray 9)).cell? ⟨w.heap.size,k,none⟩=some (.string P[k]):=by rw[Da J,l];rfl
     have I:P[k].size<=maxLen:=by unfold maxLen;have:=Da L P[k] (Ea _);omega
     cases hokk:DL P[k] with
     |false=>
      have F:P.all DL=false:=by rw[List.all_eq_false];exact⟨P[k],Ea _,by simp[hokk]⟩
      have o:=Db (Da A (.inr F));clear F l;go_wp2_with(go_at_call 263;refine(WL _ _ I).mono ?_;rintro e w'⟨rfl,rfl⟩)
      go_ret2
      exact Da o
     |true=>
      have H:(P.take (k+1)).all DL=true:=by
       rw[CL G,List.all_append,Da v];simp[hokk]
      have K:=Db H;clear H l;go_wp2_with(go_at_call 263;refine(WL _ _ I).mono ?_;rintro e w'⟨rfl,rfl⟩)
      go_round
      case rel=>exact⟨k+1,by omega,by go_num,K⟩
      case measure=>simp[intOf];omega
    ·obtain rfl:k=P.length:=by omega
     have t:=Da v;rw[Cy]at t;have o:=Db (Da M (by omega) t);clear t v;go_wp2
     go_ret2
     exact Da o
def XY(x:By×Int):F0:=[.string x.1,.int .i64 x.2]
def Mx(es:List (By×Int)):F0:=es.flatMap XY
def SG:List UInt8->Option Nat
 |[]=>none
 |c::l=>match SG l with
  |some k=>some (k+1)
  |none=>if c=47 then some 0 else none
def NI(p:By):Prop:=∃k,SG p.data.toList=some k
def O7(f:Int)(x:By×Int):Bool:=x.2==f
def RdF(w:World)(a:OA)(F:LY):Prop:=∀(k:Nat) (x:By),F[k]?=some x->∃g,a=some ⟨g,0,none⟩/\w.cell? ⟨g,k,none⟩=some (.string x)
theorem Sl.rdF{w:World}{v:Value}{F:LY}(h:Sl w 9 1 v F.length (F.map .string)):∃a c,v=.slice a F.length c/\RdF w a F:=by
 rcases h.2 with⟨rfl,d⟩|⟨g,b,R,rfl,e,hc,aa,hL,f⟩
 ·have:F=[]:=AA d;subst this;exact⟨none,0,rfl,λk x h=>by simp at h⟩
 ·refine⟨_,b,rfl,λk x i=>⟨g,rfl,?_⟩⟩;have:(F.map Value.string)[k]?=some (.string x):=by simp[i]
  rw[e.cell];rw[<-f,Ao]at this
  split at this
  ·exact this
  ·cases this
structure Fr(X:Nat->Prop)(w w':World):Prop where
 os:w'.os=w.os
 tape:w'.tape=w.tape
 output:w'.output=w.output
 size:w.heap.size<=w'.heap.size
 block:∀k,k<w.heap.size->¬X k->w'.heap[k]?=w.heap[k]?
theorem Fr.refl(X:Nat->Prop)(w:World):Fr X w w:=⟨rfl,rfl,rfl,Aa _,λ_ _ _=>rfl⟩
theorem Fr.of_below{X:Nat->Prop}{w w':World}(h:Bw w w'):Fr X w w':=⟨h.os,h.tape,h.output,h.size,λk a _=>h.block k a⟩
theorem Fr.mono{X Y:Nat->Prop}{w w':World}(h:Fr X w w')(b:∀k,k<w.heap.size->X k->Y k):Fr Y w w':=⟨h.os,h.tape,h.output,h.size,λk a c=>h.block k a (λe=>c (b k a e))⟩
theorem Fr.trans{X:Nat->Prop}{a b c:World}(h:Fr X a b)(k:Fr X b c):Fr X a c:=
 ⟨k.os.trans h.os,k.tape.trans h.tape,k.output.trans h.output,Af h.size k.size,λi d e=>(k.block i (AY d h.size) e).trans (h.block i d e)⟩
theorem Fr.of_grown{X:Nat->Prop}{w w':World}{row:Option Nat}(h:w.grownBy w' row)(a:∀k,row=some k->X k):Fr X w w':=
 ⟨h.os,h.tape,h.output,h.size,λk b c=>h.block k b (λe=>c (a k e.symm))⟩
theorem Fr.set{X:Nat->Prop}{w w':World}(h:Fr X w w')(a:Addr)(u:Value)(c:X a.block):Fr X w (w'.setCell a u):=
 ⟨h.os,h.tape,h.output,by simpa [World.setCell] using h.size,λk d b=>by rw[Aw _ _ _ _ (λe=>b (by rw[e];exact c))];exact h.block k d b⟩
theorem FX.fr{X:Nat->Prop}{w w':World}{g:Nat}{e:TypeId}{L:F0}(h:FX w g e L)(b:Fr X w w')(a:¬X g):FX w' g e L:=by
 unfold FX;rw[b.block g h.lt a];exact h
theorem Sl.fr{X:Nat->Prop}{w w':World}{e:TypeId}{a:Nat}{v:Value}{n:Nat}{xs:F0}(h:Sl w e a v n xs)(c:Fr X w w')(b:∀g,v.ownBlock=some g->¬X g):Sl w' e a v n xs:=
 h.kept (λk d e=>c.block k d (b k e))
structure R8(w:World)(rb:Nat)(vl vf:Value)(L:List (By×Int))(F:LY):Prop where
 hd:FX w rb 89 [vl,vf]
 sl:Sl w 103 2 vl L.length (Mx L)
 sf:Sl w 9 1 vf F.length (F.map .string)
 nl:L.length<=2000000
 nf:F.length<=2000000
 ok:∀x∈L,x.1.size<=2000000/\NI x.1
 okf:∀s∈F,s.size<=2000000
 sep:∀g,vl.ownBlock=some g->vf.ownBlock≠some g
theorem Sl.type{w:World}{e:TypeId}{c:Nat}{v:Value}{n:Nat}{xs:F0}(h:Sl w e c v n xs){g:Nat}(a:v.ownBlock=some g):∃L,FX w g e L:=by
 rcases h.2 with⟨rfl,_⟩|⟨g',aa,L,rfl,b,_⟩
 ·simp[Value.ownBlock]at a
 ·simp[Value.ownBlock]at a;subst a;exact⟨L,b⟩
theorem FX.type{w:World}{g:Nat}{e b:TypeId}{L c:F0}(h:FX w g e L)(a:FX w g b c):e=b:=by
 unfold FX at h a;rw[h]at a;simp at a;exact a.2
def MF(rb:Nat)(vl vf:Value)(k:Nat):Prop:=k=rb\/vl.ownBlock=some k\/vf.ownBlock=some k
section
variable{w:World}{rb:Nat}{vl vf:Value}{L:List (By×Int)}{F:LY}
end


theorem KX{w w':World}(h:w.grownBy w' none):Bw w w':=⟨h.os,h.tape,h.output,h.size,λk a=>h.block k a (by simp)⟩
def Lc(s:By)(at_ n:Int):By:=s.extract (min at_.toNat s.size) (min at_.toNat s.size+min n.toNat (s.size-min at_.toNat s.size))
def Di(s:By)(n:Nat):By:=if n<=s.size then s.extract 0 n else s++⟨(List.replicate (n-s.size) 0).toArray⟩
theorem KG:(prog.info? 5).map (λi=>(i.zero,i.size,i.bytes))=some (some (.int .u8 0),1,1):=by kernel_rfl

abbrev AE:=@wp_region_held_drew
abbrev AO:=@wpAnyH_done
abbrev AR:=@AllReadyH.cons
abbrev A5:=@wpAnyH_take
abbrev Bg:=@AllReadyH.nil
abbrev Bo:=@wpAnyH_ready
abbrev CZ:=@yieldsIf_load_mid
abbrev C4:=@all_oneCell_toArray
abbrev FA:=@wpList_load_mid
theorem Jc(s:By)(n:Nat):(Di s n).size=n:=by
 unfold Di
 split
 ·rw[Ah];omega
 ·rw[Ai];have:(ByteArray.mk (List.replicate (n-s.size) (0:UInt8)).toArray).size=n-s.size:=Bj;omega
def I4(s:By)(i:Nat)(d:By):By:=Di s i++d++(if i+d.size<s.size then s.extract (i+d.size) s.size else⟨#[]⟩)
theorem Ug(s:By)(m:Nat)(d:By):(I4 s m d).size=max (m+d.size) s.size:=by
 unfold I4;rw[Ai,Ai,Jc]
 split
 ·rw[Ah];omega
 ·have:(ByteArray.mk #[]).size=0:=rfl;omega
def PV:Value:=.agg #[.string ⟨#[]⟩,.bool false,.int .i64 0,.int .i64 0]



def jl(ns:LY):List UInt8:=ns.flatMap (λn=>47::n.data.toList)
def jn(ns:LY):By:=⟨(jl ns).toArray⟩
def LU(n:By):Prop:=(47:UInt8)∉n.data.toList
theorem LU.at{n:By}(h:LU n)(j:Nat):n.data.toList[j]? ≠ some 47:=λe=>h (Ar e)
theorem Zi2{n:By}(h:DL n=true):LU n:=λa=>by
 simp only[DL,A6]at h;have:=Ct.1 h.2 _ a
 revert this;decide
theorem VQ{n:By}(h:DL n=true):n.data.toList≠[]:=λe=>by
 simp[DL,ByteArray.toList_eq,e]at h
theorem QG(ns:LY):(jn ns).data.toList=jl ns:=by simp[jn]
theorem We(ns:LY):(jn ns).toList=jl ns:=by rw[Ez,QG]
theorem SF:jl []=[]:=rfl
theorem K9(n:By)(ns:LY):jl (n::ns)=47::n.data.toList++jl ns:=by simp[jl]
theorem ZlZ(a b:LY):jl (a++b)=jl a++jl b:=by simp[jl]
theorem Pp(n:By):jl [n]=47::n.data.toList:=by simp[jl]
theorem Ui{a b:By}(h:a.data.toList=b.data.toList):a=b:=A8 h
theorem Td(ns:LY):(jn ns).size=(jl ns).length:=by show(jn ns).data.size=_;simp[jn]
def Iw(ns:LY):Prop:=∀n∈ns,DL n=true
theorem pc_jl(n:By)(ns:LY)(b:∀m∈n::ns,LU m)(s:By)(a:s.data.toList=n.data.toList++jl ns):pc s=n::ns:=by
 induction ns generalizing n s with
 |nil=>
  have:s=n:=Ui (by simpa [SF] using a);subst this;exact Ub s (b s (by simp)).at
 |cons m ms ih=>
  have e:=b n (by simp);rw[Ps s n.size (λj f=>by rw[a,AW (by simpa using f)];exact e.at j) (by rw[a,K9,AS (by simp)];simp)];have c:s.extract 0 n.size=n:=Ui (by rw[Cb,a];simp);have d:(s.extract (n.size+1) s.size).data.toList=m.data.toList++jl ms:=by
   rw[N4,a,K9,List.drop_append];simp
  rw[c,ih m (λx g=>b x (AF _ g)) _ d]
theorem P9{ns:LY}(h:Iw ns)(b:ns≠[]):Df (jn ns)=ns:=by
 cases ns with
 |nil=>exact absurd rfl b
 |cons n ns=>
  unfold Df;rw[if_neg (by
   rw[We,K9];have:=VQ (h n (by simp));simp[this])]
  exact pc_jl n ns (λm a=>Zi2 (h m a)) _ (by rw[N4,QG,K9];simp)
theorem jl_pc:∀(k:Nat) (s:By),s.size<=k->jl (pc s)=47::s.data.toList:=by
 intro k
 induction k with
 |zero=>
  intro s l;have c:s.data.toList=[]:=AA (by have:s.data.toList.length=s.size:=AG;omega);rw[Ub s (λj=>by rw[c];simp),Pp]
 |succ k ih=>
  intro s l;rcases TV s.data.toList with h|⟨i,d,a⟩
  ·rw[Ub s h,Pp]
  ·have hi:i<s.size:=(Ae.1 a).1;rw[Ps s i d a,K9,ih _ (by simp[ByteArray.size_extract];omega),N4,Cb];have f:s.data.toList.drop i=47::s.data.toList.drop (i+1):=by
    obtain⟨g,e⟩:=Ae.1 a;rw[BN g,e]
   have b:s.data.toList=s.data.toList.take i++s.data.toList.drop i:=(Co _ _).symm;rw[f]at b;simp only[BV,E9];rw[AN,FI];exact⟨rfl,b.symm⟩
theorem Qt{p:By}(h:DS p=true)(d:(p.toList==[47])=false):p=jn (Df p)/\Iw (Df p)/\Df p≠[]/\(Df p).length<=6:=by
 unfold DS at h;rw[d,Bool.false_or]at h;simp only[A6,AH]at h;have g:Df p=pc (p.extract 1 p.size):=by unfold Df;rw[d];simp
 have b:=jl_pc _ (p.extract 1 p.size) (Aa _);rw[<-g]at h b;refine⟨?_,λn f=>Ct.1 h.2 n f,λe=>by rw[e]at b;simp[SF]at b,h.1.2⟩;refine Ui ?_;rw[QG,b,N4];have a:p.data.toList[0]?=some 47:=by simpa using h.1.1
 obtain⟨hl,e⟩:=Ae.1 a
 cases hp:p.data.toList with
 |nil=>rw[hp]at a;simp at a
 |cons c l=>rw[hp]at a;simp at a;simp[a]
theorem Ww{ns:LY}(h:Iw ns)(a:ns≠[]):((jn ns).toList==[47])=false:=by
 cases ns with
 |nil=>exact absurd rfl a
 |cons n ns=>
  rw[We,K9];have:=VQ (h n (by simp));simp[this]
theorem Tk{ns:LY}(h:Iw ns)(b:ns≠[])(c:ns.length<=6):DS (jn ns)=true:=by
 have a:=P9 h b;unfold Df at a;rw[Ww h b]at a;simp only[FT,if_false]at a;unfold DS;rw[Ww h b,a,QG]
 cases ns with
 |nil=>exact absurd rfl b
 |cons n ns=>
  simp only[Bool.false_or,K9,A6,AH];exact⟨⟨by simp,c⟩,Ct.2 h⟩
theorem Us{p:By}(a:(p.toList==[47])=true):Df p=[]:=by unfold Df;rw[a];rfl
def DZ:LY->LY->List (LY)
 |_,[]=>[]
 |_,[_]=>[]
 |d,n::m::ns=>(d++[n])::DZ (d++[n]) (m::ns)
abbrev Gh:=List (LY×VS)
def M6(ρ : Int->Nat)(u:VS):Int:=if u.p.isSome=true then -1 else(ρ u.f:Int)
def vw(ρ : Int->Nat)(x:LY×VS):By×Int:=(jn x.1,M6 ρ x.2)
def Gl(G:Gh)(ns:LY):Option VS:=(G.find? (λx=>decide (x.1=ns))).map (·.2)
structure Gk(G:Gh):Prop where
 nms:∀x∈G,Iw x.1
 ne:∀x∈G,x.1≠[]
 le:∀x∈G,x.1.length<=6
 nd:(G.map (·.1)).Nodup
 up:∀ns n u,(ns++[n],u)∈G->ns=[]\/∃v,(ns,v)∈G/\v.p.isSome=true
def GO(G:Gh):List (LY)->Int
 |[]=>0
 |q::r=>match Gl G q with
  |none=>3
  |some u=>if u.p.isSome=true then GO G r else 4
theorem KI{G:Gh}{ns:LY}{u:VS}(h:Gl G ns=some u):(ns,u)∈G:=by
 unfold Gl at h
 cases hf:G.find? (λx=>decide (x.1=ns)) with
 |none=>rw[hf]at h;cases h
 |some x=>
  rw[hf]at h;have b:=Ej hf;have a:=FH hf;simp at h a;rw[<-h,<-a];exact b
theorem QO{α β : Type}{G:List (α × β)}(h:(G.map (·.1)).Nodup){a : α}{u v : β}(g:(a,u)∈G)(i:(a,v)∈G):u=v:=by
 induction G with
 |nil=>cases g
 |cons x G ih=>
  rw[BI,Cw]at h;rcases AC.1 g with d|e
  ·rcases AC.1 i with b|c
   ·rw[<-d]at b;exact(Ev b).2.symm
   ·exact absurd (Ew (f:=(·.1)) c) (by rw[<-d]at h;exact h.1)
  ·rcases AC.1 i with b|c
   ·exact absurd (Ew (f:=(·.1)) e) (by rw[<-b]at h;exact h.1)
   ·exact ih h.2 e c
theorem KL{G:Gh}(h:(G.map (·.1)).Nodup){ns:LY}{u:VS}(a:(ns,u)∈G):Gl G ns=some u:=by
 cases ha:Gl G ns with
 |none=>
  unfold Gl at ha;rw[EI,Eg]at ha;exact absurd (by simp:decide ((ns,u).1=ns)=true) (ha _ a)
 |some v=>rw[QO h a (KI ha)]
theorem Uh{G:Gh}{ns:LY}(h:Gl G ns=none)(u:VS):(ns,u)∉G:=λa=>by
 unfold Gl at h;rw[EI,Eg]at h;exact absurd (by simp:decide ((ns,u).1=ns)=true) (h _ a)
def He(ns:LY)(x:LY×VS):Bool:=decide (x.1.dropLast=ns)
theorem Xe{ns:LY}(h:ns≠[]):∃d n,ns=d++[n]:=⟨ns.dropLast,ns.getLast h,(Fz h).symm⟩
def Ib(G:Gh)(ns:LY)(es:LS):Prop:=∀n u,(n,u)∈es↔(ns++[n],u)∈G
theorem Tg(a:By):Hf a a=false:=by
 unfold Hf
 cases h:Op.bytesLess a.toList a.toList with
 |false=>rfl
 |true=>
  have:∀l:List UInt8,Op.bytesLess l l=false:=by
   intro l
   induction l with
   |nil=>rfl
   |cons c l ih=>simp[Op.bytesLess,ih]
  rw[this]at h;cases h
theorem Ge.nodup{es:LS}(h:Ge es):(es.map (·.1)).Nodup:=by
 unfold List.Nodup;rw[Bk];intro i j a c b e;have ab:j<es.length:=by simpa using c
 have aa:i<es.length:=by simpa using a
 rw[Cz,Cz]at e;have:=h i j es[i] es[j] b (Ac _) (Ac _);rw[e,Tg]at this;cases this
theorem Zfv{α : Type}{a b:List α}(c:a.Nodup)(d:b.Nodup)(h:∀x,x∈a↔x∈b):a.length=b.length:=((Cv c d).2 h).length_eq
theorem Xr{α β : Type}{G:List (α × β)}(h:(G.map (·.1)).Nodup):G.Nodup:=by
 induction G with
 |nil=>exact CG
 |cons x G ih=>
  rw[BI,Cw]at h;exact Cw.2 ⟨λa=>h.1 (Ew (f:=(·.1)) a),ih h.2⟩
theorem ZgR{α β : Type}(f : α -> β){l:List α}(h:l.Nodup)(d:∀x∈l,∀y∈l,f x=f y->x=y):(l.map f).Nodup:=by
 induction l with
 |nil=>exact CG
 |cons a l ih=>
  rw[Cw]at h;rw[BI,Cw];refine⟨λg=>?_,ih h.2 (λx i y j=>d x (by simp[i]) y (by simp[j]))⟩;obtain⟨b,c,e⟩:=As.1 g;have:=d b (by simp[c]) a (by simp) e;rw[this]at c;exact h.1 c
theorem Ib.length{G:Gh}{ns:LY}{es:LS}(b:Gk G)(l:Ge es)(h:Ib G ns es):es.length=G.countP (He ns):=by
 have j:(es.map (λx=>(ns++[x.1],x.2))).Nodup:=ZgR _ (Xr l.nodup) (λx _ y _ e=>by
  obtain⟨f,i⟩:=Ev e;have g:x.1=y.1:=by simpa using f
  exact FP g i)
 have k:(G.filter (He ns)).Nodup:=(Xr b.nd).filter _;rw[List.countP_eq_length_filter,<-Zfv j k,AL];intro x;rw[As,EN];constructor
 ·rintro⟨y,m,rfl⟩;exact⟨(h y.1 y.2).1 m,by simp[He]⟩
 ·rintro⟨c,a⟩;obtain⟨d,n,e⟩:=Xe (b.ne x c);unfold He at a;rw[e,CV,AH]at a;obtain rfl:=a;refine⟨(n,x.2),(h n x.2).2 (by rw[<-e];exact c),by rw[<-e]⟩
def qB(ns:LY)(x:LY×VS):Bool:=decide (ns.length<x.1.length/\ns <+: x.1)
def qP(ns:LY)(x:LY×VS):Bool:=decide (ns <+: x.1)
theorem R5{α : Type}(p q : α -> Bool):∀(l:List α),(∀x∈l,¬(p x=true/\q x=true))->l.countP (λx=>p x || q x)=l.countP p+l.countP q
 |[],_=>rfl
 |a::l,h=>by
  rw[EE,EE,EE,R5 p q l (λx b=>h x (by simp[b]))];have:=h a (by simp)
  cases hp:p a<;>cases hq:q a<;>simp[hp,hq]at this ⊢ <;> omega
theorem OG{α : Type}{p q : α -> Bool}{l:List α}(h:∀x∈l,p x=q x):l.countP p=l.countP q:=List.countP_congr (λx a=>by rw[h x a])
def Kq(G:Gh)(r:LY×VS->Bool)(ns:LY)(ks:LY):Nat:=G.countP (λx=>r x && ks.any (λn=>qP (ns++[n]) x))
theorem ZnA{ns:LY}{n m:By}{x:LY}(a:ns++[n] <+: x)(b:ns++[m] <+: x):n=m:=by
 obtain⟨r,rfl⟩:=a;obtain⟨s,e⟩:=b;rw[Ax,Ax]at e;have:=Ey e;simp at this;exact this.1.symm
theorem ZmH(G:Gh)(r:LY×VS->Bool)(ns:LY)(c:LY)(n:By)(f:n∉c):
  Kq G r ns (c++[n])=Kq G r ns c+G.countP (λx=>r x && qP (ns++[n]) x):=by
 unfold Kq;rw[<-R5]
 ·refine OG (λx _=>?_);rw[List.any_append]
  cases r x<;>simp
 ·rintro x _⟨d,e⟩;simp only[A6,List.any_eq_true]at d e;obtain⟨_,m,g,b⟩:=d;have a:=e.2;unfold qP at b a;rw[AH]at b a;rw[ZnA a b]at f;exact f g
theorem ZkL{G:Gh}(a:(G.map (·.1)).Nodup)(r:LY×VS->Bool){ns:LY}{u:VS}(h:(ns,u)∈G):G.countP (λx=>r x && decide (x.1=ns))=if r (ns,u)=true then 1 else 0:=by
 induction G with
 |nil=>cases h
 |cons y G ih=>
  rw[BI,Cw]at a;rw[EE];rcases AC.1 h with rfl|h
  ·have:G.countP (λx=>r x && decide (x.1=ns))=0:=by
    rw[Ex];intro x b;have:x.1≠ns:=λe=>a.1 (by rw[<-e];exact Ew (f:=(·.1)) b)
    simp[this]
   rw[this]
   cases hr:r (ns,u)<;>simp
  ·rw[ih a.2 h];have:y.1≠ns:=λe=>a.1 (by rw[e];exact Ew (f:=(·.1)) h)
   simp[this]
theorem ZmF{G:Gh}(f:(G.map (·.1)).Nodup)(r:LY×VS->Bool){ns:LY}{u:VS}(h:(ns,u)∈G):
  G.countP (λx=>r x && qP ns x)=(if r (ns,u)=true then 1 else 0)+G.countP (λx=>r x && qB ns x):=by
 rw[<-ZkL f r h,<-R5]
 ·refine OG (λx _=>?_);have:qP ns x=(decide (x.1=ns) || qB ns x):=by
   unfold qP qB;rw[EO,FM,AH,AH,AH];constructor
   ·intro a;rcases Bh ns.length x.1.length with b|b
    ·exact .inr ⟨b,a⟩
    ·exact .inl (a.eq_of_length_le b).symm
   ·rintro(e|⟨_,a⟩)
    ·rw[e];exact List.prefix_refl _
    ·exact a
  rw[this]
  cases r x<;>simp
 ·rintro x _⟨c,d⟩;simp only[A6,AH,qB]at c d;rw[c.2]at d;omega
theorem Gk.pre{G:Gh}(h:Gk G):∀(k:Nat) (x:LY×VS),x∈G->∀ns,ns≠[]->ns <+: x.1->x.1.length=ns.length+k->0<k->∃v,(ns,v)∈G/\v.p.isSome=true:=by
 intro k
 induction k with
 |zero=>intro _ _ _ _ _ _ h0;omega
 |succ k ih=>
  intro x j ns f g a _;obtain⟨d,n,e⟩:=Xe (h.ne x j);have p:(d++[n],x.2)∈G:=by rw[<-e];exact j
  have b:ns <+: d:=by
   rw[e]at g a;exact List.prefix_of_prefix_length_le g (List.prefix_append d [n]) (by simp at a;omega)
  have l:d≠[]:=λc=>by rw[c]at b;exact f (List.prefix_nil.1 b)
  rcases h.up d n x.2 p with c|⟨v,i,m⟩
  ·exact absurd c l
  ·have o:d.length=ns.length+k:=by rw[e]at a;simp at a;omega
   cases k with
   |zero=>exact⟨v,by rw[b.eq_of_length_le (by omega)];exact i,m⟩
   |succ k=>exact ih (d,v) i ns f b o (by omega)
theorem Gk.pre'{G:Gh}(h:Gk G){x:LY×VS}(c:x∈G){ns:LY}(b:ns≠[])(a:qB ns x=true):∃v,(ns,v)∈G/\v.p.isSome=true:=by
 unfold qB at a;rw[AH]at a;exact h.pre (x.1.length-ns.length) x c ns b a.2 (by omega) (by omega)
theorem Wk{G:Gh}(h:Gk G)(r:LY×VS->Bool){ns:LY}{u:VS}(c:(ns,u)∈G)(d:u.p=none):G.countP (λx=>r x && qB ns x)=0:=by
 rw[Ex];intro x f a;rw[A6]at a;obtain⟨v,e,b⟩:=h.pre' f (h.ne _ c) a.2;rw[QO h.nd e c,d]at b;cases b
def Kh(es:LS):LY:=es.map (·.1)
theorem Zn5{G:Gh}(h:Gk G)(r:LY×VS->Bool){ns:LY}{es:LS}(g:Ib G ns es):Kq G r ns (Kh es)=G.countP (λx=>r x && qB ns x):=by
 unfold Kq;refine OG (λx f=>?_);have:(Kh es).any (λn=>qP (ns++[n]) x)=qB ns x:=by
  rw[EO,List.any_eq_true];unfold qB qP;constructor
  ·rintro⟨n,hn,c⟩;rw[AH]at c ⊢;have a:=c.length_le;simp at a;exact⟨by omega,(List.prefix_append ns [n]).trans c⟩
  ·intro d;rw[AH]at d;obtain⟨a,t,b⟩:=d
   cases t with
   |nil=>rw[<-b]at a;simp at a
   |cons n t=>
    refine⟨n,?_,by rw[AH,<-b];exact⟨t,by simp⟩⟩;have:∃u,(ns++[n],u)∈G:=by
     by_cases e:t=[]
     ·subst e;exact⟨x.2,by rw[b];exact f⟩
     ·obtain⟨v,j,_⟩:=h.pre' f (ns:=ns++[n]) (by simp) (by
       unfold qB;rw[AH,<-b];refine⟨?_,⟨t,by simp⟩⟩
       cases t with
       |nil=>exact absurd rfl e
       |cons m t=>simp)
      exact⟨v,j⟩
    obtain⟨u,i⟩:=this;exact As.2 ⟨(n,u),(g n u).2 i,rfl⟩
 rw[this]
def cD(G:Gh)(ns:LY):Nat:=1+G.countP (λx=>x.2.p.isSome && qB ns x)
def cE(G:Gh)(ns:LY):Nat:=G.countP (λx=>true && qB ns x)
theorem ZlV(es:LS)(k:Nat)(h:k<es.length):Kh (es.take (k+1))=Kh (es.take k)++[es[k].1]:=by
 unfold Kh;have:es.take (k+1)=es.take k++[es[k]]:=by rw[BK,Ac h];rfl
 rw[this,Bq];rfl
theorem Yi{es:LS}(f:Ge es)(k:Nat)(h:k<es.length):es[k].1∉Kh (es.take k):=λa=>by
 unfold Kh at a;obtain⟨y,g,e⟩:=As.1 a;obtain⟨j,c,b⟩:=List.getElem_of_mem g;have d:j<k:=by simp at c;omega
 have:=f j k y es[k] d (by rw[<-b,FW];exact Ac _) (Ac h);rw[e,Tg]at this;cases this
theorem T4{G:Gh}(a:Gk G)(r:LY×VS->Bool){ns:LY}{es:LS}(c:Ge es)(b:Ib G ns es)(k:Nat)(h:k<es.length):
  Kq G r ns (Kh (es.take (k+1)))=Kq G r ns (Kh (es.take k))+((if r (ns++[es[k].1],es[k].2)=true then 1 else 0)+G.countP (λx=>r x && qB (ns++[es[k].1]) x)):=by
 rw[ZlV es k h,ZmH _ _ _ _ _ (Yi c k h),ZmF a.nd r ((b es[k].1 es[k].2).1 (Ea h))]
theorem Zc{G:Gh}(h:Gk G):cE G []=G.length:=by
 unfold cE;refine List.countP_eq_length.2 (λx b=>?_);have:=h.ne x b;simp only[qB,Bool.true_and,AH];exact⟨by cases hx1:x.1 with
  |nil=>exact absurd hx1 this
  |cons a l=>simp,List.nil_prefix⟩
theorem ST{G:Gh}(h:Gk G):cD G []=1+G.countP (λx=>x.2.p.isSome):=by
 unfold cD
 congr 1
 refine OG (λx b=>?_);have:=h.ne x b;have:qB [] x=true:=by
  simp only[qB,AH];exact⟨by cases hx1:x.1 with
   |nil=>exact absurd hx1 this
   |cons a l=>simp,List.nil_prefix⟩
 rw[this,Bool.and_true]
structure NF(I:LF)(ρ : Int->Nat)(L:List (By×Int))(F:LY):Prop where
 nd:(I.map (·.1)).Nodup
 inj:∀x∈I,∀y∈I,ρ x.1 = ρ y.1->x.1=y.1
 lt:∀x∈I,ρ x.1<F.length
 live:∀x∈I,0<L.countP (O7 (ρ x.1))
 all:∀f:Nat,f<F.length->0<L.countP (O7 f)->∃x∈I,ρ x.1=f
 size:∀x∈I,x.2.l=(F[ρ x.1]?.getD ⟨#[]⟩).size
 links:∀x∈I,x.2.f=(L.countP (O7 (ρ x.1)):Nat)
section
open Go.RowKit Go.Shelf
attribute [local go_sem] Oper.semAt_some
abbrev Br:=@callsIn_of_wp_marks
abbrev Bs:=@World.putObj_heap_other
abbrev BJ:=@wpAnyIn_ready
abbrev BP:=@run_takeDeferred
abbrev B9:=@World.alloc_heap_new
abbrev Cx:=@CallsIn.inRound
abbrev CA:=@KeepsOthers.setCell
abbrev CO:=@wpIn_rangeFunc_ownF
abbrev Es:=@KeepsOthers.alloc
abbrev EB:=@enters_of
abbrev EK:=@OwnFrom.and
abbrev Fc:=@belowK_b
abbrev Ft:=@Oper.semAt_plain
abbrev Fx:=@ownFrom_below
abbrev FB:=@wpIn_rangeFunc_ownH
abbrev FD:=@grownBy_putObj'
abbrev FL:=@Boxed.new
theorem Om(w:World)(o:Obj):w.grownBy (w.alloc o) none:=⟨rfl,rfl,rfl,by simp,λk a _=>BH w o k a⟩
theorem Xv{W a:World}(h:Bw W a):KeepsOthers W a:=⟨h.size,λk _o b _=>(h.block k (Aj.1 b).1).trans b⟩
theorem Nw(F:Fence)(n:Nat)(L:F.fn 222)(P:F.round=none)(hn:1<=n)(l t h A ho g C:Nat){α : Type}(a : α -> By×VS)(es:List α)(ab:es.length<=10000)(s:g<h)(J y:List α -> World->Prop)(W:World)(E:AbidesFrom W.heap.size J)(K:∀pre x W,J pre W->pre.length<es.length->YieldAt F (n-1) prog l #[.string (a x).1,.agg #[.pointer (a x).2.p,.int .i64 (a x).2.f]] W λe b=>
   (e=.returned (.bool true)/\J (pre++[x]) b/\Below h W b)\/(e=.returned (.bool false)/\y (pre++[x]) b))(aa:W.cell? ⟨t,0,none⟩=some (.pointer (some ⟨A,ho,none⟩)))(hc:W.cell? ⟨A,ho,none⟩=some (.slice (some ⟨g,0,none⟩) es.length C))(d:∀j u,(Dm (es.map a))[j]?=some u->W.cell? ⟨g,j,none⟩=some u)(O:h<=W.heap.size)(D:J [] W):
  CallsIn F n prog 222 #[.func (.yield l) #[] #[],.pointer (some ⟨t,0,none⟩)] W λe b=>(∃v,e=.returned v)/\
   ((∃ys,ys=es/\J ys b)\/(∃pre,pre <+: es/\y pre b)):=by
 refine CH func222 rfl L ?_ P;simp only[ntmps222,AM,Al,AK,Nat.reduceAdd,Nat.reduceSub,AQ,AP,AZ,AT,AD,AN]
 gi_wp2
 gi_loopw [10] (λi wr=>∃k:Nat,k<=es.length/\i=.int .i64 k/\J (es.take k) wr/\Below h W wr)
  (λi _=>es.length-(intOf i).toNat)
 case atStart=>exact⟨0,Au _,rfl,D,Ak _ _⟩
 case round=>
  obtain⟨k,hk,rfl,m,c⟩:=hrel;by_cases N:k<es.length
  ·obtain⟨x,f⟩:∃x,es[k]?=some x:=⟨_,Ac N⟩;have w:Hid (es.take (k+1)=es.take k++[x]):=by show _=_;rw[BK,f];rfl
   have q:=QN (es.map a) k (a x) (by rw[Bc,f];rfl);have q0:=(c.cell (p:=⟨g,k*3,none⟩) s).trans (d _ _ q.1);have q1:=(c.cell (p:=⟨g,k*3+1,none⟩) s).trans (d _ _ q.2.1);have q2:=(c.cell (p:=⟨g,k*3+2,none⟩) s).trans (d _ _ q.2.2);have B:(es.take k).length<es.length:=by rw[An];omega
   have z:∀o,J (es.take k) (wr.alloc o):=λo=>E _ _ _ none m (Om wr o) (λr e=>by cases e)
   obtain⟨fn,tmps,assign,body,hy,I⟩:=K _ x (wr.alloc (.cells #[.string (a x).1,.pointer (a x).2.p,.int .i64 (a x).2.f] 310)) (z _) B;have HX:=Db f;clear q f B z d
   gi_wp2
   refine I.mono ?_;rintro e W3 (⟨rfl,G,M⟩|⟨rfl,H⟩)
   ·gi_wp2
    go_roundw
    case rel=>exact⟨k+1,by omega,by go_num,by rw[Da w];exact G,(c.alloc (Af O c.size) _).trans M⟩
    case measure=>simp[intOf];omega
   ·gi_wp2
    refine Ap (Eb rfl _ _ _) rfl ?_;exact⟨⟨_,rfl⟩,.inr ⟨_,by rw[<-Da w];exact Fu _ _,H⟩⟩
  ·obtain rfl:k=es.length:=by omega
   gi_wp2
   go_end0
   exact⟨⟨_,rfl⟩,.inl ⟨_,rfl,by rw[Cy]at m;exact m⟩⟩
theorem T5(F:Fence)(n:Nat)(g:F.fn 222)(h:F.round=none)(l a b ho:Nat){α : Type}(J:List α -> World->Prop)(W:World)(aa:W.cell? ⟨a,0,none⟩=some (.pointer (some ⟨b,ho,none⟩)))(hc:W.cell? ⟨b,ho,none⟩=some (.slice none 0 0))(d:J [] W):
  CallsIn F n prog 222 #[.func (.yield l) #[] #[],.pointer (some ⟨a,0,none⟩)] W λe c=>(∃v,e=.returned v)/\J [] c:=by
 refine CH func222 rfl g ?_ h;simp only[ntmps222,AM,Al,AK,Nat.reduceAdd,Nat.reduceSub,AQ,AP,AZ,AT,AD,AN]
 gi_wp2
 gi_loopw [10] (λi wr=>i=.int .i64 0/\J [] wr) (λ_ _=>0)
 case atStart=>exact⟨rfl,d⟩
 case round=>
  obtain⟨rfl,f⟩:=hrel
  gi_wp2
  go_end0
  exact⟨⟨_,rfl⟩,f⟩
theorem PA(F:Fence)(n:Nat)(b:F.fn 179)(c:F.round=none)(a:OA)(w:World):
  CallsIn F n prog 179 #[.pointer a] w λe w'=>e=.returned (.func (.func 222) #[] #[.pointer (some ⟨w.heap.size,0,none⟩)])/\w'=w.alloc (.cells #[.pointer a] 307):=by
 refine CH func179 rfl b ?_ c;simp only[ntmps179,AM,Al,AK,Nat.reduceAdd,Nat.reduceSub,AQ,AP,AZ,AT,AD,AN]
 gi_wp2
 go_ret;exact⟨rfl,rfl⟩
theorem WJ(F:Fence)(n:Nat)(r:F.fn 222)(s:F.round=none)(L:1<=n)(a h b ho:Nat)(v:Value){α : Type}(c : α -> By×VS)(es:List α)(I:es.length<=10000)(w:World)(A:a<w.heap.size)(G:b<w.heap.size)(M:h<=w.heap.size)(z:w.cell? ⟨a,0,none⟩=some (.pointer (some ⟨b,ho,none⟩)))(H:w.cell? ⟨b,ho,none⟩=some v)(C:Sl w 310 3 v es.length (Dm (es.map c)))(N:∀g,v.ownBlock=some g->g<h):
  SeqStopsK F n prog 222 #[.pointer (some ⟨a,0,none⟩)] (λx : α => #[.string (c x).1,.agg #[.pointer (c x).2.p,.int .i64 (c x).2.f]]) (Below h) (λP=>P=es) (λO=>O <+: es) es.length w:=λl J t W d B _ E k=>by
 have m:=(d.cell (p:=⟨a,0,none⟩) A).trans z;have q:=(d.cell (p:=⟨b,ho,none⟩) G).trans H;rcases C.2 with⟨rfl,i⟩|⟨g,y,R,rfl,o,_,_,_,D⟩
 ·obtain rfl:es=[]:=AA i;exact(T5 F n r s l a b ho J W m q k).mono λe W' ⟨i,K⟩=>⟨i,.inl ⟨_,rfl,K⟩⟩
 ·exact Nw F n r s L l a h b ho g y c es I (N g rfl) J t W B E m q (λj u f=>by
   rw[d.cell (p:=⟨g,j,none⟩) o.lt,o.cell];rw[<-D,Ao]at f
   split at f
   ·exact f
   ·cases f) (Af M d.size) k
theorem Nz(F:Fence)(n:Nat)(L:F.fn 204)(P:F.round=none)(hn:1<=n)(l t h A ho g C:Nat){α : Type}(a : α -> Int×VF)(es:List α)(ab:es.length<=10000)(s:g<h)(J y:List α -> World->Prop)(W:World)(E:AbidesFrom W.heap.size J)(K:∀pre x W,J pre W->pre.length<es.length->YieldAt F (n-1) prog l #[.int .i64 (a x).1,.agg #[.slice (a x).2.a (a x).2.l (a x).2.c,.int .i64 (a x).2.f]] W λe b=>
   (e=.returned (.bool true)/\J (pre++[x]) b/\Below h W b)\/(e=.returned (.bool false)/\y (pre++[x]) b))(aa:W.cell? ⟨t,0,none⟩=some (.pointer (some ⟨A,ho,none⟩)))(hc:W.cell? ⟨A,ho,none⟩=some (.slice (some ⟨g,0,none⟩) es.length C))(d:∀j u,(Dq (es.map a))[j]?=some u->W.cell? ⟨g,j,none⟩=some u)(O:h<=W.heap.size)(D:J [] W):
  CallsIn F n prog 204 #[.func (.yield l) #[] #[],.pointer (some ⟨t,0,none⟩)] W λe b=>(∃v,e=.returned v)/\
   ((∃ys,ys=es/\J ys b)\/(∃pre,pre <+: es/\y pre b)):=by
 refine CH func204 rfl L ?_ P;simp only[ntmps204,AM,Al,AK,Nat.reduceAdd,Nat.reduceSub,AQ,AP,AZ,AT,AD,AN]
 gi_wp2
 gi_loopw [10] (λi wr=>∃k:Nat,k<=es.length/\i=.int .i64 k/\J (es.take k) wr/\Below h W wr)
  (λi _=>es.length-(intOf i).toNat)
 case atStart=>exact⟨0,Au _,rfl,D,Ak _ _⟩
 case round=>
  obtain⟨k,hk,rfl,m,c⟩:=hrel;by_cases N:k<es.length
  ·obtain⟨x,f⟩:∃x,es[k]?=some x:=⟨_,Ac N⟩;have w:Hid (es.take (k+1)=es.take k++[x]):=by show _=_;rw[BK,f];rfl
   have q:=QL (es.map a) k (a x) (by rw[Bc,f];rfl);have q0:=(c.cell (p:=⟨g,k*3,none⟩) s).trans (d _ _ q.1);have q1:=(c.cell (p:=⟨g,k*3+1,none⟩) s).trans (d _ _ q.2.1);have q2:=(c.cell (p:=⟨g,k*3+2,none⟩) s).trans (d _ _ q.2.2);have B:(es.take k).length<es.length:=by rw[An];omega
   have z:∀o,J (es.take k) (wr.alloc o):=λo=>E _ _ _ none m (Om wr o) (λr e=>by cases e)
   obtain⟨fn,tmps,assign,body,hy,I⟩:=K _ x (wr.alloc (.cells #[.int .i64 (a x).1,.slice (a x).2.a (a x).2.l (a x).2.c,.int .i64 (a x).2.f] 293)) (z _) B;have HX:=Db f;clear q f B z d
   gi_wp2
   refine I.mono ?_;rintro e W3 (⟨rfl,G,M⟩|⟨rfl,H⟩)
   ·gi_wp2
    go_roundw
    case rel=>exact⟨k+1,by omega,by go_num,by rw[Da w];exact G,(c.alloc (Af O c.size) _).trans M⟩
    case measure=>simp[intOf];omega
   ·gi_wp2
    refine Ap (Eb rfl _ _ _) rfl ?_;exact⟨⟨_,rfl⟩,.inr ⟨_,by rw[<-Da w];exact Fu _ _,H⟩⟩
  ·obtain rfl:k=es.length:=by omega
   gi_wp2
   go_end0
   exact⟨⟨_,rfl⟩,.inl ⟨_,rfl,by rw[Cy]at m;exact m⟩⟩
theorem ZmV(F:Fence)(n:Nat)(g:F.fn 204)(h:F.round=none)(l a b ho:Nat){α : Type}(J:List α -> World->Prop)(W:World)(aa:W.cell? ⟨a,0,none⟩=some (.pointer (some ⟨b,ho,none⟩)))(hc:W.cell? ⟨b,ho,none⟩=some (.slice none 0 0))(d:J [] W):
  CallsIn F n prog 204 #[.func (.yield l) #[] #[],.pointer (some ⟨a,0,none⟩)] W λe c=>(∃v,e=.returned v)/\J [] c:=by
 refine CH func204 rfl g ?_ h;simp only[ntmps204,AM,Al,AK,Nat.reduceAdd,Nat.reduceSub,AQ,AP,AZ,AT,AD,AN]
 gi_wp2
 gi_loopw [10] (λi wr=>i=.int .i64 0/\J [] wr) (λ_ _=>0)
 case atStart=>exact⟨rfl,d⟩
 case round=>
  obtain⟨rfl,f⟩:=hrel
  gi_wp2
  go_end0
  exact⟨⟨_,rfl⟩,f⟩
theorem SR(F:Fence)(n:Nat)(b:F.fn 145)(c:F.round=none)(a:OA)(w:World):
  CallsIn F n prog 145 #[.pointer a] w λe w'=>e=.returned (.func (.func 204) #[] #[.pointer (some ⟨w.heap.size,0,none⟩)])/\w'=w.alloc (.cells #[.pointer a] 290):=by
 refine CH func145 rfl b ?_ c;simp only[ntmps145,AM,Al,AK,Nat.reduceAdd,Nat.reduceSub,AQ,AP,AZ,AT,AD,AN]
 gi_wp2
 go_ret;exact⟨rfl,rfl⟩
theorem WI(F:Fence)(n:Nat)(r:F.fn 204)(s:F.round=none)(L:1<=n)(b h c ho:Nat)(v:Value){α : Type}(a : α -> Int×VF)(es:List α)(I:es.length<=10000)(w:World)(A:b<w.heap.size)(G:c<w.heap.size)(M:h<=w.heap.size)(z:w.cell? ⟨b,0,none⟩=some (.pointer (some ⟨c,ho,none⟩)))(H:w.cell? ⟨c,ho,none⟩=some v)(C:Sl w 293 3 v es.length (Dq (es.map a)))(N:∀g,v.ownBlock=some g->g<h):
  SeqStopsK F n prog 204 #[.pointer (some ⟨b,0,none⟩)] (λx : α => #[.int .i64 (a x).1,.agg #[.slice (a x).2.a (a x).2.l (a x).2.c,.int .i64 (a x).2.f]]) (Below h) (λP=>P=es) (λO=>O <+: es) es.length w:=λl J t W d B _ E k=>by
 have m:=(d.cell (p:=⟨b,0,none⟩) A).trans z;have q:=(d.cell (p:=⟨c,ho,none⟩) G).trans H;rcases C.2 with⟨rfl,i⟩|⟨g,y,R,rfl,o,_,_,_,D⟩
 ·obtain rfl:es=[]:=AA i;exact(ZmV F n r s l b c ho J W m q k).mono λe W' ⟨i,K⟩=>⟨i,.inl ⟨_,rfl,K⟩⟩
 ·exact Nz F n r s L l b h c ho g y a es I (N g rfl) J t W B E m q (λj u f=>by
   rw[d.cell (p:=⟨g,j,none⟩) o.lt,o.cell];rw[<-D,Ao]at f
   split at f
   ·exact f
   ·cases f) (Af M d.size) k
end
section
open Go.RowKit Go.Shelf
attribute [local go_sem] Oper.semAt_some
theorem Uy{β : Type}(B:Nat)(t:TypeId)(f : β -> F0):Own (λs W=>FX W B t (f s)):=λs X Y row a d e=>
 a.kept d (λb=>by obtain⟨o,ho,c⟩:=e B b.symm;rw[show X.heap[B]? = _ from a]at ho;cases ho;cases c)
theorem Je(w:World)(L:F0)(e:TypeId):FX (w.alloc (.cells L.toArray e)) w.heap.size e L:=B9 w _
def DO(l:List Nat):Nat:=(l.map (λn=>(n+63)/64)).sum
theorem Zk2(l:List Nat)(n:Nat):DO (l++[n])=DO l+(n+63)/64:=by simp[DO]
theorem Tw(l:List Nat)(h:∀n∈l,n<=2000000):DO l<=l.length*40000:=by
 induction l with
 |nil=>simp[DO]
 |cons a l ih=>
  have h1:=ih (λn c=>h n (by simp[c]));have h2:=h a (by simp);have b:DO (a::l)=(a+63)/64+DO l:=by simp[DO]
  rw[b,Al];omega
theorem RN(w:World)(tb:Nat)(T m:Value)(I:LF)(G:FX w tb 214 [T,m])(B:Sl w 293 3 m I.length (Dq I))(v:I.length<=10000)(E:∀x∈I,x.2.l<=2000000):
  Cl 82 #[.pointer (some ⟨tb,0,none⟩)] w λe w'=>e=.returned (.int .i64 (DO (I.map (·.2.l)):Nat))/\Bw w w':=by
 refine(A2 (n:=3)).1 ?_;refine Br func82 rfl trivial ?_ rfl;simp only[ntmps82,AM,Al,AK,Nat.reduceAdd,Nat.reduceSub,AQ,AP,AZ,AT,AD,AN]
 gi_wp2_with (refine⟨trivial,?_⟩;gi_at_call 145;refine(SR _ _ trivial rfl _ _).mono ?_;rintro e w'⟨rfl,rfl⟩)
 obtain⟨a,j⟩:∃a,(w.alloc (Obj.cells #[Value.int IntKind.i64 0] 3)).alloc (Obj.cells #[Value.pointer (some { block:=tb,off:=1 })] 290)=a:=⟨_,rfl⟩;rw[j];have ad:a.heap.size=w.heap.size+2:=by rw[<-j];simp
 have t:Bw w a:=by rw[<-j];exact((Ak _ w).alloc (Aa _) _).alloc (by simp) _
 have M:Boxed a w.heap.size 3 (.int .i64 0):=by rw[<-j];exact(FL w 3 _).alloc _
 have N:Boxed a (w.heap.size+1) 290 (.pointer (some ⟨tb,1,none⟩)):=by rw[<-j];have:=FL (w.alloc (Obj.cells #[Value.int IntKind.i64 0] 3)) 290 (.pointer (some ⟨tb,1,none⟩));simpa using this
 have S:tb<w.heap.size:=G.lt;have L:Sl a 293 3 m I.length (Dq I):=B.kept (λk Q _=>t.block k Q);have P:a.cell? ⟨tb,1,none⟩=some m:=(t.cell (p:=⟨tb,1,none⟩) S).trans (G.cell 1);have C:I.attach.map (λx=>x.1)=I:=C7 I;clear j;refine FB (α:={ x // x∈I }) rfl (by omega) (gf:=204) (lb:=#[.pointer (some ⟨w.heap.size+1,0,none⟩)]) rfl trivial (EB func204 (by kernel_rfl) rfl)
  (WI Fence.wide 2 trivial rfl (by omega) (w.heap.size+1) w.heap.size tb 1 m (λx=>x.1) I.attach (by simpa using v) a (by omega) (by omega) (by omega) N.cell P (by rw[C];simpa using L) (λg u=>B.lt u))
  belowK_t (Fc (by omega)) (Ak _ _) (λ_=>rfl)
  (λb W=>Boxed W w.heap.size 3 (.int .i64 (DO (b.map (·.1.2.l)):Nat))/\Bw w W)
  (λ_ _ _=>False)
  (EK (Own.from (boxed_own _ _ _) _) (Fx (Aa _) (by omega)))
  (λ_ _ _ _ _ z _ _=>z)
  ⟨M,t⟩
  (λx q W=>∃f,w.heap.size<f/\FX W f 217 [.slice x.1.2.a x.1.2.l x.1.2.c,.int .i64 x.1.2.f]/\q={ tmps:=#[.pointer (some ⟨tb,0,none⟩),undef,.int .i64 0,.pointer (some ⟨w.heap.size,0,none⟩),undef,.pointer (some ⟨f,0,none⟩),.pointer (some ⟨tb,0,none⟩),.pointer (some ⟨tb,0,none⟩),.pointer (some ⟨tb,1,none⟩),.func (.func 204) #[] #[.pointer (some ⟨w.heap.size+1,0,none⟩)],.int .i64 x.1.1,.agg #[.slice x.1.2.a x.1.2.l x.1.2.c,.int .i64 x.1.2.f],undef,undef,undef,undef,undef,undef,undef,undef,undef],defers:=[] })
  (λx q _ X Y row z u F=>by
   obtain⟨f,s,A,J⟩:=z;exact⟨f,s,(Uy (β:=Unit) f 217 (λ_=>_)).from _ () X Y row A u F,J⟩)
  ?assign ?body ?done ?stop
 case assign=>
  rintro l b x W K⟨d,i⟩ o
  gi_wp2
  refine o _ _ ((Es _ _).from _) ((Ak _ W).alloc i.size _) ⟨d.alloc _,i.alloc i.size _⟩ ⟨W.heap.size,d.lt,Je W _ _,rfl⟩
 case body=>
  rintro l b x q W ab⟨r,F⟩ ⟨d,i⟩ ⟨f,aa,H,rfl⟩ R;have hx:=E x.1 x.2;have O:=d.cell;have hf:=d.frozen;have x0:=H.cell 0;have ac:DO (b.map (·.1.2.l))<=10000*40000:=by
   have s:=Tw (b.map (·.1.2.l)) (λn v=>by obtain⟨y,hy,e⟩:=As.1 v;rw[<-e];exact E _ y.2);rw[AL]at s;have A:b.length<I.length:=by simpa using R
   omega
  gi_wp2
  have e:((DO (b.map (·.1.2.l)):Nat):Int)+((x.1.2.l:Int)+64-1)/64=((DO ((b++[x]).map (·.1.2.l)):Nat):Int):=by
   rw[Bq,BI,CY,Zk2];omega
  exact⟨(CA _ _ _).from _,(Ak w.heap.size W).setCell (p:=⟨w.heap.size,0,none⟩) (Aa _) _,by rw[e];exact d.set _,i.setCell (p:=⟨w.heap.size,0,none⟩) (Aa _) _⟩
 case done=>
  rintro D ys W hD rfl⟨d,i⟩ o;have O:=d.cell
  gi_wp2
  refine⟨by simp,.inl ⟨_,_,rfl,BP o,?_⟩⟩;exact⟨_,Eu rfl _ _ _,by
   have:I.attach.map (λx=>x.1.2.l)=I.map (λx=>x.2.l):=by
    have:=Cu (List.map (λx:Int×VF=>x.2.l)) C;rw[Ci]at this;exact this
   rw[<-this];rfl,i.trans (Fc (w:=w) (Aa _) W D _ _ (by omega) o rfl rfl)⟩
 case stop=>
  rintro D c b W _ _ h _;exact h.elim
theorem Zmo(w:World)(tb:Nat)(rp A:Value)(I:LF)(O:FX w tb 214 [rp,A])(L:Sl w 293 3 A I.length (Dq I))(hn:I.length<=10000)(P:Gm I)(Q:∀x∈I,0<=x.1):
  Cl 186 #[.pointer (some ⟨tb,0,none⟩)] w λe w'=>∃f:Nat,e=.returned (.int .i64 f)/\f<=I.length/\(∀x∈I,x.1≠f)/\Bw w w':=by
 refine(A2 (n:=3)).1 ?_;refine Br func186 rfl trivial ?_ rfl;simp only[ntmps186,AM,Al,AK,Nat.reduceAdd,Nat.reduceSub,AQ,AP,AZ,AT,AD,AN]
 gi_wp2_with (refine⟨trivial,?_⟩;gi_at_call 145;refine(SR _ _ trivial rfl _ _).mono ?_;rintro e w'⟨rfl,rfl⟩)
 obtain⟨b,s⟩:∃b,(w.alloc (Obj.cells #[Value.int IntKind.i64 0] 3)).alloc (Obj.cells #[Value.pointer (some { block:=tb,off:=1 })] 290)=b:=⟨_,rfl⟩;rw[s];have af:b.heap.size=w.heap.size+2:=by rw[<-s];simp
 have J:Bw w b:=by rw[<-s];exact((Ak _ w).alloc (Aa _) _).alloc (by simp) _
 have U:Boxed b w.heap.size 3 (.int .i64 0):=by rw[<-s];exact(FL w 3 _).alloc _
 have V:Boxed b (w.heap.size+1) 290 (.pointer (some ⟨tb,1,none⟩)):=by rw[<-s];have:=FL (w.alloc (Obj.cells #[Value.int IntKind.i64 0] 3)) 290 (.pointer (some ⟨tb,1,none⟩));simpa using this
 have ac:tb<w.heap.size:=O.lt;have T:Sl b 293 3 A I.length (Dq I):=L.kept (λk o _=>J.block k o);have Y:b.cell? ⟨tb,1,none⟩=some A:=(J.cell (p:=⟨tb,1,none⟩) ac).trans (O.cell 1);have X:I.map (λx=>x)=I:=List.map_id I;clear s;refine CO rfl (by omega) (gf:=204) (lb:=#[.pointer (some ⟨w.heap.size+1,0,none⟩)]) rfl trivial (EB func204 (by kernel_rfl) rfl)
  (WI Fence.wide 2 trivial rfl (by omega) (w.heap.size+1) w.heap.size tb 1 A (λx=>x) I (by simpa using hn) b (by omega) (by omega) (by omega) V.cell Y (by rw[X];exact T) (λg Z=>L.lt Z))
  belowK_t (Fc (by omega)) (Ak _ _) (λ_=>rfl)
  (λa W=>(Boxed W w.heap.size 3 (.int .i64 (a.length:Nat))/\Bw w W)/\∀(j:Nat) (y:Int×VF),a[j]?=some y->y.1=j)
  (λc a W=>(Boxed W w.heap.size 3 (.int .i64 ((a.length-1:Nat):Int))/\Bw w W)/\c=.exit 0/\(∃y,a[a.length-1]?=some y/\y.1≠(a.length-1:Nat))/\∀(j:Nat) (y:Int×VF),j<a.length-1->a[j]?=some y->y.1=j)
  (EK (EK (Own.from (boxed_own _ _ _) _) (Fx (Aa _) (by omega))) (ownFrom_pure _ _))
  (λc=>EK (EK (Own.from (boxed_own _ _ _) _) (Fx (Aa _) (by omega))) (ownFrom_pure _ _))
  ⟨⟨U,J⟩,λj y h=>by simp at h⟩
  (λx=>{ tmps:=#[.pointer (some ⟨tb,0,none⟩),undef,.int .i64 0,.pointer (some ⟨w.heap.size,0,none⟩),.int .i64 x.1,.pointer (some ⟨tb,0,none⟩),.pointer (some ⟨tb,0,none⟩),.pointer (some ⟨tb,1,none⟩),.func (.func 204) #[] #[.pointer (some ⟨w.heap.size+1,0,none⟩)],.int .i64 x.1,.agg #[.slice x.2.a x.2.l x.2.c,.int .i64 x.2.f],undef,undef,undef,undef,undef,undef],defers:=[] })
  ?assign ?body ?done ?stop
 case assign=>
  intro l x W K q
  gi_wp2
  exact q
 case body=>
  rintro l a x W⟨⟨d,r⟩,o⟩ ab;have M:=d.cell;have hf:=d.frozen;by_cases u:x.1=(a.length:Nat)
  ·gi_wp2
   refine⟨(CA _ _ _),(Ak w.heap.size W).setCell (p:=⟨w.heap.size,0,none⟩) (Aa _) _,⟨by rw[Ab];exact d.set _,r.setCell (p:=⟨w.heap.size,0,none⟩) (Aa _) _⟩,λj y h=>?_⟩;rw[List.getElem?_append]at h
   split at h
   ·exact o j y h
   ·rename_i m;have:j-a.length=0:=by
     rcases Cj (j-a.length) with e|e
     ·exact e
     ·rw[BA (by simp;omega)]at h;cases h
    rw[this]at h;simp at h;rw[<-h,u];omega
  ·gi_wp2
   refine⟨KeepsOthers.refl _,⟨by rw[Ab];exact d,r⟩,rfl,⟨x,by simp,by simpa using u⟩,λj y m h=>?_⟩;rw[AW (by simpa using m)]at h;exact o j y h
 case done=>
  rintro D ys W S rfl⟨⟨d,r⟩,o⟩ q;have M:=d.cell
  gi_wp2
  refine⟨by simp,.inl ⟨_,_,rfl,BP q,?_⟩⟩;refine⟨_,Eu rfl _ _ _,_,rfl,Aa _,λx u e=>?_,r.trans (Fc (w:=w) (Aa _) W D _ _ (by omega) q rfl rfl)⟩;obtain⟨j,m⟩:=BU u;have G:=o j x m;have H:=(Ae.1 m).1;omega
 case stop=>
  rintro D c a W S N⟨⟨d,r⟩,rfl,⟨y,E,ad⟩,o⟩ q;have M:=d.cell
  gi_wp2
  refine⟨by simp,.inl ⟨_,_,rfl,BP q,?_⟩⟩;have ae:=N.length_le;have ab:=(Ae.1 E).1;refine⟨_,Eu rfl _ _ _,_,rfl,by omega,λx u e=>?_,r.trans (Fc (w:=w) (Aa _) W D _ _ (by omega) q rfl rfl)⟩;obtain⟨i,B⟩:=BU u;have C:∀j,j<a.length->I[j]?=a[j]? := λj m=>by
   obtain⟨t,rfl⟩:=N;rw[AW m]
  have aa:∀(j:Nat) (z:Int×VF),I[j]?=some z->(j:Int)<=z.1:=by
   intro j
   induction j with
   |zero=>intro z F;exact Q z (Ar F)
   |succ j ih=>
    intro z F;have m:=(Ae.1 F).1;have G:=ih I[j] (Ac (by omega));have H:=P j (j+1) I[j] z (by omega) (Ac (by omega)) F;have R:I[j].1<z.1:=BO H;omega
  rcases CB i (a.length-1) with v|v|v
  ·have:=o i x v (by rw[<-C i (by omega)];exact B);omega
  ·rw[v,C _ (by omega),E]at B
   cases B;exact ad e
  ·have G:=P (a.length-1) i y x v (by rw[C _ (by omega)];exact E) B;have H:y.1<x.1:=BO G;have R:=aa _ y (by rw[C (a.length-1) (by omega)];exact E);omega
end
def FY(G:Gh)(rd:Nat)(ns:LY)(b:Nat):Prop:=(ns=[]/\b=rd)\/(ns,(⟨some ⟨b,0,none⟩,0⟩:VS))∈G
structure Gr(w:World)(G:Gh)(rd:Nat)(V:NV)(E:NS):Prop where
 shp:∀x∈G,x.2.p=none\/∃b,x.2=⟨some ⟨b,0,none⟩,0⟩
 row:∀ns b,FY G rd ns b->FX w b 229 [V b]
 sl:∀ns b,FY G rd ns b->Sl w 310 3 (V b) (E b).length (Dm (E b))
 srt:∀ns b,FY G rd ns b->Ge (E b)
 en:∀ns b,FY G rd ns b->Ib G ns (E b)
 inj:∀ns ns' b,FY G rd ns b->FY G rd ns' b->ns=ns'
 own:∀ns ns' b b' g,FY G rd ns b->FY G rd ns' b'->(V b).ownBlock=some g->(V b').ownBlock=some g->b=b'
 lo:∀ns b,FY G rd ns b->rd<=b/\∀g,(V b).ownBlock=some g->rd<=g
theorem Gr.fr{X:Nat->Prop}{w w':World}{G:Gh}{f:Nat}{V:NV}{E:NS}(h:Gr w G f V E)(d:Fr X w w')(c:∀k t R,X k->FX w k t R->t≠229/\t≠310):Gr w' G f V E:=
 ⟨h.shp,λns b a=>(h.row ns b a).fr d (λe=>(c _ _ _ e (h.row ns b a)).1 rfl),
  λns b a=>(h.sl ns b a).fr d (λg j e=>by obtain⟨R,i⟩:=(h.sl ns b a).type j;exact(c _ _ _ e i).2 rfl),
  h.srt,h.en,h.inj,h.own,h.lo⟩
theorem Gr.below{w w':World}{G:Gh}{a:Nat}{V:NV}{E:NS}(h:Gr w G a V E){B:Nat}(c:Below B w w')(b:w.heap.size<=B):Gr w' G a V E:=
 h.fr (X:=λ_=>False) (Fr.of_below (c.mono b)) (λ_ _ _ e=>e.elim)
theorem Gr.len{w:World}{G:Gh}{c:Nat}{V:NV}{E:NS}(h:Gr w G c V E)(d:Gk G){ns:LY}{b:Nat}(a:FY G c ns b):(E b).length=G.countP (He ns):=(h.en ns b a).length d (h.srt ns b a)
theorem Gr.le{w:World}{G:Gh}{a:Nat}{V:NV}{E:NS}(h:Gr w G a V E)(c:Gk G){ns:LY}{b:Nat}(d:FY G a ns b):(E b).length<=G.length:=by
 rw[h.len c d];exact B2
theorem Gr.sub{w:World}{G:Gh}{c:Nat}{V:NV}{E:NS}(h:Gr w G c V E){ns:LY}{b:Nat}(g:FY G c ns b){x:By×VS}(i:x∈E b):
  x.2.p=none\/∃a,x.2=⟨some ⟨a,0,none⟩,0⟩/\FY G c (ns++[x.1]) a:=by
 have d:=(h.en ns b g x.1 x.2).1 i;rcases h.shp _ d with f|⟨a,e⟩
 ·exact .inl f
 ·exact .inr ⟨a,e,.inr (by rw[<-e];exact d)⟩
def fD(G:Gh)(ns:LY)(x:By×VS):Nat:=if x.2.p.isSome=true then cD G (ns++[x.1]) else 0
def fE(G:Gh)(ns:LY)(x:By×VS):Nat:=if x.2.p.isSome=true then cE G (ns++[x.1]) else 0
def Ji(f:By×VS->Nat)(l:LS):Nat:=(l.map f).sum
theorem NZ(f:By×VS->Nat)(l:LS)(x:By×VS):Ji f (l++[x])=Ji f l+f x:=by simp[Ji]
theorem Ta(f:By×VS->Nat)(m:Nat)(c:∀x,f x<=m)(l:LS):Ji f l<=l.length*m:=by
 induction l with
 |nil=>simp[Ji]
 |cons a l ih=>
  have b:Ji f (a::l)=f a+Ji f l:=by simp[Ji]
  have:=c a;rw[b,Al,E3];omega
theorem Pe(G:Gh)(ns:LY):cD G ns<=1+G.length:=by
 unfold cD;exact Nat.add_le_add_left B2 1
theorem cE_le(G:Gh)(ns:LY):cE G ns<=G.length:=by unfold cE;exact B2
theorem fD_le(G:Gh)(ns:LY)(x:By×VS):fD G ns x<=1+G.length:=by
 unfold fD;split
 ·exact Pe _ _
 ·omega
theorem fE_le(G:Gh)(ns:LY)(x:By×VS):fE G ns x<=G.length:=by
 unfold fE;split
 ·exact cE_le _ _
 ·omega
theorem ZU{G:Gh}(b:Gk G){ns:LY}{es:LS}(f:Ge es)(d:Ib G ns es):∀k,k<=es.length->
  Kq G (λx=>x.2.p.isSome) ns (Kh (es.take k))=Ji (fD G ns) (es.take k)/\Kq G (λ_=>true) ns (Kh (es.take k))=k+Ji (fE G ns) (es.take k):=by
 intro k
 induction k with
 |zero=>
  intro _;have:∀r,Kq G r ns []=0:=λr=>by unfold Kq;rw[Ex];intro x _;simp
  simp[Kh,Ji,this]
 |succ k ih=>
  intro hk;obtain⟨h,i⟩:=ih (by omega);have c:k<es.length:=by omega
  have g:es.take (k+1)=es.take k++[es[k]]:=by rw[BK,Ac c];rfl
  have e:=(d es[k].1 es[k].2).1 (Ea c);rw[T4 b _ f d k c,T4 b _ f d k c,h,i,g,NZ,NZ];unfold fD fE cD cE
  cases hp:es[k].2.p with
  |none=>
   rw[Wk b (λx=>x.2.p.isSome) e hp,Wk b (λ_=>true) e hp];simp;omega
  |some a=>simp;omega
theorem Zz{G:Gh}(c:Gk G){ns:LY}{es:LS}(e:Ge es)(d:Ib G ns es):1+Ji (fD G ns) es=cD G ns/\es.length+Ji (fE G ns) es=cE G ns:=by
 obtain⟨a,b⟩:=ZU c e d es.length (Aa _);rw[Cy,Zn5 c _ d]at a b;exact⟨by rw[<-a];rfl,by rw[<-b];rfl⟩
section
open Go.RowKit Go.Shelf
attribute [local go_sem] Oper.semAt_some
theorem Wp(G:Gh)(hG:Gk G)(ah:G.length<=10000)(N:Nat)(V:NV)(E:NS)(ns:LY)(b:Nat)(u:FY G N ns b)(an:∀x F w,x∈E b->FY G N (ns++[x.1]) F->Gr w G N V E->Cl 143 #[.pointer (some ⟨F,0,none⟩)] w λe w'=>e=.returned (.tuple #[.int .i64 (cD G (ns++[x.1]):Nat),.int .i64 (cE G (ns++[x.1]):Nat)])/\Bw w w')(w:World)(h:Gr w G N V E):
  Cl 143 #[.pointer (some ⟨b,0,none⟩)] w λe w'=>e=.returned (.tuple #[.int .i64 (cD G ns:Nat),.int .i64 (cE G ns:Nat)])/\Bw w w':=by
 have hS:=h.sl ns b u;have aE:=h.le hG u;have ao:=h.row ns b u;have hc:=ao.cell 0;have ak:b<w.heap.size:=ao.lt;have am:=λ(W:World) (hb:Bw w W)=>Lp W b 0 (V b) (E b).length (Dm (E b)) ((hb.cell (p:=⟨b,0,none⟩) ak).trans hc) (hS.kept (λk hk _=>hb.block k hk))
 have af:=Db am;clear am;refine(A2 (n:=3)).1 ?_;refine Br func143 rfl trivial ?_ rfl;simp only[ntmps143,AM,Al,AK,Nat.reduceAdd,Nat.reduceSub,AQ,AP,AZ,AT,AD,AN]
 gi_wp2_with (refine⟨trivial,?_⟩;first|(gi_at_call 178;refine(A2.2 (Da af _ (by exact((Ak _ w).alloc (Aa _) _).alloc (by simp) _))).mono ?_;rintro e w'⟨rfl,hw⟩;rw[hw];clear hw)|(gi_at_call 179;refine(PA _ _ trivial rfl _ _).mono ?_;rintro e w'⟨rfl,rfl⟩))
 obtain⟨j,q⟩:∃j,((w.alloc (Obj.cells #[Value.int IntKind.i64 1] 3)).alloc (Obj.cells #[Value.int IntKind.i64 ((E b).length:Nat)] 3)).alloc (Obj.cells #[Value.pointer (some { block:=b,off:=0 })] 307)=j:=⟨_,rfl⟩;rw[q];have aM:j.heap.size=w.heap.size+3:=by rw[<-q];simp
 have aa:Bw w j:=by rw[<-q];exact(((Ak _ w).alloc (Aa _) _).alloc (by simp) _).alloc (by simp;omega) _
 have aA:Boxed j w.heap.size 3 (.int .i64 1):=by rw[<-q];exact((FL w 3 _).alloc _).alloc _
 have aB:Boxed j (w.heap.size+1) 3 (.int .i64 ((E b).length:Nat)):=by rw[<-q];have:=(FL (w.alloc (Obj.cells #[Value.int IntKind.i64 1] 3)) 3 (.int .i64 ((E b).length:Nat))).alloc (Obj.cells #[Value.pointer (some { block:=b,off:=0 })] 307);simpa using this
 have aC:Boxed j (w.heap.size+1+1) 307 (.pointer (some ⟨b,0,none⟩)):=by rw[<-q];have:=FL ((w.alloc (Obj.cells #[Value.int IntKind.i64 1] 3)).alloc (Obj.cells #[Value.int IntKind.i64 ((E b).length:Nat)] 3)) 307 (.pointer (some ⟨b,0,none⟩));simpa using this
 have ay:Sl j 310 3 (V b) (E b).length (Dm (E b)):=hS.kept (λk hk _=>aa.block k hk);have aD:j.cell? ⟨b,0,none⟩=some (V b):=(aa.cell (p:=⟨b,0,none⟩) ak).trans hc;have ab:(E b).attach.map (λx=>x.1)=E b:=C7 _;have av:=Db an;have C:=Db h;clear q an h af;refine FB (α:={ x // x∈E b }) rfl (by omega) (gf:=222) (lb:=#[.pointer (some ⟨w.heap.size+1+1,0,none⟩)]) rfl trivial (EB func222 (by kernel_rfl) rfl)
  (WJ Fence.wide 2 trivial rfl (by omega) (w.heap.size+1+1) w.heap.size b 0 (V b) (λx=>x.1) (E b).attach (by simpa using Af aE ah) j (by omega) (by omega) (by omega) aC.cell aD (by rw[ab];simpa using ay) (λg hg=>hS.lt hg))
  belowK_t (Fc (by omega)) (Ak _ _) (λ_=>rfl)
  (λa W=>(Boxed W w.heap.size 3 (.int .i64 ((1+Ji (fD G ns) (a.map (·.1)):Nat):Int))/\Boxed W (w.heap.size+1) 3 (.int .i64 (((E b).length+Ji (fE G ns) (a.map (·.1)):Nat):Int)))/\Bw w W)
  (λ_ _ _=>False)
  (EK (EK (Own.from (boxed_own _ _ _) _) (Own.from (boxed_own _ _ _) _)) (Fx (Aa _) (by omega)))
  (λ_ _ _ _ _ hs _ _=>hs)
  ⟨⟨aA,aB⟩,aa⟩
  (λx R W=>∃o,w.heap.size+1<o/\FX W o 260 [.pointer x.1.2.p,.int .i64 x.1.2.f]/\R={ tmps:=#[.pointer (some ⟨b,0,none⟩),undef,.pointer (some ⟨w.heap.size,0,none⟩),.pointer (some ⟨w.heap.size+1,0,none⟩),undef,.pointer (some ⟨o,0,none⟩),undef,undef,.pointer (some ⟨b,0,none⟩),.pointer (some ⟨b,0,none⟩),.pointer (some ⟨b,0,none⟩),.int .i64 ((E b).length:Nat),.pointer (some ⟨b,0,none⟩),.pointer (some ⟨b,0,none⟩),.pointer (some ⟨b,0,none⟩),.func (.func 222) #[] #[.pointer (some ⟨w.heap.size+1+1,0,none⟩)],.string x.1.1,.agg #[.pointer x.1.2.p,.int .i64 x.1.2.f],undef,undef,undef,undef,undef,undef,undef,undef,undef,undef,undef,undef,undef,undef,undef,undef,undef],defers:=[] })
  (λx R _ X Y row hs hg hr=>by
   obtain⟨o,h1,h2,h3⟩:=hs;exact⟨o,h1,(Uy (β:=Unit) o 260 (λ_=>_)).from _ () X Y row h2 hg hr,h3⟩)
  ?assign ?body ?done ?stop
 case assign=>
  rintro l a x W K⟨⟨i,f⟩,m⟩ hK
  gi_wp2
  refine hK _ _ ((Es _ _).from _) ((Ak _ W).alloc m.size _) ⟨⟨i.alloc _,f.alloc _⟩,m.alloc m.size _⟩ ⟨W.heap.size,f.lt,Je W _ _,rfl⟩
 case body=>
  rintro l a x R W aI⟨r,hr⟩ ⟨⟨i,f⟩,m⟩ ⟨o,aH,bX,rfl⟩ aF;have aL:a.length<(E b).length:=by simpa using aF
  have I:=Ta (fD G ns) 10001 (λy=>Af (fD_le G ns y) (by omega)) (a.map (·.1));have J:=Ta (fE G ns) 10000 (λy=>Af (fE_le G ns y) (by omega)) (a.map (·.1));rw[AL]at I J;have U:Ji (fD G ns) ((a++[x]).map (·.1))=Ji (fD G ns) (a.map (·.1))+fD G ns x.1:=by rw[Bq,BI,CY,NZ]
  have Z:Ji (fE G ns) ((a++[x]).map (·.1))=Ji (fE G ns) (a.map (·.1))+fE G ns x.1:=by rw[Bq,BI,CY,NZ]
  obtain⟨O,ap⟩:∃s,s=Ji (fD G ns) (a.map (·.1)):=⟨_,rfl⟩;obtain⟨P,aq⟩:∃s,s=Ji (fE G ns) (a.map (·.1)):=⟨_,rfl⟩;rw[<-ap]at I U i;rw[<-aq]at J Z f;have E1:=Db U;have E2:=Db Z;clear ap aq U Z;have x0:=bX.cell 0;have aJ:O<=100010000:=Af I (by omega);have aK:P<=100000000:=Af J (by omega);clear I J;rcases(Da C).sub u x.2 with hp|⟨F,ae,aG⟩
  ·have L:fD G ns x.1=0:=by unfold fD;rw[hp];rfl
   have M:fE G ns x.1=0:=by unfold fE;rw[hp];rfl
   rw[hp]at x0
   gi_wp2
   exact⟨(KeepsOthers.refl _).from _,Ak _ _,⟨by rw[Da E1,L];exact i,by rw[Da E2,M];exact f⟩,m⟩
  ·have L:fD G ns x.1=cD G (ns++[x.1.1]):=by unfold fD;rw[ae];rfl
   have M:fE G ns x.1=cE G (ns++[x.1.1]):=by unfold fE;rw[ae];rfl
   have ai:=Af (Pe G (ns++[x.1.1])) (by omega:_<=10001);have aj:=Af (cE_le G (ns++[x.1.1])) ah;have t:=Da av x.1 F W x.2 aG ((Da C).below m (Aa _));rw[ae]at x0;rw[<-L]at t ai;rw[<-M]at t aj;obtain⟨d1,ac⟩:∃d,d=fD G ns x.1:=⟨_,rfl⟩;obtain⟨d2,ad⟩:∃d,d=fE G ns x.1:=⟨_,rfl⟩;have ar:=Db ac;have au:=Db ad;rw[<-ac]at t ai;rw[<-ad]at t aj;clear L M ac ad
   gi_wp2_with fail
   refine⟨trivial,?_⟩;refine(Cx l (A2.2 t)).mono ?_;rintro e Q⟨rfl,H⟩;have A:Boxed Q w.heap.size 3 _:=(H.block _ i.lt).trans i;have B:Boxed Q (w.heap.size+1) 3 _:=(H.block _ f.lt).trans f;have c0:=A.cell;have c1:=B.cell;have f0:=A.frozen;have f1:=B.frozen;clear t
   gi_wp2
   have v1:(1+(O:Int)+(d1:Int))=((1+Ji (fD G ns) ((a++[x]).map (·.1)):Nat):Int):=by rw[Da E1,<-Da ar];omega
   have v2:(((E b).length:Int)+(P:Int)+(d2:Int))=(((E b).length+Ji (fE G ns) ((a++[x]).map (·.1)):Nat):Int):=by rw[Da E2,<-Da au];omega
   have al:Below w.heap.size W Q:=H.mono m.size;refine⟨((Xv H).trans ((CA _ _ _).trans (CA _ _ _))).from _,(al.setCell (p:=⟨w.heap.size,0,none⟩) (Aa _) _).setCell (p:=⟨w.heap.size+1,0,none⟩) (EL _) _,⟨?_,?_⟩,((m.trans al).setCell (p:=⟨w.heap.size,0,none⟩) (Aa _) _).setCell (p:=⟨w.heap.size+1,0,none⟩) (EL _) _⟩
   ·rw[v1];exact(A.set _).other (by omega) _
   ·rw[v2];exact(B.other (by omega) _).set _
 case done=>
  rintro D ys W hD rfl⟨⟨i,f⟩,m⟩ hK;have c0:=i.cell;have c1:=f.cell;have f0:=i.frozen;have f1:=f.frozen;obtain⟨O,P⟩:=Zz hG ((Da C).srt ns b u) ((Da C).en ns b u);rw[ab,O]at c0 i;rw[ab,P]at c1 f;have A:=i;have B:=f;clear i f
  gi_wp2
  gi_region
  all_goals gi_wp2
  have S:Boxed ((W.setCell ⟨w.heap.size,0,none⟩ (.int .i64 (cD G ns:Nat))).setCell ⟨w.heap.size+1,0,none⟩ (.int .i64 (cE G ns:Nat))).drew w.heap.size 3 (.int .i64 (cD G ns:Nat)):=(A.set _).other (by omega) _;have T:Boxed ((W.setCell ⟨w.heap.size,0,none⟩ (.int .i64 (cD G ns:Nat))).setCell ⟨w.heap.size+1,0,none⟩ (.int .i64 (cE G ns:Nat))).drew (w.heap.size+1) 3 (.int .i64 (cE G ns:Nat)):=(B.other (by omega) _).set _;have ag:Bw w ((W.setCell ⟨w.heap.size,0,none⟩ (.int .i64 (cD G ns:Nat))).setCell ⟨w.heap.size+1,0,none⟩ (.int .i64 (cE G ns:Nat))).drew:=((m.setCell (p:=⟨w.heap.size,0,none⟩) (Aa _) _).setCell (p:=⟨w.heap.size+1,0,none⟩) (EL _) _).drew;have z:((W.setCell ⟨w.heap.size,0,none⟩ (.int .i64 (cD G ns:Nat))).setCell ⟨w.heap.size+1,0,none⟩ (.int .i64 (cE G ns:Nat))).drew.heap[D]?=some (.deferred (some [])):=(((CA W ⟨w.heap.size,0,none⟩ (.int .i64 (cD G ns:Nat))).trans (CA _ ⟨w.heap.size+1,0,none⟩ (.int .i64 (cE G ns:Nat)))).trans (KeepsOthers.drew _)).same D _ hK rfl;obtain⟨v,az⟩:∃v,((W.setCell ⟨w.heap.size,0,none⟩ (.int .i64 (cD G ns:Nat))).setCell ⟨w.heap.size+1,0,none⟩ (.int .i64 (cE G ns:Nat))).drew=v:=⟨_,rfl⟩;rw[az]at S T ag z ⊢;have aw:=(S.kept (FD v D (.deferred none)) (λe=>by cases e;have:=S.symm.trans z;cases this)).cell;have ax:=(T.kept (FD v D (.deferred none)) (λe=>by cases e;have:=T.symm.trans z;cases this)).cell;refine⟨by simp,.inl ⟨_,_,rfl,BP z,?_⟩⟩;refine⟨.tuple #[.int .i64 (cD G ns:Nat),.int .i64 (cE G ns:Nat)],?_,rfl,ag.trans (Fc (w:=w) (Aa _) v D _ _ (by omega) z rfl rfl)⟩;simp[results,results143,go_sem,aw,ax]
 case stop=>
  rintro D c a W _ _ h _;exact h.elim
theorem FY.le{G:Gh}(a:Gk G){c:Nat}{ns:LY}{b:Nat}(h:FY G c ns b):ns.length<=6:=by
 rcases h with⟨rfl,_⟩|h
 ·exact Au _
 ·exact a.le _ h
theorem Wo(G:Gh)(c:Gk G)(j:G.length<=10000)(a:Nat)(V:NV)(E:NS):∀(d:Nat) (ns:LY) (b:Nat) (w:World),6<=ns.length+d->FY G a ns b->Gr w G a V E->
  Cl 143 #[.pointer (some ⟨b,0,none⟩)] w λe w'=>e=.returned (.tuple #[.int .i64 (cD G ns:Nat),.int .i64 (cE G ns:Nat)])/\Bw w w':=by
 intro d
 induction d with
 |zero=>
  intro ns b w k h g;exact Wp G c j a V E ns b h (λx i w' _ f _=>by have:=f.le c;simp at this;omega) w g
 |succ d ih=>
  intro ns b w k h g;exact Wp G c j a V E ns b h (λx i w' _ f l=>ih _ i w' (by simp;omega) f l) w g
end
end Go.Proofs.YtaieidcohdhgpaaGreatDoor
