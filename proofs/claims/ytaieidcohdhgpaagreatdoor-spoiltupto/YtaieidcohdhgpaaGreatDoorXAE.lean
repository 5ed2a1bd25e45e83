/- Spoilt. -/
import Derived.Test.YtaieidcohdhgpaaGreatDoorXAC
import Derived.Test.YtaieidcohdhgpaaGreatDoorXAD
import Derived.Deep.DeepCutAuto
import Derived.Deep.RegionHeld3
import Derived.RangeFuncNested
import Derived.RangeFuncBound
import Derived.Shelf.RegionOpen
import Derived.OwnWalkIn
import Derived.LoopNIn
import Derived.LoopIn
namespace Go.Proofs.YtaieidcohdhgpaaGreatDoor
set_option maxHeartbeats 40000000
set_option maxRecDepth 100000
open Go.RowKit
abbrev Cc:=@Lib.extract_data
theorem Sg:∀(l:List UInt8) (i:Nat),(∀j,j<i->l[j]? ≠ some 47)->l[i]?=some 47->Lib.indexByte l 47=i
 | [],i,_,h=>by simp at h
 | a::l,0,_,h=>by simp at h;simp[Lib.indexByte,h]
 | a::l,i+1,h,h1=>by
  have b:a≠47:=fun e=>h 0 (by omega) (by simp[e])
  have:=Sg l i (fun j hj=>by have:=h (j+1) (by omega);simpa using this) (by simpa using h1);simp[Lib.indexByte,b,this]
theorem SK:∀(l:List UInt8),(∀j:Nat,l[j]? ≠ some 47)->Lib.indexByte l 47 = -1
 | [],_=>by simp[Lib.indexByte]
 | a::l,h=>by
  have b:a≠47:=fun e=>h 0 (by simp[e])
  have:=SK l (fun j=>by have:=h (j+1);simpa using this);simp[Lib.indexByte,b,this]
def pc(s:By):LY:=Lib.splitB ⟨#[47]⟩ 0 (Lib.countB s ⟨#[47]⟩) s
theorem Wx(s:By):Lib.indexB s ⟨#[47]⟩=Lib.indexByte s.data.toList 47:=Lib.index_one _ _
theorem Ud(s:By)(h:∀j:Nat,s.data.toList[j]? ≠ some 47):pc s=[s]:=
 Lib.splitB_miss _ _ _ _ ((Wx s).trans (SK _ h))
theorem Pg(s:By)(i:Nat)(h:∀j,j<i->s.data.toList[j]? ≠ some 47)(b:s.data.toList[i]?=some 47):pc s=s.extract 0 i::pc (s.extract (i+1) s.size):=by
 have a:=(Wx s).trans (Sg _ i h b);unfold pc;rw[Lib.countB_hit s ⟨#[47]⟩ i (Aa 1) a,E3 1,Lib.splitB_hit _ _ _ _ i a]
 rfl
theorem Od(p:By)(f:Nat):(p.extract f p.size).data.toList=p.data.toList.drop f:=Lib.extract_to_end p f
def Df(p:By):LY:=if p.toList==[47] then [] else pc (p.extract 1 p.size)
def DU(p:By):Bool:=p.toList==[47] || (p.data.toList[0]? == some 47 && decide ((pc (p.extract 1 p.size)).length<=6) && (pc (p.extract 1 p.size)).all DX)
theorem Zm(p:By):(pc p).length<=p.size+1:=by
 have:=Lib.splitB_length_le ⟨#[47]⟩ 0 (Lib.countB p ⟨#[47]⟩) p;have h2:=Lib.countB_le ⟨#[47]⟩ (Aa 1) p.size p (Aa _);unfold pc;omega
theorem Tz(l:List UInt8):(∀j:Nat,l[j]? ≠ some 47)\/∃i:Nat,(∀j,j<i->l[j]? ≠ some 47)/\l[i]?=some 47:=by
 induction l with
 | nil=>exact .inl (by simp)
 | cons a l ih=>
  by_cases h:a=47
  ·exact .inr ⟨0,fun j b=>absurd b (Eu _),by simp[h]⟩
  ·rcases ih with ih|⟨i,c,d⟩
   ·exact .inl (fun j=>by cases j with
     | zero=>simp[h]
     | succ j=>simpa using ih j)
   ·exact .inr ⟨i+1,fun j b=>by
     cases j with
     | zero=>simp[h]
     | succ j=>simpa using c j (by omega),by simpa using d⟩
theorem Zkn(l:List Nat)(x:Nat)(h:x∈l):x<=l.sum:=by
 induction l with
 | nil=>cases h
 | cons a l ih=>
  rw[FA];rcases AE.1 h with rfl|h
  ·omega
  ·have:=ih h;omega
theorem Sm:∀(k:Nat) (s:By),s.size<=k->((pc s).map (fun x=>x.size+1)).sum=s.size+1:=by
 intro k
 induction k with
 | zero=>
  intro s d;have b:s.data.toList=[]:=Ay (by have:s.data.toList.length=s.size:=AG;omega);rw[Ud s (fun j=>by rw[b];simp)];simp
 | succ k ih=>
  intro s d;rcases Tz s.data.toList with h|⟨i,c,a⟩
  ·rw[Ud s h];simp
  ·have hi:i<s.size:=(Ae.1 a).1;rw[Pg s i c a,Br,FA,ih _ (by simp[ByteArray.size_extract];omega)];simp[ByteArray.size_extract];omega
theorem sum_le(l:LY)(h:l.all DX=true):(l.map (fun x=>x.size+1)).sum<=l.length*13:=by
 induction l with
 | nil=>simp
 | cons a l ih=>
  simp only[List.all_cons,Bu]at h;have:=ih h.2;have ha:a.size<=12:=by
   have b:=h.1;simp only[DX,Bu,AJ]at b;exact b.1.2
  simp only[Br,FA,Aq];omega
theorem Ri(p:By)(h:DU p=true):p.size<=78:=by
 unfold DU at h;rw[FN]at h;rcases h with h|h
 ·have a:p.toList=[47]:=by simpa using h
  rw[CM]at a;have:p.data.toList.length=p.size:=AG;rw[a]at this;simp at this;omega
 ·simp only[Bu,AJ]at h;have a:=Sm _ (p.extract 1 p.size) (Aa _);have h2:=sum_le _ h.2;have h3:(p.extract 1 p.size).size=p.size-1:=by simp[ByteArray.size_extract]
  have:=h.1.2;omega
theorem TN(p:By):Lib.hasPrefix p.data.toList [47]=(p.data.toList[0]? == some 47):=by
 cases h:p.data.toList with
 | nil=>rfl
 | cons a l=>rw[EK];simp[Lib.hasPrefix,List.isPrefixOf];exact eq_comm
def Qt(p:By)(w:World)(e:Ending)(w':World):Prop:=
 ((DU p=false/\e = .returned (.tuple #[.slice none 0 0,.bool false]))\/
  (DU p=true/\∃a c,e = .returned (.tuple #[.slice a (Df p).length c,.bool true])/\Sl w' 9 1 (.slice a (Df p).length c) (Df p).length ((Df p).map .string)))/\Bw w w'
theorem Rp(p:By)(m:Int)(w:World)(hp:p.size<=2000000)(O:w.cell? ⟨0,0,none⟩=some (.int .i64 m)):Cl 224 #[.string p] w (Qt p w):=by
 obtain⟨b,n⟩:=ex (DU p)
 cases h0:(p.toList==[47]) with
 | true=>
  have d:Df p=[]:=by simp[Df,h0]
  have a:DU p=true:=by simp[DU,h0]
  have f:=Db (show Qt p w (.returned (.tuple #[.slice none 0 0,.bool true])) w from ⟨.inr ⟨a,none,0,by rw[d];rfl,by rw[d];exact⟨rfl,.inl ⟨rfl,rfl⟩⟩⟩,Al _ _⟩);clear n d a;go_enter Tryz.func224,Tryz.ntmps224;go_wp2
  go_ret2
  exact Da f
 | false=>
 by_cases aa:78<p.size
 ·have a:DU p=false:=by
   cases h:DU p with
   | false=>rfl
   | true=>have:=Ri p h;omega
  have f:=Db (show Qt p w (.returned (.tuple #[.slice none 0 0,.bool false])) w from ⟨.inl ⟨a,rfl⟩,Al _ _⟩);clear n a;go_enter Tryz.func224,Tryz.ntmps224;go_wp2
  go_ret2
  exact Da f
 cases c:(p.data.toList[0]? == some 47) with
 | false=>
  have a:DU p=false:=by simp only[DU,h0,c];rfl
  have f:=Db (show Qt p w (.returned (.tuple #[.slice none 0 0,.bool false])) w from ⟨.inl ⟨a,rfl⟩,Al _ _⟩);have y:=TN p;rw[c]at y;clear n a c;go_enter Tryz.func224,Tryz.ntmps224;go_wp2_with (go_at_call 194;refine(Tryz.strings_HasPrefix _ _ _).mono ?_;rintro e w' ⟨rfl,rfl⟩)
  go_ret2
  exact Da f
 | true=>
  have y:=TN p;rw[c]at y;have ac:1<=p.size:=by
   have:p.data.toList[0]?=some 47:=by simpa using c
   have r:=(Ae.1 this).1;have h3:p.data.toList.length=p.size:=AG;omega
  have d:Df p=pc (p.extract 1 p.size):=by simp[Df,h0]
  have a:DU p=(decide ((pc (p.extract 1 p.size)).length<=6) && (pc (p.extract 1 p.size)).all DX):=by simp only[DU,h0,c];simp
  have E:(pc (p.extract 1 p.size)).length=Lib.countB (p.extract 1 p.size) ⟨#[47]⟩+1:=Lib.splitB_all ⟨#[47]⟩ (Aa 1) 0 _ _ rfl;have g:=Tryz.strings_Split (p.extract 1 p.size) ⟨#[47]⟩ m w (by simp[ByteArray.size_extract];omega) O (Aa 1);rw[<-E]at g;change Cl 262 #[.string (p.extract 1 p.size),.string ⟨#[47]⟩] w fun e w'=>e = .returned (.slice (some ⟨w.heap.size,0,none⟩) (pc (p.extract 1 p.size)).length (pc (p.extract 1 p.size)).length)/\w'=w.alloc (.cells ((pc (p.extract 1 p.size)).map Value.string).toArray 9) at g
  have C:=Zm (p.extract 1 p.size);have N:(p.extract 1 p.size).size<=2000000:=by simp[ByteArray.size_extract];omega
  have z:∀x∈pc (p.extract 1 p.size),x.size<=2000001:=fun x l=>by
   have c:=Sm _ (p.extract 1 p.size) (Aa _);have r:x.size+1<=((pc (p.extract 1 p.size)).map (fun x=>x.size+1)).sum:=Zkn _ _ (Au.2 ⟨x,l,rfl⟩);omega
  obtain⟨P,s⟩:=ex (pc (p.extract 1 p.size));have B:Sl (w.alloc (.cells (P.map Value.string).toArray 9)) 9 1 (.slice (some ⟨w.heap.size,0,none⟩) P.length P.length) P.length (P.map .string):=
   ⟨by simp,.inr ⟨_,P.length,P.map .string,rfl,CN w _,Aa _,by unfold maxLen;rw[s];omega,by simp,by rw[BW];exact Ah (by simp)⟩⟩
  have u:Bw w (w.alloc (.cells (P.map Value.string).toArray 9)):=(Al _ _).alloc (Aa _) _;rw[<-s]at d a g C z;have M:Hid (P.length<=6->P.all DX=true->Qt p w (.returned (.tuple #[.slice (some ⟨w.heap.size,0,none⟩) P.length P.length,.bool true])) (w.alloc (.cells (P.map Value.string).toArray 9))):=fun c r=>
   ⟨.inr ⟨by rw[a,r];simp[c],some ⟨w.heap.size,0,none⟩,P.length,by rw[d],by rw[d];exact B⟩,u⟩
  have A:Hid ((¬P.length<=6)\/P.all DX=false->Qt p w (.returned (.tuple #[.slice none 0 0,.bool false])) (w.alloc (.cells (P.map Value.string).toArray 9))):=fun h=>
   ⟨.inl ⟨by rw[a];rcases h with h|h<;>simp[h],rfl⟩,u⟩
  have D:∀k,(w.alloc (.cells (P.map Value.string).toArray 9)).cell? ⟨w.heap.size,k,none⟩=(P[k]?).map Value.string:=fun k=>by
   rw[CV _ _ _ _ rfl];simp
  have J:=Db D;have L:=Db z;have ab:P.length<=2000001:=by omega
  clear n a E C N s B u d D z c;by_cases h6:6<P.length
  ·go_enter Tryz.func224,Tryz.ntmps224;go_wp2_with (first|(go_at_call 194;refine(Tryz.strings_HasPrefix _ _ _).mono ?_;rintro e w' ⟨rfl,j⟩;rw[j];clear j)|(go_at_call 262;refine g.mono ?_;rintro e w' ⟨rfl,rfl⟩))
   go_ret2
   exact Da A (.inl (by omega))
  ·go_enter Tryz.func224,Tryz.ntmps224;go_wp2_with (first|(go_at_call 194;refine(Tryz.strings_HasPrefix _ _ _).mono ?_;rintro e w' ⟨rfl,j⟩;rw[j];clear j)|(go_at_call 262;refine g.mono ?_;rintro e w' ⟨rfl,rfl⟩))
   go_loop [25,6] (fun i _=>∃k:Nat,k<=P.length/\i = .int .i64 k/\Hid ((P.take k).all DX=true)) (fun i _=>P.length-(intOf i).toNat)
   case atStart=>exact⟨0,Aw _,rfl,rfl⟩
   case round=>
    obtain⟨k,hk,rfl,v⟩:=hrel;by_cases G:k<P.length
    ·have l:P[k]?=some P[k]:=Ac G;have q:(w.alloc (.cells (P.map Value.string).toArray 9)).cell? ⟨w.heap.size,k,none⟩=some (.string P[k]):=by rw[Da J,l];rfl
     have I:P[k].size<=maxLen:=by unfold maxLen;have:=Da L P[k] (EA _);omega
     cases hokk:DX P[k] with
     | false=>
      have F:P.all DX=false:=by rw[List.all_eq_false];exact⟨P[k],EA _,by simp[hokk]⟩
      have o:=Db (Da A (.inr F));clear F l;go_wp2_with (go_at_call 263;refine(WP _ _ I).mono ?_;rintro e w' ⟨rfl,rfl⟩)
      go_ret2
      exact Da o
     | true=>
      have H:(P.take (k+1)).all DX=true:=by
       rw[CH G,List.all_append,Da v];simp[hokk]
      have K:=Db H;clear H l;go_wp2_with (go_at_call 263;refine(WP _ _ I).mono ?_;rintro e w' ⟨rfl,rfl⟩)
      go_round
      case rel=>exact⟨k+1,by omega,by go_num,K⟩
      case measure=>simp[intOf];omega
    ·obtain rfl:k=P.length:=by omega
     have t:=Da v;rw[CT]at t;have o:=Db (Da M (by omega) t);clear t v;go_wp2
     go_ret2
     exact Da o
def XK(x:By×Int):F6:=[.string x.1,.int .i64 x.2]
def Mq(es:List (By×Int)):F6:=es.flatMap XK
def Sk:List UInt8->Option Nat
 | []=>none
 | c::l=>match Sk l with
  | some k=>some (k+1)
  | none=>if c=47 then some 0 else none
def Ns(p:By):Prop:=∃k,Sk p.data.toList=some k
def OX(f:Int)(x:By×Int):Bool:=x.2==f
def RdF(w:World)(a:OA)(F:LY):Prop:=∀(k:Nat) (x:By),F[k]?=some x->∃g,a=some ⟨g,0,none⟩/\w.cell? ⟨g,k,none⟩=some (.string x)
theorem Sl.rdF{w:World}{v:Value}{F:LY}(h:Sl w 9 1 v F.length (F.map .string)):∃a c,v = .slice a F.length c/\RdF w a F:=by
 rcases h.2 with⟨rfl,d⟩|⟨g,b,R,rfl,e,hc,aa,hL,f⟩
 ·have:F=[]:=Ay d;subst this;exact⟨none,0,rfl,fun k x h=>by simp at h⟩
 ·refine⟨_,b,rfl,fun k x i=>⟨g,rfl,?_⟩⟩;have:(F.map Value.string)[k]?=some (.string x):=by simp[i]
  rw[e.cell];rw[<-f,Ao]at this
  split at this
  ·exact this
  ·cases this
structure Fr(X:Nat->Prop)(w w':World):Prop where
 os:w'.os=w.os
 tape:w'.tape=w.tape
 output:w'.output=w.output
 size:w.heap.size<=w'.heap.size
 block:∀k,k<w.heap.size->¬X k->w'.heap[k]?=w.heap[k]?
theorem Fr.refl(X:Nat->Prop)(w:World):Fr X w w:=⟨rfl,rfl,rfl,Aa _,fun _ _ _=>rfl⟩
theorem Fr.of_below{X:Nat->Prop}{w w':World}(h:Bw w w'):Fr X w w':=⟨h.os,h.tape,h.output,h.size,fun k a _=>h.block k a⟩
theorem Fr.mono{X Y:Nat->Prop}{w w':World}(h:Fr X w w')(b:∀k,k<w.heap.size->X k->Y k):Fr Y w w':=⟨h.os,h.tape,h.output,h.size,fun k a c=>h.block k a (fun e=>c (b k a e))⟩
theorem Fr.trans{X:Nat->Prop}{a b c:World}(h:Fr X a b)(k:Fr X b c):Fr X a c:=
 ⟨k.os.trans h.os,k.tape.trans h.tape,k.output.trans h.output,Ag h.size k.size,fun i d e=>(k.block i (Be d h.size) e).trans (h.block i d e)⟩
theorem Fr.of_grown{X:Nat->Prop}{w w':World}{row:Option Nat}(h:w.grownBy w' row)(a:∀k,row=some k->X k):Fr X w w':=
 ⟨h.os,h.tape,h.output,h.size,fun k b c=>h.block k b (fun e=>c (a k e.symm))⟩
theorem Fr.set{X:Nat->Prop}{w w':World}(h:Fr X w w')(a:Addr)(u:Value)(c:X a.block):Fr X w (w'.setCell a u):=
 ⟨h.os,h.tape,h.output,by simpa [World.setCell] using h.size,fun k d b=>by rw[AB _ _ _ _ (fun e=>b (by rw[e];exact c))];exact h.block k d b⟩
theorem F0.fr{X:Nat->Prop}{w w':World}{g:Nat}{e:TypeId}{L:F6}(h:F0 w g e L)(b:Fr X w w')(a:¬X g):F0 w' g e L:=by
 unfold F0;rw[b.block g h.lt a];exact h
theorem Sl.fr{X:Nat->Prop}{w w':World}{e:TypeId}{a:Nat}{v:Value}{n:Nat}{xs:F6}(h:Sl w e a v n xs)(c:Fr X w w')(b:∀g,v.ownBlock=some g->¬X g):Sl w' e a v n xs:=
 h.kept (fun k d e=>c.block k d (b k e))
structure RZ(w:World)(rb:Nat)(vl vf:Value)(L:List (By×Int))(F:LY):Prop where
 hd:F0 w rb 89 [vl,vf]
 sl:Sl w 103 2 vl L.length (Mq L)
 sf:Sl w 9 1 vf F.length (F.map .string)
 nl:L.length<=2000000
 nf:F.length<=2000000
 ok:∀x∈L,x.1.size<=2000000/\Ns x.1
 okf:∀s∈F,s.size<=2000000
 sep:∀g,vl.ownBlock=some g->vf.ownBlock≠some g
theorem Sl.type{w:World}{e:TypeId}{c:Nat}{v:Value}{n:Nat}{xs:F6}(h:Sl w e c v n xs){g:Nat}(a:v.ownBlock=some g):∃L,F0 w g e L:=by
 rcases h.2 with⟨rfl,_⟩|⟨g',aa,L,rfl,b,_⟩
 ·simp[Value.ownBlock]at a
 ·simp[Value.ownBlock]at a;subst a;exact⟨L,b⟩
theorem F0.type{w:World}{g:Nat}{e b:TypeId}{L c:F6}(h:F0 w g e L)(a:F0 w g b c):e=b:=by
 unfold F0 at h a;rw[h]at a;simp at a;exact a.2
def Mv(rb:Nat)(vl vf:Value)(k:Nat):Prop:=k=rb\/vl.ownBlock=some k\/vf.ownBlock=some k
section
variable{w:World}{rb:Nat}{vl vf:Value}{L:List (By×Int)}{F:LY}
end


theorem KT{w w':World}(h:w.grownBy w' none):Bw w w':=⟨h.os,h.tape,h.output,h.size,fun k a=>h.block k a (by simp)⟩
def IV(s:By)(at_ n:Int):By:=s.extract (min at_.toNat s.size) (min at_.toNat s.size+min n.toNat (s.size-min at_.toNat s.size))
def Dg(s:By)(n:Nat):By:=if n<=s.size then s.extract 0 n else s++⟨(List.replicate (n-s.size) 0).toArray⟩
theorem KB:(Tryz.prog.info? 5).map (fun i=>(i.zero,i.size,i.bytes))=some (some (.int .u8 0),1,1):=by kernel_rfl

abbrev AD:=@wp_region_held_drew
abbrev AN:=@AllReadyH.cons
abbrev AW:=@wpAnyH_done
abbrev A6:=@wpAnyH_take
abbrev A8:=@AllReadyH.nil
abbrev Bh:=@wpAnyH_ready
abbrev C4:=@yieldsIf_load_mid
abbrev C6:=@all_oneCell_toArray
abbrev FC:=@wpList_load_mid
theorem Jc(s:By)(n:Nat):(Dg s n).size=n:=by
 unfold Dg
 split
 ·rw[Af];omega
 ·rw[Ai];have:(ByteArray.mk (List.replicate (n-s.size) (0:UInt8)).toArray).size=n-s.size:=Bk;omega
def IL(s:By)(i:Nat)(d:By):By:=Dg s i++d++(if i+d.size<s.size then s.extract (i+d.size) s.size else ⟨#[]⟩)
theorem Ur(s:By)(m:Nat)(d:By):(IL s m d).size=max (m+d.size) s.size:=by
 unfold IL;rw[Ai,Ai,Jc]
 split
 ·rw[Af];omega
 ·have:(ByteArray.mk #[]).size=0:=rfl;omega
def PB:Value := .agg #[.string ⟨#[]⟩,.bool false,.int .i64 0,.int .i64 0]



def jl(ns:LY):List UInt8:=ns.flatMap (fun n=>47::n.data.toList)
def jn(ns:LY):By:=⟨(jl ns).toArray⟩
def LD(n:By):Prop:=(47:UInt8)∉n.data.toList
theorem LD.at{n:By}(h:LD n)(j:Nat):n.data.toList[j]? ≠ some 47:=fun e=>h (An e)
theorem ZiX{n:By}(h:DX n=true):LD n:=fun a=>by
 simp only[DX,Bu]at h;have:=Fw.1 h.2 _ a
 revert this;decide
theorem VT{n:By}(h:DX n=true):n.data.toList≠[]:=fun e=>by
 simp[DX,ByteArray.toList_eq,e]at h
theorem Qw(ns:LY):(jn ns).data.toList=jl ns:=by simp[jn]
theorem Vs(ns:LY):(jn ns).toList=jl ns:=by rw[CM,Qw]
theorem Sj:jl []=[]:=rfl
theorem KZ(n:By)(ns:LY):jl (n::ns)=47::n.data.toList++jl ns:=by simp[jl]
theorem ZlS(a b:LY):jl (a++b)=jl a++jl b:=by simp[jl]
theorem Pn(n:By):jl [n]=47::n.data.toList:=by simp[jl]
theorem Uk{a b:By}(h:a.data.toList=b.data.toList):a=b:=A7 h
theorem Td(ns:LY):(jn ns).size=(jl ns).length:=by show(jn ns).data.size=_;simp[jn]
def IX(ns:LY):Prop:=∀n∈ns,DX n=true
theorem pc_jl(n:By)(ns:LY)(b:∀m∈n::ns,LD m)(s:By)(a:s.data.toList=n.data.toList++jl ns):pc s=n::ns:=by
 induction ns generalizing n s with
 | nil=>
  have:s=n:=Uk (by simpa [Sj] using a);subst this;exact Ud s (b s (by simp)).at
 | cons m ms ih=>
  have e:=b n (by simp);rw[Pg s n.size (fun j f=>by rw[a,AP (by simpa using f)];exact e.at j) (by rw[a,KZ,AH (by simp)];simp)];have c:s.extract 0 n.size=n:=Uk (by rw[Cc,a];simp);have d:(s.extract (n.size+1) s.size).data.toList=m.data.toList++jl ms:=by
   rw[Od,a,KZ,Fv];simp
  rw[c,ih m (fun x g=>b x (AF _ g)) _ d]
theorem PW{ns:LY}(h:IX ns)(b:ns≠[]):Df (jn ns)=ns:=by
 cases ns with
 | nil=>exact absurd rfl b
 | cons n ns=>
  unfold Df;rw[if_neg (by
   rw[Vs,KZ];have:=VT (h n (by simp));simp[this])]
  exact pc_jl n ns (fun m a=>ZiX (h m a)) _ (by rw[Od,Qw,KZ];simp)
theorem jl_pc:∀(k:Nat) (s:By),s.size<=k->jl (pc s)=47::s.data.toList:=by
 intro k
 induction k with
 | zero=>
  intro s l;have c:s.data.toList=[]:=Ay (by have:s.data.toList.length=s.size:=AG;omega);rw[Ud s (fun j=>by rw[c];simp),Pn]
 | succ k ih=>
  intro s l;rcases Tz s.data.toList with h|⟨i,d,a⟩
  ·rw[Ud s h,Pn]
  ·have hi:i<s.size:=(Ae.1 a).1;rw[Pg s i d a,KZ,ih _ (by simp[ByteArray.size_extract];omega),Od,Cc];have f:s.data.toList.drop i=47::s.data.toList.drop (i+1):=by
    obtain⟨g,e⟩:=Ae.1 a;rw[CO g,e]
   have b:s.data.toList=s.data.toList.take i++s.data.toList.drop i:=(B8 _ _).symm;rw[f]at b;simp only[BY,EH];rw[AI,FK];exact⟨rfl,b.symm⟩
theorem QX{p:By}(h:DU p=true)(d:(p.toList==[47])=false):p=jn (Df p)/\IX (Df p)/\Df p≠[]/\(Df p).length<=6:=by
 unfold DU at h;rw[d,Bool.false_or]at h;simp only[Bu,AJ]at h;have g:Df p=pc (p.extract 1 p.size):=by unfold Df;rw[d];simp
 have b:=jl_pc _ (p.extract 1 p.size) (Aa _);rw[<-g]at h b;refine⟨?_,fun n f=>Fw.1 h.2 n f,fun e=>by rw[e]at b;simp[Sj]at b,h.1.2⟩;refine Uk ?_;rw[Qw,b,Od];have a:p.data.toList[0]?=some 47:=by simpa using h.1.1
 obtain⟨hl,e⟩:=Ae.1 a
 cases hp:p.data.toList with
 | nil=>rw[hp]at a;simp at a
 | cons c l=>rw[hp]at a;simp at a;simp[a]
theorem Wy{ns:LY}(h:IX ns)(a:ns≠[]):((jn ns).toList==[47])=false:=by
 cases ns with
 | nil=>exact absurd rfl a
 | cons n ns=>
  rw[Vs,KZ];have:=VT (h n (by simp));simp[this]
theorem Ti{ns:LY}(h:IX ns)(b:ns≠[])(c:ns.length<=6):DU (jn ns)=true:=by
 have a:=PW h b;unfold Df at a;rw[Wy h b]at a;simp only[FU,if_false]at a;unfold DU;rw[Wy h b,a,Qw]
 cases ns with
 | nil=>exact absurd rfl b
 | cons n ns=>
  simp only[Bool.false_or,KZ,Bu,AJ];exact⟨⟨by simp,c⟩,Fw.2 h⟩
theorem Uw{p:By}(a:(p.toList==[47])=true):Df p=[]:=by unfold Df;rw[a];rfl
def D5:LY->LY->List (LY)
 | _,[]=>[]
 | _,[_]=>[]
 | d,n::m::ns=>(d++[n])::D5 (d++[n]) (m::ns)
abbrev Gh:=List (LY×VS)
def MW(ρ : Int->Nat)(u:VS):Int:=if u.p.isSome=true then -1 else (ρ u.f:Int)
def vw(ρ : Int->Nat)(x:LY×VS):By×Int:=(jn x.1,MW ρ x.2)
def Gr(G:Gh)(ns:LY):Option VS:=(G.find? (fun x=>decide (x.1=ns))).map (·.2)
structure Gt(G:Gh):Prop where
 nms:∀x∈G,IX x.1
 ne:∀x∈G,x.1≠[]
 le:∀x∈G,x.1.length<=6
 nd:(G.map (·.1)).Nodup
 up:∀ns n u,(ns++[n],u)∈G->ns=[]\/∃v,(ns,v)∈G/\v.p.isSome=true
def GV(G:Gh):List (LY)->Int
 | []=>0
 | q::r=>match Gr G q with
  | none=>3
  | some u=>if u.p.isSome=true then GV G r else 4
theorem KE{G:Gh}{ns:LY}{u:VS}(h:Gr G ns=some u):(ns,u)∈G:=by
 unfold Gr at h
 cases hf:G.find? (fun x=>decide (x.1=ns)) with
 | none=>rw[hf]at h;cases h
 | some x=>
  rw[hf]at h;have b:=Er hf;have a:=FJ hf;simp at h a;rw[<-h,<-a];exact b
theorem QN{α β : Type}{G:List (α × β)}(h:(G.map (·.1)).Nodup){a : α}{u v : β}(g:(a,u)∈G)(i:(a,v)∈G):u=v:=by
 induction G with
 | nil=>cases g
 | cons x G ih=>
  rw[Br,Cv]at h;rcases AE.1 g with d|e
  ·rcases AE.1 i with b|c
   ·rw[<-d]at b;exact(Ev b).2.symm
   ·exact absurd (Ex (f:=(·.1)) c) (by rw[<-d]at h;exact h.1)
  ·rcases AE.1 i with b|c
   ·exact absurd (Ex (f:=(·.1)) e) (by rw[<-b]at h;exact h.1)
   ·exact ih h.2 e c
theorem K2{G:Gh}(h:(G.map (·.1)).Nodup){ns:LY}{u:VS}(a:(ns,u)∈G):Gr G ns=some u:=by
 cases ha:Gr G ns with
 | none=>
  unfold Gr at ha;rw[Ef,CR]at ha;exact absurd (by simp:decide ((ns,u).1=ns)=true) (ha _ a)
 | some v=>rw[QN h a (KE ha)]
theorem Uj{G:Gh}{ns:LY}(h:Gr G ns=none)(u:VS):(ns,u)∉G:=fun a=>by
 unfold Gr at h;rw[Ef,CR]at h;exact absurd (by simp:decide ((ns,u).1=ns)=true) (h _ a)
def Hk(ns:LY)(x:LY×VS):Bool:=decide (x.1.dropLast=ns)
theorem We{ns:LY}(h:ns≠[]):∃d n,ns=d++[n]:=⟨ns.dropLast,ns.getLast h,(List.dropLast_concat_getLast h).symm⟩
def Ie(G:Gh)(ns:LY)(es:LS):Prop:=∀n u,(n,u)∈es↔(ns++[n],u)∈G
theorem Tf(a:By):Hu a a=false:=by
 unfold Hu
 cases h:Op.bytesLess a.toList a.toList with
 | false=>rfl
 | true=>
  have:∀l:List UInt8,Op.bytesLess l l=false:=by
   intro l
   induction l with
   | nil=>rfl
   | cons c l ih=>simp[Op.bytesLess,ih]
  rw[this]at h;cases h
theorem Gm.nodup{es:LS}(h:Gm es):(es.map (·.1)).Nodup:=by
 unfold List.Nodup;rw[Bm];intro i j a c b e;have ab:j<es.length:=by simpa using c
 have aa:i<es.length:=by simpa using a
 rw[Cw,Cw]at e;have:=h i j es[i] es[j] b (Ac _) (Ac _);rw[e,Tf]at this;cases this
theorem ZfL{α : Type}{a b:List α}(c:a.Nodup)(d:b.Nodup)(h:∀x,x∈a↔x∈b):a.length=b.length:=((Cn c d).2 h).length_eq
theorem Xa{α β : Type}{G:List (α × β)}(h:(G.map (·.1)).Nodup):G.Nodup:=by
 induction G with
 | nil=>exact CC
 | cons x G ih=>
  rw[Br,Cv]at h;exact Cv.2 ⟨fun a=>h.1 (Ex (f:=(·.1)) a),ih h.2⟩
theorem Zhc{α β : Type}(f : α -> β){l:List α}(h:l.Nodup)(d:∀x∈l,∀y∈l,f x=f y->x=y):(l.map f).Nodup:=by
 induction l with
 | nil=>exact CC
 | cons a l ih=>
  rw[Cv]at h;rw[Br,Cv];refine⟨fun g=>?_,ih h.2 (fun x i y j=>d x (by simp[i]) y (by simp[j]))⟩;obtain⟨b,c,e⟩:=Au.1 g;have:=d b (by simp[c]) a (by simp) e;rw[this]at c;exact h.1 c
theorem Ie.length{G:Gh}{ns:LY}{es:LS}(b:Gt G)(l:Gm es)(h:Ie G ns es):es.length=G.countP (Hk ns):=by
 have j:(es.map (fun x=>(ns++[x.1],x.2))).Nodup:=Zhc _ (Xa l.nodup) (fun x _ y _ e=>by
  obtain⟨f,i⟩:=Ev e;have g:x.1=y.1:=by simpa using f
  exact FP g i)
 have k:(G.filter (Hk ns)).Nodup:=(Xa b.nd).filter _;rw[List.countP_eq_length_filter,<-ZfL j k,AK];intro x;rw[Au,EJ];constructor
 ·rintro⟨y,m,rfl⟩;exact⟨(h y.1 y.2).1 m,by simp[Hk]⟩
 ·rintro⟨c,a⟩;obtain⟨d,n,e⟩:=We (b.ne x c);unfold Hk at a;rw[e,CX,AJ]at a;obtain rfl:=a;refine⟨(n,x.2),(h n x.2).2 (by rw[<-e];exact c),by rw[<-e]⟩
def qB(ns:LY)(x:LY×VS):Bool:=decide (ns.length<x.1.length/\ns <+: x.1)
def qP(ns:LY)(x:LY×VS):Bool:=decide (ns <+: x.1)
theorem RM{α : Type}(p q : α -> Bool):∀(l:List α),(∀x∈l,¬(p x=true/\q x=true))->l.countP (fun x=>p x || q x)=l.countP p+l.countP q
 | [],_=>rfl
 | a::l,h=>by
  rw[CU,CU,CU,RM p q l (fun x b=>h x (by simp[b]))];have:=h a (by simp)
  cases hp:p a<;>cases hq:q a<;>simp[hp,hq]at this ⊢ <;> omega
theorem Ot{α : Type}{p q : α -> Bool}{l:List α}(h:∀x∈l,p x=q x):l.countP p=l.countP q:=List.countP_congr (fun x a=>by rw[h x a])
def Ks(G:Gh)(r:LY×VS->Bool)(ns:LY)(ks:LY):Nat:=G.countP (fun x=>r x && ks.any (fun n=>qP (ns++[n]) x))
theorem Zo{ns:LY}{n m:By}{x:LY}(a:ns++[n] <+: x)(b:ns++[m] <+: x):n=m:=by
 obtain⟨r,rfl⟩:=a;obtain⟨s,e⟩:=b;rw[Ar,Ar]at e;have:=Ey e;simp at this;exact this.1.symm
theorem ZmC(G:Gh)(r:LY×VS->Bool)(ns:LY)(c:LY)(n:By)(f:n∉c):
  Ks G r ns (c++[n])=Ks G r ns c+G.countP (fun x=>r x && qP (ns++[n]) x):=by
 unfold Ks;rw[<-RM]
 ·refine Ot (fun x _=>?_);rw[List.any_append]
  cases r x<;>simp
 ·rintro x _ ⟨d,e⟩;simp only[Bu,List.any_eq_true]at d e;obtain⟨_,m,g,b⟩:=d;have a:=e.2;unfold qP at b a;rw[AJ]at b a;rw[Zo a b]at f;exact f g
theorem ZkF{G:Gh}(a:(G.map (·.1)).Nodup)(r:LY×VS->Bool){ns:LY}{u:VS}(h:(ns,u)∈G):G.countP (fun x=>r x && decide (x.1=ns))=if r (ns,u)=true then 1 else 0:=by
 induction G with
 | nil=>cases h
 | cons y G ih=>
  rw[Br,Cv]at a;rw[CU];rcases AE.1 h with rfl|h
  ·have:G.countP (fun x=>r x && decide (x.1=ns))=0:=by
    rw[C9];intro x b;have:x.1≠ns:=fun e=>a.1 (by rw[<-e];exact Ex (f:=(·.1)) b)
    simp[this]
   rw[this]
   cases hr:r (ns,u)<;>simp
  ·rw[ih a.2 h];have:y.1≠ns:=fun e=>a.1 (by rw[e];exact Ex (f:=(·.1)) h)
   simp[this]
theorem Zmz{G:Gh}(f:(G.map (·.1)).Nodup)(r:LY×VS->Bool){ns:LY}{u:VS}(h:(ns,u)∈G):
  G.countP (fun x=>r x && qP ns x)=(if r (ns,u)=true then 1 else 0)+G.countP (fun x=>r x && qB ns x):=by
 rw[<-ZkF f r h,<-RM]
 ·refine Ot (fun x _=>?_);have:qP ns x=(decide (x.1=ns) || qB ns x):=by
   unfold qP qB;rw[EK,FN,AJ,AJ,AJ];constructor
   ·intro a;rcases AO ns.length x.1.length with b|b
    ·exact .inr ⟨b,a⟩
    ·exact .inl (a.eq_of_length_le b).symm
   ·rintro(e|⟨_,a⟩)
    ·rw[e];exact List.prefix_refl _
    ·exact a
  rw[this]
  cases r x<;>simp
 ·rintro x _ ⟨c,d⟩;simp only[Bu,AJ,qB]at c d;rw[c.2]at d;omega
theorem Gt.pre{G:Gh}(h:Gt G):∀(k:Nat) (x:LY×VS),x∈G->∀ns,ns≠[]->ns <+: x.1->x.1.length=ns.length+k->0<k->∃v,(ns,v)∈G/\v.p.isSome=true:=by
 intro k
 induction k with
 | zero=>intro _ _ _ _ _ _ h0;omega
 | succ k ih=>
  intro x j ns f g a _;obtain⟨d,n,e⟩:=We (h.ne x j);have p:(d++[n],x.2)∈G:=by rw[<-e];exact j
  have b:ns <+: d:=by
   rw[e]at g a;exact List.prefix_of_prefix_length_le g (List.prefix_append d [n]) (by simp at a;omega)
  have l:d≠[]:=fun c=>by rw[c]at b;exact f (List.prefix_nil.1 b)
  rcases h.up d n x.2 p with c|⟨v,i,m⟩
  ·exact absurd c l
  ·have o:d.length=ns.length+k:=by rw[e]at a;simp at a;omega
   cases k with
   | zero=>exact⟨v,by rw[b.eq_of_length_le (by omega)];exact i,m⟩
   | succ k=>exact ih (d,v) i ns f b o (by omega)
theorem Gt.pre'{G:Gh}(h:Gt G){x:LY×VS}(c:x∈G){ns:LY}(b:ns≠[])(a:qB ns x=true):∃v,(ns,v)∈G/\v.p.isSome=true:=by
 unfold qB at a;rw[AJ]at a;exact h.pre (x.1.length-ns.length) x c ns b a.2 (by omega) (by omega)
theorem Wl{G:Gh}(h:Gt G)(r:LY×VS->Bool){ns:LY}{u:VS}(c:(ns,u)∈G)(d:u.p=none):G.countP (fun x=>r x && qB ns x)=0:=by
 rw[C9];intro x f a;rw[Bu]at a;obtain⟨v,e,b⟩:=h.pre' f (h.ne _ c) a.2;rw[QN h.nd e c,d]at b;cases b
def Kl(es:LS):LY:=es.map (·.1)
theorem ZF{G:Gh}(h:Gt G)(r:LY×VS->Bool){ns:LY}{es:LS}(g:Ie G ns es):Ks G r ns (Kl es)=G.countP (fun x=>r x && qB ns x):=by
 unfold Ks;refine Ot (fun x f=>?_);have:(Kl es).any (fun n=>qP (ns++[n]) x)=qB ns x:=by
  rw[EK,List.any_eq_true];unfold qB qP;constructor
  ·rintro⟨n,hn,c⟩;rw[AJ]at c ⊢;have a:=c.length_le;simp at a;exact⟨by omega,(List.prefix_append ns [n]).trans c⟩
  ·intro d;rw[AJ]at d;obtain⟨a,t,b⟩:=d
   cases t with
   | nil=>rw[<-b]at a;simp at a
   | cons n t=>
    refine⟨n,?_,by rw[AJ,<-b];exact⟨t,by simp⟩⟩;have:∃u,(ns++[n],u)∈G:=by
     by_cases e:t=[]
     ·subst e;exact⟨x.2,by rw[b];exact f⟩
     ·obtain⟨v,j,_⟩:=h.pre' f (ns:=ns++[n]) (by simp) (by
       unfold qB;rw[AJ,<-b];refine⟨?_,⟨t,by simp⟩⟩
       cases t with
       | nil=>exact absurd rfl e
       | cons m t=>simp)
      exact⟨v,j⟩
    obtain⟨u,i⟩:=this;exact Au.2 ⟨(n,u),(g n u).2 i,rfl⟩
 rw[this]
def cD(G:Gh)(ns:LY):Nat:=1+G.countP (fun x=>x.2.p.isSome && qB ns x)
def cE(G:Gh)(ns:LY):Nat:=G.countP (fun x=>true && qB ns x)
theorem ZlO(es:LS)(k:Nat)(h:k<es.length):Kl (es.take (k+1))=Kl (es.take k)++[es[k].1]:=by
 unfold Kl;have:es.take (k+1)=es.take k++[es[k]]:=by rw[BZ,Ac h];rfl
 rw[this,Bp];rfl
theorem XV{es:LS}(f:Gm es)(k:Nat)(h:k<es.length):es[k].1∉Kl (es.take k):=fun a=>by
 unfold Kl at a;obtain⟨y,g,e⟩:=Au.1 a;obtain⟨j,c,b⟩:=List.getElem_of_mem g;have d:j<k:=by simp at c;omega
 have:=f j k y es[k] d (by rw[<-b,FZ];exact Ac _) (Ac h);rw[e,Tf]at this;cases this
theorem TH{G:Gh}(a:Gt G)(r:LY×VS->Bool){ns:LY}{es:LS}(c:Gm es)(b:Ie G ns es)(k:Nat)(h:k<es.length):
  Ks G r ns (Kl (es.take (k+1)))=Ks G r ns (Kl (es.take k))+((if r (ns++[es[k].1],es[k].2)=true then 1 else 0)+G.countP (fun x=>r x && qB (ns++[es[k].1]) x)):=by
 rw[ZlO es k h,ZmC _ _ _ _ _ (XV c k h),Zmz a.nd r ((b es[k].1 es[k].2).1 (EA h))]
theorem Yw{G:Gh}(h:Gt G):cE G []=G.length:=by
 unfold cE;refine List.countP_eq_length.2 (fun x b=>?_);have:=h.ne x b;simp only[qB,Bool.true_and,AJ];exact⟨by cases hx1:x.1 with
  | nil=>exact absurd hx1 this
  | cons a l=>simp,List.nil_prefix⟩
theorem Px{G:Gh}(h:Gt G):cD G []=1+G.countP (fun x=>x.2.p.isSome):=by
 unfold cD
 congr 1
 refine Ot (fun x b=>?_);have:=h.ne x b;have:qB [] x=true:=by
  simp only[qB,AJ];exact⟨by cases hx1:x.1 with
   | nil=>exact absurd hx1 this
   | cons a l=>simp,List.nil_prefix⟩
 rw[this,Bool.and_true]
structure Np(I:LF)(ρ : Int->Nat)(L:List (By×Int))(F:LY):Prop where
 nd:(I.map (·.1)).Nodup
 inj:∀x∈I,∀y∈I,ρ x.1 = ρ y.1->x.1=y.1
 lt:∀x∈I,ρ x.1<F.length
 live:∀x∈I,0<L.countP (OX (ρ x.1))
 all:∀f:Nat,f<F.length->0<L.countP (OX f)->∃x∈I,ρ x.1=f
 size:∀x∈I,x.2.l=(F[ρ x.1]?.getD ⟨#[]⟩).size
 links:∀x∈I,x.2.f=(L.countP (OX (ρ x.1)):Nat)
section
open Go.RowKit Go.Shelf
attribute [local go_sem] Oper.semAt_some
abbrev BH:=@wpAnyIn_ready
abbrev BJ:=@callsIn_of_wp_marks
abbrev Cb:=@run_takeDeferred
abbrev Cf:=@World.putObj_heap_other
abbrev Cp:=@World.alloc_heap_new
abbrev Cy:=@KeepsOthers.setCell
abbrev C5:=@wpIn_rangeFunc_ownF
abbrev Ec:=@CallsIn.inRound
abbrev EG:=@OwnFrom.and
abbrev EO:=@KeepsOthers.alloc
abbrev ER:=@enters_of
abbrev E4:=@belowK_b
abbrev Fp:=@Oper.semAt_plain
abbrev Fy:=@ownFrom_below
abbrev FD:=@wpIn_rangeFunc_ownH
abbrev FF:=@grownBy_putObj'
abbrev FM:=@Boxed.new
theorem Oj(w:World)(o:Obj):w.grownBy (w.alloc o) none:=⟨rfl,rfl,rfl,by simp,fun k a _=>BO w o k a⟩
theorem Xg{W a:World}(h:Bw W a):KeepsOthers W a:=⟨h.size,fun k _o b _=>(h.block k (Ak.1 b).1).trans b⟩
theorem Nj(F:Fence)(n:Nat)(L:F.fn 222)(P:F.round=none)(hn:1<=n)(l t h A ho g C:Nat){α : Type}(a : α -> By×VS)(es:List α)(ab:es.length<=10000)(s:g<h)(J y:List α -> World->Prop)
  (W:World) (E:AbidesFrom W.heap.size J)
  (K:∀pre x W,J pre W->pre.length<es.length->YieldAt F (n-1) Tryz.prog l #[.string (a x).1,.agg #[.pointer (a x).2.p,.int .i64 (a x).2.f]] W fun e b=>
   (e = .returned (.bool true)/\J (pre++[x]) b/\Below h W b)\/(e = .returned (.bool false)/\y (pre++[x]) b))
  (aa:W.cell? ⟨t,0,none⟩=some (.pointer (some ⟨A,ho,none⟩))) (hc:W.cell? ⟨A,ho,none⟩=some (.slice (some ⟨g,0,none⟩) es.length C))
  (d:∀j u,(Dq (es.map a))[j]?=some u->W.cell? ⟨g,j,none⟩=some u) (O:h<=W.heap.size) (D:J [] W):
  CallsIn F n Tryz.prog 222 #[.func (.yield l) #[] #[],.pointer (some ⟨t,0,none⟩)] W fun e b=>(∃v,e = .returned v)/\
   ((∃ys,ys=es/\J ys b)\/(∃pre,pre <+: es/\y pre b)):=by
 refine CD Tryz.func222 rfl L ?_ P;simp only[Tryz.ntmps222,AR,Aq,AS,Nat.reduceAdd,Nat.reduceSub,AV,AU,A3,AY,AA,AI]
 gi_wp2
 gi_loopw [10] (fun i wr=>∃k:Nat,k<=es.length/\i = .int .i64 k/\J (es.take k) wr/\Below h W wr)
  (fun i _=>es.length-(intOf i).toNat)
 case atStart=>exact⟨0,Aw _,rfl,D,Al _ _⟩
 case round=>
  obtain⟨k,hk,rfl,m,c⟩:=hrel;by_cases N:k<es.length
  ·obtain⟨x,f⟩:∃x,es[k]?=some x:=⟨_,Ac N⟩;have w:Hid (es.take (k+1)=es.take k++[x]):=by show _=_;rw[BZ,f];rfl
   have q:=QL (es.map a) k (a x) (by rw[Bv,f];rfl);have q0:=(c.cell (p:=⟨g,k*3,none⟩) s).trans (d _ _ q.1);have q1:=(c.cell (p:=⟨g,k*3+1,none⟩) s).trans (d _ _ q.2.1);have q2:=(c.cell (p:=⟨g,k*3+2,none⟩) s).trans (d _ _ q.2.2);have B:(es.take k).length<es.length:=by rw[Am];omega
   have z:∀o,J (es.take k) (wr.alloc o):=fun o=>E _ _ _ none m (Oj wr o) (fun r e=>by cases e)
   obtain⟨fn,tmps,assign,body,hy,I⟩:=K _ x (wr.alloc (.cells #[.string (a x).1,.pointer (a x).2.p,.int .i64 (a x).2.f] 310)) (z _) B;have HX:=Db f;clear q f B z d
   gi_wp2
   refine I.mono ?_;rintro e W3 (⟨rfl,G,M⟩|⟨rfl,H⟩)
   ·gi_wp2
    go_roundw
    case rel=>exact⟨k+1,by omega,by go_num,by rw[Da w];exact G,(c.alloc (Ag O c.size) _).trans M⟩
    case measure=>simp[intOf];omega
   ·gi_wp2
    refine Ax (Ei rfl _ _ _) rfl ?_;exact⟨⟨_,rfl⟩,.inr ⟨_,by rw[<-Da w];exact Fs _ _,H⟩⟩
  ·obtain rfl:k=es.length:=by omega
   gi_wp2
   go_end0
   exact⟨⟨_,rfl⟩,.inl ⟨_,rfl,by rw[CT]at m;exact m⟩⟩
theorem T9(F:Fence)(n:Nat)(g:F.fn 222)(h:F.round=none)(l a b ho:Nat){α : Type}(J:List α -> World->Prop)(W:World)
  (aa:W.cell? ⟨a,0,none⟩=some (.pointer (some ⟨b,ho,none⟩))) (hc:W.cell? ⟨b,ho,none⟩=some (.slice none 0 0)) (d:J [] W):
  CallsIn F n Tryz.prog 222 #[.func (.yield l) #[] #[],.pointer (some ⟨a,0,none⟩)] W fun e c=>(∃v,e = .returned v)/\J [] c:=by
 refine CD Tryz.func222 rfl g ?_ h;simp only[Tryz.ntmps222,AR,Aq,AS,Nat.reduceAdd,Nat.reduceSub,AV,AU,A3,AY,AA,AI]
 gi_wp2
 gi_loopw [10] (fun i wr=>i = .int .i64 0/\J [] wr) (fun _ _=>0)
 case atStart=>exact⟨rfl,d⟩
 case round=>
  obtain⟨rfl,f⟩:=hrel
  gi_wp2
  go_end0
  exact⟨⟨_,rfl⟩,f⟩
theorem Pt(F:Fence)(n:Nat)(b:F.fn 179)(c:F.round=none)(a:OA)(w:World):
  CallsIn F n Tryz.prog 179 #[.pointer a] w fun e w'=>e = .returned (.func (.func 222) #[] #[.pointer (some ⟨w.heap.size,0,none⟩)])/\w'=w.alloc (.cells #[.pointer a] 307):=by
 refine CD Tryz.func179 rfl b ?_ c;simp only[Tryz.ntmps179,AR,Aq,AS,Nat.reduceAdd,Nat.reduceSub,AV,AU,A3,AY,AA,AI]
 gi_wp2
 go_ret;exact⟨rfl,rfl⟩
theorem Wj(F:Fence)(n:Nat)(r:F.fn 222)(s:F.round=none)(L:1<=n)(a h b ho:Nat)(v:Value){α : Type}(c : α -> By×VS)(es:List α)(I:es.length<=10000)(w:World)(A:a<w.heap.size)(G:b<w.heap.size)(M:h<=w.heap.size)
  (z:w.cell? ⟨a,0,none⟩=some (.pointer (some ⟨b,ho,none⟩))) (H:w.cell? ⟨b,ho,none⟩=some v) (C:Sl w 310 3 v es.length (Dq (es.map c))) (N:∀g,v.ownBlock=some g->g<h):
  SeqStopsK F n Tryz.prog 222 #[.pointer (some ⟨a,0,none⟩)] (fun x : α => #[.string (c x).1,.agg #[.pointer (c x).2.p,.int .i64 (c x).2.f]]) (Below h) (fun P=>P=es) (fun O=>O <+: es) es.length w:=fun l J t W d B _ E k=>by
 have m:=(d.cell (p:=⟨a,0,none⟩) A).trans z;have q:=(d.cell (p:=⟨b,ho,none⟩) G).trans H;rcases C.2 with⟨rfl,i⟩|⟨g,y,R,rfl,o,_,_,_,D⟩
 ·obtain rfl:es=[]:=Ay i;exact(T9 F n r s l a b ho J W m q k).mono fun e W' ⟨i,K⟩=>⟨i,.inl ⟨_,rfl,K⟩⟩
 ·exact Nj F n r s L l a h b ho g y c es I (N g rfl) J t W B E m q (fun j u f=>by
   rw[d.cell (p:=⟨g,j,none⟩) o.lt,o.cell];rw[<-D,Ao]at f
   split at f
   ·exact f
   ·cases f) (Ag M d.size) k
theorem Nm(F:Fence)(n:Nat)(L:F.fn 204)(P:F.round=none)(hn:1<=n)(l t h A ho g C:Nat){α : Type}(a : α -> Int×VF)(es:List α)(ab:es.length<=10000)(s:g<h)(J y:List α -> World->Prop)
  (W:World) (E:AbidesFrom W.heap.size J)
  (K:∀pre x W,J pre W->pre.length<es.length->YieldAt F (n-1) Tryz.prog l #[.int .i64 (a x).1,.agg #[.slice (a x).2.a (a x).2.l (a x).2.c,.int .i64 (a x).2.f]] W fun e b=>
   (e = .returned (.bool true)/\J (pre++[x]) b/\Below h W b)\/(e = .returned (.bool false)/\y (pre++[x]) b))
  (aa:W.cell? ⟨t,0,none⟩=some (.pointer (some ⟨A,ho,none⟩))) (hc:W.cell? ⟨A,ho,none⟩=some (.slice (some ⟨g,0,none⟩) es.length C))
  (d:∀j u,(Du (es.map a))[j]?=some u->W.cell? ⟨g,j,none⟩=some u) (O:h<=W.heap.size) (D:J [] W):
  CallsIn F n Tryz.prog 204 #[.func (.yield l) #[] #[],.pointer (some ⟨t,0,none⟩)] W fun e b=>(∃v,e = .returned v)/\
   ((∃ys,ys=es/\J ys b)\/(∃pre,pre <+: es/\y pre b)):=by
 refine CD Tryz.func204 rfl L ?_ P;simp only[Tryz.ntmps204,AR,Aq,AS,Nat.reduceAdd,Nat.reduceSub,AV,AU,A3,AY,AA,AI]
 gi_wp2
 gi_loopw [10] (fun i wr=>∃k:Nat,k<=es.length/\i = .int .i64 k/\J (es.take k) wr/\Below h W wr)
  (fun i _=>es.length-(intOf i).toNat)
 case atStart=>exact⟨0,Aw _,rfl,D,Al _ _⟩
 case round=>
  obtain⟨k,hk,rfl,m,c⟩:=hrel;by_cases N:k<es.length
  ·obtain⟨x,f⟩:∃x,es[k]?=some x:=⟨_,Ac N⟩;have w:Hid (es.take (k+1)=es.take k++[x]):=by show _=_;rw[BZ,f];rfl
   have q:=QK (es.map a) k (a x) (by rw[Bv,f];rfl);have q0:=(c.cell (p:=⟨g,k*3,none⟩) s).trans (d _ _ q.1);have q1:=(c.cell (p:=⟨g,k*3+1,none⟩) s).trans (d _ _ q.2.1);have q2:=(c.cell (p:=⟨g,k*3+2,none⟩) s).trans (d _ _ q.2.2);have B:(es.take k).length<es.length:=by rw[Am];omega
   have z:∀o,J (es.take k) (wr.alloc o):=fun o=>E _ _ _ none m (Oj wr o) (fun r e=>by cases e)
   obtain⟨fn,tmps,assign,body,hy,I⟩:=K _ x (wr.alloc (.cells #[.int .i64 (a x).1,.slice (a x).2.a (a x).2.l (a x).2.c,.int .i64 (a x).2.f] 293)) (z _) B;have HX:=Db f;clear q f B z d
   gi_wp2
   refine I.mono ?_;rintro e W3 (⟨rfl,G,M⟩|⟨rfl,H⟩)
   ·gi_wp2
    go_roundw
    case rel=>exact⟨k+1,by omega,by go_num,by rw[Da w];exact G,(c.alloc (Ag O c.size) _).trans M⟩
    case measure=>simp[intOf];omega
   ·gi_wp2
    refine Ax (Ei rfl _ _ _) rfl ?_;exact⟨⟨_,rfl⟩,.inr ⟨_,by rw[<-Da w];exact Fs _ _,H⟩⟩
  ·obtain rfl:k=es.length:=by omega
   gi_wp2
   go_end0
   exact⟨⟨_,rfl⟩,.inl ⟨_,rfl,by rw[CT]at m;exact m⟩⟩
theorem ZmS(F:Fence)(n:Nat)(g:F.fn 204)(h:F.round=none)(l a b ho:Nat){α : Type}(J:List α -> World->Prop)(W:World)
  (aa:W.cell? ⟨a,0,none⟩=some (.pointer (some ⟨b,ho,none⟩))) (hc:W.cell? ⟨b,ho,none⟩=some (.slice none 0 0)) (d:J [] W):
  CallsIn F n Tryz.prog 204 #[.func (.yield l) #[] #[],.pointer (some ⟨a,0,none⟩)] W fun e c=>(∃v,e = .returned v)/\J [] c:=by
 refine CD Tryz.func204 rfl g ?_ h;simp only[Tryz.ntmps204,AR,Aq,AS,Nat.reduceAdd,Nat.reduceSub,AV,AU,A3,AY,AA,AI]
 gi_wp2
 gi_loopw [10] (fun i wr=>i = .int .i64 0/\J [] wr) (fun _ _=>0)
 case atStart=>exact⟨rfl,d⟩
 case round=>
  obtain⟨rfl,f⟩:=hrel
  gi_wp2
  go_end0
  exact⟨⟨_,rfl⟩,f⟩
theorem SP(F:Fence)(n:Nat)(b:F.fn 145)(c:F.round=none)(a:OA)(w:World):
  CallsIn F n Tryz.prog 145 #[.pointer a] w fun e w'=>e = .returned (.func (.func 204) #[] #[.pointer (some ⟨w.heap.size,0,none⟩)])/\w'=w.alloc (.cells #[.pointer a] 290):=by
 refine CD Tryz.func145 rfl b ?_ c;simp only[Tryz.ntmps145,AR,Aq,AS,Nat.reduceAdd,Nat.reduceSub,AV,AU,A3,AY,AA,AI]
 gi_wp2
 go_ret;exact⟨rfl,rfl⟩
theorem Wi(F:Fence)(n:Nat)(r:F.fn 204)(s:F.round=none)(L:1<=n)(b h c ho:Nat)(v:Value){α : Type}(a : α -> Int×VF)(es:List α)(I:es.length<=10000)(w:World)(A:b<w.heap.size)(G:c<w.heap.size)(M:h<=w.heap.size)
  (z:w.cell? ⟨b,0,none⟩=some (.pointer (some ⟨c,ho,none⟩))) (H:w.cell? ⟨c,ho,none⟩=some v) (C:Sl w 293 3 v es.length (Du (es.map a))) (N:∀g,v.ownBlock=some g->g<h):
  SeqStopsK F n Tryz.prog 204 #[.pointer (some ⟨b,0,none⟩)] (fun x : α => #[.int .i64 (a x).1,.agg #[.slice (a x).2.a (a x).2.l (a x).2.c,.int .i64 (a x).2.f]]) (Below h) (fun P=>P=es) (fun O=>O <+: es) es.length w:=fun l J t W d B _ E k=>by
 have m:=(d.cell (p:=⟨b,0,none⟩) A).trans z;have q:=(d.cell (p:=⟨c,ho,none⟩) G).trans H;rcases C.2 with⟨rfl,i⟩|⟨g,y,R,rfl,o,_,_,_,D⟩
 ·obtain rfl:es=[]:=Ay i;exact(ZmS F n r s l b c ho J W m q k).mono fun e W' ⟨i,K⟩=>⟨i,.inl ⟨_,rfl,K⟩⟩
 ·exact Nm F n r s L l b h c ho g y a es I (N g rfl) J t W B E m q (fun j u f=>by
   rw[d.cell (p:=⟨g,j,none⟩) o.lt,o.cell];rw[<-D,Ao]at f
   split at f
   ·exact f
   ·cases f) (Ag M d.size) k
end
end Go.Proofs.YtaieidcohdhgpaaGreatDoor
