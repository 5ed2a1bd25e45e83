/- Told. -/
import Derived.Test.YtaieidcohdhgpaaGreatDoorProg
import Derived.PartsItems
import Derived.CheckFast
import Derived.HeadItems
import Derived.WalkLawsBesides
import Derived.WalkSpells
import Derived.BigQuiet
import Derived.Handy
import Derived.Lib.Overlaps
import Derived.Deep.RegionLaw
import Derived.Lib.AppendZerosOnto
namespace Go.Proofs.YtaieidcohdhgpaaGreatDoor
set_option maxHeartbeats 40000000
set_option maxRecDepth 100000
open Tryz
open Go.RowKit
abbrev Aa:=@Nat.le_refl
abbrev Ab:=@List.length_append
abbrev Ac:=@List.getElem?_eq_getElem
abbrev Ad:=@List.mem_singleton
abbrev Ae:=@List.getElem?_eq_some_iff
abbrev Af:=@Nat.le_trans
abbrev Ag:=@List.take_of_length_le
abbrev Ah:=@ByteArray.size_extract
abbrev Ai:=@ByteArray.size_append
abbrev Aj:=@Array.getElem?_eq_some_iff
abbrev Ak:=@Below.refl
abbrev Al:=@List.length_cons
abbrev Am:=@World.block_lt_of_cell?
abbrev An:=@List.length_take
abbrev Ao:=@List.getElem?_take
abbrev Ap:=@bodyPost_ret
abbrev Aq:=@List.mem_append
abbrev Ar:=@List.mem_of_getElem?
abbrev As:=@List.mem_map
abbrev Au:=@Nat.zero_le
abbrev Av:=@Nat.zero_add
abbrev Aw:=@Below.heap_setCell
abbrev Ax:=@List.append_assoc
abbrev Ay:=@World.cell?_of_block
abbrev Az:=@List.length_drop
abbrev AA:=@List.eq_nil_of_length_eq_zero
abbrev AB:=@List.getElem?_set_ne
abbrev AC:=@List.mem_cons
abbrev AD:=@List.nil_append
abbrev AF:=@List.mem_cons_of_mem
abbrev AG:=@Array.length_toList
abbrev AH:=@decide_eq_true_eq
abbrev AI:=@Addr.add_lit
abbrev AJ:=@List.nodup_iff_pairwise_ne
abbrev AK:=@List.length_nil
abbrev AL:=@List.length_map
abbrev AM:=@List.size_toArray
abbrev AN:=@List.cons_append
abbrev AP:=@Array.replicate_zero
abbrev AQ:=@Array.replicate_succ
abbrev AS:=@List.getElem?_append_right
abbrev AT:=@List.append_toArray
abbrev AU:=@List.length_range
abbrev AV:=@IntKind.wrap_i64
abbrev AW:=@List.getElem?_append_left
abbrev AX:=@wp_region_lit
abbrev AY:=@Nat.lt_of_lt_of_le
abbrev AZ:=@List.push_toArray
abbrev A1:=@List.flatMap_cons
abbrev A2:=@callsIn_wide
abbrev A3:=@List.take_append_of_le_length
abbrev A4:=@List.mem_range
abbrev A6:=@Bool.and_eq_true
abbrev A7:=@Array.getElem?_setIfInBounds
abbrev A8:=@WideShapes.bytes_inj
abbrev A9:=@Prod.mk.injEq
abbrev Ba:=@List.mem_cons_self
abbrev Bc:=@List.getElem?_map
abbrev Be:=@List.length_singleton
abbrev Bf:=@List.getElem?_drop
abbrev Bh:=@Nat.lt_or_ge
abbrev Bj:=@List.length_replicate
abbrev Bk:=@List.pairwise_iff_getElem
abbrev Bl:=@List.pairwise_map
abbrev Bm:=@beq_eq_false_iff_ne
abbrev Bn:=@List.mem_append_left
abbrev Bp:=@Int.toNat_natCast
abbrev Bq:=@List.map_append
abbrev Bu:=@Value.slice.injEq
abbrev Bv:=@List.mem_of_mem_take
abbrev Bz:=@wpList_make_full
abbrev BA:=@List.getElem?_eq_none
abbrev BB:=@Nat.min_eq_left
abbrev BC:=@List.getElem?_set_self
abbrev BD:=@setRow_other
abbrev BE:=@wpIn_wide
abbrev BF:=@List.not_mem_nil
abbrev BG:=@List.mem_of_mem_drop
abbrev BH:=@Below.heap_alloc
abbrev BI:=@List.map_cons
abbrev BK:=@List.take_add_one
abbrev BM:=@List.take_replicate
abbrev BN:=@List.drop_eq_getElem_cons
abbrev BO:=@of_decide_eq_true
abbrev BQ:=@UInt8.toNat_ofNat'
abbrev BR:=@Option.some.inj
abbrev BS:=@Nat.mul_one
abbrev BT:=@info_parts
abbrev BU:=@List.getElem?_of_mem
abbrev BV:=@List.drop_zero
abbrev BW:=@setRow_heap
abbrev BX:=@wpList_store_row
abbrev BY:=@List.take_left'
abbrev BZ:=@List.mem_append_right
abbrev B2:=@List.countP_le_length
abbrev B3:=@List.take_take
abbrev B8:=@List.drop_eq_nil_of_le
abbrev Ca:=@List.take_append
abbrev Cc:=@Int.tmod_eq_emod_of_nonneg
abbrev Cd:=@List.getElem?_range
abbrev Ce:=@List.length_set
abbrev Cf:=@List.append_nil
abbrev Cg:=@Result.andThen_ok
abbrev Ch:=@List.nodup_append
abbrev Ci:=@List.map_map
abbrev Cj:=@Nat.eq_zero_or_pos
abbrev Ck:=@World.cell?_setCell_same
abbrev Cm:=@decide_eq_false
abbrev Cn:=@Sem.run_bind
abbrev Co:=@List.take_append_drop
abbrev Cp:=@List.range_succ
abbrev Cq:=@List.map_congr_left
abbrev Cr:=@decide_eq_true
abbrev Cs:=@List.take_zero
abbrev Ct:=@List.all_eq_true
abbrev Cu:=@congrArg
abbrev Cv:=@List.perm_ext_iff_of_nodup
abbrev Cw:=@List.nodup_cons
abbrev Cy:=@List.take_length
abbrev Cz:=@List.getElem_map
abbrev CB:=@Nat.lt_trichotomy
abbrev CC:=@Nat.le_of_lt
abbrev CD:=@List.mem_iff_getElem?
abbrev CE:=@List.countP_singleton
abbrev CF:=@Array.getElem?_toList
abbrev CG:=@List.nodup_nil
abbrev CH:=@callsIn_of_wp
abbrev CJ:=@List.take_length_add_append
abbrev CK:=@List.drop_length_add_append
abbrev CL:=@List.take_succ_eq_append_getElem
abbrev CN:=@List.drop_of_length_le
abbrev CP:=@List.drop_replicate
abbrev CQ:=@heap_alloc_new
abbrev CR:=@World.cell?_setCell_other
abbrev CS:=@List.countP_append
abbrev CT:=@World.cell?_alloc_at
abbrev CU:=@List.mem_iff_getElem
abbrev CV:=@List.dropLast_concat
abbrev CW:=@List.pairwise_singleton
abbrev CX:=@List.getElem?_cons_succ
abbrev CY:=@List.map_nil
abbrev C5:=@Nat.min_def
abbrev C6:=@List.drop_succ_cons
abbrev C7:=@List.attach_map_subtype_val
abbrev C8:=@World.frozen?_of_block
abbrev C9:=@Nat.min_eq_right
abbrev Ea:=@List.getElem_mem
abbrev Eb:=@results_none
abbrev Ec:=@Nat.pow_succ
abbrev Ee:=@Nat.le_of_eq
abbrev Ef:=@Nat.add_zero
abbrev Eg:=@List.find?_eq_none
abbrev Eh:=@size_zeroCells
abbrev Ei:=@run_underlying
abbrev Ej:=@List.mem_of_find?_eq_some
abbrev El:=@wpList_nil
abbrev Em:=@Option.some.injEq
abbrev Eo:=@Nat.not_lt_zero
abbrev Ep:=@List.ext_getElem?
abbrev Er:=@List.drop_left'
abbrev Eu:=@results_tmp
abbrev Ev:=@Prod.mk.inj
abbrev Ew:=@List.mem_map_of_mem
abbrev Ex:=@List.countP_eq_zero
abbrev Ey:=@List.append_cancel_left
abbrev Ez:=@ByteArray.toList_eq
abbrev EA:=@Array.toList_append
abbrev EC:=@List.mem_flatMap
abbrev ED:=@List.drop_append_of_le_length
abbrev EE:=@List.countP_cons
abbrev EF:=@beq_iff_eq
abbrev EG:=@List.drop_left
abbrev EH:=@Code.wpIn_mono
abbrev EI:=@Option.map_eq_none_iff
abbrev EJ:=@grownCap_le_maxLen
abbrev EL:=@Nat.le_succ
abbrev EM:=@List.set_append_right
abbrev EN:=@List.mem_filter
abbrev EO:=@Bool.eq_iff_iff
abbrev EP:=@Nat.add_assoc
abbrev EQ:=@Array.size_append
abbrev ER:=@toList_madeCells_one
abbrev ES:=@List.take_left
abbrev EU:=@Array.getElem?_eq_getElem
abbrev EV:=@Nat.mod_eq_of_lt
abbrev EW:=@Nat.le_add_right
abbrev EX:=@List.flatMap_map
abbrev EY:=@List.flatMap_def
abbrev EZ:=@run_firstCells_some
abbrev E0:=@Nat.mul_le_mul_left
abbrev E3:=@Nat.add_mul
abbrev E4:=@List.take_succ_cons
abbrev E5:=@wpList_plain
abbrev E6:=@Sem.run_pure
abbrev E8:=@Option.isSome_iff_exists
abbrev E9:=@Nat.sub_zero
abbrev Fa:=@Nat.add_comm
abbrev Fb:=@List.Perm.eq_of_pairwise
abbrev Fd:=@Option.toList_some
abbrev Fe:=@Option.map_some
abbrev Ff:=@Nat.add_sub_cancel_left
abbrev Fg:=@List.getElem?_replicate
abbrev Fh:=@Int.eq_ofNat_of_zero_le
abbrev Fi:=@Option.map_eq_some_iff
abbrev Fk:=@List.replicate_append_replicate
abbrev Fl:=@List.getElem?_set
abbrev Fm:=@growslice_fits
abbrev Fo:=@List.drop_take
abbrev Fp:=@ByteArray.data_append
abbrev Fq:=@Array.getElem?_modify
abbrev Fs:=@results_cell_row
abbrev Fu:=@List.take_prefix
abbrev Fv:=@List.nodup_range
abbrev Fw:=@List.mem_nil_iff
abbrev Fy:=@Nat.mul_assoc
abbrev Fz:=@List.dropLast_concat_getLast
abbrev FC:=@run_callFunc_extern
abbrev FE:=@Nat.min_le_left
abbrev FF:=@List.getElem?_concat_length
abbrev FG:=@List.flatMap_append
abbrev FH:=@List.find?_some
abbrev FI:=@List.cons.injEq
abbrev FM:=@Bool.or_eq_true
abbrev FN:=@List.isPrefixOf_iff_prefix
abbrev FO:=@Int.tdiv_eq_ediv_of_nonneg
abbrev FP:=@Prod.ext
abbrev FQ:=@Nat.zero_mul
abbrev FR:=@List.pairwise_cons
abbrev cP:=@Int.natCast_nonneg
abbrev FT:=@Bool.false_eq_true
abbrev FU:=@Array.append_assoc
abbrev FV:=@run_storeCells_at
abbrev FW:=@List.getElem_take
theorem ex{α:Sort _}(a:α):∃x,x=a:=⟨a,rfl⟩
abbrev Bw(w:World):World->Prop:=Below w.heap.size w
abbrev Cl:=Calls prog
theorem Db{p:Prop}(h:p):Hid p:=h
theorem Da{p:Prop}(h:Hid p):p:=h
def Hf(a b:ByteArray):Bool:=Op.bytesLess a.toList b.toList
def K2(a b:ByteArray):Int:=if Hf a b=true then -1 else if a.toList=b.toList then 0 else 1
def Kg(a b:Int):Int:=if a<b then -1 else if a=b then 0 else 1
theorem Pv(s:ByteArray)(w:World):Cl 317 #[.string s] w λe w'=>e=.returned (.bool false)/\w'=w:=by
 go_enter func317,ntmps317;go_wp2;go_ret;exact⟨by simp,rfl⟩
theorem Pt(s:Int)(w:World):Cl 290 #[.int .i64 s] w λe w'=>e=.returned (.bool false)/\w'=w:=by
 go_enter func290,ntmps290;go_wp2;go_ret;exact⟨by simp,rfl⟩
theorem Zn2(a b:ByteArray)(w:World):Cl 295 #[.string a,.string b] w λe w'=>e=.returned (.int .i64 (K2 a b))/\w'=w:=by
 have c:K2 a b=if Hf a b=true then -1 else if a.toList=b.toList then 0 else 1:=rfl
 unfold Hf at c;by_cases f:Op.bytesLess a.toList b.toList=true
 ·rw[if_pos f]at c;have H:=Db c;clear c;go_enter func295,ntmps295;go_wp2_with(go_at_call 317;refine(Pv _ _).mono ?_;rintro e w'⟨rfl,rfl⟩);go_ret;exact⟨by rw[Da H];rfl,rfl⟩
 ·rw[if_neg f]at c;have h:Op.bytesLess a.toList b.toList=false:=by simpa using f
  by_cases d:a.toList=b.toList
  ·rw[if_pos d]at c;have H:=Db c;clear c;have g:(a.toList==b.toList)=true:=by simpa using d
   have i:(!Op.bytesLess a.toList b.toList && !(a.toList==b.toList))=false:=by rw[h,g];rfl
   clear f d;go_enter func295,ntmps295;go_wp2_with(go_at_call 317;refine(Pv _ _).mono ?_;rintro e w'⟨rfl,rfl⟩);go_ret;exact⟨by rw[Da H];rfl,rfl⟩
  ·rw[if_neg d]at c;have H:=Db c;clear c;have g:(a.toList==b.toList)=false:=by simpa using d
   have i:(!Op.bytesLess a.toList b.toList && !(a.toList==b.toList))=true:=by rw[h,g];rfl
   clear f d;go_enter func295,ntmps295;go_wp2_with(go_at_call 317;refine(Pv _ _).mono ?_;rintro e w'⟨rfl,rfl⟩);go_ret;exact⟨by rw[Da H];rfl,rfl⟩
theorem Zn4(a b:Int)(w:World):Cl 260 #[.int .i64 a,.int .i64 b] w λe w'=>e=.returned (.int .i64 (Kg a b))/\w'=w:=by
 have c:Kg a b=if a<b then -1 else if a=b then 0 else 1:=rfl
 have H:=Db c;clear c;by_cases d:a<b
 ·go_enter func260,ntmps260;go_wp2_with(go_at_call 290;refine(Pt _ _).mono ?_;rintro e w'⟨rfl,rfl⟩);go_ret;exact⟨by rw[Da H,if_pos d];rfl,rfl⟩
 ·by_cases h2:b<a
  ·go_enter func260,ntmps260;go_wp2_with(go_at_call 290;refine(Pt _ _).mono ?_;rintro e w'⟨rfl,rfl⟩);go_ret;exact⟨by rw[Da H,if_neg (by omega),if_neg (by omega)];rfl,rfl⟩
  ·go_enter func260,ntmps260;go_wp2_with(go_at_call 290;refine(Pt _ _).mono ?_;rintro e w'⟨rfl,rfl⟩);go_ret;exact⟨by rw[Da H,if_neg (by omega),if_pos (by omega)];rfl,rfl⟩
theorem pE:(∀(a:Act) (d:Tmp) (v:Value),a.put (some d) v={ a with tmps:=a.tmps.setIfInBounds d v })/\(∀(a:Act) (v:Value),a.put none v=a)/\(∀{α : Type} (xs:List α) (i:Nat) (h:i<xs.toArray.size),xs.toArray[i]=xs[i]'(by simpa using h))/\(∀{α : Type} (x : α) (xs:List α) (h:0<(x::xs).length),(x::xs)[0]=x)/\(∀{α : Type} (x : α) (xs:List α) (i:Nat) (h:i+1<(x::xs).length),(x::xs)[i+1]=xs[i]'(by simpa using h))/\(∀{α : Type} (xs:List α) (i:Nat) (x : α),xs.toArray.setIfInBounds i x=(xs.set i x).toArray)/\(∀{α : Type} (x : α) (xs:List α) (y : α),(x::xs).set 0 y=y::xs)/\(∀{α : Type} (x : α) (xs:List α) (i:Nat) (y : α),(x::xs).set (i+1) y=x::xs.set i y):=
 ⟨λ_ _ _=>rfl,λ_ _=>rfl,λ_ _ _=>List.getElem_toArray _,λ_ _ _=>rfl,λ_ _ _ _=>rfl,λ_ _ _=>List.setIfInBounds_toArray ..,λ_ _ _=>rfl,λ_ _ _ _=>rfl⟩
abbrev LY:=List ByteArray
abbrev F0:=List Value
abbrev NV:=Nat -> Value
abbrev OA:=Option Addr
abbrev NB:=Nat -> ByteArray
abbrev IB:=Int -> ByteArray
abbrev LB:=List (Nat×ByteArray)
abbrev LI:=List (Int×Int)
abbrev By:=ByteArray
abbrev A0:=@Lib.wpList_append_run
abbrev Fj:=@Lib.run_overlaps_apart
def F2(L:F0)(o:Nat)(cs:F0):F0:=L.take o++cs++L.drop (o+cs.length)
theorem DX{L:F0}{o:Nat}{a:F0}(h:o+a.length<=L.length):(F2 L o a).length=L.length:=by simp[F2];omega
def FX(w:World)(g:Nat)(e:TypeId)(L:F0):Prop:=w.heap[g]?=some (.cells L.toArray e (0,0))
theorem FX.lt{w:World}{g:Nat}{e:TypeId}{L:F0}(h:FX w g e L):g<w.heap.size:=(Aj.1 h).1
theorem FX.cell{w:World}{g:Nat}{e:TypeId}{L:F0}(h:FX w g e L)(j:Nat):w.cell? ⟨g,j,none⟩=L[j]? := by
 rw[cell_of_row w g j _ e (0,0) h];simp
theorem FX.frozen{w:World}{g:Nat}{e:TypeId}{L:F0}(h:FX w g e L)(j:Nat):w.frozen? ⟨g,j,none⟩=false:=frozen_of_row w g j _ e h
theorem FX.kept{w w':World}{g:Nat}{e:TypeId}{L:F0}{row:Option Nat}(h:FX w g e L)(a:w.grownBy w' row)(b:some g≠row):FX w' g e L:=by
 unfold FX;rw[a.block g h.lt b];exact h
theorem QX(w:World)(row:Option Nat):w.grownBy w row:=⟨rfl,rfl,rfl,Aa _,λ_ _ _=>rfl⟩
theorem JU{a b c:World}{row:Option Nat}(h:a.grownBy b row)(k:b.grownBy c row):a.grownBy c row:=
 ⟨k.os.trans h.os,k.tape.trans h.tape,k.output.trans h.output,Af h.size k.size,λi d e=>(k.block i (AY d h.size) e).trans (h.block i d e)⟩
theorem QW{a b:World}{row:Option Nat}(h:a.grownBy b row):a.grownBy b.drew row:=⟨h.os,h.tape,h.output,h.size,h.block⟩
section
variable{P:Program}
theorem JS(w:World)(l D ty h:TypeId)(f g o d r:Nat)(a:Addr)(c q:Nat)(L:F0)(t:TypeId)(b:F0)(C:P.underlying l=some (.slice h))(n:(P.info? h).map (·.size)=some f)(m:FX w g t L)(A:b.length=Nat.min c d*f)(B:∀j v,b[j]?=some v->w.cell? (a.add j)=some v)(x:o+b.length<=L.length)(s:∀v∈b,v.oneCell'=true):
  ∃w',(Builtin.copy_ #[l,D] ty #[.slice (some ⟨g,o,none⟩) d r,.slice (some a) c q]).run P w=.ok (goInt (Nat.min c d)) w'/\FX w' g t (F2 L o b)/\w.grownBy w' (some g):=by
 have p:=FV P g o t b 0 L.toArray w m (by simpa using x) s;have u:=EZ (P:=P) w f (Nat.min c d) a c q b A B;refine⟨w.setRow g (F2 L o b).toArray,?_,BW w g L.toArray _ t _ m,⟨rfl,rfl,rfl,by simp,λk _ z=>BD w g k _ (λe=>z (by rw[e]))⟩⟩
 cases hq:P.info? h with
 |none=>simp[hq]at n
 |some i=>
  have y:i.size=f:=by simpa [hq] using n
  simp only[Ef]at p;simp[Builtin.copy_,run_underlying C,Builtin.lenOf,sizeOf,typeInfo,hq,y,u,p,F2]
theorem ZiN(w:World){o:Oper}{a:Act}{K:Act->World->Prop}{Q:Exit->Act->World->Prop}(d s:Operand)(t b:TypeId)(ho:o.op=.call { callee:=.builtin .copy,args:=#[d,s],argTypes:=#[t,b] })(v u:Value)(e:a.eval d=v)(g:a.eval s=u){c:Value}{w':World}(f:(Builtin.copy_ #[t,b] o.type #[v,u]).run P w=.ok c w')(h:K (a.put o.dst c) w'):o.wp P a w K Q:=by
 unfold Oper.wp execOp;simp only[ho,resolve,invoke,builtin,Cn,E6,Cg,List.map_toArray,BI,CY,e,g,f];exact h
theorem D4(w:World){c:Array Oper}{e:List Oper}{o:Oper}{a:Act}{Q:Exit->Act->World->Prop}(j:o.guard=none)(d s:Operand)(t b:TypeId)(ho:o.op=.call { callee:=.builtin .copy,args:=#[d,s],argTypes:=#[t,b] })(v u:Value)(i:a.eval d=v)(l:a.eval s=u){f:Value}{w':World}(k:(Builtin.copy_ #[t,b] o.type #[v,u]).run P w=.ok f w')(h:wpList P c Q e (a.put o.dst f) w'):wpList P c Q (o::e) a w:=
 E5 j λ_ g=>ZiN w d s t b ho v u i l k (g _ _ h)
theorem KK{c:Array Oper}{o:Oper}{a:Act}{w:World}{K:Act->World->Prop}{Q:Exit->Act->World->Prop}{E:Prop}(i:o.guard=none)(d x:Operand)(b e:TypeId)(j:o.op=Op.call { callee:=Callee.builtin Builtin.copy,args:=#[d,x],argTypes:=#[b,e] })(v u:Value)(h:a.eval d=v)(m:a.eval x=u){f:Value}{w':World}(k:(Builtin.copy_ #[b,e] o.type #[v,u]).run P w=.ok f w')(g:K (a.put o.dst f) w'):
  if Region.wanted o (yielded c a.tmps)=true then Oper.wp P o a w K Q else E:=by
 have l:Region.wanted o (yielded c a.tmps)=true:=by simp[Region.wanted,i]
 rw[if_pos l];unfold Oper.wp;simp[execOp,j,resolve,invoke,builtin,h,m,k,Result.andThen];exact g
theorem JV{c:Array Oper}{o:Oper}{a:Act}{w:World}{K:Act->World->Prop}{Q:Exit->Act->World->Prop}{E:Prop}(i:o.guard=none)(d x:Operand)(b e:TypeId)(j:o.op=Op.call { callee:=Callee.builtin Builtin.append,args:=#[d,x],argTypes:=#[b,e] })(v u:Value)(h:a.eval d=v)(m:a.eval x=u){f:Value}{w':World}(k:(Builtin.append_ #[b,e] o.type #[v,u]).run P w=.ok f w')(g:K (a.put o.dst f) w'):
  if Region.wanted o (yielded c a.tmps)=true then Oper.wp P o a w K Q else E:=by
 have l:Region.wanted o (yielded c a.tmps)=true:=by simp[Region.wanted,i]
 rw[if_pos l];unfold Oper.wp;simp[execOp,j,resolve,invoke,builtin,h,m,k,Result.andThen];exact g
end
def Sl(w:World)(e:TypeId)(sz:Nat)(v:Value)(n:Nat)(xs:F0):Prop:=
 xs.length=n*sz/\
 ((v=.slice none 0 0/\n=0)\/
  ∃g cap L,v=.slice (some ⟨g,0,none⟩) n cap/\FX w g e L/\n<=cap/\cap<=maxLen/\L.length=cap*sz/\L.take (n*sz)=xs)
theorem Sl.owns{w:World}{e:TypeId}{a:Nat}{v:Value}{n:Nat}{xs:F0}(h:Sl w e a v n xs):w.ownsRow 0 e a v n xs:=by
 refine⟨h.1,?_⟩;rcases h.2 with c|⟨g,b,L,rfl,k,d,f,i,j⟩
 ·exact .inl c
 ·exact .inr ⟨g,b,L.toArray,rfl,Au _,k,d,f,by simpa using i,by simpa using j⟩
theorem Sl.of_owns{w:World}{e:TypeId}{b:Nat}{v:Value}{n:Nat}{xs:F0}{base:Nat}(h:w.ownsRow base e b v n xs):Sl w e b v n xs:=by
 refine⟨h.1,?_⟩;rcases h.2 with a|⟨g,c,d,rfl,hr,a,f,i,j,k⟩
 ·exact .inl a
 ·exact .inr ⟨g,c,d.toList,rfl,by simpa [FX] using a,f,i,by simpa using j,by simpa using k⟩
def Dk(w:World)(v v':Value):Prop:=∀g,v'.ownBlock=some g->v.ownBlock=some g\/w.heap.size<=g
theorem Qa{P:Program}(w:World)(t ty e:TypeId)(i:TypeInfo)(z:Value)(size bytes:Nat)(C:P.underlying t=some (.slice e))(x:P.info? e=some i)(J:i.zero=some z)(o:i.size=size)(F:i.bytes=bytes)(K:z.cells.size=size)(U:0<size)(v:Value)(n:Nat)(xs:F0)(h:Sl w e size v n xs)(a:Addr)(m c:Nat)(b:F0)(f:b.length=m*size)(y:∀j u,b[j]?=some u->w.cell? (a.add j)=some u)(q:∀u∈b,u.oneCell'=true)(r:n+m<=maxLen)(G:(n+m)*bytes<=140737488355328):
  ∃p w',(Builtin.append_ #[t,t] ty #[v,.slice (some a) m c]).run P w=.ok p w'/\Sl w' e size p (n+m) (xs++b)/\w.grownBy w' v.ownBlock/\Dk w v p:=by
 rcases h.2 with⟨rfl,rfl⟩|⟨g,d,L,rfl,I,E,M,N,O⟩
 ·obtain⟨p,w',q,D,E,_⟩:=run_append_own (P:=P) w w.heap.size t ty e i z size bytes C x J o F K U _ 0 xs ⟨h.1,.inl ⟨rfl,rfl⟩⟩ a m c b f y q r G (Aa _);exact⟨p,w',q,Sl.of_owns D,E,λg R => .inr (D.lt g R).1⟩
 ·by_cases B:n+m<=d
  ·have s:n*i.size+b.length<=L.toArray.size:=by rw[o,f];simp[N,<-Nat.add_mul];exact Nat.mul_le_mul_right _ B
   have A:=run_append_room (P:=P) w t ty e i C x g n d L.toArray I a m c b (by rw[o];exact f) y q B s;refine⟨_,_,A,⟨by rw[Ab,h.1,f,E3],.inr ⟨g,d,L.take (n*size)++b++L.drop (n*size+b.length),rfl,?_,B,M,?_,?_⟩⟩,?_,λk l => .inl l⟩
   ·rw[o];exact BW w g L.toArray _ e _ I
   ·simp only[Ab,An,Az];rw[o]at s;simp at s;omega
   ·rw[O];have:(n+m)*size=(xs++b).length:=by rw[Ab,h.1,f,E3]
    rw[this];exact ES
   ·exact⟨rfl,rfl,rfl,by simp,λk _ l=>BD w g k _ (λe=>l (by simp[Value.ownBlock,e]))⟩
  ·have T:∀j u,xs[j]?=some u->w.cell? ((⟨g,0,none⟩:Addr).add j)=some u:=h.owns.cells (g:=g) rfl;subst o;subst F
   have A:=run_append_grow (P:=P) w t ty e i z C x J ⟨g,0,none⟩ n d xs h.1 T a m c b f y (by omega) (by simp only[maxLen]at r;omega) (Fm (by omega) G);have S:=grownCap_ge w (n+m) d e;have Q:grownCap w (n+m) d e<=maxLen:=EJ w (n+m) d e r;have H:(xs++b).length=(n+m)*i.size:=by rw[Ab,h.1,f,E3]
   refine⟨_,_,A,⟨H,.inr ⟨w.heap.size,_,(xs.toArray++b.toArray++Builtin.zeroCells z.cells (grownCap w (n+m) d e-(n+m))).toList,rfl,by unfold FX;rw[Array.toArray_toList];exact CQ w.drew _,S,Q,?_,?_⟩⟩,⟨rfl,rfl,rfl,by simp,λk l _=>BH w.drew _ k l⟩,λk l=>?_⟩
   ·simp only[AG,EQ,AM,Eh,K,h.1,f,<-E3]
    congr 1
    omega
   ·simp only[EA,Ax];rw[<-Ax,<-H];exact ES
   ·simp[Value.ownBlock]at l;omega
abbrev ET:=@Lib.run_append_grow_zeros
theorem XE{P:Program}(w:World)(t e ty:TypeId)(z:Value)(j:P.underlying t=some (.slice e))(l:∀w,(zeroValue e).run P w=.ok z w)(zs:F0)(m:(Builtin.zeroCells z.cells 1).toList=zs)(f:∀u∈zs,u.oneCell'=true)(g o c:Nat)(L:F0)(a:TypeId)(b:FX w g a L)(h:o+zs.length<=L.length):
  ∃w',(Builtin.clear_ #[t] ty #[.slice (some ⟨g,o,none⟩) 1 c]).run P w=.ok (.tuple #[]) w'/\FX w' g a (F2 L o zs)/\w.grownBy w' (some g):=by
 have d:=FV P g o a zs 0 L.toArray w b (by simpa using h) f;simp only[Ef]at d;refine⟨w.setRow g (F2 L o zs).toArray,?_,BW w g L.toArray _ a _ b,⟨rfl,rfl,rfl,by simp,λk _ i=>BD w g k _ (λe=>i (by rw[e]))⟩⟩;simp[Builtin.clear_,run_underlying j,l,m,d,F2]
theorem Zhw{P:Program}(w:World){o:Oper}{a:Act}{K:Act->World->Prop}{Q:Exit->Act->World->Prop}(d:Operand)(t:TypeId)(ho:o.op=.call { callee:=.builtin .clear,args:=#[d],argTypes:=#[t] })(v:Value)(c:a.eval d=v){b:Value}{w':World}(e:(Builtin.clear_ #[t] o.type #[v]).run P w=.ok b w')(h:K (a.put o.dst b) w'):o.wp P a w K Q:=by
 unfold Oper.wp execOp;simp only[ho,resolve,invoke,builtin,Cn,E6,Cg,List.map_toArray,BI,CY,c,e];exact h
theorem OD{P:Program}(w:World){b:Array Oper}{c:List Oper}{o:Oper}{a:Act}{Q:Exit->Act->World->Prop}(i:o.guard=none)(d:Operand)(t:TypeId)(ho:o.op=.call { callee:=.builtin .clear,args:=#[d],argTypes:=#[t] })(v:Value)(g:a.eval d=v){e:Value}{w':World}(j:(Builtin.clear_ #[t] o.type #[v]).run P w=.ok e w')(h:wpList P b Q c (a.put o.dst e) w'):wpList P b Q (o::c) a w:=
 E5 i λ_ f=>Zhw w d t ho v g j (f _ _ h)
theorem PM:(prog.info? 310).map (λi=>(i.zero,i.size,i.bytes))=some (some (.agg #[.string ⟨#[]⟩,.pointer none,.int .i64 0]),3,32):=by kernel_rfl
theorem U7:(prog.info? 310).map (λi=>i.size)=some 3:=by kernel_rfl
theorem Zmc(w:World)(v:Value)(n:Nat)(xs:F0)(d:Nat)(b:F0)(m:Sl w 310 3 v n xs)(hn:n<=10000)(s:FX w d 310 b)(aa:b.length=3)(q:∀u∈b,u.oneCell'=true):
  Cl 265 #[v,.int .i64 n,.slice (some ⟨d,0,none⟩) 1 1] w λe w'=>∃c,e=.returned c/\Sl w' 310 3 c (n+1) (xs++b)/\w.grownBy w' v.ownBlock/\Dk w v c:=by
 obtain⟨B,r,y,z,A⟩:=BT PM;have p:=λty=>Qa (P:=prog) w 225 ty 310 B _ 3 32 underlying225 r y z A rfl (by decide) v n xs m ⟨d,0,none⟩ 1 1 b (by omega)
  (λj u t=>by rw[AI,Av,s.cell];exact t) q (by unfold maxLen;omega) (by omega)
 obtain⟨c,w',o,f,k,l⟩:=p 225;have x:(v=.slice none 0 0/\n=0)\/∃g a,v=.slice (some ⟨g,0,none⟩) n a/\n<=a:=by
  rcases m.2 with h|⟨g,a,L,h,_,i,_⟩
  ·exact .inl h
  ·exact .inr ⟨g,a,h,i⟩
 clear p;rcases x with⟨rfl,rfl⟩|⟨g,a,rfl,i⟩
 ·go_enter func265,ntmps265;go_wp2_with(at_builtin;refine A0 _ rfl _ _ 225 225 rfl _ _ rfl rfl _ _ o ?_);go_ret;exact⟨_,rfl,f,k,l⟩
 ·go_enter func265,ntmps265;go_wp2_with(at_builtin;refine A0 _ rfl _ _ 225 225 rfl _ _ rfl rfl _ _ o ?_)
  all_goals (go_ret;exact⟨_,rfl,f,k,l⟩)
theorem Zl9(w:World)(g n a:Nat)(xs L:F0)(i d:Nat)(c:F0)(h:FX w g 310 L)(v:L.length=a*3)(o:L.take (n*3)=xs)(hi:i<n)(ae:n+1<=a)(z:a<=maxLen)(hn:n<=10000)(f:FX w d 310 c)(l:c.length=3)(t:∀u∈xs,u.oneCell'=true)(s:∀u∈c,u.oneCell'=true)(B:d≠g):
  Cl 265 #[.slice (some ⟨g,0,none⟩) n a,.int .i64 i,.slice (some ⟨d,0,none⟩) 1 1] w λe w'=>e=.returned (.slice (some ⟨g,0,none⟩) (n+1) a)/\FX w' g 310 (F2 (F2 L ((i+1)*3) (xs.drop (i*3))) (i*3) c)/\w.grownBy w' (some g):=by
 have D:xs.length=n*3:=by rw[<-o,An];omega
 have k:(xs.drop (i*3)).length=(n-i)*3:=by rw[Az,D];omega
 obtain⟨p,G,x,m⟩:=JS (P:=prog) w.drew 225 225 3 310 3 g ((i+1)*3) (n-i) (a-(i+1)) ⟨g,i*3,none⟩ (n+1-i) (a-i) L 310 (xs.drop (i*3)) underlying225 U7 h
  (by rw[k];simp only[C5];split<;>omega)
  (λj u b=>by
   rw[AI,show(w.drew.cell? ⟨g,i*3+j,none⟩)=L[i*3+j]? from h.cell _];rw[Bf,<-o,Ao]at b
   split at b
   ·exact b
   ·cases b) (by rw[k];omega) (λu b=>t u (BG b))
 have C:FX p d 310 c:=(show FX w.drew d 310 c from f).kept m (by simpa using B);obtain⟨q,H,y,A⟩:=JS (P:=prog) p 225 225 3 310 3 g (i*3) (n+1-i) (a-i) ⟨d,0,none⟩ 1 1 _ 310 c underlying225 U7 x
  (by rw[l];simp only[C5];split<;>omega)
  (λj u b=>by rw[AI,Av,C.cell];exact b) (by rw[DX (by rw[k];omega),l];omega) s
 have F:∀lb cb,(callFunc 296 #[.slice (some ⟨d,0,none⟩) 1 1,.slice (some ⟨g,(i+1)*3,none⟩) lb cb]).run prog w=.ok (.value (.bool false)) w:=λlb cb=>by
  rw[FC func296 (by kernel_rfl) (by kernel_rfl) (by kernel_rfl) (e:=Extern.SlicesOverlaps.overlaps #[225,225] #[4]) (by kernel_rfl),
   Fj w 225 4 310 underlying225 3 (λ_=>by kernel_rfl) ⟨d,0,none⟩ ⟨g,(i+1)*3,none⟩ 1 1 lb cb B 310 310 3 (a*3) (by unfold World.shape?;rw[f];simp[l]) (by unfold World.shape?;rw[h];simp[v]) (by omega) (f.frozen 0) (f.frozen 3)]
  rfl
 have af:a<=9223372036854775807:=by unfold maxLen at z;omega
 have r:FX q g 310 (F2 (F2 L ((i+1)*3) (xs.drop (i*3))) (i*3) c)/\w.grownBy q (some g):=⟨y,JU (show w.grownBy w.drew (some g) from QW (QX _ _)) (JU m A)⟩;have E:=Db r;clear r x y m A C t s z o k D v l f h;have ai:IntKind.i64.wrap ((i:Int)+1)=(i:Int)+1:=by rw[AV];omega
 have aa:(0:Int)<=(i:Int)+1:=by omega
 have ag:i<=n:=by omega
 have ah:((i:Int)+1).toNat=i+1:=by omega
 have ab:¬(a=i+1):=by omega
 have ac:(i:Int)<=(n:Int)+1:=by omega
 have ad:¬(a=i):=by omega
 go_enter func265,ntmps265;go_wp2_with(simp only[F])
 go_region_law (refine KK rfl _ _ 225 225 rfl _ _ (by simp[Act.eval,Act.put]) (by simp[Act.eval,Act.put]) G ?_)
 go_wp2_with(at_builtin;refine D4 _ rfl _ _ 225 225 rfl _ _ rfl rfl H ?_);go_ret;exact⟨rfl,Da E⟩
theorem ZkA(w:World)(g n b:Nat)(xs L:F0)(i t:Nat)(c:F0)(d:FX w g 310 L)(ae:L.length=b*3)(s:L.take (n*3)=xs)(hi:i<n)(ap:n<=b)(am:b<n+1)(hn:n<=10000)(D:FX w t 310 c)(r:c.length=3)(J:∀u∈xs,u.oneCell'=true)(I:∀u∈c,u.oneCell'=true):
  Cl 265 #[.slice (some ⟨g,0,none⟩) n b,.int .i64 i,.slice (some ⟨t,0,none⟩) 1 1] w λe w'=>∃G Z,e=.returned (.slice (some ⟨w.heap.size,0,none⟩) (n+1) G)/\n+1<=G/\G<=maxLen/\(xs.take (i*3)++Z).length=G*3/\
   FX w' w.heap.size 310 (F2 (F2 (xs.take (i*3)++Z) (i*3) c) ((i+1)*3) (xs.drop (i*3)))/\w.grownBy w' (some w.heap.size):=by
 have X:xs.length=n*3:=by rw[<-s,An];omega
 have A:(xs.drop (i*3)).length=(n-i)*3:=by rw[Az,X];omega
 obtain⟨i0,R,Y,aa,E⟩:=BT PM;have W:∀j u,xs[j]?=some u->w.cell? ⟨g,j,none⟩=some u:=λj u a=>by
  rw[d.cell];rw[<-s,Ao]at a
  split at a
  ·exact a
  ·cases a
 have U:(Builtin.firstCells i0.size i (.slice (some ⟨g,0,none⟩) i b)).run prog w.drew=.ok (xs.take (i*3)).toArray w.drew:=by
  rw[aa];exact EZ w.drew 3 i ⟨g,0,none⟩ i b (xs.take (i*3)) (by rw[An];omega) (λj v q=>by
   rw[AI,Av];rw[Ao]at q
   split at q
   ·exact W j v q
   ·cases q)
 have C:i+(n+1-i)=n+1:=by omega
 have S:(n:Int)+1-(i:Int)=((n+1-i:Nat):Int):=by omega
 obtain⟨G,p⟩:=ex (grownCap w (n+1) b 310);obtain⟨Z,z⟩:∃Z:Array Value,Z=Builtin.zeroCells (Value.agg #[.string ⟨#[]⟩,.pointer none,.int .i64 0]).cells (n+1-i)++Builtin.zeroCells (Value.agg #[.string ⟨#[]⟩,.pointer none,.int .i64 0]).cells (G-(n+1)):=⟨_,rfl⟩;have V:∀ty,(Builtin.append_ #[225,3] ty #[.slice (some ⟨g,0,none⟩) i b,.int .i64 ((n:Int)+1-(i:Int))]).run prog w =
   .ok (.slice (some ⟨w.heap.size,0,none⟩) (n+1) G) (w.drew.alloc (.cells (xs.take (i*3)++Z.toList).toArray 310)):=λty=>by
  have h:=ET w 225 3 ty 310 i0 _ .i64 .i64 underlying225 underlying3 R Y (some ⟨g,0,none⟩) i b (xs.take (i*3)) U (n+1-i) (by omega) (by omega) (by omega) (by omega) (by rw[E];omega) (by rw[E,C];exact Fm (by omega) (by omega));rw[C,<-p]at h;rw[S,h,z]
  congr 2
  simp[Array.append_assoc]
 have ad:n+1<=G:=by rw[p];exact grownCap_ge w _ _ _
 have x:G<=maxLen:=by rw[p];exact EJ w _ _ _ (by unfold maxLen;omega)
 have f:(xs.take (i*3)++Z.toList).length=G*3:=by
  have e1:Z.size=(n+1-i)*3+(G-(n+1))*3:=by rw[z,EQ,Eh,Eh];rfl
  have e2:Z.toList.length=Z.size:=AG;rw[Ab,An,e2,e1];omega
 have y:FX (w.drew.alloc (.cells (xs.take (i*3)++Z.toList).toArray 310)) w.heap.size 310 (xs.take (i*3)++Z.toList):=CQ w.drew _;have l:w.grownBy (w.drew.alloc (.cells (xs.take (i*3)++Z.toList).toArray 310)) (some w.heap.size):=⟨rfl,rfl,rfl,by simp,λk hk _=>BH w.drew _ k hk⟩;obtain⟨m,O⟩:=ex (w.drew.alloc (.cells (xs.take (i*3)++Z.toList).toArray 310));rw[<-O]at V y l;have T:FX m t 310 c:=D.kept l (by have:=D.lt;simp;omega);obtain⟨o,af,M,B⟩:=JS (P:=prog) m 225 225 3 310 3 w.heap.size (i*3) (n+1-i) (G-i) ⟨t,0,none⟩ 1 1 _ 310 c underlying225 U7 y
  (by rw[r];simp only[C5];split<;>omega)
  (λj u a=>by rw[AI,Av,T.cell];exact a) (by rw[f,r];omega) I
 have K:FX o g 310 L:=(d.kept l (by have:=d.lt;simp;omega)).kept B (by have:=d.lt;simp;omega);obtain⟨F,ag,N,Q⟩:=JS (P:=prog) o.drew 225 225 3 310 3 w.heap.size ((i+1)*3) (n-i) (G-(i+1)) ⟨g,i*3,none⟩ (n-i) (b-i) _ 310 (xs.drop (i*3)) underlying225 U7 M
  (by rw[A];simp only[C5];split<;>omega)
  (λj u a=>by
   rw[AI,show(o.drew.cell? ⟨g,i*3+j,none⟩)=L[i*3+j]? from K.cell _];rw[Bf,<-s,Ao]at a
   split at a
   ·exact a
   ·cases a) (by rw[DX (by rw[f,r];omega),f,A];omega) (λu a=>J u (BG a))
 have H:(xs.take (i*3)++Z.toList).length=G*3/\FX F w.heap.size 310 (F2 (F2 (xs.take (i*3)++Z.toList) (i*3) c) ((i+1)*3) (xs.drop (i*3)))/\w.grownBy F (some w.heap.size):=
  ⟨f,N,JU l (JU B (JU (QW (QX o _)) Q))⟩
 have ab:=Db H;have aj:G<=9223372036854775807:=by unfold maxLen at x;omega
 have ah:¬(G=i):=by omega
 have ai:¬(G=i+1):=by omega
 have an:¬(b=i):=by omega
 have ar:IntKind.i64.wrap ((i:Int)+1)=(i:Int)+1:=by rw[AV];omega
 have ak:(0:Int)<=(i:Int)+1:=by omega
 have ao:i<=n:=by omega
 have aq:((i:Int)+1).toNat=i+1:=by omega
 have al:(i:Int)<=(n:Int):=by omega
 clear H f y M N l B Q T K J I s A X ae r D d W U O p z C S R Y aa E;have ac:=Db x;clear x;go_enter func265,ntmps265;go_wp2_with(first
  |(at_builtin;refine A0 _ rfl _ _ _ _ rfl _ _ rfl rfl _ _ (V _) ?_)
  |(at_builtin;refine D4 _ rfl _ _ 225 225 rfl _ _ rfl rfl af ?_))
 go_region_law (refine KK rfl _ _ 225 225 rfl _ _ (by simp[Act.eval,Act.put]) (by simp[Act.eval,Act.put]) ag ?_)
 go_wp2;go_ret;exact⟨G,Z.toList,rfl,ad,Da ac,Da ab⟩
theorem Mu(w:World)(g n b:Nat)(xs L:F0)(i:Nat)(m:FX w g 310 L)(t:L.length=b*3)(v:L.take (n*3)=xs)(hi:i<n)(ai:n<=b)(D:b<=maxLen)(hn:n<=10000)(A:∀u∈xs,u.oneCell'=true):
  Cl 268 #[.slice (some ⟨g,0,none⟩) n b,.int .i64 i,.int .i64 ((i:Int)+1)] w λe w'=>e=.returned (.slice (some ⟨g,0,none⟩) (n-1) b)/\
   FX w' g 310 (F2 (F2 L (i*3) (xs.drop ((i+1)*3))) ((n-1)*3) [.string ⟨#[]⟩,.pointer none,.int .i64 0])/\w.grownBy w' (some g):=by
 have I:xs.length=n*3:=by rw[<-v,An];omega
 have l:(xs.drop ((i+1)*3)).length=(n-(i+1))*3:=by rw[Az,I];omega
 obtain⟨Q,G,N,r,O⟩:=BT PM;have H:F2 L (i*3) (xs.drop ((i+1)*3))=L.toArray.toList.take (i*3)++xs.drop ((i+1)*3)++L.toArray.toList.drop (i*3+(xs.drop ((i+1)*3)).length):=rfl;obtain⟨f,o⟩:=ex (w.drew.setRow g (F2 L (i*3) (xs.drop ((i+1)*3))).toArray);have p:∀(a:Addr) (c:Nat),(n-(i+1)≠0->a=⟨g,(i+1)*3,none⟩)->(Builtin.append_ #[225,225] 225 #[.slice (some ⟨g,0,none⟩) i b,.slice (some a) (n-(i+1)) c]).run prog w.drew=.ok (.slice (some ⟨g,0,none⟩) (n-1) b) f:=λa c J=>by
  have h:=run_append_room (P:=prog) w.drew 225 225 310 Q underlying225 G g i b L.toArray m a (n-(i+1)) c (xs.drop ((i+1)*3)) (by rw[r];exact l)
   (λj u d=>by
    by_cases z:n-(i+1)=0
    ·have:xs.drop ((i+1)*3)=[]:=AA (by rw[l,z]);rw[this]at d;cases d
    ·rw[J z,AI,show(w.drew.cell? ⟨g,(i+1)*3+j,none⟩)=L[(i+1)*3+j]? from m.cell _];rw[Bf,<-v,Ao]at d
     split at d
     ·exact d
     ·cases d) (λu d=>A u (BG d)) (by omega) (by rw[r,l];simp[t];omega)
  rw[h,o,H,r,show i+(n-(i+1))=n-1 by omega]
 have B:FX f g 310 (F2 L (i*3) (xs.drop ((i+1)*3))):=by rw[o];exact BW w.drew g L.toArray _ 310 _ m
 have E:w.grownBy f (some g):=by rw[o];exact⟨rfl,rfl,rfl,by simp,λk _ M=>BD w.drew g k _ (λe=>M (by rw[e]))⟩
 obtain⟨x,q,C,F⟩:=XE (P:=prog) f 225 310 0 (.agg #[.string ⟨#[]⟩,.pointer none,.int .i64 0]) underlying225 (λ_=>by kernel_rfl) [.string ⟨#[]⟩,.pointer none,.int .i64 0] (by kernel_rfl) (by simp[Value.oneCell']) g ((n-1)*3) (b-(n-1)) _ 310 B (by rw[DX (by rw[l];omega),t];simp;omega);have y:FX x g 310 (F2 (F2 L (i*3) (xs.drop ((i+1)*3))) ((n-1)*3) [.string ⟨#[]⟩,.pointer none,.int .i64 0])/\w.grownBy x (some g):=⟨C,JU E F⟩;have s:=Db y;have ag:b<=9223372036854775807:=by unfold maxLen at D;omega
 have aa:(0:Int)<=(i:Int)+1:=by omega
 have ak:((i:Int)+1).toNat=i+1:=by omega
 have ab:(i:Int)<=(n:Int):=by omega
 have ac:(i:Int)+1<=(n:Int):=by omega
 have ad:(i:Int)<=(i:Int)+1:=by omega
 have ae:(i:Int)<=(b:Int):=by omega
 have af:¬(b=n-1):=by omega
 have ah:n-(n-1)=1:=by omega
 have aj:((i:Int)==(i:Int)+1)=false:=by rw[Bm];omega
 clear y B C E F o H m v l I t A G N r O D;go_enter func268,ntmps268;by_cases K:b=i+1
 ·subst K;obtain rfl:n=i+1:=by omega
  rw[Nat.sub_self]at p;rw[Nat.add_sub_cancel]at p s q;rw[Ff]at q;go_wp2
  go_region_law (refine JV rfl _ _ 225 225 rfl _ _ (by simp[Act.eval,Act.put]) (by simp[Act.eval,Act.put]) (p ⟨g,0,none⟩ 0 (λh=>absurd h (by omega))) ?_)
  go_wp2_with(at_builtin;refine OD _ rfl _ 225 rfl _ rfl q ?_);go_ret;exact⟨rfl,Da s⟩
 ·go_wp2
  go_region_law (refine JV rfl _ _ 225 225 rfl _ _ (by simp[Act.eval,Act.put]) (by simp[Act.eval,Act.put]) (p ⟨g,(i+1)*3,none⟩ (b-(i+1)) (λ_=>rfl)) ?_)
  go_wp2_with(at_builtin;refine OD _ rfl _ 225 rfl _ rfl q ?_);go_ret;exact⟨rfl,Da s⟩
theorem PL:(prog.info? 293).map (λi=>(i.zero,i.size,i.bytes))=some (some (.agg #[.int .i64 0,.slice none 0 0,.int .i64 0]),3,40):=by kernel_rfl
theorem U0:(prog.info? 293).map (λi=>i.size)=some 3:=by kernel_rfl
theorem Zmd(w:World)(v:Value)(n:Nat)(xs:F0)(d:Nat)(b:F0)(m:Sl w 293 3 v n xs)(hn:n<=10000)(s:FX w d 293 b)(aa:b.length=3)(q:∀u∈b,u.oneCell'=true):
  Cl 267 #[v,.int .i64 n,.slice (some ⟨d,0,none⟩) 1 1] w λe w'=>∃c,e=.returned c/\Sl w' 293 3 c (n+1) (xs++b)/\w.grownBy w' v.ownBlock/\Dk w v c:=by
 obtain⟨B,r,y,z,A⟩:=BT PL;have p:=λty=>Qa (P:=prog) w 210 ty 293 B _ 3 40 underlying210 r y z A rfl (by decide) v n xs m ⟨d,0,none⟩ 1 1 b (by omega)
  (λj u t=>by rw[AI,Av,s.cell];exact t) q (by unfold maxLen;omega) (by omega)
 obtain⟨c,w',o,f,k,l⟩:=p 210;have x:(v=.slice none 0 0/\n=0)\/∃g a,v=.slice (some ⟨g,0,none⟩) n a/\n<=a:=by
  rcases m.2 with h|⟨g,a,L,h,_,i,_⟩
  ·exact .inl h
  ·exact .inr ⟨g,a,h,i⟩
 clear p;rcases x with⟨rfl,rfl⟩|⟨g,a,rfl,i⟩
 ·go_enter func267,ntmps267;go_wp2_with(at_builtin;refine A0 _ rfl _ _ 210 210 rfl _ _ rfl rfl _ _ o ?_);go_ret;exact⟨_,rfl,f,k,l⟩
 ·go_enter func267,ntmps267;go_wp2_with(at_builtin;refine A0 _ rfl _ _ 210 210 rfl _ _ rfl rfl _ _ o ?_)
  all_goals (go_ret;exact⟨_,rfl,f,k,l⟩)
theorem Zma(w:World)(g n a:Nat)(xs L:F0)(i d:Nat)(c:F0)(h:FX w g 293 L)(v:L.length=a*3)(o:L.take (n*3)=xs)(hi:i<n)(ae:n+1<=a)(z:a<=maxLen)(hn:n<=10000)(f:FX w d 293 c)(l:c.length=3)(t:∀u∈xs,u.oneCell'=true)(s:∀u∈c,u.oneCell'=true)(B:d≠g):
  Cl 267 #[.slice (some ⟨g,0,none⟩) n a,.int .i64 i,.slice (some ⟨d,0,none⟩) 1 1] w λe w'=>e=.returned (.slice (some ⟨g,0,none⟩) (n+1) a)/\FX w' g 293 (F2 (F2 L ((i+1)*3) (xs.drop (i*3))) (i*3) c)/\w.grownBy w' (some g):=by
 have D:xs.length=n*3:=by rw[<-o,An];omega
 have k:(xs.drop (i*3)).length=(n-i)*3:=by rw[Az,D];omega
 obtain⟨p,G,x,m⟩:=JS (P:=prog) w.drew 210 210 3 293 3 g ((i+1)*3) (n-i) (a-(i+1)) ⟨g,i*3,none⟩ (n+1-i) (a-i) L 293 (xs.drop (i*3)) underlying210 U0 h
  (by rw[k];simp only[C5];split<;>omega)
  (λj u b=>by
   rw[AI,show(w.drew.cell? ⟨g,i*3+j,none⟩)=L[i*3+j]? from h.cell _];rw[Bf,<-o,Ao]at b
   split at b
   ·exact b
   ·cases b) (by rw[k];omega) (λu b=>t u (BG b))
 have C:FX p d 293 c:=(show FX w.drew d 293 c from f).kept m (by simpa using B);obtain⟨q,H,y,A⟩:=JS (P:=prog) p 210 210 3 293 3 g (i*3) (n+1-i) (a-i) ⟨d,0,none⟩ 1 1 _ 293 c underlying210 U0 x
  (by rw[l];simp only[C5];split<;>omega)
  (λj u b=>by rw[AI,Av,C.cell];exact b) (by rw[DX (by rw[k];omega),l];omega) s
 have F:∀lb cb,(callFunc 298 #[.slice (some ⟨d,0,none⟩) 1 1,.slice (some ⟨g,(i+1)*3,none⟩) lb cb]).run prog w=.ok (.value (.bool false)) w:=λlb cb=>by
  rw[FC func298 (by kernel_rfl) (by kernel_rfl) (by kernel_rfl) (e:=Extern.SlicesOverlaps.overlaps #[210,210] #[4]) (by kernel_rfl),
   Fj w 210 4 293 underlying210 3 (λ_=>by kernel_rfl) ⟨d,0,none⟩ ⟨g,(i+1)*3,none⟩ 1 1 lb cb B 293 293 3 (a*3) (by unfold World.shape?;rw[f];simp[l]) (by unfold World.shape?;rw[h];simp[v]) (by omega) (f.frozen 0) (f.frozen 3)]
  rfl
 have af:a<=9223372036854775807:=by unfold maxLen at z;omega
 have r:FX q g 293 (F2 (F2 L ((i+1)*3) (xs.drop (i*3))) (i*3) c)/\w.grownBy q (some g):=⟨y,JU (show w.grownBy w.drew (some g) from QW (QX _ _)) (JU m A)⟩;have E:=Db r;clear r x y m A C t s z o k D v l f h;have ai:IntKind.i64.wrap ((i:Int)+1)=(i:Int)+1:=by rw[AV];omega
 have aa:(0:Int)<=(i:Int)+1:=by omega
 have ag:i<=n:=by omega
 have ah:((i:Int)+1).toNat=i+1:=by omega
 have ab:¬(a=i+1):=by omega
 have ac:(i:Int)<=(n:Int)+1:=by omega
 have ad:¬(a=i):=by omega
 go_enter func267,ntmps267;go_wp2_with(simp only[F])
 go_region_law (refine KK rfl _ _ 210 210 rfl _ _ (by simp[Act.eval,Act.put]) (by simp[Act.eval,Act.put]) G ?_)
 go_wp2_with(at_builtin;refine D4 _ rfl _ _ 210 210 rfl _ _ rfl rfl H ?_);go_ret;exact⟨rfl,Da E⟩
theorem ZkB(w:World)(g n b:Nat)(xs L:F0)(i t:Nat)(c:F0)(d:FX w g 293 L)(ae:L.length=b*3)(s:L.take (n*3)=xs)(hi:i<n)(ap:n<=b)(am:b<n+1)(hn:n<=10000)(D:FX w t 293 c)(r:c.length=3)(J:∀u∈xs,u.oneCell'=true)(I:∀u∈c,u.oneCell'=true):
  Cl 267 #[.slice (some ⟨g,0,none⟩) n b,.int .i64 i,.slice (some ⟨t,0,none⟩) 1 1] w λe w'=>∃G Z,e=.returned (.slice (some ⟨w.heap.size,0,none⟩) (n+1) G)/\n+1<=G/\G<=maxLen/\(xs.take (i*3)++Z).length=G*3/\
   FX w' w.heap.size 293 (F2 (F2 (xs.take (i*3)++Z) (i*3) c) ((i+1)*3) (xs.drop (i*3)))/\w.grownBy w' (some w.heap.size):=by
 have X:xs.length=n*3:=by rw[<-s,An];omega
 have A:(xs.drop (i*3)).length=(n-i)*3:=by rw[Az,X];omega
 obtain⟨i0,R,Y,aa,E⟩:=BT PL;have W:∀j u,xs[j]?=some u->w.cell? ⟨g,j,none⟩=some u:=λj u a=>by
  rw[d.cell];rw[<-s,Ao]at a
  split at a
  ·exact a
  ·cases a
 have U:(Builtin.firstCells i0.size i (.slice (some ⟨g,0,none⟩) i b)).run prog w.drew=.ok (xs.take (i*3)).toArray w.drew:=by
  rw[aa];exact EZ w.drew 3 i ⟨g,0,none⟩ i b (xs.take (i*3)) (by rw[An];omega) (λj v q=>by
   rw[AI,Av];rw[Ao]at q
   split at q
   ·exact W j v q
   ·cases q)
 have C:i+(n+1-i)=n+1:=by omega
 have S:(n:Int)+1-(i:Int)=((n+1-i:Nat):Int):=by omega
 obtain⟨G,p⟩:=ex (grownCap w (n+1) b 293);obtain⟨Z,z⟩:∃Z:Array Value,Z=Builtin.zeroCells (Value.agg #[.int .i64 0,.slice none 0 0,.int .i64 0]).cells (n+1-i)++Builtin.zeroCells (Value.agg #[.int .i64 0,.slice none 0 0,.int .i64 0]).cells (G-(n+1)):=⟨_,rfl⟩;have V:∀ty,(Builtin.append_ #[210,3] ty #[.slice (some ⟨g,0,none⟩) i b,.int .i64 ((n:Int)+1-(i:Int))]).run prog w =
   .ok (.slice (some ⟨w.heap.size,0,none⟩) (n+1) G) (w.drew.alloc (.cells (xs.take (i*3)++Z.toList).toArray 293)):=λty=>by
  have h:=ET w 210 3 ty 293 i0 _ .i64 .i64 underlying210 underlying3 R Y (some ⟨g,0,none⟩) i b (xs.take (i*3)) U (n+1-i) (by omega) (by omega) (by omega) (by omega) (by rw[E];omega) (by rw[E,C];exact Fm (by omega) (by omega));rw[C,<-p]at h;rw[S,h,z]
  congr 2
  simp[Array.append_assoc]
 have ad:n+1<=G:=by rw[p];exact grownCap_ge w _ _ _
 have x:G<=maxLen:=by rw[p];exact EJ w _ _ _ (by unfold maxLen;omega)
 have f:(xs.take (i*3)++Z.toList).length=G*3:=by
  have e1:Z.size=(n+1-i)*3+(G-(n+1))*3:=by rw[z,EQ,Eh,Eh];rfl
  have e2:Z.toList.length=Z.size:=AG;rw[Ab,An,e2,e1];omega
 have y:FX (w.drew.alloc (.cells (xs.take (i*3)++Z.toList).toArray 293)) w.heap.size 293 (xs.take (i*3)++Z.toList):=CQ w.drew _;have l:w.grownBy (w.drew.alloc (.cells (xs.take (i*3)++Z.toList).toArray 293)) (some w.heap.size):=⟨rfl,rfl,rfl,by simp,λk hk _=>BH w.drew _ k hk⟩;obtain⟨m,O⟩:=ex (w.drew.alloc (.cells (xs.take (i*3)++Z.toList).toArray 293));rw[<-O]at V y l;have T:FX m t 293 c:=D.kept l (by have:=D.lt;simp;omega);obtain⟨o,af,M,B⟩:=JS (P:=prog) m 210 210 3 293 3 w.heap.size (i*3) (n+1-i) (G-i) ⟨t,0,none⟩ 1 1 _ 293 c underlying210 U0 y
  (by rw[r];simp only[C5];split<;>omega)
  (λj u a=>by rw[AI,Av,T.cell];exact a) (by rw[f,r];omega) I
 have K:FX o g 293 L:=(d.kept l (by have:=d.lt;simp;omega)).kept B (by have:=d.lt;simp;omega);obtain⟨F,ag,N,Q⟩:=JS (P:=prog) o.drew 210 210 3 293 3 w.heap.size ((i+1)*3) (n-i) (G-(i+1)) ⟨g,i*3,none⟩ (n-i) (b-i) _ 293 (xs.drop (i*3)) underlying210 U0 M
  (by rw[A];simp only[C5];split<;>omega)
  (λj u a=>by
   rw[AI,show(o.drew.cell? ⟨g,i*3+j,none⟩)=L[i*3+j]? from K.cell _];rw[Bf,<-s,Ao]at a
   split at a
   ·exact a
   ·cases a) (by rw[DX (by rw[f,r];omega),f,A];omega) (λu a=>J u (BG a))
 have H:(xs.take (i*3)++Z.toList).length=G*3/\FX F w.heap.size 293 (F2 (F2 (xs.take (i*3)++Z.toList) (i*3) c) ((i+1)*3) (xs.drop (i*3)))/\w.grownBy F (some w.heap.size):=
  ⟨f,N,JU l (JU B (JU (QW (QX o _)) Q))⟩
 have ab:=Db H;have aj:G<=9223372036854775807:=by unfold maxLen at x;omega
 have ah:¬(G=i):=by omega
 have ai:¬(G=i+1):=by omega
 have an:¬(b=i):=by omega
 have ar:IntKind.i64.wrap ((i:Int)+1)=(i:Int)+1:=by rw[AV];omega
 have ak:(0:Int)<=(i:Int)+1:=by omega
 have ao:i<=n:=by omega
 have aq:((i:Int)+1).toNat=i+1:=by omega
 have al:(i:Int)<=(n:Int):=by omega
 clear H f y M N l B Q T K J I s A X ae r D d W U O p z C S R Y aa E;have ac:=Db x;clear x;go_enter func267,ntmps267;go_wp2_with(first
  |(at_builtin;refine A0 _ rfl _ _ _ _ rfl _ _ rfl rfl _ _ (V _) ?_)
  |(at_builtin;refine D4 _ rfl _ _ 210 210 rfl _ _ rfl rfl af ?_))
 go_region_law (refine KK rfl _ _ 210 210 rfl _ _ (by simp[Act.eval,Act.put]) (by simp[Act.eval,Act.put]) ag ?_)
 go_wp2;go_ret;exact⟨G,Z.toList,rfl,ad,Da ac,Da ab⟩
theorem Mv(w:World)(g n b:Nat)(xs L:F0)(i:Nat)(m:FX w g 293 L)(t:L.length=b*3)(v:L.take (n*3)=xs)(hi:i<n)(ai:n<=b)(D:b<=maxLen)(hn:n<=10000)(A:∀u∈xs,u.oneCell'=true):
  Cl 269 #[.slice (some ⟨g,0,none⟩) n b,.int .i64 i,.int .i64 ((i:Int)+1)] w λe w'=>e=.returned (.slice (some ⟨g,0,none⟩) (n-1) b)/\
   FX w' g 293 (F2 (F2 L (i*3) (xs.drop ((i+1)*3))) ((n-1)*3) [.int .i64 0,.slice none 0 0,.int .i64 0])/\w.grownBy w' (some g):=by
 have I:xs.length=n*3:=by rw[<-v,An];omega
 have l:(xs.drop ((i+1)*3)).length=(n-(i+1))*3:=by rw[Az,I];omega
 obtain⟨Q,G,N,r,O⟩:=BT PL;have H:F2 L (i*3) (xs.drop ((i+1)*3))=L.toArray.toList.take (i*3)++xs.drop ((i+1)*3)++L.toArray.toList.drop (i*3+(xs.drop ((i+1)*3)).length):=rfl;obtain⟨f,o⟩:=ex (w.drew.setRow g (F2 L (i*3) (xs.drop ((i+1)*3))).toArray);have p:∀(a:Addr) (c:Nat),(n-(i+1)≠0->a=⟨g,(i+1)*3,none⟩)->(Builtin.append_ #[210,210] 210 #[.slice (some ⟨g,0,none⟩) i b,.slice (some a) (n-(i+1)) c]).run prog w.drew=.ok (.slice (some ⟨g,0,none⟩) (n-1) b) f:=λa c J=>by
  have h:=run_append_room (P:=prog) w.drew 210 210 293 Q underlying210 G g i b L.toArray m a (n-(i+1)) c (xs.drop ((i+1)*3)) (by rw[r];exact l)
   (λj u d=>by
    by_cases z:n-(i+1)=0
    ·have:xs.drop ((i+1)*3)=[]:=AA (by rw[l,z]);rw[this]at d;cases d
    ·rw[J z,AI,show(w.drew.cell? ⟨g,(i+1)*3+j,none⟩)=L[(i+1)*3+j]? from m.cell _];rw[Bf,<-v,Ao]at d
     split at d
     ·exact d
     ·cases d) (λu d=>A u (BG d)) (by omega) (by rw[r,l];simp[t];omega)
  rw[h,o,H,r,show i+(n-(i+1))=n-1 by omega]
 have B:FX f g 293 (F2 L (i*3) (xs.drop ((i+1)*3))):=by rw[o];exact BW w.drew g L.toArray _ 293 _ m
 have E:w.grownBy f (some g):=by rw[o];exact⟨rfl,rfl,rfl,by simp,λk _ M=>BD w.drew g k _ (λe=>M (by rw[e]))⟩
 obtain⟨x,q,C,F⟩:=XE (P:=prog) f 210 293 0 (.agg #[.int .i64 0,.slice none 0 0,.int .i64 0]) underlying210 (λ_=>by kernel_rfl) [.int .i64 0,.slice none 0 0,.int .i64 0] (by kernel_rfl) (by simp[Value.oneCell']) g ((n-1)*3) (b-(n-1)) _ 293 B (by rw[DX (by rw[l];omega),t];simp;omega);have y:FX x g 293 (F2 (F2 L (i*3) (xs.drop ((i+1)*3))) ((n-1)*3) [.int .i64 0,.slice none 0 0,.int .i64 0])/\w.grownBy x (some g):=⟨C,JU E F⟩;have s:=Db y;have ag:b<=9223372036854775807:=by unfold maxLen at D;omega
 have aa:(0:Int)<=(i:Int)+1:=by omega
 have ak:((i:Int)+1).toNat=i+1:=by omega
 have ab:(i:Int)<=(n:Int):=by omega
 have ac:(i:Int)+1<=(n:Int):=by omega
 have ad:(i:Int)<=(i:Int)+1:=by omega
 have ae:(i:Int)<=(b:Int):=by omega
 have af:¬(b=n-1):=by omega
 have ah:n-(n-1)=1:=by omega
 have aj:((i:Int)==(i:Int)+1)=false:=by rw[Bm];omega
 clear y B C E F o H m v l I t A G N r O D;go_enter func269,ntmps269;by_cases K:b=i+1
 ·subst K;obtain rfl:n=i+1:=by omega
  rw[Nat.sub_self]at p;rw[Nat.add_sub_cancel]at p s q;rw[Ff]at q;go_wp2
  go_region_law (refine JV rfl _ _ 210 210 rfl _ _ (by simp[Act.eval,Act.put]) (by simp[Act.eval,Act.put]) (p ⟨g,0,none⟩ 0 (λh=>absurd h (by omega))) ?_)
  go_wp2_with(at_builtin;refine OD _ rfl _ 210 rfl _ rfl q ?_);go_ret;exact⟨rfl,Da s⟩
 ·go_wp2
  go_region_law (refine JV rfl _ _ 210 210 rfl _ _ (by simp[Act.eval,Act.put]) (by simp[Act.eval,Act.put]) (p ⟨g,(i+1)*3,none⟩ (b-(i+1)) (λ_=>rfl)) ?_)
  go_wp2_with(at_builtin;refine OD _ rfl _ 210 rfl _ rfl q ?_);go_ret;exact⟨rfl,Da s⟩
theorem T7:∀l:List UInt8,Op.bytesLess l l=false
 |[]=>rfl
 |a::l=>by simp[Op.bytesLess,T7 l]
theorem T1:∀a b c:List UInt8,Op.bytesLess a b=true->Op.bytesLess b c=true->Op.bytesLess a c=true
 |[],[],_,h,_=>by simp[Op.bytesLess]at h
 |[],_::_,[],_,h=>by simp[Op.bytesLess]at h
 |[],_::_,_::_,_,_=>by simp[Op.bytesLess]
 |_::_,[],_,h,_=>by simp[Op.bytesLess]at h
 |_::_,_::_,[],_,h=>by simp[Op.bytesLess]at h
 |a::x,b::y,c::z,e,d=>by
  simp only[Op.bytesLess,FM,A6,AH,EF]at e d ⊢;rcases e with e|⟨rfl,e⟩
  ·rcases d with d|⟨rfl,d⟩
   ·exact .inl (UInt8.lt_trans e d)
   ·exact .inl e
  ·rcases d with d|⟨rfl,d⟩
   ·exact .inl d
   ·exact .inr ⟨rfl,T1 x y z e d⟩
theorem T0:∀a b:List UInt8,Op.bytesLess a b=false->a≠b->Op.bytesLess b a=true
 |[],[],_,h=>absurd rfl h
 |[],_::_,h,_=>by simp[Op.bytesLess]at h
 |_::_,[],_,_=>by simp[Op.bytesLess]
 |a::x,b::y,h,hne=>by
  simp only[Op.bytesLess,Bool.or_eq_false_iff,decide_eq_false_iff_not,Bool.and_eq_false_iff,Bm]at h;simp only[Op.bytesLess,FM,A6,AH,EF];by_cases e:a=b
  ·subst e;refine .inr ⟨rfl,T0 x y (h.2.resolve_left (λk=>k rfl)) (λk=>hne (by rw[k]))⟩
  ·refine .inl ?_;have c:=h.1;rw[UInt8.lt_iff_toNat_lt]at c ⊢;have h2:a.toNat≠b.toNat:=λk=>e (UInt8.toNat_inj.1 k)
   omega
theorem KM(a:By):Hf a a=false:=T7 _
theorem Oe{a b c:By}(h:Hf a b=true)(k:Hf b c=true):Hf a c=true:=T1 _ _ _ h k
theorem Xg{a b:By}(h:a.toList=b.toList):a=b:=by
 rw[Ez,Ez]at h;exact A8 h
theorem ZlR{a b:By}(h:Hf a b=false)(c:a≠b):Hf b a=true:=T0 _ _ h (λe=>c (Xg e))
theorem SU(a b:By):K2 a b<0↔Hf a b=true:=by
 unfold K2;split
 ·simp[*]
 ·split<;>simp[*]
theorem ZmK(a b:By):K2 a b=0↔a=b:=by
 unfold K2;split
 ·rename_i h;simp only[show((-1:Int)=0)=False by simp,false_iff];rintro rfl;rw[KM]at h;cases h
 ·split
  ·rename_i h;simp[Xg h]
  ·rename_i h;simp only[show((1:Int)=0)=False by simp,false_iff];rintro rfl;exact h rfl
def GK(a b:Int):Bool:=decide (a<b)
theorem Qb(a:Int):GK a a=false:=by simp[GK]
theorem Od{a b c:Int}(h:GK a b=true)(k:GK b c=true):GK a c=true:=by simp[GK]at *;omega
theorem Wj{a b:Int}(h:GK a b=false)(aa:a≠b):GK b a=true:=by simp[GK]at *;omega
theorem U9(a b:Int):Kg a b<0↔GK a b=true:=by
 unfold Kg GK;split
 ·simp[*]
 ·split<;>simp[*]
theorem Vn(a b:Int):Kg a b=0↔a=b:=by
 unfold Kg;split
 ·simp;omega
 ·split<;>simp[*]
structure VS where
 p:OA
 f:Int
structure VF where
 a:OA
 l:Nat
 c:Nat
 f:Int
def Hl(x:By×VS):F0:=[.string x.1,.pointer x.2.p,.int .i64 x.2.f]
def Dm(es:List (By×VS)):F0:=es.flatMap Hl
theorem XC(es:List (By×VS)):(Dm es).length=es.length*3:=by
 induction es with
 |nil=>rfl
 |cons a l ih=>simp[Dm,Hl]at ih ⊢;omega
theorem XB(a b:List (By×VS)):Dm (a++b)=Dm a++Dm b:=by simp[Dm]
theorem W0(es:List (By×VS))(i:Nat):(Dm es).take (i*3)=Dm (es.take i):=by
 induction es generalizing i with
 |nil=>simp[Dm]
 |cons a l ih=>
  cases i with
  |zero=>simp[Dm]
  |succ i=>
   have:=ih i;simp only[Dm,A1,E4]at this ⊢;rw[<-this,show(i+1)*3=(Hl a).length+i*3 by simp[Hl];omega,CJ]
theorem WZ(es:List (By×VS))(i:Nat):(Dm es).drop (i*3)=Dm (es.drop i):=by
 induction es generalizing i with
 |nil=>simp[Dm]
 |cons a l ih=>
  cases i with
  |zero=>simp[Dm]
  |succ i=>
   have:=ih i;simp only[Dm,A1,C6]at this ⊢;rw[<-this,show(i+1)*3=(Hl a).length+i*3 by simp[Hl];omega,CK]
theorem N8(es:List (By×VS)):∀u∈Dm es,u.oneCell'=true:=by
 intro u a;simp only[Dm,EC,Hl,AC,Fw,or_false]at a;obtain⟨x,_,rfl|rfl|rfl⟩:=a<;>simp[Value.oneCell']
theorem QN(es:List (By×VS))(k:Nat)(x:By×VS)(h:es[k]?=some x):(Dm es)[k*3]?=some (.string x.1)/\(Dm es)[k*3+1]?=some (.pointer x.2.p)/\(Dm es)[k*3+2]?=some (.int .i64 x.2.f):=by
 induction es generalizing k with
 |nil=>simp at h
 |cons a l ih=>
  cases k with
  |zero=>simp at h;subst h;simp[Dm,Hl]
  |succ k=>
   simp at h;have:=ih k h;simp only[Dm,A1]at this ⊢;have e:∀r,(Hl a++List.flatMap Hl l)[(k+1)*3+r]?=(List.flatMap Hl l)[k*3+r]? := λr=>by
    rw[AS (by simp[Hl];omega)];congr 1;simp[Hl];omega
   have b:=e 0;simp only[Ef]at b;rw[b,e 1,e 2];exact this
def Ge(es:List (By×VS)):Prop:=∀(j k:Nat) (x y:By×VS),j<k->es[j]?=some x->es[k]?=some y->Hf x.1 y.1=true
def LC(es:List (By×VS))(t:By)(i:Nat)(b:Bool):Prop:=
 i<=es.length/\(∀k x,k<i->es[k]?=some x->Hf x.1 t=true)/\(∀k x,i<=k->es[k]?=some x->Hf x.1 t=false)/\(b=true↔∃x,es[i]?=some x/\x.1=t)
theorem SA(x:By×VS)(a:By)(w:World):Cl 294 #[.agg #[.string x.1,.pointer x.2.p,.int .i64 x.2.f],.string a] w λe w'=>e=.returned (.int .i64 (K2 x.1 a))/\Bw w w':=by
 go_enter func294,ntmps294;go_wp2_with(go_at_call 295;refine(Zn2 _ _ _).mono ?_;rintro e w'⟨rfl,rfl⟩);go_ret;exact⟨rfl,(Ak _ _).alloc (Aa _) _⟩
theorem Ns(g n K:Nat)(c:Nat->By×VS)(f:By)(w:World)(hn:n<=10000)(l:∀k,k<n->w.cell? ⟨g,k*3,none⟩=some (.string (c k).1))(m:∀k,k<n->w.cell? ⟨g,k*3+1,none⟩=some (.pointer (c k).2.p))(o:∀k,k<n->w.cell? ⟨g,k*3+2,none⟩=some (.int .i64 (c k).2.f))(H:∀j k,j<k->k<n->Hf (c j).1 (c k).1=true):
  Cl 293 #[.slice (some ⟨g,0,none⟩) n K,.string f,.func (.func 294) #[] #[]] w λe w'=>∃(i:Nat) (b:Bool),e=.returned (.tuple #[.int .i64 i,.bool b])/\
   (i<=n/\(∀k,k<i->Hf (c k).1 f=true)/\(∀k,i<=k->k<n->Hf (c k).1 f=false)/\(b=true↔i<n/\(c i).1=f))/\Bw w w':=by
 have B:=Db H;clear H;go_enter func293,ntmps293;go_wp2_with fail
 go_loopw [9,10] (λi j wr=>∃a b:Nat,i=.int .i64 a/\j=.int .i64 b/\a<=b/\b<=n/\Hid (∀k,k<a->Hf (c k).1 f=true)/\Hid (∀k,b<=k->k<n->Hf (c k).1 f=false)/\Bw w wr) (λi j _=>(intOf j-intOf i).toNat)
 case atStart=>exact⟨0,n,rfl,rfl,Au _,Aa _,λ_ h=>absurd h (Eo _),λk L x=>absurd x (by omega),Ak _ _⟩
 case round=>
  obtain⟨a,b,rfl,rfl,aa,y,A,z,d⟩:=hrel;by_cases ab:a<b
  ·have u:(a+b)/2<n:=by omega
   have q:g<w.heap.size:=Am _ _ (l _ u);have M:=(d.cell (p:=⟨g,(a+b)/2*3,none⟩) q).trans (l _ u);have N:=(d.cell (p:=⟨g,(a+b)/2*3+1,none⟩) q).trans (m _ u);have O:=(d.cell (p:=⟨g,(a+b)/2*3+2,none⟩) q).trans (o _ u);have C:=Db l;have D:=Db m;have E:=Db o;clear l m o;go_wp2_with fail;refine(SA (c ((a+b)/2)) _ _).mono ?_;rintro e w'⟨rfl,v⟩;by_cases F:K2 (c ((a+b)/2)).1 f<0
   ·have t:=(SU _ _).1 F;have s:=Db t;clear t;go_wp2
    go_roundw
    case rel=>
     refine⟨(a+b)/2+1,b,by go_num,rfl,by omega,y,λk hk=>?_,z,d.trans (v.mono d.size)⟩;rcases Bh k ((a+b)/2) with h|h
     ·exact Oe (Da B _ _ h u) (Da s)
     ·obtain rfl:k=(a+b)/2:=by omega
      exact Da s
    case measure=>simp[intOf];omega
   ·have t:Hf (c ((a+b)/2)).1 f=false:=by
     cases h:Hf (c ((a+b)/2)).1 f with
     |false=>rfl
     |true=>exact absurd ((SU _ _).2 h) F
    have s:=Db t;clear t;go_wp2
    go_roundw
    case rel=>
     refine⟨a,(a+b)/2,rfl,by go_num,by omega,by omega,A,λk L x=>?_,d.trans (v.mono d.size)⟩;rcases Bh ((a+b)/2) k with h|h
     ·cases G:Hf (c k).1 f with
      |false=>rfl
      |true=>exact absurd (Oe (Da B _ _ h x) G) (by rw[Da s];simp)
     ·obtain rfl:k=(a+b)/2:=by omega
      exact Da s
    case measure=>simp[intOf];omega
  ·obtain rfl:a=b:=by omega
   by_cases r:a<n
   ·have q:g<w.heap.size:=Am _ _ (l _ r);have M:=(d.cell (p:=⟨g,a*3,none⟩) q).trans (l _ r);have N:=(d.cell (p:=⟨g,a*3+1,none⟩) q).trans (m _ r);have O:=(d.cell (p:=⟨g,a*3+2,none⟩) q).trans (o _ r);have C:=Db l;have D:=Db m;have E:=Db o;clear l m o;go_wp2_with fail;refine(SA (c a) _ _).mono ?_;rintro e w'⟨rfl,v⟩;have I:=ZmK (c a).1 f;have J:=Db I;clear I;go_wp2
    go_ret2
    refine⟨a,_,rfl,⟨y,A,z,?_⟩,d.trans (v.mono d.size)⟩;simp[Da J,r]
   ·have G:decide (((a:Nat):Int)<(n:Int))=false:=by simp;omega
    have C:=Db l;have D:=Db m;have E:=Db o;clear l m o;go_wp2
    go_ret2
    exact⟨a,_,rfl,⟨y,A,z,by simp[r]⟩,d⟩
theorem MX(v:Value)(es:List (By×VS))(l:By)(w:World)(B:Sl w 310 3 v es.length (Dm es))(F:es.length<=10000)(G:Ge es):
  Cl 293 #[v,.string l,.func (.func 294) #[] #[]] w λe w'=>∃(i:Nat) (b:Bool),e=.returned (.tuple #[.int .i64 i,.bool b])/\LC es l i b/\Bw w w':=by
 rcases B.2 with⟨rfl,z⟩|⟨g,r,L,rfl,A,hc,aa,hL,C⟩
 ·have:es=[]:=AA z;subst this;go_enter func293,ntmps293;go_wp2_with fail
  go_loopw [9,10] (λi j wr=>i=.int .i64 0/\j=.int .i64 0/\wr=w) (λ_ _ _=>0)
  case atStart=>exact⟨rfl,rfl,rfl⟩
  case round=>
   obtain⟨rfl,rfl,rfl⟩:=hrel;go_wp2
   go_ret2
   exact⟨0,false,rfl,⟨Au _,λk x h _=>absurd h (Eo _),λk x _ h=>by simp at h,by simp⟩,Ak _ _⟩
 ·have o:∀j u,(Dm es)[j]?=some u->w.cell? ⟨g,j,none⟩=some u:=λj u f=>by
   rw[A.cell];rw[<-C,Ao]at f
   split at f
   ·exact f
   ·cases f
  cases hes:es with
  |nil=>
   subst hes;refine(Ns g 0 r (λ_=>(⟨#[]⟩,⟨none,0⟩)) l w (by omega) (λk h=>absurd h (by omega)) (λk h=>absurd h (by omega)) (λk h=>absurd h (by omega)) (λj k _ h=>absurd h (by omega))).mono ?_;rintro e w'⟨i,b,rfl,⟨s,t,y,m⟩,n⟩;obtain rfl:i=0:=by omega
   exact⟨0,b,rfl,⟨Aa _,λk x h _=>absurd h (by omega),λk x _ h=>by simp at h,by rw[m];simp⟩,n⟩
  |cons x0 l0=>
   rw[<-hes];have d:∀k,k<es.length->es[k]?=some (es.getD k x0):=λk a=>by simp[List.getD,List.getElem?_eq_getElem a]
   refine(Ns g es.length r (λk=>es.getD k x0) l w F (λk a=>o _ _ (QN es k _ (d k a)).1) (λk a=>o _ _ (QN es k _ (d k a)).2.1) (λk a=>o _ _ (QN es k _ (d k a)).2.2)
    (λj k E a=>G j k _ _ E (d j (by omega)) (d k a))).mono ?_
   rintro e w'⟨i,b,rfl,⟨s,t,y,m⟩,n⟩;have p:∀k x,es[k]?=some x->k<es.length:=λk x h=>(Ae.1 h).1
   have q:∀k x,es[k]?=some x->x=es.getD k x0:=λk x h=>by have:=d k (p k x h);rw[h]at this;exact BR this
   refine⟨i,b,rfl,⟨s,λk x a c=>?_,λk x a c=>?_,?_⟩,n⟩
   ·rw[q k x c];exact t k a
   ·rw[q k x c];exact y k a (p k x c)
   ·rw[m];constructor
    ·rintro⟨D,e⟩;exact⟨_,d i D,e⟩
    ·rintro⟨x,c,e⟩;exact⟨p i x c,by rw[<-e,q i x c]⟩
def G9(x:Int×VF):F0:=[.int .i64 x.1,.slice x.2.a x.2.l x.2.c,.int .i64 x.2.f]
def Dq(es:List (Int×VF)):F0:=es.flatMap G9
theorem RU(es:List (Int×VF)):(Dq es).length=es.length*3:=by
 induction es with
 |nil=>rfl
 |cons a l ih=>simp[Dq,G9]at ih ⊢;omega
theorem XA(a b:List (Int×VF)):Dq (a++b)=Dq a++Dq b:=by simp[Dq]
theorem WY(es:List (Int×VF))(i:Nat):(Dq es).take (i*3)=Dq (es.take i):=by
 induction es generalizing i with
 |nil=>simp[Dq]
 |cons a l ih=>
  cases i with
  |zero=>simp[Dq]
  |succ i=>
   have:=ih i;simp only[Dq,A1,E4]at this ⊢;rw[<-this,show(i+1)*3=(G9 a).length+i*3 by simp[G9];omega,CJ]
theorem WX(es:List (Int×VF))(i:Nat):(Dq es).drop (i*3)=Dq (es.drop i):=by
 induction es generalizing i with
 |nil=>simp[Dq]
 |cons a l ih=>
  cases i with
  |zero=>simp[Dq]
  |succ i=>
   have:=ih i;simp only[Dq,A1,C6]at this ⊢;rw[<-this,show(i+1)*3=(G9 a).length+i*3 by simp[G9];omega,CK]
theorem N7(es:List (Int×VF)):∀u∈Dq es,u.oneCell'=true:=by
 intro u a;simp only[Dq,EC,G9,AC,Fw,or_false]at a;obtain⟨x,_,rfl|rfl|rfl⟩:=a<;>simp[Value.oneCell']
theorem QL(es:List (Int×VF))(k:Nat)(x:Int×VF)(h:es[k]?=some x):(Dq es)[k*3]?=some (.int .i64 x.1)/\(Dq es)[k*3+1]?=some (.slice x.2.a x.2.l x.2.c)/\(Dq es)[k*3+2]?=some (.int .i64 x.2.f):=by
 induction es generalizing k with
 |nil=>simp at h
 |cons a l ih=>
  cases k with
  |zero=>simp at h;subst h;simp[Dq,G9]
  |succ k=>
   simp at h;have:=ih k h;simp only[Dq,A1]at this ⊢;have e:∀r,(G9 a++List.flatMap G9 l)[(k+1)*3+r]?=(List.flatMap G9 l)[k*3+r]? := λr=>by
    rw[AS (by simp[G9];omega)];congr 1;simp[G9];omega
   have b:=e 0;simp only[Ef]at b;rw[b,e 1,e 2];exact this
def Gm(es:List (Int×VF)):Prop:=∀(j k:Nat) (x y:Int×VF),j<k->es[j]?=some x->es[k]?=some y->GK x.1 y.1=true
def Lg(es:List (Int×VF))(t:Int)(i:Nat)(b:Bool):Prop:=
 i<=es.length/\(∀k x,k<i->es[k]?=some x->GK x.1 t=true)/\(∀k x,i<=k->es[k]?=some x->GK x.1 t=false)/\(b=true↔∃x,es[i]?=some x/\x.1=t)
theorem Sy(x:Int×VF)(a:Int)(w:World):Cl 259 #[.agg #[.int .i64 x.1,.slice x.2.a x.2.l x.2.c,.int .i64 x.2.f],.int .i64 a] w λe w'=>e=.returned (.int .i64 (Kg x.1 a))/\Bw w w':=by
 go_enter func259,ntmps259;go_wp2_with(go_at_call 260;refine(Zn4 _ _ _).mono ?_;rintro e w'⟨rfl,rfl⟩);go_ret;exact⟨rfl,(Ak _ _).alloc (Aa _) _⟩
theorem Nu(g n K:Nat)(c:Nat->Int×VF)(f:Int)(w:World)(hn:n<=10000)(l:∀k,k<n->w.cell? ⟨g,k*3,none⟩=some (.int .i64 (c k).1))(m:∀k,k<n->w.cell? ⟨g,k*3+1,none⟩=some (.slice (c k).2.a (c k).2.l (c k).2.c))(o:∀k,k<n->w.cell? ⟨g,k*3+2,none⟩=some (.int .i64 (c k).2.f))(H:∀j k,j<k->k<n->GK (c j).1 (c k).1=true):
  Cl 258 #[.slice (some ⟨g,0,none⟩) n K,.int .i64 f,.func (.func 259) #[] #[]] w λe w'=>∃(i:Nat) (b:Bool),e=.returned (.tuple #[.int .i64 i,.bool b])/\
   (i<=n/\(∀k,k<i->GK (c k).1 f=true)/\(∀k,i<=k->k<n->GK (c k).1 f=false)/\(b=true↔i<n/\(c i).1=f))/\Bw w w':=by
 have B:=Db H;clear H;go_enter func258,ntmps258;go_wp2_with fail
 go_loopw [9,10] (λi j wr=>∃a b:Nat,i=.int .i64 a/\j=.int .i64 b/\a<=b/\b<=n/\Hid (∀k,k<a->GK (c k).1 f=true)/\Hid (∀k,b<=k->k<n->GK (c k).1 f=false)/\Bw w wr) (λi j _=>(intOf j-intOf i).toNat)
 case atStart=>exact⟨0,n,rfl,rfl,Au _,Aa _,λ_ h=>absurd h (Eo _),λk L x=>absurd x (by omega),Ak _ _⟩
 case round=>
  obtain⟨a,b,rfl,rfl,aa,y,A,z,d⟩:=hrel;by_cases ab:a<b
  ·have u:(a+b)/2<n:=by omega
   have q:g<w.heap.size:=Am _ _ (l _ u);have M:=(d.cell (p:=⟨g,(a+b)/2*3,none⟩) q).trans (l _ u);have N:=(d.cell (p:=⟨g,(a+b)/2*3+1,none⟩) q).trans (m _ u);have O:=(d.cell (p:=⟨g,(a+b)/2*3+2,none⟩) q).trans (o _ u);have C:=Db l;have D:=Db m;have E:=Db o;clear l m o;go_wp2_with fail;refine(Sy (c ((a+b)/2)) _ _).mono ?_;rintro e w'⟨rfl,v⟩;by_cases F:Kg (c ((a+b)/2)).1 f<0
   ·have t:=(U9 _ _).1 F;have s:=Db t;clear t;go_wp2
    go_roundw
    case rel=>
     refine⟨(a+b)/2+1,b,by go_num,rfl,by omega,y,λk hk=>?_,z,d.trans (v.mono d.size)⟩;rcases Bh k ((a+b)/2) with h|h
     ·exact Od (Da B _ _ h u) (Da s)
     ·obtain rfl:k=(a+b)/2:=by omega
      exact Da s
    case measure=>simp[intOf];omega
   ·have t:GK (c ((a+b)/2)).1 f=false:=by
     cases h:GK (c ((a+b)/2)).1 f with
     |false=>rfl
     |true=>exact absurd ((U9 _ _).2 h) F
    have s:=Db t;clear t;go_wp2
    go_roundw
    case rel=>
     refine⟨a,(a+b)/2,rfl,by go_num,by omega,by omega,A,λk L x=>?_,d.trans (v.mono d.size)⟩;rcases Bh ((a+b)/2) k with h|h
     ·cases G:GK (c k).1 f with
      |false=>rfl
      |true=>exact absurd (Od (Da B _ _ h x) G) (by rw[Da s];simp)
     ·obtain rfl:k=(a+b)/2:=by omega
      exact Da s
    case measure=>simp[intOf];omega
  ·obtain rfl:a=b:=by omega
   by_cases r:a<n
   ·have q:g<w.heap.size:=Am _ _ (l _ r);have M:=(d.cell (p:=⟨g,a*3,none⟩) q).trans (l _ r);have N:=(d.cell (p:=⟨g,a*3+1,none⟩) q).trans (m _ r);have O:=(d.cell (p:=⟨g,a*3+2,none⟩) q).trans (o _ r);have C:=Db l;have D:=Db m;have E:=Db o;clear l m o;go_wp2_with fail;refine(Sy (c a) _ _).mono ?_;rintro e w'⟨rfl,v⟩;have I:=Vn (c a).1 f;have J:=Db I;clear I;go_wp2
    go_ret2
    refine⟨a,_,rfl,⟨y,A,z,?_⟩,d.trans (v.mono d.size)⟩;simp[Da J,r]
   ·have G:decide (((a:Nat):Int)<(n:Int))=false:=by simp;omega
    have C:=Db l;have D:=Db m;have E:=Db o;clear l m o;go_wp2
    go_ret2
    exact⟨a,_,rfl,⟨y,A,z,by simp[r]⟩,d⟩
theorem MZ(v:Value)(es:List (Int×VF))(l:Int)(w:World)(B:Sl w 293 3 v es.length (Dq es))(F:es.length<=10000)(G:Gm es):
  Cl 258 #[v,.int .i64 l,.func (.func 259) #[] #[]] w λe w'=>∃(i:Nat) (b:Bool),e=.returned (.tuple #[.int .i64 i,.bool b])/\Lg es l i b/\Bw w w':=by
 rcases B.2 with⟨rfl,z⟩|⟨g,r,L,rfl,A,hc,aa,hL,C⟩
 ·have:es=[]:=AA z;subst this;go_enter func258,ntmps258;go_wp2_with fail
  go_loopw [9,10] (λi j wr=>i=.int .i64 0/\j=.int .i64 0/\wr=w) (λ_ _ _=>0)
  case atStart=>exact⟨rfl,rfl,rfl⟩
  case round=>
   obtain⟨rfl,rfl,rfl⟩:=hrel;go_wp2
   go_ret2
   exact⟨0,false,rfl,⟨Au _,λk x h _=>absurd h (Eo _),λk x _ h=>by simp at h,by simp⟩,Ak _ _⟩
 ·have o:∀j u,(Dq es)[j]?=some u->w.cell? ⟨g,j,none⟩=some u:=λj u f=>by
   rw[A.cell];rw[<-C,Ao]at f
   split at f
   ·exact f
   ·cases f
  cases hes:es with
  |nil=>
   subst hes;refine(Nu g 0 r (λ_=>(0,⟨none,0,0,0⟩)) l w (by omega) (λk h=>absurd h (by omega)) (λk h=>absurd h (by omega)) (λk h=>absurd h (by omega)) (λj k _ h=>absurd h (by omega))).mono ?_;rintro e w'⟨i,b,rfl,⟨s,t,y,m⟩,n⟩;obtain rfl:i=0:=by omega
   exact⟨0,b,rfl,⟨Aa _,λk x h _=>absurd h (by omega),λk x _ h=>by simp at h,by rw[m];simp⟩,n⟩
  |cons x0 l0=>
   rw[<-hes];have d:∀k,k<es.length->es[k]?=some (es.getD k x0):=λk a=>by simp[List.getD,List.getElem?_eq_getElem a]
   refine(Nu g es.length r (λk=>es.getD k x0) l w F (λk a=>o _ _ (QL es k _ (d k a)).1) (λk a=>o _ _ (QL es k _ (d k a)).2.1) (λk a=>o _ _ (QL es k _ (d k a)).2.2)
    (λj k E a=>G j k _ _ E (d j (by omega)) (d k a))).mono ?_
   rintro e w'⟨i,b,rfl,⟨s,t,y,m⟩,n⟩;have p:∀k x,es[k]?=some x->k<es.length:=λk x h=>(Ae.1 h).1
   have q:∀k x,es[k]?=some x->x=es.getD k x0:=λk x h=>by have:=d k (p k x h);rw[h]at this;exact BR this
   refine⟨i,b,rfl,⟨s,λk x a c=>?_,λk x a c=>?_,?_⟩,n⟩
   ·rw[q k x c];exact t k a
   ·rw[q k x c];exact y k a (p k x c)
   ·rw[m];constructor
    ·rintro⟨D,e⟩;exact⟨_,d i D,e⟩
    ·rintro⟨x,c,e⟩;exact⟨p i x c,by rw[<-e,q i x c]⟩
abbrev NS:=Nat->List (ByteArray×VS)
abbrev LS:=List (ByteArray×VS)
abbrev LF:=List (Int×VF)
end Go.Proofs.YtaieidcohdhgpaaGreatDoor
