/- Kept. -/
import Derived.Test.YtaieidcohdhgpaaGreatDoorProg
import Derived.PartsItems
import Derived.CheckFast
import Derived.HeadItems
import Derived.WalkLawsBesides
import Derived.WalkSpells
import Derived.BigQuiet
import Derived.Handy
import Derived.Lib.Overlaps
import Derived.Deep.RegionLaw
import Derived.Lib.AppendZerosOnto
theorem Eq.M{α:Sort _}{a b c:α}(h:a=b)(k:b=c):a=c:=h.trans k
abbrev Go.RowKit.Below.M:=@Go.RowKit.Below.trans
abbrev Iff.M:=@Iff.trans
abbrev List.Perm.M:=@List.Perm.trans
abbrev List.IsPrefix.M:=@List.IsPrefix.trans
abbrev HEq.M:=@HEq.trans
abbrev Go.Calls.Q:=@Go.Calls.mono
abbrev Go.RowKit.Below.Q:=@Go.RowKit.Below.mono
abbrev Go.CallsIn.Q:=@Go.CallsIn.mono
abbrev Go.RoundIn.Q:=@Go.RoundIn.mono
abbrev Go.CallsD.Q:=@Go.CallsD.mono
abbrev Go.RowKit.Below.J:=@Go.RowKit.Below.cell
abbrev Go.RowKit.Below.A:=@Go.RowKit.Below.frozen
theorem Eq.r{α:Sort _}{a b:α}(h:a=b):b=a:=h.symm
abbrev Ne.r:=@Ne.symm
abbrev Iff.r:=@Iff.symm
abbrev List.Perm.r:=@List.Perm.symm
namespace Go.Proofs.YtaieidcohdhgpaaGreatDoor
variable{K:Act->World->Prop}{C g n ty:Nat}{row:Option Nat}{P:Program}{E:Prop}{α β:Type}{e:TypeId}{w w':World}
set_option maxHeartbeats 40000000
set_option maxRecDepth 100000
set_option linter.all false
open Tryz
open Go.RowKit
theorem Ω{p:Prop}(h:p:=by omega):p:=h
theorem Φ{p:Prop}(h:p:=by kernel_rfl):p:=h
theorem Ψ{p:Prop}(h:p:=by assumption):p:=h
theorem Θ{p:Prop}(h:p:=by simp):p:=h
theorem Γ{p:Prop}(h:p:=by grind):p:=h
theorem Δ{p:Prop}(h:p:=by decide):p:=h
theorem Ξ{p:Prop}(h:p:=by simp_all):p:=h
@[simp] abbrev dQ(b i:Nat):Addr:=⟨b,i,none⟩
abbrev dP(b:Nat):Value:=.pointer (some ⟨b,0,none⟩)
abbrev dS(g n c:Nat):Value:=.slice (some ⟨g,0,none⟩) n c
abbrev dT(a:Option Addr)(n c:Nat):Value:=.slice a n c
abbrev dU(b:ByteArray):Value:=.string b
abbrev dR(v:Value):Ending:=.returned v
abbrev dV(b:Bool):Value:=.bool b
abbrev dN:Value:=.slice none 0 0
abbrev dI(n:Int):Value:=.int .i64 n
abbrev dC(w:World)(b i:Nat)(v:Value):Prop:=w.cell? ⟨b,i,none⟩=some v
abbrev Aa:=@Nat.le_refl
abbrev Ab:=@List.getElem?_eq_getElem
abbrev Ac:=@List.getElem?_eq_some_iff
abbrev Ad:=@Below.refl
abbrev Ae:=@Nat.le_trans
abbrev Af:=@ByteArray.size_extract
abbrev Ag:=@World.block_lt_of_cell?
abbrev Ah:=@List.length_append
abbrev Ai:=@List.mem_of_getElem?
abbrev Aj:=@ByteArray.size_append
abbrev Ak:=@List.take_of_length_le
abbrev Al:=@List.mem_append
abbrev Am:=@bodyPost_ret
abbrev An:=@decide_eq_true_eq
abbrev Ao:=@Nat.zero_le
abbrev Ap:=@List.getElem?_append_left
abbrev Ar:=@List.append_assoc
abbrev As:=@Nat.lt_of_lt_of_le
abbrev Au:=@Array.getElem?_eq_some_iff
abbrev Av:=@Nat.zero_add
abbrev Aw:=@Below.heap_setCell
abbrev Ax:=@List.mem_singleton
abbrev Ay:=@List.length_cons
abbrev AA:=@World.cell?_of_block
abbrev AB:=@List.mem_map
abbrev AC:=@List.eq_nil_of_length_eq_zero
abbrev AD:=@Nat.lt_or_ge
abbrev AE:=@List.map_append
abbrev AF:=@Array.length_toList
abbrev AG:=@Addr.add_lit
abbrev AH:=@List.nil_append
abbrev AI:=@IntKind.wrap_i64
abbrev AJ:=@List.getElem?_append_right
abbrev AK:=@List.cons_append
abbrev AM:=@List.mem_cons
abbrev AN:=@List.length_drop
abbrev AO:=@List.mem_cons_of_mem
abbrev AP:=@List.length_take
abbrev AQ:=@Bool.and_eq_true
abbrev AR:=@List.length_nil
abbrev AS:=@List.size_toArray
abbrev AT:=@List.length_map
abbrev AU:=@List.countP_append
abbrev AV:=@List.countP_le_length
abbrev AW:=@WideShapes.bytes_inj
abbrev AX:=@Array.replicate_zero
abbrev AY:=@Array.replicate_succ
abbrev AZ:=@List.getElem?_take
abbrev A0:=@List.take_append_of_le_length
abbrev A1:=@List.pairwise_iff_getElem
abbrev A2:=@List.drop_eq_getElem_cons
abbrev A3:=@List.getElem?_set_ne
abbrev A5:=@List.append_toArray
abbrev A6:=@List.map_cons
abbrev A7:=@wp_region_lit
abbrev A8:=@List.getElem?_map
abbrev A9:=@List.flatMap_cons
abbrev Ba:=@List.mem_append_left
abbrev Bc:=@setRow_other
abbrev Bd:=@of_decide_eq_true
abbrev Be:=@List.push_toArray
abbrev Bf:=@Int.toNat_natCast
abbrev Bg:=@callsIn_wide
abbrev Bh:=@wpList_store_row
abbrev Bj:=@List.pairwise_map
abbrev Bk:=@info_parts
abbrev Bl:=@List.length_range
abbrev Bm:=@List.countP_singleton
abbrev Bn:=@Nat.eq_zero_or_pos
abbrev Bo:=@setRow_heap
abbrev Bp:=@List.getElem?_eq_none
abbrev Br:=@List.take_add_one
abbrev Bs:=@beq_eq_false_iff_ne
abbrev Bu:=@List.take_succ_eq_append_getElem
abbrev Bv:=@heap_alloc_new
abbrev Bz:=@List.take_append_drop
abbrev BA:=@List.length_singleton
abbrev BB:=@List.length_replicate
abbrev BC:=@Value.slice.injEq
abbrev BD:=@List.take_length
abbrev BE:=@List.getElem_mem
abbrev BF:=@List.getElem?_drop
abbrev BH:=@Below.heap_alloc
abbrev BI:=@Nat.min_eq_left
abbrev BJ:=@List.countP_map
abbrev BM:=@Nat.add_sub_cancel_left
abbrev BN:=@List.set_append_right
abbrev BO:=@List.mem_iff_getElem?
abbrev BP:=@List.map_map
abbrev BQ:=@List.take_replicate
abbrev BR:=@ByteArray.toList_eq
abbrev BS:=@List.mem_of_mem_take
abbrev BU:=@List.take_append
abbrev BV:=@List.mem_cons_self
abbrev BW:=@Bool.true_eq_false
abbrev BX:=@List.nodup_iff_pairwise_ne
abbrev B2:=@Nat.mul_one
abbrev B8:=@List.range_succ
abbrev B9:=@List.length_set
abbrev Ca:=@List.append_nil
abbrev Cb:=@Result.andThen_ok
abbrev Cc:=@Array.getElem?_setIfInBounds
abbrev Cd:=@decide_eq_false
abbrev Ce:=@List.take_left'
abbrev Cf:=@List.nodup_cons
abbrev Cg:=@List.mem_append_right
abbrev Ch:=@List.map_congr_left
abbrev Ci:=@ByteArray.data_append
abbrev Cj:=@List.take_take
abbrev Ck:=@wpIn_wide
abbrev Cm:=@List.perm_ext_iff_of_nodup
abbrev Co:=@List.getElem?_of_mem
abbrev Cp:=@congrArg
abbrev Cq:=@Sem.run_bind
abbrev Cr:=@List.getElem?_set_self
abbrev Cs:=@List.drop_zero
abbrev Ct:=@wpList_make_full
abbrev Cu:=@Prod.mk.injEq
abbrev Cv:=@World.cell?_setCell_same
abbrev Cw:=@Nat.sub_self
abbrev Cx:=@List.dropLast_concat_getLast
abbrev Cy:=@List.take_zero
abbrev Cz:=@List.mem_range
abbrev CA:=@callsIn_of_wp
abbrev CC:=@List.pairwise_cons
abbrev CD:=@List.attach_map_subtype_val
abbrev CE:=@Bool.or_eq_true
abbrev CF:=@List.map_nil
abbrev CG:=@List.countP_cons
abbrev CJ:=@Nat.mul_le_mul_left
abbrev CK:=@List.getElem?_range
abbrev CL:=@run_underlying
abbrev CM:=@decide_eq_true
abbrev CN:=@World.cell?_setCell_other
abbrev CO:=@Option.map_some
abbrev CP:=@List.dropLast_append_of_ne_nil
abbrev CR:=@UInt8.toNat_ofNat'
abbrev CS:=@Option.getD_some
abbrev CT:=@toList_madeCells_one
abbrev CU:=@results_none
abbrev CV:=@Nat.le_of_eq
abbrev CX:=@Option.some.injEq
abbrev CY:=@Nat.lt_trichotomy
abbrev CZ:=@List.nodup_append
abbrev C1:=@List.ext_getElem?
abbrev C5:=@List.countP_eq_zero
abbrev C6:=@Function.comp_apply
abbrev C7:=@World.frozen?_of_block
abbrev C8:=@Int.tmod_eq_emod_of_nonneg
abbrev C9:=@Nat.add_comm
abbrev Ea:=@List.find?_eq_none
abbrev Eb:=@List.append_of_mem
abbrev Ec:=@Array.getElem?_toList
abbrev Ef:=@Nat.le_succ
abbrev Eg:=@List.nodup_nil
abbrev Eh:=@Array.getElem?_eq_getElem
abbrev Ei:=@List.dropLast_concat
abbrev Ej:=@List.getElem?_take_of_lt
abbrev Em:=@Bool.eq_iff_iff
abbrev Ep:=@Nat.add_zero
abbrev Et:=@List.getElem?_replicate
abbrev Eu:=@List.drop_replicate
abbrev Ev:=@List.append_cancel_left
abbrev Ew:=@Array.toList_append
abbrev Ex:=@List.not_mem_nil
abbrev Ey:=@List.mem_nil_iff
abbrev Ez:=@List.mem_flatMap
abbrev EA:=@List.drop_append_of_le_length
abbrev EB:=@List.any_eq_true
abbrev EC:=@bne_iff_ne
abbrev ED:=@Option.map_eq_some_iff
abbrev EE:=@Option.map_eq_none_iff
abbrev EF:=@List.drop_of_length_le
abbrev EG:=@List.drop_eq_nil_of_le
abbrev EH:=@Option.toList_some
abbrev EI:=@List.prefix_append
abbrev EJ:=@List.countP_eq_length_filter
abbrev EK:=@wpList_plain
abbrev EL:=@results_tmp
abbrev EM:=@List.take_length_add_append
abbrev EN:=@List.drop_length_add_append
abbrev EO:=@List.drop_left'
abbrev EP:=@List.countP_mono_left
abbrev EQ:=@Array.getElem?_modify
abbrev ER:=@wpList_nil
abbrev ES:=@if_false
abbrev ET:=@beq_iff_eq
abbrev EV:=@Array.size_append
abbrev EW:=@size_zeroCells
abbrev EY:=@List.mem_or_eq_of_mem_set
abbrev EZ:=@List.mem_of_find?_eq_some
abbrev E9:=@List.getElem?_eq_none_iff
abbrev Fb:=@Nat.add_mul
abbrev Fe:=@List.take_succ_cons
abbrev Ff:=@List.replicate_succ
abbrev Fg:=@List.mem_map_of_mem
abbrev Fh:=@List.drop_succ_cons
abbrev Fi:=@List.countP_pos_iff
abbrev Fk:=@Sem.run_pure
abbrev Fm:=@grownCap_le_maxLen
abbrev Fo:=@List.sum_append
abbrev Fp:=@List.set_cons_zero
abbrev Fq:=@List.pairwise_singleton
abbrev Fs:=@List.getElem?_cons_succ
abbrev Ft:=@List.eraseP_cons_of_neg
abbrev Fu:=@List.cons.injEq
abbrev Fw:=@List.cons.inj
abbrev Fy:=@Prod.mk.inj
abbrev Fz:=@List.replicate_append_replicate
abbrev FA:=@List.countP_congr
abbrev FB:=@Nat.pow_succ
abbrev FC:=@results_cell_row
abbrev FD:=@if_true
abbrev FE:=@decide_eq_decide
abbrev FG:=@Nat.mod_eq_of_lt
abbrev FH:=@Nat.min_eq_right
abbrev FI:=@List.take_prefix
abbrev FJ:=@List.map_toArray
abbrev FK:=@List.getElem_map
abbrev FL:=@List.drop_append
abbrev FM:=@Bool.not_eq_true
abbrev FN:=@Nat.mul_assoc
abbrev FO:=@Nat.add_assoc
abbrev FP:=@List.take_set
abbrev FQ:=@List.sum_cons
abbrev No:=@Bool.false_or
abbrev FT:=@Addr.mk.injEq
abbrev FU:=@run_firstCells_some
abbrev FW:=@UInt8.toNat_inj
abbrev FX:=@Option.some.inj
abbrev FY:=@List.length_pos_iff
abbrev FZ:=@List.append_inj
abbrev F0:=@List.isPrefixOf_iff_prefix
abbrev F2:=@Nat.zero_mul
abbrev F3:=@List.set_cons_succ
abbrev F4:=@growslice_fits
abbrev F5:=@List.drop_take
abbrev F6:=@List.drop_drop
abbrev F7:=@DataW.trod_int
abbrev F8:=@Code.wpIn_mono
abbrev F9:=@run_storeCells_at
abbrev Ga:=@DataW.trod_string
theorem ex{α:Sort _}(a:α):∃x,x=a:=⟨a,rfl⟩
abbrev Bw(w:World):World->Prop:=Below w.heap.size w
abbrev Cl:=Calls prog
theorem Db{p:Prop}(h:p):Hid p:=h
theorem Da{p:Prop}(h:Hid p):p:=h
def Ho(a b:ByteArray):Bool:=Op.bytesLess a.toList b.toList
def QV(a b:ByteArray):Int:=if Ho a b=true then -1 else if a.toList=b.toList then 0 else 1
def KW(a b:Int):Int:=if a<b then -1 else if a=b then 0 else 1
theorem Ta(s:ByteArray)(w:World):Cl 317 #[dU s] w λe w'=>e=dR (dV false)/\w'=w:=by go_enter func317,ntmps317;go_wp2;go_ret;simp_all
theorem S7(s:Int)(w:World):Cl 290 #[dI s] w λe w'=>e=dR (dV false)/\w'=w:=by go_enter func290,ntmps290;go_wp2;go_ret;simp_all
theorem ZrO(a b:ByteArray)(w:World):Cl 295 #[dU a,dU b] w λe w'=>e=dR (dI (QV a b))/\w'=w:=by
 have c:QV a b=if Ho a b=true then -1 else if a.toList=b.toList then 0 else 1:=rfl;unfold Ho at c;by_cases d:Op.bytesLess a.toList b.toList=true
 .rw[if_pos d]at c;have H:=Db c;clear c;go_enter func295,ntmps295;go_wp2_with(go_at_call 317;apply(Ta _ _).Q;rintro e w'⟨rfl,rfl⟩);go_ret;exact⟨by rw[Da H];rfl,rfl⟩
 .rw[if_neg d]at c;have aa:Op.bytesLess a.toList b.toList=false:=Ξ;by_cases f:a.toList=b.toList
  .rw[if_pos f]at c;have H:=Db c;clear c;have g:(a.toList==b.toList)=true:=Ξ;have h4:(!Op.bytesLess a.toList b.toList && !(a.toList==b.toList))=false:=Ξ;clear d f;go_enter func295,ntmps295;go_wp2_with(go_at_call 317;apply(Ta _ _).Q;rintro e w'⟨rfl,rfl⟩);go_ret;exact⟨by rw[Da H];rfl,rfl⟩
  .rw[if_neg f]at c;have H:=Db c;have g:(a.toList==b.toList)=false:=Ξ;go_enter func295,ntmps295;go_wp2_with(apply(Ta _ _).Q;rintro e w'⟨rfl,rfl⟩);go_ret;exact⟨by rw[Da H];rfl,rfl⟩
theorem ZrQ(a b:Int)(w:World):Cl 260 #[dI a,dI b] w λe w'=>e=dR (dI (KW a b))/\w'=w:=by
 have c:KW a b=if a<b then -1 else if a=b then 0 else 1:=rfl;have H:=Db c;clear c;by_cases d:a<b
 .go_enter func260,ntmps260;go_wp2_with(go_at_call 290;apply(S7 _ _).Q;rintro e w'⟨rfl,rfl⟩);go_ret;exact⟨by rw[Da H,if_pos d];rfl,rfl⟩
 .by_cases h2:b<a
  .go_enter func260,ntmps260;go_wp2_with(go_at_call 290;apply(S7 _ _).Q;rintro e w'⟨rfl,rfl⟩);go_ret;exact⟨by rw[Da H,if_neg Ω,if_neg Ω];rfl,rfl⟩
  .go_enter func260,ntmps260;go_wp2_with(apply(S7 _ _).Q;rintro e w'⟨rfl,rfl⟩);go_ret;exact⟨by rw[Da H,if_neg Ω,if_pos Ω];rfl,rfl⟩
abbrev LY:=List ByteArray
abbrev Gf:=List Value
abbrev NV:=Nat -> Value
abbrev OA:=Option Addr
abbrev NB:=Nat -> ByteArray
abbrev IB:=Int -> ByteArray
abbrev LB:=List (Nat×ByteArray)
abbrev LI:=List (Int×Int)
abbrev By:=ByteArray
abbrev Aq:=@Lib.wpList_append_run
def Gq(L:Gf)(o:Nat)(cs:Gf):Gf:=L.take o++cs++L.drop (o+cs.length)
theorem KM{L:Gf}{o:Nat}{a:Gf}(h:o+a.length<=L.length):(Gq L o a).length=L.length:=by grind [Gq]
def Gb(w:World)(g:Nat)(e:TypeId)(L:Gf):Prop:=w.heap[g]?=some (.cells L.toArray e (0,0))
theorem Gb.lt{L:Gf}(h:Gb w g e L):g<w.heap.size:=(Au.1 h).1
theorem Gb.J{L:Gf}(h:Gb w g e L)(j:Nat):w.cell? (dQ g j)=L[j]? := by rw[cell_of_row w g j _ e _ h];simp
theorem Gb.ca{L:Gf}(h:Gb w g e L)(j:Nat){v:Value}(a:L[j]?=some v:=by rfl):w.cell? (dQ g j)=some v:=(h.J j).M a
theorem Gb.A{L:Gf}(h:Gb w g e L)(j:Nat):w.frozen? (dQ g j)=false:=frozen_of_row w g j _ e h
theorem Gb.c1{L:List Value}(h:Gb w g e L):w.cell? ⟨g,0,none⟩=L[0]?/\w.cell? ⟨g,1,none⟩=L[1]?:=⟨h.J 0,h.J 1⟩
theorem Gb.c2{L:List Value}(h:Gb w g e L):w.cell? ⟨g,0,none⟩=L[0]?/\w.cell? ⟨g,1,none⟩=L[1]?/\w.cell? ⟨g,2,none⟩=L[2]?:=⟨h.J 0,h.J 1,h.J 2⟩
theorem Gb.c3{L:List Value}(h:Gb w g e L):w.cell? ⟨g,0,none⟩=L[0]?/\w.cell? ⟨g,1,none⟩=L[1]?/\w.cell? ⟨g,2,none⟩=L[2]?/\w.cell? ⟨g,3,none⟩=L[3]?:=⟨h.J 0,h.J 1,h.J 2,h.J 3⟩
theorem Gb.c4{L:List Value}(h:Gb w g e L):w.cell? ⟨g,0,none⟩=L[0]?/\w.cell? ⟨g,1,none⟩=L[1]?/\w.cell? ⟨g,2,none⟩=L[2]?/\w.cell? ⟨g,3,none⟩=L[3]?/\w.cell? ⟨g,4,none⟩=L[4]?:=⟨h.J 0,h.J 1,h.J 2,h.J 3,h.J 4⟩
theorem Gb.c5{L:List Value}(h:Gb w g e L):w.cell? ⟨g,0,none⟩=L[0]?/\w.cell? ⟨g,1,none⟩=L[1]?/\w.cell? ⟨g,2,none⟩=L[2]?/\w.cell? ⟨g,3,none⟩=L[3]?/\w.cell? ⟨g,4,none⟩=L[4]?/\w.cell? ⟨g,5,none⟩=L[5]?:=⟨h.J 0,h.J 1,h.J 2,h.J 3,h.J 4,h.J 5⟩
theorem Gb.c6{L:List Value}(h:Gb w g e L):w.cell? ⟨g,0,none⟩=L[0]?/\w.cell? ⟨g,1,none⟩=L[1]?/\w.cell? ⟨g,2,none⟩=L[2]?/\w.cell? ⟨g,3,none⟩=L[3]?/\w.cell? ⟨g,4,none⟩=L[4]?/\w.cell? ⟨g,5,none⟩=L[5]?/\w.cell? ⟨g,6,none⟩=L[6]?:=⟨h.J 0,h.J 1,h.J 2,h.J 3,h.J 4,h.J 5,h.J 6⟩
theorem Gb.f1{L:List Value}(h:Gb w g e L):w.frozen? ⟨g,0,none⟩=false/\w.frozen? ⟨g,1,none⟩=false:=⟨h.A 0,h.A 1⟩
theorem Gb.f2{L:List Value}(h:Gb w g e L):w.frozen? ⟨g,0,none⟩=false/\w.frozen? ⟨g,1,none⟩=false/\w.frozen? ⟨g,2,none⟩=false:=⟨h.A 0,h.A 1,h.A 2⟩
theorem Gb.f3{L:List Value}(h:Gb w g e L):w.frozen? ⟨g,0,none⟩=false/\w.frozen? ⟨g,1,none⟩=false/\w.frozen? ⟨g,2,none⟩=false/\w.frozen? ⟨g,3,none⟩=false:=⟨h.A 0,h.A 1,h.A 2,h.A 3⟩
theorem Gb.f4{L:List Value}(h:Gb w g e L):w.frozen? ⟨g,0,none⟩=false/\w.frozen? ⟨g,1,none⟩=false/\w.frozen? ⟨g,2,none⟩=false/\w.frozen? ⟨g,3,none⟩=false/\w.frozen? ⟨g,4,none⟩=false:=⟨h.A 0,h.A 1,h.A 2,h.A 3,h.A 4⟩
theorem Gb.kept{L:Gf}(h:Gb w g e L)(a:w.grownBy w' row)(b:some g≠row):Gb w' g e L:=by unfold Gb;rw[a.block g h.lt b];exact h
theorem Sv(w:World)(row:Option Nat):w.grownBy w row:=⟨rfl,rfl,rfl,Aa _,Γ⟩
theorem Qo{a b c:World}(h:a.grownBy b row)(k:b.grownBy c row):a.grownBy c row:=
 ⟨k.os.M h.os,k.tape.M h.tape,k.output.M h.output,Ae h.size k.size,λi d e=>(k.block i (As d h.size) e).M (h.block i d e)⟩
theorem Su{a b:World}(h:a.grownBy b row):a.grownBy b.drew row:=⟨h.os,h.tape,h.output,h.size,h.block⟩
section
variable{P:Program}
theorem Qc(w:World)(h r ty e:TypeId)(f g o d m:Nat)(a:Addr)(c l:Nat)(L:Gf)(t:TypeId)(b:Gf)(hu:P.underlying h=some (.slice e))(hs:(P.info? e).map (·.size)=some f)(k:Gb w g t L)(p:b.length=Nat.min c d*f)(q:∀j v,b[j]?=some v->w.cell? (a.add j)=some v)(aa:o+b.length<=L.length)(n:∀v∈b,v.oneCell'=true):
  ∃w',(Builtin.copy_ #[h,r] ty #[dT (some (dQ g o)) d m,dT (some a) c l]).run P w=.ok (goInt (Nat.min c d)) w'/\Gb w' g t (Gq L o b)/\w.grownBy w' (some g):=by
 have ab:=F9 P g o t b 0 _ w k Ω n;have hf:=FU (P:=P) w f (Nat.min c d) a c l b p q;refine⟨w.setRow g (Gq L o b).toArray,?_,Bo w g L.toArray _ t _ k,⟨rfl,rfl,rfl,Θ,by grind [setRow_other]⟩⟩;cases hq:P.info? e with
 |none=>simp_all
 |some i=>
  simp_all[Nat.add_zero,Builtin.copy_,run_underlying,Builtin.lenOf,sizeOf,typeInfo,Gq]
theorem ZkR(w:World){o:Oper}{a:Act}{Q:Exit->Act->World->Prop}(d s:Operand)(t b:TypeId)(ho:o.op=.call { callee:=.builtin .copy,args:=#[d,s],argTypes:=#[t,b] })(v u:Value)(e:a.eval d=v)(g:a.eval s=u){c:Value}(f:(Builtin.copy_ #[t,b] o.type #[v,u]).run P w=.ok c w')(h:K (a.put o.dst c) w'):o.wp P a w K Q:=by unfold Oper.wp execOp;simp only[ho,resolve,invoke,builtin,Cq,Fk,Cb,FJ,A6,CF,e,g,f];exact h
theorem Vb(w:World){c:Array Oper}{e:List Oper}{o:Oper}{a:Act}{Q:Exit->Act->World->Prop}(j:o.guard=none)(d s:Operand)(t b:TypeId)(ho:o.op=.call { callee:=.builtin .copy,args:=#[d,s],argTypes:=#[t,b] })(v u:Value)(i:a.eval d=v)(l:a.eval s=u){f:Value}(k:(Builtin.copy_ #[t,b] o.type #[v,u]).run P w=.ok f w')(h:wpList P c Q e (a.put o.dst f) w'):wpList P c Q (o::e) a w:=
 EK j λ_ g=>ZkR w d s t b ho v u i l k (g _ _ h)
theorem Uh{c:Array Oper}{o:Oper}{a:Act}{Q:Exit->Act->World->Prop}(hg:o.guard=none)(d x:Operand)(b e:TypeId)(i:o.op=Op.call { callee:=Callee.builtin Builtin.copy,args:=#[d,x],argTypes:=#[b,e] })(v u:Value)(h:a.eval d=v)(l:a.eval x=u){f:Value}(j:(Builtin.copy_ #[b,e] o.type #[v,u]).run P w=.ok f w')(g:K (a.put o.dst f) w'):
  if Region.wanted o (yielded c a.tmps)=true then Oper.wp P o a w K Q else E:=by
 have k:Region.wanted o (yielded c a.tmps)=true:=by grind [Region.wanted]
 rw[if_pos k];unfold Oper.wp;simp[execOp,i,resolve,invoke,builtin,h,l,j,Result.andThen];exact g
theorem Kl{c:Array Oper}{o:Oper}{a:Act}{Q:Exit->Act->World->Prop}(hg:o.guard=none)(d x:Operand)(b e:TypeId)(i:o.op=Op.call { callee:=Callee.builtin Builtin.append,args:=#[d,x],argTypes:=#[b,e] })(v u:Value)(h:a.eval d=v)(l:a.eval x=u){f:Value}(j:(Builtin.append_ #[b,e] o.type #[v,u]).run P w=.ok f w')(g:K (a.put o.dst f) w'):
  if Region.wanted o (yielded c a.tmps)=true then Oper.wp P o a w K Q else E:=by
 have k:Region.wanted o (yielded c a.tmps)=true:=by grind [Region.wanted]
 rw[if_pos k];unfold Oper.wp;simp[execOp,i,resolve,invoke,builtin,h,l,j,Result.andThen];exact g
end
def Sl(w:World)(e:TypeId)(sz:Nat)(v:Value)(n:Nat)(xs:Gf):Prop:=
 xs.length=n*sz/\
 ((v=dN/\n=0)\/
  ∃g cap L,v=dS g n cap/\Gb w g e L/\n<=cap/\cap<=maxLen/\L.length=cap*sz/\L.take (n*sz)=xs)
theorem Sl.bp{a:Nat}{v:Value}{b:Gf}(h:Sl w e a v n b):w.ownsRow 0 e a v n b:=by refine⟨h.1,?_⟩;rcases h.2 with h2|⟨g,c,L,rfl,i,d,f,h5,h6⟩;simp_all;exact .inr ⟨g,c,L.toArray,rfl,Ao _,i,d,f,Ω,Ω⟩
theorem Sl.a3{a:Nat}{v:Value}{b:Gf}{base:Nat}(h:w.ownsRow base e a v n b):Sl w e a v n b:=by refine⟨h.1,?_⟩;rcases h.2 with f|⟨g,c,d,rfl,hr,f,i,j,h5,h6⟩;simp_all;exact .inr ⟨g,c,d.toList,rfl,by simp_all[Gb],i,j,Ω,Ω⟩
def Dm(w:World)(v v':Value):Prop:=∀g,v'.ownBlock=some g->v.ownBlock=some g\/w.heap.size<=g
theorem J1(w:World)(t ty e:TypeId)(i:TypeInfo)(z:Value)(size bytes:Nat)(A:P.underlying t=some (.slice e))(s:P.info? e=some i)(H:i.zero=some z)(r:i.size=size)(D:i.bytes=bytes)(I:z.cells.size=size)(V:0<size)(v:Value)(n:Nat)(h:Gf)(f:Sl w e size v n h)(a:Addr)(m c:Nat)(b:Gf)(l:b.length=m*size)(x:∀j u,b[j]?=some u->w.cell? (a.add j)=some u)(p:∀u∈b,u.oneCell'=true)(N:n+m<=maxLen)(E:(n+m)*bytes<=140737488355328):
  ∃o w',(Builtin.append_ #[t,t] ty #[v,dT (some a) m c]).run P w=.ok o w'/\Sl w' e size o (n+m) (h++b)/\w.grownBy w' v.ownBlock/\Dm w v o:=by
 rcases f.2 with⟨rfl,rfl⟩|⟨g,d,L,rfl,F,C,J,K,M⟩;obtain⟨o,w',p,B,C,_⟩:=run_append_own  w _ t ty e i z size bytes A s H r D I V _ 0 h ⟨f.1,.inl ⟨rfl,rfl⟩⟩ a m c b l x p N E (Aa _);exact⟨o,w',p,Sl.a3 B,C,λg R => .inr (B.lt g R).1⟩;by_cases G:n+m<=d;have Q:n*i.size+b.length<=L.toArray.size:=by rw[r,l];simp[K,<-Nat.add_mul];simp_all[Nat.mul_le_mul_right]
 have y:=run_append_room  w t ty e i A s g n d _ F a m c b Ξ x p G Q;refine⟨_,_,y,⟨by rw[Ah,f.1,l,Fb],.inr ⟨g,d,L.take (n*size)++b++L.drop (n*size+b.length),rfl,?_,G,J,?_,?_⟩⟩,?_,λk q => .inl q⟩;rw[r];exact Bo w g _ _ e _ F;grind;rw[M];have:(n+m)*size=(h++b).length:=Γ;grind;exact⟨rfl,rfl,rfl,Θ,by grind [setRow_other,Value.ownBlock]⟩;have U:=f.bp.cells  rfl;subst r;subst D;have y:=run_append_grow  w t ty e i z A s H _ n d h f.1 U a m c b l x Ω (by grind [maxLen]) (F4 Ω E);have S:=grownCap_ge w (n+m) d e;have O:grownCap w (n+m) d e<=maxLen:=by grind [grownCap_le_maxLen]
 have T:(h++b).length=(n+m)*i.size:=by rw[Ah,f.1,l,Fb]
 refine⟨_,_,y,⟨T,.inr ⟨w.heap.size,_,(h.toArray++b.toArray++Builtin.zeroCells z.cells (grownCap w (n+m) d e-(n+m))).toList,rfl,by exact Bv _ _,S,O,?_,?_⟩⟩,⟨rfl,rfl,rfl,Θ,λk q _=>BH w.drew _ k q⟩,λk q=>?_⟩;simp only[AF,EV,AS,EW,I,f.1,l,<-Fb];grind;grind;grind [Value.ownBlock]
theorem ZiH(w:World)(t e ty:TypeId)(z:Value)(ht:P.underlying t=some (.slice e))(hv:∀w,(zeroValue e).run P w=.ok z w)(a:Gf)(hz:(Builtin.zeroCells z.cells 1).toList=a)(f:∀u∈a,u.oneCell'=true)(g o c:Nat)(L:Gf)(b:TypeId)(d:Gb w g b L)(aa:o+a.length<=L.length):
  ∃w',(Builtin.clear_ #[t] ty #[dT (some (dQ g o)) 1 c]).run P w=.ok (.tuple #[]) w'/\Gb w' g b (Gq L o a)/\w.grownBy w' (some g):=by
 have ab:=F9 P g o b a 0 L.toArray w d Ω f;refine⟨w.setRow g (Gq L o a).toArray,?_,Bo w g L.toArray _ b _ d,⟨rfl,rfl,rfl,Θ,by grind [setRow_other]⟩⟩;simp_all[Builtin.clear_,run_underlying,Gq]
theorem ZjC(w:World){o:Oper}{a:Act}{Q:Exit->Act->World->Prop}(d:Operand)(t:TypeId)(ho:o.op=.call { callee:=.builtin .clear,args:=#[d],argTypes:=#[t] })(v:Value)(c:a.eval d=v){b:Value}(e:(Builtin.clear_ #[t] o.type #[v]).run P w=.ok b w')(h:K (a.put o.dst b) w'):o.wp P a w K Q:=by unfold Oper.wp execOp;simp only[ho,resolve,invoke,builtin,Cq,Fk,Cb,FJ,A6,CF,c,e];exact h
theorem ZdM(w:World){b:Array Oper}{c:List Oper}{o:Oper}{a:Act}{Q:Exit->Act->World->Prop}(i:o.guard=none)(d:Operand)(t:TypeId)(ho:o.op=.call { callee:=.builtin .clear,args:=#[d],argTypes:=#[t] })(v:Value)(g:a.eval d=v){e:Value}(j:(Builtin.clear_ #[t] o.type #[v]).run P w=.ok e w')(h:wpList P b Q c (a.put o.dst e) w'):wpList P b Q (o::c) a w:=
 EK i λ_ f=>ZjC w d t ho v g j (f _ _ h)
def IK(f ty sl ov b:Nat)(z:Value):Prop:=f=265/\ty=310/\sl=225/\ov=296/\b=32/\z=.agg #[dU ⟨#[]⟩,.pointer none,dI 0]\/f=267/\ty=293/\sl=210/\ov=298/\b=40/\z=.agg #[dI 0,dN,dI 0]
theorem IK.u{f a c b:Nat}{z:Value}(h:IK f ty a c b z):prog.underlying a=some (.slice ty):=by rcases h with⟨rfl,rfl,rfl,rfl,rfl,rfl⟩|⟨rfl,rfl,rfl,rfl,rfl,rfl⟩;exact underlying225;exact underlying210
theorem IK.i{f c a b:Nat}{z:Value}(h:IK f ty c a b z):(prog.info? ty).map (λi=>(i.zero,i.size,i.bytes))=some (some z,3,b):=by rcases h with⟨rfl,rfl,rfl,rfl,rfl,rfl⟩|⟨rfl,rfl,rfl,rfl,rfl,rfl⟩<;>kernel_rfl
theorem IK.s{f c a b:Nat}{z:Value}(h:IK f ty c a b z):(prog.info? ty).map (λi=>i.size)=some 3:=by rcases h with⟨rfl,rfl,rfl,rfl,rfl,rfl⟩|⟨rfl,rfl,rfl,rfl,rfl,rfl⟩<;>kernel_rfl
theorem IK.b{f c a b:Nat}{z:Value}(h:IK f ty c a b z):32<=b/\b<=40:=by rcases h with⟨rfl,rfl,rfl,rfl,rfl,rfl⟩|⟨rfl,rfl,rfl,rfl,rfl,rfl⟩<;>decide
theorem IK.z{f c a b:Nat}{z:Value}(h:IK f ty c a b z):z.cells.size=3:=by rcases h with⟨rfl,rfl,rfl,rfl,rfl,rfl⟩|⟨rfl,rfl,rfl,rfl,rfl,rfl⟩<;>rfl
theorem IK.v{f c a b:Nat}{z:Value}(h:IK f ty c a b z)(w:World):(zeroValue ty).run prog w=.ok z w:=by rcases h with⟨rfl,rfl,rfl,rfl,rfl,rfl⟩|⟨rfl,rfl,rfl,rfl,rfl,rfl⟩<;>kernel_rfl
theorem IK.c{f c a b:Nat}{z:Value}(h:IK f ty c a b z):(Builtin.zeroCells z.cells 1).toList=z.cells.toList:=by rcases h with⟨rfl,rfl,rfl,rfl,rfl,rfl⟩|⟨rfl,rfl,rfl,rfl,rfl,rfl⟩<;>kernel_rfl
theorem IK.o{f c a b:Nat}{z:Value}(h:IK f ty c a b z):∀u∈z.cells.toList,u.oneCell'=true:=by rcases h with⟨rfl,rfl,rfl,rfl,rfl,rfl⟩|⟨rfl,rfl,rfl,rfl,rfl,rfl⟩<;>simp[Value.cells,Value.oneCell']
theorem Xn{f i b:Nat}{z:Value}(h:IK f ty i C b z)(w:World)(v:Value)(n:Nat)(k:Gf)(vb:Nat)(a:Gf)(l:Sl w ty 3 v n k)(hn:n<=10000)(r:Gb w vb ty a)(ab:a.length=3)(o:∀u∈a,u.oneCell'=true):
  Calls prog f #[v,dI n,dS vb 1 1] w λe w'=>∃d,e=dR d/\Sl w' ty 3 d (n+1) (k++a)/\w.grownBy w' v.ownBlock/\Dm w v d:=by
 obtain⟨B,q,x,y,A⟩:=Bk h.i;have:=CJ (n+1) h.b.2;have m:=λD=>J1 (P:=prog) w i D ty B _ 3 b h.u q x y A h.z Δ v n k l (dQ vb 0) 1 1 a Ω
  (λj u hu=>by rw[AG,Av,r.J];omega) o (by grind [maxLen]) Ω
 obtain⟨d,w',s,hS,hg,aa⟩:=m i;have t:(v=dN/\n=0)\/∃g c,v=dS g n c/\n<=c:=by rcases l.2 with _|⟨g,c,L,_,_,p,_⟩;simp_all;grind
 clear m;have hb:=h.b;rcases h with⟨rfl,rfl,rfl,rfl,rfl,rfl⟩|⟨rfl,rfl,rfl,rfl,rfl,rfl⟩;all_goals
  rcases t with⟨rfl,rfl⟩|⟨g,c,rfl,p⟩;all_goals
   first|go_enter func265,ntmps265|go_enter func267,ntmps267
   go_wp2_with(at_builtin;refine Aq _ rfl _ _ _ _ rfl _ _ rfl rfl _ _ s ?_);all_goals (go_ret;simp_all)
theorem Xo{f d b:Nat}{z:Value}(h:IK f ty d C b z)(w:World)(g n a:Nat)(k L:Gf)(i vb:Nat)(c:Gf)(m:Gb w g ty L)(F:L.length=a*3)(R:L.take (n*3)=k)(hi:i<n)(ae:n+1<=a)(G:a<=maxLen)(hn:n<=10000)(l:Gb w vb ty c)(J:c.length=3)(E:∀u∈k,u.oneCell'=true)(s:∀u∈c,u.oneCell'=true)(I:vb≠g):
  Calls prog f #[dS g n a,dI i,dS vb 1 1] w λe w'=>e=dR (dS g (n+1) a)/\Gb w' g ty (Gq (Gq L ((i+1)*3) (k.drop (i*3))) (i*3) c)/\w.grownBy w' (some g):=by
 have Q:k.length=n*3:=Γ;have H:(k.drop (i*3)).length=(n-i)*3:=Γ;obtain⟨p,M,t,o⟩:=Qc (P:=prog) w.drew d d 3 ty 3 g ((i+1)*3) (n-i) (a-(i+1)) (dQ g (i*3)) (n+1-i) (a-i) L ty (k.drop (i*3)) h.u h.s m
  Γ
  (λj u O=>by rw[AG,show(w.drew.cell? (dQ g (i*3+j)))=L[i*3+j]? from m.J _];grind) Ω Γ
 have y:Gb p vb ty c:=(show Gb w.drew vb ty c from l).kept o Ξ;obtain⟨q,N,v,x⟩:=Qc (P:=prog) p d d 3 ty 3 g (i*3) (n+1-i) (a-i) (dQ vb 0) 1 1 _ ty c h.u h.s t
  Γ
  (λj u O=>by rw[AG,Av,y.J];omega) (by grind [KM]) s
 have K:∀lb cb,(callFunc C #[dS vb 1 1,.slice (some ⟨g,(i+1)*3,none⟩) lb cb]).run prog w=.ok (.value (dV false)) w:=λlb cb=>by
  rcases id h with⟨_,B,A,rfl,_⟩|⟨_,B,A,rfl,_⟩;all_goals
   rw[run_callFunc_extern (by first|exact func296|exact func298) Φ Φ Φ (e:=Extern.SlicesOverlaps.overlaps #[d,d] #[4]) (by rw[A];kernel_rfl),
    Lib.run_overlaps_apart w d 4 ty h.u 3 (λ_=>by subst B;kernel_rfl) (dQ vb 0) ⟨g,(i+1)*3,none⟩ 1 1 lb cb I ty ty 3 (a*3) (by unfold World.shape?;rw[l];grind) (by unfold World.shape?;rw[m];grind) Ω (l.A 0) (l.A 3)]
   rfl
 have af:a<=9223372036854775807:=by grind [maxLen]
 have r:Gb q g ty (Gq (Gq L ((i+1)*3) (k.drop (i*3))) (i*3) c)/\w.grownBy q (some g):=⟨v,Qo (by grind [Su,Sv]) (Qo o x)⟩;have D:=Db r;clear r t v o x y E s G R H Q F J l m;have ai:IntKind.i64.wrap ((i:Int)+1)=(i:Int)+1:=by grind [IntKind.wrap_i64]
 have aa:(0:Int)<=(i:Int)+1:=Ω;have ag:i<=n:=Ω;have ah:((i:Int)+1).toNat=i+1:=Ω;have ab:¬(a=i+1):=Ω;have ac:(i:Int)<=(n:Int)+1:=Ω;have ad:¬(a=i):=Ω;rcases h with⟨rfl,rfl,rfl,rfl,rfl,rfl⟩|⟨rfl,rfl,rfl,rfl,rfl,rfl⟩;all_goals
  first|go_enter func265,ntmps265|go_enter func267,ntmps267
  go_wp2_with(simp only[K]);go_region_law (refine Uh rfl _ _ _ _ rfl _ _ (by simp_all[Act.eval,Act.put]) (by simp_all[Act.eval,Act.put]) M ?_)
  go_wp2_with(at_builtin;refine Vb _ rfl _ _ _ _ rfl _ _ rfl rfl N ?_);go_ret;exact⟨rfl,Da D⟩
theorem Ya{f l ov b:Nat}{z:Value}(h:IK f ty l ov b z)(w:World)(g n c:Nat)(a L:Gf)(i vb:Nat)(d:Gf)(m:Gb w g ty L)(ae:L.length=c*3)(al:L.take (n*3)=a)(hi:i<n)(aw:n<=c)(ar:c<n+1)(hn:n<=10000)(y:Gb w vb ty d)(ag:d.length=3)(ab:∀u∈a,u.oneCell'=true)(E:∀u∈d,u.oneCell'=true):
  Calls prog f #[dS g n c,dI i,dS vb 1 1] w λe w'=>∃G Z,e=dR (dS w.heap.size (n+1) G)/\n+1<=G/\G<=maxLen/\(a.take (i*3)++Z).length=G*3/\
   Gb w' w.heap.size ty (Gq (Gq (a.take (i*3)++Z) (i*3) d) ((i+1)*3) (a.drop (i*3)))/\w.grownBy w' (some w.heap.size):=by
 have ak:a.length=n*3:=Γ;have af:(a.drop (i*3)).length=(n-i)*3:=Γ;obtain⟨i0,R,X,Y,A⟩:=Bk h.i;have aj:∀j u,a[j]?=some u->w.cell? (dQ g j)=some u:=λj u W=>by rw[m.J];grind
 have U:(Builtin.firstCells i0.size i (dS g i c)).run prog w.drew=.ok (a.take (i*3)).toArray w.drew:=by rw[Y];exact FU w.drew 3 i (dQ g 0) i c (a.take (i*3)) Γ (λj v hj=>by simp_all[Addr.add_lit,Nat.zero_add,List.getElem?_take])
 have x:i+(n+1-i)=n+1:=Ω;have S:(n:Int)+1-(i:Int)=((n+1-i:Nat):Int):=Ω;obtain⟨G,F⟩:∃G,G=grownCap w (n+1) c ty:=Γ;obtain⟨Z,s⟩:∃Z:Array Value,Z=Builtin.zeroCells z.cells (n+1-i)++Builtin.zeroCells z.cells (G-(n+1)):=Γ;have V:∀B,(Builtin.append_ #[l,3] B #[dS g i c,dI ((n:Int)+1-(i:Int))]).run prog w =
   .ok (dS w.heap.size (n+1) G) (w.drew.alloc (.cells (a.take (i*3)++Z.toList).toArray ty)):=λB=>by
  have Q:=Lib.run_append_grow_zeros w l 3 B ty i0 _ .i64 .i64 h.u underlying3 R X (some (dQ g 0)) i c (a.take (i*3)) U (n+1-i) Ω Ω Ω Ω (by rw[A];have:=CJ (n+1-i) h.b.2;omega) (by rw[A,x];have:=CJ (n+1) h.b.2;exact F4 (by have:=h.b;omega) Ω);rw[x,<-F]at Q;rw[S,Q,s];congr 2;simp_all
 have ad:n+1<=G:=by grind [grownCap_ge]
 have H:G<=maxLen:=by grind [grownCap_le_maxLen,maxLen]
 have N:(a.take (i*3)++Z.toList).length=G*3:=by
  have e1:Z.size=(n+1-i)*3+(G-(n+1))*3:=by rw[s,EV,EW,EW,h.z]
  grind
 have r:Gb (w.drew.alloc (.cells (a.take (i*3)++Z.toList).toArray ty)) w.heap.size ty (a.take (i*3)++Z.toList):=Bv w.drew _;have o:w.grownBy (w.drew.alloc (.cells (a.take (i*3)++Z.toList).toArray ty)) (some w.heap.size):=⟨rfl,rfl,rfl,Θ,λk hk _=>BH w.drew _ k hk⟩;obtain⟨p,M⟩:∃p,p=w.drew.alloc (.cells (a.take (i*3)++Z.toList).toArray ty):=Γ;rw[<-M]at V r o;have T:Gb p vb ty d:=y.kept o (by have:=y.lt;grind);obtain⟨q,ah,J,t⟩:=Qc (P:=prog) p l l 3 ty 3 w.heap.size (i*3) (n+1-i) (G-i) (dQ vb 0) 1 1 _ ty d h.u h.s r
  Γ
  (λj u W=>by rw[AG,Av,T.J];omega) Ω E
 have I:Gb q g ty L:=(m.kept o (by have:=m.lt;grind)).kept t (by have:=m.lt;grind);obtain⟨C,ai,K,O⟩:=Qc (P:=prog) q.drew l l 3 ty 3 w.heap.size ((i+1)*3) (n-i) (G-(i+1)) (dQ g (i*3)) (n-i) (c-i) _ ty (a.drop (i*3)) h.u h.s J
  Ξ
  (λj u W=>by rw[AG,show(q.drew.cell? (dQ g (i*3+j)))=L[i*3+j]? from I.J _];grind) (by grind [KM]) Γ
 have D:(a.take (i*3)++Z.toList).length=G*3/\Gb C w.heap.size ty (Gq (Gq (a.take (i*3)++Z.toList) (i*3) d) ((i+1)*3) (a.drop (i*3)))/\w.grownBy C (some w.heap.size):=
  ⟨N,K,Qo o (Qo t (Qo (Su (Sv q _)) O))⟩
 have aa:=Db D;have ao:G<=9223372036854775807:=by grind [maxLen]
 have am:¬(G=i):=Ω;have an:¬(G=i+1):=Ω;have au:¬(c=i):=Ω;have ay:IntKind.i64.wrap ((i:Int)+1)=(i:Int)+1:=by grind [IntKind.wrap_i64]
 have ap:(0:Int)<=(i:Int)+1:=Ω;have av:i<=n:=Ω;have ax:((i:Int)+1).toNat=i+1:=Ω;have aq:(i:Int)<=(n:Int):=Ω;clear D N r J K o t O T I ab E al af ak ae ag y m aj U M F s x S R X Y A;have ac:=Db H;clear H;rcases h with⟨rfl,rfl,rfl,rfl,rfl,rfl⟩|⟨rfl,rfl,rfl,rfl,rfl,rfl⟩;all_goals
  first|go_enter func265,ntmps265|go_enter func267,ntmps267
  go_wp2_with(first
   |(at_builtin;refine Aq _ rfl _ _ _ _ rfl _ _ rfl rfl _ _ (V _) ?_)
   |(at_builtin;refine Vb _ rfl _ _ _ _ rfl _ _ rfl rfl ah ?_))
  go_region_law (refine Uh rfl _ _ _ _ rfl _ _ (by simp_all[Act.eval,Act.put]) (by simp_all[Act.eval,Act.put]) ai ?_)
  go_wp2;go_ret;exact⟨G,Z.toList,rfl,ad,Da ac,Da aa⟩
theorem Oo{f m U b:Nat}{z:Value}(h:IK f ty m U b z)(w:World)(g n d:Nat)(l L:Gf)(i:Nat)(p:Gb w g ty L)(y:L.length=d*3)(O:L.take (n*3)=l)(hi:i<n)(ai:n<=d)(K:d<=maxLen)(hn:n<=10000)(H:∀u∈l,u.oneCell'=true):
  Calls prog (f+if f=265 then 3 else 2) #[dS g n d,dI i,dI ((i:Int)+1)] w λe w'=>e=dR (dS g (n-1) d)/\
   ∃zs:Gf,zs.length=3/\Gb w' g ty (Gq (Gq L (i*3) (l.drop ((i+1)*3))) ((n-1)*3) zs)/\w.grownBy w' (some g):=by
 have N:l.length=n*3:=Γ;have C:(l.drop ((i+1)*3)).length=(n-(i+1))*3:=Γ;obtain⟨T,F,Q,S,R⟩:=Bk h.i;have M:Gq L (i*3) (l.drop ((i+1)*3))=L.toArray.toList.take (i*3)++l.drop ((i+1)*3)++L.toArray.toList.drop (i*3+(l.drop ((i+1)*3)).length):=rfl;obtain⟨o,t⟩:∃o,o=w.drew.setRow g (Gq L (i*3) (l.drop ((i+1)*3))).toArray:=Γ;have q:∀(a:Addr) (c:Nat),(n-(i+1)≠0->a=⟨g,(i+1)*3,none⟩)->(Builtin.append_ #[m,m] m #[dS g i d,dT (some a) (n-(i+1)) c]).run prog w.drew=.ok (dS g (n-1) d) o:=λa c I=>by
  have hh:=run_append_room (P:=prog) w.drew m m ty T h.u F g i d L.toArray p a (n-(i+1)) c (l.drop ((i+1)*3)) Ξ
   (λj u hu=>by by_cases G:n-(i+1)=0;simp_all;rw[I G,AG,show(w.drew.cell? ⟨g,(i+1)*3+j,none⟩)=L[(i+1)*3+j]? from p.J _];grind) Γ Ω Γ
  grind
 have A:Gb o g ty (Gq L (i*3) (l.drop ((i+1)*3))):=by rw[t];exact Bo w.drew g L.toArray _ ty _ p
 have D:w.grownBy o (some g):=by rw[t];exact⟨rfl,rfl,rfl,Θ,λk _ hk=>Bc w.drew g k _ Γ⟩
 obtain⟨v,r,B,E⟩:=ZiH (P:=prog) o m ty 0 z h.u h.v z.cells.toList h.c h.o g ((n-1)*3) (d-(n-1)) _ ty A (by rw[KM (by rw[C];omega),y,AF,h.z];omega);have x:∃zs:Gf,zs.length=3/\Gb v g ty (Gq (Gq L (i*3) (l.drop ((i+1)*3))) ((n-1)*3) zs)/\w.grownBy v (some g):=⟨_,h.z,B,Qo D E⟩;have s:=Db x;have ag:d<=9223372036854775807:=by grind [maxLen]
 have aa:(0:Int)<=(i:Int)+1:=Ω;have ak:((i:Int)+1).toNat=i+1:=Ω;have ab:(i:Int)<=(n:Int):=Ω;have ac:(i:Int)+1<=(n:Int):=Ω;have ad:(i:Int)<=(i:Int)+1:=Ω;have ae:(i:Int)<=(d:Int):=Ω;have af:¬(d=n-1):=Ω;have ah:n-(n-1)=1:=Ω;have aj:((i:Int)==(i:Int)+1)=false:=Γ;clear x A B D E t M p O C N y H F Q S R K;rcases h with⟨rfl,rfl,rfl,rfl,rfl,rfl⟩|⟨rfl,rfl,rfl,rfl,rfl,rfl⟩;all_goals
  first|go_enter func268,ntmps268|go_enter func269,ntmps269
  by_cases J:d=i+1
  .subst J;obtain rfl:n=i+1:=Ω;rw[Cw]at q;rw[Nat.add_sub_cancel]at q s r;rw[BM]at r;go_wp2;go_region_law (refine Kl rfl _ _ _ _ rfl _ _ (by simp[Act.eval,Act.put]) (by simp[Act.eval,Act.put]) (q (dQ g 0) 0 (λh=>absurd h Ω)) ?_)
   go_wp2_with(at_builtin;refine ZdM _ rfl _ _ rfl _ rfl r ?_);go_ret;exact⟨rfl,Da s⟩
  .go_wp2;go_region_law (refine Kl rfl _ _ _ _ rfl _ _ (by simp[Act.eval,Act.put]) (by simp[Act.eval,Act.put]) (q ⟨g,(i+1)*3,none⟩ (d-(i+1)) (λ_=>rfl)) ?_)
   go_wp2_with(at_builtin;refine ZdM _ rfl _ _ rfl _ rfl r ?_);go_ret;exact⟨rfl,Da s⟩
theorem ZH:∀l:List UInt8,Op.bytesLess l l=false
 |[]=>rfl
 |a::l=>by simp[Op.bytesLess,ZH l]
theorem YA:∀a b c:List UInt8,Op.bytesLess a b=true->Op.bytesLess b c=true->Op.bytesLess a c=true
 |[],[],_,h,_=>by omega
 |[],_::_,[],_,h=>by grind [Op.bytesLess]
 |[],_::_,_::_,_,_=>by rfl
 |_::_,[],_,h,_=>by grind [Op.bytesLess]
 |_::_,_::_,[],_,h=>by grind [Op.bytesLess]
 |a::x,b::y,c::z,d,e=>by simp only[Op.bytesLess,CE,AQ,An,ET]at d e ⊢;rcases d with d|⟨rfl,d⟩;grind;rcases e with e|⟨rfl,e⟩;simp_all;exact .inr ⟨rfl,YA x y z d e⟩
theorem Yz:∀a b:List UInt8,Op.bytesLess a b=false->a≠b->Op.bytesLess b a=true
 |[],[],_,h=>absurd rfl h
 |[],_::_,h,_=>by grind [Op.bytesLess]
 |_::_,[],_,_=>by rfl
 |a::x,b::y,h,hne=>by simp only[Op.bytesLess,Bool.or_eq_false_iff,decide_eq_false_iff_not,Bool.and_eq_false_iff,Bs]at h;simp only[Op.bytesLess,CE,AQ,An,ET];by_cases e:a=b;subst e;refine .inr ⟨rfl,Yz x y (h.2.resolve_left (λk=>k rfl)) (λk=>hne (by rw[k]))⟩;grind
theorem UB(a:By):Ho a a=false:=ZH _
theorem Pd{a b c:By}(h:Ho a b=true)(k:Ho b c=true):Ho a c=true:=YA _ _ _ h k
theorem Ul{a b:By}(h:a.toList=b.toList):a=b:=by grind [ByteArray.toList_eq,WideShapes.bytes_inj]
theorem Z5{a b:By}(h:Ho a b=false)(aa:a≠b):Ho b a=true:=Yz _ _ h (by grind [Ul])
theorem Xr(a b:By):QV a b<0↔Ho a b=true:=by grind [QV]
theorem ZpQ(a b:By):QV a b=0↔a=b:=by unfold QV;split;grind [UB];split;grind [Ul];grind
def Hf(a b:Int):Bool:=decide (a<b)
theorem KK(a:Int):Hf a a=false:=by simp[Hf]
theorem Sb{a b c:Int}(h:Hf a b=true)(k:Hf b c=true):Hf a c=true:=by grind [Hf]
theorem Zy{a b:Int}(h:Hf a b=false)(aa:a≠b):Hf b a=true:=by grind [Hf]
theorem Rd(a b:Int):KW a b<0↔Hf a b=true:=by grind [KW,Hf]
theorem Zm(a b:Int):KW a b=0↔a=b:=by grind [KW]
def Mc(lt : α -> α -> Bool)(es:List (α × β)):Prop:=∀(j k:Nat) (x y : α × β),j<k->es[j]?=some x->es[k]?=some y->lt x.1 y.1=true
def I6(lt : α -> α -> Bool)(es:List (α × β))(t : α)(i:Nat)(b:Bool):Prop:=
 i<=es.length/\(∀k x,k<i->es[k]?=some x->lt x.1 t=true)/\(∀k x,i<=k->es[k]?=some x->lt x.1 t=false)/\(b=true↔∃x,es[i]?=some x/\x.1=t)
theorem Vp(c : α -> Gf)(k:Nat)(d:∀x,(c x).length=k)(b:List α):(b.flatMap c).length=b.length*k:=by
 induction b with
 |nil=>simp
 |cons a l ih=>simp[List.flatMap_cons,ih,d,Nat.add_mul,Nat.add_comm]
theorem Ts(c : α -> Gf)(k:Nat)(d:∀x,(c x).length=k)(b:List α)(i:Nat):(b.flatMap c).take (i*k)=(b.take i).flatMap c:=by
 induction b generalizing i with
 |nil=>simp
 |cons a l ih=>
  cases i with
  |zero=>simp
  |succ i=>rw[A9,Fe,A9,<-ih,show(i+1)*k=(c a).length+i*k by rw[d,Nat.succ_mul,C9],EM]
theorem Rk(c : α -> Gf)(k:Nat)(d:∀x,(c x).length=k)(b:List α)(i:Nat):(b.flatMap c).drop (i*k)=(b.drop i).flatMap c:=by
 induction b generalizing i with
 |nil=>simp
 |cons a l ih=>
  cases i with
  |zero=>simp
  |succ i=>rw[A9,Fh,<-ih,show(i+1)*k=(c a).length+i*k by rw[d,Nat.succ_mul,C9],EN]
theorem QZ(c : α -> Gf)(k:Nat)(b:∀x,(c x).length=k){a:List α}{j:Nat}{x : α}(h:a[j]?=some x)(r:Nat)(d:r<k):(a.flatMap c)[j*k+r]?=(c x)[r]? := by have e:=Cp (·[r]?) (Rk c k b a j);rw[A2 (Ac.1 h).1,(Ac.1 h).2]at e;simp only[BF,A9]at e;rw[e,Ap (by rw[b];exact d)]
theorem I6.an{lt : α -> α -> Bool}{a:List (α × β)}{b : α}{i:Nat}(h:I6 lt a b i true):∃r,a[i]?=some (b,r):=by obtain⟨x,h1,h2⟩:=h.2.2.2.1 rfl;grind
theorem I6.not{lt : α -> α -> Bool}(n:∀a,lt a a=false){b:List (α × β)}{j : α}{i:Nat}(l:Mc lt b)(h:I6 lt b j i false):∀x∈b,x.1≠j:=by
 intro x m e;obtain⟨k,c⟩:=Co m;rcases AD k i with g|g;have:=h.2.1 k x g c;rw[e,n]at this;cases this;rcases AD i k with d|d;have f:i<b.length:=by have:=(Ac.1 c).1;omega
 have h3:=l i k _ x d (Ab f) c;have h4:=h.2.2.1 i _ (Aa _) (Ab f);simp_all;obtain rfl:k=i:=Ω;have:=h.2.2.2.2 ⟨x,c,e⟩;cases this
theorem TY{lt : α -> α -> Bool}(t:∀a,lt a a=false)(ac:∀{a b},lt a b=false->a≠b->lt b a=true){c:List (α × β)}{g : α}{i:Nat}(l : β)(m:Mc lt c)(h:I6 lt c g i false):
  Mc lt (c.take i++(g,l)::c.drop i)/\(c.take i++(g,l)::c.drop i).length=c.length+1/\∀x,x∈c.take i++(g,l)::c.drop i↔x=(g,l)\/x∈c:=by
 have hi:=h.1;have ab:=I6.not t m h;have aa:∀k x,i<=k->c[k]?=some x->lt g x.1=true:=λk x s e=>by have d:=h.2.2.1 k x s e;grind [List.mem_of_getElem?]
 have hl:(c.take i).length=i:=Ξ;have q:∀k,(c.take i++(g,l)::c.drop i)[k]?=if k<i then c[k]? else if k=i then some (g,l) else c[k-1]? := by grind
 refine⟨λj k x y r e f=>?_,?_,λx=>?_⟩;rw[q]at e f;by_cases p:j<i;rw[if_pos p]at e;by_cases n:k<i;rw[if_pos n]at f;exact m j k x y r e f;rw[if_neg n]at f;by_cases o:k=i;rw[if_pos o]at f;cases f;exact h.2.1 j x p e;rw[if_neg o]at f;exact m j (k-1) x y Ω e f;rw[if_neg p]at e;have n:¬k<i:=Ω;have o:¬k=i:=Ω;rw[if_neg n,if_neg o]at f;by_cases u:j=i;grind;rw[if_neg u]at e;exact m (j-1) (k-1) x y Ω e f;grind;have:c=c.take i++c.drop i:=(Bz i c).r;constructor;intro e;simp only[Al,AM]at e;rcases e with d|d|d;exact .inr (BS d);exact .inl d;exact .inr (List.mem_of_mem_drop d);intro e;simp only[Al,AM];rcases e with d|d;exact .inr (.inl d);rw[this,Al]at d;rcases d with d|d;exact .inl d;exact .inr (.inr d)
theorem YH{lt : α -> α -> Bool}(ir:∀a,lt a a=false){b:List (α × β)}{q : α}{i:Nat}(l:Mc lt b)(h:I6 lt b q i true):
  Mc lt (b.take i++b.drop (i+1))/\(b.take i++b.drop (i+1)).length+1=b.length/\∀x,x∈b.take i++b.drop (i+1)↔x∈b/\x.1≠q:=by
 obtain⟨r,n⟩:=h.an;have hi:i<b.length:=Γ;have hl:(b.take i).length=i:=Γ;have m:∀k,(b.take i++b.drop (i+1))[k]?=if k<i then b[k]? else b[k+1]? := by grind
 refine⟨λj k x y s c f=>?_,Γ,λx=>?_⟩;rw[m]at c f;by_cases o:j<i;rw[if_pos o]at c;by_cases p:k<i;rw[if_pos p]at f;exact l j k x y s c f;rw[if_neg p]at f;exact l j (k+1) x y Ω c f;rw[if_neg o]at c;rw[if_neg Ω]at f;exact l (j+1) (k+1) x y Ω c f;constructor;intro c;obtain⟨k,d⟩:=Co c;rw[m]at d;by_cases g:k<i;rw[if_pos g]at d;refine⟨Ai d,λe=>?_⟩;have:=l k i x _ g d n;grind;rw[if_neg g]at d;refine⟨Ai d,λe=>?_⟩;have:=l i (k+1) _ x Ω n d;grind;rintro⟨c,aa⟩;obtain⟨k,d⟩:=Co c;rcases CY k i with g|g|g;grind;grind;exact Ai (i:=k-1) (by rw[m,if_neg Ω,show k-1+1=k by omega];omega)
theorem Za{lt : α -> α -> Bool}(ir:∀a,lt a a=false){b:List (α × β)}{c : α}{i:Nat}(d : β)(m:Mc lt b)(h:I6 lt b c i true):
  Mc lt (b.set i (c,d))/\(b.set i (c,d)).length=b.length/\∀x,x∈b.set i (c,d)↔x=(c,d)\/x∈b/\x.1≠c:=by
 obtain⟨r,o⟩:=h.an;have hi:i<b.length:=Γ;have t:∀k,(b.set i (c,d))[k]?=if k=i then some (c,d) else b[k]? := by grind
 have n:∀(k:Nat) (x : α × β),(b.set i (c,d))[k]?=some x->∃y : α × β,b[k]?=some y/\y.1=x.1:=Γ;refine⟨λj k x y u l v=>?_,Θ,λx=>?_⟩;obtain⟨w,f,p⟩:=n j x l;obtain⟨z,q,s⟩:=n k y v;rw[<-p,<-s];exact m j k w z u f q;constructor;intro l;obtain⟨k,g⟩:=Co l;rw[t]at g;by_cases e:k=i;simp_all;rw[if_neg e]at g;rcases Nat.lt_or_gt_of_ne e with f|f;have:=m k i x _ f g o;grind;have:=m i k _ x f o g;grind;rintro(rfl|⟨l,aa⟩);grind;obtain⟨k,g⟩:=Co l;grind
structure VS where
 p:OA
 f:Int
structure VF where
 a:OA
 l:Nat
 c:Nat
 f:Int
def IG(x:By×VS):Gf:=[dU x.1,.pointer x.2.p,dI x.2.f]
def Ds(es:List (By×VS)):Gf:=es.flatMap IG
theorem Zfd(a:List (By×VS)):(Ds a).length=a.length*3:=Vp IG 3 (λ_=>rfl) a
theorem Zfe(a b:List (By×VS)):Ds (a++b)=Ds a++Ds b:=by simp[Ds]
theorem Zhk(a:List (By×VS))(i:Nat):(Ds a).take (i*3)=Ds (a.take i):=Ts IG 3 (λ_=>rfl) a i
theorem Zhl(a:List (By×VS))(i:Nat):(Ds a).drop (i*3)=Ds (a.drop i):=Rk IG 3 (λ_=>rfl) a i
theorem RP(b:List (By×VS)):∀u∈Ds b,u.oneCell'=true:=by intro u a;simp only[Ds,Ez,IG,AM,Ey,or_false]at a;obtain⟨x,_,rfl|rfl|rfl⟩:=a<;>simp[Value.oneCell']
theorem UZ(a:List (By×VS))(k:Nat)(x:By×VS)(h:a[k]?=some x):(Ds a)[k*3]?=some (dU x.1)/\(Ds a)[k*3+1]?=some (.pointer x.2.p)/\(Ds a)[k*3+2]?=some (dI x.2.f):=⟨QZ IG 3 (λ_=>rfl) h 0 Ω,QZ IG 3 (λ_=>rfl) h 1 Ω,QZ IG 3 (λ_=>rfl) h 2 Ω⟩
abbrev GA(es:List (By×VS)):Prop:=Mc Ho es
abbrev AtS(es:List (By×VS))(t:By)(i:Nat)(b:Bool):Prop:=I6 Ho es t i b
theorem WI(x:By×VS)(a:By)(w:World):Cl 294 #[.agg #[dU x.1,.pointer x.2.p,dI x.2.f],dU a] w λe w'=>e=dR (dI (QV x.1 a))/\Bw w w':=by go_enter func294,ntmps294;go_wp2_with(apply(ZrO _ _ _).Q;rintro e w'⟨rfl,rfl⟩);go_ret;exact⟨rfl,(Ad _ _).alloc (Aa _) _⟩
theorem Ot(g n F:Nat)(c:Nat->By×VS)(l:By)(w:World)(hn:n<=10000)(f:∀k,k<n->w.cell? (dQ g (k*3))=some (dU (c k).1))(m:∀k,k<n->w.cell? (dQ g (k*3+1))=some (.pointer (c k).2.p))(o:∀k,k<n->w.cell? (dQ g (k*3+2))=some (dI (c k).2.f))(D:∀j k,j<k->k<n->Ho (c j).1 (c k).1=true):
  Cl 293 #[dS g n F,dU l,.func (.func 294) #[] #[]] w λe w'=>∃(i:Nat) (b:Bool),e=dR (.tuple #[dI i,dV b])/\
   (i<=n/\(∀k,k<i->Ho (c k).1 l=true)/\(∀k,i<=k->k<n->Ho (c k).1 l=false)/\(b=true↔i<n/\(c i).1=l))/\Bw w w':=by
 have HS:=Db D;clear D;go_enter func293,ntmps293;go_wp2_with fail
 go_loopw [9,10] (λi j wr=>∃a b:Nat,i=dI a/\j=dI b/\a<=b/\b<=n/\Hid (∀k,k<a->Ho (c k).1 l=true)/\Hid (∀k,b<=k->k<n->Ho (c k).1 l=false)/\Bw w wr) (λi j _=>(intOf j-intOf i).toNat)
 case atStart=>exact⟨0,n,rfl,rfl,Ao _,Aa _,λ_ h=>Ω,λk G H=>Ω,Ad _ _⟩
 case round=>
  obtain⟨a,b,rfl,rfl,aa,x,z,y,d⟩:=hrel;by_cases ab:a<b
  .have u:(a+b)/2<n:=Ω;have q:g<w.heap.size:=Ag _ _ (f _ u);have J:=(d.J (p:=⟨g,(a+b)/2*3,none⟩) q).M (f _ u);have K:=(d.J (p:=⟨g,(a+b)/2*3+1,none⟩) q).M (m _ u);have L:=(d.J (p:=⟨g,(a+b)/2*3+2,none⟩) q).M (o _ u);have A:=Db f;have B:=Db m;have C:=Db o;clear f m o;go_wp2_with fail;apply(WI (c ((a+b)/2)) _ _).Q;rintro e w'⟨rfl,t⟩;by_cases I:QV (c ((a+b)/2)).1 l<0
   .have r:=(Xr _ _).1 I;have v:=Db r;clear r;go_wp2
    go_roundw
    case rel=>
     refine⟨(a+b)/2+1,b,by go_num,rfl,Ω,x,λk hk=>?_,y,d.M (t.Q d.size)⟩;rcases AD k ((a+b)/2) with h|h;grind [Pd,Da];obtain rfl:k=(a+b)/2:=Ω;exact Da v
    case measure=>grind [intOf]
   .have r:Ho (c ((a+b)/2)).1 l=false:=(by simp_all[Ho,Xr]);have v:=Db r;clear r;go_wp2
    go_roundw
    case rel=>
     refine⟨a,(a+b)/2,rfl,by go_num,Ω,Ω,z,λk G H=>?_,d.M (t.Q d.size)⟩;rcases AD ((a+b)/2) k with h|h;grind [Ho,absurd,Pd,Da];obtain rfl:k=(a+b)/2:=Ω;exact Da v
    case measure=>grind [intOf]
  .obtain rfl:a=b:=Ω;by_cases s:a<n
   .have q:g<w.heap.size:=Ag _ _ (f _ s);have J:=(d.J (p:=(dQ g (a*3))) q).M (f _ s);have K:=(d.J (p:=(dQ g (a*3+1))) q).M (m _ s);have L:=(d.J (p:=(dQ g (a*3+2))) q).M (o _ s);have A:=Db f;have B:=Db m;have C:=Db o;clear f m o;go_wp2_with fail;apply(WI (c a) _ _).Q;rintro e w'⟨rfl,t⟩;have E:=ZpQ (c a).1 l;have HZ:=Db E;clear E;go_wp2
    go_ret2
    refine⟨a,_,rfl,⟨x,z,y,?_⟩,d.M (t.Q d.size)⟩;grind [Da]
   .have hq:decide (((a:Nat):Int)<(n:Int))=false:=Ξ;have A:=Db f;have B:=Db m;have C:=Db o;clear f m o;go_wp2
    go_ret2
    exact⟨a,_,rfl,⟨x,z,y,Γ⟩,d⟩
theorem NP(v:Value)(a:List (By×VS))(h:By)(w:World)(A:Sl w 310 3 v a.length (Ds a))(D:a.length<=10000)(E:GA a):
  Cl 293 #[v,dU h,.func (.func 294) #[] #[]] w λe w'=>∃(i:Nat) (b:Bool),e=dR (.tuple #[dI i,dV b])/\AtS a h i b/\Bw w w':=by
 rcases A.2 with⟨rfl,y⟩|⟨g,n,L,rfl,z,hc,aa,hL,hT⟩
 .have:a=[]:=AC y;subst this;go_enter func293,ntmps293;go_wp2_with fail
  go_loopw [9,10] (λi j wr=>i=dI 0/\j=dI 0/\wr=w) (λ_ _ _=>0)
  case atStart=>simp_all
  case round=>
   obtain⟨rfl,rfl,rfl⟩:=hrel;go_wp2
   go_ret2
   exact⟨0,false,rfl,⟨Ao _,Ω,Γ,Θ⟩,Ad _ _⟩
 have s:∀j u,(Ds a)[j]?=some u->w.cell? (dQ g j)=some u:=λj u hu=>by rw[z.J];grind
 cases hes:a with
 |nil=>
  subst hes;apply(Ot g 0 n (λ_=>(⟨#[]⟩,⟨none,0⟩)) h w Ω Ω Ω Ω Ω).Q;rintro e w'⟨i,b,rfl,⟨o,p,q,r⟩,l⟩;obtain rfl:i=0:=Ω;exact⟨0,b,rfl,⟨Aa _,Ω,Γ,Ξ⟩,l⟩
 |cons x0 l0=>
  rw[<-hes];have f:∀k,k<a.length->a[k]?=some (a.getD k x0):=Γ;refine(Ot g a.length n (λk=>a.getD k x0) h w D (by grind [UZ]) (λk c=>s _ _ (UZ a k _ (f k c)).2.1) (λk c=>s _ _ (UZ a k _ (f k c)).2.2)
   (λj k C c=>E j k _ _ C Γ (f k c))).Q ?_
  rintro e w'⟨i,b,rfl,⟨o,p,q,r⟩,l⟩;have t:∀k x,a[k]?=some x->k<a.length:=Γ;have m:∀k x,a[k]?=some x->x=a.getD k x0:=Γ;refine⟨i,b,rfl,⟨o,λk x c d=>?_,λk x c d=>?_,?_⟩,l⟩;rw[m k x d];exact p k c;rw[m k x d];exact q k c (t k x d);rw[r];constructor;rintro⟨B,e⟩;exact⟨_,f i B,e⟩;rintro⟨x,d,e⟩;exact⟨t i x d,by rw[<-e,m i x d]⟩
def Im(x:Int×VF):Gf:=[dI x.1,dT x.2.a x.2.l x.2.c,dI x.2.f]
def Du(es:List (Int×VF)):Gf:=es.flatMap Im
theorem Wl(a:List (Int×VF)):(Du a).length=a.length*3:=Vp Im 3 (λ_=>rfl) a
theorem Zfg(a b:List (Int×VF)):Du (a++b)=Du a++Du b:=by simp[Du]
theorem Zhq(a:List (Int×VF))(i:Nat):(Du a).take (i*3)=Du (a.take i):=Ts Im 3 (λ_=>rfl) a i
theorem Zhr(a:List (Int×VF))(i:Nat):(Du a).drop (i*3)=Du (a.drop i):=Rk Im 3 (λ_=>rfl) a i
theorem RO(b:List (Int×VF)):∀u∈Du b,u.oneCell'=true:=by intro u a;simp only[Du,Ez,Im,AM,Ey,or_false]at a;obtain⟨x,_,rfl|rfl|rfl⟩:=a<;>simp[Value.oneCell']
theorem UY(a:List (Int×VF))(k:Nat)(x:Int×VF)(h:a[k]?=some x):(Du a)[k*3]?=some (dI x.1)/\(Du a)[k*3+1]?=some (dT x.2.a x.2.l x.2.c)/\(Du a)[k*3+2]?=some (dI x.2.f):=⟨QZ Im 3 (λ_=>rfl) h 0 Ω,QZ Im 3 (λ_=>rfl) h 1 Ω,QZ Im 3 (λ_=>rfl) h 2 Ω⟩
abbrev G3(es:List (Int×VF)):Prop:=Mc Hf es
abbrev AtI(es:List (Int×VF))(t:Int)(i:Nat)(b:Bool):Prop:=I6 Hf es t i b
theorem WG(x:Int×VF)(a:Int)(w:World):Cl 259 #[.agg #[dI x.1,dT x.2.a x.2.l x.2.c,dI x.2.f],dI a] w λe w'=>e=dR (dI (KW x.1 a))/\Bw w w':=by go_enter func259,ntmps259;go_wp2_with(apply(ZrQ _ _ _).Q;rintro e w'⟨rfl,rfl⟩);go_ret;exact⟨rfl,(Ad _ _).alloc (Aa _) _⟩
theorem Ov(g n F:Nat)(c:Nat->Int×VF)(l:Int)(w:World)(hn:n<=10000)(f:∀k,k<n->w.cell? (dQ g (k*3))=some (dI (c k).1))(m:∀k,k<n->w.cell? (dQ g (k*3+1))=some (.slice (c k).2.a (c k).2.l (c k).2.c))(o:∀k,k<n->w.cell? (dQ g (k*3+2))=some (dI (c k).2.f))(D:∀j k,j<k->k<n->Hf (c j).1 (c k).1=true):
  Cl 258 #[dS g n F,dI l,.func (.func 259) #[] #[]] w λe w'=>∃(i:Nat) (b:Bool),e=dR (.tuple #[dI i,dV b])/\
   (i<=n/\(∀k,k<i->Hf (c k).1 l=true)/\(∀k,i<=k->k<n->Hf (c k).1 l=false)/\(b=true↔i<n/\(c i).1=l))/\Bw w w':=by
 have HS:=Db D;clear D;go_enter func258,ntmps258;go_wp2_with fail
 go_loopw [9,10] (λi j wr=>∃a b:Nat,i=dI a/\j=dI b/\a<=b/\b<=n/\Hid (∀k,k<a->Hf (c k).1 l=true)/\Hid (∀k,b<=k->k<n->Hf (c k).1 l=false)/\Bw w wr) (λi j _=>(intOf j-intOf i).toNat)
 case atStart=>exact⟨0,n,rfl,rfl,Ao _,Aa _,λ_ h=>Ω,λk G H=>Ω,Ad _ _⟩
 case round=>
  obtain⟨a,b,rfl,rfl,aa,x,z,y,d⟩:=hrel;by_cases ab:a<b
  .have u:(a+b)/2<n:=Ω;have q:g<w.heap.size:=Ag _ _ (f _ u);have J:=(d.J (p:=⟨g,(a+b)/2*3,none⟩) q).M (f _ u);have K:=(d.J (p:=⟨g,(a+b)/2*3+1,none⟩) q).M (m _ u);have L:=(d.J (p:=⟨g,(a+b)/2*3+2,none⟩) q).M (o _ u);have A:=Db f;have B:=Db m;have C:=Db o;clear f m o;go_wp2_with fail;apply(WG (c ((a+b)/2)) _ _).Q;rintro e w'⟨rfl,t⟩;by_cases I:KW (c ((a+b)/2)).1 l<0
   .have r:=(Rd _ _).1 I;have v:=Db r;clear r;go_wp2
    go_roundw
    case rel=>
     refine⟨(a+b)/2+1,b,by go_num,rfl,Ω,x,λk hk=>?_,y,d.M (t.Q d.size)⟩;rcases AD k ((a+b)/2) with h|h;grind [Sb,Da];obtain rfl:k=(a+b)/2:=Ω;exact Da v
    case measure=>grind [intOf]
   .have r:Hf (c ((a+b)/2)).1 l=false:=(by simp_all[Hf,Rd]);have v:=Db r;clear r;go_wp2
    go_roundw
    case rel=>
     refine⟨a,(a+b)/2,rfl,by go_num,Ω,Ω,z,λk G H=>?_,d.M (t.Q d.size)⟩;rcases AD ((a+b)/2) k with h|h;grind [Hf,absurd,Sb,Da];obtain rfl:k=(a+b)/2:=Ω;exact Da v
    case measure=>grind [intOf]
  .obtain rfl:a=b:=Ω;by_cases s:a<n
   .have q:g<w.heap.size:=Ag _ _ (f _ s);have J:=(d.J (p:=(dQ g (a*3))) q).M (f _ s);have K:=(d.J (p:=(dQ g (a*3+1))) q).M (m _ s);have L:=(d.J (p:=(dQ g (a*3+2))) q).M (o _ s);have A:=Db f;have B:=Db m;have C:=Db o;clear f m o;go_wp2_with fail;apply(WG (c a) _ _).Q;rintro e w'⟨rfl,t⟩;have E:=Zm (c a).1 l;have HZ:=Db E;clear E;go_wp2
    go_ret2
    refine⟨a,_,rfl,⟨x,z,y,?_⟩,d.M (t.Q d.size)⟩;grind [Da]
   .have hq:decide (((a:Nat):Int)<(n:Int))=false:=Ξ;have A:=Db f;have B:=Db m;have C:=Db o;clear f m o;go_wp2
    go_ret2
    exact⟨a,_,rfl,⟨x,z,y,Γ⟩,d⟩
theorem NR(v:Value)(a:List (Int×VF))(h:Int)(w:World)(A:Sl w 293 3 v a.length (Du a))(D:a.length<=10000)(E:G3 a):
  Cl 258 #[v,dI h,.func (.func 259) #[] #[]] w λe w'=>∃(i:Nat) (b:Bool),e=dR (.tuple #[dI i,dV b])/\AtI a h i b/\Bw w w':=by
 rcases A.2 with⟨rfl,y⟩|⟨g,n,L,rfl,z,hc,aa,hL,hT⟩
 .have:a=[]:=AC y;subst this;go_enter func258,ntmps258;go_wp2_with fail
  go_loopw [9,10] (λi j wr=>i=dI 0/\j=dI 0/\wr=w) (λ_ _ _=>0)
  case atStart=>simp_all
  case round=>
   obtain⟨rfl,rfl,rfl⟩:=hrel;go_wp2
   go_ret2
   exact⟨0,false,rfl,⟨Ao _,Ω,Γ,Θ⟩,Ad _ _⟩
 have s:∀j u,(Du a)[j]?=some u->w.cell? (dQ g j)=some u:=λj u hu=>by rw[z.J];grind
 cases hes:a with
 |nil=>
  subst hes;apply(Ov g 0 n (λ_=>(0,⟨none,0,0,0⟩)) h w Ω Ω Ω Ω Ω).Q;rintro e w'⟨i,b,rfl,⟨o,p,q,r⟩,l⟩;obtain rfl:i=0:=Ω;exact⟨0,b,rfl,⟨Aa _,Ω,Γ,Ξ⟩,l⟩
 |cons x0 l0=>
  rw[<-hes];have f:∀k,k<a.length->a[k]?=some (a.getD k x0):=Γ;refine(Ov g a.length n (λk=>a.getD k x0) h w D (by grind [UY]) (λk c=>s _ _ (UY a k _ (f k c)).2.1) (λk c=>s _ _ (UY a k _ (f k c)).2.2)
   (λj k C c=>E j k _ _ C Γ (f k c))).Q ?_
  rintro e w'⟨i,b,rfl,⟨o,p,q,r⟩,l⟩;have t:∀k x,a[k]?=some x->k<a.length:=Γ;have m:∀k x,a[k]?=some x->x=a.getD k x0:=Γ;refine⟨i,b,rfl,⟨o,λk x c d=>?_,λk x c d=>?_,?_⟩,l⟩;rw[m k x d];exact p k c;rw[m k x d];exact q k c (t k x d);rw[r];constructor;rintro⟨B,e⟩;exact⟨_,f i B,e⟩;rintro⟨x,d,e⟩;exact⟨t i x d,by rw[<-e,m i x d]⟩
abbrev NS:=Nat->List (ByteArray×VS)
abbrev LS:=List (ByteArray×VS)
abbrev LF:=List (Int×VF)
theorem WU(L a b:Gf)(i n:Nat)(hL:(n+1)*3<=L.length)(e:L.take (n*3)=a)(hi:i<n)(aa:b.length=3):
  (Gq (Gq L ((i+1)*3) (a.drop (i*3))) (i*3) b).take ((n+1)*3)=a.take (i*3)++b++a.drop (i*3):=by
 have c:(Gq L ((i+1)*3) (a.drop (i*3))).take (i*3)=a.take (i*3):=by unfold Gq;rw[Ar,A0 (by rw[AP];omega),Cj,BI Ω,<-e,Cj,BI Ω]
 have d:(Gq L ((i+1)*3) (a.drop (i*3))).drop (i*3+b.length)=a.drop (i*3)++L.drop ((i+1)*3+(a.drop (i*3)).length):=by unfold Gq;grind
 rw[Gq,c,d,<-Ar];exact Ce Γ
theorem XG(Z a b:Gf)(i n:Nat)(ac:a.length=n*3)(hi:i<n)(_hZ:(n+1)*3<=(a.take (i*3)++Z).length)(aa:b.length=3):
  (Gq (Gq (a.take (i*3)++Z) (i*3) b) ((i+1)*3) (a.drop (i*3))).take ((n+1)*3)=a.take (i*3)++b++a.drop (i*3):=by
 have ab:(a.take (i*3)).length=i*3:=Γ;grind [Gq,List.take_left',List.length_append]
theorem WT(L a z:Gf)(i n:Nat)(hL:n*3<=L.length)(d:L.take (n*3)=a)(hi:i<n):
  (Gq (Gq L (i*3) (a.drop ((i+1)*3))) ((n-1)*3) z).take ((n-1)*3)=a.take (i*3)++a.drop ((i+1)*3):=by
 have g:a.length=n*3:=by rw[<-d,AP];omega
 have b:(a.drop ((i+1)*3)).length=(n-1-i)*3:=by rw[AN,g];omega
 have e:L.take (i*3)=a.take (i*3):=by rw[<-d,Cj,BI Ω]
 have c:(a.take (i*3)).length=i*3:=by rw[AP];omega
 have f:(Gq L (i*3) (a.drop ((i+1)*3))).take ((n-1)*3)=a.take (i*3)++a.drop ((i+1)*3):=by unfold Gq;rw[e];exact Ce (by simp only[Ah,c,b];omega)
 rw[Gq,Ar,f];exact Ce (by simp only[Ah,c,b];omega)
theorem Mi(a:World)(b:Nat)(x y c d:Value)(h0:a.cell? (dQ b 0)=some c)(h1:a.cell? (dQ b 1)=some d):
  (a.setCell (dQ b 0) x).cell? (dQ b 0)=some x/\((a.setCell (dQ b 0) x).setCell (dQ b 1) y).cell? (dQ b 0)=some x/\((a.setCell (dQ b 0) x).setCell (dQ b 1) y).cell? (dQ b 1)=some y:=by
 grind [World.cell?_setCell_same,World.cell?_setCell_other,trans]
theorem So(w:World)(o:Obj)(p:Addr)(h:p.block<w.heap.size):(w.alloc o).cell? p=w.cell? p:=(Below.cell (B:=w.heap.size) ((Ad _ _).alloc (Aa _) o) h)
structure Ls(w w':World)(hb ho:Nat)(v v':Value):Prop where
 os:w'.os=w.os
 tape:w'.tape=w.tape
 output:w'.output=w.output
 size:w.heap.size<=w'.heap.size
 block:∀k,k<w.heap.size->k≠hb->v.ownBlock≠some k->w'.heap[k]?=w.heap[k]?
 head:w'.heap[hb]?=(w.setCell (dQ hb ho) v').heap[hb]?
theorem Sl.setCell{b:Nat}{v:Value}{c:Gf}(h:Sl w e b v n c)(a:Addr)(u:Value)(ab:v.ownBlock≠some a.block):Sl (w.setCell a u) e b v n c:=by refine⟨h.1,?_⟩;rcases h.2 with h2|⟨g,aa,L,rfl,hr,h3⟩;simp_all;grind [Gb,Below.heap_setCell,Value.ownBlock]
theorem Sl.heap{a:Nat}{v:Value}{b:Gf}(h:Sl w e a v n b)(hh:w'.heap=w.heap):Sl w' e a v n b:=by simp_all[Sl,Gb]
theorem Sl.kept{b:Nat}{v:Value}{c:Gf}(h:Sl w e b v n c)(i:∀k,k<w.heap.size->v.ownBlock=some k->w'.heap[k]?=w.heap[k]?):Sl w' e b v n c:=by refine⟨h.1,?_⟩;rcases h.2 with h2|⟨g,d,L,rfl,a,f⟩;simp_all;refine .inr ⟨g,d,L,rfl,?_,f⟩;unfold Gb;rw[i g a.lt rfl];exact a
theorem Sl.lt{c:Nat}{v:Value}{d:Gf}(h:Sl w e c v n d)(a:v.ownBlock=some g):g<w.heap.size:=by rcases h.2 with⟨rfl,_⟩|⟨g',aa,L,rfl,b,_⟩;grind [Value.ownBlock];simp[Value.ownBlock]at a;subst a;exact b.lt
theorem Sl.a0{b:Nat}{v:Value}{d:Gf}(h:Sl w e b v n d):∃a m c,v=dT a m c:=by rcases h.2 with⟨rfl,_⟩|⟨g',aa,L,rfl,hr,_⟩;simp_all;simp_all
theorem PO{w2:World}{a ho:Nat}{v b:Value}{c:Gf}(f:w.cell? (dQ a ho)=some v)(ac:v.ownBlock≠some a)(d:Sl w2 e 3 b n c)(i:Dm w v b)(j:w2.os=w.os)(m:w2.tape=w.tape)(l:w2.output=w.output)(ad:w.heap.size<=w2.heap.size)(aa:∀k,k<w.heap.size->v.ownBlock≠some k->w2.heap[k]?=w.heap[k]?):
  (w2.setCell (dQ a ho) b).cell? (dQ a ho)=some b/\Sl (w2.setCell (dQ a ho) b) e 3 b n c/\Ls w (w2.setCell (dQ a ho) b) a ho v b:=by
 have ab:a<w.heap.size:=Ag _ _ f;have g:w2.cell? (dQ a ho)=some v:=by grind [World.cell?_of_block,trans]
 refine⟨Cv _ _ _ g,d.setCell _ _ (λe=>?_),j,m,l,Ξ,λk hk h1 h2=>?_,?_⟩;rcases i a e with h|h;grind;omega;grind [Below.heap_setCell];simp only[World.setCell,EQ,FD];grind
theorem Od(w:World)(v:Value)(a:LS)(i:Nat)(x:By×VS)(vb:Nat)(q:Sl w 310 3 v a.length (Ds a))(hi:i<=a.length)(m:a.length<=10000)(n:Gb w vb 310 (IG x))(ac:v.ownBlock≠some vb):
  Cl 265 #[v,dI i,dS vb 1 1] w λe w'=>∃v',e=dR v'/\Sl w' 310 3 v' (a.length+1) (Ds (a.take i++x::a.drop i))/\w.grownBy w' v.ownBlock/\Dm w v v':=by
 have h:∀u∈IG x,u.oneCell'=true:=λu hu=>RP [x] u (by grind [Ds]);have r:Ds (a.take i++x::a.drop i)=(Ds a).take (i*3)++IG x++(Ds a).drop (i*3):=by rw[Zhk,Zhl,Zfe,Ar];rfl
 have D:=Zfd a;rcases AD i a.length with f|aa;rcases q.2 with⟨rfl,h0⟩|⟨g,c,L,rfl,p,A,s,o,l⟩;omega;have C:vb≠g:=by grind [Value.ownBlock]
 have ab:((Ds a).take (i*3)++IG x++(Ds a).drop (i*3)).length=(a.length+1)*3:=by grind [List.length_append,List.length_take,List.length_drop,IG]
 rcases AD c (a.length+1) with B|t;apply(Ya (.inl ⟨rfl,rfl,rfl,rfl,rfl,rfl⟩) w g a.length c (Ds a) L i vb (IG x) p o l f A B m n rfl (RP a) h).Q;rintro e w'⟨G,Z,rfl,y,z,h4,j,b⟩;refine⟨_,rfl,⟨Ξ,.inr ⟨_,G,_,rfl,j,y,z,?_,?_⟩⟩,⟨b.os,b.tape,b.output,b.size,λk d _=>b.block k d Γ⟩,λk d=>by grind [Value.ownBlock]⟩;grind [KM,IG,List.length_drop];rw[r];exact XG Z (Ds a) (IG x) i a.length D f Ω rfl;apply(Xo (.inl ⟨rfl,rfl,rfl,rfl,rfl,rfl⟩) w g a.length c (Ds a) L i vb (IG x) p o l f t s m n rfl (RP a) h C).Q;rintro e w'⟨rfl,j,b⟩;refine⟨_,rfl,⟨Ξ,.inr ⟨_,c,_,rfl,j,t,s,?_,?_⟩⟩,b,λk d => .inl d⟩;grind [KM,List.length_drop,IG];rw[r];exact WU L (Ds a) (IG x) i a.length Ω l f rfl;obtain rfl:i=a.length:=Ω;apply(Xn (.inl ⟨rfl,rfl,rfl,rfl,rfl,rfl⟩) w v a.length (Ds a) vb (IG x) q m n rfl h).Q;grind
theorem Om(w:World)(v:Value)(a:LS)(i:Nat)(l:Sl w 310 3 v a.length (Ds a))(o:i<a.length)(q:a.length<=10000):
  Cl 268 #[v,dI i,dI ((i:Int)+1)] w λe w'=>∃v',e=dR v'/\Sl w' 310 3 v' (a.length-1) (Ds (a.take i++a.drop (i+1)))/\w.grownBy w' v.ownBlock/\Dm w v v':=by
 have aa:Ds (a.take i++a.drop (i+1))=(Ds a).take (i*3)++(Ds a).drop ((i+1)*3):=by rw[Zhk,Zhl,Zfe]
 have ab:=Zfd a;rcases l.2 with⟨rfl,h0⟩|⟨g,b,L,rfl,j,n,c,h,m⟩;omega;apply(Oo (.inl ⟨rfl,rfl,rfl,rfl,rfl,rfl⟩) w g a.length b (Ds a) L i j h m o n c q (RP a)).Q;rintro e w'⟨rfl,_,h4,d,f⟩;refine⟨_,rfl,⟨?_,.inr ⟨_,b,_,rfl,d,Ω,c,?_,?_⟩⟩,f,λk p => .inl p⟩;grind;grind [KM,List.length_drop];grind [WT,Ds]
theorem SV(w:World)(c ho:Nat)(v:Value)(a:LS)(d:By)(hc:w.cell? (dQ c ho)=some v)(h:Sl w 310 3 v a.length (Ds a))(j:a.length<=10000)(l:GA a):
  Cl 264 #[.pointer (some (dQ c ho)),dU d] w λe w'=>∃(i:Nat) (b:Bool),e=dR (.tuple #[dI i,dV b])/\AtS a d i b/\Bw w w':=by
 have k:=NP v a d w h j l;go_enter func264,ntmps264;go_wp2_with fail;apply k.Q;rintro e w'⟨i,b,rfl,g,c⟩;have f:=Db g;go_wp2
 go_ret2
 exact⟨i,b,rfl,Da f,c⟩
def W7(es:LS)(key:By)(r:VS)(b:Bool):Prop:=(b=true/\(key,r)∈es)\/(b=false/\r=⟨none,0⟩/\∀x∈es,x.1≠key)
theorem SG(w:World)(d ho:Nat)(v:Value)(c:LS)(A:By)(s:w.cell? (dQ d ho)=some v)(m:Sl w 310 3 v c.length (Ds c))(P:c.length<=10000)(G:GA c):
  Cl 266 #[.pointer (some (dQ d ho)),dU A] w λe w'=>∃(r:VS) (b:Bool),e=dR (.tuple #[.agg #[.pointer r.p,dI r.f],dV b])/\W7 c A r b/\Bw w w':=by
 have D:d<w.heap.size:=Ag _ _ s;have n:∀o,Bw w (w.alloc o):=λo=>(Ad _ _).alloc (Aa _) o;have E:=λo=>SV (w.alloc o) d ho v c A (((n o).J (p:=dQ d ho) D).M s) (Sl.a3 (m.bp.alloc o)) P G;go_enter func266,ntmps266;go_wp2_with fail;apply(E _).Q;rintro e a⟨i,b,rfl,l,M⟩;have h:Below (w.heap.size+1) (w.alloc (.cells #[.pointer none,dI 0] 260)) a:=by simp_all[Bw]
 have k:∀p:Addr,p.block<w.heap.size->a.cell? p=w.cell? p:=λp Q=>(h.J (p:=p) Ω).M ((n _).J Q);have z:∀j,a.cell? (dQ w.heap.size j)=(#[.pointer none,dI 0]:Array Value)[j]? := λj=>(h.J (p:=dQ w.heap.size j) Θ).M Ξ;have H:a.cell? (dQ w.heap.size 0)=some (.pointer none):=z 0;have I:a.cell? (dQ w.heap.size 1)=some (dI 0):=z 1;have f:∀j,a.frozen? (dQ w.heap.size j)=false:=λj=>(h.A (p:=dQ w.heap.size j) Θ).M Ξ;have f0:=f 0;have f1:=f 1;have F:Bw w a:=(n _).M (h.Q Ω);have ad:w.heap.size<a.heap.size:=by have:=h.size;simp at this;omega
 clear z f E n M;cases b with
 |false=>
  have K:=Db (I6.not UB G l);clear l m k;obtain⟨R,B,C⟩:=Mi a w.heap.size (.pointer none) (dI 0) _ _ H I;have t1:=λo=>(So ((a.setCell (dQ w.heap.size 0) (.pointer none)).setCell (dQ w.heap.size 1) (dI 0)) o (dQ w.heap.size 0) Ξ).M B;have S:=λo=>(So ((a.setCell (dQ w.heap.size 0) (.pointer none)).setCell (dQ w.heap.size 1) (dI 0)) o (dQ w.heap.size 1) Ξ).M C;go_wp2;exact Am (v:=.tuple #[.agg #[.pointer none,dI 0],dV false]) (by simp[results,results266,go_sem,t1,S]) rfl
   ⟨⟨none,0⟩,false,rfl,.inr ⟨rfl,rfl,Da K⟩,((F.setCell (p:=dQ w.heap.size 0) (Aa _) _).setCell (p:=dQ w.heap.size 1) (Aa _) _).alloc (by simp;omega) _⟩
 |true=>
  obtain⟨r,y⟩:=l.an;rcases m.2 with⟨rfl,h0⟩|⟨g,aa,L,rfl,t,ab,ac,N,O⟩;simp_all
  .have x:∀j u,(Ds c)[j]?=some u->a.cell? (dQ g j)=some u:=λj u hu=>by rw[k _ t.lt,t.J];grind
   have q:=UZ c i _ y;have q0:=(k (dQ d ho) D).M s;have q1:=x _ _ q.2.1;have q2:=x _ _ q.2.2;have hi:i<c.length:=Γ;have J:=Db (Ai y);clear q x t N O m l y k s;obtain⟨R,B,C⟩:=Mi a w.heap.size (.pointer r.p) (dI r.f) _ _ H I;go_wp2;exact Am (v:=.tuple #[.agg #[.pointer r.p,dI r.f],dV true]) (by simp[results,results266,go_sem,B,C]) rfl
    ⟨r,true,rfl,.inl ⟨rfl,Da J⟩,(F.setCell (p:=dQ w.heap.size 0) (Aa _) _).setCell (p:=dQ w.heap.size 1) (Aa _) _⟩
theorem Zs6(w:World)(c ho:Nat)(v:Value)(a:LS)(h:By)(r:VS)(A:w.cell? (dQ c ho)=some v)(hf:w.frozen? (dQ c ho)=false)(af:v.ownBlock≠some c)(B:Sl w 310 3 v a.length (Ds a))(O:a.length<=10000)(F:GA a)(ah:∀x∈a,x.1≠h):
  Cl 226 #[.pointer (some (dQ c ho)),dU h,.agg #[.pointer r.p,dI r.f]] w λe w'=>e=dR (.tuple #[])/\∃d es',w'.cell? (dQ c ho)=some d/\Sl w' 310 3 d es'.length (Ds es')/\
   GA es'/\es'.length=a.length+1/\(∀x,x∈es'↔x=(h,r)\/x∈a)/\Dm w v d/\Ls w w' c ho v d:=by
 have K:c<w.heap.size:=Ag _ _ A;have D:∀o,Bw w (w.alloc o):=λo=>(Ad _ _).alloc (Aa _) o;have L:=λo=>SV (w.alloc o) c ho v a h (((D o).J (p:=dQ c ho) K).M A) (Sl.a3 (B.bp.alloc o)) O F;go_enter func226,ntmps226;go_wp2_with fail;apply(L _).Q;rintro e f⟨i,b,rfl,t,Z⟩;have ac:b=false:=by
  cases b with
  |false=>rfl
  |true=>obtain⟨r',am⟩:=t.an;grind
 subst ac;have u:Below (w.heap.size+1) (w.alloc (.cells #[.pointer r.p,dI r.f] 260)) f:=by simp_all[Bw]
 have l:Bw w f:=(D _).M (u.Q Ω);have q0:f.cell? (dQ c ho)=some v:=(l.J (p:=dQ c ho) K).M A;have z:∀j,f.cell? (dQ w.heap.size j)=(#[.pointer r.p,dI r.f]:Array Value)[j]? := λj=>(u.J (p:=dQ w.heap.size j) Θ).M Ξ;have z0:f.cell? (dQ w.heap.size 0)=some (.pointer r.p):=z 0;have z1:f.cell? (dQ w.heap.size 1)=some (dI r.f):=z 1;have an:w.heap.size<f.heap.size:=by have:=u.size;simp at this;omega
 have C:Sl f 310 3 v a.length (Ds a):=B.kept (λk E _=>l.block k E);have M:∀W:World,W.heap=(f.alloc (.cells #[dU h,.pointer r.p,dI r.f] 310)).heap->W.os=f.os->W.tape=f.tape->W.output=f.output->Cl 265 #[v,dI i,dS f.heap.size 1 1] W λe w'=>∃m s n d,e=dR (dT m s n)/\d=dT m s n/\
   (w'.cell? (dQ c ho)=some v/\w'.frozen? (dQ c ho)=false)/\Hid ((w'.setCell (dQ c ho) d).cell? (dQ c ho)=some d/\Sl (w'.setCell (dQ c ho) d) 310 3 d (a.length+1) (Ds (a.take i++(h,r)::a.drop i))/\Ls w (w'.setCell (dQ c ho) d) c ho v d/\Dm w v d):=λW y V X Y=>by
  have aa:Sl W 310 3 v a.length (Ds a):=(Sl.a3 (C.bp.alloc _)).heap y;have hR:Gb W f.heap.size 310 (IG (h,r)):=by unfold Gb;rw[y];exact Bv f _
  apply(Od W v a i (h,r) f.heap.size aa t.1 O hR (λe=>by have:=C.lt e;omega)).Q;rintro e w'⟨d,rfl,J,q,ag⟩;have ab:w.heap.size<=W.heap.size:=by rw[y];simp;omega
  have ad:∀k,k<w.heap.size->v.ownBlock≠some k->w'.heap[k]?=w.heap[k]? := λk E al=>by rw[q.block k Ω Γ,y,BH _ _ _ Ω,l.block k E]
  have P:Dm w v d:=λg ae=>(ag g ae).imp id Ω;obtain⟨G,R,H⟩:=PO (ho:=ho) A af J P (q.os.M (V.M l.os)) (q.tape.M (X.M l.tape)) (q.output.M (Y.M l.output)) (Ae ab q.size) ad;obtain⟨m,s,n,I⟩:=J.a0;exact⟨m,s,n,d,by rw[I],I,by grind [World.cell?_of_block,trans,World.frozen?_of_block],G,R,H,P⟩
 have Q:=Db (TY UB Z5 r F t);have N:(a.take i++(h,r)::a.drop i).length=a.length+1:=Γ;have U:=Db N;have ai:c<f.heap.size:=Ω;have T:=Db M;clear N z Z t B C F ah L D u l M;go_wp2
 go_region_with (go_at_call 265;apply(Da T _ (by rfl) (by rfl) (by rfl) (by rfl)).Q;rintro e w2⟨m,s,n,d,rfl,rfl,⟨aj,ak⟩,S⟩)
 all_goals (
  go_end0
  obtain⟨G,R,H,m4⟩:=Da S;exact⟨rfl,_,_,G,Γ,(Da Q).1,Da U,(Da Q).2.2,m4,H⟩)
theorem Of(w:World)(v:Value)(a:LF)(i:Nat)(x:Int×VF)(vb:Nat)(q:Sl w 293 3 v a.length (Du a))(hi:i<=a.length)(m:a.length<=10000)(n:Gb w vb 293 (Im x))(ac:v.ownBlock≠some vb):
  Cl 267 #[v,dI i,dS vb 1 1] w λe w'=>∃v',e=dR v'/\Sl w' 293 3 v' (a.length+1) (Du (a.take i++x::a.drop i))/\w.grownBy w' v.ownBlock/\Dm w v v':=by
 have h:∀u∈Im x,u.oneCell'=true:=λu hu=>RO [x] u (by grind [Du]);have r:Du (a.take i++x::a.drop i)=(Du a).take (i*3)++Im x++(Du a).drop (i*3):=by rw[Zhq,Zhr,Zfg,Ar];rfl
 have D:=Wl a;rcases AD i a.length with f|aa;rcases q.2 with⟨rfl,h0⟩|⟨g,c,L,rfl,p,A,s,o,l⟩;omega;have C:vb≠g:=by grind [Value.ownBlock]
 have ab:((Du a).take (i*3)++Im x++(Du a).drop (i*3)).length=(a.length+1)*3:=by grind [List.length_append,List.length_take,List.length_drop,Im]
 rcases AD c (a.length+1) with B|t;apply(Ya (.inr ⟨rfl,rfl,rfl,rfl,rfl,rfl⟩) w g a.length c (Du a) L i vb (Im x) p o l f A B m n rfl (RO a) h).Q;rintro e w'⟨G,Z,rfl,y,z,h4,j,b⟩;refine⟨_,rfl,⟨Ξ,.inr ⟨_,G,_,rfl,j,y,z,?_,?_⟩⟩,⟨b.os,b.tape,b.output,b.size,λk d _=>b.block k d Γ⟩,λk d=>by grind [Value.ownBlock]⟩;grind [KM,Im,List.length_drop];rw[r];exact XG Z (Du a) (Im x) i a.length D f Ω rfl;apply(Xo (.inr ⟨rfl,rfl,rfl,rfl,rfl,rfl⟩) w g a.length c (Du a) L i vb (Im x) p o l f t s m n rfl (RO a) h C).Q;rintro e w'⟨rfl,j,b⟩;refine⟨_,rfl,⟨Ξ,.inr ⟨_,c,_,rfl,j,t,s,?_,?_⟩⟩,b,λk d => .inl d⟩;grind [KM,List.length_drop,Im];rw[r];exact WU L (Du a) (Im x) i a.length Ω l f rfl;obtain rfl:i=a.length:=Ω;apply(Xn (.inr ⟨rfl,rfl,rfl,rfl,rfl,rfl⟩) w v a.length (Du a) vb (Im x) q m n rfl h).Q;grind
theorem On(w:World)(v:Value)(a:LF)(i:Nat)(l:Sl w 293 3 v a.length (Du a))(o:i<a.length)(q:a.length<=10000):
  Cl 269 #[v,dI i,dI ((i:Int)+1)] w λe w'=>∃v',e=dR v'/\Sl w' 293 3 v' (a.length-1) (Du (a.take i++a.drop (i+1)))/\w.grownBy w' v.ownBlock/\Dm w v v':=by
 have aa:Du (a.take i++a.drop (i+1))=(Du a).take (i*3)++(Du a).drop ((i+1)*3):=by rw[Zhq,Zhr,Zfg]
 have ab:=Wl a;rcases l.2 with⟨rfl,h0⟩|⟨g,b,L,rfl,j,n,c,h,m⟩;omega;apply(Oo (.inr ⟨rfl,rfl,rfl,rfl,rfl,rfl⟩) w g a.length b (Du a) L i j h m o n c q (RO a)).Q;rintro e w'⟨rfl,_,h4,d,f⟩;refine⟨_,rfl,⟨?_,.inr ⟨_,b,_,rfl,d,Ω,c,?_,?_⟩⟩,f,λk p => .inl p⟩;grind;grind [KM,List.length_drop];grind [WT,Du]
theorem PH(w:World)(c ho:Nat)(v:Value)(a:LF)(d:Int)(hc:w.cell? (dQ c ho)=some v)(h:Sl w 293 3 v a.length (Du a))(j:a.length<=10000)(l:G3 a):
  Cl 221 #[.pointer (some (dQ c ho)),dI d] w λe w'=>∃(i:Nat) (b:Bool),e=dR (.tuple #[dI i,dV b])/\AtI a d i b/\Bw w w':=by
 have k:=NR v a d w h j l;go_enter func221,ntmps221;go_wp2_with fail;apply k.Q;rintro e w'⟨i,b,rfl,g,c⟩;have f:=Db g;go_wp2
 go_ret2
 exact⟨i,b,rfl,Da f,c⟩
def Nl(es:LF)(key:Int)(r:VF)(b:Bool):Prop:=(b=true/\(key,r)∈es)\/(b=false/\r=⟨none,0,0,0⟩/\∀x∈es,x.1≠key)
theorem MY(w:World)(d ho:Nat)(v:Value)(c:LF)(A:Int)(s:w.cell? (dQ d ho)=some v)(m:Sl w 293 3 v c.length (Du c))(P:c.length<=10000)(G:G3 c):
  Cl 175 #[.pointer (some (dQ d ho)),dI A] w λe w'=>∃(r:VF) (b:Bool),e=dR (.tuple #[.agg #[dT r.a r.l r.c,dI r.f],dV b])/\Nl c A r b/\Bw w w':=by
 have D:d<w.heap.size:=Ag _ _ s;have n:∀o,Bw w (w.alloc o):=λo=>(Ad _ _).alloc (Aa _) o;have E:=λo=>PH (w.alloc o) d ho v c A (((n o).J (p:=dQ d ho) D).M s) (Sl.a3 (m.bp.alloc o)) P G;go_enter func175,ntmps175;go_wp2_with fail;apply(E _).Q;rintro e a⟨i,b,rfl,l,M⟩;have h:Below (w.heap.size+1) (w.alloc (.cells #[dN,dI 0] 217)) a:=by simp_all[Bw]
 have k:∀p:Addr,p.block<w.heap.size->a.cell? p=w.cell? p:=λp Q=>(h.J (p:=p) Ω).M ((n _).J Q);have z:∀j,a.cell? (dQ w.heap.size j)=(#[dN,dI 0]:Array Value)[j]? := λj=>(h.J (p:=dQ w.heap.size j) Θ).M Ξ;have H:a.cell? (dQ w.heap.size 0)=some dN:=z 0;have I:a.cell? (dQ w.heap.size 1)=some (dI 0):=z 1;have f:∀j,a.frozen? (dQ w.heap.size j)=false:=λj=>(h.A (p:=dQ w.heap.size j) Θ).M Ξ;have f0:=f 0;have f1:=f 1;have F:Bw w a:=(n _).M (h.Q Ω);have ad:w.heap.size<a.heap.size:=by have:=h.size;simp at this;omega
 clear z f E n M;cases b with
 |false=>
  have K:=Db (I6.not KK G l);clear l m k;obtain⟨R,B,C⟩:=Mi a w.heap.size dN (dI 0) _ _ H I;have t1:=λo=>(So ((a.setCell (dQ w.heap.size 0) dN).setCell (dQ w.heap.size 1) (dI 0)) o (dQ w.heap.size 0) Ξ).M B;have S:=λo=>(So ((a.setCell (dQ w.heap.size 0) dN).setCell (dQ w.heap.size 1) (dI 0)) o (dQ w.heap.size 1) Ξ).M C;go_wp2;exact Am (v:=.tuple #[.agg #[dN,dI 0],dV false]) (by simp[results,results175,go_sem,t1,S]) rfl
   ⟨⟨none,0,0,0⟩,false,rfl,.inr ⟨rfl,rfl,Da K⟩,((F.setCell (p:=dQ w.heap.size 0) (Aa _) _).setCell (p:=dQ w.heap.size 1) (Aa _) _).alloc (by simp;omega) _⟩
 |true=>
  obtain⟨r,y⟩:=l.an;rcases m.2 with⟨rfl,h0⟩|⟨g,aa,L,rfl,t,ab,ac,N,O⟩;simp_all
  .have x:∀j u,(Du c)[j]?=some u->a.cell? (dQ g j)=some u:=λj u hu=>by rw[k _ t.lt,t.J];grind
   have q:=UY c i _ y;have q0:=(k (dQ d ho) D).M s;have q1:=x _ _ q.2.1;have q2:=x _ _ q.2.2;have hi:i<c.length:=Γ;have J:=Db (Ai y);clear q x t N O m l y k s;obtain⟨R,B,C⟩:=Mi a w.heap.size (dT r.a r.l r.c) (dI r.f) _ _ H I;go_wp2;exact Am (v:=.tuple #[.agg #[dT r.a r.l r.c,dI r.f],dV true]) (by simp[results,results175,go_sem,B,C]) rfl
    ⟨r,true,rfl,.inl ⟨rfl,Da J⟩,(F.setCell (p:=dQ w.heap.size 0) (Aa _) _).setCell (p:=dQ w.heap.size 1) (Aa _) _⟩
theorem Zs7(w:World)(c ho:Nat)(v:Value)(a:LF)(h:Int)(r:VF)(A:w.cell? (dQ c ho)=some v)(hf:w.frozen? (dQ c ho)=false)(af:v.ownBlock≠some c)(B:Sl w 293 3 v a.length (Du a))(O:a.length<=10000)(F:G3 a)(ah:∀x∈a,x.1≠h):
  Cl 228 #[.pointer (some (dQ c ho)),dI h,.agg #[dT r.a r.l r.c,dI r.f]] w λe w'=>e=dR (.tuple #[])/\∃d es',w'.cell? (dQ c ho)=some d/\Sl w' 293 3 d es'.length (Du es')/\
   G3 es'/\es'.length=a.length+1/\(∀x,x∈es'↔x=(h,r)\/x∈a)/\Dm w v d/\Ls w w' c ho v d:=by
 have K:c<w.heap.size:=Ag _ _ A;have D:∀o,Bw w (w.alloc o):=λo=>(Ad _ _).alloc (Aa _) o;have L:=λo=>PH (w.alloc o) c ho v a h (((D o).J (p:=dQ c ho) K).M A) (Sl.a3 (B.bp.alloc o)) O F;go_enter func228,ntmps228;go_wp2_with fail;apply(L _).Q;rintro e f⟨i,b,rfl,t,Z⟩;have ac:b=false:=by
  cases b with
  |false=>rfl
  |true=>obtain⟨r',am⟩:=t.an;grind
 subst ac;have u:Below (w.heap.size+1) (w.alloc (.cells #[dT r.a r.l r.c,dI r.f] 217)) f:=by simp_all[Bw]
 have l:Bw w f:=(D _).M (u.Q Ω);have q0:f.cell? (dQ c ho)=some v:=(l.J (p:=dQ c ho) K).M A;have z:∀j,f.cell? (dQ w.heap.size j)=(#[dT r.a r.l r.c,dI r.f]:Array Value)[j]? := λj=>(u.J (p:=dQ w.heap.size j) Θ).M Ξ;have z0:f.cell? (dQ w.heap.size 0)=some (dT r.a r.l r.c):=z 0;have z1:f.cell? (dQ w.heap.size 1)=some (dI r.f):=z 1;have an:w.heap.size<f.heap.size:=by have:=u.size;simp at this;omega
 have C:Sl f 293 3 v a.length (Du a):=B.kept (λk E _=>l.block k E);have M:∀W:World,W.heap=(f.alloc (.cells #[dI h,dT r.a r.l r.c,dI r.f] 293)).heap->W.os=f.os->W.tape=f.tape->W.output=f.output->Cl 267 #[v,dI i,dS f.heap.size 1 1] W λe w'=>∃m s n d,e=dR (dT m s n)/\d=dT m s n/\
   (w'.cell? (dQ c ho)=some v/\w'.frozen? (dQ c ho)=false)/\Hid ((w'.setCell (dQ c ho) d).cell? (dQ c ho)=some d/\Sl (w'.setCell (dQ c ho) d) 293 3 d (a.length+1) (Du (a.take i++(h,r)::a.drop i))/\Ls w (w'.setCell (dQ c ho) d) c ho v d/\Dm w v d):=λW y V X Y=>by
  have aa:Sl W 293 3 v a.length (Du a):=(Sl.a3 (C.bp.alloc _)).heap y;have hR:Gb W f.heap.size 293 (Im (h,r)):=by unfold Gb;rw[y];exact Bv f _
  apply(Of W v a i (h,r) f.heap.size aa t.1 O hR (λe=>by have:=C.lt e;omega)).Q;rintro e w'⟨d,rfl,J,q,ag⟩;have ab:w.heap.size<=W.heap.size:=by rw[y];simp;omega
  have ad:∀k,k<w.heap.size->v.ownBlock≠some k->w'.heap[k]?=w.heap[k]? := λk E al=>by rw[q.block k Ω Γ,y,BH _ _ _ Ω,l.block k E]
  have P:Dm w v d:=λg ae=>(ag g ae).imp id Ω;obtain⟨G,R,H⟩:=PO (ho:=ho) A af J P (q.os.M (V.M l.os)) (q.tape.M (X.M l.tape)) (q.output.M (Y.M l.output)) (Ae ab q.size) ad;obtain⟨m,s,n,I⟩:=J.a0;exact⟨m,s,n,d,by rw[I],I,by grind [World.cell?_of_block,trans,World.frozen?_of_block],G,R,H,P⟩
 have Q:=Db (TY KK Zy r F t);have N:(a.take i++(h,r)::a.drop i).length=a.length+1:=Γ;have U:=Db N;have ai:c<f.heap.size:=Ω;have T:=Db M;clear N z Z t B C F ah L D u l M;go_wp2
 go_region_with (go_at_call 267;apply(Da T _ (by rfl) (by rfl) (by rfl) (by rfl)).Q;rintro e w2⟨m,s,n,d,rfl,rfl,⟨aj,ak⟩,S⟩)
 all_goals (
  go_end0
  obtain⟨G,R,H,m4⟩:=Da S;exact⟨rfl,_,_,G,Γ,(Da Q).1,Da U,(Da Q).2.2,m4,H⟩)
theorem Gb.set{L:Gf}(h:Gb w g e L)(j:Nat)(u:Value):Gb (w.setCell (dQ g j) u) g e (L.set j u):=by simp_all[Gb,World.setCell,Array.getElem?_modify,if_true,Option.map_some]
theorem LR(w:World)(b ho:Nat)(v:Value)(n:Nat)(g:Gf)(hc:w.cell? (dQ b ho)=some v)(d:Sl w 310 3 v n g):
  Cl 178 #[.pointer (some (dQ b ho))] w λe w'=>e=dR (dI n)/\w'=w:=by
 have f:∃a m c,v=dT a m c/\m=n:=by rcases d.2 with⟨rfl,rfl⟩|⟨g',aa,L,rfl,hr,_⟩;simp_all;simp_all
 obtain⟨a,m,c,rfl,rfl⟩:=f;go_enter func178,ntmps178;go_wp2;go_ret;simp_all
theorem Ok(w:World)(c ho:Nat)(v:Value)(a:LS)(t:By)(r:VS)(q:w.cell? (dQ c ho)=some v)(hf:w.frozen? (dQ c ho)=false)(U:v.ownBlock≠some c)(y:Sl w 310 3 v a.length (Ds a))(J:a.length<=10000)(s:GA a)(H:(t,r)∈a):
  Cl 233 #[.pointer (some (dQ c ho)),dU t] w λe w'=>e=dR (.tuple #[])/\∃d es',w'.cell? (dQ c ho)=some d/\Sl w' 310 3 d es'.length (Ds es')/\
   GA es'/\es'.length+1=a.length/\(∀x,x∈es'↔x∈a/\x.1≠t)/\Dm w v d/\Ls w w' c ho v d:=by
 have R:c<w.heap.size:=Ag _ _ q;have G:=SV w c ho v a t q y J s;go_enter func233,ntmps233;go_wp2_with fail;apply G.Q;rintro e u⟨i,b,rfl,o,f⟩;have P:b=true:=by
  cases b with
  |true=>rfl
  |false=>exact absurd rfl (I6.not UB s o _ H)
 subst P;have T:i<a.length:=by obtain⟨r',ad⟩:=o.an;grind
 have q0:u.cell? (dQ c ho)=some v:=(f.J (p:=dQ c ho) R).M q;have E:Sl u 310 3 v a.length (Ds a):=y.kept (λk z _=>f.block k z);have F:Cl 268 #[v,dI i,dI ((i:Int)+1)] u λe w'=>∃j n l d,e=dR (dT j n l)/\d=dT j n l/\
   (w'.cell? (dQ c ho)=some v/\w'.frozen? (dQ c ho)=false)/\Hid ((w'.setCell (dQ c ho) d).cell? (dQ c ho)=some d/\Sl (w'.setCell (dQ c ho) d) 310 3 d (a.length-1) (Ds (a.take i++a.drop (i+1)))/\Ls w (w'.setCell (dQ c ho) d) c ho v d/\Dm w v d):=by
  apply(Om u v a i E T J).Q;rintro e w'⟨d,rfl,D,m,V⟩;have Q:∀k,k<w.heap.size->v.ownBlock≠some k->w'.heap[k]?=w.heap[k]? := λk z ac=>by rw[m.block k (by have:=f.size;omega) Γ,f.block k z]
  have K:Dm w v d:=λg S=>(V g S).imp id (λh=>by have:=f.size;omega);obtain⟨A,M,B⟩:=PO (ho:=ho) q U D K (m.os.M f.os) (m.tape.M f.tape) (m.output.M f.output) (Ae f.size m.size) Q;obtain⟨j,n,l,C⟩:=D.a0;exact⟨j,n,l,d,by rw[C],C,by grind [World.cell?_of_block,trans,World.frozen?_of_block],A,M,B,K⟩
 have L:=Db (YH UB s o);have I:(a.take i++a.drop (i+1)).length=a.length-1:=Γ;have HL:=Db I;have N:=Db F;clear I o y E s H G f F;go_wp2_with(go_at_call 268;apply(Da N).Q;rintro e w2⟨j,n,l,d,rfl,rfl,⟨aa,ab⟩,O⟩)
 go_end0
 obtain⟨A,M,B,W⟩:=Da O;exact⟨rfl,_,_,A,Γ,(Da L).1,Γ,(Da L).2.2,W,B⟩
theorem SF(w:World)(b ho:Nat)(v:Value)(n:Nat)(g:Gf)(hc:w.cell? (dQ b ho)=some v)(d:Sl w 293 3 v n g):
  Cl 144 #[.pointer (some (dQ b ho))] w λe w'=>e=dR (dI n)/\w'=w:=by
 have f:∃a m c,v=dT a m c/\m=n:=by rcases d.2 with⟨rfl,rfl⟩|⟨g',aa,L,rfl,hr,_⟩;simp_all;simp_all
 obtain⟨a,m,c,rfl,rfl⟩:=f;go_enter func144,ntmps144;go_wp2;go_ret;simp_all
theorem Ol(w:World)(c ho:Nat)(v:Value)(a:LF)(t:Int)(r:VF)(q:w.cell? (dQ c ho)=some v)(hf:w.frozen? (dQ c ho)=false)(U:v.ownBlock≠some c)(y:Sl w 293 3 v a.length (Du a))(J:a.length<=10000)(s:G3 a)(H:(t,r)∈a):
  Cl 234 #[.pointer (some (dQ c ho)),dI t] w λe w'=>e=dR (.tuple #[])/\∃d es',w'.cell? (dQ c ho)=some d/\Sl w' 293 3 d es'.length (Du es')/\
   G3 es'/\es'.length+1=a.length/\(∀x,x∈es'↔x∈a/\x.1≠t)/\Dm w v d/\Ls w w' c ho v d:=by
 have R:c<w.heap.size:=Ag _ _ q;have G:=PH w c ho v a t q y J s;go_enter func234,ntmps234;go_wp2_with fail;apply G.Q;rintro e u⟨i,b,rfl,o,f⟩;have P:b=true:=by
  cases b with
  |true=>rfl
  |false=>exact absurd rfl (I6.not KK s o _ H)
 subst P;have T:i<a.length:=by obtain⟨r',ad⟩:=o.an;grind
 have q0:u.cell? (dQ c ho)=some v:=(f.J (p:=dQ c ho) R).M q;have E:Sl u 293 3 v a.length (Du a):=y.kept (λk z _=>f.block k z);have F:Cl 269 #[v,dI i,dI ((i:Int)+1)] u λe w'=>∃j n l d,e=dR (dT j n l)/\d=dT j n l/\
   (w'.cell? (dQ c ho)=some v/\w'.frozen? (dQ c ho)=false)/\Hid ((w'.setCell (dQ c ho) d).cell? (dQ c ho)=some d/\Sl (w'.setCell (dQ c ho) d) 293 3 d (a.length-1) (Du (a.take i++a.drop (i+1)))/\Ls w (w'.setCell (dQ c ho) d) c ho v d/\Dm w v d):=by
  apply(On u v a i E T J).Q;rintro e w'⟨d,rfl,D,m,V⟩;have Q:∀k,k<w.heap.size->v.ownBlock≠some k->w'.heap[k]?=w.heap[k]? := λk z ac=>by rw[m.block k (by have:=f.size;omega) Γ,f.block k z]
  have K:Dm w v d:=λg S=>(V g S).imp id (λh=>by have:=f.size;omega);obtain⟨A,M,B⟩:=PO (ho:=ho) q U D K (m.os.M f.os) (m.tape.M f.tape) (m.output.M f.output) (Ae f.size m.size) Q;obtain⟨j,n,l,C⟩:=D.a0;exact⟨j,n,l,d,by rw[C],C,by grind [World.cell?_of_block,trans,World.frozen?_of_block],A,M,B,K⟩
 have L:=Db (YH KK s o);have I:(a.take i++a.drop (i+1)).length=a.length-1:=Γ;have HL:=Db I;have N:=Db F;clear I o y E s H G f F;go_wp2_with(go_at_call 269;apply(Da N).Q;rintro e w2⟨j,n,l,d,rfl,rfl,⟨aa,ab⟩,O⟩)
 go_end0
 obtain⟨A,M,B,W⟩:=Da O;exact⟨rfl,_,_,A,Γ,(Da L).1,Γ,(Da L).2.2,W,B⟩
theorem ZnL(b:LF)(i:Nat)(c:Int)(d r:VF)(h:b[i]?=some (c,d)):((Du b).set (i*3+1) (dT r.a r.l r.c)).set (i*3+2) (dI r.f)=Du (b.set i (c,r)):=by
 induction b generalizing i with
 |nil=>rfl
 |cons a l ih=>
  cases i with
  |zero=>grind [Du,Im]
  |succ i=>
   have:=ih i h;simp only[Du,A9,F3]at this ⊢;rw[<-this];rw[BN _ _ (by simp[Im];omega),BN _ _ (by simp[Im];omega)];simp only[Im,Ay,AR];rw[show(i+1)*3+1-(0+1+1+1)=i*3+1 by omega,show(i+1)*3+2-(0+1+1+1)=i*3+2 by omega]
theorem Zq0(w:World)(d ho:Nat)(v:Value)(a:LF)(f:Int)(r0 r:VF)(B:w.cell? (dQ d ho)=some v)(af:v.ownBlock≠some d)(s:Sl w 293 3 v a.length (Du a))(Y:a.length<=10000)(t:G3 a)(M:(f,r0)∈a):
  Cl 228 #[.pointer (some (dQ d ho)),dI f,.agg #[dT r.a r.l r.c,dI r.f]] w λe w'=>e=dR (.tuple #[])/\∃es',w'.cell? (dQ d ho)=some v/\Sl w' 293 3 v es'.length (Du es')/\
   G3 es'/\es'.length=a.length/\(∀x,x∈es'↔x=(f,r)\/x∈a/\x.1≠f)/\w.grownBy w' v.ownBlock:=by
 have J:d<w.heap.size:=Ag _ _ B;have A:∀o,Bw w (w.alloc o):=λo=>(Ad _ _).alloc (Aa _) o;have K:=λo=>PH (w.alloc o) d ho v a f (((A o).J (p:=dQ d ho) J).M B) (Sl.a3 (s.bp.alloc o)) Y t;go_enter func228,ntmps228;go_wp2_with fail;apply(K _).Q;rintro e c⟨i,b,rfl,m,S⟩;have U:b=true:=by
  cases b with
  |true=>rfl
  |false=>exact absurd rfl (I6.not KK t m _ M)
 subst U;obtain⟨r1,N⟩:=m.an;have hi:i<a.length:=Γ;have n:Below (w.heap.size+1) (w.alloc (.cells #[dT r.a r.l r.c,dI r.f] 217)) c:=by simp_all[Bw]
 have h:Bw w c:=(A _).M (n.Q Ω);have q0:c.cell? (dQ d ho)=some v:=(h.J (p:=dQ d ho) J).M B;have z:∀j,c.cell? (dQ w.heap.size j)=(#[dT r.a r.l r.c,dI r.f]:Array Value)[j]? := λj=>(n.J (p:=dQ w.heap.size j) Θ).M Ξ;have z0:c.cell? (dQ w.heap.size 0)=some (dT r.a r.l r.c):=z 0;have z1:c.cell? (dQ w.heap.size 1)=some (dI r.f):=z 1;have G:Sl c 293 3 v a.length (Du a):=s.kept (λk D _=>h.block k D);rcases G.2 with⟨rfl,h0⟩|⟨g,y,L,rfl,l,aa,X,T,H⟩;omega
 .have C:∀j u,(Du a)[j]?=some u->c.cell? (dQ g j)=some u:=λj u hu=>by rw[l.J];grind
  have q:=UY a i _ N;have q1:=C _ _ q.2.1;have q2:=C _ _ q.2.2;have f1:=l.A (i*3+1);have f2:=l.A (i*3+2);have ad:g<w.heap.size:=s.lt rfl;have ag:d≠g:=by grind [Value.ownBlock]
  have F:∀W:World,W.heap=((c.setCell (dQ g (i*3+1)) (dT r.a r.l r.c)).setCell (dQ g (i*3+2)) (dI r.f)).heap->W.os=c.os->W.tape=c.tape->W.output=c.output->
    ∃es',W.cell? (dQ d ho)=some (dS g a.length y)/\Sl W 293 3 (dS g a.length y) es'.length (Du es')/\G3 es'/\es'.length=a.length/\(∀x,x∈es'↔x=(f,r)\/x∈a/\x.1≠f)/\w.grownBy W (some g):=λW I P Q R=>by
   obtain⟨Z,E,p3⟩:=Za KK r t m;have V:∀k,k≠g->W.heap[k]?=c.heap[k]? := by grind [Below.heap_setCell]
   refine⟨a.set i (f,r),?_,⟨Wl _,.inr ⟨g,y,(L.set (i*3+1) (dT r.a r.l r.c)).set (i*3+2) (dI r.f),?_,?_,?_,X,?_,?_⟩⟩,Z,E,p3,?_⟩;grind [World.cell?_of_block,trans];rw[E];unfold Gb;rw[I];exact(l.set _ _).set _ _;omega;simp_all;rw[E,<-ZnL a i f r1 r N,<-H,FP,FP];refine⟨P.M h.os,Q.M h.tape,R.M h.output,?_,λk D ae=>?_⟩;rw[I];simpa [World.setCell] using h.size;rw[V k Γ,h.block k D]
  have O:=Db F;have ah:w.heap.size<c.heap.size:=by have:=n.size;simp at this;omega
  have ab:¬(g=w.heap.size):=Ω;have ac:¬(w.heap.size=g):=Ω;clear A K S n m s G l T H C q z t M F h;go_wp2
  go_region
  all_goals (
   go_wp2;refine Am (CU rfl _ _ _) rfl ?_;exact⟨rfl,Da O _ rfl rfl rfl rfl⟩)
def Um(n:Int):Bool:=decide ((97<=n/\n<=122)\/(48<=n/\n<=57)\/n=46\/n=95\/n=45)
def Lx(c:UInt8):Bool:=Um (c.toNat:Int)
def DZ(s:By):Bool:=!s.toList.isEmpty && !(s.toList==[46]) && !(s.toList==[46,46]) && decide (s.size<=12) && s.data.toList.all Lx
theorem Yn(n:Int):Um n=true↔((97<=n/\n<=122)\/(48<=n/\n<=57)\/n=46\/n=95\/n=45):=by simp[Um]
theorem ZeF(n:Int)(w:World):Cl 292 #[.int .u8 n] w λe w'=>e=dR (dV (Um n))/\w'=w:=by
 obtain⟨b,h⟩:∃b,b=Um n:=Γ;have g:=Yn n;rw[<-h]at g ⊢;have a:=Db g;clear g h;by_cases c:97<=n/\n<=122
 .obtain⟨c,d⟩:=c;obtain rfl:b=true:=by grind [Da]
  clear a;go_enter func292,ntmps292;go_wp2;go_ret;simp_all
 .by_cases d:48<=n/\n<=57
  .obtain⟨d,f⟩:=d;obtain rfl:b=true:=(by grind [Da]);clear a c;go_enter func292,ntmps292;go_wp2;go_ret;simp_all
  .by_cases f:n=46\/n=95\/n=45
   .obtain rfl:b=true:=(by grind [Da]);clear a c d;rcases f with rfl|rfl|rfl;all_goals
     go_enter func292,ntmps292;go_wp2;go_ret;simp_all
   .obtain rfl:b=false:=by
     cases b with
     |false=>rfl
     |true=>have:=(Da a).1 rfl;omega
    clear a;have q1:(n==46)=false:=Ξ;have q2:(n==95)=false:=Ξ;have q3:(n==45)=false:=Ξ;clear f;go_enter func292,ntmps292;go_wp2;all_goals first|omega|(go_ret;simp_all)
theorem Zfm(s:By)(k:Nat)(h:k<s.size)(hk:(s.data.toList.take k).all Lx=true):(s.data.toList.take (k+1)).all Lx=Lx s[k]:=by
 have e:s.data.toList.take (k+1)=s.data.toList.take k++[s[k]]:=by rw[Bu Ξ];rfl
 simp_all
theorem ZE(s:By)(k:Nat)(h:k<s.size)(hk:Lx s[k]=false):s.data.toList.all Lx=false:=by rw[List.all_eq_false];exact⟨s[k],by have:s[k]=s.data.toList[k]' Ξ:=rfl;simp_all,Ξ⟩
theorem Zg1(s:By)(w:World)(n:s.size<=maxLen):Cl 263 #[dU s] w λe w'=>e=dR (dV (DZ s))/\w'=w:=by
 unfold maxLen at n;obtain⟨b,a⟩:∃b,b=DZ s:=Γ;rw[<-a];cases h1:s.toList.isEmpty with
 |true=>
  obtain rfl:b=false:=by grind [DZ]
  clear a;go_enter func263,ntmps263;go_wp2;go_ret;simp_all
 |false=>
 cases h2:(s.toList==[46]) with
 |true=>
  obtain rfl:b=false:=by grind [DZ]
  clear a;go_enter func263,ntmps263;go_wp2;go_ret;simp_all
 |false=>
 cases h3:(s.toList==[46,46]) with
 |true=>
  obtain rfl:b=false:=by grind [DZ]
  clear a;go_enter func263,ntmps263;go_wp2;go_ret;simp_all
 |false=>
 by_cases h4:s.size<=12
 .have h:b=s.data.toList.all Lx:=by grind [DZ]
  have c:=Db h;clear a h;go_enter func263,ntmps263;go_wp2
  go_loop [21] (λi=>∃k:Nat,k<=s.size/\i=dI k/\Hid ((s.data.toList.take k).all Lx=true)) (λi=>s.size-(intOf i).toNat)
  case atStart=>exact⟨0,Ao _,rfl,rfl⟩
  case round=>
   obtain⟨k,hk,rfl,d⟩:=hrel;by_cases l:k<s.size
   .cases hq:Lx s[k] with
    |true=>
     have g:=Zfm s k l (Da d);rw[hq]at g;have aa:=Db g;have m:Um (s[k].toNat)=true:=hq;clear g hq;go_wp2_with(go_at_call 292;apply(ZeF _ _).Q;rintro e w'⟨rfl,rfl⟩)
     go_round
     case rel=>grind
     case measure=>grind [intOf]
    |false=>
     have j:=ZE s k l hq;have m:Um (s[k].toNat)=false:=hq;rw[j]at c;obtain rfl:=Da c;clear j hq;go_wp2_with(go_at_call 292;apply(ZeF _ _).Q;rintro e w'⟨rfl,rfl⟩);go_ret;simp_all
   .obtain rfl:k=s.size:=Ω;have:s.data.toList.take s.size=s.data.toList:=Ak (CV AF);have f:=Da d;rw[this]at f;rw[f]at c;obtain rfl:=Da c;clear d f;go_wp2;go_ret;simp_all
 .obtain rfl:b=false:=by grind [DZ]
  clear a;go_enter func263,ntmps263;go_wp2;go_ret;simp_all
theorem Zo(s:By):s.toList.isEmpty=decide (s.size<1):=by rw[BR];have:s.data.toList.length=s.size:=AF;grind
theorem RS(s:By)(w:World)(z:s.size<=maxLen):Cl 162 #[dU s] w λe w'=>e=dR (dV (DZ s))/\w'=w:=by
 unfold maxLen at z;obtain⟨b,a⟩:∃b,b=DZ s:=Γ;have f:=Zo s;rw[<-a];by_cases h1:s.size<1
 .obtain rfl:b=false:=by grind [DZ]
  clear a f;go_enter func162,ntmps162;go_wp2;go_ret;simp_all
 have m:s.toList.isEmpty=false:=Ξ;by_cases y:12<s.size
 .have r:¬s.size<=12:=Ω;obtain rfl:b=false:=by grind [DZ]
  clear a f m r;go_enter func162,ntmps162;go_wp2;go_ret;simp_all
 have r:s.size<=12:=Ω;clear y;cases h2:(s.toList==[46]) with
 |true=>
  obtain rfl:b=false:=by grind [DZ]
  clear a f m;go_enter func162,ntmps162;go_wp2;go_ret;simp_all
 |false=>
 cases h3:(s.toList==[46,46]) with
 |true=>
  obtain rfl:b=false:=by grind [DZ]
  clear a f m;go_enter func162,ntmps162;go_wp2;go_ret;simp_all
 |false=>
  have t:b=s.data.toList.all Lx:=by grind [DZ]
  have g:=Db t;clear a t f m;go_enter func162,ntmps162;go_wp2
  go_loop [3] (λi=>∃k:Nat,k<=s.size/\i=dI k/\Hid ((s.data.toList.take k).all Lx=true)) (λi=>s.size-(intOf i).toNat)
  case atStart=>exact⟨0,Ao _,rfl,rfl⟩
  case round=>
   obtain⟨k,hk,rfl,o⟩:=hrel;by_cases v:k<s.size
   .have n:=Yn (s[k].toNat:Int);cases hq:Lx s[k] with
    |true=>
     have q:=Zfm s k v (Da o);rw[hq]at q;have aa:=Db q;have c:=n.1 hq;clear q hq n;by_cases j:97<=(s[k].toNat:Int)/\(s[k].toNat:Int)<=122
     .obtain⟨j,l⟩:=j;clear c;go_wp2
      go_round
      case rel=>grind
      case measure=>grind [intOf]
     by_cases l:48<=(s[k].toNat:Int)/\(s[k].toNat:Int)<=57
     .obtain⟨l,d⟩:=l;clear c j;go_wp2
      go_round
      case rel=>grind
      case measure=>grind [intOf]
     have d:(s[k].toNat:Int)=46\/(s[k].toNat:Int)=95\/(s[k].toNat:Int)=45:=Ω;clear c j l;rcases d with d|d|d;all_goals
      go_wp2
      go_round
      case rel=>grind
      case measure=>grind [intOf]
    |false=>
     have u:=ZE s k v hq;have c:¬((97<=(s[k].toNat:Int)/\(s[k].toNat:Int)<=122)\/(48<=(s[k].toNat:Int)/\(s[k].toNat:Int)<=57)\/(s[k].toNat:Int)=46\/(s[k].toNat:Int)=95\/(s[k].toNat:Int)=45):=λh=>by have:=n.2 h;unfold Lx at hq;rw[this]at hq;cases hq
     rw[u]at g;obtain rfl:=Da g;clear u hq n;have q1:((s[k].toNat:Int) != 46)=true:=Ξ;have q2:((s[k].toNat:Int) != 95)=true:=Ξ;have q3:((s[k].toNat:Int) != 45)=true:=Ξ;have x:=Db c;clear c;go_wp2;all_goals first|(exact absurd (Da x) Ω)|(go_ret;simp_all)
   .obtain rfl:k=s.size:=Ω;have:s.data.toList.take s.size=s.data.toList:=Ak (CV AF);have p:=Da o;rw[this]at p;rw[p]at g;obtain rfl:=Da g;clear o p;go_wp2;go_ret;simp_all
