/- Spoilt. -/
import Derived.Test.YtaieidcohdhgpaaGreatDoorProg
import Derived.PartsItems
import Derived.CheckFast
import Derived.HeadItems
import Derived.WalkLawsBesides
import Derived.WalkSpells
import Derived.BigQuiet
import Derived.Handy
import Derived.Lib.Overlaps
import Derived.Deep.RegionLaw
import Derived.Lib.AppendZerosOnto
namespace Go.Proofs.YtaieidcohdhgpaaGreatDoor
set_option maxHeartbeats 40000000
set_option maxRecDepth 100000
open Go.RowKit
abbrev Aa:=@Nat.le_refl
abbrev Ab:=@List.mem_singleton
abbrev Ac:=@List.getElem?_eq_getElem
abbrev Ad:=@List.length_append
abbrev Ae:=@List.getElem?_eq_some_iff
abbrev Af:=@ByteArray.size_extract
abbrev Ag:=@Nat.le_trans
abbrev Ah:=@List.take_of_length_le
abbrev Ai:=@ByteArray.size_append
abbrev Aj:=@World.block_lt_of_cell?
abbrev Ak:=@Array.getElem?_eq_some_iff
abbrev Al:=@Below.refl
abbrev Am:=@List.length_take
abbrev An:=@List.mem_of_getElem?
abbrev Ao:=@List.getElem?_take
abbrev Ap:=@List.mem_append
abbrev Aq:=@List.length_cons
abbrev Ar:=@List.append_assoc
abbrev As:=@List.getElem?_set_ne
abbrev Au:=@List.mem_map
abbrev Av:=@Nat.zero_add
abbrev Aw:=@Nat.zero_le
abbrev Ax:=@bodyPost_ret
abbrev Ay:=@List.eq_nil_of_length_eq_zero
abbrev Az:=@List.length_drop
abbrev AA:=@List.nil_append
abbrev AB:=@Below.heap_setCell
abbrev AC:=@World.cell?_of_block
abbrev AE:=@List.mem_cons
abbrev AF:=@List.mem_cons_of_mem
abbrev AG:=@Array.length_toList
abbrev AH:=@List.getElem?_append_right
abbrev AI:=@List.cons_append
abbrev AJ:=@decide_eq_true_eq
abbrev AK:=@List.length_map
abbrev AL:=@Addr.add_lit
abbrev AM:=@List.nodup_iff_pairwise_ne
abbrev AO:=@Nat.lt_or_ge
abbrev AP:=@List.getElem?_append_left
abbrev AQ:=@trivial
abbrev AR:=@List.size_toArray
abbrev AS:=@List.length_nil
abbrev AT:=@Prod.mk.injEq
abbrev AU:=@Array.replicate_zero
abbrev AV:=@Array.replicate_succ
abbrev AX:=@IntKind.wrap_i64
abbrev AY:=@List.append_toArray
abbrev A0:=@List.mem_append_left
abbrev A1:=@wp_region_lit
abbrev A2:=@List.length_range
abbrev A3:=@List.push_toArray
abbrev A4:=@List.take_append_of_le_length
abbrev A5:=@List.mem_cons_self
abbrev A7:=@WideShapes.bytes_inj
abbrev A9:=@List.flatMap_cons
abbrev Ba:=@List.length_singleton
abbrev Bc:=@List.getElem?_drop
abbrev Bd:=@Array.getElem?_setIfInBounds
abbrev Be:=@Nat.lt_of_lt_of_le
abbrev Bf:=@List.getElem?_set_self
abbrev Bg:=@List.pairwise_map
abbrev Bj:=@callsIn_wide
abbrev Bk:=@List.length_replicate
abbrev Bl:=@Value.slice.injEq
abbrev Bm:=@List.pairwise_iff_getElem
abbrev Bn:=@setRow_other
abbrev Bo:=@List.mem_append_right
abbrev Bp:=@List.map_append
abbrev Bq:=@List.length_set
abbrev Br:=@List.map_cons
abbrev Bs:=@wpList_store_row
abbrev Bu:=@Bool.and_eq_true
abbrev Bv:=@List.getElem?_map
abbrev Bz:=@Int.toNat_natCast
abbrev BA:=@wpList_make_full
abbrev BB:=@Nat.min_eq_left
abbrev BC:=@Nat.eq_zero_or_pos
abbrev BD:=@List.not_mem_nil
abbrev BE:=@List.mem_of_mem_take
abbrev BF:=@List.getElem?_of_mem
abbrev BG:=@wpIn_wide
abbrev BI:=@List.mem_range
abbrev BK:=@beq_eq_false_iff_ne
abbrev BM:=@List.take_replicate
abbrev BN:=@List.take_append
abbrev BO:=@Below.heap_alloc
abbrev BP:=@List.take_left'
abbrev BQ:=@setRow_heap
abbrev BR:=@World.cell?_setCell_other
abbrev BS:=@List.getElem?_eq_none
abbrev BT:=@List.countP_le_length
abbrev BU:=@info_parts
abbrev BV:=@Option.some.inj
abbrev BW:=@Nat.mul_one
abbrev BX:=@List.mem_of_mem_drop
abbrev BY:=@List.drop_zero
abbrev BZ:=@List.take_add_one
abbrev B2:=@decide_eq_false
abbrev B3:=@UInt8.toNat_ofNat'
abbrev B8:=@List.take_append_drop
abbrev B9:=@List.take_take
abbrev Ca:=@congrArg
abbrev Cd:=@List.mem_iff_getElem?
abbrev Ce:=@List.map_map
abbrev Cg:=@of_decide_eq_true
abbrev Ch:=@Result.andThen_ok
abbrev Ci:=@List.nodup_append
abbrev Cj:=@Sem.run_bind
abbrev Ck:=@World.cell?_setCell_same
abbrev Cm:=@Array.getElem?_toList
abbrev Cn:=@List.perm_ext_iff_of_nodup
abbrev Co:=@Int.tmod_eq_emod_of_nonneg
abbrev Cq:=@List.drop_of_length_le
abbrev Cr:=@List.drop_eq_nil_of_le
abbrev Cs:=@decide_eq_true
abbrev Ct:=@List.take_zero
abbrev Cu:=@List.range_succ
abbrev Cv:=@List.nodup_cons
abbrev Cw:=@List.getElem_map
abbrev Cx:=@List.cons.inj
abbrev Cz:=@Nat.lt_trichotomy
abbrev CA:=@List.countP_singleton
abbrev CC:=@List.nodup_nil
abbrev CD:=@callsIn_of_wp
abbrev CE:=@List.take_length_add_append
abbrev CF:=@List.drop_length_add_append
abbrev CG:=@List.append_nil
abbrev CH:=@List.take_succ_eq_append_getElem
abbrev CJ:=@List.map_congr_left
abbrev CK:=@List.drop_succ_cons
abbrev CL:=@List.drop_replicate
abbrev CM:=@ByteArray.toList_eq
abbrev CN:=@heap_alloc_new
abbrev CO:=@List.drop_eq_getElem_cons
abbrev CP:=@List.map_nil
abbrev CQ:=@List.drop_left'
abbrev CR:=@List.find?_eq_none
abbrev CS:=@List.countP_append
abbrev CT:=@List.take_length
abbrev CU:=@List.countP_cons
abbrev CV:=@World.cell?_alloc_at
abbrev CW:=@List.mem_iff_getElem
abbrev CX:=@List.dropLast_concat
abbrev CY:=@List.pairwise_singleton
abbrev CZ:=@List.getElem?_cons_succ
abbrev C1:=@Nat.pow_succ
abbrev C7:=@Nat.min_def
abbrev C8:=@List.getElem?_range
abbrev C9:=@List.countP_eq_zero
abbrev Ea:=@List.attach_map_subtype_val
abbrev Eb:=@List.append_inj
abbrev Ee:=@World.frozen?_of_block
abbrev Ef:=@Option.map_eq_none_iff
abbrev Eg:=@Nat.mod_eq_of_lt
abbrev Eh:=@Nat.min_eq_right
abbrev Ei:=@results_none
abbrev Ej:=@Nat.le_of_eq
abbrev El:=@Nat.add_zero
abbrev Em:=@List.set_append_right
abbrev Eo:=@size_zeroCells
abbrev Ep:=@run_underlying
abbrev Er:=@List.mem_of_find?_eq_some
abbrev Es:=@Array.getElem?_eq_getElem
abbrev Et:=@Option.some.injEq
abbrev Eu:=@Nat.not_lt_zero
abbrev Ev:=@Prod.mk.inj
abbrev Ew:=@List.take_succ_cons
abbrev Ex:=@List.mem_map_of_mem
abbrev Ey:=@List.append_cancel_left
abbrev Ez:=@Array.toList_append
abbrev EA:=@List.getElem_mem
abbrev EB:=@List.drop_append_of_le_length
abbrev EC:=@Code.wpIn_mono
abbrev ED:=@grownCap_le_maxLen
abbrev EE:=@wpList_plain
abbrev EF:=@results_tmp
abbrev EH:=@Nat.sub_zero
abbrev EI:=@Nat.le_succ
abbrev EJ:=@List.mem_filter
abbrev EK:=@Bool.eq_iff_iff
abbrev EL:=@wpList_nil
abbrev EM:=@Nat.add_assoc
abbrev EN:=@List.ext_getElem?
abbrev EP:=@Array.size_append
abbrev EQ:=@toList_madeCells_one
abbrev ET:=@List.mem_flatMap
abbrev EU:=@run_firstCells_some
abbrev EV:=@Nat.mul_le_mul_left
abbrev EW:=@Nat.add_mul
abbrev EY:=@Sem.run_pure
abbrev EZ:=@Option.isSome_iff_exists
abbrev E3:=@Nat.add_comm
abbrev E8:=@UInt8.toNat_inj
abbrev E9:=@Nat.xor_lt_two_pow
abbrev Fa:=@List.getElem?_replicate
abbrev Fc:=@beq_iff_eq
abbrev Fd:=@List.replicate_append_replicate
abbrev Fe:=@List.getElem?_set
abbrev Ff:=@growslice_fits
abbrev Fg:=@List.take_left
abbrev Fh:=@List.drop_take
abbrev Fi:=@List.drop_left
abbrev Fj:=@Nat.zero_mul
abbrev Fk:=@Nat.sub_self
abbrev Fl:=@ByteArray.data_append
abbrev Fm:=@Array.getElem?_modify
abbrev Fo:=@results_cell_row
abbrev Fq:=@Nat.le_add_right
abbrev Fs:=@List.take_prefix
abbrev Ft:=@List.mem_nil_iff
abbrev Fu:=@List.map_toArray
abbrev Fv:=@List.drop_append
abbrev Fw:=@List.all_eq_true
abbrev Fx:=@BitVec.ofInt_natCast
abbrev Fz:=@Nat.mul_assoc
abbrev FA:=@List.sum_cons
abbrev FB:=@ByteArray.ext
abbrev FE:=@run_callFunc_extern
abbrev FG:=@Option.map_some
abbrev FH:=@Nat.min_le_left
abbrev FI:=@List.getElem?_concat_length
abbrev FJ:=@List.find?_some
abbrev FK:=@List.cons.injEq
abbrev FN:=@Bool.or_eq_true
abbrev FO:=@Int.tdiv_eq_ediv_of_nonneg
abbrev FP:=@Prod.ext
abbrev FQ:=@Option.toList_some
abbrev FR:=@List.set_cons_succ
abbrev cO:=@List.pairwise_cons
abbrev FT:=@Int.natCast_nonneg
abbrev FU:=@Bool.false_eq_true
abbrev FV:=@BitVec.toNat_ofNat
abbrev FW:=@Array.append_assoc
abbrev FX:=@run_storeCells_at
abbrev FY:=@Nat.mod_lt
abbrev FZ:=@List.getElem_take
theorem ex{α:Sort _}(a:α):∃x,x=a:=⟨a,rfl⟩
abbrev Bw(w:World):World->Prop:=Below w.heap.size w
abbrev Cl:=Calls Tryz.prog
theorem Db{p:Prop}(h:p):Hid p:=h
theorem Da{p:Prop}(h:Hid p):p:=h
def Hu(a b:ByteArray):Bool:=Op.bytesLess a.toList b.toList
def KV(a b:ByteArray):Int:=if Hu a b=true then -1 else if a.toList=b.toList then 0 else 1
def Ki(a b:Int):Int:=if a<b then -1 else if a=b then 0 else 1
theorem Pm(s:ByteArray)(w:World):Cl 317 #[.string s] w fun e w'=>e = .returned (.bool false)/\w'=w:=by
 go_enter Tryz.func317,Tryz.ntmps317;go_wp2;go_ret;exact⟨by simp,rfl⟩
theorem Pj(s:Int)(w:World):Cl 290 #[.int .i64 s] w fun e w'=>e = .returned (.bool false)/\w'=w:=by
 go_enter Tryz.func290,Tryz.ntmps290;go_wp2;go_ret;exact⟨by simp,rfl⟩
theorem ZI(a b:ByteArray)(w:World):Cl 295 #[.string a,.string b] w fun e w'=>e = .returned (.int .i64 (KV a b))/\w'=w:=by
 have c:KV a b=if Hu a b=true then -1 else if a.toList=b.toList then 0 else 1:=rfl
 unfold Hu at c;by_cases f:Op.bytesLess a.toList b.toList=true
 ·rw[if_pos f]at c;have H:=Db c;clear c;go_enter Tryz.func295,Tryz.ntmps295;go_wp2_with (go_at_call 317;refine(Pm _ _).mono ?_;rintro e w' ⟨rfl,rfl⟩);go_ret;exact⟨by rw[Da H];rfl,rfl⟩
 ·rw[if_neg f]at c;have h:Op.bytesLess a.toList b.toList=false:=by simpa using f
  by_cases d:a.toList=b.toList
  ·rw[if_pos d]at c;have H:=Db c;clear c;have g:(a.toList==b.toList)=true:=by simpa using d
   have i:(!Op.bytesLess a.toList b.toList && !(a.toList==b.toList))=false:=by rw[h,g];rfl
   clear f d;go_enter Tryz.func295,Tryz.ntmps295;go_wp2_with (go_at_call 317;refine(Pm _ _).mono ?_;rintro e w' ⟨rfl,rfl⟩);go_ret;exact⟨by rw[Da H];rfl,rfl⟩
  ·rw[if_neg d]at c;have H:=Db c;clear c;have g:(a.toList==b.toList)=false:=by simpa using d
   have i:(!Op.bytesLess a.toList b.toList && !(a.toList==b.toList))=true:=by rw[h,g];rfl
   clear f d;go_enter Tryz.func295,Tryz.ntmps295;go_wp2_with (go_at_call 317;refine(Pm _ _).mono ?_;rintro e w' ⟨rfl,rfl⟩);go_ret;exact⟨by rw[Da H];rfl,rfl⟩
theorem ZG(a b:Int)(w:World):Cl 260 #[.int .i64 a,.int .i64 b] w fun e w'=>e = .returned (.int .i64 (Ki a b))/\w'=w:=by
 have c:Ki a b=if a<b then -1 else if a=b then 0 else 1:=rfl
 have H:=Db c;clear c;by_cases d:a<b
 ·go_enter Tryz.func260,Tryz.ntmps260;go_wp2_with (go_at_call 290;refine(Pj _ _).mono ?_;rintro e w' ⟨rfl,rfl⟩);go_ret;exact⟨by rw[Da H,if_pos d];rfl,rfl⟩
 ·by_cases h2:b<a
  ·go_enter Tryz.func260,Tryz.ntmps260;go_wp2_with (go_at_call 290;refine(Pj _ _).mono ?_;rintro e w' ⟨rfl,rfl⟩);go_ret;exact⟨by rw[Da H,if_neg (by omega),if_neg (by omega)];rfl,rfl⟩
  ·go_enter Tryz.func260,Tryz.ntmps260;go_wp2_with (go_at_call 290;refine(Pj _ _).mono ?_;rintro e w' ⟨rfl,rfl⟩);go_ret;exact⟨by rw[Da H,if_neg (by omega),if_pos (by omega)];rfl,rfl⟩
theorem pE:(∀(a:Act) (d:Tmp) (v:Value),a.put (some d) v={ a with tmps:=a.tmps.setIfInBounds d v })/\(∀(a:Act) (v:Value),a.put none v=a)/\(∀{α : Type} (xs:List α) (i:Nat) (h:i<xs.toArray.size),xs.toArray[i]=xs[i]'(by simpa using h))/\(∀{α : Type} (x : α) (xs:List α) (h:0<(x::xs).length),(x::xs)[0]=x)/\(∀{α : Type} (x : α) (xs:List α) (i:Nat) (h:i+1<(x::xs).length),(x::xs)[i+1]=xs[i]'(by simpa using h))/\(∀{α : Type} (xs:List α) (i:Nat) (x : α),xs.toArray.setIfInBounds i x=(xs.set i x).toArray)/\(∀{α : Type} (x : α) (xs:List α) (y : α),(x::xs).set 0 y=y::xs)/\(∀{α : Type} (x : α) (xs:List α) (i:Nat) (y : α),(x::xs).set (i+1) y=x::xs.set i y):=
 ⟨fun _ _ _=>rfl,fun _ _=>rfl,fun _ _ _=>List.getElem_toArray _,fun _ _ _=>rfl,fun _ _ _ _=>rfl,fun _ _ _=>List.setIfInBounds_toArray ..,fun _ _ _=>rfl,fun _ _ _ _=>rfl⟩
abbrev LY:=List ByteArray
abbrev F6:=List Value
abbrev NV:=Nat -> Value
abbrev OA:=Option Addr
abbrev NB:=Nat -> ByteArray
abbrev IB:=Int -> ByteArray
abbrev LB:=List (Nat×ByteArray)
abbrev LI:=List (Int×Int)
abbrev By:=ByteArray
abbrev AZ:=@Lib.wpList_append_run
abbrev Fb:=@Lib.run_overlaps_apart
def F8(L:F6)(o:Nat)(cs:F6):F6:=L.take o++cs++L.drop (o+cs.length)
theorem D3{L:F6}{o:Nat}{a:F6}(h:o+a.length<=L.length):(F8 L o a).length=L.length:=by simp[F8];omega
def F0(w:World)(g:Nat)(e:TypeId)(L:F6):Prop:=w.heap[g]?=some (.cells L.toArray e (0,0))
theorem F0.lt{w:World}{g:Nat}{e:TypeId}{L:F6}(h:F0 w g e L):g<w.heap.size:=(Ak.1 h).1
theorem F0.cell{w:World}{g:Nat}{e:TypeId}{L:F6}(h:F0 w g e L)(j:Nat):w.cell? ⟨g,j,none⟩=L[j]? := by
 rw[cell_of_row w g j _ e (0,0) h];simp
theorem F0.frozen{w:World}{g:Nat}{e:TypeId}{L:F6}(h:F0 w g e L)(j:Nat):w.frozen? ⟨g,j,none⟩=false:=frozen_of_row w g j _ e h
theorem F0.kept{w w':World}{g:Nat}{e:TypeId}{L:F6}{row:Option Nat}(h:F0 w g e L)(a:w.grownBy w' row)(b:some g≠row):F0 w' g e L:=by
 unfold F0;rw[a.block g h.lt b];exact h
theorem QU(w:World)(row:Option Nat):w.grownBy w row:=⟨rfl,rfl,rfl,Aa _,fun _ _ _=>rfl⟩
theorem JQ{a b c:World}{row:Option Nat}(h:a.grownBy b row)(k:b.grownBy c row):a.grownBy c row:=
 ⟨k.os.trans h.os,k.tape.trans h.tape,k.output.trans h.output,Ag h.size k.size,fun i d e=>(k.block i (Be d h.size) e).trans (h.block i d e)⟩
theorem QT{a b:World}{row:Option Nat}(h:a.grownBy b row):a.grownBy b.drew row:=⟨h.os,h.tape,h.output,h.size,h.block⟩
section
variable{P:Program}
theorem JP(w:World)(l D ty h:TypeId)(f g o d r:Nat)(a:Addr)(c q:Nat)(L:F6)(t:TypeId)(b:F6)
  (C:P.underlying l=some (.slice h)) (n:(P.info? h).map (·.size)=some f)
  (m:F0 w g t L) (A:b.length=Nat.min c d*f)
  (B:∀j v,b[j]?=some v->w.cell? (a.add j)=some v) (x:o+b.length<=L.length) (s:∀v∈b,v.oneCell'=true):
  ∃w',(Builtin.copy_ #[l,D] ty #[.slice (some ⟨g,o,none⟩) d r,.slice (some a) c q]).run P w = .ok (goInt (Nat.min c d)) w'/\F0 w' g t (F8 L o b)/\w.grownBy w' (some g):=by
 have p:=FX P g o t b 0 L.toArray w m (by simpa using x) s;have u:=EU (P:=P) w f (Nat.min c d) a c q b A B;refine⟨w.setRow g (F8 L o b).toArray,?_,BQ w g L.toArray _ t _ m,⟨rfl,rfl,rfl,by simp,fun k _ z=>Bn w g k _ (fun e=>z (by rw[e]))⟩⟩
 cases hq:P.info? h with
 | none=>simp[hq]at n
 | some i=>
  have y:i.size=f:=by simpa [hq] using n
  simp only[El]at p;simp[Builtin.copy_,run_underlying C,Builtin.lenOf,sizeOf,typeInfo,hq,y,u,p,F8]
theorem ZiK(w:World){o:Oper}{a:Act}{K:Act->World->Prop}{Q:Exit->Act->World->Prop}(d s:Operand)(t b:TypeId)
  (ho:o.op = .call { callee := .builtin .copy,args := #[d,s],argTypes := #[t,b] }) (v u:Value) (e:a.eval d=v) (g:a.eval s=u) {c:Value} {w':World}
  (f:(Builtin.copy_ #[t,b] o.type #[v,u]).run P w = .ok c w') (h:K (a.put o.dst c) w'):o.wp P a w K Q:=by
 unfold Oper.wp execOp;simp only[ho,resolve,invoke,builtin,Cj,EY,Ch,Fu,Br,CP,e,g,f];exact h
theorem D9(w:World){c:Array Oper}{e:List Oper}{o:Oper}{a:Act}{Q:Exit->Act->World->Prop}(j:o.guard=none)(d s:Operand)(t b:TypeId)
  (ho:o.op = .call { callee := .builtin .copy,args := #[d,s],argTypes := #[t,b] }) (v u:Value) (i:a.eval d=v) (l:a.eval s=u) {f:Value} {w':World}
  (k:(Builtin.copy_ #[t,b] o.type #[v,u]).run P w = .ok f w') (h:wpList P c Q e (a.put o.dst f) w'):wpList P c Q (o::e) a w:=
 EE j fun _ g=>ZiK w d s t b ho v u i l k (g _ _ h)
theorem KH{c:Array Oper}{o:Oper}{a:Act}{w:World}{K:Act->World->Prop}{Q:Exit->Act->World->Prop}{E:Prop}
  (i:o.guard=none) (d x:Operand) (b e:TypeId) (j:o.op=Op.call { callee:=Callee.builtin Builtin.copy,args := #[d,x],argTypes := #[b,e] })
  (v u:Value) (h:a.eval d=v) (m:a.eval x=u) {f:Value} {w':World} (k:(Builtin.copy_ #[b,e] o.type #[v,u]).run P w = .ok f w') (g:K (a.put o.dst f) w'):
  if Region.wanted o (yielded c a.tmps)=true then Oper.wp P o a w K Q else E:=by
 have l:Region.wanted o (yielded c a.tmps)=true:=by simp[Region.wanted,i]
 rw[if_pos l];unfold Oper.wp;simp[execOp,j,resolve,invoke,builtin,h,m,k,Result.andThen];exact g
theorem JO{c:Array Oper}{o:Oper}{a:Act}{w:World}{K:Act->World->Prop}{Q:Exit->Act->World->Prop}{E:Prop}
  (i:o.guard=none) (d x:Operand) (b e:TypeId) (j:o.op=Op.call { callee:=Callee.builtin Builtin.append,args := #[d,x],argTypes := #[b,e] })
  (v u:Value) (h:a.eval d=v) (m:a.eval x=u) {f:Value} {w':World} (k:(Builtin.append_ #[b,e] o.type #[v,u]).run P w = .ok f w') (g:K (a.put o.dst f) w'):
  if Region.wanted o (yielded c a.tmps)=true then Oper.wp P o a w K Q else E:=by
 have l:Region.wanted o (yielded c a.tmps)=true:=by simp[Region.wanted,i]
 rw[if_pos l];unfold Oper.wp;simp[execOp,j,resolve,invoke,builtin,h,m,k,Result.andThen];exact g
end
def Sl(w:World)(e:TypeId)(sz:Nat)(v:Value)(n:Nat)(xs:F6):Prop:=
 xs.length=n*sz/\
 ((v = .slice none 0 0/\n=0)\/
  ∃g cap L,v = .slice (some ⟨g,0,none⟩) n cap/\F0 w g e L/\n<=cap/\cap<=maxLen/\L.length=cap*sz/\L.take (n*sz)=xs)
theorem Sl.owns{w:World}{e:TypeId}{a:Nat}{v:Value}{n:Nat}{xs:F6}(h:Sl w e a v n xs):w.ownsRow 0 e a v n xs:=by
 refine⟨h.1,?_⟩;rcases h.2 with c|⟨g,b,L,rfl,k,d,f,i,j⟩
 ·exact .inl c
 ·exact .inr ⟨g,b,L.toArray,rfl,Aw _,k,d,f,by simpa using i,by simpa using j⟩
theorem Sl.of_owns{w:World}{e:TypeId}{b:Nat}{v:Value}{n:Nat}{xs:F6}{base:Nat}(h:w.ownsRow base e b v n xs):Sl w e b v n xs:=by
 refine⟨h.1,?_⟩;rcases h.2 with a|⟨g,c,d,rfl,hr,a,f,i,j,k⟩
 ·exact .inl a
 ·exact .inr ⟨g,c,d.toList,rfl,by simpa [F0] using a,f,i,by simpa using j,by simpa using k⟩
def Dm(w:World)(v v':Value):Prop:=∀g,v'.ownBlock=some g->v.ownBlock=some g\/w.heap.size<=g
theorem KQ{P:Program}(w:World)(t ty e:TypeId)(i:TypeInfo)(z:Value)(size bytes:Nat)(C:P.underlying t=some (.slice e))(x:P.info? e=some i)(J:i.zero=some z)
  (o:i.size=size) (F:i.bytes=bytes) (K:z.cells.size=size) (U:0<size)
  (v:Value) (n:Nat) (xs:F6) (h:Sl w e size v n xs)
  (a:Addr) (m c:Nat) (b:F6) (f:b.length=m*size) (y:∀j u,b[j]?=some u->w.cell? (a.add j)=some u) (q:∀u∈b,u.oneCell'=true)
  (r:n+m<=maxLen) (G:(n+m)*bytes<=140737488355328):
  ∃p w',(Builtin.append_ #[t,t] ty #[v,.slice (some a) m c]).run P w = .ok p w'/\Sl w' e size p (n+m) (xs++b)/\w.grownBy w' v.ownBlock/\Dm w v p:=by
 rcases h.2 with⟨rfl,rfl⟩|⟨g,d,L,rfl,I,E,M,N,O⟩
 ·obtain⟨p,w',q,D,E,_⟩:=run_append_own (P:=P) w w.heap.size t ty e i z size bytes C x J o F K U _ 0 xs ⟨h.1,.inl ⟨rfl,rfl⟩⟩ a m c b f y q r G (Aa _);exact⟨p,w',q,Sl.of_owns D,E,fun g R => .inr (D.lt g R).1⟩
 ·by_cases B:n+m<=d
  ·have s:n*i.size+b.length<=L.toArray.size:=by rw[o,f];simp[N,<-Nat.add_mul];exact Nat.mul_le_mul_right _ B
   have A:=run_append_room (P:=P) w t ty e i C x g n d L.toArray I a m c b (by rw[o];exact f) y q B s;refine⟨_,_,A,⟨by rw[Ad,h.1,f,EW],.inr ⟨g,d,L.take (n*size)++b++L.drop (n*size+b.length),rfl,?_,B,M,?_,?_⟩⟩,?_,fun k l => .inl l⟩
   ·rw[o];exact BQ w g L.toArray _ e _ I
   ·simp only[Ad,Am,Az];rw[o]at s;simp at s;omega
   ·rw[O];have:(n+m)*size=(xs++b).length:=by rw[Ad,h.1,f,EW]
    rw[this];exact Fg
   ·exact⟨rfl,rfl,rfl,by simp,fun k _ l=>Bn w g k _ (fun e=>l (by simp[Value.ownBlock,e]))⟩
  ·have T:∀j u,xs[j]?=some u->w.cell? ((⟨g,0,none⟩:Addr).add j)=some u:=h.owns.cells (g:=g) rfl;subst o;subst F
   have A:=run_append_grow (P:=P) w t ty e i z C x J ⟨g,0,none⟩ n d xs h.1 T a m c b f y (by omega) (by simp only[maxLen]at r;omega) (Ff (by omega) G);have S:=grownCap_ge w (n+m) d e;have Q:grownCap w (n+m) d e<=maxLen:=ED w (n+m) d e r;have H:(xs++b).length=(n+m)*i.size:=by rw[Ad,h.1,f,EW]
   refine⟨_,_,A,⟨H,.inr ⟨w.heap.size,_,(xs.toArray++b.toArray++Builtin.zeroCells z.cells (grownCap w (n+m) d e-(n+m))).toList,rfl,by unfold F0;rw[Array.toArray_toList];exact CN w.drew _,S,Q,?_,?_⟩⟩,⟨rfl,rfl,rfl,by simp,fun k l _=>BO w.drew _ k l⟩,fun k l=>?_⟩
   ·simp only[AG,EP,AR,Eo,K,h.1,f,<-EW]
    congr 1
    omega
   ·simp only[Ez,Ar];rw[<-Ar,<-H];exact Fg
   ·simp[Value.ownBlock]at l;omega
abbrev ES:=@Lib.run_append_grow_zeros
theorem Xm{P:Program}(w:World)(t e ty:TypeId)(z:Value)(l:P.underlying t=some (.slice e))(m:∀w,(zeroValue e).run P w = .ok z w)(a:F6)(n:(Builtin.zeroCells z.cells 1).toList=a)(h:∀u∈a,u.oneCell'=true)(g o c:Nat)(L:F6)(b:TypeId)
  (d:F0 w g b L) (i:o+a.length<=L.length):
  ∃w',(Builtin.clear_ #[t] ty #[.slice (some ⟨g,o,none⟩) 1 c]).run P w = .ok (.tuple #[]) w'/\F0 w' g b (F8 L o a)/\w.grownBy w' (some g):=by
 have f:=FX P g o b a 0 L.toArray w d (by simpa using i) h;simp only[El]at f;refine⟨w.setRow g (F8 L o a).toArray,?_,BQ w g L.toArray _ b _ d,⟨rfl,rfl,rfl,by simp,fun k _ j=>Bn w g k _ (fun e=>j (by rw[e]))⟩⟩;simp[Builtin.clear_,run_underlying l,m,n,f,F8]
theorem ZhM{P:Program}(w:World){o:Oper}{a:Act}{K:Act->World->Prop}{Q:Exit->Act->World->Prop}(d:Operand)(t:TypeId)
  (ho:o.op = .call { callee := .builtin .clear,args := #[d],argTypes := #[t] }) (v:Value) (c:a.eval d=v) {b:Value} {w':World}
  (e:(Builtin.clear_ #[t] o.type #[v]).run P w = .ok b w') (h:K (a.put o.dst b) w'):o.wp P a w K Q:=by
 unfold Oper.wp execOp;simp only[ho,resolve,invoke,builtin,Cj,EY,Ch,Fu,Br,CP,c,e];exact h
theorem Oo{P:Program}(w:World){b:Array Oper}{c:List Oper}{o:Oper}{a:Act}{Q:Exit->Act->World->Prop}(i:o.guard=none)(d:Operand)(t:TypeId)
  (ho:o.op = .call { callee := .builtin .clear,args := #[d],argTypes := #[t] }) (v:Value) (g:a.eval d=v) {e:Value} {w':World}
  (j:(Builtin.clear_ #[t] o.type #[v]).run P w = .ok e w') (h:wpList P b Q c (a.put o.dst e) w'):wpList P b Q (o::c) a w:=
 EE i fun _ f=>ZhM w d t ho v g j (f _ _ h)
theorem PL:(Tryz.prog.info? 310).map (fun i=>(i.zero,i.size,i.bytes))=some (some (.agg #[.string ⟨#[]⟩,.pointer none,.int .i64 0]),3,32):=by kernel_rfl
theorem Vg:(Tryz.prog.info? 310).map (fun i=>i.size)=some 3:=by kernel_rfl
theorem Zl4(w:World)(v:Value)(n:Nat)(xs:F6)(d:Nat)(b:F6)(m:Sl w 310 3 v n xs)(hn:n<=10000)
  (s:F0 w d 310 b) (aa:b.length=3) (q:∀u∈b,u.oneCell'=true):
  Cl 265 #[v,.int .i64 n,.slice (some ⟨d,0,none⟩) 1 1] w fun e w'=>∃c,e = .returned c/\Sl w' 310 3 c (n+1) (xs++b)/\w.grownBy w' v.ownBlock/\Dm w v c:=by
 obtain⟨B,r,y,z,A⟩:=BU PL;have p:=fun ty=>KQ (P:=Tryz.prog) w 225 ty 310 B _ 3 32 Tryz.underlying225 r y z A rfl (by decide) v n xs m ⟨d,0,none⟩ 1 1 b (by omega)
  (fun j u t=>by rw[AL,Av,s.cell];exact t) q (by unfold maxLen;omega) (by omega)
 obtain⟨c,w',o,f,k,l⟩:=p 225;have x:(v = .slice none 0 0/\n=0)\/∃g a,v = .slice (some ⟨g,0,none⟩) n a/\n<=a:=by
  rcases m.2 with h|⟨g,a,L,h,_,i,_⟩
  ·exact .inl h
  ·exact .inr ⟨g,a,h,i⟩
 clear p;rcases x with⟨rfl,rfl⟩|⟨g,a,rfl,i⟩
 ·go_enter Tryz.func265,Tryz.ntmps265;go_wp2_with (at_builtin;refine AZ _ rfl _ _ 225 225 rfl _ _ rfl rfl _ _ o ?_);go_ret;exact⟨_,rfl,f,k,l⟩
 ·go_enter Tryz.func265,Tryz.ntmps265;go_wp2_with (at_builtin;refine AZ _ rfl _ _ 225 225 rfl _ _ rfl rfl _ _ o ?_)
  all_goals (go_ret;exact⟨_,rfl,f,k,l⟩)
theorem Zl1(w:World)(g n a:Nat)(xs L:F6)(i d:Nat)(c:F6)(h:F0 w g 310 L)(v:L.length=a*3)(o:L.take (n*3)=xs)(hi:i<n)(ae:n+1<=a)(z:a<=maxLen)(hn:n<=10000)
  (f:F0 w d 310 c) (l:c.length=3) (t:∀u∈xs,u.oneCell'=true) (s:∀u∈c,u.oneCell'=true) (B:d≠g):
  Cl 265 #[.slice (some ⟨g,0,none⟩) n a,.int .i64 i,.slice (some ⟨d,0,none⟩) 1 1] w fun e w'=>e = .returned (.slice (some ⟨g,0,none⟩) (n+1) a)/\F0 w' g 310 (F8 (F8 L ((i+1)*3) (xs.drop (i*3))) (i*3) c)/\w.grownBy w' (some g):=by
 have D:xs.length=n*3:=by rw[<-o,Am];omega
 have k:(xs.drop (i*3)).length=(n-i)*3:=by rw[Az,D];omega
 obtain⟨p,G,x,m⟩:=JP (P:=Tryz.prog) w.drew 225 225 3 310 3 g ((i+1)*3) (n-i) (a-(i+1)) ⟨g,i*3,none⟩ (n+1-i) (a-i) L 310 (xs.drop (i*3)) Tryz.underlying225 Vg h
  (by rw[k];simp only[C7];split<;>omega)
  (fun j u b=>by
   rw[AL,show(w.drew.cell? ⟨g,i*3+j,none⟩)=L[i*3+j]? from h.cell _];rw[Bc,<-o,Ao]at b
   split at b
   ·exact b
   ·cases b) (by rw[k];omega) (fun u b=>t u (BX b))
 have C:F0 p d 310 c:=(show F0 w.drew d 310 c from f).kept m (by simpa using B);obtain⟨q,H,y,A⟩:=JP (P:=Tryz.prog) p 225 225 3 310 3 g (i*3) (n+1-i) (a-i) ⟨d,0,none⟩ 1 1 _ 310 c Tryz.underlying225 Vg x
  (by rw[l];simp only[C7];split<;>omega)
  (fun j u b=>by rw[AL,Av,C.cell];exact b) (by rw[D3 (by rw[k];omega),l];omega) s
 have F:∀lb cb,(callFunc 296 #[.slice (some ⟨d,0,none⟩) 1 1,.slice (some ⟨g,(i+1)*3,none⟩) lb cb]).run Tryz.prog w = .ok (.value (.bool false)) w:=fun lb cb=>by
  rw[FE Tryz.func296 (by kernel_rfl) (by kernel_rfl) (by kernel_rfl) (e:=Extern.SlicesOverlaps.overlaps #[225,225] #[4]) (by kernel_rfl),
   Fb w 225 4 310 Tryz.underlying225 3 (fun _=>by kernel_rfl) ⟨d,0,none⟩ ⟨g,(i+1)*3,none⟩ 1 1 lb cb B 310 310 3 (a*3) (by unfold World.shape?;rw[f];simp[l]) (by unfold World.shape?;rw[h];simp[v]) (by omega) (f.frozen 0) (f.frozen 3)]
  rfl
 have af:a<=9223372036854775807:=by unfold maxLen at z;omega
 have r:F0 q g 310 (F8 (F8 L ((i+1)*3) (xs.drop (i*3))) (i*3) c)/\w.grownBy q (some g):=⟨y,JQ (show w.grownBy w.drew (some g) from QT (QU _ _)) (JQ m A)⟩;have E:=Db r;clear r x y m A C t s z o k D v l f h;have ai:IntKind.i64.wrap ((i:Int)+1)=(i:Int)+1:=by rw[AX];omega
 have aa:(0:Int)<=(i:Int)+1:=by omega
 have ag:i<=n:=by omega
 have ah:((i:Int)+1).toNat=i+1:=by omega
 have ab:¬(a=i+1):=by omega
 have ac:(i:Int)<=(n:Int)+1:=by omega
 have ad:¬(a=i):=by omega
 go_enter Tryz.func265,Tryz.ntmps265;go_wp2_with (simp only[F])
 go_region_law (refine KH rfl _ _ 225 225 rfl _ _ (by simp[Act.eval,Act.put]) (by simp[Act.eval,Act.put]) G ?_)
 go_wp2_with (at_builtin;refine D9 _ rfl _ _ 225 225 rfl _ _ rfl rfl H ?_);go_ret;exact⟨rfl,Da E⟩
theorem Zkt(w:World)(g n b:Nat)(xs L:F6)(i t:Nat)(c:F6)(d:F0 w g 310 L)(ae:L.length=b*3)(s:L.take (n*3)=xs)(hi:i<n)(ap:n<=b)(am:b<n+1)(hn:n<=10000)
  (D:F0 w t 310 c) (r:c.length=3) (J:∀u∈xs,u.oneCell'=true) (I:∀u∈c,u.oneCell'=true):
  Cl 265 #[.slice (some ⟨g,0,none⟩) n b,.int .i64 i,.slice (some ⟨t,0,none⟩) 1 1] w fun e w'=>∃G Z,e = .returned (.slice (some ⟨w.heap.size,0,none⟩) (n+1) G)/\n+1<=G/\G<=maxLen/\(xs.take (i*3)++Z).length=G*3/\
   F0 w' w.heap.size 310 (F8 (F8 (xs.take (i*3)++Z) (i*3) c) ((i+1)*3) (xs.drop (i*3)))/\w.grownBy w' (some w.heap.size):=by
 have X:xs.length=n*3:=by rw[<-s,Am];omega
 have A:(xs.drop (i*3)).length=(n-i)*3:=by rw[Az,X];omega
 obtain⟨i0,R,Y,aa,E⟩:=BU PL;have W:∀j u,xs[j]?=some u->w.cell? ⟨g,j,none⟩=some u:=fun j u a=>by
  rw[d.cell];rw[<-s,Ao]at a
  split at a
  ·exact a
  ·cases a
 have U:(Builtin.firstCells i0.size i (.slice (some ⟨g,0,none⟩) i b)).run Tryz.prog w.drew = .ok (xs.take (i*3)).toArray w.drew:=by
  rw[aa];exact EU w.drew 3 i ⟨g,0,none⟩ i b (xs.take (i*3)) (by rw[Am];omega) (fun j v q=>by
   rw[AL,Av];rw[Ao]at q
   split at q
   ·exact W j v q
   ·cases q)
 have C:i+(n+1-i)=n+1:=by omega
 have S:(n:Int)+1-(i:Int)=((n+1-i:Nat):Int):=by omega
 obtain⟨G,p⟩:=ex (grownCap w (n+1) b 310);obtain⟨Z,z⟩:∃Z:Array Value,Z=Builtin.zeroCells (Value.agg #[.string ⟨#[]⟩,.pointer none,.int .i64 0]).cells (n+1-i)++Builtin.zeroCells (Value.agg #[.string ⟨#[]⟩,.pointer none,.int .i64 0]).cells (G-(n+1)):=⟨_,rfl⟩;have V:∀ty,(Builtin.append_ #[225,3] ty #[.slice (some ⟨g,0,none⟩) i b,.int .i64 ((n:Int)+1-(i:Int))]).run Tryz.prog w =
   .ok (.slice (some ⟨w.heap.size,0,none⟩) (n+1) G) (w.drew.alloc (.cells (xs.take (i*3)++Z.toList).toArray 310)):=fun ty=>by
  have h:=ES w 225 3 ty 310 i0 _ .i64 .i64 Tryz.underlying225 Tryz.underlying3 R Y (some ⟨g,0,none⟩) i b (xs.take (i*3)) U (n+1-i) (by omega) (by omega) (by omega) (by omega) (by rw[E];omega) (by rw[E,C];exact Ff (by omega) (by omega));rw[C,<-p]at h;rw[S,h,z]
  congr 2
  simp[Array.append_assoc]
 have ad:n+1<=G:=by rw[p];exact grownCap_ge w _ _ _
 have x:G<=maxLen:=by rw[p];exact ED w _ _ _ (by unfold maxLen;omega)
 have f:(xs.take (i*3)++Z.toList).length=G*3:=by
  have e1:Z.size=(n+1-i)*3+(G-(n+1))*3:=by rw[z,EP,Eo,Eo];rfl
  have e2:Z.toList.length=Z.size:=AG;rw[Ad,Am,e2,e1];omega
 have y:F0 (w.drew.alloc (.cells (xs.take (i*3)++Z.toList).toArray 310)) w.heap.size 310 (xs.take (i*3)++Z.toList):=CN w.drew _;have l:w.grownBy (w.drew.alloc (.cells (xs.take (i*3)++Z.toList).toArray 310)) (some w.heap.size):=⟨rfl,rfl,rfl,by simp,fun k hk _=>BO w.drew _ k hk⟩;obtain⟨m,O⟩:=ex (w.drew.alloc (.cells (xs.take (i*3)++Z.toList).toArray 310));rw[<-O]at V y l;have T:F0 m t 310 c:=D.kept l (by have:=D.lt;simp;omega);obtain⟨o,af,M,B⟩:=JP (P:=Tryz.prog) m 225 225 3 310 3 w.heap.size (i*3) (n+1-i) (G-i) ⟨t,0,none⟩ 1 1 _ 310 c Tryz.underlying225 Vg y
  (by rw[r];simp only[C7];split<;>omega)
  (fun j u a=>by rw[AL,Av,T.cell];exact a) (by rw[f,r];omega) I
 have K:F0 o g 310 L:=(d.kept l (by have:=d.lt;simp;omega)).kept B (by have:=d.lt;simp;omega);obtain⟨F,ag,N,Q⟩:=JP (P:=Tryz.prog) o.drew 225 225 3 310 3 w.heap.size ((i+1)*3) (n-i) (G-(i+1)) ⟨g,i*3,none⟩ (n-i) (b-i) _ 310 (xs.drop (i*3)) Tryz.underlying225 Vg M
  (by rw[A];simp only[C7];split<;>omega)
  (fun j u a=>by
   rw[AL,show(o.drew.cell? ⟨g,i*3+j,none⟩)=L[i*3+j]? from K.cell _];rw[Bc,<-s,Ao]at a
   split at a
   ·exact a
   ·cases a) (by rw[D3 (by rw[f,r];omega),f,A];omega) (fun u a=>J u (BX a))
 have H:(xs.take (i*3)++Z.toList).length=G*3/\F0 F w.heap.size 310 (F8 (F8 (xs.take (i*3)++Z.toList) (i*3) c) ((i+1)*3) (xs.drop (i*3)))/\w.grownBy F (some w.heap.size):=
  ⟨f,N,JQ l (JQ B (JQ (QT (QU o _)) Q))⟩
 have ab:=Db H;have aj:G<=9223372036854775807:=by unfold maxLen at x;omega
 have ah:¬(G=i):=by omega
 have ai:¬(G=i+1):=by omega
 have an:¬(b=i):=by omega
 have ar:IntKind.i64.wrap ((i:Int)+1)=(i:Int)+1:=by rw[AX];omega
 have ak:(0:Int)<=(i:Int)+1:=by omega
 have ao:i<=n:=by omega
 have aq:((i:Int)+1).toNat=i+1:=by omega
 have al:(i:Int)<=(n:Int):=by omega
 clear H f y M N l B Q T K J I s A X ae r D d W U O p z C S R Y aa E;have ac:=Db x;clear x;go_enter Tryz.func265,Tryz.ntmps265;go_wp2_with (first
  | (at_builtin;refine AZ _ rfl _ _ _ _ rfl _ _ rfl rfl _ _ (V _) ?_)
  | (at_builtin;refine D9 _ rfl _ _ 225 225 rfl _ _ rfl rfl af ?_))
 go_region_law (refine KH rfl _ _ 225 225 rfl _ _ (by simp[Act.eval,Act.put]) (by simp[Act.eval,Act.put]) ag ?_)
 go_wp2;go_ret;exact⟨G,Z.toList,rfl,ad,Da ac,Da ab⟩
theorem Mm(w:World)(g n b:Nat)(xs L:F6)(i:Nat)(m:F0 w g 310 L)(t:L.length=b*3)(v:L.take (n*3)=xs)(hi:i<n)(ai:n<=b)(D:b<=maxLen)(hn:n<=10000)
  (A:∀u∈xs,u.oneCell'=true):
  Cl 268 #[.slice (some ⟨g,0,none⟩) n b,.int .i64 i,.int .i64 ((i:Int)+1)] w fun e w'=>e = .returned (.slice (some ⟨g,0,none⟩) (n-1) b)/\
   F0 w' g 310 (F8 (F8 L (i*3) (xs.drop ((i+1)*3))) ((n-1)*3) [.string ⟨#[]⟩,.pointer none,.int .i64 0])/\w.grownBy w' (some g):=by
 have I:xs.length=n*3:=by rw[<-v,Am];omega
 have l:(xs.drop ((i+1)*3)).length=(n-(i+1))*3:=by rw[Az,I];omega
 obtain⟨Q,G,N,r,O⟩:=BU PL;have H:F8 L (i*3) (xs.drop ((i+1)*3))=L.toArray.toList.take (i*3)++xs.drop ((i+1)*3)++L.toArray.toList.drop (i*3+(xs.drop ((i+1)*3)).length):=rfl;obtain⟨f,o⟩:=ex (w.drew.setRow g (F8 L (i*3) (xs.drop ((i+1)*3))).toArray);have p:∀(a:Addr) (c:Nat),(n-(i+1)≠0->a=⟨g,(i+1)*3,none⟩)->(Builtin.append_ #[225,225] 225 #[.slice (some ⟨g,0,none⟩) i b,.slice (some a) (n-(i+1)) c]).run Tryz.prog w.drew = .ok (.slice (some ⟨g,0,none⟩) (n-1) b) f:=fun a c J=>by
  have h:=run_append_room (P:=Tryz.prog) w.drew 225 225 310 Q Tryz.underlying225 G g i b L.toArray m a (n-(i+1)) c (xs.drop ((i+1)*3)) (by rw[r];exact l)
   (fun j u d=>by
    by_cases z:n-(i+1)=0
    ·have:xs.drop ((i+1)*3)=[]:=Ay (by rw[l,z]);rw[this]at d;cases d
    ·rw[J z,AL,show(w.drew.cell? ⟨g,(i+1)*3+j,none⟩)=L[(i+1)*3+j]? from m.cell _];rw[Bc,<-v,Ao]at d
     split at d
     ·exact d
     ·cases d) (fun u d=>A u (BX d)) (by omega) (by rw[r,l];simp[t];omega)
  rw[h,o,H,r,show i+(n-(i+1))=n-1 by omega]
 have B:F0 f g 310 (F8 L (i*3) (xs.drop ((i+1)*3))):=by rw[o];exact BQ w.drew g L.toArray _ 310 _ m
 have E:w.grownBy f (some g):=by rw[o];exact⟨rfl,rfl,rfl,by simp,fun k _ M=>Bn w.drew g k _ (fun e=>M (by rw[e]))⟩
 obtain⟨x,q,C,F⟩:=Xm (P:=Tryz.prog) f 225 310 0 (.agg #[.string ⟨#[]⟩,.pointer none,.int .i64 0]) Tryz.underlying225 (fun _=>by kernel_rfl) [.string ⟨#[]⟩,.pointer none,.int .i64 0] (by kernel_rfl) (by simp[Value.oneCell']) g ((n-1)*3) (b-(n-1)) _ 310 B (by rw[D3 (by rw[l];omega),t];simp;omega);have y:F0 x g 310 (F8 (F8 L (i*3) (xs.drop ((i+1)*3))) ((n-1)*3) [.string ⟨#[]⟩,.pointer none,.int .i64 0])/\w.grownBy x (some g):=⟨C,JQ E F⟩;have s:=Db y;have ag:b<=9223372036854775807:=by unfold maxLen at D;omega
 have aa:(0:Int)<=(i:Int)+1:=by omega
 have ak:((i:Int)+1).toNat=i+1:=by omega
 have ab:(i:Int)<=(n:Int):=by omega
 have ac:(i:Int)+1<=(n:Int):=by omega
 have ad:(i:Int)<=(i:Int)+1:=by omega
 have ae:(i:Int)<=(b:Int):=by omega
 have af:¬(b=n-1):=by omega
 have ah:n-(n-1)=1:=by omega
 have aj:((i:Int)==(i:Int)+1)=false:=by rw[BK];omega
 clear y B C E F o H m v l I t A G N r O D;go_enter Tryz.func268,Tryz.ntmps268;by_cases K:b=i+1
 ·subst K;obtain rfl:n=i+1:=by omega
  rw[Fk]at p;rw[Nat.add_sub_cancel]at p s q;rw[Nat.add_sub_cancel_left]at q;go_wp2
  go_region_law (refine JO rfl _ _ 225 225 rfl _ _ (by simp[Act.eval,Act.put]) (by simp[Act.eval,Act.put]) (p ⟨g,0,none⟩ 0 (fun h=>absurd h (by omega))) ?_)
  go_wp2_with (at_builtin;refine Oo _ rfl _ 225 rfl _ rfl q ?_);go_ret;exact⟨rfl,Da s⟩
 ·go_wp2
  go_region_law (refine JO rfl _ _ 225 225 rfl _ _ (by simp[Act.eval,Act.put]) (by simp[Act.eval,Act.put]) (p ⟨g,(i+1)*3,none⟩ (b-(i+1)) (fun _=>rfl)) ?_)
  go_wp2_with (at_builtin;refine Oo _ rfl _ 225 rfl _ rfl q ?_);go_ret;exact⟨rfl,Da s⟩
theorem PK:(Tryz.prog.info? 293).map (fun i=>(i.zero,i.size,i.bytes))=some (some (.agg #[.int .i64 0,.slice none 0 0,.int .i64 0]),3,40):=by kernel_rfl
theorem Vf:(Tryz.prog.info? 293).map (fun i=>i.size)=some 3:=by kernel_rfl
theorem Zl5(w:World)(v:Value)(n:Nat)(xs:F6)(d:Nat)(b:F6)(m:Sl w 293 3 v n xs)(hn:n<=10000)
  (s:F0 w d 293 b) (aa:b.length=3) (q:∀u∈b,u.oneCell'=true):
  Cl 267 #[v,.int .i64 n,.slice (some ⟨d,0,none⟩) 1 1] w fun e w'=>∃c,e = .returned c/\Sl w' 293 3 c (n+1) (xs++b)/\w.grownBy w' v.ownBlock/\Dm w v c:=by
 obtain⟨B,r,y,z,A⟩:=BU PK;have p:=fun ty=>KQ (P:=Tryz.prog) w 210 ty 293 B _ 3 40 Tryz.underlying210 r y z A rfl (by decide) v n xs m ⟨d,0,none⟩ 1 1 b (by omega)
  (fun j u t=>by rw[AL,Av,s.cell];exact t) q (by unfold maxLen;omega) (by omega)
 obtain⟨c,w',o,f,k,l⟩:=p 210;have x:(v = .slice none 0 0/\n=0)\/∃g a,v = .slice (some ⟨g,0,none⟩) n a/\n<=a:=by
  rcases m.2 with h|⟨g,a,L,h,_,i,_⟩
  ·exact .inl h
  ·exact .inr ⟨g,a,h,i⟩
 clear p;rcases x with⟨rfl,rfl⟩|⟨g,a,rfl,i⟩
 ·go_enter Tryz.func267,Tryz.ntmps267;go_wp2_with (at_builtin;refine AZ _ rfl _ _ 210 210 rfl _ _ rfl rfl _ _ o ?_);go_ret;exact⟨_,rfl,f,k,l⟩
 ·go_enter Tryz.func267,Tryz.ntmps267;go_wp2_with (at_builtin;refine AZ _ rfl _ _ 210 210 rfl _ _ rfl rfl _ _ o ?_)
  all_goals (go_ret;exact⟨_,rfl,f,k,l⟩)
theorem Zl2(w:World)(g n a:Nat)(xs L:F6)(i d:Nat)(c:F6)(h:F0 w g 293 L)(v:L.length=a*3)(o:L.take (n*3)=xs)(hi:i<n)(ae:n+1<=a)(z:a<=maxLen)(hn:n<=10000)
  (f:F0 w d 293 c) (l:c.length=3) (t:∀u∈xs,u.oneCell'=true) (s:∀u∈c,u.oneCell'=true) (B:d≠g):
  Cl 267 #[.slice (some ⟨g,0,none⟩) n a,.int .i64 i,.slice (some ⟨d,0,none⟩) 1 1] w fun e w'=>e = .returned (.slice (some ⟨g,0,none⟩) (n+1) a)/\F0 w' g 293 (F8 (F8 L ((i+1)*3) (xs.drop (i*3))) (i*3) c)/\w.grownBy w' (some g):=by
 have D:xs.length=n*3:=by rw[<-o,Am];omega
 have k:(xs.drop (i*3)).length=(n-i)*3:=by rw[Az,D];omega
 obtain⟨p,G,x,m⟩:=JP (P:=Tryz.prog) w.drew 210 210 3 293 3 g ((i+1)*3) (n-i) (a-(i+1)) ⟨g,i*3,none⟩ (n+1-i) (a-i) L 293 (xs.drop (i*3)) Tryz.underlying210 Vf h
  (by rw[k];simp only[C7];split<;>omega)
  (fun j u b=>by
   rw[AL,show(w.drew.cell? ⟨g,i*3+j,none⟩)=L[i*3+j]? from h.cell _];rw[Bc,<-o,Ao]at b
   split at b
   ·exact b
   ·cases b) (by rw[k];omega) (fun u b=>t u (BX b))
 have C:F0 p d 293 c:=(show F0 w.drew d 293 c from f).kept m (by simpa using B);obtain⟨q,H,y,A⟩:=JP (P:=Tryz.prog) p 210 210 3 293 3 g (i*3) (n+1-i) (a-i) ⟨d,0,none⟩ 1 1 _ 293 c Tryz.underlying210 Vf x
  (by rw[l];simp only[C7];split<;>omega)
  (fun j u b=>by rw[AL,Av,C.cell];exact b) (by rw[D3 (by rw[k];omega),l];omega) s
 have F:∀lb cb,(callFunc 298 #[.slice (some ⟨d,0,none⟩) 1 1,.slice (some ⟨g,(i+1)*3,none⟩) lb cb]).run Tryz.prog w = .ok (.value (.bool false)) w:=fun lb cb=>by
  rw[FE Tryz.func298 (by kernel_rfl) (by kernel_rfl) (by kernel_rfl) (e:=Extern.SlicesOverlaps.overlaps #[210,210] #[4]) (by kernel_rfl),
   Fb w 210 4 293 Tryz.underlying210 3 (fun _=>by kernel_rfl) ⟨d,0,none⟩ ⟨g,(i+1)*3,none⟩ 1 1 lb cb B 293 293 3 (a*3) (by unfold World.shape?;rw[f];simp[l]) (by unfold World.shape?;rw[h];simp[v]) (by omega) (f.frozen 0) (f.frozen 3)]
  rfl
 have af:a<=9223372036854775807:=by unfold maxLen at z;omega
 have r:F0 q g 293 (F8 (F8 L ((i+1)*3) (xs.drop (i*3))) (i*3) c)/\w.grownBy q (some g):=⟨y,JQ (show w.grownBy w.drew (some g) from QT (QU _ _)) (JQ m A)⟩;have E:=Db r;clear r x y m A C t s z o k D v l f h;have ai:IntKind.i64.wrap ((i:Int)+1)=(i:Int)+1:=by rw[AX];omega
 have aa:(0:Int)<=(i:Int)+1:=by omega
 have ag:i<=n:=by omega
 have ah:((i:Int)+1).toNat=i+1:=by omega
 have ab:¬(a=i+1):=by omega
 have ac:(i:Int)<=(n:Int)+1:=by omega
 have ad:¬(a=i):=by omega
 go_enter Tryz.func267,Tryz.ntmps267;go_wp2_with (simp only[F])
 go_region_law (refine KH rfl _ _ 210 210 rfl _ _ (by simp[Act.eval,Act.put]) (by simp[Act.eval,Act.put]) G ?_)
 go_wp2_with (at_builtin;refine D9 _ rfl _ _ 210 210 rfl _ _ rfl rfl H ?_);go_ret;exact⟨rfl,Da E⟩
theorem Zku(w:World)(g n b:Nat)(xs L:F6)(i t:Nat)(c:F6)(d:F0 w g 293 L)(ae:L.length=b*3)(s:L.take (n*3)=xs)(hi:i<n)(ap:n<=b)(am:b<n+1)(hn:n<=10000)
  (D:F0 w t 293 c) (r:c.length=3) (J:∀u∈xs,u.oneCell'=true) (I:∀u∈c,u.oneCell'=true):
  Cl 267 #[.slice (some ⟨g,0,none⟩) n b,.int .i64 i,.slice (some ⟨t,0,none⟩) 1 1] w fun e w'=>∃G Z,e = .returned (.slice (some ⟨w.heap.size,0,none⟩) (n+1) G)/\n+1<=G/\G<=maxLen/\(xs.take (i*3)++Z).length=G*3/\
   F0 w' w.heap.size 293 (F8 (F8 (xs.take (i*3)++Z) (i*3) c) ((i+1)*3) (xs.drop (i*3)))/\w.grownBy w' (some w.heap.size):=by
 have X:xs.length=n*3:=by rw[<-s,Am];omega
 have A:(xs.drop (i*3)).length=(n-i)*3:=by rw[Az,X];omega
 obtain⟨i0,R,Y,aa,E⟩:=BU PK;have W:∀j u,xs[j]?=some u->w.cell? ⟨g,j,none⟩=some u:=fun j u a=>by
  rw[d.cell];rw[<-s,Ao]at a
  split at a
  ·exact a
  ·cases a
 have U:(Builtin.firstCells i0.size i (.slice (some ⟨g,0,none⟩) i b)).run Tryz.prog w.drew = .ok (xs.take (i*3)).toArray w.drew:=by
  rw[aa];exact EU w.drew 3 i ⟨g,0,none⟩ i b (xs.take (i*3)) (by rw[Am];omega) (fun j v q=>by
   rw[AL,Av];rw[Ao]at q
   split at q
   ·exact W j v q
   ·cases q)
 have C:i+(n+1-i)=n+1:=by omega
 have S:(n:Int)+1-(i:Int)=((n+1-i:Nat):Int):=by omega
 obtain⟨G,p⟩:=ex (grownCap w (n+1) b 293);obtain⟨Z,z⟩:∃Z:Array Value,Z=Builtin.zeroCells (Value.agg #[.int .i64 0,.slice none 0 0,.int .i64 0]).cells (n+1-i)++Builtin.zeroCells (Value.agg #[.int .i64 0,.slice none 0 0,.int .i64 0]).cells (G-(n+1)):=⟨_,rfl⟩;have V:∀ty,(Builtin.append_ #[210,3] ty #[.slice (some ⟨g,0,none⟩) i b,.int .i64 ((n:Int)+1-(i:Int))]).run Tryz.prog w =
   .ok (.slice (some ⟨w.heap.size,0,none⟩) (n+1) G) (w.drew.alloc (.cells (xs.take (i*3)++Z.toList).toArray 293)):=fun ty=>by
  have h:=ES w 210 3 ty 293 i0 _ .i64 .i64 Tryz.underlying210 Tryz.underlying3 R Y (some ⟨g,0,none⟩) i b (xs.take (i*3)) U (n+1-i) (by omega) (by omega) (by omega) (by omega) (by rw[E];omega) (by rw[E,C];exact Ff (by omega) (by omega));rw[C,<-p]at h;rw[S,h,z]
  congr 2
  simp[Array.append_assoc]
 have ad:n+1<=G:=by rw[p];exact grownCap_ge w _ _ _
 have x:G<=maxLen:=by rw[p];exact ED w _ _ _ (by unfold maxLen;omega)
 have f:(xs.take (i*3)++Z.toList).length=G*3:=by
  have e1:Z.size=(n+1-i)*3+(G-(n+1))*3:=by rw[z,EP,Eo,Eo];rfl
  have e2:Z.toList.length=Z.size:=AG;rw[Ad,Am,e2,e1];omega
 have y:F0 (w.drew.alloc (.cells (xs.take (i*3)++Z.toList).toArray 293)) w.heap.size 293 (xs.take (i*3)++Z.toList):=CN w.drew _;have l:w.grownBy (w.drew.alloc (.cells (xs.take (i*3)++Z.toList).toArray 293)) (some w.heap.size):=⟨rfl,rfl,rfl,by simp,fun k hk _=>BO w.drew _ k hk⟩;obtain⟨m,O⟩:=ex (w.drew.alloc (.cells (xs.take (i*3)++Z.toList).toArray 293));rw[<-O]at V y l;have T:F0 m t 293 c:=D.kept l (by have:=D.lt;simp;omega);obtain⟨o,af,M,B⟩:=JP (P:=Tryz.prog) m 210 210 3 293 3 w.heap.size (i*3) (n+1-i) (G-i) ⟨t,0,none⟩ 1 1 _ 293 c Tryz.underlying210 Vf y
  (by rw[r];simp only[C7];split<;>omega)
  (fun j u a=>by rw[AL,Av,T.cell];exact a) (by rw[f,r];omega) I
 have K:F0 o g 293 L:=(d.kept l (by have:=d.lt;simp;omega)).kept B (by have:=d.lt;simp;omega);obtain⟨F,ag,N,Q⟩:=JP (P:=Tryz.prog) o.drew 210 210 3 293 3 w.heap.size ((i+1)*3) (n-i) (G-(i+1)) ⟨g,i*3,none⟩ (n-i) (b-i) _ 293 (xs.drop (i*3)) Tryz.underlying210 Vf M
  (by rw[A];simp only[C7];split<;>omega)
  (fun j u a=>by
   rw[AL,show(o.drew.cell? ⟨g,i*3+j,none⟩)=L[i*3+j]? from K.cell _];rw[Bc,<-s,Ao]at a
   split at a
   ·exact a
   ·cases a) (by rw[D3 (by rw[f,r];omega),f,A];omega) (fun u a=>J u (BX a))
 have H:(xs.take (i*3)++Z.toList).length=G*3/\F0 F w.heap.size 293 (F8 (F8 (xs.take (i*3)++Z.toList) (i*3) c) ((i+1)*3) (xs.drop (i*3)))/\w.grownBy F (some w.heap.size):=
  ⟨f,N,JQ l (JQ B (JQ (QT (QU o _)) Q))⟩
 have ab:=Db H;have aj:G<=9223372036854775807:=by unfold maxLen at x;omega
 have ah:¬(G=i):=by omega
 have ai:¬(G=i+1):=by omega
 have an:¬(b=i):=by omega
 have ar:IntKind.i64.wrap ((i:Int)+1)=(i:Int)+1:=by rw[AX];omega
 have ak:(0:Int)<=(i:Int)+1:=by omega
 have ao:i<=n:=by omega
 have aq:((i:Int)+1).toNat=i+1:=by omega
 have al:(i:Int)<=(n:Int):=by omega
 clear H f y M N l B Q T K J I s A X ae r D d W U O p z C S R Y aa E;have ac:=Db x;clear x;go_enter Tryz.func267,Tryz.ntmps267;go_wp2_with (first
  | (at_builtin;refine AZ _ rfl _ _ _ _ rfl _ _ rfl rfl _ _ (V _) ?_)
  | (at_builtin;refine D9 _ rfl _ _ 210 210 rfl _ _ rfl rfl af ?_))
 go_region_law (refine KH rfl _ _ 210 210 rfl _ _ (by simp[Act.eval,Act.put]) (by simp[Act.eval,Act.put]) ag ?_)
 go_wp2;go_ret;exact⟨G,Z.toList,rfl,ad,Da ac,Da ab⟩
theorem Mn(w:World)(g n b:Nat)(xs L:F6)(i:Nat)(m:F0 w g 293 L)(t:L.length=b*3)(v:L.take (n*3)=xs)(hi:i<n)(ai:n<=b)(D:b<=maxLen)(hn:n<=10000)
  (A:∀u∈xs,u.oneCell'=true):
  Cl 269 #[.slice (some ⟨g,0,none⟩) n b,.int .i64 i,.int .i64 ((i:Int)+1)] w fun e w'=>e = .returned (.slice (some ⟨g,0,none⟩) (n-1) b)/\
   F0 w' g 293 (F8 (F8 L (i*3) (xs.drop ((i+1)*3))) ((n-1)*3) [.int .i64 0,.slice none 0 0,.int .i64 0])/\w.grownBy w' (some g):=by
 have I:xs.length=n*3:=by rw[<-v,Am];omega
 have l:(xs.drop ((i+1)*3)).length=(n-(i+1))*3:=by rw[Az,I];omega
 obtain⟨Q,G,N,r,O⟩:=BU PK;have H:F8 L (i*3) (xs.drop ((i+1)*3))=L.toArray.toList.take (i*3)++xs.drop ((i+1)*3)++L.toArray.toList.drop (i*3+(xs.drop ((i+1)*3)).length):=rfl;obtain⟨f,o⟩:=ex (w.drew.setRow g (F8 L (i*3) (xs.drop ((i+1)*3))).toArray);have p:∀(a:Addr) (c:Nat),(n-(i+1)≠0->a=⟨g,(i+1)*3,none⟩)->(Builtin.append_ #[210,210] 210 #[.slice (some ⟨g,0,none⟩) i b,.slice (some a) (n-(i+1)) c]).run Tryz.prog w.drew = .ok (.slice (some ⟨g,0,none⟩) (n-1) b) f:=fun a c J=>by
  have h:=run_append_room (P:=Tryz.prog) w.drew 210 210 293 Q Tryz.underlying210 G g i b L.toArray m a (n-(i+1)) c (xs.drop ((i+1)*3)) (by rw[r];exact l)
   (fun j u d=>by
    by_cases z:n-(i+1)=0
    ·have:xs.drop ((i+1)*3)=[]:=Ay (by rw[l,z]);rw[this]at d;cases d
    ·rw[J z,AL,show(w.drew.cell? ⟨g,(i+1)*3+j,none⟩)=L[(i+1)*3+j]? from m.cell _];rw[Bc,<-v,Ao]at d
     split at d
     ·exact d
     ·cases d) (fun u d=>A u (BX d)) (by omega) (by rw[r,l];simp[t];omega)
  rw[h,o,H,r,show i+(n-(i+1))=n-1 by omega]
 have B:F0 f g 293 (F8 L (i*3) (xs.drop ((i+1)*3))):=by rw[o];exact BQ w.drew g L.toArray _ 293 _ m
 have E:w.grownBy f (some g):=by rw[o];exact⟨rfl,rfl,rfl,by simp,fun k _ M=>Bn w.drew g k _ (fun e=>M (by rw[e]))⟩
 obtain⟨x,q,C,F⟩:=Xm (P:=Tryz.prog) f 210 293 0 (.agg #[.int .i64 0,.slice none 0 0,.int .i64 0]) Tryz.underlying210 (fun _=>by kernel_rfl) [.int .i64 0,.slice none 0 0,.int .i64 0] (by kernel_rfl) (by simp[Value.oneCell']) g ((n-1)*3) (b-(n-1)) _ 293 B (by rw[D3 (by rw[l];omega),t];simp;omega);have y:F0 x g 293 (F8 (F8 L (i*3) (xs.drop ((i+1)*3))) ((n-1)*3) [.int .i64 0,.slice none 0 0,.int .i64 0])/\w.grownBy x (some g):=⟨C,JQ E F⟩;have s:=Db y;have ag:b<=9223372036854775807:=by unfold maxLen at D;omega
 have aa:(0:Int)<=(i:Int)+1:=by omega
 have ak:((i:Int)+1).toNat=i+1:=by omega
 have ab:(i:Int)<=(n:Int):=by omega
 have ac:(i:Int)+1<=(n:Int):=by omega
 have ad:(i:Int)<=(i:Int)+1:=by omega
 have ae:(i:Int)<=(b:Int):=by omega
 have af:¬(b=n-1):=by omega
 have ah:n-(n-1)=1:=by omega
 have aj:((i:Int)==(i:Int)+1)=false:=by rw[BK];omega
 clear y B C E F o H m v l I t A G N r O D;go_enter Tryz.func269,Tryz.ntmps269;by_cases K:b=i+1
 ·subst K;obtain rfl:n=i+1:=by omega
  rw[Fk]at p;rw[Nat.add_sub_cancel]at p s q;rw[Nat.add_sub_cancel_left]at q;go_wp2
  go_region_law (refine JO rfl _ _ 210 210 rfl _ _ (by simp[Act.eval,Act.put]) (by simp[Act.eval,Act.put]) (p ⟨g,0,none⟩ 0 (fun h=>absurd h (by omega))) ?_)
  go_wp2_with (at_builtin;refine Oo _ rfl _ 210 rfl _ rfl q ?_);go_ret;exact⟨rfl,Da s⟩
 ·go_wp2
  go_region_law (refine JO rfl _ _ 210 210 rfl _ _ (by simp[Act.eval,Act.put]) (by simp[Act.eval,Act.put]) (p ⟨g,(i+1)*3,none⟩ (b-(i+1)) (fun _=>rfl)) ?_)
  go_wp2_with (at_builtin;refine Oo _ rfl _ 210 rfl _ rfl q ?_);go_ret;exact⟨rfl,Da s⟩
end Go.Proofs.YtaieidcohdhgpaaGreatDoor
