/- Dumps. -/
import Derived.Test.YtaieidcohdhgpaaGreatDoorProg
import Derived.PartsItems
import Derived.CheckFast
import Derived.HeadItems
import Derived.WalkLawsBesides
import Derived.WalkSpells
import Derived.BigQuiet
import Derived.Handy
import Derived.Lib.Overlaps
import Derived.Deep.RegionLaw
import Derived.Lib.AppendZerosOnto
namespace Go.Proofs.YtaieidcohdhgpaaGreatDoor
set_option maxHeartbeats 40000000
set_option maxRecDepth 100000
open Go.RowKit
abbrev Aa:=@Nat.le_refl
abbrev Ab:=@List.length_append
abbrev Ac:=@List.getElem?_eq_getElem
abbrev Ad:=@List.getElem?_eq_some_iff
abbrev Ae:=@Nat.le_trans
abbrev Af:=@List.length_cons
abbrev Ag:=@Below.refl
abbrev Ah:=@Array.getElem?_eq_some_iff
abbrev Ai:=@ByteArray.size_append
abbrev Ak:=@List.eq_nil_of_length_eq_zero
abbrev Al:=@World.block_lt_of_cell?
abbrev Am:=@ByteArray.size_extract
abbrev An:=@List.mem_of_getElem?
abbrev Ao:=@Nat.lt_of_lt_of_le
abbrev Ap:=@List.getElem?_take
abbrev Aq:=@bodyPost_ret
abbrev Ar:=@List.length_take
abbrev As:=@List.mem_append
abbrev Au:=@Nat.zero_add
abbrev Av:=@List.mem_singleton
abbrev Aw:=@Nat.zero_le
abbrev Ax:=@World.cell?_of_block
abbrev Ay:=@List.length_nil
abbrev Az:=@Array.length_toList
abbrev AA:=@List.mem_cons_of_mem
abbrev AB:=@Below.heap_setCell
abbrev AC:=@List.append_assoc
abbrev AD:=@List.getElem?_append_right
abbrev AF:=@Addr.add_lit
abbrev AG:=@List.mem_cons
abbrev AH:=@beq_eq_false_iff_ne
abbrev AI:=@List.take_of_length_le
abbrev AJ:=@List.nil_append
abbrev AK:=@List.length_drop
abbrev AL:=@List.cons_append
abbrev AM:=@decide_eq_true_eq
abbrev AO:=@Array.replicate_zero
abbrev AP:=@Array.replicate_succ
abbrev AQ:=@List.size_toArray
abbrev AR:=@List.append_toArray
abbrev AT:=@wp_region_lit
abbrev AU:=@List.getElem?_append_left
abbrev AV:=@List.push_toArray
abbrev AW:=@List.flatMap_cons
abbrev AY:=@WideShapes.bytes_inj
abbrev AZ:=@List.append_nil
abbrev A0:=@callsIn_wide
abbrev A2:=@List.mem_map
abbrev A3:=@List.getElem?_drop
abbrev A4:=@List.not_mem_nil
abbrev A5:=@Array.getElem?_setIfInBounds
abbrev A7:=@List.length_map
abbrev A8:=@Bool.and_eq_true
abbrev A9:=@List.length_range
abbrev Ba:=@of_decide_eq_true
abbrev Be:=@List.getElem?_map
abbrev Bf:=@List.drop_eq_nil_of_le
abbrev Bg:=@List.take_add_one
abbrev Bh:=@List.length_singleton
abbrev Bj:=@List.countP_le_length
abbrev Bk:=@Nat.lt_or_ge
abbrev Bm:=@List.mem_of_mem_take
abbrev Bn:=@info_parts
abbrev Bo:=@List.map_append
abbrev Bp:=@List.mem_cons_self
abbrev Br:=@wpIn_wide
abbrev Bs:=@heap_alloc_new
abbrev Bu:=@Nat.min_eq_left
abbrev Bv:=@List.getElem?_eq_none
abbrev BA:=@UInt8.toNat_ofNat'
abbrev BB:=@Int.toNat_natCast
abbrev BC:=@List.all_eq_true
abbrev BD:=@IntKind.wrap_i64
abbrev BE:=@Below.heap_alloc
abbrev BF:=@Int.tmod_eq_emod_of_nonneg
abbrev BG:=@Option.some.inj
abbrev BH:=@List.mem_of_mem_drop
abbrev BI:=@Value.slice.injEq
abbrev BJ:=@Option.map_eq_some_iff
abbrev BK:=@List.map_cons
abbrev BM:=@List.mem_append_left
abbrev BN:=@List.take_length
abbrev BP:=@Option.bind_eq_some_iff
abbrev BQ:=@List.pairwise_iff_getElem
abbrev BR:=@List.getElem?_of_mem
abbrev BT:=@List.take_append_drop
abbrev BU:=@List.getElem?_cons_succ
abbrev BV:=@ByteArray.toList_eq
abbrev BW:=@decide_eq_false
abbrev BX:=@List.mem_range
abbrev BY:=@List.drop_eq_getElem_cons
abbrev BZ:=@setRow_other
abbrev B3:=@Bool.true_eq_false
abbrev B8:=@World.cell?_setCell_same
abbrev B9:=@List.take_succ_eq_append_getElem
abbrev Ca:=@List.take_length_add_append
abbrev Cb:=@List.mem_append_right
abbrev Cc:=@List.map_congr_left
abbrev Cd:=@List.drop_length_add_append
abbrev Ce:=@List.countP_singleton
abbrev Cf:=@Nat.add_sub_cancel_left
abbrev Cg:=@List.pairwise_map
abbrev Ch:=@World.cell?_alloc_at
abbrev Ci:=@Nat.mul_one
abbrev Cj:=@Option.toList_some
abbrev Ck:=@List.countP_append
abbrev Cm:=@World.cell?_setCell_other
abbrev Cn:=@Option.map_some
abbrev Co:=@List.take_zero
abbrev Cq:=@List.getElem_mem
abbrev Cr:=@Result.andThen_ok
abbrev Cs:=@Nat.le_of_lt
abbrev Ct:=@Nat.add_zero
abbrev Cu:=@setRow_heap
abbrev Cv:=@callsIn_of_wp
abbrev Cw:=@List.take_left'
abbrev Cx:=@List.nodup_cons
abbrev Cy:=@Sem.run_bind
abbrev Cz:=@List.mem_flatMap
abbrev CB:=@List.mem_of_find?_eq_some
abbrev CC:=@List.mem_iff_getElem?
abbrev CE:=@beq_iff_eq
abbrev CG:=@List.pairwise_cons
abbrev CH:=@wpList_store_row
abbrev CJ:=@List.dropLast_concat
abbrev CK:=@List.pairwise_singleton
abbrev CL:=@Int.eq_ofNat_of_zero_le
abbrev CM:=@run_underlying
abbrev CN:=@decide_eq_true
abbrev CO:=@Nat.sub_self
abbrev CP:=@List.drop_zero
abbrev CQ:=@Nat.lt_trichotomy
abbrev CR:=@List.ext_getElem?
abbrev CT:=@Nat.not_lt_zero
abbrev CU:=@Nat.min_def
abbrev CV:=@List.length_set
abbrev CW:=@List.attach_map_subtype_val
abbrev CX:=@World.frozen?_of_block
abbrev CY:=@wpList_make_full
abbrev CZ:=@results_none
abbrev C1:=@congrArg
abbrev C4:=@Prod.mk.injEq
abbrev C5:=@List.length_replicate
abbrev C6:=@ByteArray.data_append
abbrev C7:=@size_zeroCells
abbrev C8:=@List.take_take
abbrev C9:=@List.mem_or_eq_of_mem_set
abbrev Ec:=@List.map_nil
abbrev Ee:=@List.map_map
abbrev Eg:=@Prod.mk.inj
abbrev Eh:=@Nat.add_assoc
abbrev Ei:=@List.mem_map_of_mem
abbrev Ej:=@List.getElem?_range
abbrev El:=@List.drop_succ_cons
abbrev Em:=@Array.toList_append
abbrev Eo:=@decide_eq_decide
abbrev Ep:=@List.take_append_of_le_length
abbrev Er:=@List.getElem_map
abbrev Es:=@List.countP_cons
abbrev Et:=@wpList_nil
abbrev Eu:=@bne_iff_ne
abbrev Ev:=@Code.wpIn_mono
abbrev Ew:=@grownCap_le_maxLen
abbrev Ex:=@List.find?_eq_none
abbrev EA:=@UInt8.toNat_inj
abbrev EB:=@Nat.le_succ
abbrev EC:=@List.set_append_right
abbrev ED:=@Bool.or_eq_true
abbrev EE:=@Bool.eq_iff_iff
abbrev EF:=@Option.some.injEq
abbrev EG:=@List.getElem?_set
abbrev EH:=@Array.size_append
abbrev EI:=@toList_madeCells_one
abbrev EJ:=@Nat.mul_le_mul_right
abbrev EK:=@List.nodup_nil
abbrev EM:=@Nat.min_eq_right
abbrev EN:=@Nat.le_add_right
abbrev EO:=@List.mem_nil_iff
abbrev EP:=@run_firstCells_some
abbrev EQ:=@results_tmp
abbrev ER:=@Nat.add_mul
abbrev ES:=@List.take_succ_cons
abbrev ET:=@List.length_pos_iff
abbrev EU:=@List.flatMap_append
abbrev EV:=@List.drop_replicate
abbrev EW:=@List.countP_eq_zero
abbrev EX:=@Sem.run_pure
abbrev EY:=@Nat.add_comm
abbrev EZ:=@if_true
abbrev E0:=@if_false
abbrev E3:=@decide_eq_false_iff_not
abbrev E4:=@Nat.eq_zero_or_pos
abbrev E5:=@List.range_succ
abbrev E6:=@List.append_cancel_left
abbrev E8:=@Option.map_eq_none_iff
abbrev Fa:=@List.flatten_cons
abbrev Fb:=@growslice_fits
abbrev Fc:=@List.take_left
abbrev Fd:=@Nat.le_of_eq
abbrev Fe:=@Array.getElem?_modify
abbrev Ff:=@results_cell_row
abbrev Fh:=@List.take_prefix
abbrev Fi:=@List.countP_eq_length_filter
abbrev Fk:=@run_callFunc_extern
abbrev Fm:=@List.replicate_succ
abbrev Fo:=@List.getElem?_concat_length
abbrev Fp:=@List.find?_some
abbrev Fq:=@List.all_append
abbrev Fs:=@List.perm_ext_iff_of_nodup
abbrev Ft:=@List.nodup_iff_pairwise_ne
abbrev Fu:=@List.isPrefixOf_iff_prefix
abbrev Fv:=@Int.tdiv_eq_ediv_of_nonneg
abbrev Fw:=@wpList_plain
abbrev Fy:=@Nat.pow_succ
abbrev Fz:=@List.append_of_mem
abbrev FA:=@Classical.em
abbrev FB:=@Array.append_assoc
abbrev FC:=@List.drop_left
abbrev FD:=@run_storeCells_at
abbrev FE:=@UInt8.ofNat_toNat
abbrev FF:=@List.nodup_append
abbrev FG:=@List.foldl_append
theorem ex{α:Sort _}(a:α):∃x,x=a:=⟨a,rfl⟩
abbrev Bw(w:World):World->Prop:=Below w.heap.size w
abbrev Cl:=Calls Tryz.prog
theorem Db{p:Prop}(h:p):Hid p:=h
theorem Da{p:Prop}(h:Hid p):p:=h
def Gu(a b:ByteArray):Bool:=Op.bytesLess a.toList b.toList
def K9(a b:ByteArray):Int:=if Gu a b=true then -1 else if a.toList=b.toList then 0 else 1
def Ks(a b:Int):Int:=if a<b then -1 else if a=b then 0 else 1
theorem Oe(s:ByteArray)(w:World):Cl 317 #[.string s] w fun e w'=>e = .returned (.bool false)/\w'=w:=by
 go_enter Tryz.func317,Tryz.ntmps317;go_wp2;go_ret;exact⟨by simp,rfl⟩
theorem Oc(s:Int)(w:World):Cl 290 #[.int .i64 s] w fun e w'=>e = .returned (.bool false)/\w'=w:=by
 go_enter Tryz.func290,Tryz.ntmps290;go_wp2;go_ret;exact⟨by simp,rfl⟩
theorem XL(a b:ByteArray)(w:World):Cl 295 #[.string a,.string b] w fun e w'=>e = .returned (.int .i64 (K9 a b))/\w'=w:=by
 have c:K9 a b=if Gu a b=true then -1 else if a.toList=b.toList then 0 else 1:=rfl
 unfold Gu at c;by_cases f:Op.bytesLess a.toList b.toList=true
 ·rw[if_pos f]at c;have H:=Db c;clear c;go_enter Tryz.func295,Tryz.ntmps295;go_wp2_with (go_at_call 317;refine(Oe _ _).mono ?_;rintro e w' ⟨rfl,rfl⟩);go_ret;exact⟨by rw[Da H];rfl,rfl⟩
 ·rw[if_neg f]at c;have h:Op.bytesLess a.toList b.toList=false:=by simpa using f
  by_cases d:a.toList=b.toList
  ·rw[if_pos d]at c;have H:=Db c;clear c;have g:(a.toList==b.toList)=true:=by simpa using d
   have i:(!Op.bytesLess a.toList b.toList && !(a.toList==b.toList))=false:=by rw[h,g];rfl
   clear f d;go_enter Tryz.func295,Tryz.ntmps295;go_wp2_with (go_at_call 317;refine(Oe _ _).mono ?_;rintro e w' ⟨rfl,rfl⟩);go_ret;exact⟨by rw[Da H];rfl,rfl⟩
  ·rw[if_neg d]at c;have H:=Db c;clear c;have g:(a.toList==b.toList)=false:=by simpa using d
   have i:(!Op.bytesLess a.toList b.toList && !(a.toList==b.toList))=true:=by rw[h,g];rfl
   clear f d;go_enter Tryz.func295,Tryz.ntmps295;go_wp2_with (go_at_call 317;refine(Oe _ _).mono ?_;rintro e w' ⟨rfl,rfl⟩);go_ret;exact⟨by rw[Da H];rfl,rfl⟩
theorem XJ(a b:Int)(w:World):Cl 260 #[.int .i64 a,.int .i64 b] w fun e w'=>e = .returned (.int .i64 (Ks a b))/\w'=w:=by
 have c:Ks a b=if a<b then -1 else if a=b then 0 else 1:=rfl
 have H:=Db c;clear c;by_cases d:a<b
 ·go_enter Tryz.func260,Tryz.ntmps260;go_wp2_with (go_at_call 290;refine(Oc _ _).mono ?_;rintro e w' ⟨rfl,rfl⟩);go_ret;exact⟨by rw[Da H,if_pos d];rfl,rfl⟩
 ·by_cases h2:b<a
  ·go_enter Tryz.func260,Tryz.ntmps260;go_wp2_with (go_at_call 290;refine(Oc _ _).mono ?_;rintro e w' ⟨rfl,rfl⟩);go_ret;exact⟨by rw[Da H,if_neg (by omega),if_neg (by omega)];rfl,rfl⟩
  ·go_enter Tryz.func260,Tryz.ntmps260;go_wp2_with (go_at_call 290;refine(Oc _ _).mono ?_;rintro e w' ⟨rfl,rfl⟩);go_ret;exact⟨by rw[Da H,if_neg (by omega),if_pos (by omega)];rfl,rfl⟩
theorem pE:(∀(a:Act) (d:Tmp) (v:Value),a.put (some d) v={ a with tmps:=a.tmps.setIfInBounds d v })/\(∀(a:Act) (v:Value),a.put none v=a)/\(∀{α : Type} (xs:List α) (i:Nat) (h:i<xs.toArray.size),xs.toArray[i]=xs[i]'(by simpa using h))/\(∀{α : Type} (x : α) (xs:List α) (h:0<(x::xs).length),(x::xs)[0]=x)/\(∀{α : Type} (x : α) (xs:List α) (i:Nat) (h:i+1<(x::xs).length),(x::xs)[i+1]=xs[i]'(by simpa using h))/\(∀{α : Type} (xs:List α) (i:Nat) (x : α),xs.toArray.setIfInBounds i x=(xs.set i x).toArray)/\(∀{α : Type} (x : α) (xs:List α) (y : α),(x::xs).set 0 y=y::xs)/\(∀{α : Type} (x : α) (xs:List α) (i:Nat) (y : α),(x::xs).set (i+1) y=x::xs.set i y):=
 ⟨fun _ _ _=>rfl,fun _ _=>rfl,fun _ _ _=>List.getElem_toArray _,fun _ _ _=>rfl,fun _ _ _ _=>rfl,fun _ _ _=>List.setIfInBounds_toArray ..,fun _ _ _=>rfl,fun _ _ _ _=>rfl⟩
abbrev LY:=List ByteArray
abbrev LV:=List Value
abbrev NV:=Nat -> Value
abbrev OA:=Option Addr
abbrev NB:=Nat -> ByteArray
abbrev IB:=Int -> ByteArray
abbrev LB:=List (Nat×ByteArray)
abbrev LI:=List (Int×Int)
abbrev By:=ByteArray
abbrev Aj:=@Lib.wpList_append_run
abbrev E9:=@Lib.run_overlaps_apart
def FM(L:LV)(o:Nat)(cs:LV):LV:=L.take o++cs++L.drop (o+cs.length)
theorem DP{L:LV}{o:Nat}{a:LV}(h:o+a.length<=L.length):(FM L o a).length=L.length:=by simp[FM];omega
def FH(w:World)(g:Nat)(e:TypeId)(L:LV):Prop:=w.heap[g]?=some (.cells L.toArray e (0,0))
theorem FH.lt{w:World}{g:Nat}{e:TypeId}{L:LV}(h:FH w g e L):g<w.heap.size:=(Ah.1 h).1
theorem FH.cell{w:World}{g:Nat}{e:TypeId}{L:LV}(h:FH w g e L)(j:Nat):w.cell? ⟨g,j,none⟩=L[j]? := by
 rw[cell_of_row w g j _ e (0,0) h];simp
theorem FH.frozen{w:World}{g:Nat}{e:TypeId}{L:LV}(h:FH w g e L)(j:Nat):w.frozen? ⟨g,j,none⟩=false:=frozen_of_row w g j _ e h
theorem FH.kept{w w':World}{g:Nat}{e:TypeId}{L:LV}{row:Option Nat}(h:FH w g e L)(a:w.grownBy w' row)(b:some g≠row):FH w' g e L:=by
 unfold FH;rw[a.block g h.lt b];exact h
theorem QZ(w:World)(row:Option Nat):w.grownBy w row:=⟨rfl,rfl,rfl,Aa _,fun _ _ _=>rfl⟩
theorem JY{a b c:World}{row:Option Nat}(h:a.grownBy b row)(k:b.grownBy c row):a.grownBy c row:=
 ⟨k.os.trans h.os,k.tape.trans h.tape,k.output.trans h.output,Ae h.size k.size,fun i d e=>(k.block i (Ao d h.size) e).trans (h.block i d e)⟩
theorem QY{a b:World}{row:Option Nat}(h:a.grownBy b row):a.grownBy b.drew row:=⟨h.os,h.tape,h.output,h.size,h.block⟩
section
variable{P:Program}
theorem J5(w:World)(l D E h:TypeId)(f g o d r:Nat)(a:Addr)(c q:Nat)(L:LV)(t:TypeId)(b:LV)
  (C:P.underlying l=some (.slice h)) (n:(P.info? h).map (·.size)=some f)
  (m:FH w g t L) (A:b.length=Nat.min c d*f)
  (B:∀j v,b[j]?=some v->w.cell? (a.add j)=some v) (x:o+b.length<=L.length) (s:∀v∈b,v.oneCell'=true):
  ∃w',(Builtin.copy_ #[l,D] E #[.slice (some ⟨g,o,none⟩) d r,.slice (some a) c q]).run P w = .ok (goInt (Nat.min c d)) w'/\FH w' g t (FM L o b)/\w.grownBy w' (some g):=by
 have p:=FD P g o t b 0 L.toArray w m (by simpa using x) s;have u:=EP (P:=P) w f (Nat.min c d) a c q b A B;refine⟨w.setRow g (FM L o b).toArray,?_,Cu w g L.toArray _ t _ m,⟨rfl,rfl,rfl,by simp,fun k _ z=>BZ w g k _ (fun e=>z (by rw[e]))⟩⟩
 cases hq:P.info? h with
 | none=>simp[hq]at n
 | some i=>
  have y:i.size=f:=by simpa [hq] using n
  simp only[Ct]at p;simp[Builtin.copy_,run_underlying C,Builtin.lenOf,sizeOf,typeInfo,hq,y,u,p,FM]
theorem Zix(w:World){o:Oper}{a:Act}{K:Act->World->Prop}{Q:Exit->Act->World->Prop}(d s:Operand)(t b:TypeId)
  (ho:o.op = .call { callee := .builtin .copy,args := #[d,s],argTypes := #[t,b] }) (v u:Value) (e:a.eval d=v) (g:a.eval s=u) {c:Value} {w':World}
  (f:(Builtin.copy_ #[t,b] o.type #[v,u]).run P w = .ok c w') (h:K (a.put o.dst c) w'):o.wp P a w K Q:=by
 unfold Oper.wp execOp;simp only[ho,resolve,invoke,builtin,Cy,EX,Cr,List.map_toArray,BK,Ec,e,g,f];exact h
theorem Qm(w:World){c:Array Oper}{e:List Oper}{o:Oper}{a:Act}{Q:Exit->Act->World->Prop}(j:o.guard=none)(d s:Operand)(t b:TypeId)
  (ho:o.op = .call { callee := .builtin .copy,args := #[d,s],argTypes := #[t,b] }) (v u:Value) (i:a.eval d=v) (l:a.eval s=u) {f:Value} {w':World}
  (k:(Builtin.copy_ #[t,b] o.type #[v,u]).run P w = .ok f w') (h:wpList P c Q e (a.put o.dst f) w'):wpList P c Q (o::e) a w:=
 Fw j fun _ g=>Zix w d s t b ho v u i l k (g _ _ h)
theorem KU{c:Array Oper}{o:Oper}{a:Act}{w:World}{K:Act->World->Prop}{Q:Exit->Act->World->Prop}{E:Prop}
  (i:o.guard=none) (d x:Operand) (b e:TypeId) (j:o.op=Op.call { callee:=Callee.builtin Builtin.copy,args := #[d,x],argTypes := #[b,e] })
  (v u:Value) (h:a.eval d=v) (m:a.eval x=u) {f:Value} {w':World} (k:(Builtin.copy_ #[b,e] o.type #[v,u]).run P w = .ok f w') (g:K (a.put o.dst f) w'):
  if Region.wanted o (yielded c a.tmps)=true then Oper.wp P o a w K Q else E:=by
 have l:Region.wanted o (yielded c a.tmps)=true:=by simp[Region.wanted,i]
 rw[if_pos l];unfold Oper.wp;simp[execOp,j,resolve,invoke,builtin,h,m,k,Result.andThen];exact g
theorem JD{c:Array Oper}{o:Oper}{a:Act}{w:World}{K:Act->World->Prop}{Q:Exit->Act->World->Prop}{E:Prop}
  (i:o.guard=none) (d x:Operand) (b e:TypeId) (j:o.op=Op.call { callee:=Callee.builtin Builtin.append,args := #[d,x],argTypes := #[b,e] })
  (v u:Value) (h:a.eval d=v) (m:a.eval x=u) {f:Value} {w':World} (k:(Builtin.append_ #[b,e] o.type #[v,u]).run P w = .ok f w') (g:K (a.put o.dst f) w'):
  if Region.wanted o (yielded c a.tmps)=true then Oper.wp P o a w K Q else E:=by
 have l:Region.wanted o (yielded c a.tmps)=true:=by simp[Region.wanted,i]
 rw[if_pos l];unfold Oper.wp;simp[execOp,j,resolve,invoke,builtin,h,m,k,Result.andThen];exact g
end
def Sl(w:World)(e:TypeId)(sz:Nat)(v:Value)(n:Nat)(xs:LV):Prop:=
 xs.length=n*sz/\
 ((v = .slice none 0 0/\n=0)\/
  ∃g cap L,v = .slice (some ⟨g,0,none⟩) n cap/\FH w g e L/\n<=cap/\cap<=maxLen/\L.length=cap*sz/\L.take (n*sz)=xs)
theorem Sl.owns{w:World}{e:TypeId}{a:Nat}{v:Value}{n:Nat}{xs:LV}(h:Sl w e a v n xs):w.ownsRow 0 e a v n xs:=by
 refine⟨h.1,?_⟩;rcases h.2 with c|⟨g,b,L,rfl,k,d,f,i,j⟩
 ·exact .inl c
 ·exact .inr ⟨g,b,L.toArray,rfl,Aw _,k,d,f,by simpa using i,by simpa using j⟩
theorem Sl.of_owns{w:World}{e:TypeId}{b:Nat}{v:Value}{n:Nat}{xs:LV}{base:Nat}(h:w.ownsRow base e b v n xs):Sl w e b v n xs:=by
 refine⟨h.1,?_⟩;rcases h.2 with a|⟨g,c,d,rfl,hr,a,f,i,j,k⟩
 ·exact .inl a
 ·exact .inr ⟨g,c,d.toList,rfl,by simpa [FH] using a,f,i,by simpa using j,by simpa using k⟩
def Dh(w:World)(v v':Value):Prop:=∀g,v'.ownBlock=some g->v.ownBlock=some g\/w.heap.size<=g
theorem JZ{P:Program}(w:World)(t r e:TypeId)(i:TypeInfo)(z:Value)(size bytes:Nat)(D:P.underlying t=some (.slice e))(y:P.info? e=some i)(K:i.zero=some z)
  (o:i.size=size) (G:i.bytes=bytes) (M:z.cells.size=size) (V:0<size)
  (v:Value) (n:Nat) (xs:LV) (h:Sl w e size v n xs)
  (a:Addr) (m c:Nat) (b:LV) (f:b.length=m*size) (A:∀j u,b[j]?=some u->w.cell? (a.add j)=some u) (q:∀u∈b,u.oneCell'=true)
  (s:n+m<=maxLen) (H:(n+m)*bytes<=140737488355328):
  ∃p w',(Builtin.append_ #[t,t] r #[v,.slice (some a) m c]).run P w = .ok p w'/\Sl w' e size p (n+m) (xs++b)/\w.grownBy w' v.ownBlock/\Dh w v p:=by
 rcases h.2 with⟨rfl,rfl⟩|⟨g,d,L,rfl,J,F,N,O,Q⟩
 ·obtain⟨p,w',q,E,F,_⟩:=run_append_own (P:=P) w w.heap.size t r e i z size bytes D y K o G M V _ 0 xs ⟨h.1,.inl ⟨rfl,rfl⟩⟩ a m c b f A q s H (Aa _);exact⟨p,w',q,Sl.of_owns E,F,fun g S => .inr (E.lt g S).1⟩
 ·by_cases C:n+m<=d
  ·have x:n*i.size+b.length<=L.toArray.size:=by rw[o,f];simp[O,<-Nat.add_mul];exact EJ _ C
   have B:=run_append_room (P:=P) w t r e i D y g n d L.toArray J a m c b (by rw[o];exact f) A q C x;refine⟨_,_,B,⟨by rw[Ab,h.1,f,ER],.inr ⟨g,d,L.take (n*size)++b++L.drop (n*size+b.length),rfl,?_,C,N,?_,?_⟩⟩,?_,fun k l => .inl l⟩
   ·rw[o];exact Cu w g L.toArray _ e _ J
   ·simp only[Ab,Ar,AK];rw[o]at x;simp at x;omega
   ·rw[Q];have:(n+m)*size=(xs++b).length:=by rw[Ab,h.1,f,ER]
    rw[this];exact Fc
   ·exact⟨rfl,rfl,rfl,by simp,fun k _ l=>BZ w g k _ (fun e=>l (by simp[Value.ownBlock,e]))⟩
  ·have U:∀j u,xs[j]?=some u->w.cell? ((⟨g,0,none⟩:Addr).add j)=some u:=h.owns.cells (g:=g) rfl;subst o;subst G
   have B:=run_append_grow (P:=P) w t r e i z D y K ⟨g,0,none⟩ n d xs h.1 U a m c b f A (by omega) (by simp only[maxLen]at s;omega) (Fb (by omega) H);have T:=grownCap_ge w (n+m) d e;have R:grownCap w (n+m) d e<=maxLen:=Ew w (n+m) d e s;have I:(xs++b).length=(n+m)*i.size:=by rw[Ab,h.1,f,ER]
   refine⟨_,_,B,⟨I,.inr ⟨w.heap.size,_,(xs.toArray++b.toArray++Builtin.zeroCells z.cells (grownCap w (n+m) d e-(n+m))).toList,rfl,by unfold FH;rw[Array.toArray_toList];exact Bs w.drew _,T,R,?_,?_⟩⟩,⟨rfl,rfl,rfl,by simp,fun k l _=>BE w.drew _ k l⟩,fun k l=>?_⟩
   ·simp only[Az,EH,AQ,C7,M,h.1,f,<-ER]
    congr 1
    omega
   ·simp only[Em,AC];rw[<-AC,<-I];exact Fc
   ·simp[Value.ownBlock]at l;omega
abbrev EL:=@Lib.run_append_grow_zeros
theorem We{P:Program}(w:World)(t e n:TypeId)(z:Value)(j:P.underlying t=some (.slice e))(l:∀w,(zeroValue e).run P w = .ok z w)(zs:LV)(m:(Builtin.zeroCells z.cells 1).toList=zs)(f:∀u∈zs,u.oneCell'=true)(g o c:Nat)(L:LV)(a:TypeId)
  (b:FH w g a L) (h:o+zs.length<=L.length):
  ∃w',(Builtin.clear_ #[t] n #[.slice (some ⟨g,o,none⟩) 1 c]).run P w = .ok (.tuple #[]) w'/\FH w' g a (FM L o zs)/\w.grownBy w' (some g):=by
 have d:=FD P g o a zs 0 L.toArray w b (by simpa using h) f;simp only[Ct]at d;refine⟨w.setRow g (FM L o zs).toArray,?_,Cu w g L.toArray _ a _ b,⟨rfl,rfl,rfl,by simp,fun k _ i=>BZ w g k _ (fun e=>i (by rw[e]))⟩⟩;simp[Builtin.clear_,run_underlying j,l,m,d,FM]
theorem Zhj{P:Program}(w:World){o:Oper}{a:Act}{K:Act->World->Prop}{Q:Exit->Act->World->Prop}(d:Operand)(t:TypeId)
  (ho:o.op = .call { callee := .builtin .clear,args := #[d],argTypes := #[t] }) (v:Value) (c:a.eval d=v) {b:Value} {w':World}
  (e:(Builtin.clear_ #[t] o.type #[v]).run P w = .ok b w') (h:K (a.put o.dst b) w'):o.wp P a w K Q:=by
 unfold Oper.wp execOp;simp only[ho,resolve,invoke,builtin,Cy,EX,Cr,List.map_toArray,BK,Ec,c,e];exact h
theorem Nv{P:Program}(w:World){b:Array Oper}{c:List Oper}{o:Oper}{a:Act}{Q:Exit->Act->World->Prop}(i:o.guard=none)(d:Operand)(t:TypeId)
  (ho:o.op = .call { callee := .builtin .clear,args := #[d],argTypes := #[t] }) (v:Value) (g:a.eval d=v) {e:Value} {w':World}
  (j:(Builtin.clear_ #[t] o.type #[v]).run P w = .ok e w') (h:wpList P b Q c (a.put o.dst e) w'):wpList P b Q (o::c) a w:=
 Fw i fun _ f=>Zhj w d t ho v g j (f _ _ h)
theorem OI:(Tryz.prog.info? 310).map (fun i=>(i.zero,i.size,i.bytes))=some (some (.agg #[.string ⟨#[]⟩,.pointer none,.int .i64 0]),3,32):=by kernel_rfl
theorem U4:(Tryz.prog.info? 310).map (fun i=>i.size)=some 3:=by kernel_rfl
theorem Zg(w:World)(v:Value)(n:Nat)(xs:LV)(vb:Nat)(b:LV)(l:Sl w 310 3 v n xs)(hn:n<=10000)
  (r:FH w vb 310 b) (aa:b.length=3) (p:∀u∈b,u.oneCell'=true):
  Cl 265 #[v,.int .i64 n,.slice (some ⟨vb,0,none⟩) 1 1] w fun e w'=>∃c,e = .returned c/\Sl w' 310 3 c (n+1) (xs++b)/\w.grownBy w' v.ownBlock/\Dh w v c:=by
 obtain⟨A,q,x,y,z⟩:=Bn OI;have o:=fun B=>JZ (P:=Tryz.prog) w 225 B 310 A _ 3 32 Tryz.underlying225 q x y z rfl (by decide) v n xs l ⟨vb,0,none⟩ 1 1 b (by omega)
  (fun j u s=>by rw[AF,Au,r.cell];exact s) p (by unfold maxLen;omega) (by omega)
 obtain⟨c,w',m,d,i,k⟩:=o 225;have t:(v = .slice none 0 0/\n=0)\/∃g a,v = .slice (some ⟨g,0,none⟩) n a/\n<=a:=by
  rcases l.2 with h|⟨g,a,L,h,_,f,_⟩
  ·exact .inl h
  ·exact .inr ⟨g,a,h,f⟩
 clear o;rcases t with⟨rfl,rfl⟩|⟨g,a,rfl,f⟩
 ·go_enter Tryz.func265,Tryz.ntmps265;go_wp2_with (at_builtin;refine Aj _ rfl _ _ 225 225 rfl _ _ rfl rfl _ _ m ?_);go_ret;exact⟨_,rfl,d,i,k⟩
 ·go_enter Tryz.func265,Tryz.ntmps265;go_wp2_with (at_builtin;refine Aj _ rfl _ _ 225 225 rfl _ _ rfl rfl _ _ m ?_)
  all_goals (go_ret;exact⟨_,rfl,d,i,k⟩)
theorem Zj(w:World)(g n a:Nat)(xs L:LV)(i vb:Nat)(c:LV)(f:FH w g 310 L)(v:L.length=a*3)(o:L.take (n*3)=xs)(hi:i<n)(ae:n+1<=a)(z:a<=maxLen)(hn:n<=10000)
  (d:FH w vb 310 c) (k:c.length=3) (t:∀u∈xs,u.oneCell'=true) (s:∀u∈c,u.oneCell'=true) (B:vb≠g):
  Cl 265 #[.slice (some ⟨g,0,none⟩) n a,.int .i64 i,.slice (some ⟨vb,0,none⟩) 1 1] w fun e w'=>e = .returned (.slice (some ⟨g,0,none⟩) (n+1) a)/\FH w' g 310 (FM (FM L ((i+1)*3) (xs.drop (i*3))) (i*3) c)/\w.grownBy w' (some g):=by
 have D:xs.length=n*3:=by rw[<-o,Ar];omega
 have h:(xs.drop (i*3)).length=(n-i)*3:=by rw[AK,D];omega
 obtain⟨p,G,x,m⟩:=J5 (P:=Tryz.prog) w.drew 225 225 3 310 3 g ((i+1)*3) (n-i) (a-(i+1)) ⟨g,i*3,none⟩ (n+1-i) (a-i) L 310 (xs.drop (i*3)) Tryz.underlying225 U4 f
  (by rw[h];simp only[CU];split<;>omega)
  (fun j u b=>by
   rw[AF,show(w.drew.cell? ⟨g,i*3+j,none⟩)=L[i*3+j]? from f.cell _];rw[A3,<-o,Ap]at b
   split at b
   ·exact b
   ·cases b) (by rw[h];omega) (fun u b=>t u (BH b))
 have C:FH p vb 310 c:=(show FH w.drew vb 310 c from d).kept m (by simpa using B);obtain⟨q,H,y,A⟩:=J5 (P:=Tryz.prog) p 225 225 3 310 3 g (i*3) (n+1-i) (a-i) ⟨vb,0,none⟩ 1 1 _ 310 c Tryz.underlying225 U4 x
  (by rw[k];simp only[CU];split<;>omega)
  (fun j u b=>by rw[AF,Au,C.cell];exact b) (by rw[DP (by rw[h];omega),k];omega) s
 have F:∀lb l,(callFunc 296 #[.slice (some ⟨vb,0,none⟩) 1 1,.slice (some ⟨g,(i+1)*3,none⟩) lb l]).run Tryz.prog w = .ok (.value (.bool false)) w:=fun lb l=>by
  rw[Fk Tryz.func296 (by kernel_rfl) (by kernel_rfl) (by kernel_rfl) (e:=Extern.SlicesOverlaps.overlaps #[225,225] #[4]) (by kernel_rfl),
   E9 w 225 4 310 Tryz.underlying225 3 (fun _=>by kernel_rfl) ⟨vb,0,none⟩ ⟨g,(i+1)*3,none⟩ 1 1 lb l B 310 310 3 (a*3) (by unfold World.shape?;rw[d];simp[k]) (by unfold World.shape?;rw[f];simp[v]) (by omega) (d.frozen 0) (d.frozen 3)]
  rfl
 have af:a<=9223372036854775807:=by unfold maxLen at z;omega
 have r:FH q g 310 (FM (FM L ((i+1)*3) (xs.drop (i*3))) (i*3) c)/\w.grownBy q (some g):=⟨y,JY (show w.grownBy w.drew (some g) from QY (QZ _ _)) (JY m A)⟩;have E:=Db r;clear r x y m A C t s z o h D v k d f;have ai:IntKind.i64.wrap ((i:Int)+1)=(i:Int)+1:=by rw[BD];omega
 have aa:(0:Int)<=(i:Int)+1:=by omega
 have ag:i<=n:=by omega
 have ah:((i:Int)+1).toNat=i+1:=by omega
 have ab:¬(a=i+1):=by omega
 have ac:(i:Int)<=(n:Int)+1:=by omega
 have ad:¬(a=i):=by omega
 go_enter Tryz.func265,Tryz.ntmps265;go_wp2_with (simp only[F])
 go_region_law (refine KU rfl _ _ 225 225 rfl _ _ (by simp[Act.eval,Act.put]) (by simp[Act.eval,Act.put]) G ?_)
 go_wp2_with (at_builtin;refine Qm _ rfl _ _ 225 225 rfl _ _ rfl rfl H ?_);go_ret;exact⟨rfl,Da E⟩
theorem Zky(w:World)(g n b:Nat)(xs L:LV)(i vb:Nat)(c:LV)(d:FH w g 310 L)(ae:L.length=b*3)(s:L.take (n*3)=xs)(hi:i<n)(ap:n<=b)(am:b<n+1)(hn:n<=10000)
  (C:FH w vb 310 c) (r:c.length=3) (J:∀u∈xs,u.oneCell'=true) (I:∀u∈c,u.oneCell'=true):
  Cl 265 #[.slice (some ⟨g,0,none⟩) n b,.int .i64 i,.slice (some ⟨vb,0,none⟩) 1 1] w fun e w'=>∃G Z,e = .returned (.slice (some ⟨w.heap.size,0,none⟩) (n+1) G)/\n+1<=G/\G<=maxLen/\(xs.take (i*3)++Z).length=G*3/\
   FH w' w.heap.size 310 (FM (FM (xs.take (i*3)++Z) (i*3) c) ((i+1)*3) (xs.drop (i*3)))/\w.grownBy w' (some w.heap.size):=by
 have X:xs.length=n*3:=by rw[<-s,Ar];omega
 have z:(xs.drop (i*3)).length=(n-i)*3:=by rw[AK,X];omega
 obtain⟨i0,R,Y,aa,D⟩:=Bn OI;have W:∀j u,xs[j]?=some u->w.cell? ⟨g,j,none⟩=some u:=fun j u a=>by
  rw[d.cell];rw[<-s,Ap]at a
  split at a
  ·exact a
  ·cases a
 have U:(Builtin.firstCells i0.size i (.slice (some ⟨g,0,none⟩) i b)).run Tryz.prog w.drew = .ok (xs.take (i*3)).toArray w.drew:=by
  rw[aa];exact EP w.drew 3 i ⟨g,0,none⟩ i b (xs.take (i*3)) (by rw[Ar];omega) (fun j v q=>by
   rw[AF,Au];rw[Ap]at q
   split at q
   ·exact W j v q
   ·cases q)
 have B:i+(n+1-i)=n+1:=by omega
 have S:(n:Int)+1-(i:Int)=((n+1-i:Nat):Int):=by omega
 obtain⟨G,p⟩:=ex (grownCap w (n+1) b 310);obtain⟨Z,y⟩:∃Z:Array Value,Z=Builtin.zeroCells (Value.agg #[.string ⟨#[]⟩,.pointer none,.int .i64 0]).cells (n+1-i)++Builtin.zeroCells (Value.agg #[.string ⟨#[]⟩,.pointer none,.int .i64 0]).cells (G-(n+1)):=⟨_,rfl⟩;have V:∀E,(Builtin.append_ #[225,3] E #[.slice (some ⟨g,0,none⟩) i b,.int .i64 ((n:Int)+1-(i:Int))]).run Tryz.prog w =
   .ok (.slice (some ⟨w.heap.size,0,none⟩) (n+1) G) (w.drew.alloc (.cells (xs.take (i*3)++Z.toList).toArray 310)):=fun E=>by
  have h:=EL w 225 3 E 310 i0 _ .i64 .i64 Tryz.underlying225 Tryz.underlying3 R Y (some ⟨g,0,none⟩) i b (xs.take (i*3)) U (n+1-i) (by omega) (by omega) (by omega) (by omega) (by rw[D];omega) (by rw[D,B];exact Fb (by omega) (by omega));rw[B,<-p]at h;rw[S,h,y]
  congr 2
  simp[Array.append_assoc]
 have ad:n+1<=G:=by rw[p];exact grownCap_ge w _ _ _
 have t:G<=maxLen:=by rw[p];exact Ew w _ _ _ (by unfold maxLen;omega)
 have f:(xs.take (i*3)++Z.toList).length=G*3:=by
  have e1:Z.size=(n+1-i)*3+(G-(n+1))*3:=by rw[y,EH,C7,C7];rfl
  have e2:Z.toList.length=Z.size:=Az;rw[Ab,Ar,e2,e1];omega
 have x:FH (w.drew.alloc (.cells (xs.take (i*3)++Z.toList).toArray 310)) w.heap.size 310 (xs.take (i*3)++Z.toList):=Bs w.drew _;have l:w.grownBy (w.drew.alloc (.cells (xs.take (i*3)++Z.toList).toArray 310)) (some w.heap.size):=⟨rfl,rfl,rfl,by simp,fun k hk _=>BE w.drew _ k hk⟩;obtain⟨m,O⟩:=ex (w.drew.alloc (.cells (xs.take (i*3)++Z.toList).toArray 310));rw[<-O]at V x l;have T:FH m vb 310 c:=C.kept l (by have:=C.lt;simp;omega);obtain⟨o,af,M,A⟩:=J5 (P:=Tryz.prog) m 225 225 3 310 3 w.heap.size (i*3) (n+1-i) (G-i) ⟨vb,0,none⟩ 1 1 _ 310 c Tryz.underlying225 U4 x
  (by rw[r];simp only[CU];split<;>omega)
  (fun j u a=>by rw[AF,Au,T.cell];exact a) (by rw[f,r];omega) I
 have K:FH o g 310 L:=(d.kept l (by have:=d.lt;simp;omega)).kept A (by have:=d.lt;simp;omega);obtain⟨F,ag,N,Q⟩:=J5 (P:=Tryz.prog) o.drew 225 225 3 310 3 w.heap.size ((i+1)*3) (n-i) (G-(i+1)) ⟨g,i*3,none⟩ (n-i) (b-i) _ 310 (xs.drop (i*3)) Tryz.underlying225 U4 M
  (by rw[z];simp only[CU];split<;>omega)
  (fun j u a=>by
   rw[AF,show(o.drew.cell? ⟨g,i*3+j,none⟩)=L[i*3+j]? from K.cell _];rw[A3,<-s,Ap]at a
   split at a
   ·exact a
   ·cases a) (by rw[DP (by rw[f,r];omega),f,z];omega) (fun u a=>J u (BH a))
 have H:(xs.take (i*3)++Z.toList).length=G*3/\FH F w.heap.size 310 (FM (FM (xs.take (i*3)++Z.toList) (i*3) c) ((i+1)*3) (xs.drop (i*3)))/\w.grownBy F (some w.heap.size):=
  ⟨f,N,JY l (JY A (JY (QY (QZ o _)) Q))⟩
 have ab:=Db H;have aj:G<=9223372036854775807:=by unfold maxLen at t;omega
 have ah:¬(G=i):=by omega
 have ai:¬(G=i+1):=by omega
 have an:¬(b=i):=by omega
 have ar:IntKind.i64.wrap ((i:Int)+1)=(i:Int)+1:=by rw[BD];omega
 have ak:(0:Int)<=(i:Int)+1:=by omega
 have ao:i<=n:=by omega
 have aq:((i:Int)+1).toNat=i+1:=by omega
 have al:(i:Int)<=(n:Int):=by omega
 clear H f x M N l A Q T K J I s z X ae r C d W U O p y B S R Y aa D;have ac:=Db t;clear t;go_enter Tryz.func265,Tryz.ntmps265;go_wp2_with (first
  | (at_builtin;refine Aj _ rfl _ _ _ _ rfl _ _ rfl rfl _ _ (V _) ?_)
  | (at_builtin;refine Qm _ rfl _ _ 225 225 rfl _ _ rfl rfl af ?_))
 go_region_law (refine KU rfl _ _ 225 225 rfl _ _ (by simp[Act.eval,Act.put]) (by simp[Act.eval,Act.put]) ag ?_)
 go_wp2;go_ret;exact⟨G,Z.toList,rfl,ad,Da ac,Da ab⟩
theorem Lz(w:World)(g n b:Nat)(xs L:LV)(i:Nat)(m:FH w g 310 L)(t:L.length=b*3)(v:L.take (n*3)=xs)(hi:i<n)(ai:n<=b)(D:b<=maxLen)(hn:n<=10000)
  (A:∀u∈xs,u.oneCell'=true):
  Cl 268 #[.slice (some ⟨g,0,none⟩) n b,.int .i64 i,.int .i64 ((i:Int)+1)] w fun e w'=>e = .returned (.slice (some ⟨g,0,none⟩) (n-1) b)/\
   FH w' g 310 (FM (FM L (i*3) (xs.drop ((i+1)*3))) ((n-1)*3) [.string ⟨#[]⟩,.pointer none,.int .i64 0])/\w.grownBy w' (some g):=by
 have I:xs.length=n*3:=by rw[<-v,Ar];omega
 have l:(xs.drop ((i+1)*3)).length=(n-(i+1))*3:=by rw[AK,I];omega
 obtain⟨Q,G,N,r,O⟩:=Bn OI;have H:FM L (i*3) (xs.drop ((i+1)*3))=L.toArray.toList.take (i*3)++xs.drop ((i+1)*3)++L.toArray.toList.drop (i*3+(xs.drop ((i+1)*3)).length):=rfl;obtain⟨f,o⟩:=ex (w.drew.setRow g (FM L (i*3) (xs.drop ((i+1)*3))).toArray);have p:∀(a:Addr) (c:Nat),(n-(i+1)≠0->a=⟨g,(i+1)*3,none⟩)->(Builtin.append_ #[225,225] 225 #[.slice (some ⟨g,0,none⟩) i b,.slice (some a) (n-(i+1)) c]).run Tryz.prog w.drew = .ok (.slice (some ⟨g,0,none⟩) (n-1) b) f:=fun a c J=>by
  have h:=run_append_room (P:=Tryz.prog) w.drew 225 225 310 Q Tryz.underlying225 G g i b L.toArray m a (n-(i+1)) c (xs.drop ((i+1)*3)) (by rw[r];exact l)
   (fun j u d=>by
    by_cases z:n-(i+1)=0
    ·have:xs.drop ((i+1)*3)=[]:=Ak (by rw[l,z]);rw[this]at d;cases d
    ·rw[J z,AF,show(w.drew.cell? ⟨g,(i+1)*3+j,none⟩)=L[(i+1)*3+j]? from m.cell _];rw[A3,<-v,Ap]at d
     split at d
     ·exact d
     ·cases d) (fun u d=>A u (BH d)) (by omega) (by rw[r,l];simp[t];omega)
  rw[h,o,H,r,show i+(n-(i+1))=n-1 by omega]
 have B:FH f g 310 (FM L (i*3) (xs.drop ((i+1)*3))):=by rw[o];exact Cu w.drew g L.toArray _ 310 _ m
 have E:w.grownBy f (some g):=by rw[o];exact⟨rfl,rfl,rfl,by simp,fun k _ M=>BZ w.drew g k _ (fun e=>M (by rw[e]))⟩
 obtain⟨x,q,C,F⟩:=We (P:=Tryz.prog) f 225 310 0 (.agg #[.string ⟨#[]⟩,.pointer none,.int .i64 0]) Tryz.underlying225 (fun _=>by kernel_rfl) [.string ⟨#[]⟩,.pointer none,.int .i64 0] (by kernel_rfl) (by simp[Value.oneCell']) g ((n-1)*3) (b-(n-1)) _ 310 B (by rw[DP (by rw[l];omega),t];simp;omega);have y:FH x g 310 (FM (FM L (i*3) (xs.drop ((i+1)*3))) ((n-1)*3) [.string ⟨#[]⟩,.pointer none,.int .i64 0])/\w.grownBy x (some g):=⟨C,JY E F⟩;have s:=Db y;have ag:b<=9223372036854775807:=by unfold maxLen at D;omega
 have aa:(0:Int)<=(i:Int)+1:=by omega
 have ak:((i:Int)+1).toNat=i+1:=by omega
 have ab:(i:Int)<=(n:Int):=by omega
 have ac:(i:Int)+1<=(n:Int):=by omega
 have ad:(i:Int)<=(i:Int)+1:=by omega
 have ae:(i:Int)<=(b:Int):=by omega
 have af:¬(b=n-1):=by omega
 have ah:n-(n-1)=1:=by omega
 have aj:((i:Int)==(i:Int)+1)=false:=by rw[AH];omega
 clear y B C E F o H m v l I t A G N r O D;go_enter Tryz.func268,Tryz.ntmps268;by_cases K:b=i+1
 ·subst K;obtain rfl:n=i+1:=by omega
  rw[CO]at p;rw[Nat.add_sub_cancel]at p s q;rw[Cf]at q;go_wp2
  go_region_law (refine JD rfl _ _ 225 225 rfl _ _ (by simp[Act.eval,Act.put]) (by simp[Act.eval,Act.put]) (p ⟨g,0,none⟩ 0 (fun h=>absurd h (by omega))) ?_)
  go_wp2_with (at_builtin;refine Nv _ rfl _ 225 rfl _ rfl q ?_);go_ret;exact⟨rfl,Da s⟩
 ·go_wp2
  go_region_law (refine JD rfl _ _ 225 225 rfl _ _ (by simp[Act.eval,Act.put]) (by simp[Act.eval,Act.put]) (p ⟨g,(i+1)*3,none⟩ (b-(i+1)) (fun _=>rfl)) ?_)
  go_wp2_with (at_builtin;refine Nv _ rfl _ 225 rfl _ rfl q ?_);go_ret;exact⟨rfl,Da s⟩
theorem OH:(Tryz.prog.info? 293).map (fun i=>(i.zero,i.size,i.bytes))=some (some (.agg #[.int .i64 0,.slice none 0 0,.int .i64 0]),3,40):=by kernel_rfl
theorem U3:(Tryz.prog.info? 293).map (fun i=>i.size)=some 3:=by kernel_rfl
theorem Zf(w:World)(v:Value)(n:Nat)(xs:LV)(vb:Nat)(b:LV)(l:Sl w 293 3 v n xs)(hn:n<=10000)
  (r:FH w vb 293 b) (aa:b.length=3) (p:∀u∈b,u.oneCell'=true):
  Cl 267 #[v,.int .i64 n,.slice (some ⟨vb,0,none⟩) 1 1] w fun e w'=>∃c,e = .returned c/\Sl w' 293 3 c (n+1) (xs++b)/\w.grownBy w' v.ownBlock/\Dh w v c:=by
 obtain⟨A,q,x,y,z⟩:=Bn OH;have o:=fun B=>JZ (P:=Tryz.prog) w 210 B 293 A _ 3 40 Tryz.underlying210 q x y z rfl (by decide) v n xs l ⟨vb,0,none⟩ 1 1 b (by omega)
  (fun j u s=>by rw[AF,Au,r.cell];exact s) p (by unfold maxLen;omega) (by omega)
 obtain⟨c,w',m,d,i,k⟩:=o 210;have t:(v = .slice none 0 0/\n=0)\/∃g a,v = .slice (some ⟨g,0,none⟩) n a/\n<=a:=by
  rcases l.2 with h|⟨g,a,L,h,_,f,_⟩
  ·exact .inl h
  ·exact .inr ⟨g,a,h,f⟩
 clear o;rcases t with⟨rfl,rfl⟩|⟨g,a,rfl,f⟩
 ·go_enter Tryz.func267,Tryz.ntmps267;go_wp2_with (at_builtin;refine Aj _ rfl _ _ 210 210 rfl _ _ rfl rfl _ _ m ?_);go_ret;exact⟨_,rfl,d,i,k⟩
 ·go_enter Tryz.func267,Tryz.ntmps267;go_wp2_with (at_builtin;refine Aj _ rfl _ _ 210 210 rfl _ _ rfl rfl _ _ m ?_)
  all_goals (go_ret;exact⟨_,rfl,d,i,k⟩)
theorem Zi(w:World)(g n a:Nat)(xs L:LV)(i vb:Nat)(c:LV)(f:FH w g 293 L)(v:L.length=a*3)(o:L.take (n*3)=xs)(hi:i<n)(ae:n+1<=a)(z:a<=maxLen)(hn:n<=10000)
  (d:FH w vb 293 c) (k:c.length=3) (t:∀u∈xs,u.oneCell'=true) (s:∀u∈c,u.oneCell'=true) (B:vb≠g):
  Cl 267 #[.slice (some ⟨g,0,none⟩) n a,.int .i64 i,.slice (some ⟨vb,0,none⟩) 1 1] w fun e w'=>e = .returned (.slice (some ⟨g,0,none⟩) (n+1) a)/\FH w' g 293 (FM (FM L ((i+1)*3) (xs.drop (i*3))) (i*3) c)/\w.grownBy w' (some g):=by
 have D:xs.length=n*3:=by rw[<-o,Ar];omega
 have h:(xs.drop (i*3)).length=(n-i)*3:=by rw[AK,D];omega
 obtain⟨p,G,x,m⟩:=J5 (P:=Tryz.prog) w.drew 210 210 3 293 3 g ((i+1)*3) (n-i) (a-(i+1)) ⟨g,i*3,none⟩ (n+1-i) (a-i) L 293 (xs.drop (i*3)) Tryz.underlying210 U3 f
  (by rw[h];simp only[CU];split<;>omega)
  (fun j u b=>by
   rw[AF,show(w.drew.cell? ⟨g,i*3+j,none⟩)=L[i*3+j]? from f.cell _];rw[A3,<-o,Ap]at b
   split at b
   ·exact b
   ·cases b) (by rw[h];omega) (fun u b=>t u (BH b))
 have C:FH p vb 293 c:=(show FH w.drew vb 293 c from d).kept m (by simpa using B);obtain⟨q,H,y,A⟩:=J5 (P:=Tryz.prog) p 210 210 3 293 3 g (i*3) (n+1-i) (a-i) ⟨vb,0,none⟩ 1 1 _ 293 c Tryz.underlying210 U3 x
  (by rw[k];simp only[CU];split<;>omega)
  (fun j u b=>by rw[AF,Au,C.cell];exact b) (by rw[DP (by rw[h];omega),k];omega) s
 have F:∀lb l,(callFunc 298 #[.slice (some ⟨vb,0,none⟩) 1 1,.slice (some ⟨g,(i+1)*3,none⟩) lb l]).run Tryz.prog w = .ok (.value (.bool false)) w:=fun lb l=>by
  rw[Fk Tryz.func298 (by kernel_rfl) (by kernel_rfl) (by kernel_rfl) (e:=Extern.SlicesOverlaps.overlaps #[210,210] #[4]) (by kernel_rfl),
   E9 w 210 4 293 Tryz.underlying210 3 (fun _=>by kernel_rfl) ⟨vb,0,none⟩ ⟨g,(i+1)*3,none⟩ 1 1 lb l B 293 293 3 (a*3) (by unfold World.shape?;rw[d];simp[k]) (by unfold World.shape?;rw[f];simp[v]) (by omega) (d.frozen 0) (d.frozen 3)]
  rfl
 have af:a<=9223372036854775807:=by unfold maxLen at z;omega
 have r:FH q g 293 (FM (FM L ((i+1)*3) (xs.drop (i*3))) (i*3) c)/\w.grownBy q (some g):=⟨y,JY (show w.grownBy w.drew (some g) from QY (QZ _ _)) (JY m A)⟩;have E:=Db r;clear r x y m A C t s z o h D v k d f;have ai:IntKind.i64.wrap ((i:Int)+1)=(i:Int)+1:=by rw[BD];omega
 have aa:(0:Int)<=(i:Int)+1:=by omega
 have ag:i<=n:=by omega
 have ah:((i:Int)+1).toNat=i+1:=by omega
 have ab:¬(a=i+1):=by omega
 have ac:(i:Int)<=(n:Int)+1:=by omega
 have ad:¬(a=i):=by omega
 go_enter Tryz.func267,Tryz.ntmps267;go_wp2_with (simp only[F])
 go_region_law (refine KU rfl _ _ 210 210 rfl _ _ (by simp[Act.eval,Act.put]) (by simp[Act.eval,Act.put]) G ?_)
 go_wp2_with (at_builtin;refine Qm _ rfl _ _ 210 210 rfl _ _ rfl rfl H ?_);go_ret;exact⟨rfl,Da E⟩
theorem Zkz(w:World)(g n b:Nat)(xs L:LV)(i vb:Nat)(c:LV)(d:FH w g 293 L)(ae:L.length=b*3)(s:L.take (n*3)=xs)(hi:i<n)(ap:n<=b)(am:b<n+1)(hn:n<=10000)
  (C:FH w vb 293 c) (r:c.length=3) (J:∀u∈xs,u.oneCell'=true) (I:∀u∈c,u.oneCell'=true):
  Cl 267 #[.slice (some ⟨g,0,none⟩) n b,.int .i64 i,.slice (some ⟨vb,0,none⟩) 1 1] w fun e w'=>∃G Z,e = .returned (.slice (some ⟨w.heap.size,0,none⟩) (n+1) G)/\n+1<=G/\G<=maxLen/\(xs.take (i*3)++Z).length=G*3/\
   FH w' w.heap.size 293 (FM (FM (xs.take (i*3)++Z) (i*3) c) ((i+1)*3) (xs.drop (i*3)))/\w.grownBy w' (some w.heap.size):=by
 have X:xs.length=n*3:=by rw[<-s,Ar];omega
 have z:(xs.drop (i*3)).length=(n-i)*3:=by rw[AK,X];omega
 obtain⟨i0,R,Y,aa,D⟩:=Bn OH;have W:∀j u,xs[j]?=some u->w.cell? ⟨g,j,none⟩=some u:=fun j u a=>by
  rw[d.cell];rw[<-s,Ap]at a
  split at a
  ·exact a
  ·cases a
 have U:(Builtin.firstCells i0.size i (.slice (some ⟨g,0,none⟩) i b)).run Tryz.prog w.drew = .ok (xs.take (i*3)).toArray w.drew:=by
  rw[aa];exact EP w.drew 3 i ⟨g,0,none⟩ i b (xs.take (i*3)) (by rw[Ar];omega) (fun j v q=>by
   rw[AF,Au];rw[Ap]at q
   split at q
   ·exact W j v q
   ·cases q)
 have B:i+(n+1-i)=n+1:=by omega
 have S:(n:Int)+1-(i:Int)=((n+1-i:Nat):Int):=by omega
 obtain⟨G,p⟩:=ex (grownCap w (n+1) b 293);obtain⟨Z,y⟩:∃Z:Array Value,Z=Builtin.zeroCells (Value.agg #[.int .i64 0,.slice none 0 0,.int .i64 0]).cells (n+1-i)++Builtin.zeroCells (Value.agg #[.int .i64 0,.slice none 0 0,.int .i64 0]).cells (G-(n+1)):=⟨_,rfl⟩;have V:∀E,(Builtin.append_ #[210,3] E #[.slice (some ⟨g,0,none⟩) i b,.int .i64 ((n:Int)+1-(i:Int))]).run Tryz.prog w =
   .ok (.slice (some ⟨w.heap.size,0,none⟩) (n+1) G) (w.drew.alloc (.cells (xs.take (i*3)++Z.toList).toArray 293)):=fun E=>by
  have h:=EL w 210 3 E 293 i0 _ .i64 .i64 Tryz.underlying210 Tryz.underlying3 R Y (some ⟨g,0,none⟩) i b (xs.take (i*3)) U (n+1-i) (by omega) (by omega) (by omega) (by omega) (by rw[D];omega) (by rw[D,B];exact Fb (by omega) (by omega));rw[B,<-p]at h;rw[S,h,y]
  congr 2
  simp[Array.append_assoc]
 have ad:n+1<=G:=by rw[p];exact grownCap_ge w _ _ _
 have t:G<=maxLen:=by rw[p];exact Ew w _ _ _ (by unfold maxLen;omega)
 have f:(xs.take (i*3)++Z.toList).length=G*3:=by
  have e1:Z.size=(n+1-i)*3+(G-(n+1))*3:=by rw[y,EH,C7,C7];rfl
  have e2:Z.toList.length=Z.size:=Az;rw[Ab,Ar,e2,e1];omega
 have x:FH (w.drew.alloc (.cells (xs.take (i*3)++Z.toList).toArray 293)) w.heap.size 293 (xs.take (i*3)++Z.toList):=Bs w.drew _;have l:w.grownBy (w.drew.alloc (.cells (xs.take (i*3)++Z.toList).toArray 293)) (some w.heap.size):=⟨rfl,rfl,rfl,by simp,fun k hk _=>BE w.drew _ k hk⟩;obtain⟨m,O⟩:=ex (w.drew.alloc (.cells (xs.take (i*3)++Z.toList).toArray 293));rw[<-O]at V x l;have T:FH m vb 293 c:=C.kept l (by have:=C.lt;simp;omega);obtain⟨o,af,M,A⟩:=J5 (P:=Tryz.prog) m 210 210 3 293 3 w.heap.size (i*3) (n+1-i) (G-i) ⟨vb,0,none⟩ 1 1 _ 293 c Tryz.underlying210 U3 x
  (by rw[r];simp only[CU];split<;>omega)
  (fun j u a=>by rw[AF,Au,T.cell];exact a) (by rw[f,r];omega) I
 have K:FH o g 293 L:=(d.kept l (by have:=d.lt;simp;omega)).kept A (by have:=d.lt;simp;omega);obtain⟨F,ag,N,Q⟩:=J5 (P:=Tryz.prog) o.drew 210 210 3 293 3 w.heap.size ((i+1)*3) (n-i) (G-(i+1)) ⟨g,i*3,none⟩ (n-i) (b-i) _ 293 (xs.drop (i*3)) Tryz.underlying210 U3 M
  (by rw[z];simp only[CU];split<;>omega)
  (fun j u a=>by
   rw[AF,show(o.drew.cell? ⟨g,i*3+j,none⟩)=L[i*3+j]? from K.cell _];rw[A3,<-s,Ap]at a
   split at a
   ·exact a
   ·cases a) (by rw[DP (by rw[f,r];omega),f,z];omega) (fun u a=>J u (BH a))
 have H:(xs.take (i*3)++Z.toList).length=G*3/\FH F w.heap.size 293 (FM (FM (xs.take (i*3)++Z.toList) (i*3) c) ((i+1)*3) (xs.drop (i*3)))/\w.grownBy F (some w.heap.size):=
  ⟨f,N,JY l (JY A (JY (QY (QZ o _)) Q))⟩
 have ab:=Db H;have aj:G<=9223372036854775807:=by unfold maxLen at t;omega
 have ah:¬(G=i):=by omega
 have ai:¬(G=i+1):=by omega
 have an:¬(b=i):=by omega
 have ar:IntKind.i64.wrap ((i:Int)+1)=(i:Int)+1:=by rw[BD];omega
 have ak:(0:Int)<=(i:Int)+1:=by omega
 have ao:i<=n:=by omega
 have aq:((i:Int)+1).toNat=i+1:=by omega
 have al:(i:Int)<=(n:Int):=by omega
 clear H f x M N l A Q T K J I s z X ae r C d W U O p y B S R Y aa D;have ac:=Db t;clear t;go_enter Tryz.func267,Tryz.ntmps267;go_wp2_with (first
  | (at_builtin;refine Aj _ rfl _ _ _ _ rfl _ _ rfl rfl _ _ (V _) ?_)
  | (at_builtin;refine Qm _ rfl _ _ 210 210 rfl _ _ rfl rfl af ?_))
 go_region_law (refine KU rfl _ _ 210 210 rfl _ _ (by simp[Act.eval,Act.put]) (by simp[Act.eval,Act.put]) ag ?_)
 go_wp2;go_ret;exact⟨G,Z.toList,rfl,ad,Da ac,Da ab⟩
theorem LA(w:World)(g n b:Nat)(xs L:LV)(i:Nat)(m:FH w g 293 L)(t:L.length=b*3)(v:L.take (n*3)=xs)(hi:i<n)(ai:n<=b)(D:b<=maxLen)(hn:n<=10000)
  (A:∀u∈xs,u.oneCell'=true):
  Cl 269 #[.slice (some ⟨g,0,none⟩) n b,.int .i64 i,.int .i64 ((i:Int)+1)] w fun e w'=>e = .returned (.slice (some ⟨g,0,none⟩) (n-1) b)/\
   FH w' g 293 (FM (FM L (i*3) (xs.drop ((i+1)*3))) ((n-1)*3) [.int .i64 0,.slice none 0 0,.int .i64 0])/\w.grownBy w' (some g):=by
 have I:xs.length=n*3:=by rw[<-v,Ar];omega
 have l:(xs.drop ((i+1)*3)).length=(n-(i+1))*3:=by rw[AK,I];omega
 obtain⟨Q,G,N,r,O⟩:=Bn OH;have H:FM L (i*3) (xs.drop ((i+1)*3))=L.toArray.toList.take (i*3)++xs.drop ((i+1)*3)++L.toArray.toList.drop (i*3+(xs.drop ((i+1)*3)).length):=rfl;obtain⟨f,o⟩:=ex (w.drew.setRow g (FM L (i*3) (xs.drop ((i+1)*3))).toArray);have p:∀(a:Addr) (c:Nat),(n-(i+1)≠0->a=⟨g,(i+1)*3,none⟩)->(Builtin.append_ #[210,210] 210 #[.slice (some ⟨g,0,none⟩) i b,.slice (some a) (n-(i+1)) c]).run Tryz.prog w.drew = .ok (.slice (some ⟨g,0,none⟩) (n-1) b) f:=fun a c J=>by
  have h:=run_append_room (P:=Tryz.prog) w.drew 210 210 293 Q Tryz.underlying210 G g i b L.toArray m a (n-(i+1)) c (xs.drop ((i+1)*3)) (by rw[r];exact l)
   (fun j u d=>by
    by_cases z:n-(i+1)=0
    ·have:xs.drop ((i+1)*3)=[]:=Ak (by rw[l,z]);rw[this]at d;cases d
    ·rw[J z,AF,show(w.drew.cell? ⟨g,(i+1)*3+j,none⟩)=L[(i+1)*3+j]? from m.cell _];rw[A3,<-v,Ap]at d
     split at d
     ·exact d
     ·cases d) (fun u d=>A u (BH d)) (by omega) (by rw[r,l];simp[t];omega)
  rw[h,o,H,r,show i+(n-(i+1))=n-1 by omega]
 have B:FH f g 293 (FM L (i*3) (xs.drop ((i+1)*3))):=by rw[o];exact Cu w.drew g L.toArray _ 293 _ m
 have E:w.grownBy f (some g):=by rw[o];exact⟨rfl,rfl,rfl,by simp,fun k _ M=>BZ w.drew g k _ (fun e=>M (by rw[e]))⟩
 obtain⟨x,q,C,F⟩:=We (P:=Tryz.prog) f 210 293 0 (.agg #[.int .i64 0,.slice none 0 0,.int .i64 0]) Tryz.underlying210 (fun _=>by kernel_rfl) [.int .i64 0,.slice none 0 0,.int .i64 0] (by kernel_rfl) (by simp[Value.oneCell']) g ((n-1)*3) (b-(n-1)) _ 293 B (by rw[DP (by rw[l];omega),t];simp;omega);have y:FH x g 293 (FM (FM L (i*3) (xs.drop ((i+1)*3))) ((n-1)*3) [.int .i64 0,.slice none 0 0,.int .i64 0])/\w.grownBy x (some g):=⟨C,JY E F⟩;have s:=Db y;have ag:b<=9223372036854775807:=by unfold maxLen at D;omega
 have aa:(0:Int)<=(i:Int)+1:=by omega
 have ak:((i:Int)+1).toNat=i+1:=by omega
 have ab:(i:Int)<=(n:Int):=by omega
 have ac:(i:Int)+1<=(n:Int):=by omega
 have ad:(i:Int)<=(i:Int)+1:=by omega
 have ae:(i:Int)<=(b:Int):=by omega
 have af:¬(b=n-1):=by omega
 have ah:n-(n-1)=1:=by omega
 have aj:((i:Int)==(i:Int)+1)=false:=by rw[AH];omega
 clear y B C E F o H m v l I t A G N r O D;go_enter Tryz.func269,Tryz.ntmps269;by_cases K:b=i+1
 ·subst K;obtain rfl:n=i+1:=by omega
  rw[CO]at p;rw[Nat.add_sub_cancel]at p s q;rw[Cf]at q;go_wp2
  go_region_law (refine JD rfl _ _ 210 210 rfl _ _ (by simp[Act.eval,Act.put]) (by simp[Act.eval,Act.put]) (p ⟨g,0,none⟩ 0 (fun h=>absurd h (by omega))) ?_)
  go_wp2_with (at_builtin;refine Nv _ rfl _ 210 rfl _ rfl q ?_);go_ret;exact⟨rfl,Da s⟩
 ·go_wp2
  go_region_law (refine JD rfl _ _ 210 210 rfl _ _ (by simp[Act.eval,Act.put]) (by simp[Act.eval,Act.put]) (p ⟨g,(i+1)*3,none⟩ (b-(i+1)) (fun _=>rfl)) ?_)
  go_wp2_with (at_builtin;refine Nv _ rfl _ 210 rfl _ rfl q ?_);go_ret;exact⟨rfl,Da s⟩
end Go.Proofs.YtaieidcohdhgpaaGreatDoor
