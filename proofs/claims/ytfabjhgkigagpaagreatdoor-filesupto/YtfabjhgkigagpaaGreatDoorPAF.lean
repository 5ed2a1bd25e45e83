/- Files: what the library's Split, HasPrefix and Clone answer at this program, by the library's own contracts. Files: of which names a path is: both sides' Names. Files: the program's own Names. -/
import Derived.Shelf.LaysM
import Derived.Shelf.Strconv.Clone
import Derived.Shelf.Strings.Prefix
import Derived.Shelf.Strings.Split
import Derived.Shelf.Strings.SplitShaped
import Derived.Test.YtfabjhgkigagpaaGreatDoorProg
import Derived.Test.YtfabjhgkigagpaaGreatDoorPAE
namespace Go.Proofs
open Go.Shelf
def Tryz.laysM316_ren : Go.Shelf.Ren := ⟨fun | 316 => 138 | n => n, fun | 9 => 9 | 3 => 3 | 4 => 4 | 37 => 43 | 0 => 0 | 127 => 185 | 5 => 5 | n => n, fun | n => n⟩
theorem Tryz.laysM316 : Go.Proofs.LaysM.n316 Tryz.prog Tryz.laysM316_ren := {
  mixed := by kernel_rfl
  f316 := Tryz.func138.trans (congrArg some (by kernel_rfl))
  t0 := Tryz.underlying0
  a0 := Tryz.isAgg0
  z0 := Tryz.sizeOf0
  v0 := Tryz.zeroValue0
  t3 := Tryz.underlying3
  a3 := Tryz.isAgg3
  z3 := Tryz.sizeOf3
  v3 := Tryz.zeroValue3
  t4 := Tryz.underlying4
  a4 := Tryz.isAgg4
  z4 := Tryz.sizeOf4
  v4 := Tryz.zeroValue4
  t9 := Tryz.underlying9
  a9 := Tryz.isAgg9
  z9 := Tryz.sizeOf9
  v9 := Tryz.zeroValue9
  t37 := Tryz.underlying43
  a37 := Tryz.isAgg43
  z37 := Tryz.sizeOf43
  v37 := Tryz.zeroValue43
  t127 := Tryz.underlying185
  a127 := Tryz.isAgg185
  z127 := Tryz.sizeOf185
  v127 := Tryz.zeroValue185
  t5 := Tryz.underlying5
  a5 := Tryz.isAgg5
  z5 := Tryz.sizeOf5
  v5 := Tryz.zeroValue5
  i0 := by kernel_rfl
  i3 := by kernel_rfl
  i4 := by kernel_rfl
  i5 := by kernel_rfl
  i9 := by kernel_rfl
  i37 := by kernel_rfl
  i127 := by kernel_rfl }
open Go.RowKit in
theorem Tryz.stringslite_Clone (s : ByteArray) (w : World) (hlim : s.size ≤ 281474976710656) :
    Calls Tryz.prog 138 #[.string s] w fun e w' => e = .returned (.string s) ∧ Below w.heap.size w w' := Any.stringslite_Clone Tryz.laysM316 s w hlim
def Tryz.lays99_ren : Go.Shelf.Ren := ⟨fun | 99 => 105 | 206 => 131 | n => n, fun | 9 => 9 | 4 => 4 | 3 => 3 | n => n, fun | n => n⟩
theorem Tryz.lays99 : Go.Proofs.Lays.n99 Tryz.prog Tryz.lays99_ren := {
  mixed := by kernel_rfl
  f99 := Tryz.func105.trans (congrArg some (by kernel_rfl))
  f206 := Tryz.func131.trans (congrArg some (by kernel_rfl))
  t3 := Tryz.underlying3
  a3 := Tryz.isAgg3
  z3 := Tryz.sizeOf3
  v3 := Tryz.zeroValue3
  t4 := Tryz.underlying4
  a4 := Tryz.isAgg4
  z4 := Tryz.sizeOf4
  v4 := Tryz.zeroValue4
  t9 := Tryz.underlying9
  a9 := Tryz.isAgg9
  z9 := Tryz.sizeOf9
  v9 := Tryz.zeroValue9 }
open Go.RowKit Go.Lib in
theorem Tryz.strings_HasPrefix (s p : ByteArray) (w : World) :
    Calls Tryz.prog 105 #[.string s, .string p] w fun e w' => e = .returned (.bool (Lib.hasPrefix s.data.toList p.data.toList)) ∧ w' = w := Any.strings_HasPrefix Tryz.lays99 s p w
def Tryz.lays146_ren : Go.Shelf.Ren := ⟨fun | 146 => 119 | 221 => 139 | 268 => 148 | 138 => 149 | 143 => 150 | 195 => 158 | 197 => 159 | 218 => 160 | 219 => 161 | 260 => 165 | 217 => 166 | 225 => 167 | 224 => 168 | 267 => 169 | 266 => 172 | 314 => 173 | n => n, fun | 9 => 9 | 31 => 67 | 3 => 3 | 4 => 4 | 0 => 0 | 105 => 193 | 21 => 21 | 5 => 5 | 46 => 183 | 119 => 198 | 139 => 201 | 138 => 200 | 146 => 203 | 51 => 202 | n => n, fun | 1 => 0 | 3 => 1 | 4 => 2 | n => n⟩
theorem Tryz.lays146 : Go.Proofs.Lays.n146 Tryz.prog Tryz.lays146_ren := {
  mixed := by kernel_rfl
  f138 := Tryz.func149.trans (congrArg some (by kernel_rfl))
  f143 := Tryz.func150.trans (congrArg some (by kernel_rfl))
  f146 := Tryz.func119.trans (congrArg some (by kernel_rfl))
  f195 := Tryz.func158.trans (congrArg some (by kernel_rfl))
  f197 := Tryz.func159.trans (congrArg some (by kernel_rfl))
  f217 := Tryz.func166.trans (congrArg some (by kernel_rfl))
  f218 := Tryz.func160.trans (congrArg some (by kernel_rfl))
  f219 := Tryz.func161.trans (congrArg some (by kernel_rfl))
  f221 := Tryz.func139.trans (congrArg some (by kernel_rfl))
  f224 := Tryz.func168.trans (congrArg some (by kernel_rfl))
  f225 := Tryz.func167.trans (congrArg some (by kernel_rfl))
  f260 := Tryz.func165.trans (congrArg some (by kernel_rfl))
  f266 := Tryz.func172.trans (congrArg some (by kernel_rfl))
  f267 := Tryz.func169.trans (congrArg some (by kernel_rfl))
  f268 := Tryz.func148.trans (congrArg some (by kernel_rfl))
  f314 := Tryz.func173.trans (congrArg some (by kernel_rfl))
  t0 := Tryz.underlying0
  a0 := Tryz.isAgg0
  z0 := Tryz.sizeOf0
  v0 := Tryz.zeroValue0
  t3 := Tryz.underlying3
  a3 := Tryz.isAgg3
  z3 := Tryz.sizeOf3
  v3 := Tryz.zeroValue3
  t4 := Tryz.underlying4
  a4 := Tryz.isAgg4
  z4 := Tryz.sizeOf4
  v4 := Tryz.zeroValue4
  t5 := Tryz.underlying5
  a5 := Tryz.isAgg5
  z5 := Tryz.sizeOf5
  v5 := Tryz.zeroValue5
  t9 := Tryz.underlying9
  a9 := Tryz.isAgg9
  z9 := Tryz.sizeOf9
  v9 := Tryz.zeroValue9
  t21 := Tryz.underlying21
  a21 := Tryz.isAgg21
  z21 := Tryz.sizeOf21
  v21 := Tryz.zeroValue21
  t31 := Tryz.underlying67
  a31 := Tryz.isAgg67
  z31 := Tryz.sizeOf67
  v31 := Tryz.zeroValue67
  t46 := Tryz.underlying183
  a46 := Tryz.isAgg183
  z46 := Tryz.sizeOf183
  v46 := Tryz.zeroValue183
  t51 := Tryz.underlying202
  a51 := Tryz.isAgg202
  z51 := Tryz.sizeOf202
  v51 := Tryz.zeroValue202
  t105 := Tryz.underlying193
  a105 := Tryz.isAgg193
  z105 := Tryz.sizeOf193
  v105 := Tryz.zeroValue193
  t119 := Tryz.underlying198
  a119 := Tryz.isAgg198
  z119 := Tryz.sizeOf198
  t138 := Tryz.underlying200
  a138 := Tryz.isAgg200
  z138 := Tryz.sizeOf200
  v138 := Tryz.zeroValue200
  t139 := Tryz.underlying201
  a139 := Tryz.isAgg201
  z139 := Tryz.sizeOf201
  v139 := Tryz.zeroValue201
  t146 := Tryz.underlying203
  a146 := Tryz.isAgg203
  z146 := Tryz.sizeOf203
  v146 := Tryz.zeroValue203
  g1 := by kernel_rfl
  g3 := by kernel_rfl
  g4 := by kernel_rfl }
open Go.RowKit Go.Lib in
theorem Tryz.strings_Split (s sep : ByteArray) (m : Int) (w : World) (hs : s.size < 4294967281) (hm : w.cell? ⟨0, 0, none⟩ = some (.int .i64 m)) (h1 : 1 ≤ sep.size) :
    Calls Tryz.prog 119 #[.string s, .string sep] w fun e w' =>
      e = .returned (.slice (some ⟨w.heap.size, 0, none⟩) (Lib.countB s sep + 1) (Lib.countB s sep + 1)) ∧ w' = w.alloc (.cells ((Lib.splitB sep 0 (Lib.countB s sep) s).map Value.string).toArray 9) := Any.strings_Split Tryz.lays146 (by kernel_rfl) s sep m w hs hm h1
def Tryz.laysM146_ren : Go.Shelf.Ren := ⟨fun | 146 => 119 | 221 => 139 | 268 => 148 | 138 => 149 | 143 => 150 | 195 => 158 | 197 => 159 | 218 => 160 | 219 => 161 | 260 => 165 | 217 => 166 | 225 => 167 | 224 => 168 | 267 => 169 | 266 => 172 | 314 => 173 | n => n, fun | 9 => 9 | 31 => 67 | 3 => 3 | 4 => 4 | 0 => 0 | 105 => 193 | 21 => 21 | 5 => 5 | 46 => 183 | 119 => 198 | 139 => 201 | 138 => 200 | 146 => 203 | 51 => 202 | n => n, fun | 1 => 0 | 3 => 1 | 4 => 2 | n => n⟩
theorem Tryz.laysM146 : Go.Proofs.LaysM.n146 Tryz.prog Tryz.laysM146_ren := {
  mixed := by kernel_rfl
  f138 := Tryz.func149.trans (congrArg some (by kernel_rfl))
  f143 := Tryz.func150.trans (congrArg some (by kernel_rfl))
  f146 := Tryz.func119.trans (congrArg some (by kernel_rfl))
  f195 := Tryz.func158.trans (congrArg some (by kernel_rfl))
  f197 := Tryz.func159.trans (congrArg some (by kernel_rfl))
  f217 := Tryz.func166.trans (congrArg some (by kernel_rfl))
  f218 := Tryz.func160.trans (congrArg some (by kernel_rfl))
  f219 := Tryz.func161.trans (congrArg some (by kernel_rfl))
  f221 := Tryz.func139.trans (congrArg some (by kernel_rfl))
  f224 := Tryz.func168.trans (congrArg some (by kernel_rfl))
  f225 := Tryz.func167.trans (congrArg some (by kernel_rfl))
  f260 := Tryz.func165.trans (congrArg some (by kernel_rfl))
  f266 := Tryz.func172.trans (congrArg some (by kernel_rfl))
  f267 := Tryz.func169.trans (congrArg some (by kernel_rfl))
  f268 := Tryz.func148.trans (congrArg some (by kernel_rfl))
  f314 := Tryz.func173.trans (congrArg some (by kernel_rfl))
  t0 := Tryz.underlying0
  a0 := Tryz.isAgg0
  z0 := Tryz.sizeOf0
  v0 := Tryz.zeroValue0
  t3 := Tryz.underlying3
  a3 := Tryz.isAgg3
  z3 := Tryz.sizeOf3
  v3 := Tryz.zeroValue3
  t4 := Tryz.underlying4
  a4 := Tryz.isAgg4
  z4 := Tryz.sizeOf4
  v4 := Tryz.zeroValue4
  t5 := Tryz.underlying5
  a5 := Tryz.isAgg5
  z5 := Tryz.sizeOf5
  v5 := Tryz.zeroValue5
  t9 := Tryz.underlying9
  a9 := Tryz.isAgg9
  z9 := Tryz.sizeOf9
  v9 := Tryz.zeroValue9
  t21 := Tryz.underlying21
  a21 := Tryz.isAgg21
  z21 := Tryz.sizeOf21
  v21 := Tryz.zeroValue21
  t31 := Tryz.underlying67
  a31 := Tryz.isAgg67
  z31 := Tryz.sizeOf67
  v31 := Tryz.zeroValue67
  t46 := Tryz.underlying183
  a46 := Tryz.isAgg183
  z46 := Tryz.sizeOf183
  v46 := Tryz.zeroValue183
  t51 := Tryz.underlying202
  a51 := Tryz.isAgg202
  z51 := Tryz.sizeOf202
  v51 := Tryz.zeroValue202
  t105 := Tryz.underlying193
  a105 := Tryz.isAgg193
  z105 := Tryz.sizeOf193
  v105 := Tryz.zeroValue193
  t119 := Tryz.underlying198
  a119 := Tryz.isAgg198
  z119 := Tryz.sizeOf198
  t138 := Tryz.underlying200
  a138 := Tryz.isAgg200
  z138 := Tryz.sizeOf200
  v138 := Tryz.zeroValue200
  t139 := Tryz.underlying201
  a139 := Tryz.isAgg201
  z139 := Tryz.sizeOf201
  v139 := Tryz.zeroValue201
  t146 := Tryz.underlying203
  a146 := Tryz.isAgg203
  z146 := Tryz.sizeOf203
  v146 := Tryz.zeroValue203
  g1 := by kernel_rfl
  g3 := by kernel_rfl
  g4 := by kernel_rfl
  i0 := by kernel_rfl
  i3 := by kernel_rfl
  i4 := by kernel_rfl
  i5 := by kernel_rfl
  i9 := by kernel_rfl
  i21 := by kernel_rfl
  i31 := by kernel_rfl
  i46 := by kernel_rfl
  i51 := by kernel_rfl
  i105 := by kernel_rfl
  i138 := by kernel_rfl
  i139 := by kernel_rfl
  i146 := by kernel_rfl
  m1 := by kernel_rfl
  s1_3 := fun w h => Go.Proofs.cell_of_shapedOpen_int (zero := #[.int .i64 0]) (t := 3) h (of_decide_eq_true (by kernel_rfl)) (by kernel_rfl) rfl (by kernel_rfl) (by kernel_rfl) Tryz.underlying3
  m3 := by kernel_rfl
  m4 := by kernel_rfl }
end Go.Proofs
namespace Go.Proofs.YtfabjhgkigagpaaGreatDoor
open Go.RowKit

set_option maxHeartbeats 1000000
set_option maxRecDepth 100000
theorem ib_hit : ∀ (l : List UInt8) (i : Nat), (∀ j, j < i → l[j]? ≠ some 47) → l[i]? = some 47 → Lib.indexByte l 47 = i
  | [], i, _, h => by simp at h
  | a :: l, 0, _, h => by simp at h; simp [Lib.indexByte, h]
  | a :: l, i + 1, h, h1 => by
    have h0 : a ≠ 47 := fun e => h 0 (by omega) (by simp [e])
    have := ib_hit l i (fun j hj => by have := h (j + 1) (by omega); simpa using this) (by simpa using h1)
    simp [Lib.indexByte, h0, this]
theorem ib_miss : ∀ (l : List UInt8), (∀ j : Nat, l[j]? ≠ some 47) → Lib.indexByte l 47 = -1
  | [], _ => by simp [Lib.indexByte]
  | a :: l, h => by
    have h0 : a ≠ 47 := fun e => h 0 (by simp [e])
    have := ib_miss l (fun j => by have := h (j + 1); simpa using this)
    simp [Lib.indexByte, h0, this]
/-- The pieces between slashes. -/
def pc (s : ByteArray) : List ByteArray := Lib.splitB ⟨#[47]⟩ 0 (Lib.countB s ⟨#[47]⟩) s
theorem indexB_one (s : ByteArray) : Lib.indexB s ⟨#[47]⟩ = Lib.indexByte s.data.toList 47 := Lib.index_one _ _
theorem pc_miss (s : ByteArray) (h : ∀ j : Nat, s.data.toList[j]? ≠ some 47) : pc s = [s] :=
  Lib.splitB_miss _ _ _ _ ((indexB_one s).trans (ib_miss _ h))
theorem pc_hit (s : ByteArray) (i : Nat) (h : ∀ j, j < i → s.data.toList[j]? ≠ some 47) (h1 : s.data.toList[i]? = some 47) : pc s = s.extract 0 i :: pc (s.extract (i + 1) s.size) := by
  have hi := (indexB_one s).trans (ib_hit _ i h h1)
  unfold pc
  rw [Lib.countB_hit s ⟨#[47]⟩ i (Nat.le_refl 1) hi, Nat.add_comm 1, Lib.splitB_hit _ _ _ _ i hi]
  rfl
theorem tail_data (p : ByteArray) (f : Nat) : (p.extract f p.size).data.toList = p.data.toList.drop f := Lib.extract_to_end p f
theorem pc_step (p : ByteArray) (f i : Nat) (hf : f ≤ i) (h : ∀ j, f ≤ j → j < i → p.data.toList[j]? ≠ some 47) (h1 : p.data.toList[i]? = some 47) :
    pc (p.extract f p.size) = p.extract f i :: pc (p.extract (i + 1) p.size) := by
  have hlt : i < p.size := (List.getElem?_eq_some_iff.1 h1).1
  rw [pc_hit (p.extract f p.size) (i - f) (fun j hj => by rw [tail_data, List.getElem?_drop]; exact h (f + j) (by omega) (by omega)) (by rw [tail_data, List.getElem?_drop, show f + (i - f) = i by omega]; exact h1)]
  have e1 : (p.extract f p.size).extract 0 (i - f) = p.extract f i := by
    apply WideShapes.bytes_inj
    rw [Lib.extract_data, Lib.extract_data, Lib.extract_data]
    simp
    rw [List.take_take, Nat.min_eq_left (by have : p.size = p.data.size := rfl; omega)]
  have e2 : (p.extract f p.size).extract (i - f + 1) (p.extract f p.size).size = p.extract (i + 1) p.size := by
    apply WideShapes.bytes_inj
    rw [tail_data, tail_data, tail_data, List.drop_drop]
    congr 1; omega
  rw [e1, e2]
theorem pc_last (p : ByteArray) (f : Nat) (h : ∀ j, f ≤ j → p.data.toList[j]? ≠ some 47) : pc (p.extract f p.size) = [p.extract f p.size] :=
  pc_miss _ (fun j => by rw [tail_data, List.getElem?_drop]; exact h _ (by omega))
/-- The names of a path that is one. -/
def names (p : ByteArray) : List ByteArray := if p.toList == [47] then [] else pc (p.extract 1 p.size)
/-- Is it a path? -/
def nmOk (p : ByteArray) : Bool := p.toList == [47] || (p.data.toList[0]? == some 47 && decide ((pc (p.extract 1 p.size)).length ≤ 6) && (pc (p.extract 1 p.size)).all okName)
theorem info9 : (Tryz.prog.info? 9).map (fun i => (i.zero, i.size, i.bytes)) = some (some (.string ⟨#[]⟩), 1, 16) := by kernel_rfl
theorem byte_at (p : ByteArray) (k : Nat) (h : k < p.size) : p.data.toList[k]? = some p[k] := by
  rw [List.getElem?_eq_getElem (by simpa using h)]; rfl
theorem slash_iff (p : ByteArray) (k : Nat) (h : k < p.size) : ((p[k].toNat : Int) != 47) = true ↔ p.data.toList[k]? ≠ some 47 := by
  rw [byte_at p k h, bne_iff_ne]
  constructor
  · intro h1 h2; rw [Option.some.injEq] at h2; rw [h2] at h1; exact h1 rfl
  · intro h1 h2; exact h1 (by rw [Option.some.injEq]; exact UInt8.toNat_inj.1 (by have : p[k].toNat = 47 := by omega
                                                                                  rw [this]; rfl))
theorem pc_bound (p : ByteArray) : (pc p).length ≤ p.size + 1 := by
  have := Lib.splitB_length_le ⟨#[47]⟩ 0 (Lib.countB p ⟨#[47]⟩) p
  have h2 := Lib.countB_le ⟨#[47]⟩ (Nat.le_refl 1) p.size p (Nat.le_refl _)
  unfold pc; omega
/-- siltref.Names. -/
theorem names_ref (p : ByteArray) (w : World) (hp : p.size ≤ 2000000) :
    Calls Tryz.prog 63 #[.string p] w fun e w' => ∃ a n c, e = .returned (.tuple #[.slice a n c, .bool (nmOk p)]) ∧ (nmOk p = true → n = (names p).length) ∧ Below w.heap.size w w' := by
  obtain ⟨b, hb⟩ : ∃ b, b = nmOk p := ⟨_, rfl⟩
  rw [← hb]
  cases h0 : (p.toList == [47]) with
  | true =>
    obtain rfl : b = true := by rw [hb]; simp [nmOk, h0]
    have hnm : (names p).length = 0 := by simp [names, h0]
    have HN := hide hnm
    clear hb hnm
    go_enter Tryz.func63, Tryz.ntmps63
    go_wp2
    go_ret2
    exact ⟨none, 0, 0, rfl, fun _ => (unhide HN).symm, Below.refl _ _⟩
  | false =>
  have he := empty_iff p
  by_cases h1 : p.size < 1
  · have he' : p.toList.isEmpty = true := by rw [he]; exact decide_eq_true h1
    obtain rfl : b = false := by
      rw [hb]; unfold nmOk; rw [h0]
      have : p.data.toList[0]? = none := by rw [List.getElem?_eq_none]; have : p.data.toList.length = p.size := Array.length_toList; omega
      rw [this]; rfl
    clear hb he
    go_enter Tryz.func63, Tryz.ntmps63
    go_wp2
    go_ret2
    exact ⟨none, 0, 0, rfl, fun h => (by cases h), Below.refl _ _⟩
  have he' : p.toList.isEmpty = false := by rw [he]; exact decide_eq_false h1
  have hp0 : 0 < p.size := by omega
  clear he
  have hsl := slash_iff p 0 hp0
  cases h2 : ((p[0].toNat : Int) != 47) with
  | true =>
    have hne := hsl.1 h2
    obtain rfl : b = false := by
      rw [hb]; unfold nmOk; rw [h0]
      have : (p.data.toList[0]? == some 47) = false := by simpa using hne
      rw [this]; rfl
    clear hb hsl hne
    go_enter Tryz.func63, Tryz.ntmps63
    go_wp2
    go_ret2
    exact ⟨none, 0, 0, rfl, fun h => (by cases h), Below.refl _ _⟩
  | false =>
  have h47 : p.data.toList[0]? = some 47 := by
    by_cases h : p.data.toList[0]? = some 47
    · exact h
    · have := hsl.2 h; rw [h2] at this; cases this
  have hb2 : b = (decide ((pc (p.extract 1 p.size)).length ≤ 6) && (pc (p.extract 1 p.size)).all okName) := by rw [hb]; simp [nmOk, h0, h47]
  have hnm : names p = pc (p.extract 1 p.size) := by simp [names, h0]
  have HB := hide hb2
  have HN := hide hnm
  obtain ⟨i0, hi0, hz0, hz1, hz2⟩ := info_parts info9
  have hpb := pc_bound (p.extract 1 p.size)
  have hps : (p.extract 1 p.size).size ≤ p.size := by simp [ByteArray.size_extract]
  have HPB := hide (show (pc (p.extract 1 p.size)).length ≤ 2000001 by omega)
  clear hb hb2 hnm hsl h47 hpb hps
  go_enter Tryz.func63, Tryz.ntmps63
  go_wp2_with fail
  go_loopw [4, 5, 6] (fun v f i wr => ∃ (a : Option Addr) (n c fr k : Nat) (l : List ByteArray), v = .slice a n c ∧ f = .int .i64 fr ∧ i = .int .i64 k ∧ 1 ≤ fr ∧ fr ≤ k ∧ k ≤ p.size + 1 ∧ n = l.length ∧
      Hid (Sl wr 9 1 (.slice a n c) l.length (l.map .string)) ∧ Hid (k ≤ p.size → pc (p.extract 1 p.size) = l ++ pc (p.extract fr p.size)) ∧ Hid (k = p.size + 1 → pc (p.extract 1 p.size) = l) ∧ Hid (∀ g, (Value.slice a n c).ownBlock = some g → w.heap.size ≤ g) ∧ Hid (l.all okName = true) ∧ Hid (∀ j, fr ≤ j → j < k → p.data.toList[j]? ≠ some 47) ∧ Below w.heap.size w wr) (fun _ _ i _ => p.size + 1 - (intOf i).toNat)
  case atStart => exact ⟨none, 0, 0, 1, 1, [], rfl, rfl, rfl, Nat.le_refl _, Nat.le_refl _, by omega, rfl, ⟨rfl, .inl ⟨rfl, rfl⟩⟩, fun _ => rfl, fun h => by omega, fun g h => by simp [Value.ownBlock] at h, rfl, fun j h1 h2 => by omega, Below.refl _ _⟩
  case round =>
    obtain ⟨a, n, c, fr, k, l, rfl, rfl, rfl, hf1, hfk, hk, hn, hS, hpc, hpe, hown, hall, hno, hB⟩ := hrel
    by_cases hke : k = p.size + 1
    · have hn' := unhide hpe hke
      have hb3 : b = decide ((n : Int) ≤ 6) := by
        rw [unhide HB, hn', unhide hall, hn]; simp; omega
      have hnl : n = (names p).length := by rw [unhide HN, hn', hn]
      have HNL := hide hnl
      have HB3 := hide hb3
      clear hb3 hnl hn hn' HB hS hpc hpe hall hno
      subst hke
      have hd : ¬ ((p.size : Int) + 1 ≤ p.size) := by omega
      have e3 := unhide HB3
      subst e3
      go_wp2
      go_ret2
      exact ⟨a, n, ⟨c, rfl⟩, fun _ => unhide HNL, hB⟩
    have hk' : k ≤ p.size := by omega
    have hpk := unhide hpc hk'
    -- not yet at a piece's end
    by_cases hin : k < p.size ∧ p.data.toList[k]? ≠ some 47
    · obtain ⟨hlt, hne⟩ := hin
      have hq := (slash_iff p k hlt).2 hne
      have HNE := hide hne
      have HN0 := hide hn
      clear hne hn hke
      go_wp2
      go_roundw
      case rel => exact ⟨a, n, c, fr, k + 1, l, rfl, rfl, by go_num, hf1, by omega, by omega, unhide HN0, hS, fun _ => hpk, fun h => by omega, hown, hall, fun j h1 h2 => by
        rcases Nat.lt_or_ge j k with h | h
        · exact unhide hno j h1 h
        · obtain rfl : j = k := by omega
          exact unhide HNE, hB⟩
      case measure => simp [intOf]; omega
    · -- a piece ends
      obtain ⟨rest, hrest, hr1, hr2⟩ : ∃ rest, pc (p.extract fr p.size) = p.extract fr k :: rest ∧ (k + 1 ≤ p.size → rest = pc (p.extract (k + 1) p.size)) ∧ (k + 1 = p.size + 1 → rest = []) := by
        by_cases hlt : k < p.size
        · have h47 : p.data.toList[k]? = some 47 := by
            by_cases h : p.data.toList[k]? = some 47
            · exact h
            · exact absurd ⟨hlt, h⟩ hin
          exact ⟨_, pc_step p fr k hfk (unhide hno) h47, fun _ => rfl, fun h => by omega⟩
        · obtain rfl : k = p.size := by omega
          exact ⟨[], pc_last p fr (fun j h1 h2 => by
            rcases Nat.lt_or_ge j p.size with h | h
            · exact unhide hno j h1 h h2
            · rw [List.getElem?_eq_none (by have : p.data.toList.length = p.size := Array.length_toList; omega)] at h2; cases h2), fun h => by omega, fun _ => rfl⟩
      have hdec : (¬ k < p.size) ∨ (k < p.size ∧ ∃ h : k < p.size, ((p[k].toNat : Int) != 47) = false) := by
        by_cases hlt : k < p.size
        · refine .inr ⟨hlt, hlt, ?_⟩
          cases h : ((p[k].toNat : Int) != 47) with
          | false => rfl
          | true => exact absurd ⟨hlt, (slash_iff p k hlt).1 h⟩ hin
        · exact .inl hlt
      have hfull : pc (p.extract 1 p.size) = (l ++ [p.extract fr k]) ++ rest := by rw [hpk, hrest, List.append_assoc]; rfl
      have hsz : (p.extract fr k).size ≤ maxLen := by unfold maxLen; simp [ByteArray.size_extract]; omega
      have hll : l.length + 1 ≤ 2000001 := by
        have := unhide HPB
        rw [hfull] at this; simp at this; omega
      have HF := hide hfull
      have HIN := hide hin
      have hR1 := hide hr1
      have hR2 := hide hr2
      have HNN := hide hn
      clear hrest hr1 hr2 hin hpk hfull hn hke
      obtain ⟨a', n', c', w1, hr, hH⟩ : ∃ a' n' c' w', (Builtin.append_ #[67, 67] 67 #[.slice a n c, .slice (some ⟨wr.heap.size, 0, none⟩) 1 1]).run Tryz.prog (wr.alloc (.cells #[.string (p.extract fr k)] 9)) = .ok (.slice a' n' c') w' ∧ Hid (n' = (l ++ [p.extract fr k]).length ∧ Sl w' 9 1 (.slice a' n' c') (l ++ [p.extract fr k]).length ((l ++ [p.extract fr k]).map .string) ∧ Below w.heap.size w w' ∧ ∀ g, (Value.slice a' n' c').ownBlock = some g → w.heap.size ≤ g) := by
        have hS1 : Sl (wr.alloc (.cells #[.string (p.extract fr k)] 9)) 9 1 (.slice a n c) l.length (l.map .string) := Sl.of_owns ((unhide hS).owns.alloc _)
        have hal : Below wr.heap.size wr (wr.alloc (.cells #[.string (p.extract fr k)] 9)) := (Below.refl _ _).alloc (Nat.le_refl _) _
        obtain ⟨v', w', h1, h2, h3, h4⟩ := append_new (P := Tryz.prog) (wr.alloc (.cells #[.string (p.extract fr k)] 9)) 67 67 9 i0 _ 1 16 Tryz.underlying67 hi0 hz0 hz1 hz2 rfl (by decide) (.slice a n c) l.length (l.map .string) hS1 ⟨wr.heap.size, 0, none⟩ 1 1 [.string (p.extract fr k)] rfl
          (fun j u hu => by
            rw [Addr.add_lit, Nat.zero_add, World.cell?_alloc_at _ _ _ _ rfl]
            simpa using hu) (by simp [Value.oneCell']) (by unfold maxLen; omega) (by omega)
        obtain ⟨a', n', c', rfl⟩ := h2.shape
        have hn' : n' = l.length + 1 := by
          rcases h2.2 with ⟨h, h'⟩ | ⟨g, cap, L, h, _⟩
          · omega
          · cases h; rfl
        refine ⟨a', n', c', w', h1, by simpa using hn', by simpa using h2, ?_⟩
        refine ⟨⟨h3.os.trans hB.os, h3.tape.trans hB.tape, h3.output.trans hB.output, Nat.le_trans hB.size (Nat.le_trans hal.size h3.size), fun i hi => ?_⟩, fun g hg => ?_⟩
        rotate_left
        · rcases h4 g hg with h | h
          · exact unhide hown g h
          · have := hal.size; have := hB.size; omega
        have hiw : i < wr.heap.size := Nat.lt_of_lt_of_le hi hB.size
        rw [h3.block i (Nat.lt_of_lt_of_le hiw hal.size) (fun e => ?_), hal.block i hiw, hB.block i hi]
        have := unhide hown i e.symm
        omega
      cases hok : okName (p.extract fr k) with
      | false =>
        obtain rfl : b = false := by rw [unhide HB, unhide HF]; simp [hok]
        clear hr HB
        rcases hdec with hdec | ⟨hlt, _, hq⟩
        · go_wp2_with (go_at_call 108; refine (isName_ref _ _ hsz).mono ?_; rintro e w' ⟨rfl, rfl⟩)
          go_ret2
          exact ⟨none, 0, 0, rfl, fun h => (by cases h), hB⟩
        · go_wp2_with (go_at_call 108; refine (isName_ref _ _ hsz).mono ?_; rintro e w' ⟨rfl, rfl⟩)
          go_ret2
          exact ⟨none, 0, 0, rfl, fun h => (by cases h), hB⟩
      | true =>
        rcases hdec with hdec | ⟨hlt, _, hq⟩
        · go_wp2_with (first | (go_at_call 108; refine (isName_ref _ _ hsz).mono ?_; rintro e w' ⟨rfl, rfl⟩) | (at_builtin; refine Lib.wpList_append_run _ rfl _ _ 67 67 rfl _ _ rfl rfl _ _ hr ?_))
          go_roundw
          case rel => exact ⟨a', n', c', k + 1, k + 1, l ++ [p.extract fr k], rfl, by go_num, by go_num, by omega, Nat.le_refl _, by omega, (unhide hH).1, (unhide hH).2.1, fun h => by rw [unhide HF, unhide hR1 h], fun h => by rw [unhide HF, unhide hR2 h, List.append_nil], (unhide hH).2.2.2, by show List.all _ _ = true; rw [List.all_append, unhide hall]; simp [hok], fun j h1 h2 => by omega, (unhide hH).2.2.1⟩
          case measure => simp [intOf]; omega
        · go_wp2_with (first | (go_at_call 108; refine (isName_ref _ _ hsz).mono ?_; rintro e w' ⟨rfl, rfl⟩) | (at_builtin; refine Lib.wpList_append_run _ rfl _ _ 67 67 rfl _ _ rfl rfl _ _ hr ?_))
          go_roundw
          case rel => exact ⟨a', n', c', k + 1, k + 1, l ++ [p.extract fr k], rfl, by go_num, by go_num, by omega, Nat.le_refl _, by omega, (unhide hH).1, (unhide hH).2.1, fun h => by rw [unhide HF, unhide hR1 h], fun h => by rw [unhide HF, unhide hR2 h, List.append_nil], (unhide hH).2.2.2, by show List.all _ _ = true; rw [List.all_append, unhide hall]; simp [hok], fun j h1 h2 => by omega, (unhide hH).2.2.1⟩
          case measure => simp [intOf]; omega
end Go.Proofs.YtfabjhgkigagpaaGreatDoor
namespace Go.Proofs.YtfabjhgkigagpaaGreatDoor
open Go.RowKit

set_option maxHeartbeats 1000000
set_option maxRecDepth 100000
theorem slash_or (l : List UInt8) : (∀ j : Nat, l[j]? ≠ some 47) ∨ ∃ i : Nat, (∀ j, j < i → l[j]? ≠ some 47) ∧ l[i]? = some 47 := by
  induction l with
  | nil => exact .inl (by simp)
  | cons a l ih =>
    by_cases h : a = 47
    · exact .inr ⟨0, fun j hj => absurd hj (Nat.not_lt_zero _), by simp [h]⟩
    · rcases ih with ih | ⟨i, h1, h2⟩
      · exact .inl (fun j => by cases j with
          | zero => simp [h]
          | succ j => simpa using ih j)
      · exact .inr ⟨i + 1, fun j hj => by
          cases j with
          | zero => simp [h]
          | succ j => simpa using h1 j (by omega), by simpa using h2⟩
theorem le_sum_nat (l : List Nat) (x : Nat) (h : x ∈ l) : x ≤ l.sum := by
  induction l with
  | nil => cases h
  | cons a l ih =>
    rw [List.sum_cons]
    rcases List.mem_cons.1 h with rfl | h
    · omega
    · have := ih h; omega
theorem pc_sum : ∀ (k : Nat) (s : ByteArray), s.size ≤ k → ((pc s).map (fun x => x.size + 1)).sum = s.size + 1 := by
  intro k
  induction k with
  | zero =>
    intro s hs
    have h0 : s.data.toList = [] := List.eq_nil_of_length_eq_zero (by have : s.data.toList.length = s.size := Array.length_toList; omega)
    rw [pc_miss s (fun j => by rw [h0]; simp)]; simp
  | succ k ih =>
    intro s hs
    rcases slash_or s.data.toList with h | ⟨i, h1, h2⟩
    · rw [pc_miss s h]; simp
    · have hi : i < s.size := (List.getElem?_eq_some_iff.1 h2).1
      rw [pc_hit s i h1 h2, List.map_cons, List.sum_cons, ih _ (by simp [ByteArray.size_extract]; omega)]
      simp [ByteArray.size_extract]; omega
theorem sum_le (l : List ByteArray) (h : l.all okName = true) : (l.map (fun x => x.size + 1)).sum ≤ l.length * 13 := by
  induction l with
  | nil => simp
  | cons a l ih =>
    simp only [List.all_cons, Bool.and_eq_true] at h
    have := ih h.2
    have ha : a.size ≤ 12 := by
      have h1 := h.1
      simp only [okName, Bool.and_eq_true, decide_eq_true_eq] at h1
      exact h1.1.2
    simp only [List.map_cons, List.sum_cons, List.length_cons]; omega
theorem nmOk_size (p : ByteArray) (h : nmOk p = true) : p.size ≤ 78 := by
  unfold nmOk at h
  rw [Bool.or_eq_true] at h
  rcases h with h | h
  · have h1 : p.toList = [47] := by simpa using h
    rw [ByteArray.toList_eq] at h1
    have : p.data.toList.length = p.size := Array.length_toList
    rw [h1] at this; simp at this; omega
  · simp only [Bool.and_eq_true, decide_eq_true_eq] at h
    have h1 := pc_sum _ (p.extract 1 p.size) (Nat.le_refl _)
    have h2 := sum_le _ h.2
    have h3 : (p.extract 1 p.size).size = p.size - 1 := by simp [ByteArray.size_extract]
    have := h.1.2
    omega
theorem hasSlash (p : ByteArray) : Lib.hasPrefix p.data.toList [47] = (p.data.toList[0]? == some 47) := by
  cases h : p.data.toList with
  | nil => rfl
  | cons a l => rw [Bool.eq_iff_iff]; simp [Lib.hasPrefix, List.isPrefixOf]; exact eq_comm
/-- What Names answers. -/
def NmPost (p : ByteArray) (w : World) (e : Ending) (w' : World) : Prop :=
  ((nmOk p = false ∧ e = .returned (.tuple #[.slice none 0 0, .bool false])) ∨
   (nmOk p = true ∧ ∃ a c, e = .returned (.tuple #[.slice a (names p).length c, .bool true]) ∧ Sl w' 9 1 (.slice a (names p).length c) (names p).length ((names p).map .string))) ∧ Below w.heap.size w w'
theorem names_code (p : ByteArray) (m : Int) (w : World) (hp : p.size ≤ 2000000) (hm : w.cell? ⟨0, 0, none⟩ = some (.int .i64 m)) : Calls Tryz.prog 89 #[.string p] w (NmPost p w) := by
  obtain ⟨b, hb⟩ : ∃ b, b = nmOk p := ⟨_, rfl⟩
  cases h0 : (p.toList == [47]) with
  | true =>
    have hnm : names p = [] := by simp [names, h0]
    have hok : nmOk p = true := by simp [nmOk, h0]
    have HF := hide (show NmPost p w (.returned (.tuple #[.slice none 0 0, .bool true])) w from ⟨.inr ⟨hok, none, 0, by rw [hnm]; rfl, by rw [hnm]; exact ⟨rfl, .inl ⟨rfl, rfl⟩⟩⟩, Below.refl _ _⟩)
    clear hb hnm hok
    go_enter Tryz.func89, Tryz.ntmps89
    go_wp2
    go_ret2
    exact unhide HF
  | false =>
  by_cases h78 : 78 < p.size
  · have hok : nmOk p = false := by
      cases h : nmOk p with
      | false => rfl
      | true => have := nmOk_size p h; omega
    have HF := hide (show NmPost p w (.returned (.tuple #[.slice none 0 0, .bool false])) w from ⟨.inl ⟨hok, rfl⟩, Below.refl _ _⟩)
    clear hb hok
    go_enter Tryz.func89, Tryz.ntmps89
    go_wp2
    go_ret2
    exact unhide HF
  cases h1 : (p.data.toList[0]? == some 47) with
  | false =>
    have hok : nmOk p = false := by simp only [nmOk, h0, h1]; rfl
    have HF := hide (show NmPost p w (.returned (.tuple #[.slice none 0 0, .bool false])) w from ⟨.inl ⟨hok, rfl⟩, Below.refl _ _⟩)
    have hpre := hasSlash p
    rw [h1] at hpre
    clear hb hok h1
    go_enter Tryz.func89, Tryz.ntmps89
    go_wp2_with (go_at_call 105; refine (Tryz.strings_HasPrefix _ _ _).mono ?_; rintro e w' ⟨rfl, rfl⟩)
    go_ret2
    exact unhide HF
  | true =>
    have hpre := hasSlash p
    rw [h1] at hpre
    have hp1 : 1 ≤ p.size := by
      have : p.data.toList[0]? = some 47 := by simpa using h1
      have h2 := (List.getElem?_eq_some_iff.1 this).1
      have h3 : p.data.toList.length = p.size := Array.length_toList
      omega
    have hnm : names p = pc (p.extract 1 p.size) := by simp [names, h0]
    have hok : nmOk p = (decide ((pc (p.extract 1 p.size)).length ≤ 6) && (pc (p.extract 1 p.size)).all okName) := by simp only [nmOk, h0, h1]; simp
    have hcl : (pc (p.extract 1 p.size)).length = Lib.countB (p.extract 1 p.size) ⟨#[47]⟩ + 1 := Lib.splitB_all ⟨#[47]⟩ (Nat.le_refl 1) 0 _ _ rfl
    have hsp := Tryz.strings_Split (p.extract 1 p.size) ⟨#[47]⟩ m w (by simp [ByteArray.size_extract]; omega) hm (Nat.le_refl 1)
    rw [← hcl] at hsp
    change Calls Tryz.prog 119 #[.string (p.extract 1 p.size), .string ⟨#[47]⟩] w fun e w' => e = .returned (.slice (some ⟨w.heap.size, 0, none⟩) (pc (p.extract 1 p.size)).length (pc (p.extract 1 p.size)).length) ∧ w' = w.alloc (.cells ((pc (p.extract 1 p.size)).map Value.string).toArray 9) at hsp
    have hbd := pc_bound (p.extract 1 p.size)
    have hbs : (p.extract 1 p.size).size ≤ 2000000 := by simp [ByteArray.size_extract]; omega
    have hsizes : ∀ x ∈ pc (p.extract 1 p.size), x.size ≤ 2000001 := fun x hx => by
      have h1 := pc_sum _ (p.extract 1 p.size) (Nat.le_refl _)
      have h2 : x.size + 1 ≤ ((pc (p.extract 1 p.size)).map (fun x => x.size + 1)).sum := le_sum_nat _ _ (List.mem_map.2 ⟨x, hx, rfl⟩)
      omega
    obtain ⟨P, hP⟩ : ∃ P, P = pc (p.extract 1 p.size) := ⟨_, rfl⟩
    have hS0 : Sl (w.alloc (.cells (P.map Value.string).toArray 9)) 9 1 (.slice (some ⟨w.heap.size, 0, none⟩) P.length P.length) P.length (P.map .string) :=
      ⟨by simp, .inr ⟨_, P.length, P.map .string, rfl, heap_alloc_new w _, Nat.le_refl _, by unfold maxLen; rw [hP]; omega, by simp, by rw [Nat.mul_one]; exact List.take_of_length_le (by simp)⟩⟩
    have hal : Below w.heap.size w (w.alloc (.cells (P.map Value.string).toArray 9)) := (Below.refl _ _).alloc (Nat.le_refl _) _
    rw [← hP] at hnm hok hsp hbd hsizes
    have HT : Hid (P.length ≤ 6 → P.all okName = true → NmPost p w (.returned (.tuple #[.slice (some ⟨w.heap.size, 0, none⟩) P.length P.length, .bool true])) (w.alloc (.cells (P.map Value.string).toArray 9))) := fun h1 h2 =>
      ⟨.inr ⟨by rw [hok, h2]; simp [h1], some ⟨w.heap.size, 0, none⟩, P.length, by rw [hnm], by rw [hnm]; exact hS0⟩, hal⟩
    have HFL : Hid ((¬ P.length ≤ 6) ∨ P.all okName = false → NmPost p w (.returned (.tuple #[.slice none 0 0, .bool false])) (w.alloc (.cells (P.map Value.string).toArray 9))) := fun h =>
      ⟨.inl ⟨by rw [hok]; rcases h with h | h <;> simp [h], rfl⟩, hal⟩
    have hc : ∀ k, (w.alloc (.cells (P.map Value.string).toArray 9)).cell? ⟨w.heap.size, k, none⟩ = (P[k]?).map Value.string := fun k => by
      rw [World.cell?_alloc_at _ _ _ _ rfl]; simp
    have HC := hide hc
    have HSZ := hide hsizes
    have hPl : P.length ≤ 2000001 := by omega
    clear hb hok hcl hbd hbs hP hS0 hal hnm hc hsizes h1
    by_cases h6 : 6 < P.length
    · go_enter Tryz.func89, Tryz.ntmps89
      go_wp2_with (first | (go_at_call 105; refine (Tryz.strings_HasPrefix _ _ _).mono ?_; rintro e w' ⟨rfl, hw⟩; rw [hw]; clear hw) | (go_at_call 119; refine hsp.mono ?_; rintro e w' ⟨rfl, rfl⟩))
      go_ret2
      exact unhide HFL (.inl (by omega))
    · go_enter Tryz.func89, Tryz.ntmps89
      go_wp2_with (first | (go_at_call 105; refine (Tryz.strings_HasPrefix _ _ _).mono ?_; rintro e w' ⟨rfl, hw⟩; rw [hw]; clear hw) | (go_at_call 119; refine hsp.mono ?_; rintro e w' ⟨rfl, rfl⟩))
      go_loop [25, 6] (fun i _ => ∃ k : Nat, k ≤ P.length ∧ i = .int .i64 k ∧ Hid ((P.take k).all okName = true)) (fun i _ => P.length - (intOf i).toNat)
      case atStart => exact ⟨0, Nat.zero_le _, rfl, rfl⟩
      case round =>
        obtain ⟨k, hk, rfl, hall⟩ := hrel
        by_cases hlt : k < P.length
        · have hx : P[k]? = some P[k] := List.getElem?_eq_getElem hlt
          have q : (w.alloc (.cells (P.map Value.string).toArray 9)).cell? ⟨w.heap.size, k, none⟩ = some (.string P[k]) := by rw [unhide HC, hx]; rfl
          have hsz : P[k].size ≤ maxLen := by unfold maxLen; have := unhide HSZ P[k] (List.getElem_mem _); omega
          cases hokk : okName P[k] with
          | false =>
            have hf : P.all okName = false := by rw [List.all_eq_false]; exact ⟨P[k], List.getElem_mem _, by simp [hokk]⟩
            have HX := hide (unhide HFL (.inr hf))
            clear hf hx
            go_wp2_with (go_at_call 120; refine (isName_code _ _ hsz).mono ?_; rintro e w' ⟨rfl, rfl⟩)
            go_ret2
            exact unhide HX
          | true =>
            have hs1 : (P.take (k + 1)).all okName = true := by
              rw [List.take_succ_eq_append_getElem hlt, List.all_append, unhide hall]; simp [hokk]
            have HS1 := hide hs1
            clear hs1 hx
            go_wp2_with (go_at_call 120; refine (isName_code _ _ hsz).mono ?_; rintro e w' ⟨rfl, rfl⟩)
            go_round
            case rel => exact ⟨k + 1, by omega, by go_num, HS1⟩
            case measure => simp [intOf]; omega
        · obtain rfl : k = P.length := by omega
          have ha := unhide hall
          rw [List.take_length] at ha
          have HX := hide (unhide HT (by omega) ha)
          clear ha hall
          go_wp2
          go_ret2
          exact unhide HX
end Go.Proofs.YtfabjhgkigagpaaGreatDoor
