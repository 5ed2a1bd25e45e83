/- Kept. -/
import Derived.Shelf.Strconv.Clone
import Derived.Shelf.Strings.Prefix
import Derived.Shelf.Strings.SplitShaped
import Derived.Test.YtaieidcohdhgpaaGreatDoorProg
namespace Go.Proofs
open Tryz
open Go.Shelf
def Tryz.laysM316_ren:Go.Shelf.Ren:=⟨fun|316=>261|n=>n,fun|9=>9|3=>3|4=>4|37=>59|0=>0|127=>253|5=>5|n=>n,fun|n=>n⟩
theorem Tryz.laysM316:Go.Proofs.LaysM.n316 Tryz.prog Tryz.laysM316_ren:={
 mixed:=by kernel_rfl
 f316:=func261.trans (congrArg some (by kernel_rfl))
 t0:=underlying0
 a0:=isAgg0
 z0:=sizeOf0
 v0:=zeroValue0
 t3:=underlying3
 a3:=isAgg3
 z3:=sizeOf3
 v3:=zeroValue3
 t4:=underlying4
 a4:=isAgg4
 z4:=sizeOf4
 v4:=zeroValue4
 t9:=underlying9
 a9:=isAgg9
 z9:=sizeOf9
 v9:=zeroValue9
 t37:=underlying59
 a37:=isAgg59
 z37:=sizeOf59
 v37:=zeroValue59
 t127:=underlying253
 a127:=isAgg253
 z127:=sizeOf253
 v127:=zeroValue253
 t5:=underlying5
 a5:=isAgg5
 z5:=sizeOf5
 v5:=zeroValue5
 i0:=by kernel_rfl
 i3:=by kernel_rfl
 i4:=by kernel_rfl
 i5:=by kernel_rfl
 i9:=by kernel_rfl
 i37:=by kernel_rfl
 i127:=by kernel_rfl }
open Go.RowKit in
theorem Tryz.stringslite_Clone(s:ByteArray)(w:World)(hlim:s.size≤281474976710656):
  Calls Tryz.prog 261 #[.string s] w λe w'=>e=.returned (.string s)∧Below w.heap.size w w':=Any.stringslite_Clone Tryz.laysM316 s w hlim
def Tryz.lays99_ren:Go.Shelf.Ren:=⟨fun|99=>194|206=>208|n=>n,fun|9=>9|4=>4|3=>3|n=>n,fun|n=>n⟩
theorem Tryz.lays99:Go.Proofs.Lays.n99 Tryz.prog Tryz.lays99_ren:={
 mixed:=by kernel_rfl
 f99:=func194.trans (congrArg some (by kernel_rfl))
 f206:=func208.trans (congrArg some (by kernel_rfl))
 t3:=underlying3
 a3:=isAgg3
 z3:=sizeOf3
 v3:=zeroValue3
 t4:=underlying4
 a4:=isAgg4
 z4:=sizeOf4
 v4:=zeroValue4
 t9:=underlying9
 a9:=isAgg9
 z9:=sizeOf9
 v9:=zeroValue9 }
open Go.RowKit Go.Lib in
theorem Tryz.strings_HasPrefix(s p:ByteArray)(w:World):
  Calls Tryz.prog 194 #[.string s,.string p] w λe w'=>e=.returned (.bool (Lib.hasPrefix s.data.toList p.data.toList))∧w'=w:=Any.strings_HasPrefix Tryz.lays99 s p w
def Tryz.lays146_ren:Go.Shelf.Ren:=⟨fun|146=>262|221=>291|268=>314|138=>315|143=>316|195=>324|197=>325|218=>326|219=>248|260=>330|217=>275|225=>276|224=>277|267=>278|266=>308|314=>309|n=>n,fun|9=>9|31=>84|3=>3|4=>4|0=>0|105=>394|21=>21|5=>5|46=>252|119=>399|139=>402|138=>401|146=>379|51=>362|n=>n,fun|1=>0|3=>6|4=>7|n=>n⟩
theorem Tryz.lays146:Go.Proofs.Lays.n146 Tryz.prog Tryz.lays146_ren:={
 mixed:=by kernel_rfl
 f138:=func315.trans (congrArg some (by kernel_rfl))
 f143:=func316.trans (congrArg some (by kernel_rfl))
 f146:=func262.trans (congrArg some (by kernel_rfl))
 f195:=func324.trans (congrArg some (by kernel_rfl))
 f197:=func325.trans (congrArg some (by kernel_rfl))
 f217:=func275.trans (congrArg some (by kernel_rfl))
 f218:=func326.trans (congrArg some (by kernel_rfl))
 f219:=func248.trans (congrArg some (by kernel_rfl))
 f221:=func291.trans (congrArg some (by kernel_rfl))
 f224:=func277.trans (congrArg some (by kernel_rfl))
 f225:=func276.trans (congrArg some (by kernel_rfl))
 f260:=func330.trans (congrArg some (by kernel_rfl))
 f266:=func308.trans (congrArg some (by kernel_rfl))
 f267:=func278.trans (congrArg some (by kernel_rfl))
 f268:=func314.trans (congrArg some (by kernel_rfl))
 f314:=func309.trans (congrArg some (by kernel_rfl))
 t0:=underlying0
 a0:=isAgg0
 z0:=sizeOf0
 v0:=zeroValue0
 t3:=underlying3
 a3:=isAgg3
 z3:=sizeOf3
 v3:=zeroValue3
 t4:=underlying4
 a4:=isAgg4
 z4:=sizeOf4
 v4:=zeroValue4
 t5:=underlying5
 a5:=isAgg5
 z5:=sizeOf5
 v5:=zeroValue5
 t9:=underlying9
 a9:=isAgg9
 z9:=sizeOf9
 v9:=zeroValue9
 t21:=underlying21
 a21:=isAgg21
 z21:=sizeOf21
 v21:=zeroValue21
 t31:=underlying84
 a31:=isAgg84
 z31:=sizeOf84
 v31:=zeroValue84
 t46:=underlying252
 a46:=isAgg252
 z46:=sizeOf252
 v46:=zeroValue252
 t51:=underlying362
 a51:=isAgg362
 z51:=sizeOf362
 v51:=zeroValue362
 t105:=underlying394
 a105:=isAgg394
 z105:=sizeOf394
 v105:=zeroValue394
 t119:=underlying399
 a119:=isAgg399
 z119:=sizeOf399
 t138:=underlying401
 a138:=isAgg401
 z138:=sizeOf401
 v138:=zeroValue401
 t139:=underlying402
 a139:=isAgg402
 z139:=sizeOf402
 v139:=zeroValue402
 t146:=underlying379
 a146:=isAgg379
 z146:=sizeOf379
 v146:=zeroValue379
 g1:=by kernel_rfl
 g3:=by kernel_rfl
 g4:=by kernel_rfl }
open Go.RowKit Go.Lib in
theorem Tryz.strings_Split(s sep:ByteArray)(m:Int)(w:World)(hs:s.size<4294967281)(hm:w.cell? ⟨0,0,none⟩=some (.int .i64 m))(h1:1≤sep.size):
  Calls Tryz.prog 262 #[.string s,.string sep] w λe w'=>
   e=.returned (.slice (some ⟨w.heap.size,0,none⟩) (Lib.countB s sep+1) (Lib.countB s sep+1))∧w'=w.alloc (.cells ((Lib.splitB sep 0 (Lib.countB s sep) s).map Value.string).toArray 9):=Any.strings_Split Tryz.lays146 (by kernel_rfl) s sep m w hs hm h1
end Go.Proofs
