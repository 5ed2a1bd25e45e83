/- Dumps. -/
import Derived.Test.YtaieidcohdhgpaaGreatDoorCards
import Derived.Test.YtaieidcohdhgpaaGreatDoorTie
import Derived.ProofKit
import Derived.OpenShut
import Derived.Lay
import Derived.SevenTiedAt
namespace Go.Proofs.YtaieidcohdhgpaaGreatDoor
set_option maxHeartbeats 40000000
set_option maxRecDepth 100000
open Go.ChangeShapes Go.WideShapes Go.ChangeAt Go.RowKit
abbrev sD:=(Rows.OpenSpec.upto Rows.dumpsSpec).bare
abbrev rD:=Rows.dumpsUptoRow
theorem DX{a b:Bool}(ha:a=true)(hb:b=true):(a && b)=true:=by rw[ha,hb];rfl
theorem XP:Tryz.pinned.checked.prog.funcNamed rD.func=some 5:=by kernel_rfl
theorem Xy:Tryz.f5.isInstance Tryz.pinned.checked.prog rD.origin rD.targs:=of_decide_eq_true (by kernel_rfl)
theorem XD:Tryz.f5.isWrapper Tryz.pinned.checked.prog rD.wrapper rD.mainSum:=by unfold Func.isWrapper;first|(rw[if_pos (by decide +kernel)];kernel_rfl)|(rw[if_neg (by decide +kernel)];exact⟨rfl,rfl⟩)
theorem dl_k1:(rD.wf (OpenSpec.ofChange sD))=true:=by kernel_rfl
theorem dl_k2:(laidOutB Tryz.pinned.checked.prog)=true:=by kernel_rfl
theorem dl_k3:(mapsRowed Tryz.pinned.checked.prog)=true:=by kernel_rfl
theorem dl_k4:(Tryz.f5.params.all (Tryz.pinned.checked.prog.readableRec ·))=true:=by kernel_rfl
theorem dl_k5:(namedTie Tryz.pinned.checked.prog rD.named sD.vars)=true:=by kernel_rfl
theorem dl_k6:((rD.stops==[]))=true:=by kernel_rfl
theorem dl_k7:((Tryz.pinned.checked.prog.stops==[]))=true:=by kernel_rfl
theorem dl_k8:((rD.knobs==[]))=true:=by kernel_rfl
theorem dl_k9:((Tryz.pinned.checked.prog.stopKnobs==[]))=true:=by kernel_rfl
theorem dl_k10:((rD.inPlace==Tryz.pinned.checked.prog.inPlace 5))=true:=by kernel_rfl
theorem dl_k11:((rD.unfollowed==Tryz.pinned.checked.prog.unfollowed 5))=true:=by kernel_rfl
theorem dl_k12:((rD.recurses==Tryz.pinned.checked.prog.recurses 5))=true:=by kernel_rfl
theorem dl_k13:((rD.named==Tryz.pinned.checked.prog.varsNamed 5))=true:=by kernel_rfl
theorem dl_k14:((rD.maps==(Tryz.f5.params.toList++sD.plain.varTypes Tryz.pinned.checked.prog).any (Tryz.pinned.checked.prog.mapsRec ·)))=true:=by kernel_rfl
theorem dl_k15:((rD.ifaces==(Tryz.f5.params.toList++sD.plain.varTypes Tryz.pinned.checked.prog).any (Tryz.pinned.checked.prog.ifacesRec ·)))=true:=by kernel_rfl
theorem dl_k16:((rD.mapsOut==Tryz.pinned.checked.prog.mapsAmong Tryz.f5.resultTypes.toList))=true:=by kernel_rfl
theorem dl_k17:((rD.loops==(Tryz.f5.params.toList++sD.plain.varTypes Tryz.pinned.checked.prog).any (Tryz.pinned.checked.prog.loopsFrom ·)))=true:=by kernel_rfl
theorem Xz:((rD.wideKeys==(Tryz.f5.params.toList++sD.plain.varTypes Tryz.pinned.checked.prog++Tryz.f5.resultTypes.toList).any (Tryz.pinned.checked.prog.wideKeysFrom ·)))=true:=by kernel_rfl
theorem dl_k18:(sD.vars.all (Tryz.pinned.checked.prog.varReadable ·))=true:=by kernel_rfl
theorem dl_k19:(Tryz.f5.resultTypes.all (fun t=>Tryz.pinned.checked.prog.readableRec t && decide (t<Tryz.pinned.checked.prog.types.size)))=true:=by kernel_rfl
theorem dl_k20:((rD.ifacesOut==Tryz.f5.resultTypes.toList.any (Tryz.pinned.checked.prog.ifacesRec ·)))=true:=by kernel_rfl
theorem dl_k21:((rD.loopsOut==Tryz.f5.resultTypes.toList.any (Tryz.pinned.checked.prog.loopsFrom ·)))=true:=by kernel_rfl
theorem dl_k22:((rD.plainKeys==Tryz.pinned.checked.prog.plainKeys))=true:=by kernel_rfl
theorem dl_k23:(rD.shortTexts.isNone)=true:=by kernel_rfl
theorem XA:(Tryz.pinned.checked.prog.stopsHeard)=true:=by kernel_rfl
theorem dl_k24:(Tryz.pinned.checked.prog.mayEnter)=true:=by kernel_rfl
theorem XB:((rD.lifted==Tryz.pinned.checked.prog.liftsFinal))=true:=by kernel_rfl
theorem XC:((Tryz.pinned.checked.prog.make==some rD.make))=true:=by kernel_rfl
theorem dl_k25:((rD.kinds==(if rD.domain.isEmpty then [] else Tryz.f5.params.toList.map fun t=>match Tryz.pinned.checked.prog.underlying t with|some (.int k)=>some k|_=>none)))=true:=by kernel_rfl
theorem dl_k26:((rD.pinned==rD.pinnedBy))=true:=by kernel_rfl
theorem dl_k27:((rD.veiled==(Tryz.f5.params.toList++sD.plain.varTypes Tryz.pinned.checked.prog++Tryz.f5.resultTypes.toList).any (Tryz.pinned.checked.prog.veiledRec ·)))=true:=by kernel_rfl
theorem dl_k28:(rD.veiledFits Tryz.pinned.checked.prog Tryz.f5.params.toList (Tryz.f5.params.toList++sD.plain.varTypes Tryz.pinned.checked.prog++Tryz.f5.resultTypes.toList))=true:=by kernel_rfl
theorem Zw:joinedFacts Tryz.pinned.checked.prog 5 Tryz.f5 sD rD=true:=(DX (DX (DX (DX (DX (DX (DX (DX (DX (DX (DX (DX (DX (DX (DX (DX (DX (DX (DX (DX (DX (DX (DX (DX (DX (DX (DX (DX (DX (DX (DX dl_k1 dl_k2) dl_k3) dl_k4) dl_k5) dl_k6) dl_k7) dl_k8) dl_k9) dl_k10) dl_k11) dl_k12) dl_k13) dl_k14) dl_k15) dl_k16) dl_k17) Xz) dl_k18) dl_k19) dl_k20) dl_k21) dl_k22) dl_k23) XA) dl_k24) XB) XC) dl_k25) dl_k26) dl_k27) dl_k28)
end Go.Proofs.YtaieidcohdhgpaaGreatDoor
