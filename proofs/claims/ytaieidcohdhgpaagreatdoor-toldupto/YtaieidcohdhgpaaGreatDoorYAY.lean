/- Told. -/
import Derived.Test.YtaieidcohdhgpaaGreatDoorCards
import Derived.Test.YtaieidcohdhgpaaGreatDoorTie
import Derived.ProofKit
import Derived.OpenShut
import Derived.Lay
import Derived.SevenTiedAt
namespace Go.Proofs.YtaieidcohdhgpaaGreatDoor
set_option maxHeartbeats 40000000
set_option maxRecDepth 100000
open Go.ChangeShapes Go.WideShapes Go.ChangeAt Go.RowKit

abbrev sS:=(Rows.OpenSpec.upto Rows.toldSpec).bare
abbrev rS:=Rows.toldUptoRow
theorem D2{a b:Bool}(ha:a=true)(hb:b=true):(a && b)=true:=by rw[ha,hb];rfl
theorem ZW:Tryz.pinned.checked.prog.funcNamed rS.func=some 13:=by kernel_rfl
theorem ZB:Tryz.f13.isInstance Tryz.pinned.checked.prog rS.origin rS.targs:=of_decide_eq_true (by kernel_rfl)
theorem ZG:Tryz.f13.isWrapper Tryz.pinned.checked.prog rS.wrapper rS.mainSum:=by unfold Func.isWrapper;first|(rw[if_pos (by decide +kernel)];kernel_rfl)|(rw[if_neg (by decide +kernel)];exact⟨rfl,rfl⟩)
theorem tl_k1:(rS.wf (OpenSpec.ofChange sS))=true:=by kernel_rfl
theorem tl_k2:(laidOutB Tryz.pinned.checked.prog)=true:=by kernel_rfl
theorem tl_k3:(mapsRowed Tryz.pinned.checked.prog)=true:=by kernel_rfl
theorem tl_k4:(Tryz.f13.params.all (Tryz.pinned.checked.prog.readableRec ·))=true:=by kernel_rfl
theorem tl_k5:(namedTie Tryz.pinned.checked.prog rS.named sS.vars)=true:=by kernel_rfl
theorem tl_k6:((rS.stops==[]))=true:=by kernel_rfl
theorem tl_k7:((Tryz.pinned.checked.prog.stops==[]))=true:=by kernel_rfl
theorem tl_k8:((rS.knobs==[]))=true:=by kernel_rfl
theorem tl_k9:((Tryz.pinned.checked.prog.stopKnobs==[]))=true:=by kernel_rfl
theorem tl_k10:((rS.inPlace==Tryz.pinned.checked.prog.inPlace 13))=true:=by kernel_rfl
theorem tl_k11:((rS.unfollowed==Tryz.pinned.checked.prog.unfollowed 13))=true:=by kernel_rfl
theorem tl_k12:((rS.recurses==Tryz.pinned.checked.prog.recurses 13))=true:=by kernel_rfl
theorem tl_k13:((rS.named==Tryz.pinned.checked.prog.varsNamed 13))=true:=by kernel_rfl
theorem tl_k14:((rS.maps==(Tryz.f13.params.toList++sS.plain.varTypes Tryz.pinned.checked.prog).any (Tryz.pinned.checked.prog.mapsRec ·)))=true:=by kernel_rfl
theorem tl_k15:((rS.ifaces==(Tryz.f13.params.toList++sS.plain.varTypes Tryz.pinned.checked.prog).any (Tryz.pinned.checked.prog.ifacesRec ·)))=true:=by kernel_rfl
theorem tl_k16:((rS.mapsOut==Tryz.pinned.checked.prog.mapsAmong Tryz.f13.resultTypes.toList))=true:=by kernel_rfl
theorem tl_k17:((rS.loops==(Tryz.f13.params.toList++sS.plain.varTypes Tryz.pinned.checked.prog).any (Tryz.pinned.checked.prog.loopsFrom ·)))=true:=by kernel_rfl
theorem ZC:((rS.wideKeys==(Tryz.f13.params.toList++sS.plain.varTypes Tryz.pinned.checked.prog++Tryz.f13.resultTypes.toList).any (Tryz.pinned.checked.prog.wideKeysFrom ·)))=true:=by kernel_rfl
theorem tl_k18:(sS.vars.all (Tryz.pinned.checked.prog.varReadable ·))=true:=by kernel_rfl
theorem tl_k19:(Tryz.f13.resultTypes.all (λt=>Tryz.pinned.checked.prog.readableRec t && decide (t<Tryz.pinned.checked.prog.types.size)))=true:=by kernel_rfl
theorem tl_k20:((rS.ifacesOut==Tryz.f13.resultTypes.toList.any (Tryz.pinned.checked.prog.ifacesRec ·)))=true:=by kernel_rfl
theorem tl_k21:((rS.loopsOut==Tryz.f13.resultTypes.toList.any (Tryz.pinned.checked.prog.loopsFrom ·)))=true:=by kernel_rfl
theorem tl_k22:((rS.plainKeys==Tryz.pinned.checked.prog.plainKeys))=true:=by kernel_rfl
theorem tl_k23:(rS.shortTexts.isNone)=true:=by kernel_rfl
theorem ZD:(Tryz.pinned.checked.prog.stopsHeard)=true:=by kernel_rfl
theorem tl_k24:(Tryz.pinned.checked.prog.mayEnter)=true:=by kernel_rfl
theorem ZE:((rS.lifted==Tryz.pinned.checked.prog.liftsFinal))=true:=by kernel_rfl
theorem ZF:((Tryz.pinned.checked.prog.make==some rS.make))=true:=by kernel_rfl
theorem tl_k25:((rS.kinds==(if rS.domain.isEmpty then [] else Tryz.f13.params.toList.map λt=>match Tryz.pinned.checked.prog.underlying t with|some (.int k)=>some k|_=>none)))=true:=by kernel_rfl
theorem tl_k26:((rS.pinned==rS.pinnedBy))=true:=by kernel_rfl
theorem tl_k27:((rS.veiled==(Tryz.f13.params.toList++sS.plain.varTypes Tryz.pinned.checked.prog++Tryz.f13.resultTypes.toList).any (Tryz.pinned.checked.prog.veiledRec ·)))=true:=by kernel_rfl
theorem tl_k28:(rS.veiledFits Tryz.pinned.checked.prog Tryz.f13.params.toList (Tryz.f13.params.toList++sS.plain.varTypes Tryz.pinned.checked.prog++Tryz.f13.resultTypes.toList))=true:=by kernel_rfl
theorem Zle:joinedFacts Tryz.pinned.checked.prog 13 Tryz.f13 sS rS=true:=(D2 (D2 (D2 (D2 (D2 (D2 (D2 (D2 (D2 (D2 (D2 (D2 (D2 (D2 (D2 (D2 (D2 (D2 (D2 (D2 (D2 (D2 (D2 (D2 (D2 (D2 (D2 (D2 (D2 (D2 (D2 tl_k1 tl_k2) tl_k3) tl_k4) tl_k5) tl_k6) tl_k7) tl_k8) tl_k9) tl_k10) tl_k11) tl_k12) tl_k13) tl_k14) tl_k15) tl_k16) tl_k17) ZC) tl_k18) tl_k19) tl_k20) tl_k21) tl_k22) tl_k23) ZD) tl_k24) ZE) ZF) tl_k25) tl_k26) tl_k27) tl_k28)
end Go.Proofs.YtaieidcohdhgpaaGreatDoor
