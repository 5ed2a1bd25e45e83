/- Kept. -/
import Derived.Test.YtaieidcohdhgpaaGreatDoorCards
import Derived.LaidByTextLater
import Derived.ProofKit
import Derived.OpenShut
import Derived.Lay
import Derived.SevenTiedAt
namespace Go.Proofs.YtaieidcohdhgpaaGreatDoor
set_option maxHeartbeats 40000000
set_option maxRecDepth 100000
set_option linter.all false
open Go.ChangeShapes Go.WideShapes Go.ChangeAt Go.RowKit
abbrev sK:=(Rows.OpenSpec.upto Rows.keptSpec).bare
abbrev rK:=Rows.keptUptoRow
theorem Jc{a b:Bool}(ha:a=true)(hb:b=true):(a && b)=true:=by rw[ha,hb];rfl
theorem Zrn:Tryz.pinned.checked.prog.funcNamed rK.func=some 4:=by kernel_rfl
theorem Ztr:Tryz.f4.isInstance Tryz.pinned.checked.prog rK.origin rK.targs:=of_decide_eq_true (by kernel_rfl)
theorem Ztm:Tryz.f4.isWrapper Tryz.pinned.checked.prog rK.wrapper rK.mainSum:=by unfold Func.isWrapper;first|(rw[if_pos (by decide +kernel)];kernel_rfl)|(rw[if_neg (by decide +kernel)];exact⟨rfl,rfl⟩)
theorem kl_k1:(rK.wf (OpenSpec.ofChange sK))=true:=by kernel_rfl
theorem kl_k2:(laidOutB Tryz.pinned.checked.prog)=true:=by kernel_rfl
theorem kl_k3:(mapsRowed Tryz.pinned.checked.prog)=true:=by kernel_rfl
theorem kl_k4:(Tryz.f4.params.all (Tryz.pinned.checked.prog.readableRec ·))=true:=by kernel_rfl
theorem kl_k5:(namedTie Tryz.pinned.checked.prog rK.named sK.vars)=true:=by kernel_rfl
theorem kl_k6:((rK.stops==[]))=true:=by kernel_rfl
theorem kl_k7:((Tryz.pinned.checked.prog.stops==[]))=true:=by kernel_rfl
theorem kl_k8:((rK.knobs==[]))=true:=by kernel_rfl
theorem kl_k9:((Tryz.pinned.checked.prog.stopKnobs==[]))=true:=by kernel_rfl
theorem kl_k10:((rK.inPlace==Tryz.pinned.checked.prog.inPlace 4))=true:=by kernel_rfl
theorem kl_k11:((rK.unfollowed==Tryz.pinned.checked.prog.unfollowed 4))=true:=by kernel_rfl
theorem kl_k12:((rK.recurses==Tryz.pinned.checked.prog.recurses 4))=true:=by kernel_rfl
theorem kl_k13:((rK.named==Tryz.pinned.checked.prog.varsNamed 4))=true:=by kernel_rfl
theorem kl_k14:((rK.maps==(Tryz.f4.params.toList++sK.plain.varTypes Tryz.pinned.checked.prog).any (Tryz.pinned.checked.prog.mapsRec ·)))=true:=by kernel_rfl
theorem kl_k15:((rK.ifaces==(Tryz.f4.params.toList++sK.plain.varTypes Tryz.pinned.checked.prog).any (Tryz.pinned.checked.prog.ifacesRec ·)))=true:=by kernel_rfl
theorem kl_k16:((rK.mapsOut==Tryz.pinned.checked.prog.mapsAmong Tryz.f4.resultTypes.toList))=true:=by kernel_rfl
theorem kl_k17:((rK.loops==(Tryz.f4.params.toList++sK.plain.varTypes Tryz.pinned.checked.prog).any (Tryz.pinned.checked.prog.loopsFrom ·)))=true:=by kernel_rfl
theorem Ztq:((rK.wideKeys==(Tryz.f4.params.toList++sK.plain.varTypes Tryz.pinned.checked.prog++Tryz.f4.resultTypes.toList).any (Tryz.pinned.checked.prog.wideKeysFrom ·)))=true:=by kernel_rfl
theorem kl_k18:(sK.vars.all (Tryz.pinned.checked.prog.varReadable ·))=true:=by kernel_rfl
theorem kl_k19:(Tryz.f4.resultTypes.all (λt=>Tryz.pinned.checked.prog.readableRec t && decide (t<Tryz.pinned.checked.prog.types.size)))=true:=by kernel_rfl
theorem kl_k20:((rK.ifacesOut==Tryz.f4.resultTypes.toList.any (Tryz.pinned.checked.prog.ifacesRec ·)))=true:=by kernel_rfl
theorem kl_k21:((rK.loopsOut==Tryz.f4.resultTypes.toList.any (Tryz.pinned.checked.prog.loopsFrom ·)))=true:=by kernel_rfl
theorem kl_k22:((rK.plainKeys==Tryz.pinned.checked.prog.plainKeys))=true:=by kernel_rfl
theorem kl_k23:(rK.shortTexts.isNone)=true:=by kernel_rfl
theorem Ztp:(Tryz.pinned.checked.prog.stopsHeard)=true:=by kernel_rfl
theorem kl_k24:(Tryz.pinned.checked.prog.mayEnter)=true:=by kernel_rfl
theorem Zto:((rK.lifted==Tryz.pinned.checked.prog.liftsFinal))=true:=by kernel_rfl
theorem Ztn:((Tryz.pinned.checked.prog.make==some rK.make))=true:=by kernel_rfl
theorem kl_k25:((rK.kinds==(if rK.domain.isEmpty then [] else Tryz.f4.params.toList.map λt=>match Tryz.pinned.checked.prog.underlying t with|some (.int k)=>some k|_=>none)))=true:=by kernel_rfl
theorem kl_k26:((rK.pinned==rK.pinnedBy))=true:=by kernel_rfl
theorem kl_k27:((rK.veiled==(Tryz.f4.params.toList++sK.plain.varTypes Tryz.pinned.checked.prog++Tryz.f4.resultTypes.toList).any (Tryz.pinned.checked.prog.veiledRec ·)))=true:=by kernel_rfl
theorem kl_k28:(rK.veiledFits Tryz.pinned.checked.prog Tryz.f4.params.toList (Tryz.f4.params.toList++sK.plain.varTypes Tryz.pinned.checked.prog++Tryz.f4.resultTypes.toList))=true:=by kernel_rfl
theorem ZoY:joinedFacts Tryz.pinned.checked.prog 4 Tryz.f4 sK rK=true:=(Jc (Jc (Jc (Jc (Jc (Jc (Jc (Jc (Jc (Jc (Jc (Jc (Jc (Jc (Jc (Jc (Jc (Jc (Jc (Jc (Jc (Jc (Jc (Jc (Jc (Jc (Jc (Jc (Jc (Jc (Jc kl_k1 kl_k2) kl_k3) kl_k4) kl_k5) kl_k6) kl_k7) kl_k8) kl_k9) kl_k10) kl_k11) kl_k12) kl_k13) kl_k14) kl_k15) kl_k16) kl_k17) Ztq) kl_k18) kl_k19) kl_k20) kl_k21) kl_k22) kl_k23) Ztp) kl_k24) Zto) Ztn) kl_k25) kl_k26) kl_k27) kl_k28)
