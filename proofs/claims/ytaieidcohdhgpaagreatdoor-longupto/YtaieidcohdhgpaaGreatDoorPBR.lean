/- Long. -/
import Derived.Test.YtaieidcohdhgpaaGreatDoorCards
import Derived.Test.YtaieidcohdhgpaaGreatDoorTie
import Derived.ProofKit
import Derived.OpenShut
import Derived.Lay
import Derived.SevenTiedAt
namespace Go.Proofs.YtaieidcohdhgpaaGreatDoor
set_option maxHeartbeats 8000000
set_option maxRecDepth 100000
open Go.ChangeShapes Go.WideShapes Go.ChangeAt Go.RowKit
abbrev sL:=(Rows.OpenSpec.upto Rows.longSpec).bare
abbrev rL:=Rows.longUptoRow
theorem DZ{a b:Bool}(ha:a=true)(hb:b=true):(a && b)=true:=by rw[ha,hb];rfl
theorem Zmv:Tryz.pinned.checked.prog.funcNamed rL.func=some 9:=by kernel_rfl
theorem Zn4:Tryz.f9.isInstance Tryz.pinned.checked.prog rL.origin rL.targs:=of_decide_eq_true (by kernel_rfl)
theorem ZnZ:Tryz.f9.isWrapper Tryz.pinned.checked.prog rL.wrapper rL.mainSum:=by unfold Func.isWrapper;first|(rw[if_pos (by decide +kernel)];kernel_rfl)|(rw[if_neg (by decide +kernel)];exact⟨rfl,rfl⟩)
theorem lo_k1:(rL.wf (OpenSpec.ofChange sL))=true:=by kernel_rfl
theorem lo_k2:(laidOutB Tryz.pinned.checked.prog)=true:=by kernel_rfl
theorem lo_k3:(mapsRowed Tryz.pinned.checked.prog)=true:=by kernel_rfl
theorem lo_k4:(Tryz.f9.params.all (Tryz.pinned.checked.prog.readableRec ·))=true:=by kernel_rfl
theorem lo_k5:(namedTie Tryz.pinned.checked.prog rL.named sL.vars)=true:=by kernel_rfl
theorem lo_k6:((rL.stops==[]))=true:=by kernel_rfl
theorem lo_k7:((Tryz.pinned.checked.prog.stops==[]))=true:=by kernel_rfl
theorem lo_k8:((rL.knobs==[]))=true:=by kernel_rfl
theorem lo_k9:((Tryz.pinned.checked.prog.stopKnobs==[]))=true:=by kernel_rfl
theorem lo_k10:((rL.inPlace==Tryz.pinned.checked.prog.inPlace 9))=true:=by kernel_rfl
theorem lo_k11:((rL.unfollowed==Tryz.pinned.checked.prog.unfollowed 9))=true:=by kernel_rfl
theorem lo_k12:((rL.recurses==Tryz.pinned.checked.prog.recurses 9))=true:=by kernel_rfl
theorem lo_k13:((rL.named==Tryz.pinned.checked.prog.varsNamed 9))=true:=by kernel_rfl
theorem lo_k14:((rL.maps==(Tryz.f9.params.toList++sL.plain.varTypes Tryz.pinned.checked.prog).any (Tryz.pinned.checked.prog.mapsRec ·)))=true:=by kernel_rfl
theorem lo_k15:((rL.ifaces==(Tryz.f9.params.toList++sL.plain.varTypes Tryz.pinned.checked.prog).any (Tryz.pinned.checked.prog.ifacesRec ·)))=true:=by kernel_rfl
theorem lo_k16:((rL.mapsOut==Tryz.pinned.checked.prog.mapsAmong Tryz.f9.resultTypes.toList))=true:=by kernel_rfl
theorem lo_k17:((rL.loops==(Tryz.f9.params.toList++sL.plain.varTypes Tryz.pinned.checked.prog).any (Tryz.pinned.checked.prog.loopsFrom ·)))=true:=by kernel_rfl
theorem Zn3:((rL.wideKeys==(Tryz.f9.params.toList++sL.plain.varTypes Tryz.pinned.checked.prog++Tryz.f9.resultTypes.toList).any (Tryz.pinned.checked.prog.wideKeysFrom ·)))=true:=by kernel_rfl
theorem lo_k18:(sL.vars.all (Tryz.pinned.checked.prog.varReadable ·))=true:=by kernel_rfl
theorem lo_k19:(Tryz.f9.resultTypes.all (fun t=>Tryz.pinned.checked.prog.readableRec t && decide (t<Tryz.pinned.checked.prog.types.size)))=true:=by kernel_rfl
theorem lo_k20:((rL.ifacesOut==Tryz.f9.resultTypes.toList.any (Tryz.pinned.checked.prog.ifacesRec ·)))=true:=by kernel_rfl
theorem lo_k21:((rL.loopsOut==Tryz.f9.resultTypes.toList.any (Tryz.pinned.checked.prog.loopsFrom ·)))=true:=by kernel_rfl
theorem lo_k22:((rL.plainKeys==Tryz.pinned.checked.prog.plainKeys))=true:=by kernel_rfl
theorem lo_k23:(rL.shortTexts.isNone)=true:=by kernel_rfl
theorem Zn2:(Tryz.pinned.checked.prog.stopsHeard)=true:=by kernel_rfl
theorem lo_k24:(Tryz.pinned.checked.prog.mayEnter)=true:=by kernel_rfl
theorem Zn1:((rL.lifted==Tryz.pinned.checked.prog.liftsFinal))=true:=by kernel_rfl
theorem Zn0:((Tryz.pinned.checked.prog.make==some rL.make))=true:=by kernel_rfl
theorem lo_k25:((rL.kinds==(if rL.domain.isEmpty then [] else Tryz.f9.params.toList.map fun t=>match Tryz.pinned.checked.prog.underlying t with|some (.int k)=>some k|_=>none)))=true:=by kernel_rfl
theorem lo_k26:((rL.pinned==rL.pinnedBy))=true:=by kernel_rfl
theorem lo_k27:((rL.veiled==(Tryz.f9.params.toList++sL.plain.varTypes Tryz.pinned.checked.prog++Tryz.f9.resultTypes.toList).any (Tryz.pinned.checked.prog.veiledRec ·)))=true:=by kernel_rfl
theorem lo_k28:(rL.veiledFits Tryz.pinned.checked.prog Tryz.f9.params.toList (Tryz.f9.params.toList++sL.plain.varTypes Tryz.pinned.checked.prog++Tryz.f9.resultTypes.toList))=true:=by kernel_rfl
theorem Zk0:joinedFacts Tryz.pinned.checked.prog 9 Tryz.f9 sL rL=true:=(DZ (DZ (DZ (DZ (DZ (DZ (DZ (DZ (DZ (DZ (DZ (DZ (DZ (DZ (DZ (DZ (DZ (DZ (DZ (DZ (DZ (DZ (DZ (DZ (DZ (DZ (DZ (DZ (DZ (DZ (DZ lo_k1 lo_k2) lo_k3) lo_k4) lo_k5) lo_k6) lo_k7) lo_k8) lo_k9) lo_k10) lo_k11) lo_k12) lo_k13) lo_k14) lo_k15) lo_k16) lo_k17) Zn3) lo_k18) lo_k19) lo_k20) lo_k21) lo_k22) lo_k23) Zn2) lo_k24) Zn1) Zn0) lo_k25) lo_k26) lo_k27) lo_k28)
end Go.Proofs.YtaieidcohdhgpaaGreatDoor
