import Derived.Test.YtjkpbpgeedihhaaGreatDoorTie
import Derived.Test.YtjkpbpgeedihhaaGreatDoorCards
import Derived.ProofKit
import Derived.OpenShut
import Derived.Lay
import Derived.Carry
import Derived.SizedLaws
import Derived.SevenTiedAt
import Derived.Stop.Joined
set_option linter.all false
namespace Go.Proofs.YtjkpbpgeedihhaaGreatDoor
open Go.ChangeShapes Go.WideShapes Go.ChangeAt Go.RowKit
/-- The closed facts of the row, one at a time. -/
theorem and_ok {a b : Bool} (h1 : a = true) (h2 : b = true) : (a && b) = true := by rw [h1, h2]; rfl
theorem jk1 : (Rows.modelsRow.wf (OpenSpec.ofChange Rows.modelsSpec)) = true := by kernel_rfl
theorem jk2 : (laidOutB Tryz.pinned.checked.prog) = true := by kernel_rfl
theorem jk3 : (mapsRowed Tryz.pinned.checked.prog) = true := by kernel_rfl
theorem jk4 : (Tryz.f5.params.all (Tryz.pinned.checked.prog.readableRec ·)) = true := by kernel_rfl
theorem jk5 : (namedTie Tryz.pinned.checked.prog Rows.modelsRow.named Rows.modelsSpec.vars) = true := by kernel_rfl
theorem jk6 : ((Rows.modelsRow.stops == [])) = true := by kernel_rfl
theorem jk7 : ((Tryz.pinned.checked.prog.stops == [])) = true := by kernel_rfl
theorem jk8 : ((Rows.modelsRow.knobs == [])) = true := by kernel_rfl
theorem jk9 : ((Tryz.pinned.checked.prog.stopKnobs == [])) = true := by kernel_rfl
theorem jk10 : ((Rows.modelsRow.inPlace == Tryz.pinned.checked.prog.inPlace 5)) = true := by kernel_rfl
theorem jk11 : ((Rows.modelsRow.unfollowed == Tryz.pinned.checked.prog.unfollowed 5)) = true := by kernel_rfl
theorem jk12 : ((Rows.modelsRow.recurses == Tryz.pinned.checked.prog.recurses 5)) = true := by kernel_rfl
theorem jk13 : ((Rows.modelsRow.named == Tryz.pinned.checked.prog.varsNamed 5)) = true := by kernel_rfl
theorem jk14 : ((Rows.modelsRow.maps == (Tryz.f5.params.toList ++ Rows.modelsSpec.plain.varTypes Tryz.pinned.checked.prog).any (Tryz.pinned.checked.prog.mapsRec ·))) = true := by kernel_rfl
theorem jk15 : ((Rows.modelsRow.ifaces == (Tryz.f5.params.toList ++ Rows.modelsSpec.plain.varTypes Tryz.pinned.checked.prog).any (Tryz.pinned.checked.prog.ifacesRec ·))) = true := by kernel_rfl
theorem jk16 : ((Rows.modelsRow.mapsOut == Tryz.pinned.checked.prog.mapsAmong Tryz.f5.resultTypes.toList)) = true := by kernel_rfl
theorem jk17 : ((Rows.modelsRow.loops == (Tryz.f5.params.toList ++ Rows.modelsSpec.plain.varTypes Tryz.pinned.checked.prog).any (Tryz.pinned.checked.prog.loopsFrom ·))) = true := by kernel_rfl
theorem jk18 : ((Rows.modelsRow.wideKeys == (Tryz.f5.params.toList ++ Rows.modelsSpec.plain.varTypes Tryz.pinned.checked.prog ++ Tryz.f5.resultTypes.toList).any (Tryz.pinned.checked.prog.wideKeysFrom ·))) = true := by kernel_rfl
theorem jk19 : (Rows.modelsSpec.vars.all (Tryz.pinned.checked.prog.varReadable ·)) = true := by kernel_rfl
theorem jk20 : (Tryz.f5.resultTypes.all (fun t => Tryz.pinned.checked.prog.readableRec t && decide (t < Tryz.pinned.checked.prog.types.size))) = true := by kernel_rfl
theorem jk21 : ((Rows.modelsRow.ifacesOut == Tryz.f5.resultTypes.toList.any (Tryz.pinned.checked.prog.ifacesRec ·))) = true := by kernel_rfl
theorem jk22 : ((Rows.modelsRow.loopsOut == Tryz.f5.resultTypes.toList.any (Tryz.pinned.checked.prog.loopsFrom ·))) = true := by kernel_rfl
theorem jk23 : ((Rows.modelsRow.plainKeys == Tryz.pinned.checked.prog.plainKeys)) = true := by kernel_rfl
theorem jk24 : (Rows.modelsRow.shortTexts.isNone) = true := by kernel_rfl
theorem jk25 : (Tryz.pinned.checked.prog.stopsHeard) = true := by kernel_rfl
theorem jk26 : (Tryz.pinned.checked.prog.mayEnter) = true := by kernel_rfl
theorem jk27 : ((Rows.modelsRow.lifted == Tryz.pinned.checked.prog.liftsFinal)) = true := by kernel_rfl
theorem jk28 : ((Tryz.pinned.checked.prog.make == some Rows.modelsRow.make)) = true := by kernel_rfl
theorem jk29 : ((Rows.modelsRow.kinds == (if Rows.modelsRow.domain.isEmpty then [] else Tryz.f5.params.toList.map fun t => match Tryz.pinned.checked.prog.underlying t with | some (.int k) => some k | _ => none))) = true := by kernel_rfl
theorem jk30 : ((Rows.modelsRow.pinned == Rows.modelsRow.pinnedBy)) = true := by kernel_rfl
theorem jk31 : ((Rows.modelsRow.veiled == (Tryz.f5.params.toList ++ Rows.modelsSpec.plain.varTypes Tryz.pinned.checked.prog ++ Tryz.f5.resultTypes.toList).any (Tryz.pinned.checked.prog.veiledRec ·))) = true := by kernel_rfl
theorem jk32 : (Rows.modelsRow.veiledFits Tryz.pinned.checked.prog Tryz.f5.params.toList (Tryz.f5.params.toList ++ Rows.modelsSpec.plain.varTypes Tryz.pinned.checked.prog ++ Tryz.f5.resultTypes.toList)) = true := by kernel_rfl
set_option maxRecDepth 100000 in
theorem joined : joinedFacts Tryz.pinned.checked.prog 5 Tryz.f5 Rows.modelsSpec Rows.modelsRow = true := (and_ok (and_ok (and_ok (and_ok (and_ok (and_ok (and_ok (and_ok (and_ok (and_ok (and_ok (and_ok (and_ok (and_ok (and_ok (and_ok (and_ok (and_ok (and_ok (and_ok (and_ok (and_ok (and_ok (and_ok (and_ok (and_ok (and_ok (and_ok (and_ok (and_ok (and_ok jk1 jk2) jk3) jk4) jk5) jk6) jk7) jk8) jk9) jk10) jk11) jk12) jk13) jk14) jk15) jk16) jk17) jk18) jk19) jk20) jk21) jk22) jk23) jk24) jk25) jk26) jk27) jk28) jk29) jk30) jk31) jk32)
theorem looksT : true = Tryz.pinned.checked.prog.looks [] := by kernel_rfl
theorem goesT : true = Rows.modelsRow.goesBy Tryz.pinned.checked.prog := by kernel_rfl
theorem mainT : Tryz.pinned.checked.prog.mainIs = some (true, "700e9ad9e543297cfdeae0e4bdd1d5c8d1424f729902cc184a5790526fa95a5a".toList) := by kernel_rfl
theorem wfT : Rows.modelsRow.wfByText (OpenSpec.ofChange Rows.modelsSpec) = true := by kernel_rfl
theorem standT : ([25].all fun u => !Tryz.prog.wantsStandIn u) = true := by kernel_rfl
end Go.Proofs.YtjkpbpgeedihhaaGreatDoor
