/-
  No cell of these rows narrows 'for every input' (looked for: loops, veiled, ifaces, maps, wideKeys, modest, calm, conditions, laid).
  DERIVED. THE GIVEN ROWS OF THIS SEAT. 7 by the template 'for every input the law returns true; each argument reads behind the call as it read before'; 0 by the template 'total and deterministic' (their statements: YtedlhfemmofbpaaTotals.lean).
  GIVEN WITH THE SEED: the statements are not yours to turn. If you find one false, say at which input.
  Laid BY PROGRAM, IN A SANDBOX (cutbox-rows.mjs): the forced cells as the released guide's own fill.sh prints them over the translation 4c13d48399acde70… (all of the seat's roots in one cut). By AI agents, Wed Nov 11 2026. No macro, syntax, notation, axiom, sorry.
-/
import Derived.Test.YtedlhfemmofbpaaChecked
import GoSem.Claim
import GoSem.ClaimJoined
import GoSem.ClaimMapViews
import Derived.JoinedTies
import Derived.KernelRfl
namespace Go.Proofs.Ytedlhfemmofbpaa
/- THE CELL 'sum', in the pinned program and in every row, IS THE sha256 OF THE DUMP (.gsa) THAT YtedlhfemmofbpaaProg.lean LOADS. Nothing in Lean hashes anything: it is a label: what it is worth is what the hold of that sum in a sandbox is worth. -/
noncomputable def Try.pinned : Pinned := { name := "ytedlhfemmofbpaa", sum := "4c13d48399acde70a70828e611739818f1ee59a561085f66b3a9f4732828c6b7", checked := Try.checked }
namespace Rows
def none {H : Type} : Left H := { results := [], args := [] }

/-- 'miradorlaw15.RegionSets': WHATEVER THE INPUT: true; the input reads as it did. -/
def regionSetsSpec : ChangeSpec := { name := "regionSets", fn := fun _ => fun
  | [d1, d2] => { results := [.lit (.bool true)], args := [d1, d2] }
  | _ => none }
def regionSetsRow : OpenClaim := { program := "ytedlhfemmofbpaa", sum := "4c13d48399acde70a70828e611739818f1ee59a561085f66b3a9f4732828c6b7", func := "mirador/miradorlaw15.RegionSets", spec := "regionSets", unfollowed := true, recurses := true, apart := false }
def RegionSetsSaid : Prop := regionSetsRow.holds Try.pinned (OpenSpec.ofChange regionSetsSpec)

/-- ITS FALSE NEIGHBOUR: 'it returns false'. Refute it at one input. -/
def regionSetsWrong : ChangeSpec := { name := "regionSets", fn := fun _ => fun
  | [d1, d2] => { results := [.lit (.bool false)], args := [d1, d2] }
  | _ => none }
def RegionSetsWrongFalsely : Prop := regionSetsRow.holds Try.pinned (OpenSpec.ofChange regionSetsWrong)

/-- 'miradorlaw15.RegionAsks': WHATEVER THE INPUT: true; the input reads as it did. -/
def regionAsksSpec : ChangeSpec := { name := "regionAsks", fn := fun _ => fun
  | [d1, d2, d3, d4, d5] => { results := [.lit (.bool true)], args := [d1, d2, d3, d4, d5] }
  | _ => none }
def regionAsksRow : OpenClaim := { program := "ytedlhfemmofbpaa", sum := "4c13d48399acde70a70828e611739818f1ee59a561085f66b3a9f4732828c6b7", func := "mirador/miradorlaw15.RegionAsks", spec := "regionAsks", unfollowed := true, recurses := true, apart := false }
def RegionAsksSaid : Prop := regionAsksRow.holds Try.pinned (OpenSpec.ofChange regionAsksSpec)

/-- ITS FALSE NEIGHBOUR: 'it returns false'. Refute it at one input. -/
def regionAsksWrong : ChangeSpec := { name := "regionAsks", fn := fun _ => fun
  | [d1, d2, d3, d4, d5] => { results := [.lit (.bool false)], args := [d1, d2, d3, d4, d5] }
  | _ => none }
def RegionAsksWrongFalsely : Prop := regionAsksRow.holds Try.pinned (OpenSpec.ofChange regionAsksWrong)

/-- 'miradorlaw15.RegionLogic': WHATEVER THE INPUT: true; the input reads as it did. -/
def regionLogicSpec : ChangeSpec := { name := "regionLogic", fn := fun _ => fun
  | [d1, d2, d3, d4] => { results := [.lit (.bool true)], args := [d1, d2, d3, d4] }
  | _ => none }
def regionLogicRow : OpenClaim := { program := "ytedlhfemmofbpaa", sum := "4c13d48399acde70a70828e611739818f1ee59a561085f66b3a9f4732828c6b7", func := "mirador/miradorlaw15.RegionLogic", spec := "regionLogic", unfollowed := true, recurses := true, apart := false }
def RegionLogicSaid : Prop := regionLogicRow.holds Try.pinned (OpenSpec.ofChange regionLogicSpec)

/-- ITS FALSE NEIGHBOUR: 'it returns false'. Refute it at one input. -/
def regionLogicWrong : ChangeSpec := { name := "regionLogic", fn := fun _ => fun
  | [d1, d2, d3, d4] => { results := [.lit (.bool false)], args := [d1, d2, d3, d4] }
  | _ => none }
def RegionLogicWrongFalsely : Prop := regionLogicRow.holds Try.pinned (OpenSpec.ofChange regionLogicWrong)

/-- 'miradorlaw15.RegionForm': WHATEVER THE INPUT: true; the input reads as it did. -/
def regionFormSpec : ChangeSpec := { name := "regionForm", fn := fun _ => fun
  | [d] => { results := [.lit (.bool true)], args := [d] }
  | _ => none }
def regionFormRow : OpenClaim := { program := "ytedlhfemmofbpaa", sum := "4c13d48399acde70a70828e611739818f1ee59a561085f66b3a9f4732828c6b7", func := "mirador/miradorlaw15.RegionForm", spec := "regionForm", unfollowed := true, recurses := true, apart := false }
def RegionFormSaid : Prop := regionFormRow.holds Try.pinned (OpenSpec.ofChange regionFormSpec)

/-- ITS FALSE NEIGHBOUR: 'it returns false'. Refute it at one input. -/
def regionFormWrong : ChangeSpec := { name := "regionForm", fn := fun _ => fun
  | [d] => { results := [.lit (.bool false)], args := [d] }
  | _ => none }
def RegionFormWrongFalsely : Prop := regionFormRow.holds Try.pinned (OpenSpec.ofChange regionFormWrong)

/-- 'miradorlaw15.RegionAlgebra': WHATEVER THE INPUT: true; the input reads as it did. -/
def regionAlgebraSpec : ChangeSpec := { name := "regionAlgebra", fn := fun _ => fun
  | [d1, d2, d3] => { results := [.lit (.bool true)], args := [d1, d2, d3] }
  | _ => none }
def regionAlgebraRow : OpenClaim := { program := "ytedlhfemmofbpaa", sum := "4c13d48399acde70a70828e611739818f1ee59a561085f66b3a9f4732828c6b7", func := "mirador/miradorlaw15.RegionAlgebra", spec := "regionAlgebra", unfollowed := true, recurses := true, apart := false }
def RegionAlgebraSaid : Prop := regionAlgebraRow.holds Try.pinned (OpenSpec.ofChange regionAlgebraSpec)

/-- ITS FALSE NEIGHBOUR: 'it returns false'. Refute it at one input. -/
def regionAlgebraWrong : ChangeSpec := { name := "regionAlgebra", fn := fun _ => fun
  | [d1, d2, d3] => { results := [.lit (.bool false)], args := [d1, d2, d3] }
  | _ => none }
def RegionAlgebraWrongFalsely : Prop := regionAlgebraRow.holds Try.pinned (OpenSpec.ofChange regionAlgebraWrong)

/-- 'miradorlaw15.RegionShifts': WHATEVER THE INPUT: true; the input reads as it did. -/
def regionShiftsSpec : ChangeSpec := { name := "regionShifts", fn := fun _ => fun
  | [d1, d2, d3, d4, d5] => { results := [.lit (.bool true)], args := [d1, d2, d3, d4, d5] }
  | _ => none }
def regionShiftsRow : OpenClaim := { program := "ytedlhfemmofbpaa", sum := "4c13d48399acde70a70828e611739818f1ee59a561085f66b3a9f4732828c6b7", func := "mirador/miradorlaw15.RegionShifts", spec := "regionShifts", unfollowed := true, recurses := true, apart := false }
def RegionShiftsSaid : Prop := regionShiftsRow.holds Try.pinned (OpenSpec.ofChange regionShiftsSpec)

/-- ITS FALSE NEIGHBOUR: 'it returns false'. Refute it at one input. -/
def regionShiftsWrong : ChangeSpec := { name := "regionShifts", fn := fun _ => fun
  | [d1, d2, d3, d4, d5] => { results := [.lit (.bool false)], args := [d1, d2, d3, d4, d5] }
  | _ => none }
def RegionShiftsWrongFalsely : Prop := regionShiftsRow.holds Try.pinned (OpenSpec.ofChange regionShiftsWrong)

/-- 'miradorlaw15.RegionBounds': WHATEVER THE INPUT: true; the input reads as it did. -/
def regionBoundsSpec : ChangeSpec := { name := "regionBounds", fn := fun _ => fun
  | [d1, d2, d3] => { results := [.lit (.bool true)], args := [d1, d2, d3] }
  | _ => none }
def regionBoundsRow : OpenClaim := { program := "ytedlhfemmofbpaa", sum := "4c13d48399acde70a70828e611739818f1ee59a561085f66b3a9f4732828c6b7", func := "mirador/miradorlaw15.RegionBounds", spec := "regionBounds", unfollowed := true, recurses := true, apart := false }
def RegionBoundsSaid : Prop := regionBoundsRow.holds Try.pinned (OpenSpec.ofChange regionBoundsSpec)

/-- ITS FALSE NEIGHBOUR: 'it returns false'. Refute it at one input. -/
def regionBoundsWrong : ChangeSpec := { name := "regionBounds", fn := fun _ => fun
  | [d1, d2, d3] => { results := [.lit (.bool false)], args := [d1, d2, d3] }
  | _ => none }
def RegionBoundsWrongFalsely : Prop := regionBoundsRow.holds Try.pinned (OpenSpec.ofChange regionBoundsWrong)

/- THE SECOND FORM. 'bulk': how many values and letters a reading holds, each counted each time it is reached (what is shared counts as often as it is met; a slice's spare places count too). A statement '..UptoSaid' is the law's where the arguments, and the package variables that the reading takes, are together of bulk at most 1048576: NARROWER than '..Said'. Prove '..Said' where nothing that the law and all that it calls make is longer than what came in: it says more and counts as full. Else prove '..UptoSaid'. A law counts once. -/
mutual
def uptoBulk {H : Type} : DataW H → Nat
  | .lit (.string bytes) => bytes.length + 1
  | .lit _ => 1
  | .nil => 1
  | .ptr d => uptoBulk d + 1
  | .slice elems spare => uptoBulkAll elems + uptoBulkAll spare + 1
  | .agg parts => uptoBulkAll parts + 1
  | .iface _ d => uptoBulk d + 1
  | .map entries => uptoBulkEntries entries + 1
  | .held _ => 1
def uptoBulkAll {H : Type} : List (DataW H) → Nat
  | [] => 0
  | d :: r => uptoBulk d + uptoBulkAll r
def uptoBulkEntries {H : Type} : List (Lit × DataW H) → Nat
  | [] => 0
  | x :: r => uptoBulkEntry x + uptoBulkEntries r
def uptoBulkEntry {H : Type} : Lit × DataW H → Nat
  | (.string bytes, d) => bytes.length + uptoBulk d + 1
  | (_, d) => uptoBulk d + 1
 end
def uptoSmall : (H : Type) → List (DataW H) → Bool := fun _ ds => decide (uptoBulkAll ds ≤ 1048576)
def OpenSpec.upto (s : _root_.Go.ChangeSpec) : _root_.Go.OpenSpec := { _root_.Go.OpenSpec.ofChange s with cond := some uptoSmall }

/-- 'miradorlaw15.RegionSets', WHERE WHAT IT READS IS OF BULK AT MOST 1048576: true; the input reads as it did. -/
def regionSetsUptoRow : OpenClaim := { program := "ytedlhfemmofbpaa", sum := "4c13d48399acde70a70828e611739818f1ee59a561085f66b3a9f4732828c6b7", func := "mirador/miradorlaw15.RegionSets", spec := "regionSets", unfollowed := true, recurses := true, apart := false, narrowed := true }
def RegionSetsUptoSaid : Prop := regionSetsUptoRow.holds Try.pinned (OpenSpec.upto regionSetsSpec)

/-- 'miradorlaw15.RegionAsks', WHERE WHAT IT READS IS OF BULK AT MOST 1048576: true; the input reads as it did. -/
def regionAsksUptoRow : OpenClaim := { program := "ytedlhfemmofbpaa", sum := "4c13d48399acde70a70828e611739818f1ee59a561085f66b3a9f4732828c6b7", func := "mirador/miradorlaw15.RegionAsks", spec := "regionAsks", unfollowed := true, recurses := true, apart := false, narrowed := true }
def RegionAsksUptoSaid : Prop := regionAsksUptoRow.holds Try.pinned (OpenSpec.upto regionAsksSpec)

/-- 'miradorlaw15.RegionLogic', WHERE WHAT IT READS IS OF BULK AT MOST 1048576: true; the input reads as it did. -/
def regionLogicUptoRow : OpenClaim := { program := "ytedlhfemmofbpaa", sum := "4c13d48399acde70a70828e611739818f1ee59a561085f66b3a9f4732828c6b7", func := "mirador/miradorlaw15.RegionLogic", spec := "regionLogic", unfollowed := true, recurses := true, apart := false, narrowed := true }
def RegionLogicUptoSaid : Prop := regionLogicUptoRow.holds Try.pinned (OpenSpec.upto regionLogicSpec)

/-- 'miradorlaw15.RegionForm', WHERE WHAT IT READS IS OF BULK AT MOST 1048576: true; the input reads as it did. -/
def regionFormUptoRow : OpenClaim := { program := "ytedlhfemmofbpaa", sum := "4c13d48399acde70a70828e611739818f1ee59a561085f66b3a9f4732828c6b7", func := "mirador/miradorlaw15.RegionForm", spec := "regionForm", unfollowed := true, recurses := true, apart := false, narrowed := true }
def RegionFormUptoSaid : Prop := regionFormUptoRow.holds Try.pinned (OpenSpec.upto regionFormSpec)

/-- 'miradorlaw15.RegionAlgebra', WHERE WHAT IT READS IS OF BULK AT MOST 1048576: true; the input reads as it did. -/
def regionAlgebraUptoRow : OpenClaim := { program := "ytedlhfemmofbpaa", sum := "4c13d48399acde70a70828e611739818f1ee59a561085f66b3a9f4732828c6b7", func := "mirador/miradorlaw15.RegionAlgebra", spec := "regionAlgebra", unfollowed := true, recurses := true, apart := false, narrowed := true }
def RegionAlgebraUptoSaid : Prop := regionAlgebraUptoRow.holds Try.pinned (OpenSpec.upto regionAlgebraSpec)

/-- 'miradorlaw15.RegionShifts', WHERE WHAT IT READS IS OF BULK AT MOST 1048576: true; the input reads as it did. -/
def regionShiftsUptoRow : OpenClaim := { program := "ytedlhfemmofbpaa", sum := "4c13d48399acde70a70828e611739818f1ee59a561085f66b3a9f4732828c6b7", func := "mirador/miradorlaw15.RegionShifts", spec := "regionShifts", unfollowed := true, recurses := true, apart := false, narrowed := true }
def RegionShiftsUptoSaid : Prop := regionShiftsUptoRow.holds Try.pinned (OpenSpec.upto regionShiftsSpec)

/-- 'miradorlaw15.RegionBounds', WHERE WHAT IT READS IS OF BULK AT MOST 1048576: true; the input reads as it did. -/
def regionBoundsUptoRow : OpenClaim := { program := "ytedlhfemmofbpaa", sum := "4c13d48399acde70a70828e611739818f1ee59a561085f66b3a9f4732828c6b7", func := "mirador/miradorlaw15.RegionBounds", spec := "regionBounds", unfollowed := true, recurses := true, apart := false, narrowed := true }
def RegionBoundsUptoSaid : Prop := regionBoundsUptoRow.holds Try.pinned (OpenSpec.upto regionBoundsSpec)

end Rows
end Go.Proofs.Ytedlhfemmofbpaa
