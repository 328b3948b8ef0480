/-
  No cell of these rows narrows 'for every input' (looked for: loops, veiled, ifaces, maps, wideKeys, modest, calm, conditions, laid).
  DERIVED. THE GIVEN ROWS OF THIS SEAT. 6 by the template 'for every input the law returns true; each argument reads behind the call as it read before'; 0 by the template 'total and deterministic' (their statements: YtkpieakgpnnonaaGreatTotals.lean).
  GIVEN WITH THE SEED: the statements are not yours to turn. If you find one false, say at which input.
  Laid BY PROGRAM, IN A SANDBOX (cutbox-rows.mjs): the forced cells as the released guide's own fill.sh prints them over the translation d0ad3d267d4109e9… (all of the seat's roots in one cut). By AI agents, Wed Nov 11 2026. No macro, syntax, notation, axiom, sorry.
-/
import Derived.Test.YtkpieakgpnnonaaGreatChecked
import GoSem.Claim
import GoSem.ClaimJoined
import GoSem.ClaimMapViews
import Derived.JoinedTies
import Derived.KernelRfl
namespace Go.Proofs.YtkpieakgpnnonaaGreat
/- THE CELL 'sum', in the pinned program and in every row, IS THE sha256 OF THE DUMP (.gsa) THAT YtkpieakgpnnonaaGreatProg.lean LOADS. Nothing in Lean hashes anything: it is a label: what it is worth is what the hold of that sum in a sandbox is worth. -/
noncomputable def Tryz.pinned : Pinned := { name := "ytkpieakgpnnonaagreat", sum := "d0ad3d267d4109e99d819096307c592f6afe7644ff07411ea452274738fcffbc", checked := Tryz.checked }
namespace Rows
def none {H : Type} : Left H := { results := [], args := [] }

/-- 'miradorlaw09.DeflateStored': WHATEVER THE INPUT: true; the input reads as it did. -/
def deflateStoredSpec : ChangeSpec := { name := "deflateStored", fn := fun _ => fun
  | [d1, d2, d3] => { results := [.lit (.bool true)], args := [d1, d2, d3] }
  | _ => none }
def deflateStoredRow : OpenClaim := { program := "ytkpieakgpnnonaagreat", sum := "d0ad3d267d4109e99d819096307c592f6afe7644ff07411ea452274738fcffbc", func := "mirador/miradorlaw09.DeflateStored", spec := "deflateStored", inPlace := ["internal/reflectlite.ValueOf", "internal/reflectlite.Swapper", "(internal/reflectlite.Value).Len"], unfollowed := true, recurses := true, apart := false }
def DeflateStoredSaid : Prop := deflateStoredRow.holds Tryz.pinned (OpenSpec.ofChange deflateStoredSpec)

/-- ITS FALSE NEIGHBOUR: 'it returns false'. Refute it at one input. -/
def deflateStoredWrong : ChangeSpec := { name := "deflateStored", fn := fun _ => fun
  | [d1, d2, d3] => { results := [.lit (.bool false)], args := [d1, d2, d3] }
  | _ => none }
def DeflateStoredWrongFalsely : Prop := deflateStoredRow.holds Tryz.pinned (OpenSpec.ofChange deflateStoredWrong)

/-- 'miradorlaw09.DeflateLengths': WHATEVER THE INPUT: true; the input reads as it did. -/
def deflateLengthsSpec : ChangeSpec := { name := "deflateLengths", fn := fun _ => fun
  | [d1, d2, d3] => { results := [.lit (.bool true)], args := [d1, d2, d3] }
  | _ => none }
def deflateLengthsRow : OpenClaim := { program := "ytkpieakgpnnonaagreat", sum := "d0ad3d267d4109e99d819096307c592f6afe7644ff07411ea452274738fcffbc", func := "mirador/miradorlaw09.DeflateLengths", spec := "deflateLengths", inPlace := ["internal/reflectlite.ValueOf", "internal/reflectlite.Swapper", "(internal/reflectlite.Value).Len"], unfollowed := true, recurses := true, apart := false }
def DeflateLengthsSaid : Prop := deflateLengthsRow.holds Tryz.pinned (OpenSpec.ofChange deflateLengthsSpec)

/-- ITS FALSE NEIGHBOUR: 'it returns false'. Refute it at one input. -/
def deflateLengthsWrong : ChangeSpec := { name := "deflateLengths", fn := fun _ => fun
  | [d1, d2, d3] => { results := [.lit (.bool false)], args := [d1, d2, d3] }
  | _ => none }
def DeflateLengthsWrongFalsely : Prop := deflateLengthsRow.holds Tryz.pinned (OpenSpec.ofChange deflateLengthsWrong)

/-- 'miradorlaw09.DeflateCoded': WHATEVER THE INPUT: true; the input reads as it did. -/
def deflateCodedSpec : ChangeSpec := { name := "deflateCoded", fn := fun _ => fun
  | [d1, d2, d3, d4, d5] => { results := [.lit (.bool true)], args := [d1, d2, d3, d4, d5] }
  | _ => none }
def deflateCodedRow : OpenClaim := { program := "ytkpieakgpnnonaagreat", sum := "d0ad3d267d4109e99d819096307c592f6afe7644ff07411ea452274738fcffbc", func := "mirador/miradorlaw09.DeflateCoded", spec := "deflateCoded", inPlace := ["internal/reflectlite.ValueOf", "internal/reflectlite.Swapper", "(internal/reflectlite.Value).Len"], unfollowed := true, recurses := true, apart := false }
def DeflateCodedSaid : Prop := deflateCodedRow.holds Tryz.pinned (OpenSpec.ofChange deflateCodedSpec)

/-- ITS FALSE NEIGHBOUR: 'it returns false'. Refute it at one input. -/
def deflateCodedWrong : ChangeSpec := { name := "deflateCoded", fn := fun _ => fun
  | [d1, d2, d3, d4, d5] => { results := [.lit (.bool false)], args := [d1, d2, d3, d4, d5] }
  | _ => none }
def DeflateCodedWrongFalsely : Prop := deflateCodedRow.holds Tryz.pinned (OpenSpec.ofChange deflateCodedWrong)

/-- 'miradorlaw09.DeflateBack': WHATEVER THE INPUT: true; the input reads as it did. -/
def deflateBackSpec : ChangeSpec := { name := "deflateBack", fn := fun _ => fun
  | [d1, d2] => { results := [.lit (.bool true)], args := [d1, d2] }
  | _ => none }
def deflateBackRow : OpenClaim := { program := "ytkpieakgpnnonaagreat", sum := "d0ad3d267d4109e99d819096307c592f6afe7644ff07411ea452274738fcffbc", func := "mirador/miradorlaw09.DeflateBack", spec := "deflateBack", inPlace := ["internal/reflectlite.ValueOf", "internal/reflectlite.Swapper", "(internal/reflectlite.Value).Len"], unfollowed := true, recurses := true, apart := false }
def DeflateBackSaid : Prop := deflateBackRow.holds Tryz.pinned (OpenSpec.ofChange deflateBackSpec)

/-- ITS FALSE NEIGHBOUR: 'it returns false'. Refute it at one input. -/
def deflateBackWrong : ChangeSpec := { name := "deflateBack", fn := fun _ => fun
  | [d1, d2] => { results := [.lit (.bool false)], args := [d1, d2] }
  | _ => none }
def DeflateBackWrongFalsely : Prop := deflateBackRow.holds Tryz.pinned (OpenSpec.ofChange deflateBackWrong)

/-- 'miradorlaw09.DeflateSegments': WHATEVER THE INPUT: true; the input reads as it did. -/
def deflateSegmentsSpec : ChangeSpec := { name := "deflateSegments", fn := fun _ => fun
  | [d1, d2, d3] => { results := [.lit (.bool true)], args := [d1, d2, d3] }
  | _ => none }
def deflateSegmentsRow : OpenClaim := { program := "ytkpieakgpnnonaagreat", sum := "d0ad3d267d4109e99d819096307c592f6afe7644ff07411ea452274738fcffbc", func := "mirador/miradorlaw09.DeflateSegments", spec := "deflateSegments", inPlace := ["internal/reflectlite.ValueOf", "internal/reflectlite.Swapper", "(internal/reflectlite.Value).Len"], unfollowed := true, recurses := true, apart := false }
def DeflateSegmentsSaid : Prop := deflateSegmentsRow.holds Tryz.pinned (OpenSpec.ofChange deflateSegmentsSpec)

/-- ITS FALSE NEIGHBOUR: 'it returns false'. Refute it at one input. -/
def deflateSegmentsWrong : ChangeSpec := { name := "deflateSegments", fn := fun _ => fun
  | [d1, d2, d3] => { results := [.lit (.bool false)], args := [d1, d2, d3] }
  | _ => none }
def DeflateSegmentsWrongFalsely : Prop := deflateSegmentsRow.holds Tryz.pinned (OpenSpec.ofChange deflateSegmentsWrong)

/-- 'miradorlaw09.DeflateRuns': WHATEVER THE INPUT: true; the input reads as it did. -/
def deflateRunsSpec : ChangeSpec := { name := "deflateRuns", fn := fun _ => fun
  | [d1, d2] => { results := [.lit (.bool true)], args := [d1, d2] }
  | _ => none }
def deflateRunsRow : OpenClaim := { program := "ytkpieakgpnnonaagreat", sum := "d0ad3d267d4109e99d819096307c592f6afe7644ff07411ea452274738fcffbc", func := "mirador/miradorlaw09.DeflateRuns", spec := "deflateRuns", inPlace := ["internal/reflectlite.ValueOf", "internal/reflectlite.Swapper", "(internal/reflectlite.Value).Len"], unfollowed := true, recurses := true, apart := false }
def DeflateRunsSaid : Prop := deflateRunsRow.holds Tryz.pinned (OpenSpec.ofChange deflateRunsSpec)

/-- ITS FALSE NEIGHBOUR: 'it returns false'. Refute it at one input. -/
def deflateRunsWrong : ChangeSpec := { name := "deflateRuns", fn := fun _ => fun
  | [d1, d2] => { results := [.lit (.bool false)], args := [d1, d2] }
  | _ => none }
def DeflateRunsWrongFalsely : Prop := deflateRunsRow.holds Tryz.pinned (OpenSpec.ofChange deflateRunsWrong)

/- THE SECOND FORM. 'bulk': how many values and letters a reading holds, each counted each time it is reached (what is shared counts as often as it is met; a slice's spare places count too). A statement '..UptoSaid' is the law's where the arguments, and the package variables that the reading takes, are together of bulk at most 1048576: NARROWER than '..Said'. Prove '..Said' where nothing that the law and all that it calls make is longer than what came in: it says more and counts as full. Else prove '..UptoSaid'. A law counts once. -/
mutual
def uptoBulk {H : Type} : DataW H → Nat
  | .lit (.string bytes) => bytes.length + 1
  | .lit _ => 1
  | .nil => 1
  | .ptr d => uptoBulk d + 1
  | .slice elems spare => uptoBulkAll elems + uptoBulkAll spare + 1
  | .agg parts => uptoBulkAll parts + 1
  | .iface _ d => uptoBulk d + 1
  | .map entries => uptoBulkEntries entries + 1
  | .held _ => 1
def uptoBulkAll {H : Type} : List (DataW H) → Nat
  | [] => 0
  | d :: r => uptoBulk d + uptoBulkAll r
def uptoBulkEntries {H : Type} : List (Lit × DataW H) → Nat
  | [] => 0
  | x :: r => uptoBulkEntry x + uptoBulkEntries r
def uptoBulkEntry {H : Type} : Lit × DataW H → Nat
  | (.string bytes, d) => bytes.length + uptoBulk d + 1
  | (_, d) => uptoBulk d + 1
 end
def uptoSmall : (H : Type) → List (DataW H) → Bool := fun _ ds => decide (uptoBulkAll ds ≤ 1048576)
def OpenSpec.upto (s : _root_.Go.ChangeSpec) : _root_.Go.OpenSpec := { _root_.Go.OpenSpec.ofChange s with cond := some uptoSmall }

/-- 'miradorlaw09.DeflateStored', WHERE WHAT IT READS IS OF BULK AT MOST 1048576: true; the input reads as it did. -/
def deflateStoredUptoRow : OpenClaim := { program := "ytkpieakgpnnonaagreat", sum := "d0ad3d267d4109e99d819096307c592f6afe7644ff07411ea452274738fcffbc", func := "mirador/miradorlaw09.DeflateStored", spec := "deflateStored", inPlace := ["internal/reflectlite.ValueOf", "internal/reflectlite.Swapper", "(internal/reflectlite.Value).Len"], unfollowed := true, recurses := true, apart := false, narrowed := true }
def DeflateStoredUptoSaid : Prop := deflateStoredUptoRow.holds Tryz.pinned (OpenSpec.upto deflateStoredSpec)

/-- 'miradorlaw09.DeflateLengths', WHERE WHAT IT READS IS OF BULK AT MOST 1048576: true; the input reads as it did. -/
def deflateLengthsUptoRow : OpenClaim := { program := "ytkpieakgpnnonaagreat", sum := "d0ad3d267d4109e99d819096307c592f6afe7644ff07411ea452274738fcffbc", func := "mirador/miradorlaw09.DeflateLengths", spec := "deflateLengths", inPlace := ["internal/reflectlite.ValueOf", "internal/reflectlite.Swapper", "(internal/reflectlite.Value).Len"], unfollowed := true, recurses := true, apart := false, narrowed := true }
def DeflateLengthsUptoSaid : Prop := deflateLengthsUptoRow.holds Tryz.pinned (OpenSpec.upto deflateLengthsSpec)

/-- 'miradorlaw09.DeflateCoded', WHERE WHAT IT READS IS OF BULK AT MOST 1048576: true; the input reads as it did. -/
def deflateCodedUptoRow : OpenClaim := { program := "ytkpieakgpnnonaagreat", sum := "d0ad3d267d4109e99d819096307c592f6afe7644ff07411ea452274738fcffbc", func := "mirador/miradorlaw09.DeflateCoded", spec := "deflateCoded", inPlace := ["internal/reflectlite.ValueOf", "internal/reflectlite.Swapper", "(internal/reflectlite.Value).Len"], unfollowed := true, recurses := true, apart := false, narrowed := true }
def DeflateCodedUptoSaid : Prop := deflateCodedUptoRow.holds Tryz.pinned (OpenSpec.upto deflateCodedSpec)

/-- 'miradorlaw09.DeflateBack', WHERE WHAT IT READS IS OF BULK AT MOST 1048576: true; the input reads as it did. -/
def deflateBackUptoRow : OpenClaim := { program := "ytkpieakgpnnonaagreat", sum := "d0ad3d267d4109e99d819096307c592f6afe7644ff07411ea452274738fcffbc", func := "mirador/miradorlaw09.DeflateBack", spec := "deflateBack", inPlace := ["internal/reflectlite.ValueOf", "internal/reflectlite.Swapper", "(internal/reflectlite.Value).Len"], unfollowed := true, recurses := true, apart := false, narrowed := true }
def DeflateBackUptoSaid : Prop := deflateBackUptoRow.holds Tryz.pinned (OpenSpec.upto deflateBackSpec)

/-- 'miradorlaw09.DeflateSegments', WHERE WHAT IT READS IS OF BULK AT MOST 1048576: true; the input reads as it did. -/
def deflateSegmentsUptoRow : OpenClaim := { program := "ytkpieakgpnnonaagreat", sum := "d0ad3d267d4109e99d819096307c592f6afe7644ff07411ea452274738fcffbc", func := "mirador/miradorlaw09.DeflateSegments", spec := "deflateSegments", inPlace := ["internal/reflectlite.ValueOf", "internal/reflectlite.Swapper", "(internal/reflectlite.Value).Len"], unfollowed := true, recurses := true, apart := false, narrowed := true }
def DeflateSegmentsUptoSaid : Prop := deflateSegmentsUptoRow.holds Tryz.pinned (OpenSpec.upto deflateSegmentsSpec)

/-- 'miradorlaw09.DeflateRuns', WHERE WHAT IT READS IS OF BULK AT MOST 1048576: true; the input reads as it did. -/
def deflateRunsUptoRow : OpenClaim := { program := "ytkpieakgpnnonaagreat", sum := "d0ad3d267d4109e99d819096307c592f6afe7644ff07411ea452274738fcffbc", func := "mirador/miradorlaw09.DeflateRuns", spec := "deflateRuns", inPlace := ["internal/reflectlite.ValueOf", "internal/reflectlite.Swapper", "(internal/reflectlite.Value).Len"], unfollowed := true, recurses := true, apart := false, narrowed := true }
def DeflateRunsUptoSaid : Prop := deflateRunsUptoRow.holds Tryz.pinned (OpenSpec.upto deflateRunsSpec)

end Rows
end Go.Proofs.YtkpieakgpnnonaaGreat
