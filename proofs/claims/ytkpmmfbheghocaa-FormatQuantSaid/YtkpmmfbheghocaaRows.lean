/-
  No cell of these rows narrows 'for every input' (looked for: loops, veiled, ifaces, maps, wideKeys, modest, calm, conditions, laid).
  DERIVED. THE GIVEN ROWS OF THIS SEAT. 5 by the template 'for every input the law returns true; each argument reads behind the call as it read before'; 0 by the template 'total and deterministic' (their statements: YtkpmmfbheghocaaTotals.lean).
  GIVEN WITH THE SEED: the statements are not yours to turn. If you find one false, say at which input.
  Laid BY PROGRAM, IN A SANDBOX (cutbox-rows.mjs): the forced cells as the released guide's own fill.sh prints them over the translation 0ce3596988a17895… (all of the seat's roots in one cut). By AI agents, Wed Nov 11 2026. No macro, syntax, notation, axiom, sorry.
-/
import Derived.Test.YtkpmmfbheghocaaChecked
import GoSem.Claim
import GoSem.ClaimJoined
import GoSem.ClaimMapViews
import Derived.JoinedTies
import Derived.KernelRfl
namespace Go.Proofs.Ytkpmmfbheghocaa
/- THE CELL 'sum', in the pinned program and in every row, IS THE sha256 OF THE DUMP (.gsa) THAT YtkpmmfbheghocaaProg.lean LOADS. Nothing in Lean hashes anything: it is a label: what it is worth is what the hold of that sum in a sandbox is worth. -/
noncomputable def Try.pinned : Pinned := { name := "ytkpmmfbheghocaa", sum := "0ce3596988a178954bb2e73c01d298ffca090cfdd6048c607a4e1ab0df03af01", checked := Try.checked }
namespace Rows
def none {H : Type} : Left H := { results := [], args := [] }

/-- 'miradorlaw13.FormatBytes': WHATEVER THE INPUT: true; the input reads as it did. -/
def formatBytesSpec : ChangeSpec := { name := "formatBytes", fn := fun _ => fun
  | [d1, d2] => { results := [.lit (.bool true)], args := [d1, d2] }
  | _ => none }
def formatBytesRow : OpenClaim := { program := "ytkpmmfbheghocaa", sum := "0ce3596988a178954bb2e73c01d298ffca090cfdd6048c607a4e1ab0df03af01", func := "mirador/miradorlaw13.FormatBytes", spec := "formatBytes", unfollowed := true, recurses := true, apart := false }
def FormatBytesSaid : Prop := formatBytesRow.holds Try.pinned (OpenSpec.ofChange formatBytesSpec)

/-- ITS FALSE NEIGHBOUR: 'it returns false'. Refute it at one input. -/
def formatBytesWrong : ChangeSpec := { name := "formatBytes", fn := fun _ => fun
  | [d1, d2] => { results := [.lit (.bool false)], args := [d1, d2] }
  | _ => none }
def FormatBytesWrongFalsely : Prop := formatBytesRow.holds Try.pinned (OpenSpec.ofChange formatBytesWrong)

/-- 'miradorlaw13.FormatValues': WHATEVER THE INPUT: true; the input reads as it did. -/
def formatValuesSpec : ChangeSpec := { name := "formatValues", fn := fun _ => fun
  | [d1, d2] => { results := [.lit (.bool true)], args := [d1, d2] }
  | _ => none }
def formatValuesRow : OpenClaim := { program := "ytkpmmfbheghocaa", sum := "0ce3596988a178954bb2e73c01d298ffca090cfdd6048c607a4e1ab0df03af01", func := "mirador/miradorlaw13.FormatValues", spec := "formatValues", unfollowed := true, recurses := true, apart := false }
def FormatValuesSaid : Prop := formatValuesRow.holds Try.pinned (OpenSpec.ofChange formatValuesSpec)

/-- ITS FALSE NEIGHBOUR: 'it returns false'. Refute it at one input. -/
def formatValuesWrong : ChangeSpec := { name := "formatValues", fn := fun _ => fun
  | [d1, d2] => { results := [.lit (.bool false)], args := [d1, d2] }
  | _ => none }
def FormatValuesWrongFalsely : Prop := formatValuesRow.holds Try.pinned (OpenSpec.ofChange formatValuesWrong)

/-- 'miradorlaw13.FormatBack': WHATEVER THE INPUT: true; the input reads as it did. -/
def formatBackSpec : ChangeSpec := { name := "formatBack", fn := fun _ => fun
  | [d1, d2, d3] => { results := [.lit (.bool true)], args := [d1, d2, d3] }
  | _ => none }
def formatBackRow : OpenClaim := { program := "ytkpmmfbheghocaa", sum := "0ce3596988a178954bb2e73c01d298ffca090cfdd6048c607a4e1ab0df03af01", func := "mirador/miradorlaw13.FormatBack", spec := "formatBack", unfollowed := true, recurses := true, apart := false }
def FormatBackSaid : Prop := formatBackRow.holds Try.pinned (OpenSpec.ofChange formatBackSpec)

/-- ITS FALSE NEIGHBOUR: 'it returns false'. Refute it at one input. -/
def formatBackWrong : ChangeSpec := { name := "formatBack", fn := fun _ => fun
  | [d1, d2, d3] => { results := [.lit (.bool false)], args := [d1, d2, d3] }
  | _ => none }
def FormatBackWrongFalsely : Prop := formatBackRow.holds Try.pinned (OpenSpec.ofChange formatBackWrong)

/-- 'miradorlaw13.FormatQuant': WHATEVER THE INPUT: true; the input reads as it did. -/
def formatQuantSpec : ChangeSpec := { name := "formatQuant", fn := fun _ => fun
  | [d1, d2, d3] => { results := [.lit (.bool true)], args := [d1, d2, d3] }
  | _ => none }
def formatQuantRow : OpenClaim := { program := "ytkpmmfbheghocaa", sum := "0ce3596988a178954bb2e73c01d298ffca090cfdd6048c607a4e1ab0df03af01", func := "mirador/miradorlaw13.FormatQuant", spec := "formatQuant", unfollowed := true, recurses := true, apart := false }
def FormatQuantSaid : Prop := formatQuantRow.holds Try.pinned (OpenSpec.ofChange formatQuantSpec)

/-- ITS FALSE NEIGHBOUR: 'it returns false'. Refute it at one input. -/
def formatQuantWrong : ChangeSpec := { name := "formatQuant", fn := fun _ => fun
  | [d1, d2, d3] => { results := [.lit (.bool false)], args := [d1, d2, d3] }
  | _ => none }
def FormatQuantWrongFalsely : Prop := formatQuantRow.holds Try.pinned (OpenSpec.ofChange formatQuantWrong)

/-- 'miradorlaw13.FormatOrder': WHATEVER THE INPUT: true; the input reads as it did. -/
def formatOrderSpec : ChangeSpec := { name := "formatOrder", fn := fun _ => fun
  | [d1, d2] => { results := [.lit (.bool true)], args := [d1, d2] }
  | _ => none }
def formatOrderRow : OpenClaim := { program := "ytkpmmfbheghocaa", sum := "0ce3596988a178954bb2e73c01d298ffca090cfdd6048c607a4e1ab0df03af01", func := "mirador/miradorlaw13.FormatOrder", spec := "formatOrder", unfollowed := true, recurses := true, apart := false }
def FormatOrderSaid : Prop := formatOrderRow.holds Try.pinned (OpenSpec.ofChange formatOrderSpec)

/-- ITS FALSE NEIGHBOUR: 'it returns false'. Refute it at one input. -/
def formatOrderWrong : ChangeSpec := { name := "formatOrder", fn := fun _ => fun
  | [d1, d2] => { results := [.lit (.bool false)], args := [d1, d2] }
  | _ => none }
def FormatOrderWrongFalsely : Prop := formatOrderRow.holds Try.pinned (OpenSpec.ofChange formatOrderWrong)

/- THE SECOND FORM. 'bulk': how many values and letters a reading holds, each counted each time it is reached (what is shared counts as often as it is met; a slice's spare places count too). A statement '..UptoSaid' is the law's where the arguments, and the package variables that the reading takes, are together of bulk at most 1048576: NARROWER than '..Said'. Prove '..Said' where nothing that the law and all that it calls make is longer than what came in: it says more and counts as full. Else prove '..UptoSaid'. A law counts once. -/
mutual
def uptoBulk {H : Type} : DataW H → Nat
  | .lit (.string bytes) => bytes.length + 1
  | .lit _ => 1
  | .nil => 1
  | .ptr d => uptoBulk d + 1
  | .slice elems spare => uptoBulkAll elems + uptoBulkAll spare + 1
  | .agg parts => uptoBulkAll parts + 1
  | .iface _ d => uptoBulk d + 1
  | .map entries => uptoBulkEntries entries + 1
  | .held _ => 1
def uptoBulkAll {H : Type} : List (DataW H) → Nat
  | [] => 0
  | d :: r => uptoBulk d + uptoBulkAll r
def uptoBulkEntries {H : Type} : List (Lit × DataW H) → Nat
  | [] => 0
  | x :: r => uptoBulkEntry x + uptoBulkEntries r
def uptoBulkEntry {H : Type} : Lit × DataW H → Nat
  | (.string bytes, d) => bytes.length + uptoBulk d + 1
  | (_, d) => uptoBulk d + 1
 end
def uptoSmall : (H : Type) → List (DataW H) → Bool := fun _ ds => decide (uptoBulkAll ds ≤ 1048576)
def OpenSpec.upto (s : _root_.Go.ChangeSpec) : _root_.Go.OpenSpec := { _root_.Go.OpenSpec.ofChange s with cond := some uptoSmall }

/-- 'miradorlaw13.FormatBytes', WHERE WHAT IT READS IS OF BULK AT MOST 1048576: true; the input reads as it did. -/
def formatBytesUptoRow : OpenClaim := { program := "ytkpmmfbheghocaa", sum := "0ce3596988a178954bb2e73c01d298ffca090cfdd6048c607a4e1ab0df03af01", func := "mirador/miradorlaw13.FormatBytes", spec := "formatBytes", unfollowed := true, recurses := true, apart := false, narrowed := true }
def FormatBytesUptoSaid : Prop := formatBytesUptoRow.holds Try.pinned (OpenSpec.upto formatBytesSpec)

/-- 'miradorlaw13.FormatValues', WHERE WHAT IT READS IS OF BULK AT MOST 1048576: true; the input reads as it did. -/
def formatValuesUptoRow : OpenClaim := { program := "ytkpmmfbheghocaa", sum := "0ce3596988a178954bb2e73c01d298ffca090cfdd6048c607a4e1ab0df03af01", func := "mirador/miradorlaw13.FormatValues", spec := "formatValues", unfollowed := true, recurses := true, apart := false, narrowed := true }
def FormatValuesUptoSaid : Prop := formatValuesUptoRow.holds Try.pinned (OpenSpec.upto formatValuesSpec)

/-- 'miradorlaw13.FormatBack', WHERE WHAT IT READS IS OF BULK AT MOST 1048576: true; the input reads as it did. -/
def formatBackUptoRow : OpenClaim := { program := "ytkpmmfbheghocaa", sum := "0ce3596988a178954bb2e73c01d298ffca090cfdd6048c607a4e1ab0df03af01", func := "mirador/miradorlaw13.FormatBack", spec := "formatBack", unfollowed := true, recurses := true, apart := false, narrowed := true }
def FormatBackUptoSaid : Prop := formatBackUptoRow.holds Try.pinned (OpenSpec.upto formatBackSpec)

/-- 'miradorlaw13.FormatQuant', WHERE WHAT IT READS IS OF BULK AT MOST 1048576: true; the input reads as it did. -/
def formatQuantUptoRow : OpenClaim := { program := "ytkpmmfbheghocaa", sum := "0ce3596988a178954bb2e73c01d298ffca090cfdd6048c607a4e1ab0df03af01", func := "mirador/miradorlaw13.FormatQuant", spec := "formatQuant", unfollowed := true, recurses := true, apart := false, narrowed := true }
def FormatQuantUptoSaid : Prop := formatQuantUptoRow.holds Try.pinned (OpenSpec.upto formatQuantSpec)

/-- 'miradorlaw13.FormatOrder', WHERE WHAT IT READS IS OF BULK AT MOST 1048576: true; the input reads as it did. -/
def formatOrderUptoRow : OpenClaim := { program := "ytkpmmfbheghocaa", sum := "0ce3596988a178954bb2e73c01d298ffca090cfdd6048c607a4e1ab0df03af01", func := "mirador/miradorlaw13.FormatOrder", spec := "formatOrder", unfollowed := true, recurses := true, apart := false, narrowed := true }
def FormatOrderUptoSaid : Prop := formatOrderUptoRow.holds Try.pinned (OpenSpec.upto formatOrderSpec)

end Rows
end Go.Proofs.Ytkpmmfbheghocaa
