/-
  No cell of these rows narrows 'for every input' (looked for: loops, veiled, ifaces, maps, wideKeys, modest, calm, conditions, laid).
  DERIVED. THE GIVEN ROWS OF THIS SEAT. 5 by the template 'for every input the law returns true; each argument reads behind the call as it read before'; 0 by the template 'total and deterministic' (their statements: YtlamdgdegmjljaaTotals.lean).
  GIVEN WITH THE SEED: the statements are not yours to turn. If you find one false, say at which input.
  Laid BY PROGRAM, IN A SANDBOX (cutbox-rows.mjs): the forced cells as the released guide's own fill.sh prints them over the translation 87f7f4284a181474… (all of the seat's roots in one cut). By AI agents, Wed Nov 11 2026. No macro, syntax, notation, axiom, sorry.
-/
import Derived.Test.YtlamdgdegmjljaaChecked
import GoSem.Claim
import GoSem.ClaimJoined
import GoSem.ClaimMapViews
import Derived.JoinedTies
import Derived.KernelRfl
namespace Go.Proofs.Ytlamdgdegmjljaa
/- THE CELL 'sum', in the pinned program and in every row, IS THE sha256 OF THE DUMP (.gsa) THAT YtlamdgdegmjljaaProg.lean LOADS. Nothing in Lean hashes anything: it is a label: what it is worth is what the hold of that sum in a sandbox is worth. -/
noncomputable def Try.pinned : Pinned := { name := "ytlamdgdegmjljaa", sum := "87f7f4284a1814749def203cdb01dbef43ec33a23a98d4023101b8d16660994b", checked := Try.checked }
namespace Rows
def none {H : Type} : Left H := { results := [], args := [] }

/-- 'miradorlaw14.ScreenDoes': WHATEVER THE INPUT: true; the input reads as it did. -/
def screenDoesSpec : ChangeSpec := { name := "screenDoes", fn := fun _ => fun
  | [d1, d2, d3] => { results := [.lit (.bool true)], args := [d1, d2, d3] }
  | _ => none }
def screenDoesRow : OpenClaim := { program := "ytlamdgdegmjljaa", sum := "87f7f4284a1814749def203cdb01dbef43ec33a23a98d4023101b8d16660994b", func := "mirador/miradorlaw14.ScreenDoes", spec := "screenDoes", unfollowed := true, recurses := true, apart := false }
def ScreenDoesSaid : Prop := screenDoesRow.holds Try.pinned (OpenSpec.ofChange screenDoesSpec)

/-- ITS FALSE NEIGHBOUR: 'it returns false'. Refute it at one input. -/
def screenDoesWrong : ChangeSpec := { name := "screenDoes", fn := fun _ => fun
  | [d1, d2, d3] => { results := [.lit (.bool false)], args := [d1, d2, d3] }
  | _ => none }
def ScreenDoesWrongFalsely : Prop := screenDoesRow.holds Try.pinned (OpenSpec.ofChange screenDoesWrong)

/-- 'miradorlaw14.ScreenRects': WHATEVER THE INPUT: true; the input reads as it did. -/
def screenRectsSpec : ChangeSpec := { name := "screenRects", fn := fun _ => fun
  | [d1, d2, d3, d4] => { results := [.lit (.bool true)], args := [d1, d2, d3, d4] }
  | _ => none }
def screenRectsRow : OpenClaim := { program := "ytlamdgdegmjljaa", sum := "87f7f4284a1814749def203cdb01dbef43ec33a23a98d4023101b8d16660994b", func := "mirador/miradorlaw14.ScreenRects", spec := "screenRects", unfollowed := true, recurses := true, apart := false }
def ScreenRectsSaid : Prop := screenRectsRow.holds Try.pinned (OpenSpec.ofChange screenRectsSpec)

/-- ITS FALSE NEIGHBOUR: 'it returns false'. Refute it at one input. -/
def screenRectsWrong : ChangeSpec := { name := "screenRects", fn := fun _ => fun
  | [d1, d2, d3, d4] => { results := [.lit (.bool false)], args := [d1, d2, d3, d4] }
  | _ => none }
def ScreenRectsWrongFalsely : Prop := screenRectsRow.holds Try.pinned (OpenSpec.ofChange screenRectsWrong)

/-- 'miradorlaw14.ScreenApart': WHATEVER THE INPUT: true; the input reads as it did. -/
def screenApartSpec : ChangeSpec := { name := "screenApart", fn := fun _ => fun
  | [d1, d2, d3, d4] => { results := [.lit (.bool true)], args := [d1, d2, d3, d4] }
  | _ => none }
def screenApartRow : OpenClaim := { program := "ytlamdgdegmjljaa", sum := "87f7f4284a1814749def203cdb01dbef43ec33a23a98d4023101b8d16660994b", func := "mirador/miradorlaw14.ScreenApart", spec := "screenApart", unfollowed := true, recurses := true, apart := false }
def ScreenApartSaid : Prop := screenApartRow.holds Try.pinned (OpenSpec.ofChange screenApartSpec)

/-- ITS FALSE NEIGHBOUR: 'it returns false'. Refute it at one input. -/
def screenApartWrong : ChangeSpec := { name := "screenApart", fn := fun _ => fun
  | [d1, d2, d3, d4] => { results := [.lit (.bool false)], args := [d1, d2, d3, d4] }
  | _ => none }
def ScreenApartWrongFalsely : Prop := screenApartRow.holds Try.pinned (OpenSpec.ofChange screenApartWrong)

/-- 'miradorlaw14.ScreenElsewhere': WHATEVER THE INPUT: true; the input reads as it did. -/
def screenElsewhereSpec : ChangeSpec := { name := "screenElsewhere", fn := fun _ => fun
  | [d1, d2, d3, d4, d5, d6, d7] => { results := [.lit (.bool true)], args := [d1, d2, d3, d4, d5, d6, d7] }
  | _ => none }
def screenElsewhereRow : OpenClaim := { program := "ytlamdgdegmjljaa", sum := "87f7f4284a1814749def203cdb01dbef43ec33a23a98d4023101b8d16660994b", func := "mirador/miradorlaw14.ScreenElsewhere", spec := "screenElsewhere", unfollowed := true, recurses := true, apart := false }
def ScreenElsewhereSaid : Prop := screenElsewhereRow.holds Try.pinned (OpenSpec.ofChange screenElsewhereSpec)

/-- ITS FALSE NEIGHBOUR: 'it returns false'. Refute it at one input. -/
def screenElsewhereWrong : ChangeSpec := { name := "screenElsewhere", fn := fun _ => fun
  | [d1, d2, d3, d4, d5, d6, d7] => { results := [.lit (.bool false)], args := [d1, d2, d3, d4, d5, d6, d7] }
  | _ => none }
def ScreenElsewhereWrongFalsely : Prop := screenElsewhereRow.holds Try.pinned (OpenSpec.ofChange screenElsewhereWrong)

/-- 'miradorlaw14.ScreenParts': WHATEVER THE INPUT: true; the input reads as it did. -/
def screenPartsSpec : ChangeSpec := { name := "screenParts", fn := fun _ => fun
  | [d1, d2, d3, d4, d5] => { results := [.lit (.bool true)], args := [d1, d2, d3, d4, d5] }
  | _ => none }
def screenPartsRow : OpenClaim := { program := "ytlamdgdegmjljaa", sum := "87f7f4284a1814749def203cdb01dbef43ec33a23a98d4023101b8d16660994b", func := "mirador/miradorlaw14.ScreenParts", spec := "screenParts", unfollowed := true, recurses := true, apart := false }
def ScreenPartsSaid : Prop := screenPartsRow.holds Try.pinned (OpenSpec.ofChange screenPartsSpec)

/-- ITS FALSE NEIGHBOUR: 'it returns false'. Refute it at one input. -/
def screenPartsWrong : ChangeSpec := { name := "screenParts", fn := fun _ => fun
  | [d1, d2, d3, d4, d5] => { results := [.lit (.bool false)], args := [d1, d2, d3, d4, d5] }
  | _ => none }
def ScreenPartsWrongFalsely : Prop := screenPartsRow.holds Try.pinned (OpenSpec.ofChange screenPartsWrong)

/- THE SECOND FORM. 'bulk': how many values and letters a reading holds, each counted each time it is reached (what is shared counts as often as it is met; a slice's spare places count too). A statement '..UptoSaid' is the law's where the arguments, and the package variables that the reading takes, are together of bulk at most 1048576: NARROWER than '..Said'. Prove '..Said' where nothing that the law and all that it calls make is longer than what came in: it says more and counts as full. Else prove '..UptoSaid'. A law counts once. -/
mutual
def uptoBulk {H : Type} : DataW H → Nat
  | .lit (.string bytes) => bytes.length + 1
  | .lit _ => 1
  | .nil => 1
  | .ptr d => uptoBulk d + 1
  | .slice elems spare => uptoBulkAll elems + uptoBulkAll spare + 1
  | .agg parts => uptoBulkAll parts + 1
  | .iface _ d => uptoBulk d + 1
  | .map entries => uptoBulkEntries entries + 1
  | .held _ => 1
def uptoBulkAll {H : Type} : List (DataW H) → Nat
  | [] => 0
  | d :: r => uptoBulk d + uptoBulkAll r
def uptoBulkEntries {H : Type} : List (Lit × DataW H) → Nat
  | [] => 0
  | x :: r => uptoBulkEntry x + uptoBulkEntries r
def uptoBulkEntry {H : Type} : Lit × DataW H → Nat
  | (.string bytes, d) => bytes.length + uptoBulk d + 1
  | (_, d) => uptoBulk d + 1
 end
def uptoSmall : (H : Type) → List (DataW H) → Bool := fun _ ds => decide (uptoBulkAll ds ≤ 1048576)
def OpenSpec.upto (s : _root_.Go.ChangeSpec) : _root_.Go.OpenSpec := { _root_.Go.OpenSpec.ofChange s with cond := some uptoSmall }

/-- 'miradorlaw14.ScreenDoes', WHERE WHAT IT READS IS OF BULK AT MOST 1048576: true; the input reads as it did. -/
def screenDoesUptoRow : OpenClaim := { program := "ytlamdgdegmjljaa", sum := "87f7f4284a1814749def203cdb01dbef43ec33a23a98d4023101b8d16660994b", func := "mirador/miradorlaw14.ScreenDoes", spec := "screenDoes", unfollowed := true, recurses := true, apart := false, narrowed := true }
def ScreenDoesUptoSaid : Prop := screenDoesUptoRow.holds Try.pinned (OpenSpec.upto screenDoesSpec)

/-- 'miradorlaw14.ScreenRects', WHERE WHAT IT READS IS OF BULK AT MOST 1048576: true; the input reads as it did. -/
def screenRectsUptoRow : OpenClaim := { program := "ytlamdgdegmjljaa", sum := "87f7f4284a1814749def203cdb01dbef43ec33a23a98d4023101b8d16660994b", func := "mirador/miradorlaw14.ScreenRects", spec := "screenRects", unfollowed := true, recurses := true, apart := false, narrowed := true }
def ScreenRectsUptoSaid : Prop := screenRectsUptoRow.holds Try.pinned (OpenSpec.upto screenRectsSpec)

/-- 'miradorlaw14.ScreenApart', WHERE WHAT IT READS IS OF BULK AT MOST 1048576: true; the input reads as it did. -/
def screenApartUptoRow : OpenClaim := { program := "ytlamdgdegmjljaa", sum := "87f7f4284a1814749def203cdb01dbef43ec33a23a98d4023101b8d16660994b", func := "mirador/miradorlaw14.ScreenApart", spec := "screenApart", unfollowed := true, recurses := true, apart := false, narrowed := true }
def ScreenApartUptoSaid : Prop := screenApartUptoRow.holds Try.pinned (OpenSpec.upto screenApartSpec)

/-- 'miradorlaw14.ScreenElsewhere', WHERE WHAT IT READS IS OF BULK AT MOST 1048576: true; the input reads as it did. -/
def screenElsewhereUptoRow : OpenClaim := { program := "ytlamdgdegmjljaa", sum := "87f7f4284a1814749def203cdb01dbef43ec33a23a98d4023101b8d16660994b", func := "mirador/miradorlaw14.ScreenElsewhere", spec := "screenElsewhere", unfollowed := true, recurses := true, apart := false, narrowed := true }
def ScreenElsewhereUptoSaid : Prop := screenElsewhereUptoRow.holds Try.pinned (OpenSpec.upto screenElsewhereSpec)

/-- 'miradorlaw14.ScreenParts', WHERE WHAT IT READS IS OF BULK AT MOST 1048576: true; the input reads as it did. -/
def screenPartsUptoRow : OpenClaim := { program := "ytlamdgdegmjljaa", sum := "87f7f4284a1814749def203cdb01dbef43ec33a23a98d4023101b8d16660994b", func := "mirador/miradorlaw14.ScreenParts", spec := "screenParts", unfollowed := true, recurses := true, apart := false, narrowed := true }
def ScreenPartsUptoSaid : Prop := screenPartsUptoRow.holds Try.pinned (OpenSpec.upto screenPartsSpec)

end Rows
end Go.Proofs.Ytlamdgdegmjljaa
