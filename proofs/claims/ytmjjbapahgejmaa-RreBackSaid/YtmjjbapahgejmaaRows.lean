/-
  No cell of these rows narrows 'for every input' (looked for: loops, veiled, ifaces, maps, wideKeys, modest, calm, conditions, laid).
  DERIVED. THE GIVEN ROWS OF THIS SEAT. 6 by the template 'for every input the law returns true; each argument reads behind the call as it read before'; 0 by the template 'total and deterministic' (their statements: YtmjjbapahgejmaaTotals.lean).
  GIVEN WITH THE SEED: the statements are not yours to turn. If you find one false, say at which input.
  Laid BY PROGRAM, IN A SANDBOX (cutbox-rows.mjs): the forced cells as the released guide's own fill.sh prints them over the translation ebb5a38ac9afe4dd… (all of the seat's roots in one cut). By AI agents, Wed Nov 11 2026. No macro, syntax, notation, axiom, sorry.
-/
import Derived.Test.YtmjjbapahgejmaaChecked
import GoSem.Claim
import GoSem.ClaimJoined
import GoSem.ClaimMapViews
import Derived.JoinedTies
import Derived.KernelRfl
namespace Go.Proofs.Ytmjjbapahgejmaa
/- THE CELL 'sum', in the pinned program and in every row, IS THE sha256 OF THE DUMP (.gsa) THAT YtmjjbapahgejmaaProg.lean LOADS. Nothing in Lean hashes anything: it is a label: what it is worth is what the hold of that sum in a sandbox is worth. -/
noncomputable def Try.pinned : Pinned := { name := "ytmjjbapahgejmaa", sum := "ebb5a38ac9afe4dd27ea249ef2018af3a6aaa984d4861c2fa919b3f5325b0426", checked := Try.checked }
namespace Rows
def none {H : Type} : Left H := { results := [], args := [] }

/-- 'miradorlaw17.RrePieces': WHATEVER THE INPUT: true; the input reads as it did. -/
def rrePiecesSpec : ChangeSpec := { name := "rrePieces", fn := fun _ => fun
  | [d1, d2, d3, d4] => { results := [.lit (.bool true)], args := [d1, d2, d3, d4] }
  | _ => none }
def rrePiecesRow : OpenClaim := { program := "ytmjjbapahgejmaa", sum := "ebb5a38ac9afe4dd27ea249ef2018af3a6aaa984d4861c2fa919b3f5325b0426", func := "mirador/miradorlaw17.RrePieces", spec := "rrePieces", inPlace := ["internal/abi.NoEscape", "internal/bytealg.MakeNoZero"], unfollowed := true, recurses := true, apart := false }
def RrePiecesSaid : Prop := rrePiecesRow.holds Try.pinned (OpenSpec.ofChange rrePiecesSpec)

/-- ITS FALSE NEIGHBOUR: 'it returns false'. Refute it at one input. -/
def rrePiecesWrong : ChangeSpec := { name := "rrePieces", fn := fun _ => fun
  | [d1, d2, d3, d4] => { results := [.lit (.bool false)], args := [d1, d2, d3, d4] }
  | _ => none }
def RrePiecesWrongFalsely : Prop := rrePiecesRow.holds Try.pinned (OpenSpec.ofChange rrePiecesWrong)

/-- 'miradorlaw17.RreEncodes': WHATEVER THE INPUT: true; the input reads as it did. -/
def rreEncodesSpec : ChangeSpec := { name := "rreEncodes", fn := fun _ => fun
  | [d1, d2, d3, d4] => { results := [.lit (.bool true)], args := [d1, d2, d3, d4] }
  | _ => none }
def rreEncodesRow : OpenClaim := { program := "ytmjjbapahgejmaa", sum := "ebb5a38ac9afe4dd27ea249ef2018af3a6aaa984d4861c2fa919b3f5325b0426", func := "mirador/miradorlaw17.RreEncodes", spec := "rreEncodes", inPlace := ["internal/abi.NoEscape", "internal/bytealg.MakeNoZero"], unfollowed := true, recurses := true, apart := false }
def RreEncodesSaid : Prop := rreEncodesRow.holds Try.pinned (OpenSpec.ofChange rreEncodesSpec)

/-- ITS FALSE NEIGHBOUR: 'it returns false'. Refute it at one input. -/
def rreEncodesWrong : ChangeSpec := { name := "rreEncodes", fn := fun _ => fun
  | [d1, d2, d3, d4] => { results := [.lit (.bool false)], args := [d1, d2, d3, d4] }
  | _ => none }
def RreEncodesWrongFalsely : Prop := rreEncodesRow.holds Try.pinned (OpenSpec.ofChange rreEncodesWrong)

/-- 'miradorlaw17.RreDecodes': WHATEVER THE INPUT: true; the input reads as it did. -/
def rreDecodesSpec : ChangeSpec := { name := "rreDecodes", fn := fun _ => fun
  | [d1, d2, d3, d4] => { results := [.lit (.bool true)], args := [d1, d2, d3, d4] }
  | _ => none }
def rreDecodesRow : OpenClaim := { program := "ytmjjbapahgejmaa", sum := "ebb5a38ac9afe4dd27ea249ef2018af3a6aaa984d4861c2fa919b3f5325b0426", func := "mirador/miradorlaw17.RreDecodes", spec := "rreDecodes", inPlace := ["internal/abi.NoEscape", "internal/bytealg.MakeNoZero"], unfollowed := true, recurses := true, apart := false }
def RreDecodesSaid : Prop := rreDecodesRow.holds Try.pinned (OpenSpec.ofChange rreDecodesSpec)

/-- ITS FALSE NEIGHBOUR: 'it returns false'. Refute it at one input. -/
def rreDecodesWrong : ChangeSpec := { name := "rreDecodes", fn := fun _ => fun
  | [d1, d2, d3, d4] => { results := [.lit (.bool false)], args := [d1, d2, d3, d4] }
  | _ => none }
def RreDecodesWrongFalsely : Prop := rreDecodesRow.holds Try.pinned (OpenSpec.ofChange rreDecodesWrong)

/-- 'miradorlaw17.RreBack': WHATEVER THE INPUT: true; the input reads as it did. -/
def rreBackSpec : ChangeSpec := { name := "rreBack", fn := fun _ => fun
  | [d1, d2, d3, d4, d5] => { results := [.lit (.bool true)], args := [d1, d2, d3, d4, d5] }
  | _ => none }
def rreBackRow : OpenClaim := { program := "ytmjjbapahgejmaa", sum := "ebb5a38ac9afe4dd27ea249ef2018af3a6aaa984d4861c2fa919b3f5325b0426", func := "mirador/miradorlaw17.RreBack", spec := "rreBack", inPlace := ["internal/abi.NoEscape", "internal/bytealg.MakeNoZero"], unfollowed := true, recurses := true, apart := false }
def RreBackSaid : Prop := rreBackRow.holds Try.pinned (OpenSpec.ofChange rreBackSpec)

/-- ITS FALSE NEIGHBOUR: 'it returns false'. Refute it at one input. -/
def rreBackWrong : ChangeSpec := { name := "rreBack", fn := fun _ => fun
  | [d1, d2, d3, d4, d5] => { results := [.lit (.bool false)], args := [d1, d2, d3, d4, d5] }
  | _ => none }
def RreBackWrongFalsely : Prop := rreBackRow.holds Try.pinned (OpenSpec.ofChange rreBackWrong)

/-- 'miradorlaw17.RreCovers': WHATEVER THE INPUT: true; the input reads as it did. -/
def rreCoversSpec : ChangeSpec := { name := "rreCovers", fn := fun _ => fun
  | [d1, d2, d3, d4, d5, d6] => { results := [.lit (.bool true)], args := [d1, d2, d3, d4, d5, d6] }
  | _ => none }
def rreCoversRow : OpenClaim := { program := "ytmjjbapahgejmaa", sum := "ebb5a38ac9afe4dd27ea249ef2018af3a6aaa984d4861c2fa919b3f5325b0426", func := "mirador/miradorlaw17.RreCovers", spec := "rreCovers", inPlace := ["internal/abi.NoEscape", "internal/bytealg.MakeNoZero"], unfollowed := true, recurses := true, apart := false }
def RreCoversSaid : Prop := rreCoversRow.holds Try.pinned (OpenSpec.ofChange rreCoversSpec)

/-- ITS FALSE NEIGHBOUR: 'it returns false'. Refute it at one input. -/
def rreCoversWrong : ChangeSpec := { name := "rreCovers", fn := fun _ => fun
  | [d1, d2, d3, d4, d5, d6] => { results := [.lit (.bool false)], args := [d1, d2, d3, d4, d5, d6] }
  | _ => none }
def RreCoversWrongFalsely : Prop := rreCoversRow.holds Try.pinned (OpenSpec.ofChange rreCoversWrong)

/-- 'miradorlaw17.RreOne': WHATEVER THE INPUT: true; the input reads as it did. -/
def rreOneSpec : ChangeSpec := { name := "rreOne", fn := fun _ => fun
  | [d1, d2, d3, d4, d5, d6] => { results := [.lit (.bool true)], args := [d1, d2, d3, d4, d5, d6] }
  | _ => none }
def rreOneRow : OpenClaim := { program := "ytmjjbapahgejmaa", sum := "ebb5a38ac9afe4dd27ea249ef2018af3a6aaa984d4861c2fa919b3f5325b0426", func := "mirador/miradorlaw17.RreOne", spec := "rreOne", inPlace := ["internal/abi.NoEscape", "internal/bytealg.MakeNoZero"], unfollowed := true, recurses := true, apart := false }
def RreOneSaid : Prop := rreOneRow.holds Try.pinned (OpenSpec.ofChange rreOneSpec)

/-- ITS FALSE NEIGHBOUR: 'it returns false'. Refute it at one input. -/
def rreOneWrong : ChangeSpec := { name := "rreOne", fn := fun _ => fun
  | [d1, d2, d3, d4, d5, d6] => { results := [.lit (.bool false)], args := [d1, d2, d3, d4, d5, d6] }
  | _ => none }
def RreOneWrongFalsely : Prop := rreOneRow.holds Try.pinned (OpenSpec.ofChange rreOneWrong)

/- THE SECOND FORM. 'bulk': how many values and letters a reading holds, each counted each time it is reached (what is shared counts as often as it is met; a slice's spare places count too). A statement '..UptoSaid' is the law's where the arguments, and the package variables that the reading takes, are together of bulk at most 1048576: NARROWER than '..Said'. Prove '..Said' where nothing that the law and all that it calls make is longer than what came in: it says more and counts as full. Else prove '..UptoSaid'. A law counts once. -/
mutual
def uptoBulk {H : Type} : DataW H → Nat
  | .lit (.string bytes) => bytes.length + 1
  | .lit _ => 1
  | .nil => 1
  | .ptr d => uptoBulk d + 1
  | .slice elems spare => uptoBulkAll elems + uptoBulkAll spare + 1
  | .agg parts => uptoBulkAll parts + 1
  | .iface _ d => uptoBulk d + 1
  | .map entries => uptoBulkEntries entries + 1
  | .held _ => 1
def uptoBulkAll {H : Type} : List (DataW H) → Nat
  | [] => 0
  | d :: r => uptoBulk d + uptoBulkAll r
def uptoBulkEntries {H : Type} : List (Lit × DataW H) → Nat
  | [] => 0
  | x :: r => uptoBulkEntry x + uptoBulkEntries r
def uptoBulkEntry {H : Type} : Lit × DataW H → Nat
  | (.string bytes, d) => bytes.length + uptoBulk d + 1
  | (_, d) => uptoBulk d + 1
 end
def uptoSmall : (H : Type) → List (DataW H) → Bool := fun _ ds => decide (uptoBulkAll ds ≤ 1048576)
def OpenSpec.upto (s : _root_.Go.ChangeSpec) : _root_.Go.OpenSpec := { _root_.Go.OpenSpec.ofChange s with cond := some uptoSmall }

/-- 'miradorlaw17.RrePieces', WHERE WHAT IT READS IS OF BULK AT MOST 1048576: true; the input reads as it did. -/
def rrePiecesUptoRow : OpenClaim := { program := "ytmjjbapahgejmaa", sum := "ebb5a38ac9afe4dd27ea249ef2018af3a6aaa984d4861c2fa919b3f5325b0426", func := "mirador/miradorlaw17.RrePieces", spec := "rrePieces", inPlace := ["internal/abi.NoEscape", "internal/bytealg.MakeNoZero"], unfollowed := true, recurses := true, apart := false, narrowed := true }
def RrePiecesUptoSaid : Prop := rrePiecesUptoRow.holds Try.pinned (OpenSpec.upto rrePiecesSpec)

/-- 'miradorlaw17.RreEncodes', WHERE WHAT IT READS IS OF BULK AT MOST 1048576: true; the input reads as it did. -/
def rreEncodesUptoRow : OpenClaim := { program := "ytmjjbapahgejmaa", sum := "ebb5a38ac9afe4dd27ea249ef2018af3a6aaa984d4861c2fa919b3f5325b0426", func := "mirador/miradorlaw17.RreEncodes", spec := "rreEncodes", inPlace := ["internal/abi.NoEscape", "internal/bytealg.MakeNoZero"], unfollowed := true, recurses := true, apart := false, narrowed := true }
def RreEncodesUptoSaid : Prop := rreEncodesUptoRow.holds Try.pinned (OpenSpec.upto rreEncodesSpec)

/-- 'miradorlaw17.RreDecodes', WHERE WHAT IT READS IS OF BULK AT MOST 1048576: true; the input reads as it did. -/
def rreDecodesUptoRow : OpenClaim := { program := "ytmjjbapahgejmaa", sum := "ebb5a38ac9afe4dd27ea249ef2018af3a6aaa984d4861c2fa919b3f5325b0426", func := "mirador/miradorlaw17.RreDecodes", spec := "rreDecodes", inPlace := ["internal/abi.NoEscape", "internal/bytealg.MakeNoZero"], unfollowed := true, recurses := true, apart := false, narrowed := true }
def RreDecodesUptoSaid : Prop := rreDecodesUptoRow.holds Try.pinned (OpenSpec.upto rreDecodesSpec)

/-- 'miradorlaw17.RreBack', WHERE WHAT IT READS IS OF BULK AT MOST 1048576: true; the input reads as it did. -/
def rreBackUptoRow : OpenClaim := { program := "ytmjjbapahgejmaa", sum := "ebb5a38ac9afe4dd27ea249ef2018af3a6aaa984d4861c2fa919b3f5325b0426", func := "mirador/miradorlaw17.RreBack", spec := "rreBack", inPlace := ["internal/abi.NoEscape", "internal/bytealg.MakeNoZero"], unfollowed := true, recurses := true, apart := false, narrowed := true }
def RreBackUptoSaid : Prop := rreBackUptoRow.holds Try.pinned (OpenSpec.upto rreBackSpec)

/-- 'miradorlaw17.RreCovers', WHERE WHAT IT READS IS OF BULK AT MOST 1048576: true; the input reads as it did. -/
def rreCoversUptoRow : OpenClaim := { program := "ytmjjbapahgejmaa", sum := "ebb5a38ac9afe4dd27ea249ef2018af3a6aaa984d4861c2fa919b3f5325b0426", func := "mirador/miradorlaw17.RreCovers", spec := "rreCovers", inPlace := ["internal/abi.NoEscape", "internal/bytealg.MakeNoZero"], unfollowed := true, recurses := true, apart := false, narrowed := true }
def RreCoversUptoSaid : Prop := rreCoversUptoRow.holds Try.pinned (OpenSpec.upto rreCoversSpec)

/-- 'miradorlaw17.RreOne', WHERE WHAT IT READS IS OF BULK AT MOST 1048576: true; the input reads as it did. -/
def rreOneUptoRow : OpenClaim := { program := "ytmjjbapahgejmaa", sum := "ebb5a38ac9afe4dd27ea249ef2018af3a6aaa984d4861c2fa919b3f5325b0426", func := "mirador/miradorlaw17.RreOne", spec := "rreOne", inPlace := ["internal/abi.NoEscape", "internal/bytealg.MakeNoZero"], unfollowed := true, recurses := true, apart := false, narrowed := true }
def RreOneUptoSaid : Prop := rreOneUptoRow.holds Try.pinned (OpenSpec.upto rreOneSpec)

end Rows
end Go.Proofs.Ytmjjbapahgejmaa
