/-
  No cell of these rows narrows 'for every input' (looked for: loops, veiled, ifaces, maps, wideKeys, modest, calm, conditions, laid).
  DERIVED. THE GIVEN ROWS OF THIS SEAT. 7 by the template 'for every input the law returns true; each argument reads behind the call as it read before'; 0 by the template 'total and deterministic' (their statements: YtildikdoimobhaaTotals.lean).
  GIVEN WITH THE SEED: the statements are not yours to turn. If you find one false, say at which input.
  Laid BY PROGRAM, IN A SANDBOX (cutbox-rows.mjs): the forced cells as the released guide's own fill.sh prints them over the translation f456fead978c7d8f… (all of the seat's roots in one cut). By AI agents, Wed Nov 11 2026. No macro, syntax, notation, axiom, sorry.
-/
import Derived.Test.YtildikdoimobhaaChecked
import GoSem.Claim
import GoSem.ClaimJoined
import GoSem.ClaimMapViews
import Derived.JoinedTies
import Derived.KernelRfl
namespace Go.Proofs.Ytildikdoimobhaa
/- THE CELL 'sum', in the pinned program and in every row, IS THE sha256 OF THE DUMP (.gsa) THAT YtildikdoimobhaaProg.lean LOADS. Nothing in Lean hashes anything: it is a label: what it is worth is what the hold of that sum in a sandbox is worth. -/
noncomputable def Try.pinned : Pinned := { name := "ytildikdoimobhaa", sum := "f456fead978c7d8f9d7703e54ac568f935c4a92e11859d777404a3aad1b1a8d1", checked := Try.checked }
namespace Rows
def none {H : Type} : Left H := { results := [], args := [] }

/-- 'miradorlaw05.HuffmanCodes': WHATEVER THE INPUT: true; the input reads as it did. -/
def huffmanCodesSpec : ChangeSpec := { name := "huffmanCodes", fn := fun _ => fun
  | [d] => { results := [.lit (.bool true)], args := [d] }
  | _ => none }
def huffmanCodesRow : OpenClaim := { program := "ytildikdoimobhaa", sum := "f456fead978c7d8f9d7703e54ac568f935c4a92e11859d777404a3aad1b1a8d1", func := "mirador/miradorlaw05.HuffmanCodes", spec := "huffmanCodes", inPlace := ["internal/reflectlite.ValueOf", "internal/reflectlite.Swapper", "(internal/reflectlite.Value).Len"], unfollowed := true, recurses := true, apart := false }
def HuffmanCodesSaid : Prop := huffmanCodesRow.holds Try.pinned (OpenSpec.ofChange huffmanCodesSpec)

/-- ITS FALSE NEIGHBOUR: 'it returns false'. Refute it at one input. -/
def huffmanCodesWrong : ChangeSpec := { name := "huffmanCodes", fn := fun _ => fun
  | [d] => { results := [.lit (.bool false)], args := [d] }
  | _ => none }
def HuffmanCodesWrongFalsely : Prop := huffmanCodesRow.holds Try.pinned (OpenSpec.ofChange huffmanCodesWrong)

/-- 'miradorlaw05.HuffmanReads': WHATEVER THE INPUT: true; the input reads as it did. -/
def huffmanReadsSpec : ChangeSpec := { name := "huffmanReads", fn := fun _ => fun
  | [d1, d2, d3] => { results := [.lit (.bool true)], args := [d1, d2, d3] }
  | _ => none }
def huffmanReadsRow : OpenClaim := { program := "ytildikdoimobhaa", sum := "f456fead978c7d8f9d7703e54ac568f935c4a92e11859d777404a3aad1b1a8d1", func := "mirador/miradorlaw05.HuffmanReads", spec := "huffmanReads", inPlace := ["internal/reflectlite.ValueOf", "internal/reflectlite.Swapper", "(internal/reflectlite.Value).Len"], unfollowed := true, recurses := true, apart := false }
def HuffmanReadsSaid : Prop := huffmanReadsRow.holds Try.pinned (OpenSpec.ofChange huffmanReadsSpec)

/-- ITS FALSE NEIGHBOUR: 'it returns false'. Refute it at one input. -/
def huffmanReadsWrong : ChangeSpec := { name := "huffmanReads", fn := fun _ => fun
  | [d1, d2, d3] => { results := [.lit (.bool false)], args := [d1, d2, d3] }
  | _ => none }
def HuffmanReadsWrongFalsely : Prop := huffmanReadsRow.holds Try.pinned (OpenSpec.ofChange huffmanReadsWrong)

/-- 'miradorlaw05.HuffmanPrefix': WHATEVER THE INPUT: true; the input reads as it did. -/
def huffmanPrefixSpec : ChangeSpec := { name := "huffmanPrefix", fn := fun _ => fun
  | [d1, d2, d3, d4] => { results := [.lit (.bool true)], args := [d1, d2, d3, d4] }
  | _ => none }
def huffmanPrefixRow : OpenClaim := { program := "ytildikdoimobhaa", sum := "f456fead978c7d8f9d7703e54ac568f935c4a92e11859d777404a3aad1b1a8d1", func := "mirador/miradorlaw05.HuffmanPrefix", spec := "huffmanPrefix", inPlace := ["internal/reflectlite.ValueOf", "internal/reflectlite.Swapper", "(internal/reflectlite.Value).Len"], unfollowed := true, recurses := true, apart := false }
def HuffmanPrefixSaid : Prop := huffmanPrefixRow.holds Try.pinned (OpenSpec.ofChange huffmanPrefixSpec)

/-- ITS FALSE NEIGHBOUR: 'it returns false'. Refute it at one input. -/
def huffmanPrefixWrong : ChangeSpec := { name := "huffmanPrefix", fn := fun _ => fun
  | [d1, d2, d3, d4] => { results := [.lit (.bool false)], args := [d1, d2, d3, d4] }
  | _ => none }
def HuffmanPrefixWrongFalsely : Prop := huffmanPrefixRow.holds Try.pinned (OpenSpec.ofChange huffmanPrefixWrong)

/-- 'miradorlaw05.HuffmanBack': WHATEVER THE INPUT: true; the input reads as it did. -/
def huffmanBackSpec : ChangeSpec := { name := "huffmanBack", fn := fun _ => fun
  | [d1, d2] => { results := [.lit (.bool true)], args := [d1, d2] }
  | _ => none }
def huffmanBackRow : OpenClaim := { program := "ytildikdoimobhaa", sum := "f456fead978c7d8f9d7703e54ac568f935c4a92e11859d777404a3aad1b1a8d1", func := "mirador/miradorlaw05.HuffmanBack", spec := "huffmanBack", inPlace := ["internal/reflectlite.ValueOf", "internal/reflectlite.Swapper", "(internal/reflectlite.Value).Len"], unfollowed := true, recurses := true, apart := false }
def HuffmanBackSaid : Prop := huffmanBackRow.holds Try.pinned (OpenSpec.ofChange huffmanBackSpec)

/-- ITS FALSE NEIGHBOUR: 'it returns false'. Refute it at one input. -/
def huffmanBackWrong : ChangeSpec := { name := "huffmanBack", fn := fun _ => fun
  | [d1, d2] => { results := [.lit (.bool false)], args := [d1, d2] }
  | _ => none }
def HuffmanBackWrongFalsely : Prop := huffmanBackRow.holds Try.pinned (OpenSpec.ofChange huffmanBackWrong)

/-- 'miradorlaw05.HuffmanLengths': WHATEVER THE INPUT: true; the input reads as it did. -/
def huffmanLengthsSpec : ChangeSpec := { name := "huffmanLengths", fn := fun _ => fun
  | [d1, d2] => { results := [.lit (.bool true)], args := [d1, d2] }
  | _ => none }
def huffmanLengthsRow : OpenClaim := { program := "ytildikdoimobhaa", sum := "f456fead978c7d8f9d7703e54ac568f935c4a92e11859d777404a3aad1b1a8d1", func := "mirador/miradorlaw05.HuffmanLengths", spec := "huffmanLengths", inPlace := ["internal/reflectlite.ValueOf", "internal/reflectlite.Swapper", "(internal/reflectlite.Value).Len"], unfollowed := true, recurses := true, apart := false }
def HuffmanLengthsSaid : Prop := huffmanLengthsRow.holds Try.pinned (OpenSpec.ofChange huffmanLengthsSpec)

/-- ITS FALSE NEIGHBOUR: 'it returns false'. Refute it at one input. -/
def huffmanLengthsWrong : ChangeSpec := { name := "huffmanLengths", fn := fun _ => fun
  | [d1, d2] => { results := [.lit (.bool false)], args := [d1, d2] }
  | _ => none }
def HuffmanLengthsWrongFalsely : Prop := huffmanLengthsRow.holds Try.pinned (OpenSpec.ofChange huffmanLengthsWrong)

/-- 'miradorlaw05.HuffmanBest': WHATEVER THE INPUT: true; the input reads as it did. -/
def huffmanBestSpec : ChangeSpec := { name := "huffmanBest", fn := fun _ => fun
  | [d1, d2] => { results := [.lit (.bool true)], args := [d1, d2] }
  | _ => none }
def huffmanBestRow : OpenClaim := { program := "ytildikdoimobhaa", sum := "f456fead978c7d8f9d7703e54ac568f935c4a92e11859d777404a3aad1b1a8d1", func := "mirador/miradorlaw05.HuffmanBest", spec := "huffmanBest", inPlace := ["internal/reflectlite.ValueOf", "internal/reflectlite.Swapper", "(internal/reflectlite.Value).Len"], unfollowed := true, recurses := true, apart := false }
def HuffmanBestSaid : Prop := huffmanBestRow.holds Try.pinned (OpenSpec.ofChange huffmanBestSpec)

/-- ITS FALSE NEIGHBOUR: 'it returns false'. Refute it at one input. -/
def huffmanBestWrong : ChangeSpec := { name := "huffmanBest", fn := fun _ => fun
  | [d1, d2] => { results := [.lit (.bool false)], args := [d1, d2] }
  | _ => none }
def HuffmanBestWrongFalsely : Prop := huffmanBestRow.holds Try.pinned (OpenSpec.ofChange huffmanBestWrong)

/-- 'miradorlaw05.HuffmanScale': WHATEVER THE INPUT: true; the input reads as it did. -/
def huffmanScaleSpec : ChangeSpec := { name := "huffmanScale", fn := fun _ => fun
  | [d1, d2, d3] => { results := [.lit (.bool true)], args := [d1, d2, d3] }
  | _ => none }
def huffmanScaleRow : OpenClaim := { program := "ytildikdoimobhaa", sum := "f456fead978c7d8f9d7703e54ac568f935c4a92e11859d777404a3aad1b1a8d1", func := "mirador/miradorlaw05.HuffmanScale", spec := "huffmanScale", inPlace := ["internal/reflectlite.ValueOf", "internal/reflectlite.Swapper", "(internal/reflectlite.Value).Len"], unfollowed := true, recurses := true, apart := false }
def HuffmanScaleSaid : Prop := huffmanScaleRow.holds Try.pinned (OpenSpec.ofChange huffmanScaleSpec)

/-- ITS FALSE NEIGHBOUR: 'it returns false'. Refute it at one input. -/
def huffmanScaleWrong : ChangeSpec := { name := "huffmanScale", fn := fun _ => fun
  | [d1, d2, d3] => { results := [.lit (.bool false)], args := [d1, d2, d3] }
  | _ => none }
def HuffmanScaleWrongFalsely : Prop := huffmanScaleRow.holds Try.pinned (OpenSpec.ofChange huffmanScaleWrong)

/- THE SECOND FORM. 'bulk': how many values and letters a reading holds, each counted each time it is reached (what is shared counts as often as it is met; a slice's spare places count too). A statement '..UptoSaid' is the law's where the arguments, and the package variables that the reading takes, are together of bulk at most 1048576: NARROWER than '..Said'. Prove '..Said' where nothing that the law and all that it calls make is longer than what came in: it says more and counts as full. Else prove '..UptoSaid'. A law counts once. -/
mutual
def uptoBulk {H : Type} : DataW H → Nat
  | .lit (.string bytes) => bytes.length + 1
  | .lit _ => 1
  | .nil => 1
  | .ptr d => uptoBulk d + 1
  | .slice elems spare => uptoBulkAll elems + uptoBulkAll spare + 1
  | .agg parts => uptoBulkAll parts + 1
  | .iface _ d => uptoBulk d + 1
  | .map entries => uptoBulkEntries entries + 1
  | .held _ => 1
def uptoBulkAll {H : Type} : List (DataW H) → Nat
  | [] => 0
  | d :: r => uptoBulk d + uptoBulkAll r
def uptoBulkEntries {H : Type} : List (Lit × DataW H) → Nat
  | [] => 0
  | x :: r => uptoBulkEntry x + uptoBulkEntries r
def uptoBulkEntry {H : Type} : Lit × DataW H → Nat
  | (.string bytes, d) => bytes.length + uptoBulk d + 1
  | (_, d) => uptoBulk d + 1
 end
def uptoSmall : (H : Type) → List (DataW H) → Bool := fun _ ds => decide (uptoBulkAll ds ≤ 1048576)
def OpenSpec.upto (s : _root_.Go.ChangeSpec) : _root_.Go.OpenSpec := { _root_.Go.OpenSpec.ofChange s with cond := some uptoSmall }

/-- 'miradorlaw05.HuffmanCodes', WHERE WHAT IT READS IS OF BULK AT MOST 1048576: true; the input reads as it did. -/
def huffmanCodesUptoRow : OpenClaim := { program := "ytildikdoimobhaa", sum := "f456fead978c7d8f9d7703e54ac568f935c4a92e11859d777404a3aad1b1a8d1", func := "mirador/miradorlaw05.HuffmanCodes", spec := "huffmanCodes", inPlace := ["internal/reflectlite.ValueOf", "internal/reflectlite.Swapper", "(internal/reflectlite.Value).Len"], unfollowed := true, recurses := true, apart := false, narrowed := true }
def HuffmanCodesUptoSaid : Prop := huffmanCodesUptoRow.holds Try.pinned (OpenSpec.upto huffmanCodesSpec)

/-- 'miradorlaw05.HuffmanReads', WHERE WHAT IT READS IS OF BULK AT MOST 1048576: true; the input reads as it did. -/
def huffmanReadsUptoRow : OpenClaim := { program := "ytildikdoimobhaa", sum := "f456fead978c7d8f9d7703e54ac568f935c4a92e11859d777404a3aad1b1a8d1", func := "mirador/miradorlaw05.HuffmanReads", spec := "huffmanReads", inPlace := ["internal/reflectlite.ValueOf", "internal/reflectlite.Swapper", "(internal/reflectlite.Value).Len"], unfollowed := true, recurses := true, apart := false, narrowed := true }
def HuffmanReadsUptoSaid : Prop := huffmanReadsUptoRow.holds Try.pinned (OpenSpec.upto huffmanReadsSpec)

/-- 'miradorlaw05.HuffmanPrefix', WHERE WHAT IT READS IS OF BULK AT MOST 1048576: true; the input reads as it did. -/
def huffmanPrefixUptoRow : OpenClaim := { program := "ytildikdoimobhaa", sum := "f456fead978c7d8f9d7703e54ac568f935c4a92e11859d777404a3aad1b1a8d1", func := "mirador/miradorlaw05.HuffmanPrefix", spec := "huffmanPrefix", inPlace := ["internal/reflectlite.ValueOf", "internal/reflectlite.Swapper", "(internal/reflectlite.Value).Len"], unfollowed := true, recurses := true, apart := false, narrowed := true }
def HuffmanPrefixUptoSaid : Prop := huffmanPrefixUptoRow.holds Try.pinned (OpenSpec.upto huffmanPrefixSpec)

/-- 'miradorlaw05.HuffmanBack', WHERE WHAT IT READS IS OF BULK AT MOST 1048576: true; the input reads as it did. -/
def huffmanBackUptoRow : OpenClaim := { program := "ytildikdoimobhaa", sum := "f456fead978c7d8f9d7703e54ac568f935c4a92e11859d777404a3aad1b1a8d1", func := "mirador/miradorlaw05.HuffmanBack", spec := "huffmanBack", inPlace := ["internal/reflectlite.ValueOf", "internal/reflectlite.Swapper", "(internal/reflectlite.Value).Len"], unfollowed := true, recurses := true, apart := false, narrowed := true }
def HuffmanBackUptoSaid : Prop := huffmanBackUptoRow.holds Try.pinned (OpenSpec.upto huffmanBackSpec)

/-- 'miradorlaw05.HuffmanLengths', WHERE WHAT IT READS IS OF BULK AT MOST 1048576: true; the input reads as it did. -/
def huffmanLengthsUptoRow : OpenClaim := { program := "ytildikdoimobhaa", sum := "f456fead978c7d8f9d7703e54ac568f935c4a92e11859d777404a3aad1b1a8d1", func := "mirador/miradorlaw05.HuffmanLengths", spec := "huffmanLengths", inPlace := ["internal/reflectlite.ValueOf", "internal/reflectlite.Swapper", "(internal/reflectlite.Value).Len"], unfollowed := true, recurses := true, apart := false, narrowed := true }
def HuffmanLengthsUptoSaid : Prop := huffmanLengthsUptoRow.holds Try.pinned (OpenSpec.upto huffmanLengthsSpec)

/-- 'miradorlaw05.HuffmanBest', WHERE WHAT IT READS IS OF BULK AT MOST 1048576: true; the input reads as it did. -/
def huffmanBestUptoRow : OpenClaim := { program := "ytildikdoimobhaa", sum := "f456fead978c7d8f9d7703e54ac568f935c4a92e11859d777404a3aad1b1a8d1", func := "mirador/miradorlaw05.HuffmanBest", spec := "huffmanBest", inPlace := ["internal/reflectlite.ValueOf", "internal/reflectlite.Swapper", "(internal/reflectlite.Value).Len"], unfollowed := true, recurses := true, apart := false, narrowed := true }
def HuffmanBestUptoSaid : Prop := huffmanBestUptoRow.holds Try.pinned (OpenSpec.upto huffmanBestSpec)

/-- 'miradorlaw05.HuffmanScale', WHERE WHAT IT READS IS OF BULK AT MOST 1048576: true; the input reads as it did. -/
def huffmanScaleUptoRow : OpenClaim := { program := "ytildikdoimobhaa", sum := "f456fead978c7d8f9d7703e54ac568f935c4a92e11859d777404a3aad1b1a8d1", func := "mirador/miradorlaw05.HuffmanScale", spec := "huffmanScale", inPlace := ["internal/reflectlite.ValueOf", "internal/reflectlite.Swapper", "(internal/reflectlite.Value).Len"], unfollowed := true, recurses := true, apart := false, narrowed := true }
def HuffmanScaleUptoSaid : Prop := huffmanScaleUptoRow.holds Try.pinned (OpenSpec.upto huffmanScaleSpec)

end Rows
end Go.Proofs.Ytildikdoimobhaa
