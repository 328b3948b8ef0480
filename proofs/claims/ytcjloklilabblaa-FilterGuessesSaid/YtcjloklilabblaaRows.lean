/-
  No cell of these rows narrows 'for every input' (looked for: loops, veiled, ifaces, maps, wideKeys, modest, calm, conditions, laid).
  DERIVED. THE GIVEN ROWS OF THIS SEAT. 5 by the template 'for every input the law returns true; each argument reads behind the call as it read before'; 0 by the template 'total and deterministic' (their statements: YtcjloklilabblaaTotals.lean).
  GIVEN WITH THE SEED: the statements are not yours to turn. If you find one false, say at which input.
  Laid BY PROGRAM, IN A SANDBOX (cutbox-rows.mjs): the forced cells as the released guide's own fill.sh prints them over the translation 6b5d26f28471aebc… (all of the seat's roots in one cut). By AI agents, Wed Nov 11 2026. No macro, syntax, notation, axiom, sorry.
-/
import Derived.Test.YtcjloklilabblaaChecked
import GoSem.Claim
import GoSem.ClaimJoined
import GoSem.ClaimMapViews
import Derived.JoinedTies
import Derived.KernelRfl
namespace Go.Proofs.Ytcjloklilabblaa
/- THE CELL 'sum', in the pinned program and in every row, IS THE sha256 OF THE DUMP (.gsa) THAT YtcjloklilabblaaProg.lean LOADS. Nothing in Lean hashes anything: it is a label: what it is worth is what the hold of that sum in a sandbox is worth. -/
noncomputable def Try.pinned : Pinned := { name := "ytcjloklilabblaa", sum := "6b5d26f28471aebc7879c18fa41748df72c2b2948dba6f95f1c7d95696abdaf1", checked := Try.checked }
namespace Rows
def none {H : Type} : Left H := { results := [], args := [] }

/-- 'miradorlaw11.FilterGuesses': WHATEVER THE INPUT: true; the input reads as it did. -/
def filterGuessesSpec : ChangeSpec := { name := "filterGuesses", fn := fun _ => fun
  | [d1, d2, d3, d4] => { results := [.lit (.bool true)], args := [d1, d2, d3, d4] }
  | _ => none }
def filterGuessesRow : OpenClaim := { program := "ytcjloklilabblaa", sum := "6b5d26f28471aebc7879c18fa41748df72c2b2948dba6f95f1c7d95696abdaf1", func := "mirador/miradorlaw11.FilterGuesses", spec := "filterGuesses", unfollowed := true, recurses := true, apart := false }
def FilterGuessesSaid : Prop := filterGuessesRow.holds Try.pinned (OpenSpec.ofChange filterGuessesSpec)

/-- ITS FALSE NEIGHBOUR: 'it returns false'. Refute it at one input. -/
def filterGuessesWrong : ChangeSpec := { name := "filterGuesses", fn := fun _ => fun
  | [d1, d2, d3, d4] => { results := [.lit (.bool false)], args := [d1, d2, d3, d4] }
  | _ => none }
def FilterGuessesWrongFalsely : Prop := filterGuessesRow.holds Try.pinned (OpenSpec.ofChange filterGuessesWrong)

/-- 'miradorlaw11.FilterRows': WHATEVER THE INPUT: true; the input reads as it did. -/
def filterRowsSpec : ChangeSpec := { name := "filterRows", fn := fun _ => fun
  | [d1, d2, d3, d4] => { results := [.lit (.bool true)], args := [d1, d2, d3, d4] }
  | _ => none }
def filterRowsRow : OpenClaim := { program := "ytcjloklilabblaa", sum := "6b5d26f28471aebc7879c18fa41748df72c2b2948dba6f95f1c7d95696abdaf1", func := "mirador/miradorlaw11.FilterRows", spec := "filterRows", unfollowed := true, recurses := true, apart := false }
def FilterRowsSaid : Prop := filterRowsRow.holds Try.pinned (OpenSpec.ofChange filterRowsSpec)

/-- ITS FALSE NEIGHBOUR: 'it returns false'. Refute it at one input. -/
def filterRowsWrong : ChangeSpec := { name := "filterRows", fn := fun _ => fun
  | [d1, d2, d3, d4] => { results := [.lit (.bool false)], args := [d1, d2, d3, d4] }
  | _ => none }
def FilterRowsWrongFalsely : Prop := filterRowsRow.holds Try.pinned (OpenSpec.ofChange filterRowsWrong)

/-- 'miradorlaw11.FilterBack': WHATEVER THE INPUT: true; the input reads as it did. -/
def filterBackSpec : ChangeSpec := { name := "filterBack", fn := fun _ => fun
  | [d1, d2, d3, d4] => { results := [.lit (.bool true)], args := [d1, d2, d3, d4] }
  | _ => none }
def filterBackRow : OpenClaim := { program := "ytcjloklilabblaa", sum := "6b5d26f28471aebc7879c18fa41748df72c2b2948dba6f95f1c7d95696abdaf1", func := "mirador/miradorlaw11.FilterBack", spec := "filterBack", unfollowed := true, recurses := true, apart := false }
def FilterBackSaid : Prop := filterBackRow.holds Try.pinned (OpenSpec.ofChange filterBackSpec)

/-- ITS FALSE NEIGHBOUR: 'it returns false'. Refute it at one input. -/
def filterBackWrong : ChangeSpec := { name := "filterBack", fn := fun _ => fun
  | [d1, d2, d3, d4] => { results := [.lit (.bool false)], args := [d1, d2, d3, d4] }
  | _ => none }
def FilterBackWrongFalsely : Prop := filterBackRow.holds Try.pinned (OpenSpec.ofChange filterBackWrong)

/-- 'miradorlaw11.FilterBest': WHATEVER THE INPUT: true; the input reads as it did. -/
def filterBestSpec : ChangeSpec := { name := "filterBest", fn := fun _ => fun
  | [d1, d2, d3, d4] => { results := [.lit (.bool true)], args := [d1, d2, d3, d4] }
  | _ => none }
def filterBestRow : OpenClaim := { program := "ytcjloklilabblaa", sum := "6b5d26f28471aebc7879c18fa41748df72c2b2948dba6f95f1c7d95696abdaf1", func := "mirador/miradorlaw11.FilterBest", spec := "filterBest", unfollowed := true, recurses := true, apart := false }
def FilterBestSaid : Prop := filterBestRow.holds Try.pinned (OpenSpec.ofChange filterBestSpec)

/-- ITS FALSE NEIGHBOUR: 'it returns false'. Refute it at one input. -/
def filterBestWrong : ChangeSpec := { name := "filterBest", fn := fun _ => fun
  | [d1, d2, d3, d4] => { results := [.lit (.bool false)], args := [d1, d2, d3, d4] }
  | _ => none }
def FilterBestWrongFalsely : Prop := filterBestRow.holds Try.pinned (OpenSpec.ofChange filterBestWrong)

/-- 'miradorlaw11.FilterPlain': WHATEVER THE INPUT: true; the input reads as it did. -/
def filterPlainSpec : ChangeSpec := { name := "filterPlain", fn := fun _ => fun
  | [d1, d2] => { results := [.lit (.bool true)], args := [d1, d2] }
  | _ => none }
def filterPlainRow : OpenClaim := { program := "ytcjloklilabblaa", sum := "6b5d26f28471aebc7879c18fa41748df72c2b2948dba6f95f1c7d95696abdaf1", func := "mirador/miradorlaw11.FilterPlain", spec := "filterPlain", unfollowed := true, recurses := true, apart := false }
def FilterPlainSaid : Prop := filterPlainRow.holds Try.pinned (OpenSpec.ofChange filterPlainSpec)

/-- ITS FALSE NEIGHBOUR: 'it returns false'. Refute it at one input. -/
def filterPlainWrong : ChangeSpec := { name := "filterPlain", fn := fun _ => fun
  | [d1, d2] => { results := [.lit (.bool false)], args := [d1, d2] }
  | _ => none }
def FilterPlainWrongFalsely : Prop := filterPlainRow.holds Try.pinned (OpenSpec.ofChange filterPlainWrong)

/- THE SECOND FORM. 'bulk': how many values and letters a reading holds, each counted each time it is reached (what is shared counts as often as it is met; a slice's spare places count too). A statement '..UptoSaid' is the law's where the arguments, and the package variables that the reading takes, are together of bulk at most 1048576: NARROWER than '..Said'. Prove '..Said' where nothing that the law and all that it calls make is longer than what came in: it says more and counts as full. Else prove '..UptoSaid'. A law counts once. -/
mutual
def uptoBulk {H : Type} : DataW H → Nat
  | .lit (.string bytes) => bytes.length + 1
  | .lit _ => 1
  | .nil => 1
  | .ptr d => uptoBulk d + 1
  | .slice elems spare => uptoBulkAll elems + uptoBulkAll spare + 1
  | .agg parts => uptoBulkAll parts + 1
  | .iface _ d => uptoBulk d + 1
  | .map entries => uptoBulkEntries entries + 1
  | .held _ => 1
def uptoBulkAll {H : Type} : List (DataW H) → Nat
  | [] => 0
  | d :: r => uptoBulk d + uptoBulkAll r
def uptoBulkEntries {H : Type} : List (Lit × DataW H) → Nat
  | [] => 0
  | x :: r => uptoBulkEntry x + uptoBulkEntries r
def uptoBulkEntry {H : Type} : Lit × DataW H → Nat
  | (.string bytes, d) => bytes.length + uptoBulk d + 1
  | (_, d) => uptoBulk d + 1
 end
def uptoSmall : (H : Type) → List (DataW H) → Bool := fun _ ds => decide (uptoBulkAll ds ≤ 1048576)
def OpenSpec.upto (s : _root_.Go.ChangeSpec) : _root_.Go.OpenSpec := { _root_.Go.OpenSpec.ofChange s with cond := some uptoSmall }

/-- 'miradorlaw11.FilterGuesses', WHERE WHAT IT READS IS OF BULK AT MOST 1048576: true; the input reads as it did. -/
def filterGuessesUptoRow : OpenClaim := { program := "ytcjloklilabblaa", sum := "6b5d26f28471aebc7879c18fa41748df72c2b2948dba6f95f1c7d95696abdaf1", func := "mirador/miradorlaw11.FilterGuesses", spec := "filterGuesses", unfollowed := true, recurses := true, apart := false, narrowed := true }
def FilterGuessesUptoSaid : Prop := filterGuessesUptoRow.holds Try.pinned (OpenSpec.upto filterGuessesSpec)

/-- 'miradorlaw11.FilterRows', WHERE WHAT IT READS IS OF BULK AT MOST 1048576: true; the input reads as it did. -/
def filterRowsUptoRow : OpenClaim := { program := "ytcjloklilabblaa", sum := "6b5d26f28471aebc7879c18fa41748df72c2b2948dba6f95f1c7d95696abdaf1", func := "mirador/miradorlaw11.FilterRows", spec := "filterRows", unfollowed := true, recurses := true, apart := false, narrowed := true }
def FilterRowsUptoSaid : Prop := filterRowsUptoRow.holds Try.pinned (OpenSpec.upto filterRowsSpec)

/-- 'miradorlaw11.FilterBack', WHERE WHAT IT READS IS OF BULK AT MOST 1048576: true; the input reads as it did. -/
def filterBackUptoRow : OpenClaim := { program := "ytcjloklilabblaa", sum := "6b5d26f28471aebc7879c18fa41748df72c2b2948dba6f95f1c7d95696abdaf1", func := "mirador/miradorlaw11.FilterBack", spec := "filterBack", unfollowed := true, recurses := true, apart := false, narrowed := true }
def FilterBackUptoSaid : Prop := filterBackUptoRow.holds Try.pinned (OpenSpec.upto filterBackSpec)

/-- 'miradorlaw11.FilterBest', WHERE WHAT IT READS IS OF BULK AT MOST 1048576: true; the input reads as it did. -/
def filterBestUptoRow : OpenClaim := { program := "ytcjloklilabblaa", sum := "6b5d26f28471aebc7879c18fa41748df72c2b2948dba6f95f1c7d95696abdaf1", func := "mirador/miradorlaw11.FilterBest", spec := "filterBest", unfollowed := true, recurses := true, apart := false, narrowed := true }
def FilterBestUptoSaid : Prop := filterBestUptoRow.holds Try.pinned (OpenSpec.upto filterBestSpec)

/-- 'miradorlaw11.FilterPlain', WHERE WHAT IT READS IS OF BULK AT MOST 1048576: true; the input reads as it did. -/
def filterPlainUptoRow : OpenClaim := { program := "ytcjloklilabblaa", sum := "6b5d26f28471aebc7879c18fa41748df72c2b2948dba6f95f1c7d95696abdaf1", func := "mirador/miradorlaw11.FilterPlain", spec := "filterPlain", unfollowed := true, recurses := true, apart := false, narrowed := true }
def FilterPlainUptoSaid : Prop := filterPlainUptoRow.holds Try.pinned (OpenSpec.upto filterPlainSpec)

end Rows
end Go.Proofs.Ytcjloklilabblaa
