/-
  No cell of these rows narrows 'for every input' (looked for: loops, veiled, ifaces, maps, wideKeys, modest, calm, conditions, laid).
  DERIVED. THE GIVEN ROWS OF THIS SEAT. 7 by the template 'for every input the law returns true; each argument reads behind the call as it read before'; 0 by the template 'total and deterministic' (their statements: YtlafenookbdhoaaTotals.lean).
  GIVEN WITH THE SEED: the statements are not yours to turn. If you find one false, say at which input.
  Laid BY PROGRAM, IN A SANDBOX (cutbox-rows.mjs): the forced cells as the released guide's own fill.sh prints them over the translation fa39dd4c37275067… (all of the seat's roots in one cut). By AI agents, Wed Nov 11 2026. No macro, syntax, notation, axiom, sorry.
-/
import Derived.Test.YtlafenookbdhoaaChecked
import GoSem.Claim
import GoSem.ClaimJoined
import GoSem.ClaimMapViews
import Derived.JoinedTies
import Derived.KernelRfl
namespace Go.Proofs.Ytlafenookbdhoaa
/- THE CELL 'sum', in the pinned program and in every row, IS THE sha256 OF THE DUMP (.gsa) THAT YtlafenookbdhoaaProg.lean LOADS. Nothing in Lean hashes anything: it is a label: what it is worth is what the hold of that sum in a sandbox is worth. -/
noncomputable def Try.pinned : Pinned := { name := "ytlafenookbdhoaa", sum := "fa39dd4c3727506791d61349327eba5dc08c5d9add93be686f218e9433b3d5a4", checked := Try.checked }
namespace Rows
def none {H : Type} : Left H := { results := [], args := [] }

/-- 'miradorlaw06.LzExpands': WHATEVER THE INPUT: true; the input reads as it did. -/
def lzExpandsSpec : ChangeSpec := { name := "lzExpands", fn := fun _ => fun
  | [d1, d2] => { results := [.lit (.bool true)], args := [d1, d2] }
  | _ => none }
def lzExpandsRow : OpenClaim := { program := "ytlafenookbdhoaa", sum := "fa39dd4c3727506791d61349327eba5dc08c5d9add93be686f218e9433b3d5a4", func := "mirador/miradorlaw06.LzExpands", spec := "lzExpands", apart := false }
def LzExpandsSaid : Prop := lzExpandsRow.holds Try.pinned (OpenSpec.ofChange lzExpandsSpec)

/-- ITS FALSE NEIGHBOUR: 'it returns false'. Refute it at one input. -/
def lzExpandsWrong : ChangeSpec := { name := "lzExpands", fn := fun _ => fun
  | [d1, d2] => { results := [.lit (.bool false)], args := [d1, d2] }
  | _ => none }
def LzExpandsWrongFalsely : Prop := lzExpandsRow.holds Try.pinned (OpenSpec.ofChange lzExpandsWrong)

/-- 'miradorlaw06.LzPlain': WHATEVER THE INPUT: true; the input reads as it did. -/
def lzPlainSpec : ChangeSpec := { name := "lzPlain", fn := fun _ => fun
  | [d1, d2] => { results := [.lit (.bool true)], args := [d1, d2] }
  | _ => none }
def lzPlainRow : OpenClaim := { program := "ytlafenookbdhoaa", sum := "fa39dd4c3727506791d61349327eba5dc08c5d9add93be686f218e9433b3d5a4", func := "mirador/miradorlaw06.LzPlain", spec := "lzPlain", apart := false }
def LzPlainSaid : Prop := lzPlainRow.holds Try.pinned (OpenSpec.ofChange lzPlainSpec)

/-- ITS FALSE NEIGHBOUR: 'it returns false'. Refute it at one input. -/
def lzPlainWrong : ChangeSpec := { name := "lzPlain", fn := fun _ => fun
  | [d1, d2] => { results := [.lit (.bool false)], args := [d1, d2] }
  | _ => none }
def LzPlainWrongFalsely : Prop := lzPlainRow.holds Try.pinned (OpenSpec.ofChange lzPlainWrong)

/-- 'miradorlaw06.LzBack': WHATEVER THE INPUT: true; the input reads as it did. -/
def lzBackSpec : ChangeSpec := { name := "lzBack", fn := fun _ => fun
  | [d1, d2] => { results := [.lit (.bool true)], args := [d1, d2] }
  | _ => none }
def lzBackRow : OpenClaim := { program := "ytlafenookbdhoaa", sum := "fa39dd4c3727506791d61349327eba5dc08c5d9add93be686f218e9433b3d5a4", func := "mirador/miradorlaw06.LzBack", spec := "lzBack", apart := false }
def LzBackSaid : Prop := lzBackRow.holds Try.pinned (OpenSpec.ofChange lzBackSpec)

/-- ITS FALSE NEIGHBOUR: 'it returns false'. Refute it at one input. -/
def lzBackWrong : ChangeSpec := { name := "lzBack", fn := fun _ => fun
  | [d1, d2] => { results := [.lit (.bool false)], args := [d1, d2] }
  | _ => none }
def LzBackWrongFalsely : Prop := lzBackRow.holds Try.pinned (OpenSpec.ofChange lzBackWrong)

/-- 'miradorlaw06.LzRuns': WHATEVER THE INPUT: true; the input reads as it did. -/
def lzRunsSpec : ChangeSpec := { name := "lzRuns", fn := fun _ => fun
  | [d1, d2] => { results := [.lit (.bool true)], args := [d1, d2] }
  | _ => none }
def lzRunsRow : OpenClaim := { program := "ytlafenookbdhoaa", sum := "fa39dd4c3727506791d61349327eba5dc08c5d9add93be686f218e9433b3d5a4", func := "mirador/miradorlaw06.LzRuns", spec := "lzRuns", apart := false }
def LzRunsSaid : Prop := lzRunsRow.holds Try.pinned (OpenSpec.ofChange lzRunsSpec)

/-- ITS FALSE NEIGHBOUR: 'it returns false'. Refute it at one input. -/
def lzRunsWrong : ChangeSpec := { name := "lzRuns", fn := fun _ => fun
  | [d1, d2] => { results := [.lit (.bool false)], args := [d1, d2] }
  | _ => none }
def LzRunsWrongFalsely : Prop := lzRunsRow.holds Try.pinned (OpenSpec.ofChange lzRunsWrong)

/-- 'miradorlaw06.LzTwice': WHATEVER THE INPUT: true; the input reads as it did. -/
def lzTwiceSpec : ChangeSpec := { name := "lzTwice", fn := fun _ => fun
  | [d] => { results := [.lit (.bool true)], args := [d] }
  | _ => none }
def lzTwiceRow : OpenClaim := { program := "ytlafenookbdhoaa", sum := "fa39dd4c3727506791d61349327eba5dc08c5d9add93be686f218e9433b3d5a4", func := "mirador/miradorlaw06.LzTwice", spec := "lzTwice", apart := false }
def LzTwiceSaid : Prop := lzTwiceRow.holds Try.pinned (OpenSpec.ofChange lzTwiceSpec)

/-- ITS FALSE NEIGHBOUR: 'it returns false'. Refute it at one input. -/
def lzTwiceWrong : ChangeSpec := { name := "lzTwice", fn := fun _ => fun
  | [d] => { results := [.lit (.bool false)], args := [d] }
  | _ => none }
def LzTwiceWrongFalsely : Prop := lzTwiceRow.holds Try.pinned (OpenSpec.ofChange lzTwiceWrong)

/-- 'miradorlaw06.LzGlue': WHATEVER THE INPUT: true; the input reads as it did. -/
def lzGlueSpec : ChangeSpec := { name := "lzGlue", fn := fun _ => fun
  | [d1, d2, d3] => { results := [.lit (.bool true)], args := [d1, d2, d3] }
  | _ => none }
def lzGlueRow : OpenClaim := { program := "ytlafenookbdhoaa", sum := "fa39dd4c3727506791d61349327eba5dc08c5d9add93be686f218e9433b3d5a4", func := "mirador/miradorlaw06.LzGlue", spec := "lzGlue", apart := false }
def LzGlueSaid : Prop := lzGlueRow.holds Try.pinned (OpenSpec.ofChange lzGlueSpec)

/-- ITS FALSE NEIGHBOUR: 'it returns false'. Refute it at one input. -/
def lzGlueWrong : ChangeSpec := { name := "lzGlue", fn := fun _ => fun
  | [d1, d2, d3] => { results := [.lit (.bool false)], args := [d1, d2, d3] }
  | _ => none }
def LzGlueWrongFalsely : Prop := lzGlueRow.holds Try.pinned (OpenSpec.ofChange lzGlueWrong)

/-- 'miradorlaw06.LzTails': WHATEVER THE INPUT: true; the input reads as it did. -/
def lzTailsSpec : ChangeSpec := { name := "lzTails", fn := fun _ => fun
  | [d1, d2, d3] => { results := [.lit (.bool true)], args := [d1, d2, d3] }
  | _ => none }
def lzTailsRow : OpenClaim := { program := "ytlafenookbdhoaa", sum := "fa39dd4c3727506791d61349327eba5dc08c5d9add93be686f218e9433b3d5a4", func := "mirador/miradorlaw06.LzTails", spec := "lzTails", apart := false }
def LzTailsSaid : Prop := lzTailsRow.holds Try.pinned (OpenSpec.ofChange lzTailsSpec)

/-- ITS FALSE NEIGHBOUR: 'it returns false'. Refute it at one input. -/
def lzTailsWrong : ChangeSpec := { name := "lzTails", fn := fun _ => fun
  | [d1, d2, d3] => { results := [.lit (.bool false)], args := [d1, d2, d3] }
  | _ => none }
def LzTailsWrongFalsely : Prop := lzTailsRow.holds Try.pinned (OpenSpec.ofChange lzTailsWrong)

/- THE SECOND FORM. 'bulk': how many values and letters a reading holds, each counted each time it is reached (what is shared counts as often as it is met; a slice's spare places count too). A statement '..UptoSaid' is the law's where the arguments, and the package variables that the reading takes, are together of bulk at most 1048576: NARROWER than '..Said'. Prove '..Said' where nothing that the law and all that it calls make is longer than what came in: it says more and counts as full. Else prove '..UptoSaid'. A law counts once. -/
mutual
def uptoBulk {H : Type} : DataW H → Nat
  | .lit (.string bytes) => bytes.length + 1
  | .lit _ => 1
  | .nil => 1
  | .ptr d => uptoBulk d + 1
  | .slice elems spare => uptoBulkAll elems + uptoBulkAll spare + 1
  | .agg parts => uptoBulkAll parts + 1
  | .iface _ d => uptoBulk d + 1
  | .map entries => uptoBulkEntries entries + 1
  | .held _ => 1
def uptoBulkAll {H : Type} : List (DataW H) → Nat
  | [] => 0
  | d :: r => uptoBulk d + uptoBulkAll r
def uptoBulkEntries {H : Type} : List (Lit × DataW H) → Nat
  | [] => 0
  | x :: r => uptoBulkEntry x + uptoBulkEntries r
def uptoBulkEntry {H : Type} : Lit × DataW H → Nat
  | (.string bytes, d) => bytes.length + uptoBulk d + 1
  | (_, d) => uptoBulk d + 1
 end
def uptoSmall : (H : Type) → List (DataW H) → Bool := fun _ ds => decide (uptoBulkAll ds ≤ 1048576)
def OpenSpec.upto (s : _root_.Go.ChangeSpec) : _root_.Go.OpenSpec := { _root_.Go.OpenSpec.ofChange s with cond := some uptoSmall }

/-- 'miradorlaw06.LzExpands', WHERE WHAT IT READS IS OF BULK AT MOST 1048576: true; the input reads as it did. -/
def lzExpandsUptoRow : OpenClaim := { program := "ytlafenookbdhoaa", sum := "fa39dd4c3727506791d61349327eba5dc08c5d9add93be686f218e9433b3d5a4", func := "mirador/miradorlaw06.LzExpands", spec := "lzExpands", apart := false, narrowed := true }
def LzExpandsUptoSaid : Prop := lzExpandsUptoRow.holds Try.pinned (OpenSpec.upto lzExpandsSpec)

/-- 'miradorlaw06.LzPlain', WHERE WHAT IT READS IS OF BULK AT MOST 1048576: true; the input reads as it did. -/
def lzPlainUptoRow : OpenClaim := { program := "ytlafenookbdhoaa", sum := "fa39dd4c3727506791d61349327eba5dc08c5d9add93be686f218e9433b3d5a4", func := "mirador/miradorlaw06.LzPlain", spec := "lzPlain", apart := false, narrowed := true }
def LzPlainUptoSaid : Prop := lzPlainUptoRow.holds Try.pinned (OpenSpec.upto lzPlainSpec)

/-- 'miradorlaw06.LzBack', WHERE WHAT IT READS IS OF BULK AT MOST 1048576: true; the input reads as it did. -/
def lzBackUptoRow : OpenClaim := { program := "ytlafenookbdhoaa", sum := "fa39dd4c3727506791d61349327eba5dc08c5d9add93be686f218e9433b3d5a4", func := "mirador/miradorlaw06.LzBack", spec := "lzBack", apart := false, narrowed := true }
def LzBackUptoSaid : Prop := lzBackUptoRow.holds Try.pinned (OpenSpec.upto lzBackSpec)

/-- 'miradorlaw06.LzRuns', WHERE WHAT IT READS IS OF BULK AT MOST 1048576: true; the input reads as it did. -/
def lzRunsUptoRow : OpenClaim := { program := "ytlafenookbdhoaa", sum := "fa39dd4c3727506791d61349327eba5dc08c5d9add93be686f218e9433b3d5a4", func := "mirador/miradorlaw06.LzRuns", spec := "lzRuns", apart := false, narrowed := true }
def LzRunsUptoSaid : Prop := lzRunsUptoRow.holds Try.pinned (OpenSpec.upto lzRunsSpec)

/-- 'miradorlaw06.LzTwice', WHERE WHAT IT READS IS OF BULK AT MOST 1048576: true; the input reads as it did. -/
def lzTwiceUptoRow : OpenClaim := { program := "ytlafenookbdhoaa", sum := "fa39dd4c3727506791d61349327eba5dc08c5d9add93be686f218e9433b3d5a4", func := "mirador/miradorlaw06.LzTwice", spec := "lzTwice", apart := false, narrowed := true }
def LzTwiceUptoSaid : Prop := lzTwiceUptoRow.holds Try.pinned (OpenSpec.upto lzTwiceSpec)

/-- 'miradorlaw06.LzGlue', WHERE WHAT IT READS IS OF BULK AT MOST 1048576: true; the input reads as it did. -/
def lzGlueUptoRow : OpenClaim := { program := "ytlafenookbdhoaa", sum := "fa39dd4c3727506791d61349327eba5dc08c5d9add93be686f218e9433b3d5a4", func := "mirador/miradorlaw06.LzGlue", spec := "lzGlue", apart := false, narrowed := true }
def LzGlueUptoSaid : Prop := lzGlueUptoRow.holds Try.pinned (OpenSpec.upto lzGlueSpec)

/-- 'miradorlaw06.LzTails', WHERE WHAT IT READS IS OF BULK AT MOST 1048576: true; the input reads as it did. -/
def lzTailsUptoRow : OpenClaim := { program := "ytlafenookbdhoaa", sum := "fa39dd4c3727506791d61349327eba5dc08c5d9add93be686f218e9433b3d5a4", func := "mirador/miradorlaw06.LzTails", spec := "lzTails", apart := false, narrowed := true }
def LzTailsUptoSaid : Prop := lzTailsUptoRow.holds Try.pinned (OpenSpec.upto lzTailsSpec)

end Rows
end Go.Proofs.Ytlafenookbdhoaa
