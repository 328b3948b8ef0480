/-
  No cell of these rows narrows 'for every input' (looked for: loops, veiled, ifaces, maps, wideKeys, modest, calm, conditions, laid).
  DERIVED. THE GIVEN ROWS OF THIS SEAT. 6 by the template 'for every input the law returns true; each argument reads behind the call as it read before'; 0 by the template 'total and deterministic' (their statements: YtikfenimgjeplaaTotals.lean).
  GIVEN WITH THE SEED: the statements are not yours to turn. If you find one false, say at which input.
  Laid BY PROGRAM, IN A SANDBOX (cutbox-rows.mjs): the forced cells as the released guide's own fill.sh prints them over the translation 0bf42d5ce645fc9a… (all of the seat's roots in one cut). By AI agents, Wed Nov 11 2026. No macro, syntax, notation, axiom, sorry.
-/
import Derived.Test.YtikfenimgjeplaaChecked
import GoSem.Claim
import GoSem.ClaimJoined
import GoSem.ClaimMapViews
import Derived.JoinedTies
import Derived.KernelRfl
namespace Go.Proofs.Ytikfenimgjeplaa
/- THE CELL 'sum', in the pinned program and in every row, IS THE sha256 OF THE DUMP (.gsa) THAT YtikfenimgjeplaaProg.lean LOADS. Nothing in Lean hashes anything: it is a label: what it is worth is what the hold of that sum in a sandbox is worth. -/
noncomputable def Try.pinned : Pinned := { name := "ytikfenimgjeplaa", sum := "0bf42d5ce645fc9af30790c47c6302f13531322190192f2806068b10d1e5320c", checked := Try.checked }
namespace Rows
def none {H : Type} : Left H := { results := [], args := [] }

/-- 'miradorlaw07.SymbolsNumbers': WHATEVER THE INPUT: true; the input reads as it did. -/
def symbolsNumbersSpec : ChangeSpec := { name := "symbolsNumbers", fn := fun _ => fun
  | [d1, d2] => { results := [.lit (.bool true)], args := [d1, d2] }
  | _ => none }
def symbolsNumbersRow : OpenClaim := { program := "ytikfenimgjeplaa", sum := "0bf42d5ce645fc9af30790c47c6302f13531322190192f2806068b10d1e5320c", func := "mirador/miradorlaw07.SymbolsNumbers", spec := "symbolsNumbers", unfollowed := true, recurses := true, apart := false }
def SymbolsNumbersSaid : Prop := symbolsNumbersRow.holds Try.pinned (OpenSpec.ofChange symbolsNumbersSpec)

/-- ITS FALSE NEIGHBOUR: 'it returns false'. Refute it at one input. -/
def symbolsNumbersWrong : ChangeSpec := { name := "symbolsNumbers", fn := fun _ => fun
  | [d1, d2] => { results := [.lit (.bool false)], args := [d1, d2] }
  | _ => none }
def SymbolsNumbersWrongFalsely : Prop := symbolsNumbersRow.holds Try.pinned (OpenSpec.ofChange symbolsNumbersWrong)

/-- 'miradorlaw07.SymbolsCounts': WHATEVER THE INPUT: true; the input reads as it did. -/
def symbolsCountsSpec : ChangeSpec := { name := "symbolsCounts", fn := fun _ => fun
  | [d] => { results := [.lit (.bool true)], args := [d] }
  | _ => none }
def symbolsCountsRow : OpenClaim := { program := "ytikfenimgjeplaa", sum := "0bf42d5ce645fc9af30790c47c6302f13531322190192f2806068b10d1e5320c", func := "mirador/miradorlaw07.SymbolsCounts", spec := "symbolsCounts", unfollowed := true, recurses := true, apart := false }
def SymbolsCountsSaid : Prop := symbolsCountsRow.holds Try.pinned (OpenSpec.ofChange symbolsCountsSpec)

/-- ITS FALSE NEIGHBOUR: 'it returns false'. Refute it at one input. -/
def symbolsCountsWrong : ChangeSpec := { name := "symbolsCounts", fn := fun _ => fun
  | [d] => { results := [.lit (.bool false)], args := [d] }
  | _ => none }
def SymbolsCountsWrongFalsely : Prop := symbolsCountsRow.holds Try.pinned (OpenSpec.ofChange symbolsCountsWrong)

/-- 'miradorlaw07.SymbolsWrites': WHATEVER THE INPUT: true; the input reads as it did. -/
def symbolsWritesSpec : ChangeSpec := { name := "symbolsWrites", fn := fun _ => fun
  | [d1, d2, d3, d4] => { results := [.lit (.bool true)], args := [d1, d2, d3, d4] }
  | _ => none }
def symbolsWritesRow : OpenClaim := { program := "ytikfenimgjeplaa", sum := "0bf42d5ce645fc9af30790c47c6302f13531322190192f2806068b10d1e5320c", func := "mirador/miradorlaw07.SymbolsWrites", spec := "symbolsWrites", unfollowed := true, recurses := true, apart := false }
def SymbolsWritesSaid : Prop := symbolsWritesRow.holds Try.pinned (OpenSpec.ofChange symbolsWritesSpec)

/-- ITS FALSE NEIGHBOUR: 'it returns false'. Refute it at one input. -/
def symbolsWritesWrong : ChangeSpec := { name := "symbolsWrites", fn := fun _ => fun
  | [d1, d2, d3, d4] => { results := [.lit (.bool false)], args := [d1, d2, d3, d4] }
  | _ => none }
def SymbolsWritesWrongFalsely : Prop := symbolsWritesRow.holds Try.pinned (OpenSpec.ofChange symbolsWritesWrong)

/-- 'miradorlaw07.SymbolsReads': WHATEVER THE INPUT: true; the input reads as it did. -/
def symbolsReadsSpec : ChangeSpec := { name := "symbolsReads", fn := fun _ => fun
  | [d1, d2, d3, d4] => { results := [.lit (.bool true)], args := [d1, d2, d3, d4] }
  | _ => none }
def symbolsReadsRow : OpenClaim := { program := "ytikfenimgjeplaa", sum := "0bf42d5ce645fc9af30790c47c6302f13531322190192f2806068b10d1e5320c", func := "mirador/miradorlaw07.SymbolsReads", spec := "symbolsReads", unfollowed := true, recurses := true, apart := false }
def SymbolsReadsSaid : Prop := symbolsReadsRow.holds Try.pinned (OpenSpec.ofChange symbolsReadsSpec)

/-- ITS FALSE NEIGHBOUR: 'it returns false'. Refute it at one input. -/
def symbolsReadsWrong : ChangeSpec := { name := "symbolsReads", fn := fun _ => fun
  | [d1, d2, d3, d4] => { results := [.lit (.bool false)], args := [d1, d2, d3, d4] }
  | _ => none }
def SymbolsReadsWrongFalsely : Prop := symbolsReadsRow.holds Try.pinned (OpenSpec.ofChange symbolsReadsWrong)

/-- 'miradorlaw07.SymbolsBack': WHATEVER THE INPUT: true; the input reads as it did. -/
def symbolsBackSpec : ChangeSpec := { name := "symbolsBack", fn := fun _ => fun
  | [d1, d2] => { results := [.lit (.bool true)], args := [d1, d2] }
  | _ => none }
def symbolsBackRow : OpenClaim := { program := "ytikfenimgjeplaa", sum := "0bf42d5ce645fc9af30790c47c6302f13531322190192f2806068b10d1e5320c", func := "mirador/miradorlaw07.SymbolsBack", spec := "symbolsBack", inPlace := ["internal/reflectlite.ValueOf", "internal/reflectlite.Swapper", "(internal/reflectlite.Value).Len"], unfollowed := true, recurses := true, apart := false }
def SymbolsBackSaid : Prop := symbolsBackRow.holds Try.pinned (OpenSpec.ofChange symbolsBackSpec)

/-- ITS FALSE NEIGHBOUR: 'it returns false'. Refute it at one input. -/
def symbolsBackWrong : ChangeSpec := { name := "symbolsBack", fn := fun _ => fun
  | [d1, d2] => { results := [.lit (.bool false)], args := [d1, d2] }
  | _ => none }
def SymbolsBackWrongFalsely : Prop := symbolsBackRow.holds Try.pinned (OpenSpec.ofChange symbolsBackWrong)

/-- 'miradorlaw07.SymbolsRise': WHATEVER THE INPUT: true; the input reads as it did. -/
def symbolsRiseSpec : ChangeSpec := { name := "symbolsRise", fn := fun _ => fun
  | [d1, d2] => { results := [.lit (.bool true)], args := [d1, d2] }
  | _ => none }
def symbolsRiseRow : OpenClaim := { program := "ytikfenimgjeplaa", sum := "0bf42d5ce645fc9af30790c47c6302f13531322190192f2806068b10d1e5320c", func := "mirador/miradorlaw07.SymbolsRise", spec := "symbolsRise", unfollowed := true, recurses := true, apart := false }
def SymbolsRiseSaid : Prop := symbolsRiseRow.holds Try.pinned (OpenSpec.ofChange symbolsRiseSpec)

/-- ITS FALSE NEIGHBOUR: 'it returns false'. Refute it at one input. -/
def symbolsRiseWrong : ChangeSpec := { name := "symbolsRise", fn := fun _ => fun
  | [d1, d2] => { results := [.lit (.bool false)], args := [d1, d2] }
  | _ => none }
def SymbolsRiseWrongFalsely : Prop := symbolsRiseRow.holds Try.pinned (OpenSpec.ofChange symbolsRiseWrong)

/- THE SECOND FORM. 'bulk': how many values and letters a reading holds, each counted each time it is reached (what is shared counts as often as it is met; a slice's spare places count too). A statement '..UptoSaid' is the law's where the arguments, and the package variables that the reading takes, are together of bulk at most 1048576: NARROWER than '..Said'. Prove '..Said' where nothing that the law and all that it calls make is longer than what came in: it says more and counts as full. Else prove '..UptoSaid'. A law counts once. -/
mutual
def uptoBulk {H : Type} : DataW H → Nat
  | .lit (.string bytes) => bytes.length + 1
  | .lit _ => 1
  | .nil => 1
  | .ptr d => uptoBulk d + 1
  | .slice elems spare => uptoBulkAll elems + uptoBulkAll spare + 1
  | .agg parts => uptoBulkAll parts + 1
  | .iface _ d => uptoBulk d + 1
  | .map entries => uptoBulkEntries entries + 1
  | .held _ => 1
def uptoBulkAll {H : Type} : List (DataW H) → Nat
  | [] => 0
  | d :: r => uptoBulk d + uptoBulkAll r
def uptoBulkEntries {H : Type} : List (Lit × DataW H) → Nat
  | [] => 0
  | x :: r => uptoBulkEntry x + uptoBulkEntries r
def uptoBulkEntry {H : Type} : Lit × DataW H → Nat
  | (.string bytes, d) => bytes.length + uptoBulk d + 1
  | (_, d) => uptoBulk d + 1
 end
def uptoSmall : (H : Type) → List (DataW H) → Bool := fun _ ds => decide (uptoBulkAll ds ≤ 1048576)
def OpenSpec.upto (s : _root_.Go.ChangeSpec) : _root_.Go.OpenSpec := { _root_.Go.OpenSpec.ofChange s with cond := some uptoSmall }

/-- 'miradorlaw07.SymbolsNumbers', WHERE WHAT IT READS IS OF BULK AT MOST 1048576: true; the input reads as it did. -/
def symbolsNumbersUptoRow : OpenClaim := { program := "ytikfenimgjeplaa", sum := "0bf42d5ce645fc9af30790c47c6302f13531322190192f2806068b10d1e5320c", func := "mirador/miradorlaw07.SymbolsNumbers", spec := "symbolsNumbers", unfollowed := true, recurses := true, apart := false, narrowed := true }
def SymbolsNumbersUptoSaid : Prop := symbolsNumbersUptoRow.holds Try.pinned (OpenSpec.upto symbolsNumbersSpec)

/-- 'miradorlaw07.SymbolsCounts', WHERE WHAT IT READS IS OF BULK AT MOST 1048576: true; the input reads as it did. -/
def symbolsCountsUptoRow : OpenClaim := { program := "ytikfenimgjeplaa", sum := "0bf42d5ce645fc9af30790c47c6302f13531322190192f2806068b10d1e5320c", func := "mirador/miradorlaw07.SymbolsCounts", spec := "symbolsCounts", unfollowed := true, recurses := true, apart := false, narrowed := true }
def SymbolsCountsUptoSaid : Prop := symbolsCountsUptoRow.holds Try.pinned (OpenSpec.upto symbolsCountsSpec)

/-- 'miradorlaw07.SymbolsWrites', WHERE WHAT IT READS IS OF BULK AT MOST 1048576: true; the input reads as it did. -/
def symbolsWritesUptoRow : OpenClaim := { program := "ytikfenimgjeplaa", sum := "0bf42d5ce645fc9af30790c47c6302f13531322190192f2806068b10d1e5320c", func := "mirador/miradorlaw07.SymbolsWrites", spec := "symbolsWrites", unfollowed := true, recurses := true, apart := false, narrowed := true }
def SymbolsWritesUptoSaid : Prop := symbolsWritesUptoRow.holds Try.pinned (OpenSpec.upto symbolsWritesSpec)

/-- 'miradorlaw07.SymbolsReads', WHERE WHAT IT READS IS OF BULK AT MOST 1048576: true; the input reads as it did. -/
def symbolsReadsUptoRow : OpenClaim := { program := "ytikfenimgjeplaa", sum := "0bf42d5ce645fc9af30790c47c6302f13531322190192f2806068b10d1e5320c", func := "mirador/miradorlaw07.SymbolsReads", spec := "symbolsReads", unfollowed := true, recurses := true, apart := false, narrowed := true }
def SymbolsReadsUptoSaid : Prop := symbolsReadsUptoRow.holds Try.pinned (OpenSpec.upto symbolsReadsSpec)

/-- 'miradorlaw07.SymbolsBack', WHERE WHAT IT READS IS OF BULK AT MOST 1048576: true; the input reads as it did. -/
def symbolsBackUptoRow : OpenClaim := { program := "ytikfenimgjeplaa", sum := "0bf42d5ce645fc9af30790c47c6302f13531322190192f2806068b10d1e5320c", func := "mirador/miradorlaw07.SymbolsBack", spec := "symbolsBack", inPlace := ["internal/reflectlite.ValueOf", "internal/reflectlite.Swapper", "(internal/reflectlite.Value).Len"], unfollowed := true, recurses := true, apart := false, narrowed := true }
def SymbolsBackUptoSaid : Prop := symbolsBackUptoRow.holds Try.pinned (OpenSpec.upto symbolsBackSpec)

/-- 'miradorlaw07.SymbolsRise', WHERE WHAT IT READS IS OF BULK AT MOST 1048576: true; the input reads as it did. -/
def symbolsRiseUptoRow : OpenClaim := { program := "ytikfenimgjeplaa", sum := "0bf42d5ce645fc9af30790c47c6302f13531322190192f2806068b10d1e5320c", func := "mirador/miradorlaw07.SymbolsRise", spec := "symbolsRise", unfollowed := true, recurses := true, apart := false, narrowed := true }
def SymbolsRiseUptoSaid : Prop := symbolsRiseUptoRow.holds Try.pinned (OpenSpec.upto symbolsRiseSpec)

end Rows
end Go.Proofs.Ytikfenimgjeplaa
