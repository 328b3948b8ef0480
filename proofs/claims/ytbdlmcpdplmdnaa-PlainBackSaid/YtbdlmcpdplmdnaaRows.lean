/-
  No cell of these rows narrows 'for every input' (looked for: loops, veiled, ifaces, maps, wideKeys, modest, calm, conditions, laid).
  DERIVED. THE GIVEN ROWS OF THIS SEAT. 4 by the template 'for every input the law returns true; each argument reads behind the call as it read before'; 0 by the template 'total and deterministic' (their statements: YtbdlmcpdplmdnaaTotals.lean).
  GIVEN WITH THE SEED: the statements are not yours to turn. If you find one false, say at which input.
  Laid BY PROGRAM, IN A SANDBOX (cutbox-rows.mjs): the forced cells as the released guide's own fill.sh prints them over the translation a0b217ac183adc56… (all of the seat's roots in one cut). By AI agents, Wed Nov 11 2026. No macro, syntax, notation, axiom, sorry.
-/
import Derived.Test.YtbdlmcpdplmdnaaChecked
import GoSem.Claim
import GoSem.ClaimJoined
import GoSem.ClaimMapViews
import Derived.JoinedTies
import Derived.KernelRfl
namespace Go.Proofs.Ytbdlmcpdplmdnaa
/- THE CELL 'sum', in the pinned program and in every row, IS THE sha256 OF THE DUMP (.gsa) THAT YtbdlmcpdplmdnaaProg.lean LOADS. Nothing in Lean hashes anything: it is a label: what it is worth is what the hold of that sum in a sandbox is worth. -/
noncomputable def Try.pinned : Pinned := { name := "ytbdlmcpdplmdnaa", sum := "a0b217ac183adc56baff1e0866435ea8175bbddaf3ed02d759e0a51a3930a156", checked := Try.checked }
namespace Rows
def none {H : Type} : Left H := { results := [], args := [] }

/-- 'miradorlaw16.PlainRaws': WHATEVER THE INPUT: true; the input reads as it did. -/
def plainRawsSpec : ChangeSpec := { name := "plainRaws", fn := fun _ => fun
  | [d1, d2, d3, d4, d5] => { results := [.lit (.bool true)], args := [d1, d2, d3, d4, d5] }
  | _ => none }
def plainRawsRow : OpenClaim := { program := "ytbdlmcpdplmdnaa", sum := "a0b217ac183adc56baff1e0866435ea8175bbddaf3ed02d759e0a51a3930a156", func := "mirador/miradorlaw16.PlainRaws", spec := "plainRaws", inPlace := ["internal/abi.NoEscape", "internal/bytealg.MakeNoZero"], unfollowed := true, recurses := true, apart := false }
def PlainRawsSaid : Prop := plainRawsRow.holds Try.pinned (OpenSpec.ofChange plainRawsSpec)

/-- ITS FALSE NEIGHBOUR: 'it returns false'. Refute it at one input. -/
def plainRawsWrong : ChangeSpec := { name := "plainRaws", fn := fun _ => fun
  | [d1, d2, d3, d4, d5] => { results := [.lit (.bool false)], args := [d1, d2, d3, d4, d5] }
  | _ => none }
def PlainRawsWrongFalsely : Prop := plainRawsRow.holds Try.pinned (OpenSpec.ofChange plainRawsWrong)

/-- 'miradorlaw16.PlainCopies': WHATEVER THE INPUT: true; the input reads as it did. -/
def plainCopiesSpec : ChangeSpec := { name := "plainCopies", fn := fun _ => fun
  | [d1, d2, d3] => { results := [.lit (.bool true)], args := [d1, d2, d3] }
  | _ => none }
def plainCopiesRow : OpenClaim := { program := "ytbdlmcpdplmdnaa", sum := "a0b217ac183adc56baff1e0866435ea8175bbddaf3ed02d759e0a51a3930a156", func := "mirador/miradorlaw16.PlainCopies", spec := "plainCopies", inPlace := ["internal/abi.NoEscape", "internal/bytealg.MakeNoZero"], unfollowed := true, recurses := true, apart := false }
def PlainCopiesSaid : Prop := plainCopiesRow.holds Try.pinned (OpenSpec.ofChange plainCopiesSpec)

/-- ITS FALSE NEIGHBOUR: 'it returns false'. Refute it at one input. -/
def plainCopiesWrong : ChangeSpec := { name := "plainCopies", fn := fun _ => fun
  | [d1, d2, d3] => { results := [.lit (.bool false)], args := [d1, d2, d3] }
  | _ => none }
def PlainCopiesWrongFalsely : Prop := plainCopiesRow.holds Try.pinned (OpenSpec.ofChange plainCopiesWrong)

/-- 'miradorlaw16.PlainBack': WHATEVER THE INPUT: true; the input reads as it did. -/
def plainBackSpec : ChangeSpec := { name := "plainBack", fn := fun _ => fun
  | [d1, d2, d3, d4, d5] => { results := [.lit (.bool true)], args := [d1, d2, d3, d4, d5] }
  | _ => none }
def plainBackRow : OpenClaim := { program := "ytbdlmcpdplmdnaa", sum := "a0b217ac183adc56baff1e0866435ea8175bbddaf3ed02d759e0a51a3930a156", func := "mirador/miradorlaw16.PlainBack", spec := "plainBack", inPlace := ["internal/abi.NoEscape", "internal/bytealg.MakeNoZero"], unfollowed := true, recurses := true, apart := false }
def PlainBackSaid : Prop := plainBackRow.holds Try.pinned (OpenSpec.ofChange plainBackSpec)

/-- ITS FALSE NEIGHBOUR: 'it returns false'. Refute it at one input. -/
def plainBackWrong : ChangeSpec := { name := "plainBack", fn := fun _ => fun
  | [d1, d2, d3, d4, d5] => { results := [.lit (.bool false)], args := [d1, d2, d3, d4, d5] }
  | _ => none }
def PlainBackWrongFalsely : Prop := plainBackRow.holds Try.pinned (OpenSpec.ofChange plainBackWrong)

/-- 'miradorlaw16.PlainGlue': WHATEVER THE INPUT: true; the input reads as it did. -/
def plainGlueSpec : ChangeSpec := { name := "plainGlue", fn := fun _ => fun
  | [d1, d2, d3] => { results := [.lit (.bool true)], args := [d1, d2, d3] }
  | _ => none }
def plainGlueRow : OpenClaim := { program := "ytbdlmcpdplmdnaa", sum := "a0b217ac183adc56baff1e0866435ea8175bbddaf3ed02d759e0a51a3930a156", func := "mirador/miradorlaw16.PlainGlue", spec := "plainGlue", inPlace := ["internal/abi.NoEscape", "internal/bytealg.MakeNoZero"], unfollowed := true, recurses := true, apart := false }
def PlainGlueSaid : Prop := plainGlueRow.holds Try.pinned (OpenSpec.ofChange plainGlueSpec)

/-- ITS FALSE NEIGHBOUR: 'it returns false'. Refute it at one input. -/
def plainGlueWrong : ChangeSpec := { name := "plainGlue", fn := fun _ => fun
  | [d1, d2, d3] => { results := [.lit (.bool false)], args := [d1, d2, d3] }
  | _ => none }
def PlainGlueWrongFalsely : Prop := plainGlueRow.holds Try.pinned (OpenSpec.ofChange plainGlueWrong)

/- THE SECOND FORM. 'bulk': how many values and letters a reading holds, each counted each time it is reached (what is shared counts as often as it is met; a slice's spare places count too). A statement '..UptoSaid' is the law's where the arguments, and the package variables that the reading takes, are together of bulk at most 1048576: NARROWER than '..Said'. Prove '..Said' where nothing that the law and all that it calls make is longer than what came in: it says more and counts as full. Else prove '..UptoSaid'. A law counts once. -/
mutual
def uptoBulk {H : Type} : DataW H → Nat
  | .lit (.string bytes) => bytes.length + 1
  | .lit _ => 1
  | .nil => 1
  | .ptr d => uptoBulk d + 1
  | .slice elems spare => uptoBulkAll elems + uptoBulkAll spare + 1
  | .agg parts => uptoBulkAll parts + 1
  | .iface _ d => uptoBulk d + 1
  | .map entries => uptoBulkEntries entries + 1
  | .held _ => 1
def uptoBulkAll {H : Type} : List (DataW H) → Nat
  | [] => 0
  | d :: r => uptoBulk d + uptoBulkAll r
def uptoBulkEntries {H : Type} : List (Lit × DataW H) → Nat
  | [] => 0
  | x :: r => uptoBulkEntry x + uptoBulkEntries r
def uptoBulkEntry {H : Type} : Lit × DataW H → Nat
  | (.string bytes, d) => bytes.length + uptoBulk d + 1
  | (_, d) => uptoBulk d + 1
 end
def uptoSmall : (H : Type) → List (DataW H) → Bool := fun _ ds => decide (uptoBulkAll ds ≤ 1048576)
def OpenSpec.upto (s : _root_.Go.ChangeSpec) : _root_.Go.OpenSpec := { _root_.Go.OpenSpec.ofChange s with cond := some uptoSmall }

/-- 'miradorlaw16.PlainRaws', WHERE WHAT IT READS IS OF BULK AT MOST 1048576: true; the input reads as it did. -/
def plainRawsUptoRow : OpenClaim := { program := "ytbdlmcpdplmdnaa", sum := "a0b217ac183adc56baff1e0866435ea8175bbddaf3ed02d759e0a51a3930a156", func := "mirador/miradorlaw16.PlainRaws", spec := "plainRaws", inPlace := ["internal/abi.NoEscape", "internal/bytealg.MakeNoZero"], unfollowed := true, recurses := true, apart := false, narrowed := true }
def PlainRawsUptoSaid : Prop := plainRawsUptoRow.holds Try.pinned (OpenSpec.upto plainRawsSpec)

/-- 'miradorlaw16.PlainCopies', WHERE WHAT IT READS IS OF BULK AT MOST 1048576: true; the input reads as it did. -/
def plainCopiesUptoRow : OpenClaim := { program := "ytbdlmcpdplmdnaa", sum := "a0b217ac183adc56baff1e0866435ea8175bbddaf3ed02d759e0a51a3930a156", func := "mirador/miradorlaw16.PlainCopies", spec := "plainCopies", inPlace := ["internal/abi.NoEscape", "internal/bytealg.MakeNoZero"], unfollowed := true, recurses := true, apart := false, narrowed := true }
def PlainCopiesUptoSaid : Prop := plainCopiesUptoRow.holds Try.pinned (OpenSpec.upto plainCopiesSpec)

/-- 'miradorlaw16.PlainBack', WHERE WHAT IT READS IS OF BULK AT MOST 1048576: true; the input reads as it did. -/
def plainBackUptoRow : OpenClaim := { program := "ytbdlmcpdplmdnaa", sum := "a0b217ac183adc56baff1e0866435ea8175bbddaf3ed02d759e0a51a3930a156", func := "mirador/miradorlaw16.PlainBack", spec := "plainBack", inPlace := ["internal/abi.NoEscape", "internal/bytealg.MakeNoZero"], unfollowed := true, recurses := true, apart := false, narrowed := true }
def PlainBackUptoSaid : Prop := plainBackUptoRow.holds Try.pinned (OpenSpec.upto plainBackSpec)

/-- 'miradorlaw16.PlainGlue', WHERE WHAT IT READS IS OF BULK AT MOST 1048576: true; the input reads as it did. -/
def plainGlueUptoRow : OpenClaim := { program := "ytbdlmcpdplmdnaa", sum := "a0b217ac183adc56baff1e0866435ea8175bbddaf3ed02d759e0a51a3930a156", func := "mirador/miradorlaw16.PlainGlue", spec := "plainGlue", inPlace := ["internal/abi.NoEscape", "internal/bytealg.MakeNoZero"], unfollowed := true, recurses := true, apart := false, narrowed := true }
def PlainGlueUptoSaid : Prop := plainGlueUptoRow.holds Try.pinned (OpenSpec.upto plainGlueSpec)

end Rows
end Go.Proofs.Ytbdlmcpdplmdnaa
