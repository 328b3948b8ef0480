/-
  No cell of these rows narrows 'for every input' (looked for: loops, veiled, ifaces, maps, wideKeys, modest, calm, conditions, laid).
  DERIVED. THE GIVEN ROWS OF THIS SEAT. 5 by the template 'for every input the law returns true; each argument reads behind the call as it read before'; 0 by the template 'total and deterministic' (their statements: YtkpnpldjhgpaiaaTotals.lean).
  GIVEN WITH THE SEED: the statements are not yours to turn. If you find one false, say at which input.
  Laid BY PROGRAM, IN A SANDBOX (cutbox-rows.mjs): the forced cells as the released guide's own fill.sh prints them over the translation d1c699a811ac9373… (all of the seat's roots in one cut). By AI agents, Wed Nov 11 2026. No macro, syntax, notation, axiom, sorry.
-/
import Derived.Test.YtkpnpldjhgpaiaaChecked
import GoSem.Claim
import GoSem.ClaimJoined
import GoSem.ClaimMapViews
import Derived.JoinedTies
import Derived.KernelRfl
namespace Go.Proofs.Ytkpnpldjhgpaiaa
/- THE CELL 'sum', in the pinned program and in every row, IS THE sha256 OF THE DUMP (.gsa) THAT YtkpnpldjhgpaiaaProg.lean LOADS. Nothing in Lean hashes anything: it is a label: what it is worth is what the hold of that sum in a sandbox is worth. -/
noncomputable def Try.pinned : Pinned := { name := "ytkpnpldjhgpaiaa", sum := "d1c699a811ac937316f2cc184fd8bb00213ad18a8758ea715737ecb02d504204", checked := Try.checked }
namespace Rows
def none {H : Type} : Left H := { results := [], args := [] }

/-- 'miradorlaw04.CrcsMakes': WHATEVER THE INPUT: true; the input reads as it did. -/
def crcsMakesSpec : ChangeSpec := { name := "crcsMakes", fn := fun _ => fun
  | [d] => { results := [.lit (.bool true)], args := [d] }
  | _ => none }
def crcsMakesRow : OpenClaim := { program := "ytkpnpldjhgpaiaa", sum := "d1c699a811ac937316f2cc184fd8bb00213ad18a8758ea715737ecb02d504204", func := "mirador/miradorlaw04.CrcsMakes", spec := "crcsMakes", apart := false }
def CrcsMakesSaid : Prop := crcsMakesRow.holds Try.pinned (OpenSpec.ofChange crcsMakesSpec)

/-- ITS FALSE NEIGHBOUR: 'it returns false'. Refute it at one input. -/
def crcsMakesWrong : ChangeSpec := { name := "crcsMakes", fn := fun _ => fun
  | [d] => { results := [.lit (.bool false)], args := [d] }
  | _ => none }
def CrcsMakesWrongFalsely : Prop := crcsMakesRow.holds Try.pinned (OpenSpec.ofChange crcsMakesWrong)

/-- 'miradorlaw04.CrcsSums': WHATEVER THE INPUT: true; the input reads as it did. -/
def crcsSumsSpec : ChangeSpec := { name := "crcsSums", fn := fun _ => fun
  | [d1, d2, d3] => { results := [.lit (.bool true)], args := [d1, d2, d3] }
  | _ => none }
def crcsSumsRow : OpenClaim := { program := "ytkpnpldjhgpaiaa", sum := "d1c699a811ac937316f2cc184fd8bb00213ad18a8758ea715737ecb02d504204", func := "mirador/miradorlaw04.CrcsSums", spec := "crcsSums", apart := false }
def CrcsSumsSaid : Prop := crcsSumsRow.holds Try.pinned (OpenSpec.ofChange crcsSumsSpec)

/-- ITS FALSE NEIGHBOUR: 'it returns false'. Refute it at one input. -/
def crcsSumsWrong : ChangeSpec := { name := "crcsSums", fn := fun _ => fun
  | [d1, d2, d3] => { results := [.lit (.bool false)], args := [d1, d2, d3] }
  | _ => none }
def CrcsSumsWrongFalsely : Prop := crcsSumsRow.holds Try.pinned (OpenSpec.ofChange crcsSumsWrong)

/-- 'miradorlaw04.CrcsParts': WHATEVER THE INPUT: true; the input reads as it did. -/
def crcsPartsSpec : ChangeSpec := { name := "crcsParts", fn := fun _ => fun
  | [d1, d2, d3] => { results := [.lit (.bool true)], args := [d1, d2, d3] }
  | _ => none }
def crcsPartsRow : OpenClaim := { program := "ytkpnpldjhgpaiaa", sum := "d1c699a811ac937316f2cc184fd8bb00213ad18a8758ea715737ecb02d504204", func := "mirador/miradorlaw04.CrcsParts", spec := "crcsParts", apart := false }
def CrcsPartsSaid : Prop := crcsPartsRow.holds Try.pinned (OpenSpec.ofChange crcsPartsSpec)

/-- ITS FALSE NEIGHBOUR: 'it returns false'. Refute it at one input. -/
def crcsPartsWrong : ChangeSpec := { name := "crcsParts", fn := fun _ => fun
  | [d1, d2, d3] => { results := [.lit (.bool false)], args := [d1, d2, d3] }
  | _ => none }
def CrcsPartsWrongFalsely : Prop := crcsPartsRow.holds Try.pinned (OpenSpec.ofChange crcsPartsWrong)

/-- 'miradorlaw04.CrcsHarm': WHATEVER THE INPUT: true; the input reads as it did. -/
def crcsHarmSpec : ChangeSpec := { name := "crcsHarm", fn := fun _ => fun
  | [d1, d2, d3] => { results := [.lit (.bool true)], args := [d1, d2, d3] }
  | _ => none }
def crcsHarmRow : OpenClaim := { program := "ytkpnpldjhgpaiaa", sum := "d1c699a811ac937316f2cc184fd8bb00213ad18a8758ea715737ecb02d504204", func := "mirador/miradorlaw04.CrcsHarm", spec := "crcsHarm", apart := false }
def CrcsHarmSaid : Prop := crcsHarmRow.holds Try.pinned (OpenSpec.ofChange crcsHarmSpec)

/-- ITS FALSE NEIGHBOUR: 'it returns false'. Refute it at one input. -/
def crcsHarmWrong : ChangeSpec := { name := "crcsHarm", fn := fun _ => fun
  | [d1, d2, d3] => { results := [.lit (.bool false)], args := [d1, d2, d3] }
  | _ => none }
def CrcsHarmWrongFalsely : Prop := crcsHarmRow.holds Try.pinned (OpenSpec.ofChange crcsHarmWrong)

/-- 'miradorlaw04.CrcsLinear': WHATEVER THE INPUT: true; the input reads as it did. -/
def crcsLinearSpec : ChangeSpec := { name := "crcsLinear", fn := fun _ => fun
  | [d1, d2, d3] => { results := [.lit (.bool true)], args := [d1, d2, d3] }
  | _ => none }
def crcsLinearRow : OpenClaim := { program := "ytkpnpldjhgpaiaa", sum := "d1c699a811ac937316f2cc184fd8bb00213ad18a8758ea715737ecb02d504204", func := "mirador/miradorlaw04.CrcsLinear", spec := "crcsLinear", apart := false }
def CrcsLinearSaid : Prop := crcsLinearRow.holds Try.pinned (OpenSpec.ofChange crcsLinearSpec)

/-- ITS FALSE NEIGHBOUR: 'it returns false'. Refute it at one input. -/
def crcsLinearWrong : ChangeSpec := { name := "crcsLinear", fn := fun _ => fun
  | [d1, d2, d3] => { results := [.lit (.bool false)], args := [d1, d2, d3] }
  | _ => none }
def CrcsLinearWrongFalsely : Prop := crcsLinearRow.holds Try.pinned (OpenSpec.ofChange crcsLinearWrong)

/- THE SECOND FORM. 'bulk': how many values and letters a reading holds, each counted each time it is reached (what is shared counts as often as it is met; a slice's spare places count too). A statement '..UptoSaid' is the law's where the arguments, and the package variables that the reading takes, are together of bulk at most 1048576: NARROWER than '..Said'. Prove '..Said' where nothing that the law and all that it calls make is longer than what came in: it says more and counts as full. Else prove '..UptoSaid'. A law counts once. -/
mutual
def uptoBulk {H : Type} : DataW H → Nat
  | .lit (.string bytes) => bytes.length + 1
  | .lit _ => 1
  | .nil => 1
  | .ptr d => uptoBulk d + 1
  | .slice elems spare => uptoBulkAll elems + uptoBulkAll spare + 1
  | .agg parts => uptoBulkAll parts + 1
  | .iface _ d => uptoBulk d + 1
  | .map entries => uptoBulkEntries entries + 1
  | .held _ => 1
def uptoBulkAll {H : Type} : List (DataW H) → Nat
  | [] => 0
  | d :: r => uptoBulk d + uptoBulkAll r
def uptoBulkEntries {H : Type} : List (Lit × DataW H) → Nat
  | [] => 0
  | x :: r => uptoBulkEntry x + uptoBulkEntries r
def uptoBulkEntry {H : Type} : Lit × DataW H → Nat
  | (.string bytes, d) => bytes.length + uptoBulk d + 1
  | (_, d) => uptoBulk d + 1
 end
def uptoSmall : (H : Type) → List (DataW H) → Bool := fun _ ds => decide (uptoBulkAll ds ≤ 1048576)
def OpenSpec.upto (s : _root_.Go.ChangeSpec) : _root_.Go.OpenSpec := { _root_.Go.OpenSpec.ofChange s with cond := some uptoSmall }

/-- 'miradorlaw04.CrcsMakes', WHERE WHAT IT READS IS OF BULK AT MOST 1048576: true; the input reads as it did. -/
def crcsMakesUptoRow : OpenClaim := { program := "ytkpnpldjhgpaiaa", sum := "d1c699a811ac937316f2cc184fd8bb00213ad18a8758ea715737ecb02d504204", func := "mirador/miradorlaw04.CrcsMakes", spec := "crcsMakes", apart := false, narrowed := true }
def CrcsMakesUptoSaid : Prop := crcsMakesUptoRow.holds Try.pinned (OpenSpec.upto crcsMakesSpec)

/-- 'miradorlaw04.CrcsSums', WHERE WHAT IT READS IS OF BULK AT MOST 1048576: true; the input reads as it did. -/
def crcsSumsUptoRow : OpenClaim := { program := "ytkpnpldjhgpaiaa", sum := "d1c699a811ac937316f2cc184fd8bb00213ad18a8758ea715737ecb02d504204", func := "mirador/miradorlaw04.CrcsSums", spec := "crcsSums", apart := false, narrowed := true }
def CrcsSumsUptoSaid : Prop := crcsSumsUptoRow.holds Try.pinned (OpenSpec.upto crcsSumsSpec)

/-- 'miradorlaw04.CrcsParts', WHERE WHAT IT READS IS OF BULK AT MOST 1048576: true; the input reads as it did. -/
def crcsPartsUptoRow : OpenClaim := { program := "ytkpnpldjhgpaiaa", sum := "d1c699a811ac937316f2cc184fd8bb00213ad18a8758ea715737ecb02d504204", func := "mirador/miradorlaw04.CrcsParts", spec := "crcsParts", apart := false, narrowed := true }
def CrcsPartsUptoSaid : Prop := crcsPartsUptoRow.holds Try.pinned (OpenSpec.upto crcsPartsSpec)

/-- 'miradorlaw04.CrcsHarm', WHERE WHAT IT READS IS OF BULK AT MOST 1048576: true; the input reads as it did. -/
def crcsHarmUptoRow : OpenClaim := { program := "ytkpnpldjhgpaiaa", sum := "d1c699a811ac937316f2cc184fd8bb00213ad18a8758ea715737ecb02d504204", func := "mirador/miradorlaw04.CrcsHarm", spec := "crcsHarm", apart := false, narrowed := true }
def CrcsHarmUptoSaid : Prop := crcsHarmUptoRow.holds Try.pinned (OpenSpec.upto crcsHarmSpec)

/-- 'miradorlaw04.CrcsLinear', WHERE WHAT IT READS IS OF BULK AT MOST 1048576: true; the input reads as it did. -/
def crcsLinearUptoRow : OpenClaim := { program := "ytkpnpldjhgpaiaa", sum := "d1c699a811ac937316f2cc184fd8bb00213ad18a8758ea715737ecb02d504204", func := "mirador/miradorlaw04.CrcsLinear", spec := "crcsLinear", apart := false, narrowed := true }
def CrcsLinearUptoSaid : Prop := crcsLinearUptoRow.holds Try.pinned (OpenSpec.upto crcsLinearSpec)

end Rows
end Go.Proofs.Ytkpnpldjhgpaiaa
