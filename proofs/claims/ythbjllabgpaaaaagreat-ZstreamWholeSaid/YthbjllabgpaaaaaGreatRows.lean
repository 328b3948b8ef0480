/-
  No cell of these rows narrows 'for every input' (looked for: loops, veiled, ifaces, maps, wideKeys, modest, calm, conditions, laid).
  DERIVED. THE GIVEN ROWS OF THIS SEAT. 4 by the template 'for every input the law returns true; each argument reads behind the call as it read before'; 0 by the template 'total and deterministic' (their statements: YthbjllabgpaaaaaGreatTotals.lean).
  GIVEN WITH THE SEED: the statements are not yours to turn. If you find one false, say at which input.
  Laid BY PROGRAM, IN A SANDBOX (cutbox-rows.mjs): the forced cells as the released guide's own fill.sh prints them over the translation b9288bbe60f94e3c… (all of the seat's roots in one cut). By AI agents, Wed Nov 11 2026. No macro, syntax, notation, axiom, sorry.
-/
import Derived.Test.YthbjllabgpaaaaaGreatChecked
import GoSem.Claim
import GoSem.ClaimJoined
import GoSem.ClaimMapViews
import Derived.JoinedTies
import Derived.KernelRfl
namespace Go.Proofs.YthbjllabgpaaaaaGreat
/- THE CELL 'sum', in the pinned program and in every row, IS THE sha256 OF THE DUMP (.gsa) THAT YthbjllabgpaaaaaGreatProg.lean LOADS. Nothing in Lean hashes anything: it is a label: what it is worth is what the hold of that sum in a sandbox is worth. -/
noncomputable def Tryz.pinned : Pinned := { name := "ythbjllabgpaaaaagreat", sum := "b9288bbe60f94e3cb1049195c980f8de91a8d0ed1d41853856ddd34e2a07fc65", checked := Tryz.checked }
namespace Rows
def none {H : Type} : Left H := { results := [], args := [] }

/-- 'miradorlaw10.ZstreamHeaders': WHATEVER THE INPUT: true; the input reads as it did. -/
def zstreamHeadersSpec : ChangeSpec := { name := "zstreamHeaders", fn := fun _ => fun
  | [d] => { results := [.lit (.bool true)], args := [d] }
  | _ => none }
def zstreamHeadersRow : OpenClaim := { program := "ythbjllabgpaaaaagreat", sum := "b9288bbe60f94e3cb1049195c980f8de91a8d0ed1d41853856ddd34e2a07fc65", func := "mirador/miradorlaw10.ZstreamHeaders", spec := "zstreamHeaders", inPlace := ["internal/reflectlite.ValueOf", "internal/reflectlite.Swapper", "(internal/reflectlite.Value).Len", "internal/abi.NoEscape"], unfollowed := true, recurses := true, apart := false }
def ZstreamHeadersSaid : Prop := zstreamHeadersRow.holds Tryz.pinned (OpenSpec.ofChange zstreamHeadersSpec)

/-- ITS FALSE NEIGHBOUR: 'it returns false'. Refute it at one input. -/
def zstreamHeadersWrong : ChangeSpec := { name := "zstreamHeaders", fn := fun _ => fun
  | [d] => { results := [.lit (.bool false)], args := [d] }
  | _ => none }
def ZstreamHeadersWrongFalsely : Prop := zstreamHeadersRow.holds Tryz.pinned (OpenSpec.ofChange zstreamHeadersWrong)

/-- 'miradorlaw10.ZstreamBack': WHATEVER THE INPUT: true; the input reads as it did. -/
def zstreamBackSpec : ChangeSpec := { name := "zstreamBack", fn := fun _ => fun
  | [d1, d2] => { results := [.lit (.bool true)], args := [d1, d2] }
  | _ => none }
def zstreamBackRow : OpenClaim := { program := "ythbjllabgpaaaaagreat", sum := "b9288bbe60f94e3cb1049195c980f8de91a8d0ed1d41853856ddd34e2a07fc65", func := "mirador/miradorlaw10.ZstreamBack", spec := "zstreamBack", inPlace := ["internal/reflectlite.ValueOf", "internal/reflectlite.Swapper", "(internal/reflectlite.Value).Len", "internal/abi.NoEscape"], unfollowed := true, recurses := true, apart := false }
def ZstreamBackSaid : Prop := zstreamBackRow.holds Tryz.pinned (OpenSpec.ofChange zstreamBackSpec)

/-- ITS FALSE NEIGHBOUR: 'it returns false'. Refute it at one input. -/
def zstreamBackWrong : ChangeSpec := { name := "zstreamBack", fn := fun _ => fun
  | [d1, d2] => { results := [.lit (.bool false)], args := [d1, d2] }
  | _ => none }
def ZstreamBackWrongFalsely : Prop := zstreamBackRow.holds Tryz.pinned (OpenSpec.ofChange zstreamBackWrong)

/-- 'miradorlaw10.ZstreamWhole': WHATEVER THE INPUT: true; the input reads as it did. -/
def zstreamWholeSpec : ChangeSpec := { name := "zstreamWhole", fn := fun _ => fun
  | [d1, d2, d3] => { results := [.lit (.bool true)], args := [d1, d2, d3] }
  | _ => none }
def zstreamWholeRow : OpenClaim := { program := "ythbjllabgpaaaaagreat", sum := "b9288bbe60f94e3cb1049195c980f8de91a8d0ed1d41853856ddd34e2a07fc65", func := "mirador/miradorlaw10.ZstreamWhole", spec := "zstreamWhole", inPlace := ["internal/reflectlite.ValueOf", "internal/reflectlite.Swapper", "(internal/reflectlite.Value).Len", "internal/abi.NoEscape"], unfollowed := true, recurses := true, apart := false }
def ZstreamWholeSaid : Prop := zstreamWholeRow.holds Tryz.pinned (OpenSpec.ofChange zstreamWholeSpec)

/-- ITS FALSE NEIGHBOUR: 'it returns false'. Refute it at one input. -/
def zstreamWholeWrong : ChangeSpec := { name := "zstreamWhole", fn := fun _ => fun
  | [d1, d2, d3] => { results := [.lit (.bool false)], args := [d1, d2, d3] }
  | _ => none }
def ZstreamWholeWrongFalsely : Prop := zstreamWholeRow.holds Tryz.pinned (OpenSpec.ofChange zstreamWholeWrong)

/-- 'miradorlaw10.ZstreamBroken': WHATEVER THE INPUT: true; the input reads as it did. -/
def zstreamBrokenSpec : ChangeSpec := { name := "zstreamBroken", fn := fun _ => fun
  | [d1, d2, d3] => { results := [.lit (.bool true)], args := [d1, d2, d3] }
  | _ => none }
def zstreamBrokenRow : OpenClaim := { program := "ythbjllabgpaaaaagreat", sum := "b9288bbe60f94e3cb1049195c980f8de91a8d0ed1d41853856ddd34e2a07fc65", func := "mirador/miradorlaw10.ZstreamBroken", spec := "zstreamBroken", inPlace := ["internal/reflectlite.ValueOf", "internal/reflectlite.Swapper", "(internal/reflectlite.Value).Len", "internal/abi.NoEscape"], unfollowed := true, recurses := true, apart := false }
def ZstreamBrokenSaid : Prop := zstreamBrokenRow.holds Tryz.pinned (OpenSpec.ofChange zstreamBrokenSpec)

/-- ITS FALSE NEIGHBOUR: 'it returns false'. Refute it at one input. -/
def zstreamBrokenWrong : ChangeSpec := { name := "zstreamBroken", fn := fun _ => fun
  | [d1, d2, d3] => { results := [.lit (.bool false)], args := [d1, d2, d3] }
  | _ => none }
def ZstreamBrokenWrongFalsely : Prop := zstreamBrokenRow.holds Tryz.pinned (OpenSpec.ofChange zstreamBrokenWrong)

/- THE SECOND FORM. 'bulk': how many values and letters a reading holds, each counted each time it is reached (what is shared counts as often as it is met; a slice's spare places count too). A statement '..UptoSaid' is the law's where the arguments, and the package variables that the reading takes, are together of bulk at most 1048576: NARROWER than '..Said'. Prove '..Said' where nothing that the law and all that it calls make is longer than what came in: it says more and counts as full. Else prove '..UptoSaid'. A law counts once. -/
mutual
def uptoBulk {H : Type} : DataW H → Nat
  | .lit (.string bytes) => bytes.length + 1
  | .lit _ => 1
  | .nil => 1
  | .ptr d => uptoBulk d + 1
  | .slice elems spare => uptoBulkAll elems + uptoBulkAll spare + 1
  | .agg parts => uptoBulkAll parts + 1
  | .iface _ d => uptoBulk d + 1
  | .map entries => uptoBulkEntries entries + 1
  | .held _ => 1
def uptoBulkAll {H : Type} : List (DataW H) → Nat
  | [] => 0
  | d :: r => uptoBulk d + uptoBulkAll r
def uptoBulkEntries {H : Type} : List (Lit × DataW H) → Nat
  | [] => 0
  | x :: r => uptoBulkEntry x + uptoBulkEntries r
def uptoBulkEntry {H : Type} : Lit × DataW H → Nat
  | (.string bytes, d) => bytes.length + uptoBulk d + 1
  | (_, d) => uptoBulk d + 1
 end
def uptoSmall : (H : Type) → List (DataW H) → Bool := fun _ ds => decide (uptoBulkAll ds ≤ 1048576)
def OpenSpec.upto (s : _root_.Go.ChangeSpec) : _root_.Go.OpenSpec := { _root_.Go.OpenSpec.ofChange s with cond := some uptoSmall }

/-- 'miradorlaw10.ZstreamHeaders', WHERE WHAT IT READS IS OF BULK AT MOST 1048576: true; the input reads as it did. -/
def zstreamHeadersUptoRow : OpenClaim := { program := "ythbjllabgpaaaaagreat", sum := "b9288bbe60f94e3cb1049195c980f8de91a8d0ed1d41853856ddd34e2a07fc65", func := "mirador/miradorlaw10.ZstreamHeaders", spec := "zstreamHeaders", inPlace := ["internal/reflectlite.ValueOf", "internal/reflectlite.Swapper", "(internal/reflectlite.Value).Len", "internal/abi.NoEscape"], unfollowed := true, recurses := true, apart := false, narrowed := true }
def ZstreamHeadersUptoSaid : Prop := zstreamHeadersUptoRow.holds Tryz.pinned (OpenSpec.upto zstreamHeadersSpec)

/-- 'miradorlaw10.ZstreamBack', WHERE WHAT IT READS IS OF BULK AT MOST 1048576: true; the input reads as it did. -/
def zstreamBackUptoRow : OpenClaim := { program := "ythbjllabgpaaaaagreat", sum := "b9288bbe60f94e3cb1049195c980f8de91a8d0ed1d41853856ddd34e2a07fc65", func := "mirador/miradorlaw10.ZstreamBack", spec := "zstreamBack", inPlace := ["internal/reflectlite.ValueOf", "internal/reflectlite.Swapper", "(internal/reflectlite.Value).Len", "internal/abi.NoEscape"], unfollowed := true, recurses := true, apart := false, narrowed := true }
def ZstreamBackUptoSaid : Prop := zstreamBackUptoRow.holds Tryz.pinned (OpenSpec.upto zstreamBackSpec)

/-- 'miradorlaw10.ZstreamWhole', WHERE WHAT IT READS IS OF BULK AT MOST 1048576: true; the input reads as it did. -/
def zstreamWholeUptoRow : OpenClaim := { program := "ythbjllabgpaaaaagreat", sum := "b9288bbe60f94e3cb1049195c980f8de91a8d0ed1d41853856ddd34e2a07fc65", func := "mirador/miradorlaw10.ZstreamWhole", spec := "zstreamWhole", inPlace := ["internal/reflectlite.ValueOf", "internal/reflectlite.Swapper", "(internal/reflectlite.Value).Len", "internal/abi.NoEscape"], unfollowed := true, recurses := true, apart := false, narrowed := true }
def ZstreamWholeUptoSaid : Prop := zstreamWholeUptoRow.holds Tryz.pinned (OpenSpec.upto zstreamWholeSpec)

/-- 'miradorlaw10.ZstreamBroken', WHERE WHAT IT READS IS OF BULK AT MOST 1048576: true; the input reads as it did. -/
def zstreamBrokenUptoRow : OpenClaim := { program := "ythbjllabgpaaaaagreat", sum := "b9288bbe60f94e3cb1049195c980f8de91a8d0ed1d41853856ddd34e2a07fc65", func := "mirador/miradorlaw10.ZstreamBroken", spec := "zstreamBroken", inPlace := ["internal/reflectlite.ValueOf", "internal/reflectlite.Swapper", "(internal/reflectlite.Value).Len", "internal/abi.NoEscape"], unfollowed := true, recurses := true, apart := false, narrowed := true }
def ZstreamBrokenUptoSaid : Prop := zstreamBrokenUptoRow.holds Tryz.pinned (OpenSpec.upto zstreamBrokenSpec)

end Rows
end Go.Proofs.YthbjllabgpaaaaaGreat
