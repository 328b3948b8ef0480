/-
  Contracts of the small functions of package octets (layer 1) and of its reference, over this seat's translation.
-/
import Derived.Test.YtbdlmcpdplmdnaaRows
import Derived.WalkKit
import Derived.ProofKit
import Derived.OpenShut
import Derived.ShutString
import Derived.ChangeOld
import Derived.Below
import Derived.WalkSpells
import Derived.WalkLawsBesides
import Derived.Deep.QuietTactic
import Derived.BigQuiet
import Derived.BigGuardPart
import Derived.StillTailTactics
import Derived.Deep.RegionHeld3
import Derived.Deep.RegionWith
import Derived.Outline
import Derived.IntWalk
import Derived.Lib.Hide
namespace Go.Proofs.Ytbdlmcpdplmdnaa.Oct
open Go.ChangeShapes Go.WideShapes Go.ChangeAt Go.RowKit
set_option linter.unusedVariables false
set_option maxRecDepth 100000

def sizeB (n : Int) : Bool := decide (n = 1 ∨ n = 2 ∨ n = 4)

theorem isSize_any (n : Int) (w : World) :
    Calls Try.prog 77 #[.int .i64 n] w fun e w' => e = .returned (.bool (sizeB n)) ∧ w = w' := by
  by_cases h1 : n = 1
  · subst h1
    go_enter Try.func77, Try.ntmps77
    go_wp2
    go_ret
    exact ⟨rfl, rfl⟩
  by_cases h2 : n = 2
  · subst h2
    go_enter Try.func77, Try.ntmps77
    go_wp2
    go_ret
    exact ⟨rfl, rfl⟩
  by_cases h4 : n = 4
  · subst h4
    go_enter Try.func77, Try.ntmps77
    go_wp2
    go_ret
    exact ⟨rfl, rfl⟩
  have e : sizeB n = false := by simp [sizeB, h1, h2, h4]
  have e1 : (n == 1) = false := by simp [h1]
  have e2 : (n == 2) = false := by simp [h2]
  have e4 : (n == 4) = false := by simp [h4]
  clear h1 h2 h4
  go_enter Try.func77, Try.ntmps77
  go_wp2
  go_ret
  exact ⟨by rw [e]; rfl, rfl⟩

def fitsB (s n : Int) : Bool := (n / 2 ^ (8 * s).toNat == 0)

theorem fits_any (s n : Int) (w : World) (h0 : 0 ≤ s) (h1 : s ≤ 4) :
    Calls Try.prog 78 #[.int .i64 s, .int .i64 n] w fun e w' => e = .returned (.bool (fitsB s n)) ∧ w = w' := by
  go_enter Try.func78, Try.ntmps78
  go_wp2
  go_ret
  exact ⟨rfl, rfl⟩

theorem turned1_any (i s : Int) (a : Addr) (w : World) (hc : w.cell? a = some (.int .i64 s)) (h0 : 0 ≤ s) (h1 : s ≤ 4) (i0 : 0 ≤ i) (i1 : i ≤ 4) :
    Calls Try.prog 79 #[.int .i64 i, .pointer (some a)] w fun e w' => e = .returned (.int .i64 (s - 1 - i)) ∧ w = w' := by
  go_enter Try.func79, Try.ntmps79
  go_wp2
  go_ret
  exact ⟨rfl, rfl⟩

theorem straight1_any (i : Int) (w : World) :
    Calls Try.prog 86 #[.int .i64 i] w fun e w' => e = .returned (.int .i64 i) ∧ w = w' := by
  go_enter Try.func86, Try.ntmps86
  go_wp2
  go_ret
  exact ⟨rfl, rfl⟩

theorem straight_any (w : World) :
    Calls Try.prog 84 #[] w fun e w' => e = .returned (.func (.func 86) #[] #[]) ∧ w = w' := by
  go_enter Try.func84, Try.ntmps84
  go_wp2
  go_ret
  exact ⟨rfl, rfl⟩

theorem turned_any (s : Int) (w : World) :
    Calls Try.prog 65 #[.int .i64 s] w fun e w' => e = .returned (.func (.func 79) #[] #[.pointer (some ⟨w.heap.size, 0, none⟩)]) ∧ w' = w.alloc (.cells #[.int .i64 s] 3) := by
  have hmf : ∀ (fn : Fn) (first cap : Array Value) (w : World), (Instr.makeFunc fn first cap).run Try.prog w = .ok (.func fn first cap) w := fun _ _ _ _ => rfl
  go_enter Try.func65, Try.ntmps65
  go_wp2
  go_ret
  exact ⟨rfl, rfl⟩

end Go.Proofs.Ytbdlmcpdplmdnaa.Oct
