/-
  Contract of the reference's SameRow; tokens that are handed in.
-/
import Derived.Test.YtikfenimgjeplaaSymWorks
namespace Go.Proofs.Ytikfenimgjeplaa.Sym
open Go.ChangeShapes Go.WideShapes Go.ChangeAt Go.RowKit
open Go.Proofs.Ytikfenimgjeplaa.Huf (IsInts)
set_option linter.unusedVariables false
set_option maxRecDepth 100000

set_option maxHeartbeats 2000000 in
theorem sameRow_any (a b : Option Addr) (n c1 c2 : Nat) (l : List Nat) (w : World) (hl : l.length = n) (h1 : IsInts w a (ints l)) (h2 : IsInts w b (ints l)) (hn : n ≤ 1000000) :
    Calls Try.prog 23 #[.slice a n c1, .slice b n c2] w fun e w' => e = .returned (.bool true) ∧ ∃ q, w' = w.drewN q := by
  have H1 := Lib.hid (fun h0 => ints_at h1 hl h0)
  have H2 := Lib.hid (fun h0 => ints_at h2 hl h0)
  clear h1 h2
  go_enter Try.func23, Try.ntmps23
  go_wp2_with fail
  go_loopw [5] (fun i wr => ∃ k q : Nat, k ≤ n ∧ i = .int .i64 k ∧ wr = w.drewN q) (fun i _ => n - (intOf i).toNat)
  case atStart => exact ⟨0, 0, Nat.zero_le _, rfl, rfl⟩
  case round =>
    obtain ⟨k, q, hk, rfl, rfl⟩ := hrel
    by_cases hlt : k < n
    · have hlt' : (k : Int) < n := by omega
      obtain ⟨g1, o1, rfl, _, q1⟩ := H1.out (by omega)
      obtain ⟨g2, o2, rfl, _, q2⟩ := H2.out (by omega)
      have e1 := q1 k hlt
      have e2 := q2 k hlt
      clear q1 q2
      generalize l.getD k 0 = x at *
      go_wp2_with fail
      go_quiet (fail)
      go_wp2_with fail
      refine ⟨⟨k + 1, _, by omega, by go_num, rfl⟩, ?_⟩
      simp [intOf]; omega
    · obtain rfl : k = n := by omega
      go_wp2_with fail
      go_ret
      exact ⟨rfl, q, rfl⟩
theorem below_drew {w w' : World} {B : Nat} (h : Below B w w') (q : Nat) : Below B w (w'.drewN q) := ⟨h.os, h.tape, h.output, h.size, h.block⟩
end Go.Proofs.Ytikfenimgjeplaa.Sym
