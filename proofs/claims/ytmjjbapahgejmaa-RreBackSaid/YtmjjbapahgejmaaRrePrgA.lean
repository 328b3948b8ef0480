/-
  The program of layer 17 (rre): how many numbers are a value; the rectangle that begins at a place.
-/
import Derived.Test.YtmjjbapahgejmaaRreSays
import Derived.Test.YtmjjbapahgejmaaPlnPrgB
namespace Go.Proofs.Ytmjjbapahgejmaa.Rre
open Go.ChangeShapes Go.WideShapes Go.ChangeAt Go.RowKit Lz RowG RegVal Pln
set_option linter.unusedVariables false
set_option linter.unusedSimpArgs false
set_option maxRecDepth 100000

theorem stop_le {P : Nat → Bool} : ∀ (f a : Nat), stopAt P f a ≤ a + f
  | 0, a => Nat.le_refl _
  | f + 1, a => by
    unfold stopAt
    split
    · have := stop_le (P := P) f (a + 1)
      omega
    · omega
theorem stop_not {P : Nat → Bool} : ∀ (f a : Nat), stopAt P f a < a + f → P (stopAt P f a) = false
  | 0, a, h => by simp [stopAt] at h
  | f + 1, a, h => by
    unfold stopAt at h ⊢
    split
    · rename_i c
      rw [if_pos c] at h
      exact stop_not f (a + 1) (by omega)
    · rename_i c
      simpa using c
/-- How many of the first numbers are a value. -/
def runN (F : Nat → Int) (v : Int) (n : Nat) : Nat := stopAt (fun i => decide (F i = v)) n 0
theorem run_le (F : Nat → Int) (v : Int) (n : Nat) : runN F v n ≤ n := by have := stop_le (P := fun i => decide (F i = v)) n 0; unfold runN; omega
theorem run_all {F : Nat → Int} {v : Int} {n i : Nat} (h : i < runN F v n) : F i = v := by
  have := stop_all (P := fun i => decide (F i = v)) n 0 i (Nat.zero_le _) h
  simpa using this
theorem run_not {F : Nat → Int} {v : Int} {n : Nat} (h : runN F v n < n) : F (runN F v n) ≠ v := by
  have := stop_not (P := fun i => decide (F i = v)) n 0 (by unfold runN at h; omega)
  unfold runN
  simpa using this
theorem run_is {F : Nat → Int} {v : Int} {n m : Nat} (hm : m ≤ n) (h : ∀ i, i < m → F i = v) (h1 : m < n → F m ≠ v) : runN F v n = m := by
  rcases Nat.lt_trichotomy (runN F v n) m with h2 | h2 | h2
  · exact absurd (h _ h2) (run_not (by omega))
  · exact h2
  · have := run_le F v n
    exact absurd (run_all h2) (h1 (by omega))
theorem quiet_w {P : Program} {f : FuncId} {args : Array Value} {w : World} {n : Nat} {v : Value}
    (h : Calls P f args (w.drewN n) fun e w' => e = .returned v ∧ w.drewN n = w') : Calls P f args (w.drewN n) fun e w'' => e = .returned v ∧ ∃ m, w'' = w.drewN m :=
  h.mono fun _ _ ⟨he, hm⟩ => ⟨he, n, hm.symm⟩
set_option maxHeartbeats 1000000 in
theorem run_any (F : Nat → Int) (a : Option Addr) (n cap : Nat) (v : Int) (w : World) (hn : n ≤ 100000000)
    (hc : 0 < n → ∃ g off, a = some ⟨g, off, none⟩ ∧ ∀ i, i < n → w.cell? ⟨g, off + i, none⟩ = some (.int .i64 (F i))) :
    Calls Try.prog 58 #[.slice a n cap, .int .i64 v] w fun e w' => e = .returned (.int .i64 (runN F v n : Nat)) ∧ w = w' := by
  have HC := Lib.hid hc
  have HR := Lib.hid (fun m h1 h2 h3 => run_is (F := F) (v := v) (n := n) (m := m) h1 h2 h3)
  clear hc
  generalize runN F v n = R at *
  go_enter Try.func58, Try.ntmps58
  go_wp2_with fail
  go_loopw [9] (fun vi wr => ∃ k : Nat, k ≤ n ∧ vi = .int .i64 k ∧ RowKit.Hid (∀ i, i < k → F i = v) ∧ w = wr) (fun vi _ => n - (intOf vi).toNat)
  case atStart => exact ⟨0, Nat.zero_le _, rfl, Lib.hid (fun i h => by omega), rfl⟩
  case round =>
    obtain ⟨k, hk, rfl, HF, rfl⟩ := hrel
    by_cases hlt : k < n
    · have dk : decide ((k : Int) < (n : Int)) = true := decide_eq_true (by omega)
      obtain ⟨g, off, rfl, hcell⟩ := HC.out (by omega)
      have q0 := hcell k hlt
      clear hcell
      by_cases hv : F k = v
      · have HF2 : RowKit.Hid (∀ i, i < k + 1 → F i = v) := Lib.hid (fun i hi => by
          by_cases h : i < k
          · exact HF.out i h
          · obtain rfl : i = k := by omega
            exact hv)
        have d : decide (F k = v) = true := decide_eq_true hv
        generalize F k = u at *
        subst hv
        have d : decide (u = u) = true := decide_eq_true rfl
        go_wp2_with fail
        exact ⟨⟨k + 1, by omega, by go_num, HF2, by first | rfl | trivial⟩, by simp [intOf]; omega⟩
      · have HE := Lib.hid (HR.out k (by omega) HF.out (fun _ => hv))
        have d : decide (F k = v) = false := decide_eq_false hv
        generalize F k = u at *
        have d2 : (u == v) = false := by simpa using hv
        have d3 : (u != v) = true := by simpa using hv
        have d4 : decide (u ≠ v) = true := decide_eq_true hv
        clear hv
        go_wp2_with fail
        go_ret
        exact ⟨retI (by rw [HE.out]), rfl⟩
    · obtain rfl : k = n := by omega
      have dk : decide ((k : Int) < (k : Int)) = false := decide_eq_false (by omega)
      have HE := Lib.hid (HR.out k (Nat.le_refl _) HF.out (fun h => by omega))
      go_wp2_with fail
      go_ret
      exact ⟨retI (by rw [HE.out]), rfl⟩
theorem isSide_any (n : Int) (w : World) : Calls Try.prog 26 #[.int .i64 n] w fun e w' => e = .returned (.bool (decide (0 ≤ n ∧ n ≤ 4096))) ∧ w = w' := by
  by_cases h1 : 0 ≤ n
  · have d1 : decide (0 ≤ n) = true := decide_eq_true h1
    by_cases h2 : n ≤ 4096
    · have d2 : decide (n ≤ 4096) = true := decide_eq_true h2
      rw [decide_eq_true ⟨h1, h2⟩]
      go_enter Try.func26, Try.ntmps26
      go_wp2_with fail
      go_ret
      exact ⟨rfl, rfl⟩
    · have d2 : decide (n ≤ 4096) = false := decide_eq_false h2
      rw [decide_eq_false (fun h => h2 h.2)]
      go_enter Try.func26, Try.ntmps26
      go_wp2_with fail
      go_ret
      exact ⟨rfl, rfl⟩
  · have d1 : decide (0 ≤ n) = false := decide_eq_false h1
    rw [decide_eq_false (fun h => h1 h.1)]
    go_enter Try.func26, Try.ntmps26
    go_wp2_with fail
    go_ret
    exact ⟨rfl, rfl⟩
end Go.Proofs.Ytmjjbapahgejmaa.Rre
