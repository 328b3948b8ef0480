/-
  Contracts of lz.Tail, within, Valid and of the reference's Tail and Valid.
-/
import Derived.Test.YtikfenimgjeplaaLzRow
import Derived.Test.YtikfenimgjeplaaLzMath
namespace Go.Proofs.Ytikfenimgjeplaa.Lz
open Go.ChangeShapes Go.WideShapes Go.ChangeAt Go.RowKit
set_option linter.unusedVariables false

theorem ret_int {k : IntKind} {a b : Int} (h : a = b) : Ending.returned (Value.int k a) = Ending.returned (.int k b) := by rw [h]
theorem ret_bool {a b : Bool} (h : a = b) : Ending.returned (Value.bool a) = Ending.returned (.bool b) := by rw [h]
theorem ret_str {a b : ByteArray} (h : a = b) : Ending.returned (Value.string a) = Ending.returned (.string b) := by rw [h]

theorem within_any (n l m : Int) (w : World) :
    Calls Try.prog 62 #[.int .i64 n, .int .i64 l, .int .i64 m] w fun e w' => e = .returned (.bool (decide (l ≤ n) && decide (n ≤ m))) ∧ w = w' := by
  go_enter Try.func62, Try.ntmps62
  go_wp2_with fail
  all_goals (go_ret; refine ⟨ret_bool ?_, rfl⟩)
  all_goals (first | (simp_all; done) | (simp_all; omega))

/-- A token's cells. -/
def tokC (t : Tok) : Array Value := #[.int .i64 t.B, .int .i64 t.L, .int .i64 t.D]

theorem valid_any (t : Tok) (w : World) :
    Calls Try.prog 37 #[.agg (tokC t)] w fun e w' => e = .returned (.bool (okT t)) ∧ w' = w.alloc (.cells (tokC t) 64) := by
  obtain ⟨V, hV⟩ : ∃ V, okT t = V := ⟨_, rfl⟩
  rw [hV]
  have HV := Lib.hid hV
  clear hV
  obtain ⟨b, l, d⟩ := t
  unfold tokC
  by_cases hl : l = 0
  · subst hl
    by_cases hd : d = 0
    · subst hd
      go_enter Try.func37, Try.ntmps37
      go_wp2_with fail
      refine (within_any _ _ _ _).mono ?_
      rintro r w' ⟨rfl, rfl⟩
      go_wp2_with fail
      go_ret
      refine ⟨ret_bool ?_, rfl⟩
      rw [← HV.out]
      rfl
    · have V0 : V = false := by rw [← HV.out]; simp [okT, hd]
      subst V0
      go_enter Try.func37, Try.ntmps37
      go_wp2_with fail
      go_ret
      exact ⟨rfl, rfl⟩
  · have hl2 : (l == 0) = false := by simpa using hl
    by_cases hb : b = 0
    · subst hb
      obtain ⟨x, hx⟩ : ∃ x, (decide (3 ≤ l) && decide (l ≤ 258)) = x := ⟨_, rfl⟩
      cases x with
      | false =>
        have V0 : V = false := by rw [← HV.out]; simp only [okT, if_neg hl, hx]; simp
        subst V0
        go_enter Try.func37, Try.ntmps37
        go_wp2_with fail
        refine (within_any _ _ _ _).mono ?_
        rintro r w' ⟨rfl, rfl⟩
        rw [hx]
        go_wp2_with fail
        go_ret
        exact ⟨rfl, rfl⟩
      | true =>
        have V0 : V = (decide (1 ≤ d) && decide (d ≤ 32768)) := by rw [← HV.out]; simp only [okT, if_neg hl, hx]; simp
        subst V0
        generalize hy : (decide (1 ≤ d) && decide (d ≤ 32768)) = y
        have HY := Lib.hid hy
        clear hy HV
        go_enter Try.func37, Try.ntmps37
        go_wp2_with fail
        refine (within_any _ _ _ _).mono ?_
        rintro r w' ⟨rfl, rfl⟩
        rw [hx]
        go_wp2_with fail
        refine (within_any _ _ _ _).mono ?_
        rintro r w' ⟨rfl, rfl⟩
        rw [HY.out]
        go_wp2_with fail
        go_ret
        exact ⟨rfl, rfl⟩
    · have V0 : V = false := by rw [← HV.out]; simp [okT, hl, hb]
      subst V0
      go_enter Try.func37, Try.ntmps37
      go_wp2_with fail
      go_ret
      exact ⟨rfl, rfl⟩

theorem refValid_any (t : Tok) (w : World) :
    Calls Try.prog 44 #[.agg (tokC t)] w fun e w' => e = .returned (.bool (okT t)) ∧ w' = w.alloc (.cells (tokC t) 64) := by
  obtain ⟨V, hV⟩ : ∃ V, okT t = V := ⟨_, rfl⟩
  rw [hV]
  have HV := Lib.hid hV
  clear hV
  obtain ⟨b, l, d⟩ := t
  unfold tokC
  by_cases hl : l = 0
  · have V0 : V = (decide (d = 0) && (decide (0 ≤ b) && decide (b ≤ 255))) := by rw [← HV.out]; simp only [okT, if_pos hl]
    subst hl
    have HV := Lib.hid V0
    clear V0
    go_enter Try.func44, Try.ntmps44
    go_wp2_with fail
    all_goals (go_ret; refine ⟨ret_bool ?_, ?_⟩)
    all_goals (first | (rw [HV.out]; simp_all; done) | (rw [HV.out]; simp_all; omega) | rfl | (simp_all; done))
  · have V0 : V = (decide (b = 0) && (decide (3 ≤ l) && decide (l ≤ 258)) && (decide (1 ≤ d) && decide (d ≤ 32768))) := by rw [← HV.out]; simp only [okT, if_neg hl]
    have hl2 : (l == 0) = false := by simpa using hl
    have HL := Lib.hid hl
    have HV := Lib.hid V0
    clear V0 hl
    go_enter Try.func44, Try.ntmps44
    go_wp2_with fail
    all_goals (go_ret; refine ⟨ret_bool ?_, ?_⟩)
    all_goals (first | (rw [HV.out]; simp_all; done) | (rw [HV.out]; simp_all; omega) | rfl | (simp_all; done))

end Go.Proofs.Ytikfenimgjeplaa.Lz
