/-
  Contracts of lz.Tail, within, Valid and of the reference's Tail and Valid.
-/
import Derived.Test.YtlafenookbdhoaaLzRow
import Derived.Test.YtlafenookbdhoaaLzMath
namespace Go.Proofs.Ytlafenookbdhoaa.Lz
open Go.ChangeShapes Go.WideShapes Go.ChangeAt Go.RowKit
set_option linter.unusedVariables false

theorem ret_int {k : IntKind} {a b : Int} (h : a = b) : Ending.returned (Value.int k a) = Ending.returned (.int k b) := by rw [h]
theorem ret_bool {a b : Bool} (h : a = b) : Ending.returned (Value.bool a) = Ending.returned (.bool b) := by rw [h]
theorem ret_str {a b : ByteArray} (h : a = b) : Ending.returned (Value.string a) = Ending.returned (.string b) := by rw [h]

/-- The end of a text. -/
def tailB (s : ByteArray) : ByteArray := s.extract (s.size - 32768) s.size
theorem tailB_list (s : ByteArray) : (tailB s).data.toList = tailL s.data.toList := by
  unfold tailB tailL
  simp [ByteArray.data_extract]
  apply List.take_of_length_le
  simp
theorem tailB_size (s : ByteArray) : (tailB s).size = min s.size 32768 := by
  have := congrArg List.length (tailB_list s)
  rw [tailL_length] at this
  simpa using this
theorem bytes_ext {a b : ByteArray} (h : a.data.toList = b.data.toList) : a = b := by
  cases a; cases b
  simp at h
  rw [h]
theorem tailB_small (s : ByteArray) (h : s.size ≤ 32768) : tailB s = s := bytes_ext (by rw [tailB_list, tailL_small (by simpa using h)])

theorem tail_any (s : ByteArray) (w : World) (hs : s.size ≤ maxLen) :
    Calls Try.prog 16 #[.string s] w fun e w' => e = .returned (.string (tailB s)) ∧ w = w' := by
  unfold maxLen at hs
  obtain ⟨m, hm⟩ : ∃ m : Nat, s.size - 32768 = m := ⟨_, rfl⟩
  have h1 : max ((s.size : Int) - 32768) 0 = (m : Int) := by omega
  have h2 : (if (s.size : Int) - 32768 < 0 then (0 : Int) else (s.size : Int) - 32768) = (m : Int) := by split <;> omega
  have hms : m ≤ s.size := by omega
  have e : tailB s = s.extract m s.size := by unfold tailB; rw [hm]
  rw [e]
  clear e hm
  go_enter Try.func16, Try.ntmps16
  go_wp2_with fail
  go_ret
  exact ⟨rfl, rfl⟩

theorem refTail_any (s : ByteArray) (w : World) (hs : s.size ≤ maxLen) :
    Calls Try.prog 17 #[.string s] w fun e w' => e = .returned (.string (tailB s)) ∧ w = w' := by
  unfold maxLen at hs
  by_cases h : 32768 < s.size
  · obtain ⟨m, hm⟩ : ∃ m : Nat, s.size = m + 32768 := ⟨s.size - 32768, by omega⟩
    have e : tailB s = s.extract m s.size := by unfold tailB; rw [show s.size - 32768 = m by omega]
    have h1 : (s.size : Int) - 32768 = (m : Int) := by omega
    have hms : m ≤ s.size := by omega
    rw [e]
    clear e hm
    go_enter Try.func17, Try.ntmps17
    go_wp2_with fail
    go_ret
    exact ⟨rfl, rfl⟩
  · rw [tailB_small s (by omega)]
    go_enter Try.func17, Try.ntmps17
    go_wp2_with fail
    go_ret
    exact ⟨rfl, rfl⟩

theorem within_any (n l m : Int) (w : World) :
    Calls Try.prog 21 #[.int .i64 n, .int .i64 l, .int .i64 m] w fun e w' => e = .returned (.bool (decide (l ≤ n) && decide (n ≤ m))) ∧ w = w' := by
  go_enter Try.func21, Try.ntmps21
  go_wp2_with fail
  all_goals (go_ret; refine ⟨ret_bool ?_, rfl⟩)
  all_goals (first | (simp_all; done) | (simp_all; omega))

/-- A token's cells. -/
def tokC (t : Tok) : Array Value := #[.int .i64 t.B, .int .i64 t.L, .int .i64 t.D]

theorem valid_any (t : Tok) (w : World) :
    Calls Try.prog 14 #[.agg (tokC t)] w fun e w' => e = .returned (.bool (okT t)) ∧ w' = w.alloc (.cells (tokC t) 30) := by
  obtain ⟨V, hV⟩ : ∃ V, okT t = V := ⟨_, rfl⟩
  rw [hV]
  have HV := Lib.hid hV
  clear hV
  obtain ⟨b, l, d⟩ := t
  unfold tokC
  by_cases hl : l = 0
  · subst hl
    by_cases hd : d = 0
    · subst hd
      go_enter Try.func14, Try.ntmps14
      go_wp2_with fail
      refine (within_any _ _ _ _).mono ?_
      rintro r w' ⟨rfl, rfl⟩
      go_wp2_with fail
      go_ret
      refine ⟨ret_bool ?_, rfl⟩
      rw [← HV.out]
      rfl
    · have V0 : V = false := by rw [← HV.out]; simp [okT, hd]
      subst V0
      go_enter Try.func14, Try.ntmps14
      go_wp2_with fail
      go_ret
      exact ⟨rfl, rfl⟩
  · have hl2 : (l == 0) = false := by simpa using hl
    by_cases hb : b = 0
    · subst hb
      obtain ⟨x, hx⟩ : ∃ x, (decide (3 ≤ l) && decide (l ≤ 258)) = x := ⟨_, rfl⟩
      cases x with
      | false =>
        have V0 : V = false := by rw [← HV.out]; simp only [okT, if_neg hl, hx]; simp
        subst V0
        go_enter Try.func14, Try.ntmps14
        go_wp2_with fail
        refine (within_any _ _ _ _).mono ?_
        rintro r w' ⟨rfl, rfl⟩
        rw [hx]
        go_wp2_with fail
        go_ret
        exact ⟨rfl, rfl⟩
      | true =>
        have V0 : V = (decide (1 ≤ d) && decide (d ≤ 32768)) := by rw [← HV.out]; simp only [okT, if_neg hl, hx]; simp
        subst V0
        generalize hy : (decide (1 ≤ d) && decide (d ≤ 32768)) = y
        have HY := Lib.hid hy
        clear hy HV
        go_enter Try.func14, Try.ntmps14
        go_wp2_with fail
        refine (within_any _ _ _ _).mono ?_
        rintro r w' ⟨rfl, rfl⟩
        rw [hx]
        go_wp2_with fail
        refine (within_any _ _ _ _).mono ?_
        rintro r w' ⟨rfl, rfl⟩
        rw [HY.out]
        go_wp2_with fail
        go_ret
        exact ⟨rfl, rfl⟩
    · have V0 : V = false := by rw [← HV.out]; simp [okT, hl, hb]
      subst V0
      go_enter Try.func14, Try.ntmps14
      go_wp2_with fail
      go_ret
      exact ⟨rfl, rfl⟩

theorem refValid_any (t : Tok) (w : World) :
    Calls Try.prog 15 #[.agg (tokC t)] w fun e w' => e = .returned (.bool (okT t)) ∧ w' = w.alloc (.cells (tokC t) 30) := by
  obtain ⟨V, hV⟩ : ∃ V, okT t = V := ⟨_, rfl⟩
  rw [hV]
  have HV := Lib.hid hV
  clear hV
  obtain ⟨b, l, d⟩ := t
  unfold tokC
  by_cases hl : l = 0
  · have V0 : V = (decide (d = 0) && (decide (0 ≤ b) && decide (b ≤ 255))) := by rw [← HV.out]; simp only [okT, if_pos hl]
    subst hl
    have HV := Lib.hid V0
    clear V0
    go_enter Try.func15, Try.ntmps15
    go_wp2_with fail
    all_goals (go_ret; refine ⟨ret_bool ?_, ?_⟩)
    all_goals (first | (rw [HV.out]; simp_all; done) | (rw [HV.out]; simp_all; omega) | rfl | (simp_all; done))
  · have V0 : V = (decide (b = 0) && (decide (3 ≤ l) && decide (l ≤ 258)) && (decide (1 ≤ d) && decide (d ≤ 32768))) := by rw [← HV.out]; simp only [okT, if_neg hl]
    have hl2 : (l == 0) = false := by simpa using hl
    have HL := Lib.hid hl
    have HV := Lib.hid V0
    clear V0 hl
    go_enter Try.func15, Try.ntmps15
    go_wp2_with fail
    all_goals (go_ret; refine ⟨ret_bool ?_, ?_⟩)
    all_goals (first | (rw [HV.out]; simp_all; done) | (rw [HV.out]; simp_all; omega) | rfl | (simp_all; done))

end Go.Proofs.Ytlafenookbdhoaa.Lz
