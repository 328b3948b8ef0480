/-
  slices.ContainsFunc with the program's noColour.
-/
import Derived.Test.YtlamdgdegmjljaaScrRep
namespace Go.Proofs.Ytlamdgdegmjljaa.Scr
open Go.ChangeShapes Go.WideShapes Go.ChangeAt Go.RowKit Lz RowG RegVal Reg
set_option linter.unusedVariables false
set_option maxRecDepth 100000

theorem all_take {q : List Int} {k : Nat} (hk : k < q.length) (h : (q.take k).all colB = true) (hc : colB (px q k) = true) : (q.take (k + 1)).all colB = true := by
  rw [List.take_succ_eq_append_getElem hk, List.all_append, h, ← px_get hk]
  simp [hc]
theorem all_not {q : List Int} {k : Nat} (hk : k < q.length) (hc : colB (px q k) = false) : q.all colB = false := by
  rw [Bool.eq_false_iff]
  intro h
  have := List.all_eq_true.1 h q[k] (List.getElem_mem hk)
  rw [← px_get hk, hc] at this
  cases this
set_option maxHeartbeats 1000000 in
theorem index_any (q : List Int) (qv : Value) (w : World) (hq : SW w qv q) (hl : q.length ≤ maxLen) :
    Calls Try.prog 48 #[qv, .func (.func 37) #[] #[]] w fun e w' => ∃ k : Int, e = .returned (.int .i64 k) ∧ decide (0 ≤ k) = !(q.all colB) ∧ ∃ n, w' = w.drewN n := by
  obtain ⟨a, c, rfl, hc⟩ := hq.cells
  clear hq
  obtain ⟨n, hn⟩ : ∃ n, q.length = n := ⟨_, rfl⟩
  have HC := Lib.hid hc
  have HN := Lib.hid hn
  rw [hn] at hl HC ⊢
  unfold maxLen at hl
  clear hc hn
  go_enter Try.func48, Try.ntmps48
  go_wp2_with fail
  go_loopw [8] (fun i wr => ∃ k m : Nat, k ≤ n ∧ i = .int .i64 k ∧ (q.take k).all colB = true ∧ wr = w.drewN m) (fun i _ => n - (intOf i).toNat)
  case atStart => exact ⟨0, 0, Nat.zero_le _, rfl, rfl, rfl⟩
  case round =>
    obtain ⟨k, m, hk, rfl, hT, rfl⟩ := hrel
    have HT := Lib.hid hT
    clear hT
    by_cases hlt : k < n
    · obtain ⟨A, o, rfl, _, f1⟩ := HC.out (by omega)
      have c1 := f1 k hlt
      clear f1
      have hkq : k < q.length := by rw [HN.out]; exact hlt
      have E1 := Lib.hid (fun h => all_take hkq HT.out h)
      have E2 := Lib.hid (fun h => all_not hkq h)
      have C1 := Lib.hid (fun W => noColour_any (px q k) W)
      generalize px q k = x at *
      clear hkq
      go_wp2_with fail
      refine (C1.out _).mono ?_
      rintro e w' ⟨rfl, rfl⟩
      cases hb : colB x with
      | true =>
        have HE := Lib.hid (E1.out hb)
        clear hb E1 E2
        go_wp2_with fail
        exact ⟨⟨k + 1, m, by omega, by go_num, HE.out, rfl⟩, by simp [intOf]; omega⟩
      | false =>
        have HE := Lib.hid (E2.out hb)
        clear hb E1 E2
        go_wp2_with fail
        go_ret
        exact ⟨k, rfl, by rw [HE.out]; simp, m, rfl⟩
    · obtain rfl : k = n := by omega
      have HE := Lib.hid (HT.out)
      rw [List.take_of_length_le (by rw [HN.out]; exact Nat.le_refl _)] at HE
      go_wp2_with fail
      go_ret
      exact ⟨-1, rfl, by rw [HE.out]; rfl, m, rfl⟩
set_option maxHeartbeats 1000000 in
theorem contains_any (q : List Int) (qv : Value) (w : World) (hq : SW w qv q) (hl : q.length ≤ maxLen) :
    Calls Try.prog 41 #[qv, .func (.func 37) #[] #[]] w fun e w' => e = .returned (.bool (!(q.all colB))) ∧ ∃ n, w' = w.drewN n := by
  have C1 := Lib.hid (index_any q qv w hq hl)
  obtain ⟨a, c, rfl, hc⟩ := hq.cells
  clear hq hc
  generalize (!(q.all colB)) = res at *
  go_enter Try.func41, Try.ntmps41
  go_wp2_with fail
  refine C1.out.mono ?_
  rintro e w' ⟨k, rfl, hk, n, rfl⟩
  have HK := Lib.hid hk
  clear hk
  go_wp2_with fail
  go_ret
  exact ⟨retB HK.out, n, rfl⟩
end Go.Proofs.Ytlamdgdegmjljaa.Scr
