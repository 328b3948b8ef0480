/-
  Contracts of the document's own answer (miradorref05): Power, Check, Codes, Same.
-/
import Derived.Test.YtikfenimgjeplaaHufCodes
namespace Go.Proofs.Ytikfenimgjeplaa.Huf
open Go.ChangeShapes Go.WideShapes Go.ChangeAt Go.RowKit
set_option linter.unusedVariables false

theorem power_any (n P : Nat) (w : World) (hP : 2 ^ n = P) (hn : n ≤ 15) : Calls Try.prog 69 #[.int .i64 n] w fun e w' => e = .returned (.int .i64 P) ∧ w = w' := by
  go_enter Try.func69, Try.ntmps69
  go_wp2_with fail
  go_loop [3, 4] (fun p i => ∃ k Q : Nat, k ≤ n ∧ i = .int .i64 k ∧ p = .int .i64 Q ∧ 2 ^ k = Q) (fun _ i => n - (intOf i).toNat)
  case atStart => exact ⟨0, 1, Nat.zero_le _, rfl, rfl, rfl⟩
  case round =>
    obtain ⟨k, Q, hk, rfl, rfl, hQ⟩ := hrel
    have hQ2 : Q ≤ 32768 := by rw [← hQ]; exact Nat.le_trans (Nat.pow_le_pow_right (by decide) (show k ≤ 15 by omega)) (by decide)
    have HQ := Lib.hid hQ
    have HP := Lib.hid hP
    clear hQ hP
    by_cases hlt : k < n
    · have hlt' : (k : Int) < n := by omega
      go_wp2_with fail
      refine ⟨⟨k + 1, Q * 2, by omega, by go_num, by go_num, by rw [Nat.pow_succ, HQ.out]⟩, ?_⟩
      simp [intOf]; omega
    · obtain rfl : k = n := by omega
      obtain rfl : Q = P := HQ.out.symm.trans HP.out
      go_wp2_with fail
      go_ret
      exact ⟨rfl, rfl⟩

def gU (l : Nat) : Nat := if l = 0 then 0 else 2 ^ (15 - l)
theorem gU_le (l : Nat) : gU l ≤ 32768 := by
  unfold gU
  split
  · omega
  · exact Nat.le_trans (Nat.pow_le_pow_right (by decide) (show 15 - l ≤ 15 by omega)) (by decide)
theorem totU_le : ∀ (l : List Nat), tot gU l ≤ l.length * 32768
  | [] => by simp [tot]
  | x :: r => by have := totU_le r; have := gU_le x; simp only [tot, List.length_cons]; omega

set_option maxRecDepth 10000 in
set_option maxHeartbeats 1000000 in
theorem refCheck_any (a : Option Addr) (n cap : Nat) (L : List Int) (w : World) (hn : L.length = n) (h : IsInts w a L) (hl : n ≤ 1000000) :
    Calls Try.prog 52 #[.slice a n cap] w fun e w' => e = .returned (chk L) ∧ w = w' := by
  have H := Lib.hid h
  clear h
  by_cases hb : 320 < n
  · have hc : chk L = .tuple #[.int .i64 0, .int .i64 50] := by
      unfold chk fine; rw [if_neg]; simp; omega
    have hb' : (320 : Int) < n := by omega
    rw [hc]
    go_enter Try.func52, Try.ntmps52
    go_wp2_with fail
    go_ret2
    exact ⟨rfl, rfl⟩
  · have hb' : ¬ ((320 : Int) < n) := by omega
    generalize hres : chk L = res
    have HR := Lib.hid hres
    clear hres
    go_enter Try.func52, Try.ntmps52
    go_wp2_with fail
    go_loop [4, 5] (fun v i => ∃ k T : Nat, k ≤ n ∧ i = .int .i64 k ∧ allIn 15 (L.take k) = true ∧ tot gU (nats (L.take k)) = T ∧ v = .int .i64 (32768 - (T : Int))) (fun _ i => n - (intOf i).toNat)
    case atStart => exact ⟨0, 0, Nat.zero_le _, rfl, rfl, rfl, rfl⟩
    case round =>
      obtain ⟨k, T, hk, rfl, hal, hT, rfl⟩ := hrel
      have hTl : T ≤ 10485760 := by
        have := totU_le (nats (L.take k))
        rw [nats_length, List.length_take, hT] at this
        omega
      have HA := Lib.hid hal
      have HT := Lib.hid hT
      clear hal hT
      by_cases hlt : k < n
      · have hlt' : (k : Int) < n := by omega
        obtain ⟨b, off, rfl, hbl, hc⟩ := H.out (by omega)
        have hck := hc k (by omega)
        have TA := Lib.hid (allIn_take 15 L k (by omega))
        have TN : Hid (nats (L.take (k + 1)) = nats (L.take k) ++ [L[k].toNat]) := Lib.hid (by
          unfold nats; rw [List.take_succ_eq_append_getElem (by omega), List.map_append]; rfl)
        have FB : Hid (L[k] < 0 ∨ 15 < L[k] → res = .tuple #[.int .i64 0, .int .i64 50]) := Lib.hid (fun h => by
          rw [← HR.out]; unfold chk fine; rw [allIn_false 15 L k (by omega) h]; simp)
        generalize L[k] = x at *
        clear hc
        by_cases h0 : x < 0
        · obtain rfl := FB.out (.inl h0)
          go_wp2_with fail
          go_ret2
          exact ⟨rfl, rfl⟩
        · by_cases h15 : 15 < x
          · obtain rfl := FB.out (.inr h15)
            have d0 : decide (x < 0) = false := by simp; omega
            go_wp2_with fail
            go_ret2
            exact ⟨rfl, rfl⟩
          · obtain ⟨y, rfl⟩ : ∃ y : Nat, x = y := ⟨x.toNat, by omega⟩
            have HA2 : Hid (allIn 15 (L.take (k + 1)) = true) := Lib.hid (by rw [TA.out, HA.out]; simp; omega)
            have HT2 : Hid (tot gU (nats (L.take (k + 1))) = T + gU y) := Lib.hid (by rw [TN.out, tot_append, HT.out]; simp [tot])
            clear TA TN FB HA HT
            by_cases hy : y = 0
            · subst hy
              have HT3 : Hid (tot gU (nats (L.take (k + 1))) = T) := Lib.hid (by rw [HT2.out]; rfl)
              go_wp2_with fail
              refine ⟨⟨k + 1, T, by omega, by go_num, HA2.out, HT3.out, rfl⟩, ?_⟩
              simp [intOf]; omega
            · obtain ⟨e, he⟩ : ∃ e, 15 - y = e := ⟨_, rfl⟩
              obtain ⟨P, hP⟩ : ∃ P, 2 ^ e = P := ⟨_, rfl⟩
              have HT3 : Hid (tot gU (nats (L.take (k + 1))) = T + P) := Lib.hid (by rw [HT2.out]; unfold gU; rw [if_neg hy, he, hP])
              have hPb : P ≤ 32768 := by rw [← hP]; exact Nat.le_trans (Nat.pow_le_pow_right (by decide) (show e ≤ 15 by omega)) (by decide)
              have C := fun w => Lib.hid (power_any e P w hP (by omega))
              have e15 : 15 - (y : Int) = e := by omega
              have hy0 : (0 : Int) < y := by omega
              clear hP HT2 he
              go_wp2_with fail
              refine (C _).out.mono ?_
              rintro r w' ⟨rfl, rfl⟩
              go_wp2_with fail
              refine ⟨⟨k + 1, T + P, by omega, by go_num, HA2.out, HT3.out, by congr 1; omega⟩, ?_⟩
              simp [intOf]; omega
      · obtain rfl : k = n := by omega
        have HU : Hid (used (nats L) 15 = T ∧ allIn 15 L = true) := Lib.hid (by
          have h1 := HA.out
          have h2 := HT.out
          rw [List.take_of_length_le (by omega)] at h1 h2
          exact ⟨by rw [used_all _ (nats_le h1)]; exact h2, h1⟩)
        by_cases hneg : 32768 < T
        · have hr : res = .tuple #[.int .i64 0, .int .i64 50] := by
            rw [← HR.out]; unfold chk fine; rw [HU.out.1]; rw [if_neg]; simp; omega
          subst hr
          have hneg' : 32768 - (T : Int) < 0 := by omega
          go_wp2_with fail
          go_ret2
          exact ⟨rfl, rfl⟩
        · have hr : res = .tuple #[.int .i64 (32768 - (T : Int)), .int .i64 0] := by
            rw [← HR.out]; unfold chk fine; rw [HU.out.1, HU.out.2, if_pos (by simp; omega)]
            rw [show ((32768 - T : Nat) : Int) = 32768 - (T : Int) by omega]
          subst hr
          have hneg' : ¬ (32768 - (T : Int) < 0) := by omega
          go_wp2_with fail
          go_ret2
          exact ⟨rfl, rfl⟩

end Go.Proofs.Ytikfenimgjeplaa.Huf
