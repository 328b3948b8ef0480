/-
  The laws of layer 17 (rre): is a rectangle no more than is looked at; how much is decoded.
-/
import Derived.Test.YtmjjbapahgejmaaRreSays
namespace Go.Proofs.Ytmjjbapahgejmaa.Rre
open Go.ChangeShapes Go.WideShapes Go.ChangeAt Go.RowKit Lz RowG RegVal Pln
open Go.Proofs.Ytmjjbapahgejmaa.Fmt (Fm)
set_option linter.unusedVariables false
set_option linter.unusedSimpArgs false
set_option maxRecDepth 100000

def fewB (w h : Int) : Bool := decide (0 ≤ w ∧ 0 ≤ h ∧ w ≤ 200 ∧ h ≤ 200 ∧ w * h ≤ 200)
theorem few_iff {w h : Int} : fewB w h = true ↔ 0 ≤ w ∧ 0 ≤ h ∧ w ≤ 200 ∧ h ≤ 200 ∧ w * h ≤ 200 := by simp [fewB]
theorem few_any (w h : Int) (W0 : World) : Calls Try.prog 17 #[.int .i64 w, .int .i64 h] W0 fun e w' => e = .returned (.bool (fewB w h)) ∧ W0 = w' := by
  by_cases h1 : 0 ≤ w
  case neg =>
    rw [show fewB w h = false from decide_eq_false (fun c => h1 c.1)]
    have d1 : decide (0 ≤ w) = false := decide_eq_false h1
    go_enter Try.func17, Try.ntmps17
    go_wp2_with fail
    go_ret
    exact ⟨rfl, rfl⟩
  have d1 : decide (0 ≤ w) = true := decide_eq_true h1
  by_cases h2 : 0 ≤ h
  case neg =>
    rw [show fewB w h = false from decide_eq_false (fun c => h2 c.2.1)]
    have d2 : decide (0 ≤ h) = false := decide_eq_false h2
    go_enter Try.func17, Try.ntmps17
    go_wp2_with fail
    go_ret
    exact ⟨rfl, rfl⟩
  have d2 : decide (0 ≤ h) = true := decide_eq_true h2
  by_cases h3 : w ≤ 200
  case neg =>
    rw [show fewB w h = false from decide_eq_false (fun c => h3 c.2.2.1)]
    have d3 : decide (w ≤ 200) = false := decide_eq_false h3
    go_enter Try.func17, Try.ntmps17
    go_wp2_with fail
    go_ret
    exact ⟨rfl, rfl⟩
  have d3 : decide (w ≤ 200) = true := decide_eq_true h3
  by_cases h4 : h ≤ 200
  case neg =>
    rw [show fewB w h = false from decide_eq_false (fun c => h4 c.2.2.2.1)]
    have d4 : decide (h ≤ 200) = false := decide_eq_false h4
    go_enter Try.func17, Try.ntmps17
    go_wp2_with fail
    go_ret
    exact ⟨rfl, rfl⟩
  have d4 : decide (h ≤ 200) = true := decide_eq_true h4
  obtain ⟨A, rfl⟩ : ∃ A : Nat, w = A := ⟨w.toNat, by omega⟩
  obtain ⟨B, rfl⟩ : ∃ B : Nat, h = B := ⟨h.toNat, by omega⟩
  obtain ⟨N, hN⟩ : ∃ N, A * B = N := ⟨_, rfl⟩
  have hN' : (A : Int) * B = (N : Int) := by rw [← hN, Int.natCast_mul]
  have hb : N ≤ 200 * 200 := by rw [← hN]; exact Nat.mul_le_mul (by omega) (by omega)
  have t0 : IntKind.i64.wrap ((A : Int) * B) = (N : Int) := by rw [hN']; exact IntWalk.i64_in _ (by omega)
  have e : fewB A B = decide ((N : Int) ≤ 200) := by
    unfold fewB
    rw [hN', decide_eq_decide]
    omega
  rw [e]
  clear hN hN'
  go_enter Try.func17, Try.ntmps17
  go_wp2_with fail
  go_ret
  first
    | exact ⟨rfl, rfl⟩
    | exact ⟨by simp, rfl⟩
theorem decOut_length {f : Fm} {a b : Int} {t : ByteArray} (h : fitsB f a b = true → a * b ≤ 100000) : (decOut f a b t).l.length ≤ 100000 := by
  unfold decOut
  split
  · rename_i hf
    have hab := h hf
    obtain ⟨_, a0, _, b0, _⟩ := fits_parts hf
    have hn : a.toNat * b.toNat ≤ 100000 := by
      have h3 : ((a.toNat * b.toNat : Nat) : Int) = a * b := by rw [Int.natCast_mul, Int.toNat_of_nonneg a0, Int.toNat_of_nonneg b0]
      omega
    split
    · rename_i he
      rw [List.length_map]
      have key : (decL f a.toNat b.toNat t).l.length = 0 ∨ (decL f a.toNat b.toNat t).l.length = a.toNat * b.toNat := by
        unfold decL at he ⊢
        split
        · exact .inl rfl
        · split
          · exact .inl rfl
          · split
            · exact .inl rfl
            · rename_i h1 h2 h3
              rw [if_neg h1, if_neg h2, if_neg h3] at he
              exact .inr (decN_length _ he)
      omega
    · exact Nat.zero_le _
  · exact Nat.zero_le _
end Go.Proofs.Ytmjjbapahgejmaa.Rre
