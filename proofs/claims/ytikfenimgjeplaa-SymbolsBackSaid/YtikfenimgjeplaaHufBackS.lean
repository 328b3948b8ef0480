/-
  Where a code stands Next reads its symbol.
-/
import Derived.Test.YtikfenimgjeplaaHufReadS
import Derived.Test.YtikfenimgjeplaaBitWrA
namespace Go.Proofs.Ytikfenimgjeplaa.Huf
open Go.ChangeShapes Go.WideShapes Go.ChangeAt Go.RowKit
open Go.Proofs.Ytikfenimgjeplaa.Bit (tat)
set_option linter.unusedVariables false

theorem nextB_div (T : List Bool) (p m : Nat) : ∀ d, p + (m + d) ≤ T.length → bigN (nextB T p (m + d)) / 2 ^ d = bigN (nextB T p m)
  | 0, _ => by simp
  | d + 1, h => by
    have ih := nextB_div T p m d (by omega)
    rw [show m + (d + 1) = (m + d) + 1 by omega, nextB_succ T p (m + d) (by omega), Nat.pow_succ', ← Nat.div_div_eq_div_mul]
    have hb : (tat T (p + (m + d))).toNat ≤ 1 := by cases tat T (p + (m + d)) <;> simp
    rw [show (2 * bigN (nextB T p (m + d)) + (tat T (p + (m + d))).toNat) / 2 = bigN (nextB T p (m + d)) by omega, ih]

theorem nx_code (N : List Nat) (T : List Bool) (p i l : Nat) (h15 : ∀ x ∈ N, x ≤ 15) (hi : i < N.length) (hl : N[i] = l) (h1 : 1 ≤ l) (hp : p + l ≤ T.length) (hc : bigN (nextB T p l) = codeV N i) :
    nxG N T p false 15 0 0 = (i, 0, p + l, false) := by
  have hl15 : l ≤ 15 := by rw [← hl]; exact h15 _ (List.getElem_mem _)
  have hcode := findV_code N h15 i l (bigN (nextB T p l)) hi h1 hl hc.symm
  obtain ⟨m, _, hm2, hm3, hm4, hst⟩ := nx_spec N T p h15 15 0 0 rfl rfl (by omega) (by simp [top, fst, cn])
  rcases Nat.lt_trichotomy m l with h | h | h
  · exfalso
    obtain ⟨d, rfl⟩ : ∃ d, l = m + d := ⟨l - m, by omega⟩
    have hv := nextB_div T p m d hp
    rw [hc] at hv
    have hno : m = 0 ∨ ¬ (fst N m ≤ bigN (nextB T p m) ∧ bigN (nextB T p m) < top N m) := by
      by_cases h0 : m = 0
      · exact .inl h0
      · refine .inr fun hh => ?_
        obtain ⟨j, hj, ej, cj⟩ := (is_code N m (bigN (nextB T p m)) (by omega)).2 hh
        have := code_apart N j i hj hi (by omega) (by omega) (by omega)
        rw [hl, ej, cj, show m + d - m = d by omega] at this
        exact this hv
    have hn := findV_none N h15 m (bigN (nextB T p m)) (by omega) hno
    have hb := (begins_code N m (bigN (nextB T p m)) (by omega) h15).1 ⟨i, hi, by omega, by rw [hl, show m + d - m = d by omega]; exact hv⟩
    rw [if_pos hb] at hn
    rcases hst with ⟨_, s2, _⟩ | ⟨s1, _⟩ | ⟨s, s1, _⟩
    · omega
    · rw [hn] at s1; omega
    · rw [hn] at s1; omega
  · subst h
    rcases hst with ⟨s1, _⟩ | ⟨s1, _⟩ | ⟨s, s1, s2⟩
    · rw [hcode] at s1; omega
    · rw [hcode] at s1; omega
    · rw [hcode] at s1
      rw [s2, show s = i by omega]
  · exfalso
    have := (hm4 l (Nat.zero_le _) h).1
    rw [hcode] at this
    omega

open Go.Proofs.Ytikfenimgjeplaa.Bit (codeBits bitsOf num num_bitsOf pack pad tb tbits_packed cnt)

theorem bigN_rev : ∀ (l : List Bool), bigN l.reverse = num l
  | [] => rfl
  | b :: l => by
    rw [List.reverse_cons, bigN_snoc, bigN_rev l]
    simp only [num]; omega
theorem bigN_code (c l : Nat) (hl : l ≤ 15) (hc : c < 2 ^ l) : bigN (codeBits c l) = c ∧ (codeBits c l).length = l := by
  have hcn : cnt (l : Int) = l := by unfold cnt; omega
  constructor
  · unfold codeBits
    rw [hcn, bigN_rev]
    have h := num_bitsOf l (c : Int)
    have e : (c : Int) % 2 ^ l = ((c % 2 ^ l : Nat) : Int) := by simp
    rw [e, Nat.mod_eq_of_lt hc] at h
    exact Int.ofNat.inj h
  · rw [Bit.codeBits_length, hcn]

/-- What symbols write. -/
def wrote (N : List Nat) (A : List Nat) : List Bool := A.flatMap fun i => codeBits (codeV N i) (N.getD i 0)
theorem wrote_snoc (N A : List Nat) (i : Nat) : wrote N (A ++ [i]) = wrote N A ++ codeBits (codeV N i) (N.getD i 0) := by
  unfold wrote; rw [List.flatMap_append]; simp
theorem wrote_take (N A : List Nat) (j : Nat) (h : j < A.length) : wrote N (A.take (j + 1)) = wrote N (A.take j) ++ codeBits (codeV N A[j]) (N.getD A[j] 0) := by
  rw [List.take_succ_eq_append_getElem h, wrote_snoc]
theorem wrote_parts (N A : List Nat) (j : Nat) (h : j < A.length) : ∃ r, wrote N A = wrote N (A.take j) ++ codeBits (codeV N A[j]) (N.getD A[j] 0) ++ r := by
  refine ⟨wrote N (A.drop (j + 1)), ?_⟩
  rw [← wrote_take N A j h]
  unfold wrote
  rw [← List.flatMap_append, List.take_append_drop]
theorem next_wrote (N A : List Nat) (Z : List Bool) (j : Nat) (h : j < A.length) (hl : N.getD A[j] 0 ≤ 15) (hc : codeV N A[j] < 2 ^ N.getD A[j] 0) :
    bigN (nextB (wrote N A ++ Z) (wrote N (A.take j)).length (N.getD A[j] 0)) = codeV N A[j] ∧ (wrote N (A.take j)).length + N.getD A[j] 0 ≤ (wrote N A ++ Z).length ∧
    (wrote N (A.take (j + 1))).length = (wrote N (A.take j)).length + N.getD A[j] 0 := by
  obtain ⟨r, hr⟩ := wrote_parts N A j h
  obtain ⟨h1, h2⟩ := bigN_code (codeV N A[j]) (N.getD A[j] 0) hl hc
  refine ⟨?_, ?_, ?_⟩
  · rw [hr]
    unfold nextB
    rw [List.append_assoc, List.append_assoc, List.drop_left, List.take_append_of_le_length (by omega), List.take_of_length_le (by omega), h1]
  · rw [hr]; simp only [List.length_append]; omega
  · rw [wrote_take N A j h, List.length_append, h2]

end Go.Proofs.Ytikfenimgjeplaa.Huf
