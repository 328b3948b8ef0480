/-
  What Next reads is what the document finds.
-/
import Derived.Test.YtikfenimgjeplaaHufFindS
import Derived.Test.YtikfenimgjeplaaHufNext
namespace Go.Proofs.Ytikfenimgjeplaa.Huf
open Go.ChangeShapes Go.WideShapes Go.ChangeAt Go.RowKit
open Go.Proofs.Ytikfenimgjeplaa.Bit (tat)
set_option linter.unusedVariables false

/-- The next m bits. -/
def nextB (T : List Bool) (i m : Nat) : List Bool := (T.drop i).take m
theorem nextB_length (T : List Bool) (i m : Nat) (h : i + m ≤ T.length) : (nextB T i m).length = m := by unfold nextB; rw [List.length_take, List.length_drop]; omega
theorem nextB_succ (T : List Bool) (i m : Nat) (h : i + m < T.length) : bigN (nextB T i (m + 1)) = 2 * bigN (nextB T i m) + (tat T (i + m)).toNat := by
  have e : nextB T i (m + 1) = nextB T i m ++ [tat T (i + m)] := by
    unfold nextB tat
    rw [List.take_succ_eq_append_getElem (by rw [List.length_drop]; omega), List.getElem_drop]
    simp [h]
  rw [e, bigN_snoc]

/-- The symbols of a length stand in the order of their codes. -/
theorem filter_at (p : Nat → Bool) : ∀ (n i : Nat), i < n → p i = true → ((List.range n).filter p)[((List.range i).filter p).length]? = some i
  | 0, i, h, _ => by omega
  | n + 1, i, h, hp => by
    rw [List.range_succ, List.filter_append]
    by_cases e : i = n
    · subst e
      rw [List.getElem?_append_right (Nat.le_refl _), Nat.sub_self]
      simp [hp]
    · have ih := filter_at p n i (by omega) hp
      rw [List.getElem?_append_left (List.getElem?_eq_some_iff.1 ih).1, ih]
theorem count_range (N : List Nat) (l : Nat) : ∀ i, i ≤ N.length → ((List.range i).filter fun j => N.getD j 0 == l).length = (N.take i).count l
  | 0, _ => rfl
  | i + 1, h => by
    rw [List.range_succ, List.filter_append, List.length_append, count_range N l i (by omega), List.take_succ_eq_append_getElem (by omega), List.count_append]
    have g : N.getD i 0 = N[i] := by rw [List.getD_eq_getElem?_getD, List.getElem?_eq_getElem (by omega)]; rfl
    by_cases e : N[i] = l
    · simp only [List.filter_cons, List.filter_nil, g, e]; simp
    · simp only [List.filter_cons, List.filter_nil, g, List.count_singleton]; simp [e]
theorem sym_at (N : List Nat) (i l v : Nat) (hi : i < N.length) (hl : N[i] = l) (h1 : 1 ≤ l) (hv : codeV N i = v) : (symsOf N N.length l).getD (v - fst N l) 0 = i := by
  have g : N.getD i 0 = l := by rw [List.getD_eq_getElem?_getD, List.getElem?_eq_getElem hi]; exact hl
  have hc : v - fst N l = (N.take i).count l := by
    rw [← hv]; unfold codeV; rw [g, if_neg (by omega)]; omega
  unfold symsOf
  rw [if_neg (by omega), hc, ← count_range N l i (by omega), List.getD_eq_getElem?_getD, filter_at _ N.length i hi (by rw [g]; simp)]
  rfl

/-- Where the search stops, and what it tells. -/
def Stop (N : List Nat) (T : List Bool) (i m : Nat) (r : Nat × Int × Nat × Bool) : Prop :=
  (findV N m (bigN (nextB T i m)) = -1 ∧ i + m = T.length ∧ r.1 = 0 ∧ r.2.1 = 2) ∨ (findV N m (bigN (nextB T i m)) = -2 ∧ r.1 = 0 ∧ r.2.1 = 3) ∨
  (∃ s : Nat, findV N m (bigN (nextB T i m)) = (s : Int) ∧ r = (s, 0, i + m, false))

theorem nx_spec (N : List Nat) (T : List Bool) (i : Nat) (h15 : ∀ x ∈ N, x ≤ 15) : ∀ (f k v : Nat), f + k = 15 → v = bigN (nextB T i k) → i + k ≤ T.length → top N k ≤ v →
    ∃ m, k ≤ m ∧ m ≤ 15 ∧ i + m ≤ T.length ∧ (∀ q, k ≤ q → q < m → findV N q (bigN (nextB T i q)) = -1 ∧ i + q < T.length) ∧ Stop N T i m (nxG N T i false f k v) := by
  intro f
  induction f with
  | zero =>
    intro k v hfk hv hik htop
    have hk : k = 15 := by omega
    subst hk
    refine ⟨15, Nat.le_refl _, Nat.le_refl _, hik, fun q h1 h2 => by omega, .inr (.inl ⟨?_, rfl, rfl⟩)⟩
    rw [← hv, findV_none N h15 15 v (by omega) (.inr (by omega))]
    have ht := top_used N 15 (Nat.le_refl _)
    rw [if_neg (by simp at ht ⊢; omega)]
  | succ f ih =>
    intro k v hfk hv hik htop
    have hn := findV_none N h15 k v (by omega) (.inr (by omega))
    unfold nxG
    by_cases hu : v * 2 ^ (15 - k) < used N 15
    · rw [if_pos ⟨htop, hu⟩] at hn
      rw [if_pos hu]
      by_cases he : T.length ≤ i + k
      · rw [if_pos (.inr he)]
        refine ⟨k, Nat.le_refl _, by omega, hik, fun q h1 h2 => by omega, .inl ⟨?_, by omega, rfl, rfl⟩⟩
        rw [← hv]; exact hn
      · rw [if_neg (by simp; omega)]
        have hs := nextB_succ T i k (by omega)
        rw [← hv] at hs
        obtain ⟨v', hv'⟩ : ∃ v', 2 * v + (tat T (i + k)).toNat = v' := ⟨_, rfl⟩
        rw [hv'] at hs ⊢
        have hft := fst_top N k
        have hge : fst N (k + 1) ≤ v' := by rw [hft, ← hv']; omega
        by_cases ht : v' < top N (k + 1)
        · rw [if_pos ht]
          obtain ⟨i0, hi0, e0, c0⟩ := (is_code N (k + 1) v' (by omega)).2 ⟨hge, ht⟩
          refine ⟨k + 1, by omega, by omega, by omega, fun q h1 h2 => ?_, .inr (.inr ⟨i0, ?_, ?_⟩)⟩
          · obtain rfl : q = k := by omega
            rw [← hv]; exact ⟨hn, by omega⟩
          · rw [hs]; exact findV_code N h15 i0 (k + 1) v' hi0 (by omega) e0 c0
          · rw [sym_at N i0 (k + 1) v' hi0 e0 (by omega) c0]; rfl
        · rw [if_neg ht]
          obtain ⟨m, m1, m2, m3, m4, m5⟩ := ih (k + 1) v' (by omega) hs.symm (by omega) (by omega)
          refine ⟨m, by omega, m2, m3, fun q h1 h2 => ?_, m5⟩
          by_cases hq : q = k
          · subst hq; rw [← hv]; exact ⟨hn, by omega⟩
          · exact m4 q (by omega) h2
    · rw [if_neg (fun h => hu h.2)] at hn
      rw [if_neg hu]
      refine ⟨k, Nat.le_refl _, by omega, hik, fun q h1 h2 => by omega, .inr (.inl ⟨?_, rfl, rfl⟩)⟩
      rw [← hv]; exact hn

end Go.Proofs.Ytikfenimgjeplaa.Huf
