/-
  Plain facts of layer 5: codes by their lengths, as parts of a room of 32768. Nothing of the program is named here.
-/
import Derived.Test.YtikfenimgjeplaaHufMath
namespace Go.Proofs.Ytikfenimgjeplaa.Huf

/-- How many have a length (none has 0). -/
def cn (lens : List Nat) (l : Nat) : Nat := if l = 0 then 0 else lens.count l
/-- The first code of a length. -/
def fst (lens : List Nat) : Nat → Nat
  | 0 => 0
  | l + 1 => 2 * (fst lens l + cn lens l)
/-- The code of the symbol at a place. -/
def codeV (lens : List Nat) (i : Nat) : Nat := if lens.getD i 0 = 0 then 0 else fst lens (lens.getD i 0) + (lens.take i).count (lens.getD i 0)
/-- The room that codes up to a length take. -/
def used (lens : List Nat) : Nat → Nat
  | 0 => 0
  | l + 1 => used lens l + cn lens (l + 1) * 2 ^ (15 - (l + 1))

theorem fst_used (lens : List Nat) : ∀ l, l + 1 ≤ 15 → fst lens (l + 1) * 2 ^ (15 - (l + 1)) = used lens l := by
  intro l
  induction l with
  | zero => intro _; simp [fst, cn, used]
  | succ l ih =>
    intro h
    have i1 := ih (by omega)
    show 2 * (fst lens (l + 1) + cn lens (l + 1)) * 2 ^ (15 - (l + 1 + 1)) = used lens l + cn lens (l + 1) * 2 ^ (15 - (l + 1))
    have hp : (2 : Nat) ^ (15 - (l + 1)) = 2 * 2 ^ (15 - (l + 1 + 1)) := by
      rw [show 15 - (l + 1) = (15 - (l + 1 + 1)) + 1 by omega, Nat.pow_succ]; omega
    rw [← i1, ← Nat.add_mul, hp, Nat.mul_comm 2, Nat.mul_assoc]

theorem used_mono (lens : List Nat) {j k : Nat} (h : j ≤ k) : used lens j ≤ used lens k := by
  induction k with
  | zero => obtain rfl : j = 0 := by omega
            exact Nat.le_refl _
  | succ k ih =>
    by_cases e : j = k + 1
    · subst e; exact Nat.le_refl _
    · have := ih (by omega)
      show _ ≤ used lens k + _
      omega

theorem count_take_lt (lens : List Nat) (l : Nat) : ∀ i, (h : i < lens.length) → lens[i] = l → (lens.take i).count l < lens.count l := by
  intro i h e
  have h1 : lens.count l = (lens.take i).count l + (lens.drop i).count l := by
    conv => lhs; rw [← List.take_append_drop i lens]
    rw [List.count_append]
  have h2 : lens.drop i = lens[i] :: lens.drop (i + 1) := List.drop_eq_getElem_cons h
  rw [h2, e, List.count_cons_self] at h1
  omega

theorem count_take_inj (lens : List Nat) (l i j : Nat) (hi : i < lens.length) (hj : j < lens.length) (ei : lens[i] = l) (ej : lens[j] = l) (h : (lens.take i).count l = (lens.take j).count l) : i = j := by
  have key : ∀ a b, (ha : a < b) → (hb : b < lens.length) → lens[a]'(by omega) = l → (lens.take a).count l < (lens.take b).count l := by
    intro a b hab hb e
    have h1 := count_take_lt (lens.take b) l a (by simp; omega) (by rw [List.getElem_take]; exact e)
    rw [List.take_take, Nat.min_eq_left (by omega)] at h1
    exact h1
  rcases Nat.lt_trichotomy i j with h1 | h1 | h1
  · have := key i j h1 hj ei; omega
  · exact h1
  · have := key j i h1 hi ej; omega

theorem count_take_at : ∀ (lens : List Nat) (l k : Nat), k < lens.count l → ∃ i, ∃ h : i < lens.length, lens[i] = l ∧ (lens.take i).count l = k
  | [], l, k, h => by simp at h
  | a :: r, l, k, h => by
    by_cases e : a = l
    · subst e
      match k, h with
      | 0, _ => exact ⟨0, by simp, rfl, rfl⟩
      | k + 1, h =>
        rw [List.count_cons_self] at h
        obtain ⟨i, hi, h1, h2⟩ := count_take_at r a k (by omega)
        exact ⟨i + 1, by simp; omega, h1, by rw [List.take_succ_cons, List.count_cons_self, h2]⟩
    · rw [List.count_cons_of_ne (by simpa using e)] at h
      obtain ⟨i, hi, h1, h2⟩ := count_take_at r l k h
      exact ⟨i + 1, by simp; omega, h1, by rw [List.take_succ_cons, List.count_cons_of_ne (by simpa using e), h2]⟩

/-- A code lies in its length's part of the room. -/
theorem codeV_in (lens : List Nat) (i l : Nat) (hi : i < lens.length) (e : lens[i] = l) (h1 : 1 ≤ l) (h15 : l ≤ 15) :
    fst lens l ≤ codeV lens i ∧ codeV lens i < fst lens l + cn lens l ∧ used lens (l - 1) ≤ codeV lens i * 2 ^ (15 - l) ∧ (codeV lens i + 1) * 2 ^ (15 - l) ≤ used lens l := by
  have eg : lens.getD i 0 = l := by rw [List.getD_eq_getElem?_getD, List.getElem?_eq_getElem hi]; exact e
  have hc : cn lens l = lens.count l := by unfold cn; rw [if_neg (by omega)]
  have hlt := count_take_lt lens l i hi e
  have hv : codeV lens i = fst lens l + (lens.take i).count l := by unfold codeV; rw [eg, if_neg (by omega)]
  obtain ⟨k, rfl⟩ : ∃ k, l = k + 1 := ⟨l - 1, by omega⟩
  have hu := fst_used lens k h15
  refine ⟨by omega, by omega, ?_, ?_⟩
  · rw [show k + 1 - 1 = k by omega, ← hu]
    exact Nat.mul_le_mul_right _ (by omega)
  · show _ ≤ used lens k + cn lens (k + 1) * 2 ^ (15 - (k + 1))
    rw [← hu, ← Nat.add_mul]
    exact Nat.mul_le_mul_right _ (by omega)

theorem div_iff (x c s : Nat) (hs : 0 < s) : x / s = c ↔ c * s ≤ x ∧ x < (c + 1) * s := by
  constructor
  · rintro rfl
    exact ⟨Nat.div_mul_le_self x s, by rw [Nat.mul_comm]; exact Nat.lt_mul_div_succ x hs⟩
  · rintro ⟨h1, h2⟩
    exact Nat.div_eq_of_lt_le h1 h2

/-- Each row of 15 bits begins with one code at most. -/
theorem code_one (lens : List Nat) (i j x : Nat) (hi : i < lens.length) (hj : j < lens.length) (i1 : 1 ≤ lens[i]) (i15 : lens[i] ≤ 15) (j1 : 1 ≤ lens[j]) (j15 : lens[j] ≤ 15)
    (ei : x / 2 ^ (15 - lens[i]) = codeV lens i) (ej : x / 2 ^ (15 - lens[j]) = codeV lens j) : i = j := by
  obtain ⟨a1, a2, a3, a4⟩ := codeV_in lens i _ hi rfl i1 i15
  obtain ⟨b1, b2, b3, b4⟩ := codeV_in lens j _ hj rfl j1 j15
  have ei' := (div_iff x _ _ (Nat.pow_pos (by decide))).1 ei
  have ej' := (div_iff x _ _ (Nat.pow_pos (by decide))).1 ej
  rcases Nat.lt_trichotomy lens[i] lens[j] with h | h | h
  · have := used_mono lens (show lens[i] ≤ lens[j] - 1 by omega); omega
  · have hv : codeV lens i = codeV lens j := by rw [← ei, ← ej, h]
    have gi : lens.getD i 0 = lens[i] := by rw [List.getD_eq_getElem?_getD, List.getElem?_eq_getElem hi]; rfl
    have gj : lens.getD j 0 = lens[j] := by rw [List.getD_eq_getElem?_getD, List.getElem?_eq_getElem hj]; rfl
    unfold codeV at hv
    rw [gi, gj, if_neg (by omega), if_neg (by omega), h] at hv
    exact count_take_inj lens lens[j] i j hi hj h rfl (by omega)
  · have := used_mono lens (show lens[j] ≤ lens[i] - 1 by omega); omega

/-- Each row of 15 bits within what is used begins with a code. -/
theorem code_some (lens : List Nat) (x : Nat) : ∀ L, L ≤ 15 → x < used lens L → ∃ i, ∃ h : i < lens.length, 1 ≤ lens[i] ∧ lens[i] ≤ L ∧ x / 2 ^ (15 - lens[i]) = codeV lens i := by
  intro L
  induction L with
  | zero => intro _ h; simp [used] at h
  | succ L ih =>
    intro hL h
    by_cases hx : x < used lens L
    · obtain ⟨i, hi, a, b, c⟩ := ih (by omega) hx
      exact ⟨i, hi, a, by omega, c⟩
    · have hu := fst_used lens L hL
      have hp : 0 < (2 : Nat) ^ (15 - (L + 1)) := Nat.pow_pos (by decide)
      have hc : cn lens (L + 1) = lens.count (L + 1) := by unfold cn; rw [if_neg (by omega)]
      have h2 : x < used lens L + cn lens (L + 1) * 2 ^ (15 - (L + 1)) := h
      rw [← hu, ← Nat.add_mul] at h2
      have q2 : x / 2 ^ (15 - (L + 1)) < fst lens (L + 1) + cn lens (L + 1) := (Nat.div_lt_iff_lt_mul hp).2 h2
      have q1 : fst lens (L + 1) ≤ x / 2 ^ (15 - (L + 1)) := (Nat.le_div_iff_mul_le hp).2 (by omega)
      obtain ⟨i, hi, e, k⟩ := count_take_at lens (L + 1) (x / 2 ^ (15 - (L + 1)) - fst lens (L + 1)) (by omega)
      refine ⟨i, hi, by omega, by omega, ?_⟩
      have gi : lens.getD i 0 = lens[i] := by rw [List.getD_eq_getElem?_getD, List.getElem?_eq_getElem hi]; rfl
      unfold codeV
      rw [gi, e, if_neg (by omega), k]
      omega

/-- All the room that is used. -/
theorem used_all (lens : List Nat) (h : ∀ l ∈ lens, l ≤ 15) : used lens 15 = tot (fun l => if l = 0 then 0 else 2 ^ (15 - l)) lens := by
  have key : ∀ L, used lens L = tot (fun l => if l = 0 ∨ L < l then 0 else 2 ^ (15 - l)) lens := by
    intro L
    induction L with
    | zero =>
      show 0 = _
      rw [tot_congr _ (fun _ => 0) lens (fun l _ => by rw [if_pos (by omega)]), tot_const]; omega
    | succ L ih =>
      show used lens L + cn lens (L + 1) * 2 ^ (15 - (L + 1)) = _
      have e : cn lens (L + 1) * 2 ^ (15 - (L + 1)) = tot (fun l => if l = L + 1 then 2 ^ (15 - (L + 1)) else 0) lens := by
        unfold cn
        rw [if_neg (by omega)]
        clear ih h
        induction lens with
        | nil => simp [tot]
        | cons a r ih =>
          simp only [tot, ← ih, List.count_cons]
          by_cases e : a = L + 1
          · simp [e, Nat.add_mul]; omega
          · simp [e]
      rw [ih, e, ← tot_add]
      apply tot_congr
      intro l _
      by_cases h1 : l = L + 1
      · subst h1; rw [if_pos (by omega), if_pos rfl, if_neg (by omega)]; omega
      · rw [if_neg h1]
        by_cases h2 : l = 0 ∨ L < l
        · rw [if_pos h2, if_pos (by omega)]
        · rw [if_neg h2, if_neg (by omega)]; omega
  rw [key]
  apply tot_congr
  intro l hl
  have := h l hl
  by_cases h2 : l = 0
  · rw [if_pos (by omega), if_pos h2]
  · rw [if_neg (by omega), if_neg h2]

/-- The number behind the last code of a length. -/
def top (lens : List Nat) (k : Nat) : Nat := fst lens k + cn lens k
theorem top_used (lens : List Nat) (k : Nat) (hk : k ≤ 15) : top lens k * 2 ^ (15 - k) = used lens k := by
  match k, hk with
  | 0, _ => simp [top, fst, cn, used]
  | k + 1, hk =>
    show (fst lens (k + 1) + cn lens (k + 1)) * 2 ^ (15 - (k + 1)) = used lens k + cn lens (k + 1) * 2 ^ (15 - (k + 1))
    rw [Nat.add_mul, fst_used lens k hk]
theorem fst_top (lens : List Nat) (k : Nat) : fst lens (k + 1) = 2 * top lens k := rfl

theorem codeV_lt (lens : List Nat) (i l : Nat) (hi : i < lens.length) (e : lens[i] = l) (h1 : 1 ≤ l) (h15 : l ≤ 15) (hu : used lens 15 ≤ 32768) : codeV lens i < 2 ^ l := by
  obtain ⟨_, _, _, a⟩ := codeV_in lens i l hi e h1 h15
  have b := used_mono lens h15
  have hp : (2 : Nat) ^ l * 2 ^ (15 - l) = 32768 := by rw [← Nat.pow_add, show l + (15 - l) = 15 by omega]
  have : (codeV lens i + 1) * 2 ^ (15 - l) ≤ 2 ^ l * 2 ^ (15 - l) := by omega
  exact Nat.le_of_mul_le_mul_right this (Nat.pow_pos (by decide))

theorem shift_div (c l k : Nat) (hk : k ≤ l) (hl : l ≤ 15) : c * 2 ^ (15 - l) / 2 ^ (15 - k) = c / 2 ^ (l - k) := by
  rw [show 15 - k = (15 - l) + (l - k) by omega, Nat.pow_add, Nat.mul_comm (2 ^ (15 - l)), Nat.mul_div_mul_right _ _ (Nat.pow_pos (by decide))]

/-- No code begins with another one. -/
theorem code_apart (lens : List Nat) (i j : Nat) (hi : i < lens.length) (hj : j < lens.length) (i1 : 1 ≤ lens[i]) (hij : lens[i] < lens[j]) (j15 : lens[j] ≤ 15) :
    codeV lens j / 2 ^ (lens[j] - lens[i]) ≠ codeV lens i := by
  intro h
  have h1 : codeV lens j * 2 ^ (15 - lens[j]) / 2 ^ (15 - lens[j]) = codeV lens j := Nat.mul_div_cancel _ (Nat.pow_pos (by decide))
  have h2 : codeV lens j * 2 ^ (15 - lens[j]) / 2 ^ (15 - lens[i]) = codeV lens i := by rw [shift_div _ _ _ (by omega) j15, h]
  have := code_one lens i j _ hi hj i1 (by omega) (by omega) j15 h2 h1
  subst this
  omega

/-- Bits that are a code. -/
theorem is_code (lens : List Nat) (k v : Nat) (hk : 1 ≤ k) : (∃ i, ∃ h : i < lens.length, lens[i] = k ∧ codeV lens i = v) ↔ fst lens k ≤ v ∧ v < top lens k := by
  have hc : cn lens k = lens.count k := by unfold cn; rw [if_neg (by omega)]
  constructor
  · rintro ⟨i, hi, e, rfl⟩
    have gi : lens.getD i 0 = k := by rw [List.getD_eq_getElem?_getD, List.getElem?_eq_getElem hi]; exact e
    have := count_take_lt lens k i hi e
    unfold codeV top
    rw [gi, if_neg (by omega)]
    omega
  · rintro ⟨h1, h2⟩
    unfold top at h2
    obtain ⟨i, hi, e, c⟩ := count_take_at lens k (v - fst lens k) (by omega)
    have gi : lens.getD i 0 = k := by rw [List.getD_eq_getElem?_getD, List.getElem?_eq_getElem hi]; exact e
    refine ⟨i, hi, e, ?_⟩
    unfold codeV
    rw [gi, if_neg (by omega), c]
    omega

/-- Bits that begin a longer code. -/
theorem begins_code (lens : List Nat) (k v : Nat) (hk : k ≤ 15) (h15 : ∀ l ∈ lens, l ≤ 15) : (∃ i, ∃ h : i < lens.length, k < lens[i] ∧ codeV lens i / 2 ^ (lens[i] - k) = v) ↔ top lens k ≤ v ∧ v * 2 ^ (15 - k) < used lens 15 := by
  have ht := top_used lens k hk
  have hp : 0 < (2 : Nat) ^ (15 - k) := Nat.pow_pos (by decide)
  constructor
  · rintro ⟨i, hi, hl, rfl⟩
    have hl15 := h15 _ (List.getElem_mem hi)
    obtain ⟨_, _, a, b⟩ := codeV_in lens i _ hi rfl (by omega) hl15
    have hd := shift_div (codeV lens i) lens[i] k (by omega) hl15
    have hx := (div_iff _ _ _ hp).1 hd
    have u1 := used_mono lens (show k ≤ lens[i] - 1 by omega)
    have u2 := used_mono lens hl15
    rw [Nat.add_mul] at b
    have hs : 0 < (2 : Nat) ^ (15 - lens[i]) := Nat.pow_pos (by decide)
    refine ⟨?_, by omega⟩
    have h3 : top lens k * 2 ^ (15 - k) < (codeV lens i / 2 ^ (lens[i] - k) + 1) * 2 ^ (15 - k) := by omega
    have := Nat.lt_of_mul_lt_mul_right h3
    omega
  · rintro ⟨h1, h2⟩
    obtain ⟨i, hi, a1, a2, a3⟩ := code_some lens (v * 2 ^ (15 - k)) 15 (Nat.le_refl _) h2
    obtain ⟨_, _, _, b⟩ := codeV_in lens i _ hi rfl a1 a2
    have hx := (div_iff _ _ _ (Nat.pow_pos (by decide))).1 a3
    have hl : k < lens[i] := by
      apply Classical.byContradiction
      intro hn
      have u := used_mono lens (show lens[i] ≤ k by omega)
      have : top lens k * 2 ^ (15 - k) ≤ v * 2 ^ (15 - k) := Nat.mul_le_mul_right _ h1
      omega
    refine ⟨i, hi, hl, ?_⟩
    rw [← a3, Nat.div_div_eq_div_mul, ← Nat.pow_add, show 15 - lens[i] + (lens[i] - k) = 15 - k by omega, Nat.mul_div_cancel _ hp]

end Go.Proofs.Ytikfenimgjeplaa.Huf
