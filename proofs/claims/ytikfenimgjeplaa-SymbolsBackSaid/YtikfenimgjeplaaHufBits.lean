/-
  Plain facts of layer 5: codes as bits, the greatest first; which symbol some bits are. Nothing of the program is named here.
-/
import Derived.Test.YtikfenimgjeplaaHufCode
namespace Go.Proofs.Ytikfenimgjeplaa.Huf

/-- Bits as a number, the greatest first. -/
def bigN (l : List Bool) : Nat := l.foldl (fun n b => 2 * n + b.toNat) 0
theorem bigN_snoc (l : List Bool) (b : Bool) : bigN (l ++ [b]) = 2 * bigN l + b.toNat := by
  unfold bigN; rw [List.foldl_append]; rfl

theorem snoc_cases (l : List Bool) : l = [] ∨ ∃ l' b, l = l' ++ [b] := by
  rcases List.eq_nil_or_concat l with h | ⟨l', b, h⟩
  · exact .inl h
  · exact .inr ⟨l', b, by rw [h, List.concat_eq_append]⟩

theorem bigN_lt : ∀ (n : Nat) (l : List Bool), l.length = n → bigN l < 2 ^ n := by
  intro n
  induction n with
  | zero => intro l h; rw [List.length_eq_zero_iff.1 h]; decide
  | succ n ih =>
    intro l h
    rcases snoc_cases l with rfl | ⟨l', b, rfl⟩
    · simp at h
    · have := ih l' (by simpa using h)
      rw [bigN_snoc, Nat.pow_succ]
      have := b.toNat_lt
      omega

/-- Does a code of L bits begin with some bits? -/
theorem begins_iff (v L : Nat) (hv : v < 2 ^ L) : ∀ (n : Nat) (l : List Bool), l.length = n → n ≤ L → ((∀ i (h : i < l.length), decide (v / 2 ^ (L - 1 - i) % 2 = 1) = l[i]) ↔ v / 2 ^ (L - n) = bigN l) := by
  intro n
  induction n with
  | zero =>
    intro l h _
    obtain rfl := List.length_eq_zero_iff.1 h
    constructor
    · intro _
      rw [Nat.sub_zero, Nat.div_eq_of_lt hv]; rfl
    · intro _ i hi; simp at hi
  | succ n ih =>
    intro l h hL
    rcases snoc_cases l with rfl | ⟨l', b, rfl⟩
    · simp at h
    · have hl' : l'.length = n := by simpa using h
      have i1 := ih l' hl' (by omega)
      have hq : v / 2 ^ (L - n) = v / 2 ^ (L - (n + 1)) / 2 := by
        rw [Nat.div_div_eq_div_mul, show L - n = (L - (n + 1)) + 1 by omega, Nat.pow_succ]
      rw [bigN_snoc]
      have hb : b.toNat < 2 := b.toNat_lt
      constructor
      · intro hall
        have h1 : ∀ i (h : i < l'.length), decide (v / 2 ^ (L - 1 - i) % 2 = 1) = l'[i] := by
          intro i hi
          have := hall i (by simp; omega)
          rw [List.getElem_append_left hi] at this
          exact this
        have h2 := i1.1 h1
        have h3 := hall n (by simp; omega)
        rw [List.getElem_append_right (by omega)] at h3
        simp only [hl', Nat.sub_self, List.getElem_singleton] at h3
        rw [show L - 1 - n = L - (n + 1) by omega] at h3
        rw [hq] at h2
        generalize v / 2 ^ (L - (n + 1)) = q at *
        have h4 : q % 2 = b.toNat := by
          cases b with
          | true => simpa using h3
          | false => simp at h3; simp; omega
        omega
      · intro he
        have h2 : v / 2 ^ (L - n) = bigN l' := by
          rw [hq, he]; omega
        have h1 := i1.2 h2
        intro i hi
        by_cases hin : i < l'.length
        · rw [List.getElem_append_left hin]; exact h1 i hin
        · have hi2 : i = n := by simp at hi; omega
          subst hi2
          rw [List.getElem_append_right (by omega)]
          simp only [hl', Nat.sub_self, List.getElem_singleton]
          rw [show L - 1 - i = L - (i + 1) by omega, he]
          cases b with
          | true => simp
          | false => simp

/-- What the reference finds: the symbol that some bits are; -1: they only begin one; -2: they begin none. -/
def findAt (lens : List Nat) (k v : Nat) : Nat → Int → Int
  | 0, s => s
  | n + 1, s =>
    let i := lens.length - (n + 1)
    let l := lens.getD i 0
    if l = 0 then findAt lens k v n s
    else if l = k ∧ codeV lens i = v then (i : Int)
    else if k < l ∧ codeV lens i / 2 ^ (l - k) = v then findAt lens k v n (-1)
    else findAt lens k v n s
def findV (lens : List Nat) (k v : Nat) : Int := findAt lens k v lens.length (-2)

theorem findAt_spec (lens : List Nat) (h15 : ∀ l ∈ lens, l ≤ 15) (k v : Nat) : ∀ (n : Nat) (s : Int), n ≤ lens.length →
    (∀ i (h : i < lens.length), lens.length - n ≤ i → 1 ≤ lens[i] → lens[i] = k → codeV lens i = v → findAt lens k v n s = i) ∧
    ((∀ i (h : i < lens.length), lens.length - n ≤ i → 1 ≤ lens[i] → ¬ (lens[i] = k ∧ codeV lens i = v)) →
      ((∃ i, ∃ h : i < lens.length, lens.length - n ≤ i ∧ k < lens[i] ∧ codeV lens i / 2 ^ (lens[i] - k) = v) → findAt lens k v n s = -1) ∧
      ((¬ ∃ i, ∃ h : i < lens.length, lens.length - n ≤ i ∧ k < lens[i] ∧ codeV lens i / 2 ^ (lens[i] - k) = v) → findAt lens k v n s = s)) := by
  intro n
  induction n with
  | zero =>
    intro s _
    refine ⟨fun i h1 h2 => by omega, fun _ => ⟨?_, fun _ => rfl⟩⟩
    rintro ⟨i, h1, h2, _⟩
    omega
  | succ n ih =>
    intro s hn
    obtain ⟨j, hj⟩ : ∃ j, lens.length - (n + 1) = j := ⟨_, rfl⟩
    have hjl : j < lens.length := by omega
    have hg : lens.getD j 0 = lens[j] := by rw [List.getD_eq_getElem?_getD, List.getElem?_eq_getElem hjl]; rfl
    have hnext : lens.length - n = j + 1 := by omega
    simp only [findAt, hj, hg]
    by_cases h0 : lens[j] = 0
    · rw [if_pos h0]
      obtain ⟨i1, i2⟩ := ih s (by omega)
      rw [hnext] at i1 i2
      have hne : ∀ i (h : i < lens.length), j ≤ i → 1 ≤ lens[i] → j + 1 ≤ i := by
        intro i h hi h1
        by_cases e : i = j
        · subst e; omega
        · omega
      refine ⟨fun i h hi h1 => i1 i h (hne i h hi h1) h1, fun hno => ?_⟩
      obtain ⟨i3, i4⟩ := i2 (fun i h hi h1 => hno i h (by omega) h1)
      refine ⟨fun ⟨i, h, a, b, c⟩ => i3 ⟨i, h, hne i h a (by omega), b, c⟩, fun hno2 => i4 fun ⟨i, h, a, b, c⟩ => hno2 ⟨i, h, by omega, b, c⟩⟩
    · rw [if_neg h0]
      by_cases h1 : lens[j] = k ∧ codeV lens j = v
      · rw [if_pos h1]
        refine ⟨fun i h hi hp he hc => ?_, fun hno => absurd h1 (hno j hjl (Nat.le_refl _) (by omega))⟩
        have hk := h15 _ (List.getElem_mem hjl)
        have hp0 : 0 < (2 : Nat) ^ (15 - k) := Nat.pow_pos (by decide)
        have := code_one lens i j (v * 2 ^ (15 - k)) h hjl hp (by omega) (by omega) hk (by rw [he, hc, Nat.mul_div_cancel _ hp0]) (by rw [h1.1, h1.2, Nat.mul_div_cancel _ hp0])
        rw [this]
      · rw [if_neg h1]
        by_cases h2 : k < lens[j] ∧ codeV lens j / 2 ^ (lens[j] - k) = v
        · rw [if_pos h2]
          obtain ⟨i1, i2⟩ := ih (-1) (by omega)
          rw [hnext] at i1 i2
          refine ⟨fun i h hi hp he hc => i1 i h ?_ hp he hc, fun hno => ?_⟩
          · by_cases e : i = j
            · subst e; exact absurd ⟨he, hc⟩ h1
            · omega
          · obtain ⟨i3, i4⟩ := i2 (fun i h hi hp => hno i h (by omega) hp)
            have hm : findAt lens k v n (-1) = -1 := by
              by_cases hx : ∃ i, ∃ h : i < lens.length, j + 1 ≤ i ∧ k < lens[i] ∧ codeV lens i / 2 ^ (lens[i] - k) = v
              · exact i3 hx
              · exact i4 hx
            exact ⟨fun _ => hm, fun hno2 => absurd ⟨j, hjl, Nat.le_refl _, h2.1, h2.2⟩ hno2⟩
        · rw [if_neg h2]
          obtain ⟨i1, i2⟩ := ih s (by omega)
          rw [hnext] at i1 i2
          refine ⟨fun i h hi hp he hc => i1 i h ?_ hp he hc, fun hno => ?_⟩
          · by_cases e : i = j
            · subst e; exact absurd ⟨he, hc⟩ h1
            · omega
          · obtain ⟨i3, i4⟩ := i2 (fun i h hi hp => hno i h (by omega) hp)
            refine ⟨fun ⟨i, h, a, b, c⟩ => i3 ⟨i, h, ?_, b, c⟩, fun hno2 => i4 fun ⟨i, h, a, b, c⟩ => hno2 ⟨i, h, by omega, b, c⟩⟩
            by_cases e : i = j
            · subst e; exact absurd ⟨b, c⟩ h2
            · omega

/-- The symbol that bits are. -/
theorem findV_code (lens : List Nat) (h15 : ∀ l ∈ lens, l ≤ 15) (i k v : Nat) (hi : i < lens.length) (hk : 1 ≤ k) (e : lens[i] = k) (c : codeV lens i = v) : findV lens k v = i :=
  (findAt_spec lens h15 k v lens.length (-2) (Nat.le_refl _)).1 i hi (by omega) (by omega) e c
/-- Bits that are none: do they begin one? -/
theorem findV_none (lens : List Nat) (h15 : ∀ l ∈ lens, l ≤ 15) (k v : Nat) (hk : k ≤ 15) (hno : k = 0 ∨ ¬ (fst lens k ≤ v ∧ v < top lens k)) :
    findV lens k v = if top lens k ≤ v ∧ v * 2 ^ (15 - k) < used lens 15 then -1 else -2 := by
  obtain ⟨_, h⟩ := findAt_spec lens h15 k v lens.length (-2) (Nat.le_refl _)
  have hn : ∀ i (h : i < lens.length), lens.length - lens.length ≤ i → 1 ≤ lens[i] → ¬ (lens[i] = k ∧ codeV lens i = v) := by
    rintro i hi _ h1 ⟨e, c⟩
    rcases hno with h0 | h0
    · omega
    · exact h0 ((is_code lens k v (by omega)).1 ⟨i, hi, e, c⟩)
  obtain ⟨h1, h2⟩ := h hn
  have hb := begins_code lens k v hk h15
  by_cases hx : top lens k ≤ v ∧ v * 2 ^ (15 - k) < used lens 15
  · rw [if_pos hx]
    obtain ⟨i, hi, a, b⟩ := hb.2 hx
    exact h1 ⟨i, hi, by omega, a, b⟩
  · rw [if_neg hx]
    exact h2 fun ⟨i, hi, _, a, b⟩ => hx (hb.1 ⟨i, hi, a, b⟩)

end Go.Proofs.Ytikfenimgjeplaa.Huf
