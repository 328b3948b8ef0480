/-
  Plain facts of sorting in place: turns of a stretch, what merging by turns comes to, insertion. Nothing of the program is named here.
-/
import Derived.Sort.LotA
namespace Go.Proofs.Ytildikdoimobhaa.Srt
open Go.Sort
variable {α : Type} [Inhabited α]
set_option linter.unusedVariables false

/-- Rising on a ≤ i < b. -/
def Up (key : α → Nat) (a b : Nat) (d : Array α) : Prop := ∀ i j, a ≤ i → i < j → j < b → key d[i]! ≤ key d[j]!

theorem Up.sub {key : α → Nat} {a b a' b' : Nat} {d : Array α} (h : Up key a b d) (ha : a ≤ a') (hb : b' ≤ b) : Up key a' b' d :=
  fun i j h1 h2 h3 => h i j (by omega) h2 (by omega)
theorem Up.le {key : α → Nat} {a b : Nat} {d : Array α} (h : Up key a b d) {i j : Nat} (h1 : a ≤ i) (h2 : i ≤ j) (h3 : j < b) : key d[i]! ≤ key d[j]! := by
  rcases Nat.lt_or_ge i j with h4 | h4
  · exact h i j h1 h4 h3
  · obtain rfl : i = j := by omega
    exact Nat.le_refl _
theorem Up.same {key : α → Nat} {a b : Nat} {d d' : Array α} (h : Up key a b d) (he : ∀ i, a ≤ i → i < b → d'[i]! = d[i]!) : Up key a b d' := by
  intro i j h1 h2 h3
  rw [he i h1 (by omega), he j (by omega) h3]
  exact h i j h1 h2 h3
theorem Up.one (key : α → Nat) (a b : Nat) (d : Array α) (h : b ≤ a + 1) : Up key a b d := fun i j h1 h2 h3 => by omega

/-- Two stretches of n have changed places. -/
def SwrOf (a b n : Nat) (d d' : Array α) : Prop :=
  d'.size = d.size ∧ ∀ x, d'[x]! = if a ≤ x ∧ x < a + n then d[x + (b - a)]! else if b ≤ x ∧ x < b + n then d[x - (b - a)]! else d[x]!
theorem SwrOf.start (a b : Nat) (d : Array α) : SwrOf a b 0 d d := ⟨rfl, fun x => by rw [if_neg (by omega), if_neg (by omega)]⟩
theorem SwrOf.step {a b n : Nat} {d dk : Array α} (h : SwrOf a b n d dk) (hab : a + n < b) (hb : b + n < d.size) : SwrOf a b (n + 1) d (swp dk (a + n) (b + n)) := by
  obtain ⟨hs, hx⟩ := h
  refine ⟨by rw [size_swp]; exact hs, fun x => ?_⟩
  rw [swp_get dk (by omega) (by omega), hx (a + n), hx (b + n), hx x]
  repeat' split
  all_goals first | rfl | (exfalso; omega) | (congr 1; omega)

/-- The stretch from a to b, turned so that what began at m begins at a. -/
def RotOf (a m b : Nat) (d d' : Array α) : Prop :=
  d'.size = d.size ∧ ∀ x, d'[x]! = if a ≤ x ∧ x < b then (if x < a + (b - m) then d[x + (m - a)]! else d[x - (b - m)]!) else d[x]!
theorem RotOf.left (a b : Nat) (d : Array α) : RotOf a a b d d := ⟨rfl, fun x => by
  by_cases h : a ≤ x ∧ x < b
  · rw [if_pos h, if_pos (by omega), Nat.sub_self, Nat.add_zero]
  · rw [if_neg h]⟩
theorem RotOf.right (a b : Nat) (d : Array α) : RotOf a b b d d := ⟨rfl, fun x => by
  by_cases h : a ≤ x ∧ x < b
  · rw [if_pos h, if_neg (by omega), Nat.sub_self, Nat.sub_zero]
  · rw [if_neg h]⟩

/-- What is left to be turned: the stretch from m - i to m + j of dc, so that d' comes of it. -/
def Turns (m i j : Nat) (dc d' : Array α) : Prop := RotOf (m - i) m (m + j) dc d'
theorem Turns.more {m i j : Nat} {dc d1 d' : Array α} (h : Turns m i j dc d') (hij : j < i) (him : i ≤ m) (hs : SwrOf (m - i) m j dc d1) : Turns m (i - j) j d1 d' := by
  obtain ⟨s1, h1⟩ := h
  obtain ⟨s2, h2⟩ := hs
  refine ⟨by omega, fun x => ?_⟩
  rw [h1 x, h2 (x + (m - (m - (i - j)))), h2 (x - (m + j - m)), h2 x]
  repeat' split
  all_goals first | rfl | (exfalso; omega) | (congr 1; omega)
theorem Turns.less {m i j : Nat} {dc d1 d' : Array α} (h : Turns m i j dc d') (hij : i < j) (him : i ≤ m) (hs : SwrOf (m - i) (m + j - i) i dc d1) : Turns m i (j - i) d1 d' := by
  obtain ⟨s1, h1⟩ := h
  obtain ⟨s2, h2⟩ := hs
  refine ⟨by omega, fun x => ?_⟩
  rw [h1 x, h2 (x + (m - (m - i))), h2 (x - (m + (j - i) - m)), h2 x]
  repeat' split
  all_goals first | rfl | (exfalso; omega) | (congr 1; omega)
theorem ext_bang {a b : Array α} (hs : a.size = b.size) (h : ∀ t : Nat, a[t]! = b[t]!) : a = b :=
  Array.ext hs fun t h1 h2 => by have := h t; rwa [getElem!_pos a t h1, getElem!_pos b t h2] at this
theorem Turns.last {m i : Nat} {dc d1 d' : Array α} (h : Turns m i i dc d') (him : i ≤ m) (hs : SwrOf (m - i) m i dc d1) : d1 = d' := by
  obtain ⟨s1, h1⟩ := h
  obtain ⟨s2, h2⟩ := hs
  refine ext_bang (by omega) fun x => ?_
  rw [h1 x, h2 x]
  repeat' split
  all_goals first | rfl | (exfalso; omega) | (congr 1; omega)

/-- The turned stretch, as an array. -/
def rotA (a m b : Nat) (d : Array α) : Array α := (Array.range d.size).map fun x => if a ≤ x ∧ x < b then (if x < a + (b - m) then d[x + (m - a)]! else d[x - (b - m)]!) else d[x]!
theorem rotA_of (a m b : Nat) (d : Array α) (hb : b ≤ d.size) : RotOf a m b d (rotA a m b d) := by
  refine ⟨by simp [rotA], fun x => ?_⟩
  by_cases hx : x < d.size
  · unfold rotA
    rw [getElem!_pos _ x (by simpa using hx)]
    simp
  · have e : (rotA a m b d)[x]! = d[x]! := by
      rw [getElem!_neg _ x (by simp [rotA]; omega), getElem!_neg d x hx]
    rw [e, if_neg (by omega)]

/-- The first one goes to the right, step by step. -/
theorem RotOf.right1 {a k : Nat} {d dk : Array α} (h : RotOf a (a + 1) (k + 1) d dk) (hak : a ≤ k) (hk : k + 1 < d.size) : RotOf a (a + 1) (k + 2) d (swp dk k (k + 1)) := by
  obtain ⟨hs, hx⟩ := h
  refine ⟨by rw [size_swp]; exact hs, fun x => ?_⟩
  rw [swp_get dk (by omega) (by omega), hx k, hx (k + 1), hx x]
  repeat' split
  all_goals first | rfl | (exfalso; omega) | (congr 1; omega)
/-- The last one goes to the left, step by step. -/
theorem RotOf.left1 {k m : Nat} {d dk : Array α} (h : RotOf k m (m + 1) d dk) (hk : 0 < k) (hkm : k ≤ m) (hm : m < d.size) : RotOf (k - 1) m (m + 1) d (swp dk k (k - 1)) := by
  obtain ⟨hs, hx⟩ := h
  refine ⟨by rw [size_swp]; exact hs, fun x => ?_⟩
  rw [swp_get dk (by omega) (by omega), hx k, hx (k - 1), hx x]
  repeat' split
  all_goals first | rfl | (exfalso; omega) | (congr 1; omega)

/-- One put where it belongs, on the right. -/
theorem up_right {key : α → Nat} {a b i : Nat} {d d' : Array α} (h : Up key (a + 1) b d) (hr : RotOf a (a + 1) i d d') (hi : a + 1 ≤ i) (hib : i ≤ b)
    (h1 : i = a + 1 ∨ key d[i - 1]! ≤ key d[a]!) (h2 : i = b ∨ key d[a]! ≤ key d[i]!) : Up key a b d' := by
  intro x y hx hxy hy
  rw [hr.2 x, hr.2 y]
  have lo : ∀ z, a + 1 ≤ z → z < i → key d[z]! ≤ key d[a]! := fun z z1 z2 => by
    rcases h1 with e | e
    · omega
    · exact Nat.le_trans (h.le z1 (show z ≤ i - 1 by omega) (by omega)) e
  have hi2 : ∀ z, i ≤ z → z < b → key d[a]! ≤ key d[z]! := fun z z1 z2 => by
    rcases h2 with e | e
    · omega
    · exact Nat.le_trans e (h.le hi z1 z2)
  by_cases a1 : y < i
  · rw [if_pos (by omega), if_pos (by omega)]
    by_cases a2 : y < a + (i - (a + 1))
    · rw [if_pos (by omega), if_pos a2]; exact h.le (by omega) (by omega) (by omega)
    · rw [if_pos (by omega), if_neg a2, show y - (i - (a + 1)) = a by omega]
      exact lo _ (by omega) (by omega)
  · rw [if_neg (show ¬ (a ≤ y ∧ y < i) by omega)]
    by_cases a2 : a ≤ x ∧ x < i
    · rw [if_pos a2]
      by_cases a3 : x < a + (i - (a + 1))
      · rw [if_pos a3]; exact h.le (by omega) (by omega) hy
      · rw [if_neg a3, show x - (i - (a + 1)) = a by omega]; exact hi2 _ (by omega) hy
    · rw [if_neg a2]; exact h.le (by omega) (by omega) hy
/-- One put where it belongs, on the left. -/
theorem up_left {key : α → Nat} {a m i : Nat} {d d' : Array α} (h : Up key a m d) (hr : RotOf i m (m + 1) d d') (hi : a ≤ i) (him : i ≤ m)
    (h1 : i = a ∨ key d[i - 1]! ≤ key d[m]!) (h2 : i = m ∨ key d[m]! ≤ key d[i]!) : Up key a (m + 1) d' := by
  intro x y hx hxy hy
  rw [hr.2 x, hr.2 y]
  have lo : ∀ z, a ≤ z → z < i → key d[z]! ≤ key d[m]! := fun z z1 z2 => by
    rcases h1 with e | e
    · omega
    · exact Nat.le_trans (h.le z1 (show z ≤ i - 1 by omega) (by omega)) e
  have hi2 : ∀ z, i ≤ z → z < m → key d[m]! ≤ key d[z]! := fun z z1 z2 => by
    rcases h2 with e | e
    · omega
    · exact Nat.le_trans e (h.le hi z1 z2)
  repeat' split
  all_goals first
    | (exfalso; omega)
    | (rw [show x + (m - i) = m by omega]; exact hi2 _ (by omega) (by omega))
    | (rw [show y + (m - i) = m by omega]; exact lo _ (by omega) (by omega))
    | exact h.le (by omega) (by omega) (by omega)

/-- Behind the turn: four rising stretches, and the lower half is not above the upper one. -/
theorem merge_half {key : α → Nat} {a m b mid start e : Nat} {d d1 : Array α} (hu : Up key a m d) (hv : Up key m b d) (hr : RotOf start m e d d1)
    (he : e + start = mid + m) (h1 : a ≤ start) (h2 : start ≤ m) (h3 : m ≤ e) (h4 : e ≤ b) (h5 : start ≤ mid) (h6 : mid ≤ e)
    (hl : start = a ∨ e = b ∨ key d[start - 1]! ≤ key d[e]!) (hh : start = m ∨ e = m ∨ key d[e - 1]! ≤ key d[start]!) :
    Up key a start d1 ∧ Up key start mid d1 ∧ Up key mid e d1 ∧ Up key e b d1 ∧ ∀ x y, a ≤ x → x < mid → mid ≤ y → y < b → key d1[x]! ≤ key d1[y]! := by
  have g := hr.2
  have r1 : ∀ x, x < start → d1[x]! = d[x]! := fun x hx => by rw [g x, if_neg (by omega)]
  have r2 : ∀ x, start ≤ x → x < mid → d1[x]! = d[x + (m - start)]! := fun x x1 x2 => by rw [g x, if_pos (by omega), if_pos (by omega)]
  have r3 : ∀ x, mid ≤ x → x < e → d1[x]! = d[x - (e - m)]! := fun x x1 x2 => by rw [g x, if_pos (by omega), if_neg (by omega)]
  have r4 : ∀ x, e ≤ x → d1[x]! = d[x]! := fun x hx => by rw [g x, if_neg (by omega)]
  refine ⟨hu.sub (Nat.le_refl _) h2 |>.same fun i _ hi => r1 i hi, ?_, ?_, (hv.sub h3 (Nat.le_refl _)).same fun i hi _ => r4 i hi, ?_⟩
  · intro i j hi hij hj
    rw [r2 i hi (by omega), r2 j (by omega) hj]
    exact hv.le (by omega) (by omega) (by omega)
  · intro i j hi hij hj
    rw [r3 i hi (by omega), r3 j (by omega) hj]
    exact hu.le (by omega) (by omega) (by omega)
  · intro x y hx hxm hy hyb
    by_cases a1 : x < start
    · rw [r1 x a1]
      by_cases a2 : y < e
      · rw [r3 y hy a2]; exact hu.le hx (by omega) (by omega)
      · rw [r4 y (by omega)]
        rcases hl with e1 | e1 | e1
        · omega
        · omega
        · exact Nat.le_trans (hu.le hx (show x ≤ start - 1 by omega) (by omega)) (Nat.le_trans e1 (hv.le h3 (by omega) hyb))
    · rw [r2 x (by omega) hxm]
      by_cases a2 : y < e
      · rw [r3 y hy a2]
        rcases hh with e1 | e1 | e1
        · omega
        · omega
        · exact Nat.le_trans (hv.le (by omega) (show x + (m - start) ≤ e - 1 by omega) (by omega)) (Nat.le_trans e1 (hu.le h1 (by omega) (by omega)))
      · rw [r4 y (by omega)]; exact hv.le (by omega) (by omega) hyb

/-- Two halves that are sorted each, the lower one not above the upper one. -/
theorem up_join {key : α → Nat} {a mid b : Nat} {d1 d2 d3 : Array α} (hb : b ≤ d1.size) (hm1 : a ≤ mid) (hm2 : mid ≤ b) (p2 : PermIn a mid d1 d2) (u2 : Up key a mid d2) (p3 : PermIn mid b d2 d3) (u3 : Up key mid b d3)
    (hx : ∀ x y, a ≤ x → x < mid → mid ≤ y → y < b → key d1[x]! ≤ key d1[y]!) : Up key a b d3 := by
  have low : ∀ x, a ≤ x → x < mid → d3[x]! = d2[x]! := fun x _ h => p3.2.1 x (.inl h)
  have up0 : ∀ y, mid ≤ y → d2[y]! = d1[y]! := fun y h => p2.2.1 y (.inr h)
  have s2 : d2.size = d1.size := p2.1
  have c1 : ∀ y, mid ≤ y → y < b → ∀ x, a ≤ x → x < mid → key d2[x]! ≤ key d1[y]! := fun y y1 y2 =>
    permIn_all d1 d2 a mid (fun z => key z ≤ key d1[y]!) (by omega) p2 (fun x x1 x2 => hx x y x1 x2 y1 y2)
  have c2 : ∀ x, a ≤ x → x < mid → ∀ y, mid ≤ y → y < b → key d2[x]! ≤ key d3[y]! := fun x x1 x2 =>
    permIn_all d2 d3 mid b (fun z => key d2[x]! ≤ key z) (by omega) p3 (fun y y1 y2 => by rw [up0 y y1]; exact c1 y y1 y2 x x1 x2)
  intro i j hi hij hj
  by_cases a1 : j < mid
  · rw [low i hi (by omega), low j (by omega) a1]; exact u2 i j hi hij a1
  · by_cases a2 : i < mid
    · rw [low i hi a2]; exact c2 i hi a2 j (by omega) hj
    · exact u3 i j (by omega) hij hj

theorem perm_trans {a b : Nat} {d d' d'' : Array α} (h : PermIn a b d d') (k : PermIn a b d' d'') : PermIn a b d d'' := permIn_trans _ _ _ _ _ h k
theorem perm_refl (a b : Nat) (d : Array α) : PermIn a b d d := permIn_refl _ _ _
theorem perm_swp {a b i j : Nat} {d dk : Array α} (h : PermIn a b d dk) (hb : b ≤ d.size) (h1 : a ≤ i) (h2 : i < b) (h3 : a ≤ j) (h4 : j < b) : PermIn a b d (swp dk i j) :=
  permIn_trans _ _ _ _ _ h (swp_permIn _ _ _ _ _ h1 h2 h3 h4 (by rw [h.1]; exact hb))
theorem perm_mono {a b a' b' : Nat} {d d' : Array α} (h : PermIn a b d d') (h1 : a' ≤ a) (h2 : b ≤ b') (h3 : b' ≤ d.size) : PermIn a' b' d d' := permIn_mono _ _ _ _ _ _ h1 h2 h3 h

/-- Insertion: up to i all rises but for what stands at j, which is below all behind it. -/
structure Put (key : α → Nat) (a j i : Nat) (d : Array α) : Prop where
  rest : ∀ p q, a ≤ p → p < q → q ≤ i → p ≠ j → q ≠ j → key d[p]! ≤ key d[q]!
  right : ∀ q, j < q → q ≤ i → key d[j]! ≤ key d[q]!
theorem Put.start {key : α → Nat} {a i : Nat} {d : Array α} (h : Up key a i d) : Put key a i i d := ⟨fun p q h1 h2 h3 h4 h5 => h p q h1 h2 (by omega), fun q h1 h2 => by omega⟩
theorem Put.stop {key : α → Nat} {a j i : Nat} {d : Array α} (h : Put key a j i d) (hs : j ≤ a ∨ key d[j - 1]! ≤ key d[j]!) : Up key a (i + 1) d := by
  intro p q hp hpq hq
  by_cases hq1 : q = j
  · subst hq1
    rcases hs with hs | hs
    · omega
    · by_cases hp1 : p = q - 1
      · subst hp1; exact hs
      · exact Nat.le_trans (h.rest p (q - 1) hp (by omega) (by omega) (by omega) (by omega)) hs
  · by_cases hp1 : p = j
    · subst hp1; exact h.right q hpq (by omega)
    · exact h.rest p q hp hpq (by omega) hp1 hq1
theorem Put.step {key : α → Nat} {a j i : Nat} {d : Array α} (h : Put key a j i d) (hl : key d[j]! < key d[j - 1]!) (haj : a < j) (hsz : j < d.size) : Put key a (j - 1) i (swp d j (j - 1)) := by
  have g := swp_get d hsz (show j - 1 < d.size by omega)
  constructor
  · intro p q hp hpq hqi hp1 hq1
    rw [g, g]
    by_cases hq2 : q = j
    · subst hq2
      rw [if_neg (by omega), if_neg (by omega), if_neg (by omega), if_pos rfl]
      exact h.rest p (q - 1) hp (by omega) (by omega) (by omega) (by omega)
    · by_cases hp2 : p = j
      · subst hp2
        rw [if_neg (by omega), if_pos rfl, if_neg (by omega), if_neg (by omega)]
        exact h.rest (p - 1) q (by omega) (by omega) hqi (by omega) (by omega)
      · rw [if_neg (by omega), if_neg (by omega), if_neg (by omega), if_neg (by omega)]
        exact h.rest p q hp hpq hqi hp2 hq2
  · intro q hq hqi
    rw [g, g, if_pos rfl]
    by_cases hq2 : q = j
    · subst hq2; rw [if_neg (by omega), if_pos rfl]; omega
    · rw [if_neg (by omega), if_neg hq2]; exact h.right q (by omega) hqi

end Go.Proofs.Ytildikdoimobhaa.Srt
