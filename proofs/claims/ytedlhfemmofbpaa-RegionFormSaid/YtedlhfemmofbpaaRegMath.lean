/-
  Plain facts of layer 15 (region): steps and their one form, cells between borders, the region of a set, how many places it has, the smallest rectangle. Nothing of the program is named here.
-/
import Derived.Below
namespace Go.Proofs.Ytedlhfemmofbpaa.Reg
set_option linter.unusedVariables false

/-- A step: from here to there (without that), and what stands there. -/
structure Seg (α : Type) where
  a : Int
  b : Int
  v : α
theorem Seg.eq {α : Type} {s t : Seg α} (h1 : s.a = t.a) (h2 : s.b = t.b) (h3 : s.v = t.v) : s = t := by
  cases s; cases t; simp at h1 h2 h3; rw [h1, h2, h3]

/-- What stands at a place. -/
def val {α : Type} : List (Seg α) → Int → Option α
  | [], _ => none
  | s :: r, x => if s.a ≤ x ∧ x < s.b then some s.v else val r x
/-- The form of steps: none is empty, they are in order, and no two that touch have the same. -/
def okS {α : Type} : List (Seg α) → Prop
  | [] => True
  | s :: r => s.a < s.b ∧ okS r ∧ ∀ t ∈ r.head?, s.b ≤ t.a ∧ (s.b = t.a → s.v ≠ t.v)

theorem okS.tail {α : Type} {s : Seg α} {r : List (Seg α)} (h : okS (s :: r)) : okS r := h.2.1
theorem okS.from {α : Type} {s : Seg α} {r : List (Seg α)} (h : okS (s :: r)) : ∀ t ∈ r, s.b ≤ t.a := by
  induction r generalizing s with
  | nil => intro t ht; exact absurd ht (by simp)
  | cons u r ih =>
    intro t ht
    have h1 := (h.2.2 u (by simp)).1
    rcases List.mem_cons.1 ht with rfl | ht
    · exact h1
    · have h2 := h.2.1.1
      have := ih h.2.1 t ht
      omega
theorem okS.len {α : Type} {L : List (Seg α)} (h : okS L) : ∀ t ∈ L, t.a < t.b := by
  induction L with
  | nil => intro t ht; exact absurd ht (by simp)
  | cons s r ih =>
    intro t ht
    rcases List.mem_cons.1 ht with rfl | ht
    · exact h.1
    · exact ih h.2.1 t ht
theorem val_some {α : Type} {L : List (Seg α)} {x : Int} {v : α} (h : val L x = some v) : ∃ s ∈ L, s.a ≤ x ∧ x < s.b ∧ s.v = v := by
  induction L with
  | nil => exact absurd h (by simp [val])
  | cons s r ih =>
    unfold val at h
    by_cases hc : s.a ≤ x ∧ x < s.b
    · rw [if_pos hc] at h
      exact ⟨s, by simp, hc.1, hc.2, Option.some.inj h⟩
    · rw [if_neg hc] at h
      obtain ⟨t, ht, h1⟩ := ih h
      exact ⟨t, List.mem_cons_of_mem _ ht, h1⟩
theorem val_none {α : Type} {L : List (Seg α)} {x : Int} (h : ∀ s ∈ L, ¬ (s.a ≤ x ∧ x < s.b)) : val L x = none := by
  cases hv : val L x with
  | none => rfl
  | some v =>
    obtain ⟨s, hs, h1, h2, _⟩ := val_some hv
    exact absurd ⟨h1, h2⟩ (h s hs)
theorem val_mem {α : Type} {L : List (Seg α)} (h : okS L) {s : Seg α} (hs : s ∈ L) {x : Int} (h1 : s.a ≤ x) (h2 : x < s.b) : val L x = some s.v := by
  induction L with
  | nil => exact absurd hs (by simp)
  | cons t r ih =>
    unfold val
    rcases List.mem_cons.1 hs with rfl | hr
    · rw [if_pos ⟨h1, h2⟩]
    · have := h.from s hr
      rw [if_neg (by omega)]
      exact ih h.2.1 hr
theorem val_below {α : Type} {s : Seg α} {r : List (Seg α)} (h : okS (s :: r)) {x : Int} (hx : x < s.b) : val r x = none :=
  val_none fun t ht hc => by have := h.from t ht; omega

/-- Steps in that form are told by what stands where. -/
theorem okS.one {α : Type} {L M : List (Seg α)} (hL : okS L) (hM : okS M) (h : ∀ x, val L x = val M x) : L = M := by
  induction L generalizing M with
  | nil =>
    cases M with
    | nil => rfl
    | cons t r =>
      have := h t.a
      rw [val_mem hM (s := t) (by simp) (Int.le_refl _) hM.1] at this
      exact absurd this (by simp [val])
  | cons s r ih =>
    cases M with
    | nil =>
      have := h s.a
      rw [val_mem hL (s := s) (by simp) (Int.le_refl _) hL.1] at this
      exact absurd this (by simp [val])
    | cons t q =>
      have first : ∀ {s t : Seg α} {r q : List (Seg α)}, okS (s :: r) → okS (t :: q) → (∀ x, val (s :: r) x = val (t :: q) x) → t.a ≤ s.a := by
        intro s t r q hs ht h
        have h1 := h s.a
        rw [val_mem hs (s := s) (by simp) (Int.le_refl _) hs.1] at h1
        obtain ⟨u, hu, h2, _, _⟩ := val_some h1.symm
        rcases List.mem_cons.1 hu with rfl | hu
        · exact h2
        · have := ht.from u hu
          have := ht.1
          omega
      have ha : s.a = t.a := Int.le_antisymm (first hM hL fun x => (h x).symm) (first hL hM h)
      have hv : s.v = t.v := by
        have h1 := h s.a
        rw [val_mem hL (s := s) (by simp) (Int.le_refl _) hL.1, val_mem hM (s := t) (by simp) (by omega) (by have := hM.1; omega)] at h1
        exact Option.some.inj h1
      have ends : ∀ {s t : Seg α} {r q : List (Seg α)}, okS (s :: r) → okS (t :: q) → s.a = t.a → s.v = t.v → (∀ x, val (s :: r) x = val (t :: q) x) → t.b ≤ s.b := by
        intro s t r q hs ht ha hv h
        apply Classical.byContradiction
        intro hn
        have h1 := h s.b
        have := hs.1
        rw [val_mem ht (s := t) (x := s.b) (by simp) (by omega) (by omega)] at h1
        obtain ⟨u, hu, h2, h3, h4⟩ := val_some h1
        rcases List.mem_cons.1 hu with rfl | hu
        · omega
        · cases r with
          | nil => exact absurd hu (by simp)
          | cons c r =>
            have h5 := hs.2.2 c (by simp)
            have h6 : c.a ≤ s.b := by
              rcases List.mem_cons.1 hu with rfl | hu
              · exact h2
              · have := hs.2.1.from u hu
                have := hs.2.1.1
                omega
            have h7 := val_mem hs (s := c) (x := c.a) (by simp) (Int.le_refl _) hs.2.1.1
            have h8 : s.b = c.a := by omega
            rw [← h8, h, val_mem ht (s := t) (x := s.b) (by simp) (by omega) (by omega)] at h7
            exact h5.2 h8 (hv.trans (Option.some.inj h7))
      have hb : s.b = t.b := Int.le_antisymm (ends hM hL ha.symm hv.symm fun x => (h x).symm) (ends hL hM ha hv h)
      have hst : s = t := Seg.eq ha hb hv
      subst hst
      congr 1
      refine ih hL.2.1 hM.2.1 fun x => ?_
      by_cases hx : x < s.b
      · rw [val_below hL hx, val_below hM hx]
      · have := h x
        unfold val at this
        rw [if_neg (by omega), if_neg (by omega)] at this
        exact this

/-- One more step at the end. -/
def push {α : Type} [DecidableEq α] : List (Seg α) → Int → Int → Option α → List (Seg α)
  | L, _, _, none => L
  | [], a, b, some v => [⟨a, b, v⟩]
  | [s], a, b, some v => if s.b = a ∧ s.v = v then [⟨s.a, b, v⟩] else [s, ⟨a, b, v⟩]
  | s :: t :: r, a, b, some v => s :: push (t :: r) a b (some v)
theorem push_none {α : Type} [DecidableEq α] (L : List (Seg α)) (a b : Int) : push L a b none = L := by
  cases L with
  | nil => rfl
  | cons s r => cases r <;> rfl
theorem push_head {α : Type} [DecidableEq α] (s : Seg α) (r : List (Seg α)) (a b : Int) (v : α) : ∃ c r', push (s :: r) a b (some v) = ⟨s.a, c, s.v⟩ :: r' ∧ (r ≠ [] → c = s.b) := by
  cases r with
  | nil =>
    unfold push
    by_cases h : s.b = a ∧ s.v = v
    · rw [if_pos h]; exact ⟨b, [], by rw [h.2], fun h => absurd rfl h⟩
    · rw [if_neg h]; exact ⟨s.b, [⟨a, b, v⟩], rfl, fun h => absurd rfl h⟩
  | cons t r => exact ⟨s.b, _, rfl, fun _ => rfl⟩
/-- Behind all that is there, a step more: in the form, and it stands there. -/
theorem push_ok {α : Type} [DecidableEq α] {L : List (Seg α)} {a b : Int} (h : okS L) (hab : a < b) (hl : ∀ s ∈ L, s.b ≤ a) (o : Option α) :
    okS (push L a b o) ∧ (∀ s ∈ push L a b o, s.b ≤ b) ∧ ∀ x, val (push L a b o) x = if a ≤ x ∧ x < b then o else val L x := by
  cases o with
  | none =>
    rw [push_none]
    refine ⟨h, fun s hs => by have := hl s hs; omega, fun x => ?_⟩
    by_cases hx : a ≤ x ∧ x < b
    · rw [if_pos hx]
      exact val_none fun s hs hc => by have := hl s hs; omega
    · rw [if_neg hx]
  | some v =>
    induction L with
    | nil =>
      refine ⟨⟨hab, trivial, fun t ht => absurd ht (by simp)⟩, fun s hs => ?_, fun x => ?_⟩
      · have : s = ⟨a, b, v⟩ := by simpa [push] using hs
        rw [this]; exact Int.le_refl _
      · rfl
    | cons s r ih =>
      cases r with
      | nil =>
        have hs := hl s (by simp)
        have hs1 := h.1
        unfold push
        by_cases hc : s.b = a ∧ s.v = v
        · rw [if_pos hc]
          refine ⟨⟨show s.a < b by omega, trivial, fun t ht => absurd ht (by simp)⟩, fun t ht => ?_, fun x => ?_⟩
          · have : t = ⟨s.a, b, v⟩ := by simpa using ht
            rw [this]; exact Int.le_refl _
          · simp only [val]
            by_cases h1 : a ≤ x ∧ x < b
            · rw [if_pos h1, if_pos (by omega)]
            · rw [if_neg h1]
              by_cases h2 : s.a ≤ x ∧ x < s.b
              · rw [if_pos h2, if_pos (by omega), hc.2]
              · rw [if_neg h2, if_neg (by omega)]
        · rw [if_neg hc]
          refine ⟨⟨hs1, ⟨hab, trivial, fun t ht => absurd ht (by simp)⟩, fun t ht => ?_⟩, fun t ht => ?_, fun x => ?_⟩
          · have : t = ⟨a, b, v⟩ := by simpa using ht.symm
            subst this
            exact ⟨hs, fun e1 e2 => hc ⟨e1, e2⟩⟩
          · rcases List.mem_cons.1 ht with rfl | ht
            · omega
            · have : t = ⟨a, b, v⟩ := by simpa using ht
              rw [this]; exact Int.le_refl _
          · simp only [val]
            by_cases h1 : a ≤ x ∧ x < b
            · rw [if_pos h1, if_neg (by omega), if_pos h1]
            · rw [if_neg h1, if_neg h1]
      | cons t r =>
        obtain ⟨i1, i2, i3⟩ := ih h.2.1 (fun u hu => hl u (List.mem_cons_of_mem _ hu))
        obtain ⟨c, r', hp, _⟩ := push_head t r a b v
        have hs := hl s (by simp)
        have ht := hl t (by simp)
        have hst := h.2.2 t (by simp)
        have hta := h.2.1.1
        refine ⟨⟨h.1, i1, fun u hu => ?_⟩, fun u hu => ?_, fun x => ?_⟩
        · rw [hp] at hu
          have : u = ⟨t.a, c, t.v⟩ := by simpa using hu.symm
          subst this
          exact hst
        · rcases List.mem_cons.1 hu with rfl | hu
          · omega
          · exact i2 u hu
        · show val (s :: push (t :: r) a b (some v)) x = _
          rw [show val (s :: push (t :: r) a b (some v)) x = if s.a ≤ x ∧ x < s.b then some s.v else val (push (t :: r) a b (some v)) x from rfl, i3]
          rw [show val (s :: t :: r) x = if s.a ≤ x ∧ x < s.b then some s.v else val (t :: r) x from rfl]
          by_cases h1 : a ≤ x ∧ x < b
          · rw [if_pos h1, if_neg (by omega), if_pos h1]
          · rw [if_neg h1, if_neg h1]

instance {α : Type} [DecidableEq α] : DecidableEq (Seg α) := fun s t =>
  decidable_of_iff (s.a = t.a ∧ s.b = t.b ∧ s.v = t.v) ⟨fun h => Seg.eq h.1 h.2.1 h.2.2, fun h => by rw [h]; exact ⟨rfl, rfl, rfl⟩⟩

/-- A row's number at a place. -/
def nth (l : List Int) (i : Nat) : Int := l.getD i 0
theorem nth_mem {l : List Int} {i : Nat} (h : i < l.length) : nth l i ∈ l := by
  unfold nth
  rw [List.getD_eq_getElem?_getD, List.getElem?_eq_getElem h]
  exact List.getElem_mem h
/-- A row that rises. -/
def rises (l : List Int) : Prop := l.Pairwise (· < ·)
theorem rises.lt {l : List Int} (h : rises l) {i j : Nat} (hij : i < j) (hj : j < l.length) : nth l i < nth l j := by
  unfold nth
  rw [List.getD_eq_getElem?_getD, List.getD_eq_getElem?_getD, List.getElem?_eq_getElem hj, List.getElem?_eq_getElem (show i < l.length by omega)]
  exact (List.pairwise_iff_getElem.1 h) i j (by omega) hj hij
theorem rises.le {l : List Int} (h : rises l) {i j : Nat} (hij : i ≤ j) (hj : j < l.length) : nth l i ≤ nth l j := by
  rcases Nat.lt_or_ge i j with h1 | h1
  · exact Int.le_of_lt (h.lt h1 hj)
  · rw [show i = j by omega]; exact Int.le_refl _
theorem mem_nth {l : List Int} {x : Int} (h : x ∈ l) : ∃ i, i < l.length ∧ nth l i = x := by
  obtain ⟨i, hi, e⟩ := List.mem_iff_getElem.1 h
  refine ⟨i, hi, ?_⟩
  unfold nth
  rw [List.getD_eq_getElem?_getD, List.getElem?_eq_getElem hi, ← e]
  rfl

/-- What the first k pairs of neighbours make. -/
def bandK {α : Type} [DecidableEq α] (xs : List Int) (g : Int → Option α) : Nat → List (Seg α)
  | 0 => []
  | k + 1 => push (bandK xs g k) (nth xs k) (nth xs (k + 1)) (g (nth xs k))
theorem bandK_ok {α : Type} [DecidableEq α] {xs : List Int} (hx : rises xs) (g G : Int → Option α) {k : Nat} (hk : k < xs.length)
    (hG : ∀ i, i < k → ∀ z, nth xs i ≤ z → z < nth xs (i + 1) → G z = g (nth xs i)) :
    okS (bandK xs g k) ∧ (∀ s ∈ bandK xs g k, s.b ≤ nth xs k) ∧ ∀ z, val (bandK xs g k) z = if nth xs 0 ≤ z ∧ z < nth xs k then G z else none := by
  induction k with
  | zero =>
    refine ⟨trivial, fun s hs => absurd hs (by simp [bandK]), fun z => ?_⟩
    rw [if_neg (by omega)]
    rfl
  | succ k ih =>
    obtain ⟨i1, i2, i3⟩ := ih (by omega) (fun i hi => hG i (by omega))
    have hlt := hx.lt (show k < k + 1 by omega) hk
    have h0 := hx.le (show 0 ≤ k by omega) (by omega)
    obtain ⟨p1, p2, p3⟩ := push_ok i1 hlt i2 (g (nth xs k))
    refine ⟨p1, p2, fun z => ?_⟩
    show val (push (bandK xs g k) (nth xs k) (nth xs (k + 1)) (g (nth xs k))) z = _
    rw [p3, i3]
    by_cases h1 : nth xs k ≤ z ∧ z < nth xs (k + 1)
    · rw [if_pos h1, if_pos (by omega)]
      exact (hG k (by omega) z h1.1 h1.2).symm
    · rw [if_neg h1]
      by_cases h2 : nth xs 0 ≤ z ∧ z < nth xs k
      · rw [if_pos h2, if_pos (by omega)]
      · rw [if_neg h2, if_neg (by omega)]
theorem push_ends {α : Type} [DecidableEq α] (L : List (Seg α)) (a b : Int) (o : Option α) (P : Int → Prop) (ha : P a) (hb : P b) (h : ∀ s ∈ L, P s.a ∧ P s.b) : ∀ s ∈ push L a b o, P s.a ∧ P s.b := by
  cases o with
  | none => rw [push_none]; exact h
  | some v =>
    induction L with
    | nil =>
      intro s hs
      have : s = ⟨a, b, v⟩ := by simpa [push] using hs
      rw [this]; exact ⟨ha, hb⟩
    | cons s r ih =>
      cases r with
      | nil =>
        unfold push
        have h1 := h s (by simp)
        by_cases hc : s.b = a ∧ s.v = v
        · rw [if_pos hc]
          intro t ht
          have : t = ⟨s.a, b, v⟩ := by simpa using ht
          rw [this]; exact ⟨h1.1, hb⟩
        · rw [if_neg hc]
          intro t ht
          rcases List.mem_cons.1 ht with rfl | ht
          · exact h1
          · have : t = ⟨a, b, v⟩ := by simpa using ht
            rw [this]; exact ⟨ha, hb⟩
      | cons t r =>
        intro u hu
        rcases List.mem_cons.1 hu with rfl | hu
        · exact h _ (by simp)
        · exact ih (fun q hq => h q (List.mem_cons_of_mem _ hq)) u hu
theorem push_vals {α : Type} [DecidableEq α] (L : List (Seg α)) (a b : Int) (o : Option α) (P : α → Prop) (ho : ∀ v, o = some v → P v) (h : ∀ s ∈ L, P s.v) : ∀ s ∈ push L a b o, P s.v := by
  cases o with
  | none => rw [push_none]; exact h
  | some v =>
    have hv := ho v rfl
    induction L with
    | nil =>
      intro s hs
      have : s = ⟨a, b, v⟩ := by simpa [push] using hs
      rw [this]; exact hv
    | cons s r ih =>
      cases r with
      | nil =>
        unfold push
        have h1 := h s (by simp)
        by_cases hc : s.b = a ∧ s.v = v
        · rw [if_pos hc]
          intro t ht
          have : t = ⟨s.a, b, v⟩ := by simpa using ht
          rw [this]; exact hv
        · rw [if_neg hc]
          intro t ht
          rcases List.mem_cons.1 ht with rfl | ht
          · exact h1
          · have : t = ⟨a, b, v⟩ := by simpa using ht
            rw [this]; exact hv
      | cons t r =>
        intro u hu
        rcases List.mem_cons.1 hu with rfl | hu
        · exact h _ (by simp)
        · exact ih (fun q hq => h q (List.mem_cons_of_mem _ hq)) u hu
theorem bandK_ends {α : Type} [DecidableEq α] {xs : List Int} (g : Int → Option α) {k : Nat} (hk : k < xs.length) : ∀ s ∈ bandK xs g k, s.a ∈ xs ∧ s.b ∈ xs := by
  induction k with
  | zero => intro s hs; exact absurd hs (by simp [bandK])
  | succ k ih => exact push_ends _ _ _ _ (· ∈ xs) (nth_mem (by omega)) (nth_mem hk) (ih (by omega))
theorem bandK_vals {α : Type} [DecidableEq α] {xs : List Int} (g : Int → Option α) (P : α → Prop) {k : Nat} (h : ∀ i v, i < k → g (nth xs i) = some v → P v) : ∀ s ∈ bandK xs g k, P s.v := by
  induction k with
  | zero => intro s hs; exact absurd hs (by simp [bandK])
  | succ k ih => exact push_vals _ _ _ _ P (fun v hv => h k v (by omega) hv) (ih fun i v hi => h i v (by omega))

/-- A number into a row that rises. -/
def put : List Int → Int → List Int
  | [], n => [n]
  | x :: r, n => if n < x then n :: x :: r else if n = x then x :: r else x :: put r n
theorem mem_put {l : List Int} {n x : Int} : x ∈ put l n ↔ x = n ∨ x ∈ l := by
  induction l with
  | nil => simp [put]
  | cons y r ih =>
    unfold put
    by_cases h1 : n < y
    · rw [if_pos h1]; simp
    · rw [if_neg h1]
      by_cases h2 : n = y
      · rw [if_pos h2]; subst h2; simp
      · rw [if_neg h2]
        simp only [List.mem_cons, ih]
        constructor
        · rintro (h | h | h)
          · exact .inr (.inl h)
          · exact .inl h
          · exact .inr (.inr h)
        · rintro (h | h | h)
          · exact .inr (.inl h)
          · exact .inl h
          · exact .inr (.inr h)
theorem rises_put {l : List Int} (h : rises l) (n : Int) : rises (put l n) := by
  induction l with
  | nil => exact List.pairwise_singleton _ _
  | cons y r ih =>
    have h1 := List.pairwise_cons.1 h
    unfold put
    by_cases h2 : n < y
    · rw [if_pos h2]
      refine List.pairwise_cons.2 ⟨fun z hz => ?_, h⟩
      rcases List.mem_cons.1 hz with rfl | hz
      · exact h2
      · have := h1.1 z hz; omega
    · rw [if_neg h2]
      by_cases h3 : n = y
      · rw [if_pos h3]; exact h
      · rw [if_neg h3]
        refine List.pairwise_cons.2 ⟨fun z hz => ?_, ih h1.2⟩
        rcases mem_put.1 hz with rfl | hz
        · omega
        · exact h1.1 z hz
/-- Rows that rise and have the same numbers are the same. -/
theorem rises_one {l m : List Int} (hl : rises l) (hm : rises m) (h : ∀ x, x ∈ l ↔ x ∈ m) : l = m := by
  induction l generalizing m with
  | nil =>
    cases m with
    | nil => rfl
    | cons y r => exact absurd ((h y).2 (by simp)) (by simp)
  | cons x r ih =>
    cases m with
    | nil => exact absurd ((h x).1 (by simp)) (by simp)
    | cons y q =>
      have h1 := List.pairwise_cons.1 hl
      have h2 := List.pairwise_cons.1 hm
      have e : x = y := by
        have a1 := (h x).1 (by simp)
        have a2 := (h y).2 (by simp)
        rcases List.mem_cons.1 a1 with e | a1
        · exact e
        · rcases List.mem_cons.1 a2 with e | a2
          · exact e.symm
          · have := h1.1 y a2
            have := h2.1 x a1
            omega
      subst e
      congr 1
      refine ih h1.2 h2.2 fun z => ⟨fun hz => ?_, fun hz => ?_⟩
      · rcases List.mem_cons.1 ((h z).1 (List.mem_cons_of_mem _ hz)) with e | hz'
        · have := h1.1 z hz; omega
        · exact hz'
      · rcases List.mem_cons.1 ((h z).2 (List.mem_cons_of_mem _ hz)) with e | hz'
        · have := h2.1 z hz; omega
        · exact hz'

/-- A rectangle. -/
structure Rc where
  x : Int
  y : Int
  w : Int
  h : Int
theorem Rc.eq {r s : Rc} (h1 : r.x = s.x) (h2 : r.y = s.y) (h3 : r.w = s.w) (h4 : r.h = s.h) : r = s := by
  cases r; cases s; simp at h1 h2 h3 h4; rw [h1, h2, h3, h4]
def far : Int := 1048576
def near (n : Int) : Bool := decide (-1048576 ≤ n ∧ n ≤ 1048576)
/-- Does it count? -/
def counts (r : Rc) : Bool := near r.x && near r.y && decide (1 ≤ r.w) && decide (1 ≤ r.h) && near (r.x + r.w) && near (r.y + r.h)
theorem counts_iff {r : Rc} : counts r = true ↔ (-1048576 ≤ r.x ∧ 1 ≤ r.w ∧ r.x + r.w ≤ 1048576) ∧ (-1048576 ≤ r.y ∧ 1 ≤ r.h ∧ r.y + r.h ≤ 1048576) := by
  unfold counts near
  simp only [Bool.and_eq_true, decide_eq_true_eq]
  omega
/-- Is a place in it? -/
def inR (r : Rc) (x y : Int) : Bool := counts r && decide (r.x ≤ x ∧ x < r.x + r.w ∧ r.y ≤ y ∧ y < r.y + r.h)
theorem inR_iff {r : Rc} {x y : Int} : inR r x y = true ↔ counts r = true ∧ r.x ≤ x ∧ x < r.x + r.w ∧ r.y ≤ y ∧ y < r.y + r.h := by
  unfold inR
  rw [Bool.and_eq_true, decide_eq_true_eq]
def hasL (l : List Rc) (x y : Int) : Bool := l.any fun r => inR r x y
theorem hasL_iff {l : List Rc} {x y : Int} : hasL l x y = true ↔ ∃ r ∈ l, counts r = true ∧ r.x ≤ x ∧ x < r.x + r.w ∧ r.y ≤ y ∧ y < r.y + r.h := by
  unfold hasL
  rw [List.any_eq_true]
  exact ⟨fun ⟨r, h1, h2⟩ => ⟨r, h1, inR_iff.1 h2⟩, fun ⟨r, h1, h2⟩ => ⟨r, h1, inR_iff.2 h2⟩⟩
theorem hasL_append (a b : List Rc) (x y : Int) : hasL (a ++ b) x y = (hasL a x y || hasL b x y) := List.any_append ..

/-- The borders. -/
def bordX : List Rc → List Int → List Int
  | [], l => l
  | r :: q, l => bordX q (if counts r = true then put (put l r.x) (r.x + r.w) else l)
def bordY : List Rc → List Int → List Int
  | [], l => l
  | r :: q, l => bordY q (if counts r = true then put (put l r.y) (r.y + r.h) else l)
theorem bordX_rises {q : List Rc} {l : List Int} (h : rises l) : rises (bordX q l) := by
  induction q generalizing l with
  | nil => exact h
  | cons r q ih =>
    refine ih ?_
    by_cases hc : counts r = true
    · rw [if_pos hc]; exact rises_put (rises_put h _) _
    · rw [if_neg hc]; exact h
theorem bordY_rises {q : List Rc} {l : List Int} (h : rises l) : rises (bordY q l) := by
  induction q generalizing l with
  | nil => exact h
  | cons r q ih =>
    refine ih ?_
    by_cases hc : counts r = true
    · rw [if_pos hc]; exact rises_put (rises_put h _) _
    · rw [if_neg hc]; exact h
theorem mem_bordX {q : List Rc} {l : List Int} {x : Int} : x ∈ bordX q l ↔ x ∈ l ∨ ∃ r ∈ q, counts r = true ∧ (x = r.x ∨ x = r.x + r.w) := by
  induction q generalizing l with
  | nil => simp [bordX]
  | cons r q ih =>
    unfold bordX
    rw [ih]
    by_cases hc : counts r = true
    · rw [if_pos hc, mem_put, mem_put]
      constructor
      · rintro ((h | h | h) | ⟨s, hs, h⟩)
        · exact .inr ⟨r, by simp, hc, .inr h⟩
        · exact .inr ⟨r, by simp, hc, .inl h⟩
        · exact .inl h
        · exact .inr ⟨s, List.mem_cons_of_mem _ hs, h⟩
      · rintro (h | ⟨s, hs, h1, h2⟩)
        · exact .inl (.inr (.inr h))
        · rcases List.mem_cons.1 hs with rfl | hs
          · rcases h2 with h2 | h2
            · exact .inl (.inr (.inl h2))
            · exact .inl (.inl h2)
          · exact .inr ⟨s, hs, h1, h2⟩
    · rw [if_neg hc]
      constructor
      · rintro (h | ⟨s, hs, h⟩)
        · exact .inl h
        · exact .inr ⟨s, List.mem_cons_of_mem _ hs, h⟩
      · rintro (h | ⟨s, hs, h1, h2⟩)
        · exact .inl h
        · rcases List.mem_cons.1 hs with rfl | hs
          · exact absurd h1 hc
          · exact .inr ⟨s, hs, h1, h2⟩
theorem mem_bordY {q : List Rc} {l : List Int} {y : Int} : y ∈ bordY q l ↔ y ∈ l ∨ ∃ r ∈ q, counts r = true ∧ (y = r.y ∨ y = r.y + r.h) := by
  induction q generalizing l with
  | nil => simp [bordY]
  | cons r q ih =>
    unfold bordY
    rw [ih]
    by_cases hc : counts r = true
    · rw [if_pos hc, mem_put, mem_put]
      constructor
      · rintro ((h | h | h) | ⟨s, hs, h⟩)
        · exact .inr ⟨r, by simp, hc, .inr h⟩
        · exact .inr ⟨r, by simp, hc, .inl h⟩
        · exact .inl h
        · exact .inr ⟨s, List.mem_cons_of_mem _ hs, h⟩
      · rintro (h | ⟨s, hs, h1, h2⟩)
        · exact .inl (.inr (.inr h))
        · rcases List.mem_cons.1 hs with rfl | hs
          · rcases h2 with h2 | h2
            · exact .inl (.inr (.inl h2))
            · exact .inl (.inl h2)
          · exact .inr ⟨s, hs, h1, h2⟩
    · rw [if_neg hc]
      constructor
      · rintro (h | ⟨s, hs, h⟩)
        · exact .inl h
        · exact .inr ⟨s, List.mem_cons_of_mem _ hs, h⟩
      · rintro (h | ⟨s, hs, h1, h2⟩)
        · exact .inl h
        · rcases List.mem_cons.1 hs with rfl | hs
          · exact absurd h1 hc
          · exact .inr ⟨s, hs, h1, h2⟩

abbrev Row := List (Seg Unit)
abbrev Bands := List (Seg Row)
/-- Rectangles of one band. -/
def flat1 (s : Seg Row) : List Rc := s.v.map fun p => ⟨p.a, s.a, p.b - p.a, s.b - s.a⟩
def flat (B : Bands) : List Rc := B.flatMap flat1
/-- The one form. -/
structure IsB (B : Bands) : Prop where
  ok : okS B
  rows : ∀ s ∈ B, s.v ≠ [] ∧ okS s.v
  ry : ∀ s ∈ B, -1048576 ≤ s.a ∧ s.b ≤ 1048576
  rx : ∀ s ∈ B, ∀ p ∈ s.v, -1048576 ≤ p.a ∧ p.b ≤ 1048576
def hasB (B : Bands) (x y : Int) : Bool := match val B y with | none => false | some p => (val p x).isSome
theorem mem_flat {B : Bands} {r : Rc} : r ∈ flat B ↔ ∃ s ∈ B, ∃ p ∈ s.v, r = ⟨p.a, s.a, p.b - p.a, s.b - s.a⟩ := by
  unfold flat flat1
  rw [List.mem_flatMap]
  constructor
  · rintro ⟨s, hs, h⟩
    obtain ⟨p, hp, e⟩ := List.mem_map.1 h
    exact ⟨s, hs, p, hp, e.symm⟩
  · rintro ⟨s, hs, p, hp, e⟩
    exact ⟨s, hs, List.mem_map.2 ⟨p, hp, e.symm⟩⟩
theorem IsB.counts {B : Bands} (H : IsB B) : ∀ r ∈ flat B, counts r = true := by
  intro r hr
  obtain ⟨s, hs, p, hp, rfl⟩ := mem_flat.1 hr
  have h1 := H.ok.len s hs
  have h2 := (H.rows s hs).2.len p hp
  have h3 := H.ry s hs
  have h4 := H.rx s hs p hp
  rw [counts_iff]
  simp only
  omega
theorem hasB_iff {B : Bands} (H : IsB B) {x y : Int} : hasB B x y = true ↔ ∃ s ∈ B, (s.a ≤ y ∧ y < s.b) ∧ ∃ p ∈ s.v, p.a ≤ x ∧ x < p.b := by
  unfold hasB
  constructor
  · intro h
    cases hv : val B y with
    | none => rw [hv] at h; exact absurd h (by simp)
    | some v =>
      rw [hv] at h
      obtain ⟨s, hs, h1, h2, rfl⟩ := val_some hv
      obtain ⟨u, hu⟩ := Option.isSome_iff_exists.1 h
      obtain ⟨p, hp, h3, h4, _⟩ := val_some hu
      exact ⟨s, hs, ⟨h1, h2⟩, p, hp, h3, h4⟩
  · rintro ⟨s, hs, ⟨h1, h2⟩, p, hp, h3, h4⟩
    rw [val_mem H.ok hs h1 h2]
    show (val s.v x).isSome = true
    rw [val_mem (H.rows s hs).2 hp h3 h4]
    rfl
theorem hasL_flat {B : Bands} (H : IsB B) (x y : Int) : hasL (flat B) x y = hasB B x y := by
  rw [Bool.eq_iff_iff, hasL_iff, hasB_iff H]
  constructor
  · rintro ⟨r, hr, _, h⟩
    obtain ⟨s, hs, p, hp, rfl⟩ := mem_flat.1 hr
    simp only at h
    exact ⟨s, hs, ⟨by omega, by omega⟩, p, hp, by omega, by omega⟩
  · rintro ⟨s, hs, h1, p, hp, h2⟩
    refine ⟨_, mem_flat.2 ⟨s, hs, p, hp, rfl⟩, H.counts _ (mem_flat.2 ⟨s, hs, p, hp, rfl⟩), ?_⟩
    simp only
    omega
theorem row_one {p q : Row} (hp : okS p) (hq : okS q) (h : ∀ x, (val p x).isSome = (val q x).isSome) : p = q := by
  refine hp.one hq fun x => ?_
  have := h x
  cases h1 : val p x with
  | none =>
    cases h2 : val q x with
    | none => rfl
    | some u => rw [h1, h2] at this; exact absurd this (by simp)
  | some u =>
    cases h2 : val q x with
    | none => rw [h1, h2] at this; exact absurd this (by simp)
    | some v => rfl
theorem row_some {p : Row} (hp : okS p) (hn : p ≠ []) : ∃ x, (val p x).isSome = true := by
  cases p with
  | nil => exact absurd rfl hn
  | cons s r =>
    refine ⟨s.a, ?_⟩
    rw [val_mem hp (s := s) (by simp) (Int.le_refl _) hp.1]
    rfl
/-- REGIONS OF ONE SET ARE THE SAME. -/
theorem IsB.one {B C : Bands} (HB : IsB B) (HC : IsB C) (h : ∀ x y, hasB B x y = hasB C x y) : B = C := by
  refine HB.ok.one HC.ok fun y => ?_
  have h0 := fun x => h x y
  unfold hasB at h0
  cases h1 : val B y with
  | none =>
    cases h2 : val C y with
    | none => rfl
    | some q =>
      obtain ⟨s, hs, _, _, rfl⟩ := val_some h2
      obtain ⟨x, hx⟩ := row_some (HC.rows s hs).2 (HC.rows s hs).1
      have := h0 x
      rw [h1, h2] at this
      simp only at this
      rw [hx] at this
      exact absurd this (by simp)
  | some p =>
    obtain ⟨s, hs, _, _, rfl⟩ := val_some h1
    cases h2 : val C y with
    | none =>
      obtain ⟨x, hx⟩ := row_some (HB.rows s hs).2 (HB.rows s hs).1
      have := h0 x
      rw [h1, h2] at this
      simp only at this
      rw [hx] at this
      exact absurd this (by simp)
    | some q =>
      obtain ⟨t, ht, _, _, rfl⟩ := val_some h2
      rw [row_one (HB.rows s hs).2 (HC.rows t ht).2 fun x => by have := h0 x; rw [h1, h2] at this; exact this]
theorem form_one {B C : Bands} (HB : IsB B) (HC : IsB C) (h : ∀ x y, hasL (flat B) x y = hasL (flat C) x y) : flat B = flat C := by
  rw [HB.one HC fun x y => by rw [← hasL_flat HB, ← hasL_flat HC]; exact h x y]

/-- Between two borders nothing changes. -/
theorem rises.between {xs : List Int} (h : rises xs) {i : Nat} (hi : i + 1 < xs.length) {z c : Int} (h1 : nth xs i ≤ z) (h2 : z < nth xs (i + 1)) (hc : c ∈ xs) : (c ≤ z ↔ c ≤ nth xs i) := by
  obtain ⟨j, hj, rfl⟩ := mem_nth hc
  constructor
  · intro hz
    apply Classical.byContradiction
    intro hn
    rcases Nat.lt_or_ge i j with h3 | h3
    · have := h.le (show i + 1 ≤ j by omega) hj
      omega
    · have := h.le h3 (by omega)
      omega
  · intro hz
    omega
theorem has_between {xs : List Int} (h : rises xs) {l : List Rc} (hl : ∀ r ∈ l, counts r = true → r.x ∈ xs ∧ r.x + r.w ∈ xs) {i : Nat} (hi : i + 1 < xs.length) {z : Int} (h1 : nth xs i ≤ z) (h2 : z < nth xs (i + 1)) (y : Int) : hasL l z y = hasL l (nth xs i) y := by
  rw [Bool.eq_iff_iff, hasL_iff, hasL_iff]
  constructor
  · rintro ⟨r, hr, hc, h3⟩
    have e1 := h.between hi h1 h2 (hl r hr hc).1
    have e2 := h.between hi h1 h2 (hl r hr hc).2
    exact ⟨r, hr, hc, by omega⟩
  · rintro ⟨r, hr, hc, h3⟩
    have e1 := h.between hi h1 h2 (hl r hr hc).1
    have e2 := h.between hi h1 h2 (hl r hr hc).2
    exact ⟨r, hr, hc, by omega⟩
theorem has_betweenY {ys : List Int} (h : rises ys) {l : List Rc} (hl : ∀ r ∈ l, counts r = true → r.y ∈ ys ∧ r.y + r.h ∈ ys) {i : Nat} (hi : i + 1 < ys.length) {z : Int} (h1 : nth ys i ≤ z) (h2 : z < nth ys (i + 1)) (x : Int) : hasL l x z = hasL l x (nth ys i) := by
  rw [Bool.eq_iff_iff, hasL_iff, hasL_iff]
  constructor
  · rintro ⟨r, hr, hc, h3⟩
    have e1 := h.between hi h1 h2 (hl r hr hc).1
    have e2 := h.between hi h1 h2 (hl r hr hc).2
    exact ⟨r, hr, hc, by omega⟩
  · rintro ⟨r, hr, hc, h3⟩
    have e1 := h.between hi h1 h2 (hl r hr hc).1
    have e2 := h.between hi h1 h2 (hl r hr hc).2
    exact ⟨r, hr, hc, by omega⟩
theorem rises.inside {xs : List Int} (h : rises xs) {c d z : Int} (hc : c ∈ xs) (hd : d ∈ xs) (h1 : c ≤ z) (h2 : z < d) : 0 < xs.length ∧ nth xs 0 ≤ z ∧ z < nth xs (xs.length - 1) := by
  obtain ⟨i, hi, rfl⟩ := mem_nth hc
  obtain ⟨j, hj, rfl⟩ := mem_nth hd
  have e1 := h.le (show 0 ≤ i by omega) hi
  have e2 := h.le (show j ≤ xs.length - 1 by omega) (by omega)
  exact ⟨by omega, by omega, by omega⟩

/-- What a row of cells makes. -/
def cellG (f : Bool → Bool → Bool) (a b : List Rc) (y x : Int) : Option Unit := if f (hasL a x y) (hasL b x y) = true then some () else none
def rowK (f : Bool → Bool → Bool) (a b : List Rc) (xs : List Int) (y : Int) : Row := bandK xs (cellG f a b y) (xs.length - 1)
def rowG (f : Bool → Bool → Bool) (a b : List Rc) (xs : List Int) (y : Int) : Option Row := if rowK f a b xs y = [] then none else some (rowK f a b xs y)
def bandsG (f : Bool → Bool → Bool) (a b : List Rc) (xs ys : List Int) : Bands := bandK ys (rowG f a b xs) (ys.length - 1)

structure Borders (a b : List Rc) (xs ys : List Int) : Prop where
  hx : rises xs
  hy : rises ys
  ax : ∀ r ∈ a, counts r = true → r.x ∈ xs ∧ r.x + r.w ∈ xs
  bx : ∀ r ∈ b, counts r = true → r.x ∈ xs ∧ r.x + r.w ∈ xs
  ay : ∀ r ∈ a, counts r = true → r.y ∈ ys ∧ r.y + r.h ∈ ys
  by' : ∀ r ∈ b, counts r = true → r.y ∈ ys ∧ r.y + r.h ∈ ys
  nx : ∀ x ∈ xs, -1048576 ≤ x ∧ x ≤ 1048576
  ny : ∀ y ∈ ys, -1048576 ≤ y ∧ y ≤ 1048576
theorem borders (a b : List Rc) : Borders a b (bordX (a ++ b) []) (bordY (a ++ b) []) := by
  refine ⟨bordX_rises List.Pairwise.nil, bordY_rises List.Pairwise.nil, ?_, ?_, ?_, ?_, ?_, ?_⟩
  · exact fun r hr hc => ⟨mem_bordX.2 (.inr ⟨r, List.mem_append.2 (.inl hr), hc, .inl rfl⟩), mem_bordX.2 (.inr ⟨r, List.mem_append.2 (.inl hr), hc, .inr rfl⟩)⟩
  · exact fun r hr hc => ⟨mem_bordX.2 (.inr ⟨r, List.mem_append.2 (.inr hr), hc, .inl rfl⟩), mem_bordX.2 (.inr ⟨r, List.mem_append.2 (.inr hr), hc, .inr rfl⟩)⟩
  · exact fun r hr hc => ⟨mem_bordY.2 (.inr ⟨r, List.mem_append.2 (.inl hr), hc, .inl rfl⟩), mem_bordY.2 (.inr ⟨r, List.mem_append.2 (.inl hr), hc, .inr rfl⟩)⟩
  · exact fun r hr hc => ⟨mem_bordY.2 (.inr ⟨r, List.mem_append.2 (.inr hr), hc, .inl rfl⟩), mem_bordY.2 (.inr ⟨r, List.mem_append.2 (.inr hr), hc, .inr rfl⟩)⟩
  · intro x hx
    rcases mem_bordX.1 hx with h | ⟨r, _, hc, h⟩
    · exact absurd h (by simp)
    · have := counts_iff.1 hc; omega
  · intro y hy
    rcases mem_bordY.1 hy with h | ⟨r, _, hc, h⟩
    · exact absurd h (by simp)
    · have := counts_iff.1 hc; omega
theorem Borders.row {a b : List Rc} {xs ys : List Int} (H : Borders a b xs ys) {f : Bool → Bool → Bool} (hf : f false false = false) (y : Int) : okS (rowK f a b xs y) ∧ (∀ p ∈ rowK f a b xs y, -1048576 ≤ p.a ∧ p.b ≤ 1048576) ∧ ∀ x, (val (rowK f a b xs y) x).isSome = f (hasL a x y) (hasL b x y) := by
  have out : ∀ x, (xs.length = 0 ∨ ¬ (nth xs 0 ≤ x ∧ x < nth xs (xs.length - 1))) → f (hasL a x y) (hasL b x y) = false := by
    intro x hx
    have h : ∀ l, (∀ r ∈ l, counts r = true → r.x ∈ xs ∧ r.x + r.w ∈ xs) → hasL l x y = false := by
      intro l hl
      rw [Bool.eq_false_iff]
      intro hh
      obtain ⟨r, hr, hc, h1⟩ := hasL_iff.1 hh
      have := H.hx.inside (hl r hr hc).1 (hl r hr hc).2 h1.1 h1.2.1
      rcases hx with hx | hx
      · omega
      · exact hx this.2
    rw [h a H.ax, h b H.bx, hf]
  unfold rowK
  by_cases hn : xs.length = 0
  · rw [hn]
    refine ⟨trivial, fun p hp => absurd hp (by simp [bandK]), fun x => ?_⟩
    rw [out x (.inl hn)]
    rfl
  · obtain ⟨h1, h2, h3⟩ := bandK_ok (k := xs.length - 1) H.hx (cellG f a b y) (cellG f a b y) (by omega) (fun i hi z hz1 hz2 => by
      unfold cellG
      rw [has_between H.hx H.ax (by omega) hz1 hz2, has_between H.hx H.bx (by omega) hz1 hz2])
    refine ⟨h1, fun p hp => ?_, fun x => ?_⟩
    · obtain ⟨e1, e2⟩ := bandK_ends (cellG f a b y) (k := xs.length - 1) (by omega) p hp
      exact ⟨(H.nx _ e1).1, (H.nx _ e2).2⟩
    · rw [h3]
      by_cases hx : nth xs 0 ≤ x ∧ x < nth xs (xs.length - 1)
      · rw [if_pos hx]
        unfold cellG
        cases f (hasL a x y) (hasL b x y) <;> rfl
      · rw [if_neg hx, out x (.inr hx)]
        rfl
/-- WHAT IS COMBINED IS IN THE FORM, and has the places that it is to have. -/
theorem Borders.bands {a b : List Rc} {xs ys : List Int} (H : Borders a b xs ys) {f : Bool → Bool → Bool} (hf : f false false = false) : IsB (bandsG f a b xs ys) ∧ ∀ x y, hasB (bandsG f a b xs ys) x y = f (hasL a x y) (hasL b x y) := by
  have out : ∀ x y, (ys.length = 0 ∨ ¬ (nth ys 0 ≤ y ∧ y < nth ys (ys.length - 1))) → f (hasL a x y) (hasL b x y) = false := by
    intro x y hy
    have h : ∀ l, (∀ r ∈ l, counts r = true → r.y ∈ ys ∧ r.y + r.h ∈ ys) → hasL l x y = false := by
      intro l hl
      rw [Bool.eq_false_iff]
      intro hh
      obtain ⟨r, hr, hc, h1⟩ := hasL_iff.1 hh
      have := H.hy.inside (hl r hr hc).1 (hl r hr hc).2 h1.2.2.1 h1.2.2.2
      rcases hy with hy | hy
      · omega
      · exact hy this.2
    rw [h a H.ay, h b H.by', hf]
  have hrow : ∀ y, (match rowG f a b xs y with | none => ∀ x, f (hasL a x y) (hasL b x y) = false | some p => p ≠ [] ∧ okS p ∧ (∀ q ∈ p, -1048576 ≤ q.a ∧ q.b ≤ 1048576) ∧ ∀ x, (val p x).isSome = f (hasL a x y) (hasL b x y)) := by
    intro y
    obtain ⟨h1, h2, h3⟩ := H.row hf y
    unfold rowG
    by_cases he : rowK f a b xs y = []
    · rw [if_pos he]
      intro x
      have := h3 x
      rw [he] at this
      exact this.symm
    · rw [if_neg he]
      exact ⟨he, h1, h2, h3⟩
  unfold bandsG
  by_cases hn : ys.length = 0
  · rw [hn]
    refine ⟨⟨trivial, fun p hp => absurd hp (by simp [bandK]), fun p hp => absurd hp (by simp [bandK]), fun p hp => absurd hp (by simp [bandK])⟩, fun x y => ?_⟩
    rw [out x y (.inl hn)]
    rfl
  · obtain ⟨h1, h2, h3⟩ := bandK_ok (k := ys.length - 1) H.hy (rowG f a b xs) (rowG f a b xs) (by omega) (fun i hi z hz1 hz2 => by
      have : cellG f a b z = cellG f a b (nth ys i) := by
        funext x
        unfold cellG
        rw [has_betweenY H.hy H.ay (by omega) hz1 hz2, has_betweenY H.hy H.by' (by omega) hz1 hz2]
      unfold rowG rowK
      rw [this])
    have hv := bandK_vals (xs := ys) (k := ys.length - 1) (rowG f a b xs) (fun p => p ≠ [] ∧ okS p ∧ ∀ q ∈ p, -1048576 ≤ q.a ∧ q.b ≤ 1048576) (fun i v hi he => by
      have := hrow (nth ys i)
      rw [he] at this
      exact ⟨this.1, this.2.1, this.2.2.1⟩)
    refine ⟨⟨h1, fun s hs => ⟨(hv s hs).1, (hv s hs).2.1⟩, fun s hs => ?_, fun s hs => (hv s hs).2.2⟩, fun x y => ?_⟩
    · obtain ⟨e1, e2⟩ := bandK_ends (rowG f a b xs) (k := ys.length - 1) (by omega) s hs
      exact ⟨(H.ny _ e1).1, (H.ny _ e2).2⟩
    · unfold hasB
      rw [h3]
      by_cases hy : nth ys 0 ≤ y ∧ y < nth ys (ys.length - 1)
      · rw [if_pos hy]
        have := hrow y
        cases hr : rowG f a b xs y with
        | none => rw [hr] at this; exact (this x).symm
        | some p => rw [hr] at this; exact this.2.2.2 x
      · rw [if_neg hy, out x y (.inr hy)]
/-- The region of what is asked for. -/
def comb (f : Bool → Bool → Bool) (a b : List Rc) : Bands := bandsG f a b (bordX (a ++ b) []) (bordY (a ++ b) [])
theorem comb_form {f : Bool → Bool → Bool} (hf : f false false = false) (a b : List Rc) : IsB (comb f a b) := ((borders a b).bands hf).1
theorem comb_has {f : Bool → Bool → Bool} (hf : f false false = false) (a b : List Rc) (x y : Int) : hasL (flat (comb f a b)) x y = f (hasL a x y) (hasL b x y) := by
  rw [hasL_flat (comb_form hf a b)]
  exact ((borders a b).bands hf).2 x y
/-- A region is what it is of the places that it has. -/
theorem comb_eq {f : Bool → Bool → Bool} (hf : f false false = false) {a b : List Rc} {B : Bands} (HB : IsB B) (h : ∀ x y, hasB B x y = f (hasL a x y) (hasL b x y)) : B = comb f a b :=
  HB.one (comb_form hf a b) fun x y => by rw [h, ← hasL_flat (comb_form hf a b), comb_has hf]

/-- How many of n places from lo on. -/
def cnt (lo : Int) : Nat → (Int → Nat) → Nat
  | 0, _ => 0
  | n + 1, f => cnt lo n f + f (lo + n)
theorem cnt_ext {lo : Int} {n : Nat} {f g : Int → Nat} (h : ∀ z, lo ≤ z → z < lo + n → f z = g z) : cnt lo n f = cnt lo n g := by
  induction n with
  | zero => rfl
  | succ n ih =>
    unfold cnt
    rw [ih fun z h1 h2 => h z h1 (by omega), h _ (by omega) (by omega)]
theorem cnt_add (lo : Int) (n : Nat) (f g : Int → Nat) : cnt lo n (fun z => f z + g z) = cnt lo n f + cnt lo n g := by
  induction n with
  | zero => rfl
  | succ n ih => unfold cnt; rw [ih]; dsimp only; omega
theorem cnt_zero {lo : Int} {n : Nat} {f : Int → Nat} (h : ∀ z, lo ≤ z → z < lo + n → f z = 0) : cnt lo n f = 0 := by
  induction n with
  | zero => rfl
  | succ n ih => unfold cnt; rw [ih fun z h1 h2 => h z h1 (by omega), h _ (by omega) (by omega)]
theorem cnt_le {lo : Int} {n : Nat} {f g : Int → Nat} (h : ∀ z, lo ≤ z → z < lo + n → f z ≤ g z) : cnt lo n f ≤ cnt lo n g := by
  induction n with
  | zero => exact Nat.le_refl _
  | succ n ih =>
    have := ih fun z h1 h2 => h z h1 (by omega)
    have := h (lo + n) (by omega) (by omega)
    unfold cnt
    omega
/-- A step's part of a sum. -/
theorem cnt_seg {lo a b : Int} {n : Nat} (c : Nat) (ha : lo ≤ a) (hab : a ≤ b) (hb : b ≤ lo + n) : (cnt lo n (fun z => if a ≤ z ∧ z < b then c else 0) : Int) = (b - a) * c := by
  induction n generalizing b with
  | zero =>
    have : b - a = 0 := by omega
    rw [this]; simp [cnt]
  | succ n ih =>
    unfold cnt
    dsimp only
    by_cases h : b ≤ lo + n
    · have := ih hab h
      rw [if_neg (by omega)]
      exact this
    · have hbb : b = lo + n + 1 := by omega
      by_cases h2 : a ≤ lo + n
      · have := ih (b := lo + n) h2 (Int.le_refl _)
        rw [if_pos (by omega)]
        rw [cnt_ext (g := fun z => if a ≤ z ∧ z < lo + n then c else 0) (fun z h3 h4 => by
          by_cases h5 : a ≤ z
          · rw [if_pos (by omega), if_pos (by omega)]
          · rw [if_neg (by omega), if_neg (by omega)])]
        rw [Int.natCast_add, this, hbb, show lo + n + 1 - a = (lo + n - a) + 1 by omega, Int.add_mul, Int.one_mul]
      · have : b - a = 0 := by omega
        rw [this, if_neg (by omega), cnt_zero fun z h3 h4 => if_neg (by omega)]
        simp
/-- What steps weigh. -/
def wsum {α : Type} (m : α → Nat) : List (Seg α) → Int
  | [] => 0
  | s :: r => (s.b - s.a) * (m s.v : Nat) + wsum m r
def wval {α : Type} (m : α → Nat) (L : List (Seg α)) (x : Int) : Nat := match val L x with | none => 0 | some v => m v
theorem wsum_cnt {α : Type} (m : α → Nat) {L : List (Seg α)} (h : okS L) {lo : Int} {n : Nat} (hl : ∀ s ∈ L, lo ≤ s.a ∧ s.b ≤ lo + n) : wsum m L = (cnt lo n (wval m L) : Nat) := by
  induction L with
  | nil =>
    rw [cnt_zero (f := wval m []) fun z _ _ => rfl]
    rfl
  | cons s r ih =>
    have h1 := hl s (by simp)
    have e : ∀ z, wval m (s :: r) z = (if s.a ≤ z ∧ z < s.b then m s.v else 0) + wval m r z := by
      intro z
      unfold wval
      by_cases hz : s.a ≤ z ∧ z < s.b
      · rw [if_pos hz, val_below h hz.2, show val (s :: r) z = some s.v from if_pos hz]
        rfl
      · rw [if_neg hz, Nat.zero_add, show val (s :: r) z = val r z from if_neg hz]
    rw [show wval m (s :: r) = fun z => (if s.a ≤ z ∧ z < s.b then m s.v else 0) + wval m r z from funext e, cnt_add, Int.natCast_add, cnt_seg _ h1.1 (Int.le_of_lt h.1) h1.2, ← ih h.2.1 fun t ht => hl t (List.mem_cons_of_mem _ ht)]
    rfl
/-- How many places rectangles have, side by side. -/
def areaL : List Rc → Int
  | [] => 0
  | r :: q => r.w * r.h + areaL q
theorem areaL_append (p q : List Rc) : areaL (p ++ q) = areaL p + areaL q := by
  induction p with
  | nil => simp [areaL]
  | cons r p ih => simp only [List.cons_append, areaL, ih]; omega
def lenR (p : Row) : Nat := (wsum (fun _ => 1) p).toNat
theorem wsum_nonneg {α : Type} (m : α → Nat) {L : List (Seg α)} (h : okS L) : 0 ≤ wsum m L := by
  induction L with
  | nil => exact Int.le_refl _
  | cons s r ih =>
    have h1 := ih h.2.1
    have h2 : 0 ≤ (s.b - s.a) * (m s.v : Nat) := Int.mul_nonneg (by have := h.1; omega) (by omega)
    show 0 ≤ (s.b - s.a) * (m s.v : Nat) + wsum m r
    omega
theorem area_flat1 (s : Seg Row) (h : okS s.v) : areaL (flat1 s) = (s.b - s.a) * (lenR s.v : Nat) := by
  have hn := wsum_nonneg (fun _ => 1) h
  unfold lenR
  rw [Int.toNat_of_nonneg hn]
  clear hn
  unfold flat1
  obtain ⟨a, b, p⟩ := s
  simp only at h ⊢
  induction p with
  | nil => simp [areaL, wsum]
  | cons q r ih =>
    simp only [List.map_cons, areaL]
    rw [ih h.2.1]
    simp only [wsum]
    rw [Int.mul_add, Int.mul_comm (q.b - q.a) (b - a)]
    simp
theorem wval_one (p : Row) (x : Int) : wval (fun _ => 1) p x = if (val p x).isSome = true then 1 else 0 := by
  unfold wval
  split
  · rename_i h; rw [h]; rfl
  · rename_i h; rw [h]; rfl
/-- How many places a set has, among these. -/
def manyN (N : Nat) (S : Int → Int → Bool) : Nat := cnt (-1048576) N fun y => cnt (-1048576) N fun x => if S x y = true then 1 else 0
theorem area_flat {B : Bands} (H : IsB B) {N : Nat} (hN : (N : Int) = 2097152) : areaL (flat B) = (manyN N (hasB B) : Nat) := by
  unfold manyN
  have e1 : areaL (flat B) = wsum lenR B := by
    have h : ∀ C : Bands, (∀ s ∈ C, okS s.v) → areaL (flat C) = wsum lenR C := by
      intro C hC
      induction C with
      | nil => rfl
      | cons s r ih =>
        unfold flat
        rw [List.flatMap_cons, areaL_append, area_flat1 s (hC s (by simp))]
        show _ + areaL (flat r) = _
        rw [ih fun t ht => hC t (List.mem_cons_of_mem _ ht)]
        rfl
    exact h B fun s hs => (H.rows s hs).2
  rw [e1, wsum_cnt lenR H.ok (lo := -1048576) (n := N) fun s hs => ⟨(H.ry s hs).1, by have := (H.ry s hs).2; omega⟩]
  congr 1
  refine cnt_ext fun y _ _ => ?_
  unfold wval hasB
  cases hv : val B y with
  | none =>
    simp only
    rw [cnt_zero]
    intro z _ _
    simp
  | some p =>
    obtain ⟨s, hs, _, _, rfl⟩ := val_some hv
    simp only
    unfold lenR
    rw [wsum_cnt (fun _ => 1) (H.rows s hs).2 (lo := -1048576) (n := N) fun p hp => ⟨(H.rx s hs p hp).1, by have := (H.rx s hs p hp).2; omega⟩, Int.toNat_natCast]
    refine cnt_ext fun x _ _ => ?_
    exact wval_one _ _
/-- How many places a set has. -/
def big : Nat := 2097152
theorem big_int : (big : Int) = 2097152 := rfl
def many (S : Int → Int → Bool) : Nat := manyN big S
theorem area_many {B : Bands} (H : IsB B) : areaL (flat B) = (many (hasB B) : Nat) := area_flat H big_int
theorem many_ext {S T : Int → Int → Bool} (h : ∀ x y, S x y = T x y) : many S = many T := by
  rw [show S = T from funext fun x => funext fun y => h x y]
theorem many_two {S T U V : Int → Int → Bool} (h : ∀ x y, (if S x y = true then 1 else 0) + (if T x y = true then 1 else 0) = (if U x y = true then 1 else 0) + (if V x y = true then (1 : Nat) else 0)) : many S + many T = many U + many V := by
  unfold many manyN
  rw [← cnt_add, ← cnt_add]
  refine cnt_ext fun y _ _ => ?_
  rw [← cnt_add, ← cnt_add]
  exact cnt_ext fun x _ _ => h x y
theorem many_box {S : Int → Int → Bool} {x y w h : Int} (hx : -1048576 ≤ x ∧ 0 ≤ w ∧ x + w ≤ 1048576) (hy : -1048576 ≤ y ∧ 0 ≤ h ∧ y + h ≤ 1048576) (hS : ∀ u v, S u v = true → x ≤ u ∧ u < x + w ∧ y ≤ v ∧ v < y + h) : (many S : Int) ≤ w * h := by
  unfold many manyN
  have hN := big_int
  generalize big = N at *
  have e1 := cnt_seg (lo := -1048576) (a := x) (b := x + w) (n := N) 1 hx.1 (by omega) (by omega)
  have e2 := cnt_seg (lo := -1048576) (a := y) (b := y + h) (n := N) w.toNat hy.1 (by omega) (by omega)
  rw [show (w.toNat : Int) = w from Int.toNat_of_nonneg hx.2.1] at e2
  rw [show y + h - y = h by omega, Int.mul_comm] at e2
  rw [← e2]
  refine Int.ofNat_le.2 (cnt_le fun v _ _ => ?_)
  by_cases hv : y ≤ v ∧ v < y + h
  · rw [if_pos hv]
    have e3 : (cnt (-1048576) N fun u => if x ≤ u ∧ u < x + w then 1 else 0) = w.toNat := by
      have : x + w - x = w := by omega
      rw [this] at e1
      omega
    rw [← e3]
    refine cnt_le fun u _ _ => ?_
    by_cases hu : S u v = true
    · have := hS u v hu
      rw [if_pos hu, if_pos (by omega)]
      exact Nat.le_refl _
    · rw [if_neg hu]
      exact Nat.zero_le _
  · rw [if_neg hv]
    refine Nat.le_of_eq (cnt_zero fun u _ _ => ?_)
    rw [if_neg fun hs => hv (by have := hS u v hs; omega)]

/-- The order of a region's rectangles. -/
def ahead (s r : Rc) : Prop := (s.y = r.y ∧ s.h = r.h ∧ s.x + s.w < r.x) ∨ s.y + s.h ≤ r.y
theorem okS.apart {p : Row} (h : okS p) : p.Pairwise fun s t => s.b < t.a := by
  induction p with
  | nil => exact List.Pairwise.nil
  | cons s r ih =>
    refine List.pairwise_cons.2 ⟨fun t ht => ?_, ih h.2.1⟩
    cases r with
    | nil => exact absurd ht (by simp)
    | cons c r =>
      have h1 := h.2.2 c (by simp)
      have h2 : s.b < c.a := by
        rcases Int.lt_or_eq_of_le h1.1 with h2 | h2
        · exact h2
        · exact absurd rfl (h1.2 h2)
      rcases List.mem_cons.1 ht with rfl | ht
      · exact h2
      · have := h.2.1.from t ht
        have := h.2.1.1
        omega
theorem okS.later {α : Type} {L : List (Seg α)} (h : okS L) : L.Pairwise fun s t => s.b ≤ t.a := by
  induction L with
  | nil => exact List.Pairwise.nil
  | cons s r ih => exact List.pairwise_cons.2 ⟨h.from, ih h.2.1⟩
theorem IsB.order {B : Bands} (H : IsB B) : (flat B).Pairwise ahead := by
  unfold flat
  rw [List.pairwise_flatMap]
  refine ⟨fun s hs => ?_, ?_⟩
  · unfold flat1
    rw [List.pairwise_map]
    refine (H.rows s hs).2.apart.imp fun {p q} hpq => .inl ⟨rfl, rfl, ?_⟩
    simp only
    omega
  · refine List.Pairwise.imp_of_mem (R := fun s t => s.b ≤ t.a) (fun {s t} hs ht h => ?_) H.ok.later
    intro r hr q hq
    obtain ⟨p, hp, rfl⟩ := List.mem_map.1 hr
    obtain ⟨o, ho, rfl⟩ := List.mem_map.1 hq
    refine .inr ?_
    simp only
    omega

def fOr (p q : Bool) : Bool := p || q
def fMinus (p q : Bool) : Bool := p && !q
def fAnd (p q : Bool) : Bool := p && q
/-- By number: 0, 1, or another one. -/
def fOp (op : Int) : Bool → Bool → Bool := if op = 0 then fOr else if op = 1 then fMinus else fAnd
theorem fOp_no (op : Int) : fOp op false false = false := by
  unfold fOp
  by_cases h : op = 0
  · rw [if_pos h]; rfl
  · rw [if_neg h]
    by_cases h1 : op = 1
    · rw [if_pos h1]; rfl
    · rw [if_neg h1]; rfl
theorem comb_same {f g : Bool → Bool → Bool} (hf : f false false = false) (hg : g false false = false) {a b c d : List Rc} (h : ∀ x y, f (hasL a x y) (hasL b x y) = g (hasL c x y) (hasL d x y)) : comb f a b = comb g c d :=
  comb_eq hg (comb_form hf a b) fun x y => by rw [← hasL_flat (comb_form hf a b), comb_has hf]; exact h x y
theorem comb_area {f : Bool → Bool → Bool} (hf : f false false = false) (a b : List Rc) : areaL (flat (comb f a b)) = (many fun x y => f (hasL a x y) (hasL b x y) : Nat) := by
  rw [area_many (comb_form hf a b)]
  exact congrArg (fun n : Nat => (n : Int)) (many_ext fun x y => by rw [← hasL_flat (comb_form hf a b), comb_has hf])
theorem IsB.nil {B : Bands} (H : IsB B) : flat B = [] ↔ ∀ x y, hasL (flat B) x y = false := by
  constructor
  · intro h x y; rw [h]; rfl
  · intro h
    cases hb : flat B with
    | nil => rfl
    | cons r q =>
      have hr : r ∈ flat B := by rw [hb]; exact List.mem_cons_self
      have hc := H.counts r hr
      have h1 := counts_iff.1 hc
      have : hasL (flat B) r.x r.y = true := hasL_iff.2 ⟨r, hr, hc, by omega⟩
      rw [h] at this
      exact absurd this (by simp)
theorem comb_nil {f : Bool → Bool → Bool} (hf : f false false = false) {a b : List Rc} : flat (comb f a b) = [] ↔ ∀ x y, f (hasL a x y) (hasL b x y) = false := by
  rw [(comb_form hf a b).nil]
  exact ⟨fun h x y => by rw [← comb_has hf]; exact h x y, fun h x y => by rw [comb_has hf]; exact h x y⟩
theorem hasL_nil (x y : Int) : hasL [] x y = false := rfl
theorem hasL_far {l : List Rc} {x y : Int} (h : hasL l x y = true) : -1048576 ≤ x ∧ x < 1048576 ∧ -1048576 ≤ y ∧ y < 1048576 := by
  obtain ⟨r, _, hc, h1⟩ := hasL_iff.1 h
  have := counts_iff.1 hc
  omega
/-- The region of rectangles. -/
def make (l : List Rc) : List Rc := flat (comb fOr l [])
theorem make_has (l : List Rc) (x y : Int) : hasL (make l) x y = hasL l x y := by
  unfold make
  rw [comb_has rfl, hasL_nil]
  simp [fOr]
theorem make_same {l m : List Rc} (h : ∀ x y, hasL l x y = hasL m x y) : make l = make m := by
  unfold make
  rw [comb_same (f := fOr) (g := fOr) (a := l) (b := []) (c := m) (d := []) rfl rfl fun x y => by rw [h]]
theorem make_form {B : Bands} (H : IsB B) : make (flat B) = flat B := by
  unfold make
  rw [← comb_eq (f := fOr) rfl H fun x y => by rw [hasL_flat H, hasL_nil]; simp [fOr]]
theorem make_comb {f : Bool → Bool → Bool} (hf : f false false = false) (a b : List Rc) : make (flat (comb f a b)) = flat (comb f a b) := make_form (comb_form hf a b)
/-- Moved. -/
def moved (dx dy : Int) (r : Rc) : Rc := ⟨r.x + dx, r.y + dy, r.w, r.h⟩
def shiftL (a : List Rc) (dx dy : Int) : List Rc := if dx < -2097152 ∨ 2097152 < dx ∨ dy < -2097152 ∨ 2097152 < dy then [] else make ((make a).map (moved dx dy))

/-- The smallest rectangle. -/
structure Tight (l : List Rc) (b : Rc) : Prop where
  all : ∀ r ∈ l, counts r = true → b.x ≤ r.x ∧ r.x + r.w ≤ b.x + b.w ∧ b.y ≤ r.y ∧ r.y + r.h ≤ b.y + b.h
  left : ∃ r ∈ l, counts r = true ∧ r.x = b.x
  right : ∃ r ∈ l, counts r = true ∧ r.x + r.w = b.x + b.w
  top : ∃ r ∈ l, counts r = true ∧ r.y = b.y
  down : ∃ r ∈ l, counts r = true ∧ r.y + r.h = b.y + b.h
theorem Tight.le {l m : List Rc} {b c : Rc} (h : Tight l b) (h' : Tight m c) (hs : ∀ x y, hasL l x y = true → hasL m x y = true) : c.x ≤ b.x ∧ b.x + b.w ≤ c.x + c.w ∧ c.y ≤ b.y ∧ b.y + b.h ≤ c.y + c.h := by
  have key : ∀ r ∈ l, counts r = true → ∀ x y, r.x ≤ x → x < r.x + r.w → r.y ≤ y → y < r.y + r.h → c.x ≤ x ∧ x < c.x + c.w ∧ c.y ≤ y ∧ y < c.y + c.h := by
    intro r hr hc x y h1 h2 h3 h4
    obtain ⟨s, hs, hsc, h5⟩ := hasL_iff.1 (hs x y (hasL_iff.2 ⟨r, hr, hc, h1, h2, h3, h4⟩))
    have := h'.all s hs hsc
    omega
  obtain ⟨r1, m1, c1, e1⟩ := h.left
  obtain ⟨r2, m2, c2, e2⟩ := h.right
  obtain ⟨r3, m3, c3, e3⟩ := h.top
  obtain ⟨r4, m4, c4, e4⟩ := h.down
  have a1 := counts_iff.1 c1
  have a2 := counts_iff.1 c2
  have a3 := counts_iff.1 c3
  have a4 := counts_iff.1 c4
  have b1 := key r1 m1 c1 r1.x r1.y (by omega) (by omega) (by omega) (by omega)
  have b2 := key r2 m2 c2 (r2.x + r2.w - 1) r2.y (by omega) (by omega) (by omega) (by omega)
  have b3 := key r3 m3 c3 r3.x r3.y (by omega) (by omega) (by omega) (by omega)
  have b4 := key r4 m4 c4 r4.x (r4.y + r4.h - 1) (by omega) (by omega) (by omega) (by omega)
  omega
theorem Tight.one {l m : List Rc} {b c : Rc} (h : Tight l b) (h' : Tight m c) (hs : ∀ x y, hasL l x y = hasL m x y) : b = c := by
  have e1 := h.le h' fun x y hh => by rw [← hs]; exact hh
  have e2 := h'.le h fun x y hh => by rw [hs]; exact hh
  exact Rc.eq (by omega) (by omega) (by omega) (by omega)
/-- Of the borders. -/
def boundsL (a : List Rc) : Rc :=
  if bordX a [] = [] then ⟨0, 0, 0, 0⟩ else
    ⟨nth (bordX a []) 0, nth (bordY a []) 0, nth (bordX a []) ((bordX a []).length - 1) - nth (bordX a []) 0, nth (bordY a []) ((bordY a []).length - 1) - nth (bordY a []) 0⟩
theorem bord_nil {a : List Rc} : (bordX a [] = [] ↔ ∀ r ∈ a, counts r = false) ∧ (bordY a [] = [] ↔ ∀ r ∈ a, counts r = false) := by
  constructor
  · constructor
    · intro h r hr
      rw [Bool.eq_false_iff]
      intro hc
      have : r.x ∈ bordX a [] := mem_bordX.2 (.inr ⟨r, hr, hc, .inl rfl⟩)
      rw [h] at this
      exact absurd this (by simp)
    · intro h
      rw [List.eq_nil_iff_forall_not_mem]
      intro x hx
      rcases mem_bordX.1 hx with h1 | ⟨r, hr, hc, _⟩
      · exact absurd h1 (by simp)
      · rw [h r hr] at hc; exact absurd hc (by simp)
  · constructor
    · intro h r hr
      rw [Bool.eq_false_iff]
      intro hc
      have : r.y ∈ bordY a [] := mem_bordY.2 (.inr ⟨r, hr, hc, .inl rfl⟩)
      rw [h] at this
      exact absurd this (by simp)
    · intro h
      rw [List.eq_nil_iff_forall_not_mem]
      intro x hx
      rcases mem_bordY.1 hx with h1 | ⟨r, hr, hc, _⟩
      · exact absurd h1 (by simp)
      · rw [h r hr] at hc; exact absurd hc (by simp)
theorem bounds_tight {a : List Rc} {r0 : Rc} (h0 : r0 ∈ a) (c0 : counts r0 = true) : Tight a (boundsL a) := by
  have hn : bordX a [] ≠ [] := fun h => by rw [bord_nil.1.1 h r0 h0] at c0; exact absurd c0 (by simp)
  have hm : bordY a [] ≠ [] := fun h => by rw [bord_nil.2.1 h r0 h0] at c0; exact absurd c0 (by simp)
  have hx := bordX_rises (q := a) (l := []) List.Pairwise.nil
  have hy := bordY_rises (q := a) (l := []) List.Pairwise.nil
  have lx := List.length_pos_iff.2 hn
  have ly := List.length_pos_iff.2 hm
  have mx : ∀ x, x ∈ bordX a [] ↔ ∃ r ∈ a, counts r = true ∧ (x = r.x ∨ x = r.x + r.w) := fun x => by rw [mem_bordX]; simp
  have my : ∀ y, y ∈ bordY a [] ↔ ∃ r ∈ a, counts r = true ∧ (y = r.y ∨ y = r.y + r.h) := fun y => by rw [mem_bordY]; simp
  unfold boundsL
  rw [if_neg hn]
  generalize bordX a [] = xs at *
  generalize bordY a [] = ys at *
  have inx : ∀ x ∈ xs, nth xs 0 ≤ x ∧ x ≤ nth xs (xs.length - 1) := by
    intro x h
    obtain ⟨i, hi, rfl⟩ := mem_nth h
    exact ⟨hx.le (by omega) hi, hx.le (by omega) (by omega)⟩
  have iny : ∀ y ∈ ys, nth ys 0 ≤ y ∧ y ≤ nth ys (ys.length - 1) := by
    intro y h
    obtain ⟨i, hi, rfl⟩ := mem_nth h
    exact ⟨hy.le (by omega) hi, hy.le (by omega) (by omega)⟩
  refine ⟨fun r hr hc => ?_, ?_, ?_, ?_, ?_⟩
  · have h1 := inx _ ((mx r.x).2 ⟨r, hr, hc, .inl rfl⟩)
    have h2 := inx _ ((mx (r.x + r.w)).2 ⟨r, hr, hc, .inr rfl⟩)
    have h3 := iny _ ((my r.y).2 ⟨r, hr, hc, .inl rfl⟩)
    have h4 := iny _ ((my (r.y + r.h)).2 ⟨r, hr, hc, .inr rfl⟩)
    simp only
    omega
  · obtain ⟨r, hr, hc, h⟩ := (mx _).1 (nth_mem (l := xs) (i := 0) lx)
    refine ⟨r, hr, hc, ?_⟩
    have h1 := inx _ ((mx r.x).2 ⟨r, hr, hc, .inl rfl⟩)
    have := counts_iff.1 hc
    simp only
    omega
  · obtain ⟨r, hr, hc, h⟩ := (mx _).1 (nth_mem (l := xs) (i := xs.length - 1) (by omega))
    refine ⟨r, hr, hc, ?_⟩
    have h1 := inx _ ((mx (r.x + r.w)).2 ⟨r, hr, hc, .inr rfl⟩)
    have := counts_iff.1 hc
    simp only
    omega
  · obtain ⟨r, hr, hc, h⟩ := (my _).1 (nth_mem (l := ys) (i := 0) ly)
    refine ⟨r, hr, hc, ?_⟩
    have h1 := iny _ ((my r.y).2 ⟨r, hr, hc, .inl rfl⟩)
    have := counts_iff.1 hc
    simp only
    omega
  · obtain ⟨r, hr, hc, h⟩ := (my _).1 (nth_mem (l := ys) (i := ys.length - 1) (by omega))
    refine ⟨r, hr, hc, ?_⟩
    have h1 := iny _ ((my (r.y + r.h)).2 ⟨r, hr, hc, .inr rfl⟩)
    have := counts_iff.1 hc
    simp only
    omega
end Go.Proofs.Ytedlhfemmofbpaa.Reg
