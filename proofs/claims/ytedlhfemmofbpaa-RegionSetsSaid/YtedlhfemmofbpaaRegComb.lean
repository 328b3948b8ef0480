/-
  Plain facts of layer 15 (region): how the reference's loops make the region of cells, rectangle by rectangle. Nothing of the program is named here.
-/
import Derived.Test.YtedlhfemmofbpaaRegMath
namespace Go.Proofs.Ytedlhfemmofbpaa.Reg
set_option linter.unusedVariables false

theorem push_snoc {α : Type} [DecidableEq α] (L : List (Seg α)) (s : Seg α) (a b : Int) (v : α) :
    push (L ++ [s]) a b (some v) = if s.b = a ∧ s.v = v then L ++ [⟨s.a, b, v⟩] else L ++ [s, ⟨a, b, v⟩] := by
  induction L with
  | nil => rfl
  | cons t L ih =>
    cases L with
    | nil =>
      show t :: push [s] a b (some v) = _
      rw [show push [s] a b (some v) = push ([] ++ [s]) a b (some v) from rfl, ih]
      by_cases h : s.b = a ∧ s.v = v
      · rw [if_pos h, if_pos h]; rfl
      · rw [if_neg h, if_neg h]; rfl
    | cons u L =>
      show t :: push (u :: L ++ [s]) a b (some v) = _
      rw [ih]
      by_cases h : s.b = a ∧ s.v = v
      · rw [if_pos h, if_pos h]; rfl
      · rw [if_neg h, if_neg h]; rfl
theorem snoc_cases {α : Type} (L : List α) : L = [] ∨ ∃ M s, L = M ++ [s] := by
  cases h : L.reverse with
  | nil => exact .inl (List.reverse_eq_nil_iff.1 h)
  | cons s r => exact .inr ⟨r.reverse, s, by rw [← List.reverse_reverse L, h]; simp⟩

/-- A row's rectangles after k pairs. -/
def rowR (xs : List Int) (g : Int → Option Unit) (y y1 : Int) (k : Nat) : List Rc := flat1 ⟨y, y1, bandK xs g k⟩
theorem flat1_snoc (y y1 : Int) (L : Row) (s : Seg Unit) : flat1 ⟨y, y1, L ++ [s]⟩ = flat1 ⟨y, y1, L⟩ ++ [⟨s.a, y, s.b - s.a, y1 - y⟩] := by
  unfold flat1
  simp
theorem rowR_zero (xs : List Int) (g : Int → Option Unit) (y y1 : Int) : rowR xs g y y1 0 = [] := rfl
theorem rowR_none {xs : List Int} {g : Int → Option Unit} {y y1 : Int} {k : Nat} (h : g (nth xs k) = none) : rowR xs g y y1 (k + 1) = rowR xs g y y1 k := by
  unfold rowR
  show flat1 ⟨y, y1, push _ _ _ (g (nth xs k))⟩ = _
  rw [h, push_none]
theorem last_snoc {l : List Rc} {r s : Rc} (h : (l ++ [s])[(l ++ [s]).length - 1]? = some r) : s = r := by
  rw [List.length_append, List.length_singleton, Nat.add_sub_cancel, List.getElem?_append_right (Nat.le_refl _), Nat.sub_self] at h
  simpa using h
theorem rowR_app {xs : List Int} {g : Int → Option Unit} {y y1 : Int} {k : Nat} (h : g (nth xs k) = some ()) (hl : ∀ r, (rowR xs g y y1 k)[(rowR xs g y y1 k).length - 1]? = some r → r.x + r.w ≠ nth xs k) :
    rowR xs g y y1 (k + 1) = rowR xs g y y1 k ++ [⟨nth xs k, y, nth xs (k + 1) - nth xs k, y1 - y⟩] := by
  unfold rowR at hl ⊢
  show flat1 ⟨y, y1, push (bandK xs g k) _ _ (g (nth xs k))⟩ = _
  rw [h]
  rcases snoc_cases (bandK xs g k) with h0 | ⟨L, s, h0⟩
  · rw [h0]; rfl
  · rw [h0] at hl ⊢
    rw [flat1_snoc] at hl
    have h1 := hl _ (by rw [List.length_append, List.length_singleton, Nat.add_sub_cancel, List.getElem?_append_right (Nat.le_refl _), Nat.sub_self]; rfl)
    simp only at h1
    rw [push_snoc, if_neg (by intro h2; have := h2.1; omega), show L ++ [s, (⟨nth xs k, nth xs (k + 1), ()⟩ : Seg Unit)] = (L ++ [s]) ++ [⟨nth xs k, nth xs (k + 1), ()⟩] by simp, flat1_snoc]
theorem rowR_set {xs : List Int} {g : Int → Option Unit} {y y1 : Int} {k : Nat} (h : g (nth xs k) = some ()) {r : Rc} (hr : (rowR xs g y y1 k)[(rowR xs g y y1 k).length - 1]? = some r) (he : r.x + r.w = nth xs k) :
    rowR xs g y y1 (k + 1) = (rowR xs g y y1 k).set ((rowR xs g y y1 k).length - 1) ⟨r.x, r.y, nth xs (k + 1) - r.x, r.h⟩ := by
  unfold rowR at hr ⊢
  show flat1 ⟨y, y1, push (bandK xs g k) _ _ (g (nth xs k))⟩ = _
  rw [h]
  rcases snoc_cases (bandK xs g k) with h0 | ⟨L, s, h0⟩
  · rw [h0] at hr; exact absurd hr (by simp [flat1])
  · rw [h0] at hr ⊢
    rw [flat1_snoc] at hr ⊢
    have e := last_snoc hr
    subst e
    simp only at he ⊢
    rw [push_snoc, if_pos ⟨by omega, rfl⟩, flat1_snoc, List.length_append, List.length_singleton, Nat.add_sub_cancel, List.set_append_right _ _ (Nat.le_refl _), Nat.sub_self]
    rfl
/-- All numbers of a row's rectangles. -/
theorem rowR_mem {xs : List Int} {g : Int → Option Unit} {y y1 : Int} {k : Nat} (hk : k < xs.length) {r : Rc} (h : r ∈ rowR xs g y y1 k) : ∃ a ∈ xs, ∃ b ∈ xs, r = ⟨a, y, b - a, y1 - y⟩ := by
  unfold rowR flat1 at h
  obtain ⟨p, hp, rfl⟩ := List.mem_map.1 h
  obtain ⟨e1, e2⟩ := bandK_ends g hk p hp
  exact ⟨p.a, e1, p.b, e2, rfl⟩
theorem bandK_length {α : Type} [DecidableEq α] (xs : List Int) (g : Int → Option α) (k : Nat) : (bandK xs g k).length ≤ k := by
  induction k with
  | zero => exact Nat.le_refl _
  | succ k ih =>
    show (push (bandK xs g k) _ _ (g (nth xs k))).length ≤ k + 1
    cases g (nth xs k) with
    | none => rw [push_none]; omega
    | some v =>
      rcases snoc_cases (bandK xs g k) with h0 | ⟨L, s, h0⟩
      · rw [h0]; simp [push]
      · rw [h0] at ih ⊢
        rw [push_snoc]
        by_cases h : s.b = nth xs k ∧ s.v = v
        · rw [if_pos h]; simp at ih ⊢; omega
        · rw [if_neg h]; simp at ih ⊢; omega
theorem rowR_length (xs : List Int) (g : Int → Option Unit) (y y1 : Int) (k : Nat) : (rowR xs g y y1 k).length ≤ k := by
  unfold rowR flat1
  simpa using bandK_length xs g k

/-- What two bands must have the same. -/
def keyR (l : List Rc) : List (Int × Int) := l.map fun r => (r.x, r.w)
theorem keyR_flat1 (s : Seg Row) : keyR (flat1 s) = s.v.map fun p => (p.a, p.b - p.a) := by unfold keyR flat1; simp
theorem row_keys {p q : Row} (h : (p.map fun p => (p.a, p.b - p.a)) = q.map fun p => (p.a, p.b - p.a)) : p = q := by
  induction p generalizing q with
  | nil => cases q with
    | nil => rfl
    | cons t q => simp at h
  | cons s p ih =>
    cases q with
    | nil => simp at h
    | cons t q =>
      simp only [List.map_cons, List.cons.injEq, Prod.mk.injEq] at h
      rw [ih h.2, show s = t from Seg.eq h.1.1 (by omega) rfl]
theorem flat_snoc (L : Bands) (s : Seg Row) : flat (L ++ [s]) = flat L ++ flat1 s := by unfold flat; simp
theorem flat1_nil {s : Seg Row} : flat1 s = [] ↔ s.v = [] := by unfold flat1; simp
/-- What is so ahead of row i: what is done, and the last band, if it ends here. -/
def OutI (ys : List Int) (G : Int → Option Row) (i : Nat) (out last : List Rc) : Prop :=
  (last = [] ∧ out = flat (bandK ys G i) ∧ ∀ s ∈ bandK ys G i, s.b ≠ nth ys i) ∨
  ∃ L s, bandK ys G i = L ++ [s] ∧ s.b = nth ys i ∧ last = flat1 s ∧ s.v ≠ [] ∧ out = flat L
theorem OutI.start (ys : List Int) (G : Int → Option Row) : OutI ys G 0 [] [] := .inl ⟨rfl, rfl, fun s hs => absurd hs (by simp [bandK])⟩
theorem OutI.all {ys : List Int} {G : Int → Option Row} {i : Nat} {out last : List Rc} (h : OutI ys G i out last) : out ++ last = flat (bandK ys G i) := by
  rcases h with ⟨h1, h2, _⟩ | ⟨L, s, h1, _, h2, _, h3⟩
  · rw [h1, h2]; simp
  · rw [h1, h2, h3, flat_snoc]
/-- The last band goes on. -/
theorem OutI.on {ys : List Int} {G : Int → Option Row} {i : Nat} {out last : List Rc} (h : OutI ys G i out last) {p : Row} (hG : G (nth ys i) = if p = [] then none else some p) {y1 : Int} (hl : last ≠ []) (hk : keyR last = keyR (flat1 ⟨nth ys i, y1, p⟩)) :
    OutI ys G (i + 1) out (last.map fun r => ⟨r.x, r.y, r.w, nth ys (i + 1) - r.y⟩) := by
  rcases h with ⟨h1, _⟩ | ⟨L, s, h1, h2, h3, h4, h5⟩
  · exact absurd h1 hl
  · have hp : s.v = p := by
      rw [h3, keyR_flat1, keyR_flat1] at hk
      exact row_keys hk
    refine .inr ⟨L, ⟨s.a, nth ys (i + 1), p⟩, ?_, rfl, ?_, by rw [← hp]; exact h4, h5⟩
    · show push (bandK ys G i) _ _ (G (nth ys i)) = _
      rw [hG, if_neg (by rw [← hp]; exact h4), h1, push_snoc, if_pos ⟨h2, hp⟩]
    · rw [h3]
      unfold flat1
      rw [← hp]
      simp
/-- Another band begins. -/
theorem OutI.new {ys : List Int} {G : Int → Option Row} {i : Nat} {out last : List Rc} (h : OutI ys G i out last) {p : Row} (hG : G (nth ys i) = if p = [] then none else some p) (hlt : nth ys i < nth ys (i + 1)) (hle : ∀ s ∈ bandK ys G i, s.b ≤ nth ys i)
    (hk : last = [] ∨ keyR last ≠ keyR (flat1 ⟨nth ys i, nth ys (i + 1), p⟩)) : OutI ys G (i + 1) (out ++ last) (flat1 ⟨nth ys i, nth ys (i + 1), p⟩) := by
  have hall := h.all
  by_cases hp : p = []
  · subst hp
    rw [if_pos rfl] at hG
    refine .inl ⟨rfl, ?_, fun s hs => ?_⟩
    · show _ = flat (push (bandK ys G i) _ _ (G (nth ys i)))
      rw [hG, push_none]
      exact hall
    · have hs' : s ∈ push (bandK ys G i) (nth ys i) (nth ys (i + 1)) (G (nth ys i)) := hs
      rw [hG, push_none] at hs'
      have := hle s hs'
      omega
  · rw [if_neg hp] at hG
    refine .inr ⟨bandK ys G i, ⟨nth ys i, nth ys (i + 1), p⟩, ?_, rfl, rfl, hp, hall⟩
    show push (bandK ys G i) _ _ (G (nth ys i)) = _
    rw [hG]
    rcases h with ⟨h1, _, h3⟩ | ⟨L, s, h1, h2, h3, h4, h5⟩
    · rcases snoc_cases (bandK ys G i) with h0 | ⟨L, s, h0⟩
      · rw [h0]; rfl
      · rw [h0] at h3 ⊢
        rw [push_snoc, if_neg (fun h => h3 s (by simp) h.1)]
        simp
    · rw [h1, push_snoc, if_neg]
      · simp
      · rintro ⟨_, h6⟩
        rcases hk with hk | hk
        · rw [h3] at hk
          exact h4 (flat1_nil.1 hk)
        · exact hk (by rw [h3, keyR_flat1, keyR_flat1, h6])
/-- The last band's rectangles, as far as they were made longer. -/
def setH (y1 : Int) (r : Rc) : Rc := ⟨r.x, r.y, r.w, y1 - r.y⟩
def longQ (y1 : Int) (l : List Rc) (q : Nat) : List Rc := (l.take q).map (setH y1) ++ l.drop q
theorem longQ_zero (y1 : Int) (l : List Rc) : longQ y1 l 0 = l := by simp [longQ]
theorem longQ_all (y1 : Int) (l : List Rc) : longQ y1 l l.length = l.map fun r => ⟨r.x, r.y, r.w, y1 - r.y⟩ := by
  unfold longQ
  rw [List.take_of_length_le (Nat.le_refl _), List.drop_of_length_le (Nat.le_refl _), List.append_nil]
  rfl
theorem longQ_length (y1 : Int) (l : List Rc) (q : Nat) : (longQ y1 l q).length = l.length := by
  unfold longQ
  simp
  omega
theorem longQ_get {y1 : Int} {l : List Rc} {q : Nat} {r : Rc} (h : l[q]? = some r) : (longQ y1 l q)[q]? = some r := by
  have hq := (List.getElem?_eq_some_iff.1 h).1
  unfold longQ
  rw [List.getElem?_append_right (by simp; omega)]
  simp [h, Nat.min_eq_left (Nat.le_of_lt hq)]
theorem longQ_step {y1 : Int} {l : List Rc} {q : Nat} {r : Rc} (h : l[q]? = some r) : longQ y1 l (q + 1) = (longQ y1 l q).set q ⟨r.x, r.y, r.w, y1 - r.y⟩ := by
  obtain ⟨hq, rfl⟩ := List.getElem?_eq_some_iff.1 h
  unfold longQ
  have hl : ((l.take q).map (setH y1)).length = q := by simp; omega
  rw [List.take_succ_eq_append_getElem hq, List.map_append, List.set_append_right _ _ (by omega), hl, Nat.sub_self, List.append_assoc, List.drop_eq_getElem_cons hq]
  rfl
end Go.Proofs.Ytedlhfemmofbpaa.Reg
