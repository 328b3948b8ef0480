/-
  Plain facts of layer 17 (rre): the ground is told by what it is; which pieces there are of one value, and of one place of another.
-/
import Derived.Test.YtmjjbapahgejmaaRreRefB
namespace Go.Proofs.Ytmjjbapahgejmaa.Rre
open Pln
set_option linter.unusedVariables false

/-- What comes most often, the least of equals. -/
def IsG (vals : List Int) (v : Int) : Prop := (∃ i, i < vals.length ∧ px vals i = v) ∧ ∀ i, i < vals.length → vals.count (px vals i) < vals.count v ∨ (vals.count (px vals i) = vals.count v ∧ v ≤ px vals i)
theorem isG_one {vals : List Int} {v u : Int} (h : IsG vals v) (k : IsG vals u) : v = u := by
  obtain ⟨⟨i, hi, rfl⟩, h2⟩ := h
  obtain ⟨⟨j, hj, rfl⟩, k2⟩ := k
  have a := h2 j hj
  have b := k2 i hi
  omega
theorem grd_best (vals : List Int) : ∀ k, k ≤ vals.length → (∀ i, i < k → vals.count (px vals i) < (grd vals k).2 ∨ (vals.count (px vals i) = (grd vals k).2 ∧ (grd vals k).1 ≤ px vals i)) ∧ (0 < k → ∃ i, i < k ∧ px vals i = (grd vals k).1 ∧ vals.count (px vals i) = (grd vals k).2)
  | 0, _ => ⟨fun i hi => by omega, fun h => by omega⟩
  | k + 1, hk => by
    obtain ⟨h1, h2⟩ := grd_best vals k (by omega)
    have hpos : 0 < vals.count (px vals k) := by
      rw [List.count_pos_iff, px_get (show k < vals.length by omega)]
      exact List.getElem_mem _
    by_cases hc : (grd vals k).2 < vals.count (px vals k) ∨ (vals.count (px vals k) = (grd vals k).2 ∧ px vals k < (grd vals k).1)
    · have e : grd vals (k + 1) = (px vals k, vals.count (px vals k)) := by
        show gstep vals (grd vals k) (px vals k) = _
        unfold gstep
        rw [if_pos hc]
      rw [e]
      refine ⟨fun i hi => ?_, fun _ => ⟨k, by omega, rfl, rfl⟩⟩
      show vals.count (px vals i) < vals.count (px vals k) ∨ (vals.count (px vals i) = vals.count (px vals k) ∧ px vals k ≤ px vals i)
      rcases Nat.lt_or_ge i k with hik | hik
      · have := h1 i hik
        omega
      · have : i = k := by omega
        subst this
        exact .inr ⟨rfl, Int.le_refl _⟩
    · have e : grd vals (k + 1) = grd vals k := by
        show gstep vals (grd vals k) (px vals k) = _
        unfold gstep
        rw [if_neg hc]
      rw [e]
      refine ⟨fun i hi => ?_, fun _ => ?_⟩
      · rcases Nat.lt_or_ge i k with hik | hik
        · exact h1 i hik
        · have : i = k := by omega
          subst this
          omega
      · rcases Nat.eq_zero_or_pos k with h0 | h0
        · subst h0
          exact absurd (.inl hpos) hc
        · obtain ⟨i, hi, hq⟩ := h2 h0
          exact ⟨i, by omega, hq⟩
theorem ground_is {vals : List Int} (h : 0 < vals.length) : IsG vals (groundL vals) := by
  obtain ⟨h1, h2⟩ := grd_best vals vals.length (Nat.le_refl _)
  obtain ⟨i, hi, e1, e2⟩ := h2 h
  have e : vals.count (groundL vals) = (grd vals vals.length).2 := by
    unfold groundL
    rw [← e1, e2]
  refine ⟨⟨i, hi, e1⟩, fun j hj => ?_⟩
  rw [e]
  exact h1 j hj
theorem ground_eq {vals : List Int} {v : Int} (h : IsG vals v) : groundL vals = v := by
  obtain ⟨i, hi, _⟩ := h.1
  exact isG_one (ground_is (by omega)) h
theorem ground_most {vals : List Int} {v : Int} {i : Nat} (hi : i < vals.length) (hv : px vals i = v) (h : ∀ j, j < vals.length → px vals j = v ∨ vals.count (px vals j) < vals.count v) : groundL vals = v :=
  ground_eq ⟨⟨i, hi, hv⟩, fun j hj => by
    rcases h j hj with e | e
    · rw [e]; exact .inr ⟨rfl, Int.le_refl _⟩
    · exact .inl e⟩
/-- One value alone, and one place of another. -/
theorem ground_all {vals : List Int} {a : Int} (h0 : 0 < vals.length) (h : ∀ i, i < vals.length → px vals i = a) : groundL vals = a :=
  ground_most h0 (h 0 h0) (fun j hj => .inl (h j hj))
theorem count_but {vals : List Int} {a b : Int} {q : Nat} (hab : b ≠ a) (hq : q < vals.length) (hb : px vals q = b) (h : ∀ i, i < vals.length → i ≠ q → px vals i = a) : ∀ k, k ≤ vals.length → (vals.take k).count a + (if q < k then 1 else 0) = k ∧ (vals.take k).count b = if q < k then 1 else 0
  | 0, _ => by simp
  | k + 1, hk => by
    obtain ⟨h1, h2⟩ := count_but hab hq hb h k (by omega)
    rw [count_take (by omega), count_take (by omega)]
    by_cases e : k = q
    · subst e
      rw [hb, if_neg hab, if_pos rfl]
      simp at h1 h2 ⊢
      omega
    · rw [h k (by omega) e, if_pos rfl, if_neg (c := a = b) (fun c => hab c.symm)]
      by_cases hk2 : q < k
      · rw [if_pos hk2] at h1 h2
        rw [if_pos (show q < k + 1 by omega)]
        omega
      · rw [if_neg hk2] at h1 h2
        rw [if_neg (show ¬ q < k + 1 by omega)]
        omega
theorem ground_but {vals : List Int} {a b : Int} {q : Nat} (h3 : 3 ≤ vals.length) (hq : q < vals.length) (hb : px vals q = b) (h : ∀ i, i < vals.length → i ≠ q → px vals i = a) : groundL vals = a := by
  by_cases hab : b = a
  · refine ground_all (by omega) (fun i hi => ?_)
    by_cases e : i = q
    · rw [e, hb, hab]
    · exact h i hi e
  · obtain ⟨c1, c2⟩ := count_but hab hq hb h vals.length (Nat.le_refl _)
    rw [List.take_of_length_le (Nat.le_refl _), if_pos hq] at c1 c2
    obtain ⟨i, hi, hiq⟩ : ∃ i, i < vals.length ∧ i ≠ q := by
      by_cases e : q = 0
      · exact ⟨1, by omega, by omega⟩
      · exact ⟨0, by omega, fun c => e c.symm⟩
    refine ground_most hi (h i hi hiq) (fun j hj => ?_)
    by_cases e : j = q
    · right
      rw [e, hb]
      omega
    · exact .inl (h j hj e)
/-- A place that is not the ground is in one piece, of its value; another is in none. -/
theorem pieces_count {w h : Nat} {vals : List Int} {g : Int} {i j : Nat} (hi : i < w) (hj : j < h) :
    ((piecesN w h vals g).filter (fun p => p.has i j)).length = (if px vals (j * w + i) = g then 0 else 1) ∧ ∀ p ∈ piecesN w h vals g, p.has i j = true → p.v = px vals (j * w + i) := by
  have I := pieces_inv w h vals g
  refine ⟨?_, fun p hp hh => (I.value p hp i j hh).symm⟩
  have e := pieces_has (vals := vals) (g := g) hi hj
  split
  · rename_i hv
    rw [filter_has (by rw [e]; simp [hv])]
    rfl
  · rename_i hv
    have h1 := I.once i j
    have : hasL (piecesN w h vals g) i j = true := by rw [e]; simp [hv]
    obtain ⟨p, hp, hh⟩ := hasL_iff.1 this
    have : 0 < ((piecesN w h vals g).filter (fun p => p.has i j)).length := List.length_pos_of_mem (List.mem_filter.2 ⟨hp, hh⟩)
    omega
theorem pieces_none {w h : Nat} {vals : List Int} {a : Int} (hl : vals.length = w * h) (ha : ∀ i, i < vals.length → px vals i = a) : piecesN w h vals a = [] := by
  rw [List.eq_nil_iff_forall_not_mem]
  intro p hp
  have I := pieces_inv w h vals a
  obtain ⟨n1, m1, hx, hy⟩ := I.inside p hp
  have hv := I.value p hp p.x p.y (has_iff.2 ⟨Nat.le_refl _, by omega, Nat.le_refl _, by omega⟩)
  rw [ha _ (by rw [hl]; exact at_lt (by omega) (by omega))] at hv
  exact I.ground p hp hv.symm
theorem pieces_one {w h : Nat} {vals : List Int} {a b : Int} {x y : Nat} (hl : vals.length = w * h) (hab : b ≠ a) (hx : x < w) (hy : y < h) (hb : px vals (y * w + x) = b) (ha : ∀ i, i < vals.length → i ≠ y * w + x → px vals i = a) :
    piecesN w h vals a = [⟨b, x, y, 1, 1⟩] := by
  have I := pieces_inv w h vals a
  have same : ∀ i j, i < w → j < h → px vals (j * w + i) ≠ a → i = x ∧ j = y := by
    intro i j hi hj hv
    have e : j * w + i = y * w + x := by
      by_cases e : j * w + i = y * w + x
      · exact e
      · exact absurd (ha _ (by rw [hl]; exact at_lt hi hj) e) hv
    have e1 := congrArg (· % w) e
    have e2 := congrArg (· / w) e
    simp only [(at_mod hi).1, (at_mod hi).2, (at_mod hx).1, (at_mod hx).2] at e1 e2
    exact ⟨e1, e2⟩
  have all : ∀ p ∈ piecesN w h vals a, p = ⟨b, x, y, 1, 1⟩ := by
    intro p hp
    obtain ⟨n1, m1, hpx, hpy⟩ := I.inside p hp
    have hg := I.ground p hp
    have at0 : ∀ i j, p.has i j = true → i = x ∧ j = y := by
      intro i j hh
      obtain ⟨q1, q2, q3, q4⟩ := has_iff.1 hh
      refine same i j (by omega) (by omega) ?_
      rw [I.value p hp i j hh]
      exact hg
    have c0 := at0 p.x p.y (has_iff.2 ⟨Nat.le_refl _, by omega, Nat.le_refl _, by omega⟩)
    have c1 := at0 (p.x + p.n - 1) (p.y + p.m - 1) (has_iff.2 ⟨by omega, by omega, by omega, by omega⟩)
    have hv := I.value p hp p.x p.y (has_iff.2 ⟨Nat.le_refl _, by omega, Nat.le_refl _, by omega⟩)
    rw [c0.1, c0.2, hb] at hv
    obtain ⟨pv, px', py', pn, pm⟩ := p
    simp only at *
    simp only [Pc.mk.injEq]
    omega
  have hc := (pieces_count (vals := vals) (g := a) hx hy).1
  rw [hb, if_neg hab] at hc
  have hf : (piecesN w h vals a).filter (fun p => p.has x y) = piecesN w h vals a := by
    rw [List.filter_eq_self]
    intro p hp
    rw [all p hp]
    exact has_iff.2 ⟨Nat.le_refl _, Nat.lt_succ_self _, Nat.le_refl _, Nat.lt_succ_self _⟩
  rw [hf] at hc
  obtain ⟨p, e⟩ := List.length_eq_one_iff.1 hc
  rw [e, all p (by rw [e]; exact List.mem_singleton.2 rfl)]
end Go.Proofs.Ytmjjbapahgejmaa.Rre
