/-
  Regions that are moved: plain facts.
-/
import Derived.Test.YtedlhfemmofbpaaRegSays
namespace Go.Proofs.Ytedlhfemmofbpaa.Reg
set_option linter.unusedVariables false

def mvS (d : Int) {α β : Type} (g : α → β) (s : Seg α) : Seg β := ⟨s.a + d, s.b + d, g s.v⟩
theorem okS.move {α β : Type} {L : List (Seg α)} (h : okS L) (d : Int) (g : α → β) (hg : ∀ x y, g x = g y → x = y) : okS (L.map (mvS d g)) := by
  induction L with
  | nil => exact trivial
  | cons s r ih =>
    refine ⟨by have := h.1; show s.a + d < s.b + d; omega, ih h.2.1, fun t ht => ?_⟩
    cases r with
    | nil => simp at ht
    | cons u r =>
      obtain rfl : mvS d g u = t := by simpa using ht
      have h1 := h.2.2 u (by simp)
      refine ⟨by have := h1.1; show s.b + d ≤ u.a + d; omega, fun e => ?_⟩
      have e' : s.b + d = u.a + d := e
      exact fun h2 => h1.2 (by omega) (hg _ _ h2)
theorem mvS_inj (d : Int) {α β : Type} (g : α → β) (hg : ∀ x y, g x = g y → x = y) (s t : Seg α) (h : mvS d g s = mvS d g t) : s = t := by
  have h1 := congrArg Seg.a h
  have h2 := congrArg Seg.b h
  have h3 := congrArg Seg.v h
  simp only [mvS] at h1 h2 h3
  exact Seg.eq (by omega) (by omega) (hg _ _ h3)
def mvR (dx : Int) (p : Row) : Row := p.map (mvS dx id)
def mvB (dx dy : Int) (B : Bands) : Bands := B.map (mvS dy (mvR dx))
theorem mvR_inj (dx : Int) (p q : Row) (h : mvR dx p = mvR dx q) : p = q := by
  unfold mvR at h
  exact (List.map_inj_right (fun x y => mvS_inj dx id (fun _ _ h => h) x y)).1 h
theorem mvB_flat (dx dy : Int) (B : Bands) : flat (mvB dx dy B) = (flat B).map (moved dx dy) := by
  unfold flat mvB
  rw [List.flatMap_map, List.map_flatMap]
  refine congrArg (fun f => List.flatMap f B) (funext fun s => ?_)
  unfold flat1 mvS mvR
  simp only [List.map_map]
  refine List.map_congr_left fun p _ => ?_
  simp only [Function.comp, mvS, moved]
  exact Rc.eq rfl rfl (by show p.b + dx - (p.a + dx) = p.b - p.a; omega) (by show s.b + dy - (s.a + dy) = s.b - s.a; omega)
/-- All places lie within p of nought. -/
def Within (p : Int) (l : List Rc) : Prop := ∀ x y, hasL l x y = true → -p ≤ x ∧ x < p ∧ -p ≤ y ∧ y < p
theorem IsB.places {B : Bands} (H : IsB B) {p : Int} (hp : Within p (flat B)) {s : Seg Row} (hs : s ∈ B) {t : Seg Unit} (ht : t ∈ s.v) : -p ≤ t.a ∧ t.b ≤ p ∧ -p ≤ s.a ∧ s.b ≤ p := by
  have h0 : (⟨t.a, s.a, t.b - t.a, s.b - s.a⟩ : Rc) ∈ flat B := mem_flat.2 ⟨s, hs, t, ht, rfl⟩
  have hc := H.counts _ h0
  have hc' := counts_iff.1 hc
  simp only at hc'
  have h1 := hp t.a s.a (hasL_iff.2 ⟨_, h0, hc, by simp only; omega, by simp only; omega, by simp only; omega, by simp only; omega⟩)
  have h2 := hp (t.b - 1) (s.b - 1) (hasL_iff.2 ⟨_, h0, hc, by simp only; omega, by simp only; omega, by simp only; omega, by simp only; omega⟩)
  omega
theorem IsB.move {B : Bands} (H : IsB B) {p dx dy : Int} (hp : Within p (flat B)) (h1 : p + dx ≤ 1048576) (h2 : p - dx ≤ 1048576) (h3 : p + dy ≤ 1048576) (h4 : p - dy ≤ 1048576) : IsB (mvB dx dy B) := by
  refine ⟨H.ok.move dy _ (mvR_inj dx), fun s hs => ?_, fun s hs => ?_, fun s hs t ht => ?_⟩
  · obtain ⟨u, hu, rfl⟩ := List.mem_map.1 hs
    obtain ⟨g1, g2⟩ := H.rows u hu
    refine ⟨fun e => g1 ?_, g2.move dx id fun _ _ h => h⟩
    have e' : mvR dx u.v = [] := e
    unfold mvR at e'
    exact List.map_eq_nil_iff.1 e'
  · obtain ⟨u, hu, rfl⟩ := List.mem_map.1 hs
    obtain ⟨t, ht⟩ := List.exists_mem_of_ne_nil _ (H.rows u hu).1
    have := H.places hp hu ht
    show -1048576 ≤ u.a + dy ∧ u.b + dy ≤ 1048576
    omega
  · obtain ⟨u, hu, rfl⟩ := List.mem_map.1 hs
    obtain ⟨q, hq, rfl⟩ := List.mem_map.1 (show t ∈ u.v.map (mvS dx id) from ht)
    have := H.places hp hu hq
    show -1048576 ≤ q.a + dx ∧ q.b + dx ≤ 1048576
    omega
theorem shiftL_near {l : List Rc} {p dx dy : Int} (hp : Within p l) (h1 : p + dx ≤ 1048576) (h2 : p - dx ≤ 1048576) (h3 : p + dy ≤ 1048576) (h4 : p - dy ≤ 1048576) (h5 : 0 ≤ p) : shiftL l dx dy = (make l).map (moved dx dy) ∧ ∃ B, IsB B ∧ (make l).map (moved dx dy) = flat B := by
  have H : IsB (comb fOr l []) := comb_form rfl l []
  have hp' : Within p (flat (comb fOr l [])) := fun x y h => hp x y (by rw [← make_has]; exact h)
  have HM := H.move hp' h1 h2 h3 h4
  have e : (make l).map (moved dx dy) = flat (mvB dx dy (comb fOr l [])) := (mvB_flat dx dy _).symm
  refine ⟨?_, _, HM, e⟩
  unfold shiftL
  rw [if_neg (by omega), e, make_form HM]
theorem area_moved (dx dy : Int) (l : List Rc) : areaL (l.map (moved dx dy)) = areaL l := by
  induction l with
  | nil => rfl
  | cons r l ih => simp only [List.map_cons, areaL, ih, moved]
theorem shift_area {l : List Rc} {p dx dy : Int} (hp : Within p l) (h1 : p + dx ≤ 1048576) (h2 : p - dx ≤ 1048576) (h3 : p + dy ≤ 1048576) (h4 : p - dy ≤ 1048576) (h5 : 0 ≤ p) : areaL (make (shiftL l dx dy)) = areaL (make l) := by
  obtain ⟨e, B, HB, eB⟩ := shiftL_near hp h1 h2 h3 h4 h5
  rw [e, eB, make_form HB, ← eB, area_moved]
theorem shift_has {l : List Rc} {p dx dy : Int} (hp : Within p l) (h1 : p + dx ≤ 1048576) (h2 : p - dx ≤ 1048576) (h3 : p + dy ≤ 1048576) (h4 : p - dy ≤ 1048576) (h5 : 0 ≤ p) (x y : Int) : hasL (shiftL l dx dy) (x + dx) (y + dy) = hasL l x y := by
  obtain ⟨e, B, HB, eB⟩ := shiftL_near hp h1 h2 h3 h4 h5
  rw [e, ← make_has l, Bool.eq_iff_iff, hasL_iff, hasL_iff]
  constructor
  · rintro ⟨r, hr, _, g⟩
    obtain ⟨s, hs, rfl⟩ := List.mem_map.1 hr
    simp only [moved] at g
    exact ⟨s, hs, (comb_form (f := fOr) rfl l []).counts s hs, by omega⟩
  · rintro ⟨s, hs, _, g⟩
    have hm : moved dx dy s ∈ (make l).map (moved dx dy) := List.mem_map.2 ⟨s, hs, rfl⟩
    refine ⟨_, hm, HB.counts _ (by rw [← eB]; exact hm), ?_⟩
    simp only [moved]
    omega
theorem shift_back {l : List Rc} {p dx dy : Int} (hp : Within p l) (h1 : p + dx ≤ 1048576) (h2 : p - dx ≤ 1048576) (h3 : p + dy ≤ 1048576) (h4 : p - dy ≤ 1048576) (h5 : 0 ≤ p) : shiftL (shiftL l dx dy) (-dx) (-dy) = make l := by
  obtain ⟨e, B, HB, eB⟩ := shiftL_near hp h1 h2 h3 h4 h5
  have h6 : make (shiftL l dx dy) = shiftL l dx dy := by rw [e, eB, make_form HB]
  rw [show shiftL (shiftL l dx dy) (-dx) (-dy) = make ((make (shiftL l dx dy)).map (moved (-dx) (-dy))) from by
    conv => lhs; unfold shiftL
    rw [if_neg (by omega)]
    rfl, h6, e, List.map_map]
  rw [show (moved (-dx) (-dy) ∘ moved dx dy) = id from funext fun r => Rc.eq (by show r.x + dx + -dx = r.x; omega) (by show r.y + dy + -dy = r.y; omega) rfl rfl, List.map_id]
  exact make_form (comb_form rfl l [])
end Go.Proofs.Ytedlhfemmofbpaa.Reg
