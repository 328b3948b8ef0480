/-
  Plain facts of the program's way of region: a set's rectangles, and how rectangles in order are laid down as borders and rows.
-/
import Derived.Test.YtedlhfemmofbpaaRegSet
namespace Go.Proofs.Ytedlhfemmofbpaa.Reg
set_option linter.unusedVariables false

/-- A row's parts. -/
def pairs : List Int → Row
  | x :: y :: r => ⟨x, y, ()⟩ :: pairs r
  | _ => []
theorem pairs_mem : ∀ (l : List Int), ∀ p ∈ pairs l, p.a ∈ l ∧ p.b ∈ l
  | [], p, hp => absurd hp (by simp [pairs])
  | [x], p, hp => absurd hp (by simp [pairs])
  | x :: y :: r, p, hp => by
    rcases List.mem_cons.1 hp with rfl | hp
    · exact ⟨by simp, by simp⟩
    · obtain ⟨h1, h2⟩ := pairs_mem r p hp
      exact ⟨by simp [h1], by simp [h2]⟩
theorem pairs_ok : ∀ (l : List Int), rises l → okS (pairs l)
  | [], _ => trivial
  | [x], _ => trivial
  | x :: y :: r, h => by
    have h1 := List.pairwise_cons.1 h
    have h2 := List.pairwise_cons.1 h1.2
    refine ⟨h1.1 y (by simp), pairs_ok r h2.2, fun t ht => ?_⟩
    have hm : t ∈ pairs r := by
      cases hp : pairs r with
      | nil => rw [hp] at ht; exact absurd ht (by simp)
      | cons u v => rw [hp] at ht; simp at ht; rw [← ht]; simp
    have := h2.1 t.a (pairs_mem r t hm).1
    exact ⟨by simp only; omega, fun e => by simp only at e; omega⟩
theorem pairs_val : ∀ (l : List Int) (x : Int), rises l → l.length % 2 = 0 → (val (pairs l) x).isSome = oddB (pass l x)
  | [], x, _, _ => rfl
  | [y], x, _, h => absurd h (by simp)
  | a :: b :: r, x, h, he => by
    have h1 := List.pairwise_cons.1 h
    have h2 := List.pairwise_cons.1 h1.2
    have hab := h1.1 b (by simp)
    have ih := pairs_val r x h2.2 (by simp only [List.length_cons] at he; omega)
    show (if a ≤ x ∧ x < b then some () else val (pairs r) x).isSome = oddB (pass (a :: b :: r) x)
    by_cases ha : a ≤ x
    · rw [show pass (a :: b :: r) x = pass (b :: r) x + 1 from if_pos ha]
      by_cases hb : b ≤ x
      · rw [if_neg (by omega), ih, show pass (b :: r) x = pass r x + 1 from if_pos hb, oddB_succ, oddB_succ, Bool.not_not]
      · rw [if_pos (by omega), show pass (b :: r) x = 0 from pass_none fun z hz => by
          rcases List.mem_cons.1 hz with rfl | hz
          · omega
          · have := h2.1 z hz; omega]
        rfl
    · rw [if_neg (by omega), show pass (a :: b :: r) x = 0 from pass_none fun z hz => by
        rcases List.mem_cons.1 hz with rfl | hz
        · omega
        · have := h1.1 z hz; omega]
      rw [ih, show pass r x = 0 from pass_none fun z hz => by have := h1.1 z (by simp [hz]); omega]
theorem pairs_inj : ∀ (l m : List Int), l.length % 2 = 0 → m.length % 2 = 0 → pairs l = pairs m → l = m
  | [], [], _, _, _ => rfl
  | [], [x], _, h, _ => absurd h (by simp)
  | [], x :: y :: r, _, _, h => absurd h (by simp [pairs])
  | [x], _, h, _, _ => absurd h (by simp)
  | x :: y :: r, [], _, _, h => absurd h (by simp [pairs])
  | x :: y :: r, [a], _, h, _ => absurd h (by simp)
  | x :: y :: r, a :: b :: q, h1, h2, h => by
    have h3 := List.cons.inj (show (⟨x, y, ()⟩ : Seg Unit) :: pairs r = ⟨a, b, ()⟩ :: pairs q from h)
    have h4 := Seg.mk.inj h3.1
    rw [h4.1, h4.2.1, pairs_inj r q (by simp only [List.length_cons] at h1; omega) (by simp only [List.length_cons] at h2; omega) h3.2]
theorem pairs_none (l : List Int) (h : l.length % 2 = 0) (hn : pairs l = []) : l = [] := pairs_inj l [] h rfl hn
/-- A set's bands. -/
def bandsOf : Bnd → Bands
  | e :: e2 :: t => if e.2 = [] then bandsOf (e2 :: t) else ⟨e.1, e2.1, pairs e.2⟩ :: bandsOf (e2 :: t)
  | _ => []
theorem bandsOf_mem : ∀ (V : Bnd), ∀ s ∈ bandsOf V, ∃ e ∈ V, ∃ e2 ∈ V, s = ⟨e.1, e2.1, pairs e.2⟩ ∧ e.2 ≠ []
  | [], s, hs => absurd hs (by simp [bandsOf])
  | [e], s, hs => absurd hs (by simp [bandsOf])
  | e :: e2 :: t, s, hs => by
    have rest : s ∈ bandsOf (e2 :: t) → ∃ e' ∈ e :: e2 :: t, ∃ e3 ∈ e :: e2 :: t, s = ⟨e'.1, e3.1, pairs e'.2⟩ ∧ e'.2 ≠ [] := fun h => by
      obtain ⟨u, hu, u2, hu2, h3, h4⟩ := bandsOf_mem (e2 :: t) s h
      exact ⟨u, List.mem_cons_of_mem _ hu, u2, List.mem_cons_of_mem _ hu2, h3, h4⟩
    unfold bandsOf at hs
    split at hs
    · exact rest hs
    · rename_i hn
      rcases List.mem_cons.1 hs with rfl | hs
      · exact ⟨e, by simp, e2, by simp, rfl, hn⟩
      · exact rest hs
theorem bandsOf_head {e : Int × List Int} {t : Bnd} (h : rises ((e :: t).map (·.1))) : ∀ s ∈ (bandsOf (e :: t)).head?, e.1 ≤ s.a ∧ (s.a = e.1 → s.v = pairs e.2) := by
  intro s hs
  cases t with
  | nil => exact absurd hs (by simp [bandsOf])
  | cons e2 t =>
    have h1 := List.pairwise_cons.1 h
    unfold bandsOf at hs
    split at hs
    · have hm : s ∈ bandsOf (e2 :: t) := by
        cases hp : bandsOf (e2 :: t) with
        | nil => rw [hp] at hs; exact absurd hs (by simp)
        | cons u v => rw [hp] at hs; simp at hs; rw [← hs]; simp
      obtain ⟨u, hu, u2, hu2, rfl, _⟩ := bandsOf_mem _ s hm
      have := h1.1 u.1 (List.mem_map.2 ⟨u, hu, rfl⟩)
      simp only at this
      exact ⟨by simp only; omega, fun e => by simp only at e; omega⟩
    · simp at hs
      rw [← hs]
      exact ⟨Int.le_refl _, fun _ => rfl⟩
theorem bandsOf_ok : ∀ (V : Bnd) (d : List Int), rises (V.map (·.1)) → (∀ e ∈ V, e.2.length % 2 = 0) → alt d V → okS (bandsOf V)
  | [], _, _, _, _ => trivial
  | [e], _, _, _, _ => trivial
  | e :: e2 :: t, d, h, hev, hal => by
    have h1 := List.pairwise_cons.1 h
    have ih := bandsOf_ok (e2 :: t) e.2 h1.2 (fun q hq => hev q (List.mem_cons_of_mem _ hq)) hal.2
    unfold bandsOf
    split
    · exact ih
    · refine ⟨h1.1 e2.1 (by simp), ih, fun s hs => ?_⟩
      obtain ⟨k1, k2⟩ := bandsOf_head h1.2 s hs
      refine ⟨k1, fun he hv => ?_⟩
      have := k2 he.symm
      rw [this] at hv
      exact hal.2.1 (pairs_inj _ _ (hev e (by simp)) (hev e2 (by simp)) hv).symm
theorem bandsOf_val : ∀ (V : Bnd) (d : List Int) (y : Int), rises (V.map (·.1)) → lastV d V = [] → d = [] ∨ (∃ e ∈ V.head?, e.1 ≤ y) →
    (match val (bandsOf V) y with | none => [] | some p => p) = pairs (lastV d (upTo V y))
  | [], d, y, _, hl, _ => by
    have : d = [] := hl
    rw [this]; rfl
  | [e], d, y, _, hl, hd => by
    have he : e.2 = [] := hl
    by_cases hy : e.1 ≤ y
    · rw [show upTo [e] y = [e] by unfold upTo; rw [List.filter_cons_of_pos (by simpa using hy)]; rfl]
      show [] = pairs e.2
      rw [he]; rfl
    · rw [show upTo [e] y = [] by unfold upTo; rw [List.filter_cons_of_neg (by simpa using hy)]; rfl]
      rcases hd with rfl | ⟨q, hq, h⟩
      · rfl
      · simp at hq; rw [← hq] at h; exact absurd h hy
  | e :: e2 :: t, d, y, h, hl, hd => by
    have h1 := List.pairwise_cons.1 h
    have h2 := List.pairwise_cons.1 h1.2
    have h12 := h1.1 e2.1 (by simp)
    simp only at h12
    have from2 : ∀ s ∈ bandsOf (e2 :: t), e2.1 ≤ s.a := fun s hs => by
      obtain ⟨u, hu, u2, _, rfl, _⟩ := bandsOf_mem _ s hs
      rcases List.mem_cons.1 hu with rfl | hu
      · exact Int.le_refl _
      · have := h2.1 u.1 (List.mem_map.2 ⟨u, hu, rfl⟩); simp only at this ⊢; omega
    by_cases hy : e.1 ≤ y
    · have hup : upTo (e :: e2 :: t) y = e :: upTo (e2 :: t) y := by unfold upTo; rw [List.filter_cons_of_pos (by simpa using hy)]
      rw [hup]
      show _ = pairs (lastV e.2 (upTo (e2 :: t) y))
      by_cases hy2 : e2.1 ≤ y
      · have ih := bandsOf_val (e2 :: t) e.2 y h1.2 hl (.inr ⟨e2, by simp, hy2⟩)
        rw [← ih]
        by_cases h0 : e.2 = []
        · rw [show bandsOf (e :: e2 :: t) = bandsOf (e2 :: t) from if_pos h0]
        · rw [show val (bandsOf (e :: e2 :: t)) y = val (bandsOf (e2 :: t)) y by
            rw [show bandsOf (e :: e2 :: t) = ⟨e.1, e2.1, pairs e.2⟩ :: bandsOf (e2 :: t) from if_neg h0]
            exact if_neg (by simp only; omega)]
      · have hnone : upTo (e2 :: t) y = [] := by
          unfold upTo
          rw [List.filter_eq_nil_iff]
          intro q hq
          simp
          rcases List.mem_cons.1 hq with rfl | hq
          · omega
          · have := h2.1 q.1 (List.mem_map.2 ⟨q, hq, rfl⟩); simp only at this; omega
        rw [hnone]
        show _ = pairs e.2
        by_cases h0 : e.2 = []
        · rw [show bandsOf (e :: e2 :: t) = bandsOf (e2 :: t) from if_pos h0, val_none fun s hs hc => by have := from2 s hs; omega, h0]
          rfl
        · rw [show val (bandsOf (e :: e2 :: t)) y = some (pairs e.2) by
            rw [show bandsOf (e :: e2 :: t) = ⟨e.1, e2.1, pairs e.2⟩ :: bandsOf (e2 :: t) from if_neg h0]
            exact if_pos (by simp only; omega)]
    · have hd' : d = [] := by
        rcases hd with rfl | ⟨q, hq, h⟩
        · rfl
        · simp at hq; rw [← hq] at h; exact absurd h hy
      have hnone : upTo (e :: e2 :: t) y = [] := by
        unfold upTo
        rw [List.filter_eq_nil_iff]
        intro q hq
        simp
        rcases List.mem_cons.1 hq with rfl | hq
        · omega
        · have := h1.1 q.1 (List.mem_map.2 ⟨q, hq, rfl⟩); simp only at this; omega
      rw [hnone, hd']
      rw [val_none fun s hs hc => by
        obtain ⟨u, hu, u2, _, rfl, _⟩ := bandsOf_mem _ s hs
        rcases List.mem_cons.1 hu with rfl | hu
        · simp only at hc; omega
        · have := h1.1 u.1 (List.mem_map.2 ⟨u, hu, rfl⟩); simp only at this hc; omega]
      rfl
theorem Norm.bands {V : Bnd} (h : Norm V) : IsB (bandsOf V) ∧ ∀ x y, hasB (bandsOf V) x y = hasV V x y := by
  refine ⟨⟨bandsOf_ok V [] h.up (fun e he => (h.r e he).e) h.al, fun s hs => ?_, fun s hs => ?_, fun s hs p hp => ?_⟩, fun x y => ?_⟩
  · obtain ⟨e, he, e2, he2, rfl, hn⟩ := bandsOf_mem V s hs
    exact ⟨fun hp => hn (pairs_none _ (h.r e he).e hp), pairs_ok _ (h.rs e he)⟩
  · obtain ⟨e, he, e2, he2, rfl, hn⟩ := bandsOf_mem V s hs
    exact ⟨(h.n e he).1, (h.n e2 he2).2⟩
  · obtain ⟨e, he, e2, he2, rfl, hn⟩ := bandsOf_mem V s hs
    obtain ⟨h1, h2⟩ := pairs_mem _ p hp
    exact ⟨((h.r e he).n _ h1).1, ((h.r e he).n _ h2).2⟩
  · have hv := bandsOf_val V [] y h.up h.l (.inl rfl)
    have hr : rises (atV [] V y) ∧ (atV [] V y).length % 2 = 0 := by
      rw [h.at]
      exact ⟨lastV_mem (P := rises) List.Pairwise.nil fun e he => h.rs e (List.mem_of_mem_take he), (h.row _).e⟩
    unfold hasV
    rw [← pairs_val _ x hr.1 hr.2]
    show (match val (bandsOf V) y with | none => false | some p => (val p x).isSome) = (val (pairs (atV [] V y)) x).isSome
    rw [show pairs (atV [] V y) = (match val (bandsOf V) y with | none => [] | some p => p) from hv.symm]
    cases val (bandsOf V) y <;> rfl

/-! ### The rectangles, row by row -/
def bdN (V : Bnd) (j : Nat) : Int := ((V[j]?).map (·.1)).getD 0
def rowN (V : Bnd) (j : Nat) : List Int := ((V[j]?).map (·.2)).getD []
def recs1 (V : Bnd) (j : Nat) : List Rc := (pairs (rowN V j)).map fun p => ⟨p.a, bdN V j, p.b - p.a, bdN V (j + 1) - bdN V j⟩
def recsTo (V : Bnd) : Nat → List Rc
  | 0 => []
  | i + 1 => recsTo V i ++ recs1 V i
theorem recsTo_cons (e : Int × List Int) (V : Bnd) (i : Nat) : recsTo (e :: V) (i + 1) = recs1 (e :: V) 0 ++ recsTo V i := by
  induction i with
  | zero => simp [recsTo]
  | succ i ih =>
    show recsTo (e :: V) (i + 1) ++ recs1 (e :: V) (i + 1) = recs1 (e :: V) 0 ++ (recsTo V i ++ recs1 V i)
    rw [ih, List.append_assoc]
    rfl
theorem recs_flat : ∀ (V : Bnd), lastV [] V = [] → recsTo V V.length = flat (bandsOf V)
  | [], _ => rfl
  | [e], h => by
    have he : e.2 = [] := h
    show [] ++ recs1 [e] 0 = []
    unfold recs1
    rw [show rowN [e] 0 = e.2 from rfl, he]
    rfl
  | e :: e2 :: t, h => by
    have ih := recs_flat (e2 :: t) (by
      have h1 : lastV e.2 (e2 :: t) = [] := h
      exact h1)
    rw [List.length_cons, recsTo_cons, ih]
    have e1 : recs1 (e :: e2 :: t) 0 = (pairs e.2).map fun p => ⟨p.a, e.1, p.b - p.a, e2.1 - e.1⟩ := rfl
    rw [e1]
    by_cases h0 : e.2 = []
    · rw [show bandsOf (e :: e2 :: t) = bandsOf (e2 :: t) from if_pos h0, h0]
      rfl
    · rw [show bandsOf (e :: e2 :: t) = ⟨e.1, e2.1, pairs e.2⟩ :: bandsOf (e2 :: t) from if_neg h0]
      rfl
theorem pairs_len : ∀ (l : List Int), (pairs l).length = l.length / 2
  | [] => rfl
  | [x] => by simp [pairs]
  | x :: y :: r => by
    show (pairs r).length + 1 = _
    rw [pairs_len r]
    simp only [List.length_cons]
    omega
theorem recs1_len (V : Bnd) (j : Nat) : (recs1 V j).length = (rowN V j).length / 2 := by
  unfold recs1
  rw [List.length_map, pairs_len]
theorem recsTo_len {V : Bnd} {m : Nat} (h : ∀ e ∈ V, e.2.length ≤ m) (i : Nat) : (recsTo V i).length ≤ i * m := by
  induction i with
  | zero => simp [recsTo]
  | succ i ih =>
    show (recsTo V i ++ recs1 V i).length ≤ _
    rw [List.length_append, recs1_len, Nat.add_mul, Nat.one_mul]
    have : (rowN V i).length ≤ m := by
      unfold rowN
      cases hv : V[i]? with
      | none => simp
      | some e => exact h e (List.mem_of_getElem? hv)
    omega

/-! ### Rectangles in order are laid down -/
def nextOk (r s : Rc) : Prop := (s.y = r.y ∧ s.h = r.h ∧ r.x + r.w ≤ s.x) ∨ r.y + r.h ≤ s.y
def ord : List Rc → Prop
  | r :: s :: t => nextOk r s ∧ ord (s :: t)
  | _ => True
theorem ord.tail {r : Rc} {t : List Rc} (h : ord (r :: t)) : ord t := by
  cases t with
  | nil => trivial
  | cons s t => exact h.2
theorem ord.drop {a b : List Rc} (h : ord (a ++ b)) : ord b := by
  induction a with
  | nil => exact h
  | cons r t ih => exact ih (ord.tail h)
theorem ord_of : ∀ (l : List Rc), (∀ i, (h : i + 1 < l.length) → nextOk l[i] l[i + 1]) → ord l
  | [], _ => trivial
  | [r], _ => trivial
  | r :: s :: t, h => ⟨h 0 (by simp), ord_of (s :: t) fun i hi => h (i + 1) (by simp only [List.length_cons] at hi ⊢; omega)⟩
/-- What comes later is no higher. -/
theorem ord.later {r : Rc} {t : List Rc} (h : ord (r :: t)) (hc : ∀ s ∈ r :: t, counts s = true) : ∀ s ∈ t, r.y ≤ s.y := by
  induction t generalizing r with
  | nil => intro s hs; exact absurd hs (by simp)
  | cons u t ih =>
    have h1 : r.y ≤ u.y := by
      have := (counts_iff.1 (hc r (by simp))).2
      rcases h.1 with h2 | h2 <;> omega
    intro s hs
    rcases List.mem_cons.1 hs with rfl | hs
    · exact h1
    · have := ih h.2 (fun q hq => hc q (List.mem_cons_of_mem _ hq)) s hs
      omega
def rowL (g : List Rc) : List Int := g.flatMap fun r => [r.x, r.x + r.w]
theorem rowL_snoc (g : List Rc) (r : Rc) : rowL (g ++ [r]) = rowL g ++ [r.x, r.x + r.w] := by
  unfold rowL
  rw [List.flatMap_append]
  simp
theorem rowL_len (g : List Rc) : (rowL g).length = 2 * g.length := by
  induction g with
  | nil => rfl
  | cons r t ih =>
    show ([r.x, r.x + r.w] ++ rowL t).length = _
    rw [List.length_append, ih]
    simp
    omega
/-- A band of them. -/
theorem group {y : Int} : ∀ (g : List Rc) (rest : List Rc), ord (g ++ rest) → (∀ r ∈ g ++ rest, counts r = true) → (∀ r ∈ g, r.y = y) → (∀ r ∈ rest.head?, r.y ≠ y) → ∀ r0 ∈ g.head?,
    (∀ r ∈ g, r.h = r0.h ∧ r0.x ≤ r.x) ∧ sorted (rowL g) ∧ (∀ x ∈ rowL g, r0.x ≤ x) ∧ (∀ x, oddB (pass (rowL g) x) = g.any fun r => decide (r.x ≤ x ∧ x < r.x + r.w)) ∧ ∀ r ∈ rest, y + r0.h ≤ r.y
  | [], _, _, _, _, _, r0, h0 => absurd h0 (by simp)
  | [r], rest, ho, hc, hy, hr, r0, h0 => by
    obtain rfl : r = r0 := by simpa using h0
    have c := counts_iff.1 (hc r (by simp))
    have hry := hy r (by simp)
    refine ⟨fun q hq => ?_, ?_, fun x hx => ?_, fun x => ?_, fun q hq => ?_⟩
    · obtain rfl : q = r := by simpa using hq
      exact ⟨rfl, Int.le_refl _⟩
    · show sorted [r.x, r.x + r.w]
      unfold sorted
      simp
      omega
    · have : x = r.x ∨ x = r.x + r.w := by simpa [rowL] using hx
      omega
    · show oddB (pass [r.x, r.x + r.w] x) = _
      simp only [List.any_cons, List.any_nil, Bool.or_false]
      unfold pass pass pass
      by_cases h1 : r.x ≤ x
      · by_cases h2 : r.x + r.w ≤ x
        · rw [if_pos h1, if_pos h2, decide_eq_false (by omega)]; rfl
        · rw [if_pos h1, if_neg h2, decide_eq_true (by omega)]; rfl
      · rw [if_neg h1, if_neg (by omega), decide_eq_false (by omega)]; rfl
    · cases rest with
      | nil => exact absurd hq (by simp)
      | cons s t =>
        have h1 : y + r.h ≤ s.y := by
          have := hr s (by simp)
          rcases ho.1 with h2 | h2 <;> omega
        rcases List.mem_cons.1 hq with rfl | hq
        · exact h1
        · have := ord.later (ord.tail ho) (fun q hq => hc q (List.mem_cons_of_mem _ hq)) q hq
          omega
  | r :: s :: g, rest, ho, hc, hy, hr, r0, h0 => by
    obtain rfl : r = r0 := by simpa using h0
    obtain ⟨i1, i2, i3, i4, i5⟩ := group (s :: g) rest (ord.tail ho) (fun q hq => hc q (List.mem_cons_of_mem _ hq)) (fun q hq => hy q (List.mem_cons_of_mem _ hq)) hr s (by simp)
    have c := counts_iff.1 (hc r (by simp))
    have hry := hy r (by simp)
    have hsy := hy s (by simp)
    have hn : s.h = r.h ∧ r.x + r.w ≤ s.x := by
      rcases (show nextOk r s from ho.1) with h2 | h2
      · exact h2.2
      · omega
    have hrow : rowL (r :: s :: g) = r.x :: (r.x + r.w) :: rowL (s :: g) := rfl
    refine ⟨fun q hq => ?_, ?_, fun x hx => ?_, fun x => ?_, fun q hq => ?_⟩
    · rcases List.mem_cons.1 hq with rfl | hq
      · exact ⟨rfl, Int.le_refl _⟩
      · have := i1 q hq
        exact ⟨this.1.trans hn.1, by omega⟩
    · rw [hrow]
      refine List.pairwise_cons.2 ⟨fun x hx => ?_, List.pairwise_cons.2 ⟨fun x hx => ?_, i2⟩⟩
      · rcases List.mem_cons.1 hx with rfl | hx
        · omega
        · have := i3 x hx; omega
      · have := i3 x hx; omega
    · rw [hrow] at hx
      rcases List.mem_cons.1 hx with rfl | hx
      · exact Int.le_refl _
      · rcases List.mem_cons.1 hx with rfl | hx
        · omega
        · have := i3 x hx; omega
    · rw [hrow, List.any_cons, ← i4 x]
      have none : x < r.x + r.w → pass (rowL (s :: g)) x = 0 := fun hx => pass_none fun q hq => by have := i3 q hq; omega
      generalize rowL (s :: g) = M at *
      by_cases h1 : r.x ≤ x
      · rw [show pass (r.x :: (r.x + r.w) :: M) x = pass ((r.x + r.w) :: M) x + 1 from if_pos h1]
        by_cases h2 : r.x + r.w ≤ x
        · rw [show pass ((r.x + r.w) :: M) x = pass M x + 1 from if_pos h2, decide_eq_false (by omega), oddB_succ, oddB_succ, Bool.not_not, Bool.false_or]
        · rw [show pass ((r.x + r.w) :: M) x = pass M x from if_neg h2, none (by omega), decide_eq_true (by omega)]; rfl
      · rw [show pass (r.x :: (r.x + r.w) :: M) x = pass ((r.x + r.w) :: M) x from if_neg h1, show pass ((r.x + r.w) :: M) x = pass M x from if_neg (by omega), decide_eq_false (by omega), Bool.false_or]
    · have := i5 q hq
      rw [hn.1] at this
      exact this
/-- What is laid down so far. -/
structure Laid (V : Bnd) (D R : List Rc) : Prop extends Okb V where
  up : ∀ e ∈ V, ∀ r ∈ R, e.1 ≤ r.y
  has : ∀ x y, hasV V x y = hasL D x y
  n1 : V.length ≤ 2 * D.length
  n2 : ∀ e ∈ V, e.2.length ≤ 2 * D.length
theorem Laid.nil (R : List Rc) : Laid [] [] R := ⟨⟨List.Pairwise.nil, fun e h => absurd h (by simp), fun e h => absurd h (by simp), rfl⟩, fun e h => absurd h (by simp), fun _ _ => rfl, by simp, fun e h => absurd h (by simp)⟩
theorem upTo_append {τ : Type} (S R : List (Int × τ)) (z : Int) : upTo (S ++ R) z = upTo S z ++ upTo R z := List.filter_append ..
theorem Laid.band {V : Bnd} {D g R : List Rc} {r0 : Rc} (h : Laid V D (g ++ R)) (ho : ord (g ++ R)) (hc : ∀ r ∈ g ++ R, counts r = true) (hy : ∀ r ∈ g, r.y = r0.y) (hr : ∀ r ∈ R.head?, r.y ≠ r0.y) (h0 : r0 ∈ g.head?) :
    Laid (V ++ [(r0.y, rowL g)] ++ [(r0.y + r0.h, [])]) (D ++ g) R := by
  obtain ⟨i1, i2, i3, i4, i5⟩ := group g R ho hc hy hr r0 h0
  have hm : r0 ∈ g := by
    cases g with
    | nil => exact absurd h0 (by simp)
    | cons u v => obtain rfl : u = r0 := by simpa using h0
                  simp
  have c := counts_iff.1 (hc r0 (by simp [hm]))
  have hV : ∀ e ∈ V, e.1 ≤ r0.y := fun e he => h.up e he r0 (by simp [hm])
  have hlen : 1 ≤ g.length := List.length_pos_of_mem hm
  rw [List.append_assoc]
  show Laid (V ++ [(r0.y, rowL g), (r0.y + r0.h, [])]) (D ++ g) R
  refine ⟨⟨?_, fun e he => ?_, fun e he => ?_, ?_⟩, fun e he r hrR => ?_, fun x y => ?_, by simp; have := h.n1; omega, fun e he => ?_⟩
  · rw [List.map_append]
    refine List.pairwise_append.2 ⟨h.s, ?_, fun a ha b hb => ?_⟩
    · refine List.pairwise_cons.2 ⟨fun x hx => ?_, List.pairwise_singleton _ _⟩
      have : x = r0.y + r0.h := by simpa using hx
      simp only; omega
    · obtain ⟨e, he, rfl⟩ := List.mem_map.1 ha
      have := hV e he
      have : b = r0.y ∨ b = r0.y + r0.h := by simpa using hb
      skip
      omega
  · rcases List.mem_append.1 he with he | he
    · exact h.n e he
    · have : e = (r0.y, rowL g) ∨ e = (r0.y + r0.h, []) := by simpa using he
      rcases this with rfl | rfl <;> simp only <;> omega
  · rcases List.mem_append.1 he with he | he
    · exact h.r e he
    · have : e = (r0.y, rowL g) ∨ e = (r0.y + r0.h, []) := by simpa using he
      rcases this with rfl | rfl
      · refine ⟨i2, ?_, fun x hx => ?_⟩
        · simp only; rw [rowL_len]; omega
        · obtain ⟨r, hr1, hr2⟩ := List.mem_flatMap.1 hx
          have c := counts_iff.1 (hc r (by simp [hr1]))
          have : x = r.x ∨ x = r.x + r.w := by simpa using hr2
          omega
      · exact Even.nil
  · rw [lastV_append]; rfl
  · have hg := i5 r hrR
    rcases List.mem_append.1 he with he | he
    · exact h.up e he r (by simp [hrR])
    · have : e = (r0.y, rowL g) ∨ e = (r0.y + r0.h, []) := by simpa using he
      rcases this with rfl | rfl <;> simp only <;> omega
  · rw [hasL_append, ← h.has]
    have hgL : hasL g x y = (decide (r0.y ≤ y ∧ y < r0.y + r0.h) && g.any fun r => decide (r.x ≤ x ∧ x < r.x + r.w)) := by
      rw [Bool.eq_iff_iff, hasL_iff, Bool.and_eq_true, List.any_eq_true]
      simp only [decide_eq_true_eq]
      constructor
      · rintro ⟨r, hr, _, h1, h2, h3, h4⟩
        have e1 := hy r hr
        have e2 := (i1 r hr).1
        exact ⟨by omega, r, hr, h1, h2⟩
      · rintro ⟨h3, r, hr, h1, h2⟩
        have e1 := hy r hr
        have e2 := (i1 r hr).1
        exact ⟨r, hr, hc r (by simp [hr]), h1, h2, by omega, by omega⟩
    rw [hgL, ← i4 x]
    unfold hasV atV
    rw [upTo_append]
    have full : r0.y ≤ y → upTo V y = V := fun hle => by
      unfold upTo
      rw [List.filter_eq_self]
      intro e he
      have := hV e he
      simp
      omega
    by_cases h1 : r0.y ≤ y
    · rw [full h1, lastV_append, h.l]
      by_cases h2 : r0.y + r0.h ≤ y
      · rw [show upTo [(r0.y, rowL g), (r0.y + r0.h, [])] y = [(r0.y, rowL g), (r0.y + r0.h, [])] by
          unfold upTo; rw [List.filter_cons_of_pos (by simpa using h1), List.filter_cons_of_pos (by simpa using h2)]; rfl]
        rw [decide_eq_false (by omega), Bool.false_and, Bool.or_false]
        rfl
      · rw [show upTo [(r0.y, rowL g), (r0.y + r0.h, ([] : List Int))] y = [(r0.y, rowL g)] by
          unfold upTo; rw [List.filter_cons_of_pos (by simpa using h1), List.filter_cons_of_neg (by simpa using h2)]; rfl]
        rw [decide_eq_true (show r0.y ≤ y ∧ y < r0.y + r0.h by omega), Bool.true_and]
        rw [show oddB (pass ([] : List Int) x) = false from rfl, Bool.false_or]
        rfl
    · rw [show upTo [(r0.y, rowL g), (r0.y + r0.h, ([] : List Int))] y = [] by
        unfold upTo; rw [List.filter_cons_of_neg (by simpa using h1), List.filter_cons_of_neg (by simp; omega)]; rfl]
      rw [List.append_nil, decide_eq_false (by omega), Bool.false_and, Bool.or_false]
  · rw [List.length_append]
    rcases List.mem_append.1 he with he | he
    · have := h.n2 e he; omega
    · have : e = (r0.y, rowL g) ∨ e = (r0.y + r0.h, []) := by simpa using he
      rcases this with rfl | rfl
      · simp only; rw [rowL_len]; omega
      · simp
end Go.Proofs.Ytedlhfemmofbpaa.Reg
