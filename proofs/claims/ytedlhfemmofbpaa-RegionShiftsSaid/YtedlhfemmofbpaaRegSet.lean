/-
  Plain facts of the program's way of region: borders of two lists side by side, and what is joined along them. Nothing of the program is named here.
-/
import Derived.Test.YtedlhfemmofbpaaRegMath
namespace Go.Proofs.Ytedlhfemmofbpaa.Reg
set_option linter.unusedVariables false

/-- How many of a list are not behind a place. -/
def pass : List Int → Int → Nat
  | [], _ => 0
  | x :: r, z => if x ≤ z then pass r z + 1 else pass r z
def sorted (l : List Int) : Prop := l.Pairwise (· ≤ ·)
/-- The least of two lists that are in order. -/
def firstV : List Int → List Int → Int
  | [], [] => 0
  | [], y :: _ => y
  | x :: _, [] => x
  | x :: _, y :: _ => if y < x then y else x
/-- How many at the beginning are at a place. -/
def sameV : List Int → Int → Nat
  | [], _ => 0
  | x :: r, z => if x = z then sameV r z + 1 else 0
theorem sameV_le (l : List Int) (z : Int) : sameV l z ≤ l.length := by
  induction l with
  | nil => exact Nat.le_refl _
  | cons x r ih =>
    unfold sameV
    split
    · simp; exact ih
    · exact Nat.zero_le _
theorem pass_le (l : List Int) (z : Int) : pass l z ≤ l.length := by
  induction l with
  | nil => exact Nat.le_refl _
  | cons x r ih =>
    unfold pass
    split
    · simp; exact ih
    · simp; omega
theorem pass_none {l : List Int} {z : Int} (h : ∀ x ∈ l, z < x) : pass l z = 0 := by
  induction l with
  | nil => rfl
  | cons x r ih =>
    have := h x (by simp)
    unfold pass
    rw [if_neg (by omega)]
    exact ih fun y hy => h y (List.mem_cons_of_mem _ hy)
theorem pass_all {l : List Int} {z : Int} (h : ∀ x ∈ l, x ≤ z) : pass l z = l.length := by
  induction l with
  | nil => rfl
  | cons x r ih =>
    have := h x (by simp)
    unfold pass
    rw [if_pos (by omega), ih fun y hy => h y (List.mem_cons_of_mem _ hy)]
    rfl
theorem pass_append (l m : List Int) (z : Int) : pass (l ++ m) z = pass l z + pass m z := by
  induction l with
  | nil => simp [pass]
  | cons x r ih =>
    rw [List.cons_append]
    show (if x ≤ z then pass (r ++ m) z + 1 else pass (r ++ m) z) = (if x ≤ z then pass r z + 1 else pass r z) + pass m z
    rw [ih]
    split <;> omega
theorem pass_drop {l : List Int} {z0 z : Int} (h : z0 ≤ z) : pass l z = sameV l z0 + pass (l.drop (sameV l z0)) z := by
  induction l with
  | nil => rfl
  | cons x r ih =>
    by_cases hx : x = z0
    · have e : sameV (x :: r) z0 = sameV r z0 + 1 := by show (if x = z0 then _ else _) = _; rw [if_pos hx]
      rw [e, List.drop_succ_cons, show pass (x :: r) z = pass r z + 1 by show (if x ≤ z then _ else _) = _; rw [if_pos (by omega)], ih]
      omega
    · have e : sameV (x :: r) z0 = 0 := by show (if x = z0 then _ else _) = _; rw [if_neg hx]
      rw [e, List.drop_zero, Nat.zero_add]
theorem same_past {l : List Int} {z0 : Int} (hs : sorted l) (h : ∀ x ∈ l, z0 ≤ x) : ∀ x ∈ l.drop (sameV l z0), z0 < x := by
  induction l with
  | nil => intro x hx; simp at hx
  | cons x r ih =>
    have h1 := List.pairwise_cons.1 hs
    by_cases hx : x = z0
    · have e : sameV (x :: r) z0 = sameV r z0 + 1 := by show (if x = z0 then _ else _) = _; rw [if_pos hx]
      rw [e, List.drop_succ_cons]
      exact ih h1.2 fun y hy => h y (List.mem_cons_of_mem _ hy)
    · have e : sameV (x :: r) z0 = 0 := by show (if x = z0 then _ else _) = _; rw [if_neg hx]
      rw [e, List.drop_zero]
      intro y hy
      have := h x (by simp)
      rcases List.mem_cons.1 hy with rfl | hy
      · omega
      · have := h1.1 y hy; omega
theorem sorted.drop {l : List Int} (h : sorted l) (n : Nat) : sorted (l.drop n) := List.Pairwise.sublist (List.drop_sublist _ _) h
theorem first_le {a b : List Int} (ha : sorted a) (hb : sorted b) : (∀ x ∈ a, firstV a b ≤ x) ∧ (∀ x ∈ b, firstV a b ≤ x) := by
  cases a with
  | nil =>
    cases b with
    | nil => exact ⟨fun x hx => absurd hx (by simp), fun x hx => absurd hx (by simp)⟩
    | cons y q =>
      refine ⟨fun x hx => absurd hx (by simp), fun x hx => ?_⟩
      show y ≤ x
      rcases List.mem_cons.1 hx with rfl | hx
      · exact Int.le_refl _
      · exact (List.pairwise_cons.1 hb).1 x hx
  | cons x r =>
    have h1 : ∀ u ∈ x :: r, x ≤ u := fun u hu => by
      rcases List.mem_cons.1 hu with rfl | hu
      · exact Int.le_refl _
      · exact (List.pairwise_cons.1 ha).1 u hu
    cases b with
    | nil => exact ⟨h1, fun x hx => absurd hx (by simp)⟩
    | cons y q =>
      have h2 : ∀ u ∈ y :: q, y ≤ u := fun u hu => by
        rcases List.mem_cons.1 hu with rfl | hu
        · exact Int.le_refl _
        · exact (List.pairwise_cons.1 hb).1 u hu
      have e : firstV (x :: r) (y :: q) = if y < x then y else x := rfl
      rw [e]
      refine ⟨fun u hu => ?_, fun u hu => ?_⟩
      · have := h1 u hu
        split <;> omega
      · have := h2 u hu
        split <;> omega
theorem first_mem {a b : List Int} (h : ¬ (a = [] ∧ b = [])) : firstV a b ∈ a ∨ firstV a b ∈ b := by
  cases a with
  | nil =>
    cases b with
    | nil => exact absurd ⟨rfl, rfl⟩ h
    | cons y q => exact .inr (by simp [firstV])
  | cons x r =>
    cases b with
    | nil => exact .inl (by simp [firstV])
    | cons y q =>
      by_cases hc : y < x
      · right
        rw [show firstV (x :: r) (y :: q) = y from if_pos hc]
        simp
      · left
        rw [show firstV (x :: r) (y :: q) = x from if_neg hc]
        simp
theorem first_some {a b : List Int} (h : ¬ (a = [] ∧ b = [])) : 1 ≤ sameV a (firstV a b) + sameV b (firstV a b) := by
  have one : ∀ (x : Int) (r : List Int), 1 ≤ sameV (x :: r) x := fun x r => by
    show 1 ≤ (if x = x then sameV r x + 1 else 0)
    rw [if_pos rfl]; omega
  cases a with
  | nil =>
    cases b with
    | nil => exact absurd ⟨rfl, rfl⟩ h
    | cons y q =>
      rw [show firstV [] (y :: q) = y from rfl]
      have := one y q
      omega
  | cons x r =>
    cases b with
    | nil =>
      rw [show firstV (x :: r) [] = x from rfl]
      have := one x r
      omega
    | cons y q =>
      by_cases hc : y < x
      · rw [show firstV (x :: r) (y :: q) = y from if_pos hc]
        have := one y q
        omega
      · rw [show firstV (x :: r) (y :: q) = x from if_neg hc]
        have := one x r
        omega

/-- A border, and how many of both lists are passed there. -/
structure Stp where
  z : Int
  i : Nat
  j : Nat
/-- The borders of two lists, side by side. -/
def run : Nat → List Int → List Int → Nat → Nat → List Stp
  | 0, _, _, _, _ => []
  | n + 1, a, b, i, j => if a = [] ∧ b = [] then [] else
      ⟨firstV a b, i + sameV a (firstV a b), j + sameV b (firstV a b)⟩ :: run n (a.drop (sameV a (firstV a b))) (b.drop (sameV b (firstV a b))) (i + sameV a (firstV a b)) (j + sameV b (firstV a b))
theorem run_nil (n i j : Nat) : run n [] [] i j = [] := by
  cases n with
  | zero => rfl
  | succ n => exact if_pos ⟨rfl, rfl⟩
theorem run_step {f : Nat} {a b : List Int} {i j : Nat} (h : ¬ (a = [] ∧ b = [])) (hf : a.length + b.length ≤ f) : ∃ f', f = f' + 1 ∧
    run f a b i j = ⟨firstV a b, i + sameV a (firstV a b), j + sameV b (firstV a b)⟩ :: run f' (a.drop (sameV a (firstV a b))) (b.drop (sameV b (firstV a b))) (i + sameV a (firstV a b)) (j + sameV b (firstV a b)) := by
  cases f with
  | zero => exact absurd ⟨List.length_eq_zero_iff.1 (by omega), List.length_eq_zero_iff.1 (by omega)⟩ h
  | succ f' => exact ⟨f', rfl, if_neg h⟩
/-- What holds at the end of some entries. -/
def lastV {τ : Type} (d : τ) : List (Int × τ) → τ
  | [] => d
  | e :: r => lastV e.2 r
theorem lastV_append {τ : Type} (d : τ) (S R : List (Int × τ)) : lastV d (S ++ R) = lastV (lastV d S) R := by
  induction S generalizing d with
  | nil => rfl
  | cons e r ih => exact ih e.2
theorem lastV_snoc {τ : Type} (d : τ) (S : List (Int × τ)) (e : Int × τ) : lastV d (S ++ [e]) = e.2 := lastV_append d S [e]
/-- Two neighbours are never the same. -/
def alt {τ : Type} (d : τ) : List (Int × τ) → Prop
  | [] => True
  | e :: r => e.2 ≠ d ∧ alt e.2 r
theorem alt_append {τ : Type} (d : τ) (S R : List (Int × τ)) : alt d (S ++ R) ↔ alt d S ∧ alt (lastV d S) R := by
  induction S generalizing d with
  | nil => simp [alt, lastV]
  | cons e r ih =>
    rw [List.cons_append]
    show (e.2 ≠ d ∧ alt e.2 (r ++ R)) ↔ (e.2 ≠ d ∧ alt e.2 r) ∧ alt (lastV e.2 r) R
    rw [ih, and_assoc]
/-- One more border. -/
def stepJ {τ : Type} [DecidableEq τ] (T : Nat → Nat → τ) (d : τ) (S : List (Int × τ)) (s : Stp) : List (Int × τ) :=
  if T s.i s.j = lastV d S then S else S ++ [(s.z, T s.i s.j)]
def foldJ {τ : Type} [DecidableEq τ] (T : Nat → Nat → τ) (d : τ) (S : List (Int × τ)) (L : List Stp) : List (Int × τ) := L.foldl (stepJ T d) S
theorem foldJ_snoc {τ : Type} [DecidableEq τ] (T : Nat → Nat → τ) (d : τ) (S : List (Int × τ)) (L : List Stp) (s : Stp) : foldJ T d S (L ++ [s]) = stepJ T d (foldJ T d S L) s := by
  unfold foldJ
  rw [List.foldl_append]
  rfl
theorem stepJ_last {τ : Type} [DecidableEq τ] (T : Nat → Nat → τ) (d : τ) (S : List (Int × τ)) (s : Stp) : lastV d (stepJ T d S s) = T s.i s.j := by
  unfold stepJ
  split
  · rename_i h; exact h.symm
  · exact lastV_snoc _ _ _
theorem stepJ_alt {τ : Type} [DecidableEq τ] (T : Nat → Nat → τ) (d : τ) {S : List (Int × τ)} (h : alt d S) (s : Stp) : alt d (stepJ T d S s) := by
  unfold stepJ
  split
  · exact h
  · rename_i hn
    exact (alt_append _ _ _).2 ⟨h, hn, trivial⟩
theorem stepJ_length {τ : Type} [DecidableEq τ] (T : Nat → Nat → τ) (d : τ) (S : List (Int × τ)) (s : Stp) : (stepJ T d S s).length ≤ S.length + 1 := by
  unfold stepJ
  split
  · omega
  · simp
theorem foldJ_alt {τ : Type} [DecidableEq τ] (T : Nat → Nat → τ) (d : τ) {S : List (Int × τ)} (h : alt d S) (L : List Stp) : alt d (foldJ T d S L) := by
  induction L generalizing S with
  | nil => exact h
  | cons s r ih => exact ih (stepJ_alt T d h s)
theorem foldJ_length {τ : Type} [DecidableEq τ] (T : Nat → Nat → τ) (d : τ) (S : List (Int × τ)) (L : List Stp) : (foldJ T d S L).length ≤ S.length + L.length := by
  induction L generalizing S with
  | nil => exact Nat.le_refl _
  | cons s r ih =>
    have h1 := ih (stepJ T d S s)
    have h2 := stepJ_length T d S s
    show (foldJ T d (stepJ T d S s) r).length ≤ _
    simp only [List.length_cons]
    omega
/-- Entries that are not behind a place. -/
def upTo {τ : Type} (S : List (Int × τ)) (z : Int) : List (Int × τ) := S.filter fun e => decide (e.1 ≤ z)
def atV {τ : Type} (d : τ) (S : List (Int × τ)) (z : Int) : τ := lastV d (upTo S z)
/-- WHAT IS JOINED ALONG THE BORDERS. -/
theorem fold_run {τ : Type} [DecidableEq τ] (T : Nat → Nat → τ) (d : τ) (n : Nat) : ∀ (a b : List Int) (i j : Nat) (S : List (Int × τ)), sorted a → sorted b → a.length + b.length ≤ n → lastV d S = T i j →
    ∃ t, foldJ T d S (run n a b i j) = S ++ t ∧ rises (t.map (·.1)) ∧ (∀ e ∈ t, (e.1 ∈ a ∨ e.1 ∈ b) ∧ ∃ i j, e.2 = T i j) ∧ alt (lastV d S) t ∧
      (∀ z, lastV (lastV d S) (upTo t z) = T (i + pass a z) (j + pass b z)) ∧ lastV (lastV d S) t = T (i + a.length) (j + b.length) ∧ t.length ≤ a.length + b.length := by
  have stop : ∀ (n : Nat) (a b : List Int) (i j : Nat) (S : List (Int × τ)), run n a b i j = [] → a = [] → b = [] → lastV d S = T i j →
      ∃ t, foldJ T d S (run n a b i j) = S ++ t ∧ rises (t.map (·.1)) ∧ (∀ e ∈ t, (e.1 ∈ a ∨ e.1 ∈ b) ∧ ∃ i j, e.2 = T i j) ∧ alt (lastV d S) t ∧
      (∀ z, lastV (lastV d S) (upTo t z) = T (i + pass a z) (j + pass b z)) ∧ lastV (lastV d S) t = T (i + a.length) (j + b.length) ∧ t.length ≤ a.length + b.length := by
    rintro n a b i j S hr rfl rfl h
    rw [hr]
    exact ⟨[], by simp [foldJ], List.Pairwise.nil, fun e he => absurd he (by simp), trivial, fun z => h, h, Nat.le_refl _⟩
  induction n with
  | zero =>
    intro a b i j S ha hb hn h
    refine stop 0 a b i j S rfl ?_ ?_ h
    · exact List.length_eq_zero_iff.1 (by omega)
    · exact List.length_eq_zero_iff.1 (by omega)
  | succ n ih =>
    intro a b i j S ha hb hn h
    by_cases h0 : a = [] ∧ b = []
    · exact stop (n + 1) a b i j S (by rw [h0.1, h0.2]; exact run_nil _ _ _) h0.1 h0.2 h
    have hrun : run (n + 1) a b i j = ⟨firstV a b, i + sameV a (firstV a b), j + sameV b (firstV a b)⟩ :: run n (a.drop (sameV a (firstV a b))) (b.drop (sameV b (firstV a b))) (i + sameV a (firstV a b)) (j + sameV b (firstV a b)) := if_neg h0
    have h1 := first_some h0
    have hm := first_mem h0
    obtain ⟨l1, l2⟩ := first_le ha hb
    have g1 := same_past ha l1
    have g2 := same_past hb l2
    have k1 := sameV_le a (firstV a b)
    have k2 := sameV_le b (firstV a b)
    have p1 := fun z (hz : firstV a b ≤ z) => pass_drop (l := a) hz
    have p2 := fun z (hz : firstV a b ≤ z) => pass_drop (l := b) hz
    generalize firstV a b = z0 at *
    generalize hsa : sameV a z0 = sa at *
    generalize hsb : sameV b z0 = sb at *
    rw [hrun]
    obtain ⟨t, t1, t2, t3, t4, t5, t6, t7⟩ := ih (a.drop sa) (b.drop sb) (i + sa) (j + sb) (stepJ T d S ⟨z0, i + sa, j + sb⟩) (ha.drop _) (hb.drop _) (by simp; omega) (stepJ_last _ _ _ _)
    have hl := stepJ_last T d S ⟨z0, i + sa, j + sb⟩
    simp only at hl
    rw [hl] at t4 t5 t6
    simp only [List.length_drop] at t6 t7
    have past : ∀ e ∈ t, z0 < e.1 := fun e he => by
      rcases (t3 e he).1 with h | h
      · exact g1 _ h
      · exact g2 _ h
    have none : ∀ z, z < z0 → upTo t z = [] := fun z hz => by
      unfold upTo
      rw [List.filter_eq_nil_iff]
      intro e he
      have := past e he
      simp
      omega
    have a0 : ∀ z, z < z0 → pass a z = 0 ∧ pass b z = 0 := fun z hz => ⟨pass_none fun x hx => by have := l1 x hx; omega, pass_none fun x hx => by have := l2 x hx; omega⟩
    have e6 : T (i + sa + (a.length - sa)) (j + sb + (b.length - sb)) = T (i + a.length) (j + b.length) := by rw [show i + sa + (a.length - sa) = i + a.length by omega, show j + sb + (b.length - sb) = j + b.length by omega]
    have e5 : ∀ z, z0 ≤ z → T (i + sa + pass (a.drop sa) z) (j + sb + pass (b.drop sb) z) = T (i + pass a z) (j + pass b z) := fun z hz => by rw [p1 z hz, p2 z hz, Nat.add_assoc, Nat.add_assoc]
    have t3' : ∀ e ∈ t, (e.1 ∈ a ∨ e.1 ∈ b) ∧ ∃ i j, e.2 = T i j := fun e he => ⟨(t3 e he).1.imp (List.mem_of_mem_drop) (List.mem_of_mem_drop), (t3 e he).2⟩
    show ∃ t', foldJ T d (stepJ T d S ⟨z0, i + sa, j + sb⟩) (run n (a.drop sa) (b.drop sb) (i + sa) (j + sb)) = S ++ t' ∧ _
    rw [t1]
    by_cases hc : T (i + sa) (j + sb) = lastV d S
    · have hst : stepJ T d S ⟨z0, i + sa, j + sb⟩ = S := if_pos hc
      rw [hst]
      refine ⟨t, rfl, t2, t3', by rw [← hc]; exact t4, fun z => ?_, by rw [← hc, t6, e6], by omega⟩
      by_cases hz : z0 ≤ z
      · rw [← hc, t5, e5 z hz]
      · rw [none z (by omega), (a0 z (by omega)).1, (a0 z (by omega)).2]
        exact h
    · have hst : stepJ T d S ⟨z0, i + sa, j + sb⟩ = S ++ [(z0, T (i + sa) (j + sb))] := if_neg hc
      rw [hst, List.append_assoc]
      refine ⟨(z0, T (i + sa) (j + sb)) :: t, rfl, ?_, ?_, ⟨hc, t4⟩, fun z => ?_, ?_, by simp; omega⟩
      · rw [List.map_cons]
        refine List.pairwise_cons.2 ⟨fun x hx => ?_, t2⟩
        obtain ⟨e, he, rfl⟩ := List.mem_map.1 hx
        exact past e he
      · intro e he
        rcases List.mem_cons.1 he with rfl | he
        · exact ⟨hm, _, _, rfl⟩
        · exact t3' e he
      · by_cases hz : z0 ≤ z
        · rw [show upTo ((z0, T (i + sa) (j + sb)) :: t) z = (z0, T (i + sa) (j + sb)) :: upTo t z by unfold upTo; rw [List.filter_cons_of_pos (by simpa using hz)]]
          show lastV (T (i + sa) (j + sb)) (upTo t z) = _
          rw [t5, e5 z hz]
        · rw [show upTo ((z0, T (i + sa) (j + sb)) :: t) z = upTo t z by unfold upTo; rw [List.filter_cons_of_neg (by simpa using hz)]]
          rw [none z (by omega), (a0 z (by omega)).1, (a0 z (by omega)).2]
          exact h
      · show lastV (T (i + sa) (j + sb)) t = _
        rw [t6, e6]

/-- Entries in order that are not behind a place are the first ones. -/
theorem upTo_take {τ : Type} {S : List (Int × τ)} (h : sorted (S.map (·.1))) (z : Int) : upTo S z = S.take (pass (S.map (·.1)) z) := by
  induction S with
  | nil => rfl
  | cons e r ih =>
    have h1 := List.pairwise_cons.1 h
    by_cases hz : e.1 ≤ z
    · rw [show upTo (e :: r) z = e :: upTo r z by unfold upTo; rw [List.filter_cons_of_pos (by simpa using hz)], ih h1.2]
      rw [List.map_cons, show pass (e.1 :: r.map (·.1)) z = pass (r.map (·.1)) z + 1 from if_pos hz, List.take_succ_cons]
    · have h2 : pass ((e :: r).map (·.1)) z = 0 := pass_none fun x hx => by
        rcases List.mem_cons.1 hx with rfl | hx
        · simp only; omega
        · have := h1.1 x hx; simp only at this; omega
      rw [h2, List.take_zero]
      unfold upTo
      rw [List.filter_eq_nil_iff]
      intro y hy
      simp
      rcases List.mem_cons.1 hy with rfl | hy
      · omega
      · have := h1.1 y.1 (List.mem_map.2 ⟨y, hy, rfl⟩); simp only at this; omega
theorem rises.sorted {l : List Int} (h : rises l) : sorted l := List.Pairwise.imp (fun h => Int.le_of_lt h) h

/-! ### Rows -/
def oddB (n : Nat) : Bool := decide (n % 2 = 1)
theorem oddB_succ (n : Nat) : oddB (n + 1) = !oddB n := by
  unfold oddB
  by_cases h : n % 2 = 1
  · rw [decide_eq_true h, decide_eq_false (by omega)]; rfl
  · rw [decide_eq_false h, decide_eq_true (by omega)]; rfl
theorem alt_odd {S : List (Int × Bool)} {n : Nat} (h : alt (oddB n) S) : lastV (oddB n) S = oddB (n + S.length) := by
  induction S generalizing n with
  | nil => rfl
  | cons e r ih =>
    obtain ⟨h1, h2⟩ := h
    have he : e.2 = oddB (n + 1) := by
      rw [oddB_succ]
      cases he : e.2 <;> cases hn : oddB n <;> rw [he, hn] at h1 <;> simp at h1 ⊢
    show lastV e.2 r = _
    rw [he] at h2 ⊢
    rw [ih h2]
    congr 1
    simp
    omega
theorem alt_take {τ : Type} {d : τ} {S : List (Int × τ)} (h : alt d S) (n : Nat) : alt d (S.take n) := by
  rw [← List.take_append_drop n S] at h
  exact ((alt_append _ _ _).1 h).1
def rowT (f : Bool → Bool → Bool) (i j : Nat) : Bool := f (oddB i) (oddB j)
/-- Two rows joined. -/
def rowJ (f : Bool → Bool → Bool) (a b : List Int) : List Int := (foldJ (rowT f) false [] (run (a.length + b.length) a b 0 0)).map (·.1)
structure Even (l : List Int) : Prop where
  s : sorted l
  e : l.length % 2 = 0
  n : ∀ x ∈ l, -1048576 ≤ x ∧ x ≤ 1048576
theorem Even.nil : Even [] := ⟨List.Pairwise.nil, rfl, fun x hx => absurd hx (by simp)⟩
theorem rowJ_all {f : Bool → Bool → Bool} (hf : f false false = false) {a b : List Int} (ha : Even a) (hb : Even b) :
    rises (rowJ f a b) ∧ Even (rowJ f a b) ∧ (∀ z, oddB (pass (rowJ f a b) z) = f (oddB (pass a z)) (oddB (pass b z))) ∧ (rowJ f a b).length ≤ a.length + b.length := by
  obtain ⟨t, t1, t2, t3, t4, t5, t6, t7⟩ := fold_run (rowT f) false (a.length + b.length) a b 0 0 [] ha.s hb.s (Nat.le_refl _) hf.symm
  rw [List.nil_append] at t1
  have hs := t2.sorted
  unfold rowJ
  rw [t1]
  simp only [Nat.zero_add] at t5 t6
  have h4 : alt (oddB 0) t := t4
  refine ⟨t2, ⟨hs, ?_, fun x hx => ?_⟩, fun z => ?_, by simpa using t7⟩
  · have h1 := alt_odd h4
    have h2 : lastV (oddB 0) t = rowT f a.length b.length := t6
    rw [h2] at h1
    unfold rowT at h1
    have e1 : oddB a.length = false := decide_eq_false (by have := ha.e; omega)
    have e2 : oddB b.length = false := decide_eq_false (by have := hb.e; omega)
    rw [e1, e2, hf, Nat.zero_add] at h1
    have := of_decide_eq_false h1.symm
    rw [List.length_map]
    omega
  · obtain ⟨e, he, rfl⟩ := List.mem_map.1 hx
    rcases (t3 e he).1 with h | h
    · exact ha.n _ h
    · exact hb.n _ h
  · have h1 : lastV (oddB 0) (upTo t z) = rowT f (pass a z) (pass b z) := t5 z
    rw [upTo_take hs, alt_odd (alt_take h4 _), Nat.zero_add, List.length_take, Nat.min_eq_left (by have := pass_le (t.map (·.1)) z; simpa using this)] at h1
    exact h1
theorem rowJ_nil (f : Bool → Bool → Bool) : rowJ f [] [] = [] := rfl

/-! ### Bands -/
abbrev Bnd := List (Int × List Int)
/-- What holds behind the first n borders. -/
def rowOf (V : Bnd) (n : Nat) : List Int := lastV [] (V.take n)
structure Okb (V : Bnd) : Prop where
  s : sorted (V.map (·.1))
  n : ∀ e ∈ V, -1048576 ≤ e.1 ∧ e.1 ≤ 1048576
  r : ∀ e ∈ V, Even e.2
  l : lastV [] V = []
def hasV (V : Bnd) (x y : Int) : Bool := oddB (pass (atV [] V y) x)
theorem lastV_mem {τ : Type} {P : τ → Prop} {d : τ} {S : List (Int × τ)} (hd : P d) (h : ∀ e ∈ S, P e.2) : P (lastV d S) := by
  induction S generalizing d with
  | nil => exact hd
  | cons e r ih => exact ih (h e (by simp)) fun q hq => h q (List.mem_cons_of_mem _ hq)
theorem Okb.row {V : Bnd} (h : Okb V) (n : Nat) : Even (rowOf V n) := lastV_mem Even.nil fun e he => h.r e (List.mem_of_mem_take he)
theorem rowOf_len {V : Bnd} {m : Nat} (h : ∀ e ∈ V, e.2.length ≤ m) (n : Nat) : (rowOf V n).length ≤ m := lastV_mem (P := fun l : List Int => l.length ≤ m) (by simp) fun e he => h e (List.mem_of_mem_take he)
theorem Okb.at {V : Bnd} (h : Okb V) (y : Int) : atV [] V y = rowOf V (pass (V.map (·.1)) y) := by
  unfold atV rowOf
  rw [upTo_take h.s]
def bndT (f : Bool → Bool → Bool) (A B : Bnd) (i j : Nat) : List Int := rowJ f (rowOf A i) (rowOf B j)
/-- Two sets joined. -/
def bndJ (f : Bool → Bool → Bool) (A B : Bnd) : Bnd := foldJ (bndT f A B) [] [] (run (A.length + B.length) (A.map (·.1)) (B.map (·.1)) 0 0)
/-- The one form of a set. -/
structure Norm (V : Bnd) : Prop extends Okb V where
  up : rises (V.map (·.1))
  rs : ∀ e ∈ V, rises e.2
  al : alt [] V
theorem bndJ_all {f : Bool → Bool → Bool} (hf : f false false = false) {A B : Bnd} (hA : Okb A) (hB : Okb B) :
    Norm (bndJ f A B) ∧ (∀ x y, hasV (bndJ f A B) x y = f (hasV A x y) (hasV B x y)) ∧ (bndJ f A B).length ≤ A.length + B.length ∧
      ∀ m k, (∀ e ∈ A, e.2.length ≤ m) → (∀ e ∈ B, e.2.length ≤ k) → ∀ e ∈ bndJ f A B, e.2.length ≤ m + k := by
  obtain ⟨t, t1, t2, t3, t4, t5, t6, t7⟩ := fold_run (bndT f A B) [] (A.length + B.length) (A.map (·.1)) (B.map (·.1)) 0 0 [] hA.s hB.s (by simp) rfl
  rw [List.nil_append] at t1
  have hrow := fun i j => rowJ_all hf (hA.row i) (hB.row j)
  have he : bndJ f A B = t := t1
  simp only [Nat.zero_add, List.length_map] at t5 t6 t7
  rw [he]
  refine ⟨⟨⟨t2.sorted, fun e h => ?_, fun e h => ?_, ?_⟩, t2, fun e h => ?_, t4⟩, fun x y => ?_, t7, fun m k hm hk e h => ?_⟩
  · rcases (t3 e h).1 with h1 | h1
    · obtain ⟨q, hq, e1⟩ := List.mem_map.1 h1
      rw [← e1]; exact hA.n q hq
    · obtain ⟨q, hq, e1⟩ := List.mem_map.1 h1
      rw [← e1]; exact hB.n q hq
  · obtain ⟨i, j, e2⟩ := (t3 e h).2
    rw [e2]; exact (hrow i j).2.1
  · show lastV [] t = []
    have h1 : lastV [] t = bndT f A B A.length B.length := t6
    rw [h1]
    have r1 : rowOf A A.length = [] := by unfold rowOf; rw [List.take_length]; exact hA.l
    have r2 : rowOf B B.length = [] := by unfold rowOf; rw [List.take_length]; exact hB.l
    unfold bndT
    rw [r1, r2]
    rfl
  · obtain ⟨i, j, e2⟩ := (t3 e h).2
    rw [e2]; exact (hrow i j).1
  · have h1 : atV [] t y = bndT f A B (pass (A.map (·.1)) y) (pass (B.map (·.1)) y) := t5 y
    unfold hasV
    rw [h1, hA.at, hB.at]
    exact (hrow _ _).2.2.1 x
  · obtain ⟨i, j, e2⟩ := (t3 e h).2
    rw [e2]
    exact Nat.le_trans (hrow i j).2.2.2 (Nat.add_le_add (rowOf_len hm i) (rowOf_len hk j))
theorem run_length (n : Nat) : ∀ (a b : List Int) (i j : Nat), (run n a b i j).length ≤ a.length + b.length := by
  induction n with
  | zero => intro a b i j; exact Nat.zero_le _
  | succ n ih =>
    intro a b i j
    unfold run
    split
    · exact Nat.zero_le _
    · rename_i h
      have h1 := first_some h
      have k1 := sameV_le a (firstV a b)
      have k2 := sameV_le b (firstV a b)
      have := ih (a.drop (sameV a (firstV a b))) (b.drop (sameV b (firstV a b))) (i + sameV a (firstV a b)) (j + sameV b (firstV a b))
      simp only [List.length_drop, List.length_cons] at this ⊢
      omega
theorem run_in (n : Nat) : ∀ (a b : List Int) (i j : Nat), ∀ s ∈ run n a b i j, s.i ≤ i + a.length ∧ s.j ≤ j + b.length ∧ (s.z ∈ a ∨ s.z ∈ b) := by
  induction n with
  | zero => intro a b i j s hs; exact absurd hs (by simp [run])
  | succ n ih =>
    intro a b i j s hs
    unfold run at hs
    split at hs
    · exact absurd hs (by simp)
    · rename_i h
      have k1 := sameV_le a (firstV a b)
      have k2 := sameV_le b (firstV a b)
      rcases List.mem_cons.1 hs with rfl | hs
      · exact ⟨by simp only; omega, by simp only; omega, first_mem h⟩
      · obtain ⟨h1, h2, h3⟩ := ih _ _ _ _ s hs
        simp only [List.length_drop] at h1 h2
        exact ⟨by omega, by omega, h3.imp List.mem_of_mem_drop List.mem_of_mem_drop⟩
end Go.Proofs.Ytedlhfemmofbpaa.Reg
