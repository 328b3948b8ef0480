/-
  Plain facts of layer 5: the best lengths of codes, by packages. Nothing of the program is named here.
-/
import Derived.WalkKit
import Derived.ProofKit
namespace Go.Proofs.Ytikfenimgjeplaa.Huf

/-- All that some weigh together. -/
def tot {α : Type} (g : α → Nat) : List α → Nat
  | [] => 0
  | a :: r => g a + tot g r
theorem tot_append {α : Type} (g : α → Nat) (l m : List α) : tot g (l ++ m) = tot g l + tot g m := by
  induction l with
  | nil => simp [tot]
  | cons a r ih => simp only [List.cons_append, tot, ih]; omega
theorem tot_perm {α : Type} (g : α → Nat) {l m : List α} (h : l.Perm m) : tot g l = tot g m := by
  induction h with
  | nil => rfl
  | cons a _ ih => simp only [tot, ih]
  | swap a b l => simp only [tot]; omega
  | trans _ _ i1 i2 => rw [i1, i2]
theorem tot_take_mono {α : Type} (g : α → Nat) (l : List α) {j k : Nat} (h : j ≤ k) : tot g (l.take j) ≤ tot g (l.take k) := by
  have e : l.take k = l.take j ++ (l.take k).drop j := by
    conv => lhs; rw [← List.take_append_drop j (l.take k)]
    rw [List.take_take, Nat.min_eq_left h]
  rw [e, tot_append]; omega
theorem tot_map {α β : Type} (g : β → Nat) (f : α → β) (l : List α) : tot g (l.map f) = tot (fun a => g (f a)) l := by
  induction l with
  | nil => rfl
  | cons a r ih => simp only [List.map_cons, tot, ih]
theorem tot_le {α : Type} (g h : α → Nat) (l : List α) (k : ∀ a ∈ l, g a ≤ h a) : tot g l ≤ tot h l := by
  induction l with
  | nil => exact Nat.le_refl _
  | cons a r ih =>
    have := k a (by simp)
    have := ih (fun b hb => k b (by simp [hb]))
    simp only [tot]; omega
theorem tot_congr {α : Type} (g h : α → Nat) (l : List α) (k : ∀ a ∈ l, g a = h a) : tot g l = tot h l :=
  Nat.le_antisymm (tot_le g h l fun a ha => Nat.le_of_eq (k a ha)) (tot_le h g l fun a ha => Nat.le_of_eq (k a ha).symm)
theorem tot_add {α : Type} (g h : α → Nat) (l : List α) : tot (fun a => g a + h a) l = tot g l + tot h l := by
  induction l with
  | nil => rfl
  | cons a r ih => simp only [tot, ih]; omega
theorem tot_const {α : Type} (c : Nat) (l : List α) : tot (fun _ => c) l = l.length * c := by
  induction l with
  | nil => simp [tot]
  | cons a r ih => simp only [tot, ih, List.length_cons, Nat.add_mul]; omega
theorem tot_mul {α : Type} (c : Nat) (g : α → Nat) (l : List α) : tot (fun a => c * g a) l = c * tot g l := by
  induction l with
  | nil => rfl
  | cons a r ih => simp only [tot, ih, Nat.mul_add]
theorem tot_filter {α : Type} (g : α → Nat) (p : α → Bool) (l : List α) : tot g (l.filter p) = tot (fun a => if p a then g a else 0) l := by
  induction l with
  | nil => rfl
  | cons a r ih =>
    simp only [List.filter_cons, tot]
    by_cases h : p a
    · simp [h, tot, ih]
    · simp [h, ih]

theorem mem_part {α : Type} {a : α} {l : List α} (h : a ∈ l) : ∃ l', l.Perm (a :: l') := by
  obtain ⟨s, t, rfl⟩ := List.append_of_mem h
  exact ⟨s ++ t, List.perm_middle⟩

/-- Of a row that rises the first ones weigh least. -/
theorem take_least {α : Type} (g : α → Nat) (P : List α) : ∀ (Z R : List α), P.Pairwise (fun a b => g a ≤ g b) → P.Perm (Z ++ R) → tot g (P.take Z.length) ≤ tot g Z := by
  induction P with
  | nil =>
    intro Z R _ h
    simp [tot]
  | cons p P ih =>
    intro Z R hs h
    obtain ⟨hp, hs'⟩ := List.pairwise_cons.1 hs
    by_cases hz : p ∈ Z
    · obtain ⟨Z', hZ⟩ := mem_part hz
      have h2 : P.Perm (Z' ++ R) := by
        have := h.trans (hZ.append_right R)
        exact List.Perm.cons_inv this
      have := ih Z' R hs' h2
      rw [tot_perm g hZ, hZ.length_eq]
      simp only [List.length_cons, List.take_succ_cons, tot]
      omega
    · match Z, h, hz with
      | [], _, _ => simp [tot]
      | z :: Z', h, hz =>
        have hr : p ∈ R := by
          have := h.subset (List.mem_cons_self (a := p) (l := P))
          rcases List.mem_append.1 this with h | h
          · exact absurd h hz
          · exact h
        obtain ⟨R', hR⟩ := mem_part hr
        have h2 : P.Perm (Z' ++ (z :: R')) := by
          have h3 : (p :: P).Perm (p :: (z :: Z' ++ R')) := h.trans ((hR.append_left (z :: Z')).trans List.perm_middle)
          exact (List.Perm.cons_inv h3).trans (List.perm_middle.symm)
        have h4 := ih Z' (z :: R') hs' h2
        have h5 : z ∈ P := h2.symm.subset (by simp)
        have := hp z h5
        simp only [List.length_cons, List.take_succ_cons, tot]
        omega

/-- A symbol, or two packages in one. -/
inductive Tr where
  | leaf (i : Nat)
  | node (a b : Tr)
def Tr.syms : Tr → List Nat
  | .leaf i => [i]
  | .node a b => a.syms ++ b.syms
def Tr.wt (f : Nat → Nat) : Tr → Nat
  | .leaf i => f i
  | .node a b => a.wt f + b.wt f
theorem Tr.wt_syms (f : Nat → Nat) (t : Tr) : t.wt f = tot f t.syms := by
  induction t with
  | leaf i => rfl
  | node a b iha ihb => simp only [wt, syms, tot_append, iha, ihb]

/-- Two by two. -/
def pairs : List Tr → List Tr
  | a :: b :: r => .node a b :: pairs r
  | _ => []
theorem pairs_length : ∀ (P : List Tr), (pairs P).length = P.length / 2
  | [] => rfl
  | [_] => by simp [pairs]
  | a :: b :: r => by
    have := pairs_length r
    simp only [pairs, List.length_cons]; omega
theorem pairs_take (f : Nat → Nat) : ∀ (P : List Tr) (k : Nat), 2 * k ≤ P.length → tot (Tr.wt f) ((pairs P).take k) = tot (Tr.wt f) (P.take (2 * k))
  | [], k, h => by
    obtain rfl : k = 0 := by simp at h; omega
    rfl
  | [a], k, h => by
    obtain rfl : k = 0 := by simp at h; omega
    rfl
  | a :: b :: r, 0, h => rfl
  | a :: b :: r, k + 1, h => by
    have := pairs_take f r k (by simp at h; omega)
    rw [show 2 * (k + 1) = 2 * k + 1 + 1 by omega]
    simp only [pairs, List.take_succ_cons, tot, Tr.wt, this]; omega
theorem pairs_mem : ∀ (P : List Tr) (t : Tr), t ∈ pairs P → ∃ a b, t = .node a b ∧ a ∈ P ∧ b ∈ P
  | [], t, h => by simp [pairs] at h
  | [_], t, h => by simp [pairs] at h
  | a :: b :: r, t, h => by
    simp only [pairs, List.mem_cons] at h
    rcases h with rfl | h
    · exact ⟨a, b, rfl, by simp, by simp⟩
    · obtain ⟨c, d, e, hc, hd⟩ := pairs_mem r t h
      exact ⟨c, d, e, by simp [hc], by simp [hd]⟩
theorem pairs_sorted (f : Nat → Nat) : ∀ (P : List Tr), P.Pairwise (fun a b => a.wt f ≤ b.wt f) → (pairs P).Pairwise (fun a b => a.wt f ≤ b.wt f)
  | [], _ => List.Pairwise.nil
  | [_], _ => List.Pairwise.nil
  | a :: b :: r, h => by
    obtain ⟨h1, h2⟩ := List.pairwise_cons.1 h
    obtain ⟨h3, h4⟩ := List.pairwise_cons.1 h2
    refine List.pairwise_cons.2 ⟨fun t ht => ?_, pairs_sorted f r h4⟩
    obtain ⟨c, d, rfl, hc, hd⟩ := pairs_mem r t ht
    have := h1 c (by simp [hc])
    have := h3 d hd
    simp only [Tr.wt]; omega

/-- The rows of packages: d levels of them, over the symbols S. -/
def Lv (f : Nat → Nat) (S : List Nat) : Nat → List Tr → Prop
  | 0, P => P = []
  | d + 1, P => ∃ P', Lv f S d P' ∧ P.Perm (S.map .leaf ++ pairs P') ∧ P.Pairwise (fun a b => a.wt f ≤ b.wt f)

/-- What is taken of each level: how many units that makes, and what it weighs. -/
def unitsOf (A : Nat → List Nat) : Nat → Nat
  | 0 => 0
  | d + 1 => (A d).length + unitsOf A d / 2
def weighs (f : Nat → Nat) (A : Nat → List Nat) : Nat → Nat
  | 0 => 0
  | d + 1 => tot f (A d) + weighs f A d

/-- The first ones weigh least, whatever is taken. -/
theorem lower (f : Nat → Nat) (S : List Nat) (A B : Nat → List Nat) (hA : ∀ d, S.Perm (A d ++ B d)) : ∀ (d : Nat) (P : List Tr), Lv f S d P →
    unitsOf A d ≤ P.length ∧ tot (Tr.wt f) (P.take (unitsOf A d)) ≤ weighs f A d := by
  intro d
  induction d with
  | zero => intro P h; cases h; exact ⟨Nat.le_refl _, Nat.le_refl _⟩
  | succ d ih =>
    rintro P ⟨P', h', hp, hs⟩
    obtain ⟨i1, i2⟩ := ih P' h'
    have hk : unitsOf A d / 2 ≤ (pairs P').length := by rw [pairs_length]; omega
    have hlS : S.length = (A d).length + (B d).length := by rw [(hA d).length_eq, List.length_append]
    have hlen : P.length = S.length + (pairs P').length := by rw [hp.length_eq]; simp
    refine ⟨by show (A d).length + unitsOf A d / 2 ≤ _; omega, ?_⟩
    have hZ : P.Perm (((A d).map .leaf ++ (pairs P').take (unitsOf A d / 2)) ++ ((B d).map .leaf ++ (pairs P').drop (unitsOf A d / 2))) := by
      refine hp.trans ?_
      have e1 : (S.map Tr.leaf).Perm ((A d).map .leaf ++ (B d).map .leaf) := by rw [← List.map_append]; exact (hA d).map _
      have e2 : (pairs P') = (pairs P').take (unitsOf A d / 2) ++ (pairs P').drop (unitsOf A d / 2) := (List.take_append_drop _ _).symm
      refine (e1.append_right _).trans ?_
      conv => lhs; rw [e2]
      generalize (A d).map Tr.leaf = x
      generalize (B d).map Tr.leaf = y
      generalize (pairs P').take (unitsOf A d / 2) = z
      generalize (pairs P').drop (unitsOf A d / 2) = u
      rw [List.append_assoc, List.append_assoc]
      refine List.Perm.append_left x ?_
      rw [← List.append_assoc, ← List.append_assoc]
      exact List.perm_append_comm.append_right u
    have h1 := take_least (Tr.wt f) P _ _ hs hZ
    have hl : ((A d).map Tr.leaf ++ (pairs P').take (unitsOf A d / 2)).length = unitsOf A (d + 1) := by
      rw [List.length_append, List.length_map, List.length_take, Nat.min_eq_left hk]; rfl
    rw [hl, tot_append, tot_map, pairs_take f P' _ (by omega)] at h1
    have h2 := tot_take_mono (Tr.wt f) P' (show 2 * (unitsOf A d / 2) ≤ unitsOf A d by omega)
    show _ ≤ tot f (A d) + weighs f A d
    have h3 : tot (fun a => Tr.wt f (Tr.leaf a)) (A d) = tot f (A d) := rfl
    omega

/-- Lengths up to L, as what is taken of each level (the deepest first). -/
def byLen (S : List Nat) (L : Nat) (l : Nat → Nat) (d : Nat) : List Nat := S.filter fun i => decide (L ≤ l i + d)
def notLen (S : List Nat) (L : Nat) (l : Nat → Nat) (d : Nat) : List Nat := S.filter fun i => !decide (L ≤ l i + d)

theorem filter_parts {α : Type} (p : α → Bool) (l : List α) : l.Perm (l.filter p ++ l.filter fun a => !p a) := by
  induction l with
  | nil => exact List.Perm.refl _
  | cons a r ih =>
    by_cases h : p a
    · simp only [List.filter_cons, h, if_true, Bool.not_true, Bool.false_eq_true, if_false, List.cons_append]
      exact ih.cons a
    · simp only [List.filter_cons, h, Bool.false_eq_true, if_false, Bool.not_false, if_true]
      exact (ih.cons a).trans List.perm_middle.symm
theorem byLen_parts (S : List Nat) (L : Nat) (l : Nat → Nat) (d : Nat) : S.Perm (byLen S L l d ++ notLen S L l d) := filter_parts _ S

/-- What is taken so weighs what lengths cost. -/
theorem weighs_cost (f : Nat → Nat) (S : List Nat) (L : Nat) (l : Nat → Nat) (hl : ∀ i ∈ S, l i ≤ L) : ∀ d, weighs f (byLen S L l) d = tot (fun i => f i * (l i + d - L)) S := by
  intro d
  induction d with
  | zero =>
    show 0 = _
    rw [tot_congr _ (fun _ => 0) S (fun i hi => by have := hl i hi; rw [show l i + 0 - L = 0 by omega, Nat.mul_zero]), tot_const]; omega
  | succ d ih =>
    show tot f (byLen S L l d) + weighs f (byLen S L l) d = _
    rw [ih]
    unfold byLen
    rw [tot_filter, ← tot_add]
    apply tot_congr
    intro i hi
    by_cases h : L ≤ l i + d
    · rw [if_pos (by simpa using h), show l i + (d + 1) - L = (l i + d - L) + 1 by omega, Nat.mul_add, Nat.mul_one]; omega
    · rw [if_neg (by simpa using h), show l i + (d + 1) - L = 0 by omega, show l i + d - L = 0 by omega]; omega

/-- The units, not cut off. -/
def fulls (A : Nat → List Nat) : Nat → Nat
  | 0 => 0
  | d + 1 => fulls A d + 2 ^ d * (A d).length
theorem units_fulls (A : Nat → List Nat) : ∀ d, unitsOf A (d + 1) = fulls A (d + 1) / 2 ^ d := by
  intro d
  induction d with
  | zero => simp [unitsOf, fulls]
  | succ d ih =>
    show (A (d + 1)).length + unitsOf A (d + 1) / 2 = (fulls A (d + 1) + 2 ^ (d + 1) * (A (d + 1)).length) / 2 ^ (d + 1)
    rw [ih, Nat.add_mul_div_left _ _ (Nat.pow_pos (by decide)), Nat.div_div_eq_div_mul, show (2 : Nat) ^ d * 2 = 2 ^ (d + 1) from (Nat.pow_succ ..).symm]
    omega

theorem fulls_len (S : List Nat) (L : Nat) (l : Nat → Nat) (hl : ∀ i ∈ S, l i ≤ L) : ∀ d, d ≤ L → fulls (byLen S L l) d + tot (fun i => if L ≤ l i + d then 2 ^ (L - l i) else 2 ^ d) S = S.length * 2 ^ d := by
  intro d
  induction d with
  | zero =>
    intro _
    show 0 + _ = _
    rw [tot_congr _ (fun _ => 1) S (fun i hi => by
      have := hl i hi
      by_cases h : L ≤ l i + 0
      · rw [if_pos h, show L - l i = 0 by omega]
      · rw [if_neg h]), tot_const]
    omega
  | succ d ih =>
    intro hd
    have i1 := ih (by omega)
    show fulls (byLen S L l) d + 2 ^ d * (byLen S L l d).length + _ = _
    have e1 : 2 ^ d * (byLen S L l d).length = tot (fun i => if L ≤ l i + d then 2 ^ d else 0) S := by
      rw [show (2 : Nat) ^ d * (byLen S L l d).length = tot (fun _ => 2 ^ d) (byLen S L l d) by rw [tot_const, Nat.mul_comm]]
      unfold byLen
      rw [tot_filter]
      apply tot_congr
      intro i _
      by_cases h : L ≤ l i + d
      · rw [if_pos (by simpa using h), if_pos h]
      · rw [if_neg (by simpa using h), if_neg h]
    have e2 : tot (fun i => if L ≤ l i + d then 2 ^ d else 0) S + tot (fun i => if L ≤ l i + (d + 1) then 2 ^ (L - l i) else 2 ^ (d + 1)) S = tot (fun i => if L ≤ l i + d then 2 ^ (L - l i) else 2 ^ d) S + tot (fun _ => 2 ^ d) S := by
      rw [← tot_add, ← tot_add]
      apply tot_congr
      intro i _
      have hp : (2 : Nat) ^ (d + 1) = 2 ^ d + 2 ^ d := by rw [Nat.pow_succ]; omega
      by_cases h : L ≤ l i + d
      · rw [if_pos h, if_pos h, if_pos (by omega)]; omega
      · by_cases h2 : L ≤ l i + (d + 1)
        · rw [if_neg h, if_neg h, if_pos h2, show L - l i = d + 1 by omega, hp]; omega
        · rw [if_neg h, if_neg h, if_neg h2, hp]; omega
    have e3 : tot (fun _ => 2 ^ d) S = S.length * 2 ^ d := tot_const _ _
    have hg : S.length * 2 ^ (d + 1) = S.length * 2 ^ d * 2 := by rw [Nat.pow_succ, Nat.mul_assoc]
    rw [hg]
    generalize S.length * 2 ^ d = X at *
    omega

/-- Lengths up to L that take not too much room weigh at least what the first packages do. -/
theorem best (f : Nat → Nat) (S : List Nat) (L : Nat) (P : List Tr) (hP : Lv f S L P) (hL : 1 ≤ L) (l : Nat → Nat) (hl : ∀ i ∈ S, l i ≤ L)
    (hk : tot (fun i => 2 ^ (L - l i)) S ≤ 2 ^ L) : 2 * S.length - 2 ≤ P.length ∧ tot (Tr.wt f) (P.take (2 * S.length - 2)) ≤ tot (fun i => f i * l i) S := by
  obtain ⟨a, b⟩ := lower f S (byLen S L l) (notLen S L l) (byLen_parts S L l) L P hP
  have hw : weighs f (byLen S L l) L = tot (fun i => f i * l i) S := by
    rw [weighs_cost f S L l hl L]
    apply tot_congr
    intro i _
    rw [show l i + L - L = l i by omega]
  have hf := fulls_len S L l hl L (Nat.le_refl _)
  have hc : tot (fun i => if L ≤ l i + L then 2 ^ (L - l i) else 2 ^ L) S = tot (fun i => 2 ^ (L - l i)) S := by
    apply tot_congr; intro i _; rw [if_pos (by omega)]
  rw [hc] at hf
  have hu : 2 * S.length - 2 ≤ unitsOf (byLen S L l) L := by
    obtain ⟨d, rfl⟩ : ∃ d, L = d + 1 := ⟨L - 1, by omega⟩
    rw [units_fulls]
    have hp : (2 : Nat) ^ (d + 1) = 2 ^ d * 2 := Nat.pow_succ ..
    have hp0 : 0 < (2 : Nat) ^ d := Nat.pow_pos (by decide)
    rw [Nat.le_div_iff_mul_le hp0]
    have e : (2 * S.length - 2) * 2 ^ d = S.length * (2 ^ d * 2) - 2 ^ d * 2 := by
      rw [Nat.sub_mul]
      have : 2 * S.length * 2 ^ d = S.length * (2 ^ d * 2) := by
        rw [Nat.mul_comm 2 S.length, Nat.mul_assoc, Nat.mul_comm 2]
      rw [this, Nat.mul_comm 2 (2 ^ d)]
    rw [e]
    rw [hp] at hf hk
    generalize S.length * (2 ^ d * 2) = X at *
    omega
  refine ⟨by omega, ?_⟩
  have := tot_take_mono (Tr.wt f) P hu
  omega

/-! ### What is taken is lengths. -/

theorem perm_part {α : Type} : ∀ (Z R I Q : List α), (Z ++ R).Perm (I ++ Q) → ∃ X X' Y Y', I.Perm (X ++ X') ∧ Q.Perm (Y ++ Y') ∧ Z.Perm (X ++ Y) := by
  intro Z
  induction Z with
  | nil => intro R I Q _; exact ⟨[], I, [], Q, List.Perm.refl _, List.Perm.refl _, List.Perm.refl _⟩
  | cons z Z ih =>
    intro R I Q h
    have hz : z ∈ I ++ Q := h.subset (by simp)
    rcases List.mem_append.1 hz with hi | hq
    · obtain ⟨I', hI⟩ := mem_part hi
      have h2 : (Z ++ R).Perm (I' ++ Q) := List.Perm.cons_inv (h.trans (hI.append_right Q))
      obtain ⟨X, X', Y, Y', a, b, c⟩ := ih R I' Q h2
      exact ⟨z :: X, X', Y, Y', hI.trans (a.cons z), b, c.cons z⟩
    · obtain ⟨Q', hQ⟩ := mem_part hq
      have h2 : (Z ++ R).Perm (I ++ Q') := List.Perm.cons_inv (h.trans ((hQ.append_left I).trans List.perm_middle))
      obtain ⟨X, X', Y, Y', a, b, c⟩ := ih R I Q' h2
      exact ⟨X, X', z :: Y, Y', a, hQ.trans (b.cons z), (c.cons z).trans List.perm_middle.symm⟩

def Tr.halves : Tr → List Tr
  | .leaf _ => []
  | .node a b => [a, b]
theorem pairs_open : ∀ (P : List Tr), ∃ r, P = (pairs P).flatMap Tr.halves ++ r
  | [] => ⟨[], rfl⟩
  | [a] => ⟨[a], by simp [pairs]⟩
  | a :: b :: r => by
    obtain ⟨q, h⟩ := pairs_open r
    exact ⟨q, by simp only [pairs, List.flatMap_cons, Tr.halves, List.cons_append, List.nil_append]; rw [← h]⟩

theorem flatMap_perm {α β : Type} (g : α → List β) {l m : List α} (h : l.Perm m) : (l.flatMap g).Perm (m.flatMap g) := by
  induction h with
  | nil => exact List.Perm.refl _
  | cons a _ ih => simp only [List.flatMap_cons]; exact ih.append_left _
  | swap a b l =>
    simp only [List.flatMap_cons]
    rw [← List.append_assoc, ← List.append_assoc]
    exact List.perm_append_comm.append_right _
  | trans _ _ i1 i2 => exact i1.trans i2

/-- How often a symbol comes. -/
def often (i : Nat) (Z : List Tr) : Nat := (Z.flatMap Tr.syms).count i
theorem often_append (i : Nat) (Z Y : List Tr) : often i (Z ++ Y) = often i Z + often i Y := by
  unfold often; rw [List.flatMap_append, List.count_append]
theorem often_perm (i : Nat) {Z Y : List Tr} (h : Z.Perm Y) : often i Z = often i Y := (flatMap_perm _ h).count_eq i

/-- Packages opened: two each, and the same symbols. -/
theorem opened : ∀ (Y : List Tr), (∀ t ∈ Y, ∃ a b, t = .node a b) → (Y.flatMap Tr.halves).length = 2 * Y.length ∧ ∀ i, often i (Y.flatMap Tr.halves) = often i Y
  | [], _ => ⟨rfl, fun _ => rfl⟩
  | t :: Y, h => by
    obtain ⟨a, b, rfl⟩ := h t (by simp)
    obtain ⟨h1, h2⟩ := opened Y (fun u hu => h u (by simp [hu]))
    refine ⟨by simp only [List.flatMap_cons, Tr.halves, List.cons_append, List.nil_append, List.length_cons, h1]; omega, fun i => ?_⟩
    have := h2 i
    simp only [often, List.flatMap_cons, Tr.halves, List.cons_append, List.nil_append, Tr.syms, List.count_append] at this ⊢
    omega

theorem leaf_often (i : Nat) (X : List Nat) : often i (X.map .leaf) = X.count i := by
  unfold often
  induction X with
  | nil => rfl
  | cons a r ih =>
    simp only [List.map_cons, List.flatMap_cons, Tr.syms, List.cons_append, List.nil_append, List.count_cons, ih]

/-- A part of a row of leaves is a row of leaves. -/
theorem leaf_part (S : List Nat) (X X' : List Tr) (h : (S.map Tr.leaf).Perm (X ++ X')) : ∃ T T', X = T.map .leaf ∧ S.Perm (T ++ T') := by
  induction X generalizing S with
  | nil => exact ⟨[], S, rfl, List.Perm.refl _⟩
  | cons x X ih =>
    have hx : x ∈ S.map Tr.leaf := h.symm.subset (by simp)
    obtain ⟨i, hi, rfl⟩ := List.mem_map.1 hx
    obtain ⟨S', hS⟩ := mem_part hi
    have h2 : (S'.map Tr.leaf).Perm (X ++ X') := List.Perm.cons_inv (((hS.map Tr.leaf).symm).trans h)
    obtain ⟨T, T', rfl, hT⟩ := ih S' h2
    exact ⟨i :: T, T', rfl, hS.trans (hT.cons i)⟩

/-- Whatever is taken of a row: no symbol comes more often than there are levels, and together they are as wide as what is taken. -/
theorem widths (f : Nat → Nat) (S : List Nat) (hS : S.Nodup) : ∀ (d : Nat) (P Z R : List Tr), Lv f S d P → P.Perm (Z ++ R) →
    (∀ i, often i Z ≤ d) ∧ (∀ i, i ∉ S → often i Z = 0) ∧ Z.length * 2 ^ d ≤ 2 * tot (fun i => 2 ^ d - 2 ^ (d - often i Z)) S := by
  intro d
  induction d with
  | zero =>
    intro P Z R h hp
    cases h
    have : Z = [] := by
      have := hp.length_eq
      simp at this
      exact List.length_eq_zero_iff.1 (by omega)
    subst this
    exact ⟨fun _ => Nat.le_refl _, fun _ _ => rfl, by simp⟩
  | succ d ih =>
    rintro P Z R ⟨P', h', hp, _⟩ hz
    obtain ⟨X, X', Y, Y', hI, hQ, hZ⟩ := perm_part Z R _ _ (hz.symm.trans hp)
    obtain ⟨T, T', rfl, hT⟩ := leaf_part S X X' hI
    have hY : ∀ t ∈ Y, ∃ a b, t = .node a b := by
      intro t ht
      obtain ⟨a, b, e, _, _⟩ := pairs_mem P' t (hQ.symm.subset (by simp [ht]))
      exact ⟨a, b, e⟩
    obtain ⟨o1, o2⟩ := opened Y hY
    obtain ⟨r, hr⟩ := pairs_open P'
    have hP' : P'.Perm (Y.flatMap Tr.halves ++ (Y'.flatMap Tr.halves ++ r)) := by
      rw [← List.append_assoc, ← List.flatMap_append]
      conv => lhs; rw [hr]
      exact (flatMap_perm _ hQ).append_right r
    obtain ⟨i1, i2, i3⟩ := ih P' _ _ h' hP'
    have hc : ∀ i, often i Z = T.count i + often i (Y.flatMap Tr.halves) := by
      intro i; rw [often_perm i hZ, often_append, leaf_often, o2]
    have hTn : T.Nodup := (List.nodup_append.1 (hT.nodup_iff.1 hS)).1
    have hT1 : ∀ i, T.count i ≤ 1 := fun i => List.nodup_iff_count.1 hTn i
    have hTS : ∀ i, i ∉ S → T.count i = 0 := fun i hi => List.count_eq_zero.2 (fun h => hi (hT.symm.subset (by simp [h])))
    refine ⟨fun i => by have := hc i; have := hT1 i; have := i1 i; omega, fun i hi => by have := hc i; have := hTS i hi; have := i2 i hi; omega, ?_⟩
    have hlen : Z.length = T.length + Y.length := by rw [hZ.length_eq]; simp
    rw [o1] at i3
    have hTl : T.length = tot (fun i => T.count i) S := by
      have e1 : tot (fun i => T.count i) S = tot (fun i => T.count i) T + tot (fun i => T.count i) T' := by rw [tot_perm _ hT, tot_append]
      have e2 : tot (fun i => T.count i) T = T.length := by
        rw [tot_congr _ (fun _ => 1) T (fun i hi => by have := hT1 i; have := List.count_pos_iff.2 hi; omega), tot_const]; omega
      have e3 : tot (fun i => T.count i) T' = 0 := by
        rw [tot_congr _ (fun _ => 0) T' (fun i hi => ?_), tot_const]; omega
        refine List.count_eq_zero.2 (fun h => ?_)
        exact (List.nodup_append.1 (hT.nodup_iff.1 hS)).2.2 i h i hi rfl
      omega
    have hstep : tot (fun i => 2 ^ d - 2 ^ (d - often i (Y.flatMap Tr.halves))) S + 2 ^ d * tot (fun i => T.count i) S ≤ tot (fun i => 2 ^ (d + 1) - 2 ^ (d + 1 - often i Z)) S := by
      rw [← tot_mul, ← tot_add]
      apply tot_le
      intro i _
      have h1 := i1 i
      have h2 := hT1 i
      have h3 := hc i
      have hp : (2 : Nat) ^ (d + 1) = 2 * 2 ^ d := by rw [Nat.pow_succ]; omega
      generalize often i (Y.flatMap Tr.halves) = m at *
      generalize often i Z = q at *
      generalize T.count i = x at *
      have hb : (2 : Nat) ^ (d - m) ≤ 2 ^ d := Nat.pow_le_pow_right (by decide) (by omega)
      obtain rfl | rfl : x = 0 ∨ x = 1 := by omega
      · rw [show d + 1 - q = d - m + 1 by omega, hp, show (2 : Nat) ^ (d - m + 1) = 2 * 2 ^ (d - m) by rw [Nat.pow_succ]; omega]; omega
      · rw [show d + 1 - q = d - m by omega, hp]; omega
    rw [← hTl] at hstep
    have e : (T.length + Y.length) * 2 ^ (d + 1) = 2 * (2 ^ d * T.length) + 2 * Y.length * 2 ^ d := by
      rw [Nat.pow_succ, Nat.add_mul, Nat.mul_comm (2 ^ d) 2, ← Nat.mul_assoc, ← Nat.mul_assoc, Nat.mul_comm T.length 2, Nat.mul_comm Y.length 2, Nat.mul_assoc, Nat.mul_comm T.length]
    rw [hlen, e]
    omega

theorem tot_dvd {α : Type} (c : Nat) (g : α → Nat) (l : List α) (h : ∀ a ∈ l, c ∣ g a) : c ∣ tot g l := by
  induction l with
  | nil => exact ⟨0, rfl⟩
  | cons a r ih => exact Nat.dvd_add (h a (by simp)) (ih fun b hb => h b (by simp [hb]))

theorem tot_one {S : List Nat} (hS : S.Nodup) (g : Nat → Nat) (y : Nat) (hy : y ∈ S) : tot (fun i => if y = i then g i else 0) S = g y := by
  obtain ⟨S', h⟩ := mem_part hy
  rw [tot_perm _ h]
  have hn := h.nodup_iff.1 hS
  have h2 := (List.nodup_cons.1 hn).1
  show (if y = y then g y else 0) + _ = _
  rw [if_pos rfl, tot_congr _ (fun _ => 0) S' (fun i hi => by rw [if_neg]; rintro rfl; exact h2 hi), tot_const]; omega

theorem tot_count (f : Nat → Nat) {S : List Nat} (hS : S.Nodup) : ∀ (Y : List Nat), (∀ y ∈ Y, y ∈ S) → tot f Y = tot (fun i => f i * Y.count i) S := by
  intro Y
  induction Y with
  | nil => intro _; rw [tot_congr _ (fun _ => 0) S (fun i _ => by simp), tot_const]; simp [tot]
  | cons y Y ih =>
    intro h
    have h1 := ih fun z hz => h z (by simp [hz])
    have h2 := tot_one hS f y (h y (by simp))
    show f y + tot f Y = _
    rw [h1, ← h2, ← tot_add]
    apply tot_congr
    intro i _
    rw [List.count_cons]
    by_cases e : y = i
    · subst e; simp [Nat.mul_add]; omega
    · simp [e]

theorem tot_flat (f : Nat → Nat) (C : List Tr) : tot (Tr.wt f) C = tot f (C.flatMap Tr.syms) := by
  induction C with
  | nil => rfl
  | cons t C ih => simp only [List.flatMap_cons, tot, tot_append, ih, Tr.wt_syms]

theorem has_max (m : Nat → Nat) : ∀ (S : List Nat), S ≠ [] → ∃ j ∈ S, ∀ i ∈ S, m i ≤ m j
  | [], h => absurd rfl h
  | [a], _ => ⟨a, by simp, fun i hi => by simp at hi; subst hi; exact Nat.le_refl _⟩
  | a :: b :: r, _ => by
    obtain ⟨j, hj, h⟩ := has_max m (b :: r) (by simp)
    by_cases hc : m a ≤ m j
    · exact ⟨j, by simp [List.mem_cons.1 hj], fun i hi => by
        rcases List.mem_cons.1 hi with rfl | hi
        · exact hc
        · exact h i hi⟩
    · exact ⟨a, by simp, fun i hi => by
        rcases List.mem_cons.1 hi with rfl | hi
        · exact Nat.le_refl _
        · have := h i hi; omega⟩

/-- THE BEST LENGTHS: how often each symbol comes among the first packages. -/
theorem made (f : Nat → Nat) (S : List Nat) (hS : S.Nodup) (h2 : 2 ≤ S.length) (hf : ∀ i ∈ S, 0 < f i) (L : Nat) (hL : 1 ≤ L) (hn : S.length ≤ 2 ^ L) (P : List Tr) (hP : Lv f S L P) :
    2 * S.length - 2 ≤ P.length ∧
    (∀ i ∈ S, 1 ≤ often i (P.take (2 * S.length - 2))) ∧ (∀ i, often i (P.take (2 * S.length - 2)) ≤ L) ∧ (∀ i, i ∉ S → often i (P.take (2 * S.length - 2)) = 0) ∧
    tot (fun i => 2 ^ (L - often i (P.take (2 * S.length - 2)))) S = 2 ^ L ∧
    (∀ l : Nat → Nat, (∀ i ∈ S, l i ≤ L) → tot (fun i => 2 ^ (L - l i)) S ≤ 2 ^ L → tot (fun i => f i * often i (P.take (2 * S.length - 2))) S ≤ tot (fun i => f i * l i) S) := by
  have hlen := (best f S L P hP hL (fun _ => L) (fun _ _ => Nat.le_refl _) (by
    rw [tot_congr _ (fun _ => 1) S (fun i _ => by rw [Nat.sub_self]), tot_const]; omega)).1
  have hw := widths f S hS L P (P.take (2 * S.length - 2)) (P.drop (2 * S.length - 2)) hP (by rw [List.take_append_drop])
  have hbest := fun l h1 h2 => (best f S L P hP hL l h1 h2).2
  have hcl : (P.take (2 * S.length - 2)).length = 2 * S.length - 2 := by rw [List.length_take]; omega
  rw [hcl] at hw
  have hcost : tot (Tr.wt f) (P.take (2 * S.length - 2)) = tot (fun i => f i * often i (P.take (2 * S.length - 2))) S := by
    rw [tot_flat, tot_count f hS _ (fun y hy => ?_)]
    · rfl
    · apply Classical.byContradiction
      intro hn
      have := hw.2.1 y hn
      exact absurd (List.count_pos_iff.2 hy) (by unfold often at this; omega)
  rw [hcost] at hbest
  obtain ⟨w1, w2, w3⟩ := hw
  generalize hm : (fun i => often i (P.take (2 * S.length - 2))) = m at *
  have hm' : ∀ i, often i (P.take (2 * S.length - 2)) = m i := fun i => by rw [← hm]
  simp only [hm'] at *
  clear hm hm' hcost hcl
  refine ⟨hlen, ?_⟩
  have hsplit : tot (fun i => 2 ^ L - 2 ^ (L - m i)) S + tot (fun i => 2 ^ (L - m i)) S = S.length * 2 ^ L := by
    rw [← tot_add, ← tot_const]
    apply tot_congr
    intro i _
    have : (2 : Nat) ^ (L - m i) ≤ 2 ^ L := Nat.pow_le_pow_right (by decide) (by omega)
    omega
  have hkr : tot (fun i => 2 ^ (L - m i)) S ≤ 2 ^ L := by
    have e : (2 * S.length - 2) * 2 ^ L = 2 * (S.length * 2 ^ L) - 2 * 2 ^ L := by rw [Nat.sub_mul, Nat.mul_assoc]
    rw [e] at w3
    have : 2 ^ L ≤ S.length * 2 ^ L := Nat.le_mul_of_pos_left _ (by omega)
    generalize S.length * 2 ^ L = X at *
    generalize (2 : Nat) ^ L = Y at *
    omega
  have hone : ∀ i ∈ S, 1 ≤ m i := by
    intro i hi
    apply Classical.byContradiction
    intro h0
    obtain ⟨S', hp⟩ := mem_part hi
    have h3 : tot (fun i => 2 ^ (L - m i)) S = 2 ^ (L - m i) + tot (fun i => 2 ^ (L - m i)) S' := by rw [tot_perm _ hp]; rfl
    rw [show m i = 0 by omega, Nat.sub_zero] at h3
    have h4 : S'.length * 1 ≤ tot (fun i => 2 ^ (L - m i)) S' := by
      rw [← tot_const]
      exact tot_le _ _ _ fun a _ => Nat.pow_pos (by decide)
    have h5 : S.length = S'.length + 1 := hp.length_eq
    omega
  refine ⟨hone, w1, w2, ?_, hbest⟩
  apply Nat.le_antisymm hkr
  apply Classical.byContradiction
  intro hlt
  obtain ⟨j, hj, hmax⟩ := has_max m S (by intro h; rw [h] at h2; simp at h2)
  have hd1 : 2 ^ (L - m j) ∣ tot (fun i => 2 ^ (L - m i)) S := tot_dvd _ _ _ fun i hi => Nat.pow_dvd_pow 2 (by have := hmax i hi; omega)
  have hd2 : (2 : Nat) ^ (L - m j) ∣ 2 ^ L := Nat.pow_dvd_pow 2 (by omega)
  have hroom : tot (fun i => 2 ^ (L - m i)) S + 2 ^ (L - m j) ≤ 2 ^ L := by
    obtain ⟨x, hx⟩ := hd1
    obtain ⟨y, hy⟩ := hd2
    rw [hx, hy] at hlt
    rw [hx, hy, ← Nat.mul_succ]
    refine Nat.mul_le_mul_left _ ?_
    apply Classical.byContradiction
    intro hxy
    exact hlt (Nat.mul_le_mul_left _ (by omega))
  have hj1 := hone j hj
  have hjL := w1 j
  have hb := hbest (fun i => if j = i then m i - 1 else m i) (fun i _ => by have := w1 i; show (if j = i then m i - 1 else m i) ≤ L; split <;> omega) (by
    refine Nat.le_trans (Nat.le_of_eq ?_) hroom
    rw [← tot_one hS (fun i => 2 ^ (L - m i)) j hj, ← tot_add]
    apply tot_congr
    intro i _
    by_cases e : j = i
    · subst e
      rw [if_pos rfl, if_pos rfl, show L - (m j - 1) = L - m j + 1 by omega, Nat.pow_succ]; omega
    · rw [if_neg e, if_neg e]; omega)
  have hc : tot (fun i => f i * m i) S = tot (fun i => f i * (if j = i then m i - 1 else m i)) S + f j := by
    rw [← tot_one hS f j hj, ← tot_add]
    apply tot_congr
    intro i _
    by_cases e : j = i
    · subst e
      rw [if_pos rfl, if_pos rfl, Nat.mul_sub, Nat.mul_one]
      have : f j * 1 ≤ f j * m j := Nat.mul_le_mul_left _ hj1
      omega
    · rw [if_neg e, if_neg e]; omega
  have := hf j hj
  have hb' : tot (fun i => f i * m i) S ≤ tot (fun i => f i * (if j = i then m i - 1 else m i)) S := hb
  omega

/-- A row in another order that is a picture of some, is a picture of them in another order. -/
theorem perm_lift {α β : Type} (g : α → β) {l m : List β} (h : l.Perm m) : ∀ T : List α, T.map g = m → ∃ T' : List α, T'.Perm T ∧ T'.map g = l := by
  induction h with
  | nil => intro T hT; exact ⟨T, List.Perm.refl _, hT⟩
  | cons x _ ih =>
    intro T hT
    match T, hT with
    | t :: T, hT =>
      rw [List.map_cons, List.cons.injEq] at hT
      obtain ⟨T', h1, h2⟩ := ih T hT.2
      exact ⟨t :: T', h1.cons t, by rw [List.map_cons, h2, hT.1]⟩
  | swap x y l =>
    intro T hT
    match T, hT with
    | a :: b :: T, hT =>
      rw [List.map_cons, List.map_cons, List.cons.injEq, List.cons.injEq] at hT
      exact ⟨b :: a :: T, List.Perm.swap a b T, by rw [List.map_cons, List.map_cons, hT.1, hT.2.1, hT.2.2]⟩
  | trans _ _ i1 i2 =>
    intro T hT
    obtain ⟨T1, p1, e1⟩ := i2 T hT
    obtain ⟨T2, p2, e2⟩ := i1 T1 e1
    exact ⟨T2, p2.trans p1, e2⟩

end Go.Proofs.Ytikfenimgjeplaa.Huf
