/-
  Plain facts of layer 13 (format): widths, parts of colours, what is left of them. Nothing of the program is named here.
-/
import Derived.Below
namespace Go.Proofs.Ytbdlmcpdplmdnaa.Fmt
set_option linter.unusedVariables false

/-- The greatest number of so many bits. -/
def top (k : Nat) : Nat := 2 ^ k - 1
/-- How many bits a part has; 0: it may not be. -/
def width (m : Int) : Nat := ((List.range 17).find? fun k => decide (1 ≤ k) && decide (m = (top k : Nat))).getD 0
theorem top_inj {a b : Nat} (h : top a = top b) : a = b := by
  unfold top at h
  have h1 : 1 ≤ 2 ^ a := Nat.one_le_two_pow
  have h2 : 1 ≤ 2 ^ b := Nat.one_le_two_pow
  exact (Nat.pow_right_inj (by decide : 1 < 2)).1 (show 2 ^ a = 2 ^ b by omega)
theorem width_top {k : Nat} (h : 1 ≤ k ∧ k ≤ 16) : width (top k : Nat) = k := by
  obtain ⟨h1, h2⟩ := h
  have : ∀ k, k < 17 → 1 ≤ k → width (top k : Nat) = k := by decide +kernel
  exact this k (by omega) h1
theorem width_spec {m : Int} (h : 0 < width m) : 1 ≤ width m ∧ width m ≤ 16 ∧ m = (top (width m) : Nat) := by
  unfold width at h ⊢
  cases hf : (List.range 17).find? fun k => decide (1 ≤ k) && decide (m = (top k : Nat)) with
  | none => rw [hf] at h; simp at h
  | some k =>
    have h1 := List.find?_some hf
    have h2 := List.mem_of_find?_eq_some hf
    simp only [Bool.and_eq_true, decide_eq_true_eq] at h1
    simp only [List.mem_range] at h2
    simp only [Option.getD_some]
    exact ⟨h1.1, by omega, h1.2⟩
theorem width_zero {m : Int} (h : width m = 0) (k : Nat) (hk : 1 ≤ k ∧ k ≤ 16) : m ≠ (top k : Nat) := by
  intro e
  have := width_top hk
  rw [← e, h] at this
  omega

/-- A part of a colour as a part of a value, and back. -/
def downN (p m : Nat) : Nat := (p * m + 127) / 255
def upN (v m : Nat) : Nat := (v * 255 + m / 2) / m
theorem down_le {p m : Nat} (hp : p ≤ 255) : downN p m ≤ m := by
  unfold downN
  have : p * m ≤ 255 * m := Nat.mul_le_mul_right m hp
  omega
theorem up_le {v m : Nat} (hv : v ≤ m) (hm : 1 ≤ m) : upN v m ≤ 255 := by
  unfold upN
  have h : v * 255 + m / 2 < m * 256 := by
    have : v * 255 ≤ m * 255 := Nat.mul_le_mul_right 255 hv
    omega
  have := (Nat.div_lt_iff_lt_mul (show 0 < m by omega)).2 (by rw [Nat.mul_comm]; exact h)
  omega
/-- With 255 or more nothing is lost; with 255 or less a value leads back to itself. -/
theorem up_down {k : Nat} (hk : 8 ≤ k ∧ k ≤ 16) {p : Nat} (hp : p ≤ 255) : upN (downN p (top k)) (top k) = p := by
  have : ∀ k, k < 17 → 8 ≤ k → ∀ p, p < 256 → upN (downN p (top k)) (top k) = p := by decide +kernel
  exact this k (by omega) hk.1 p (by omega)
theorem down_up {k : Nat} (hk : 1 ≤ k ∧ k ≤ 8) {v : Nat} (hv : v ≤ top k) : downN (upN v (top k)) (top k) = v := by
  have : ∀ k, k < 9 → 1 ≤ k → ∀ v, v < 256 → v ≤ top k → downN (upN v (top k)) (top k) = v := by decide +kernel
  have h8 : top k ≤ 255 := by
    have : ∀ k, k < 9 → top k ≤ 255 := by decide
    exact this k (by omega)
  exact this k (by omega) hk.1 v (by omega) hv
/-- What is left of a part. -/
def leftN (p m : Nat) : Nat := upN (downN p m) m
theorem left_left {k : Nat} (hk : 1 ≤ k ∧ k ≤ 16) {p : Nat} (hp : p ≤ 255) : leftN (leftN p (top k)) (top k) = leftN p (top k) := by
  unfold leftN
  by_cases h : k ≤ 8
  · rw [down_up ⟨hk.1, h⟩ (down_le hp)]
  · have e := up_down ⟨by omega, hk.2⟩ hp
    rw [e, e]
theorem left_same {k : Nat} (hk : 8 ≤ k ∧ k ≤ 16) {p : Nat} (hp : p ≤ 255) : leftN p (top k) = p := up_down hk hp
theorem top_pos {k : Nat} (hk : 1 ≤ k) : 1 ≤ top k := by
  unfold top
  have : 2 ^ 1 ≤ 2 ^ k := Nat.pow_le_pow_right (by decide) hk
  omega

/-- Where the bits of a part stand. -/
def apart (s k t j : Nat) : Prop := s + k ≤ t ∨ t + j ≤ s
theorem top_bit (k i : Nat) : (top k).testBit i = decide (i < k) := by unfold top; exact Nat.testBit_two_pow_sub_one k i
theorem mask_bit (k s i : Nat) : (top k * 2 ^ s).testBit i = (decide (s ≤ i) && decide (i - s < k)) := by
  rw [Nat.testBit_mul_two_pow, top_bit]
/-- Two masks have no bit in common just where the parts stand apart. -/
theorem and_zero {s k t j : Nat} (hk : 1 ≤ k) (hj : 1 ≤ j) : (top k * 2 ^ s) &&& (top j * 2 ^ t) = 0 ↔ apart s k t j := by
  constructor
  · intro h
    apply Classical.byContradiction
    intro hn
    unfold apart at hn
    have hb := congrArg (fun n => Nat.testBit n (max s t)) h
    simp only [Nat.testBit_and, mask_bit, Nat.zero_testBit] at hb
    simp at hb
    omega
  · intro h
    apply Nat.eq_of_testBit_eq
    intro i
    rw [Nat.testBit_and, mask_bit, mask_bit, Nat.zero_testBit]
    unfold apart at h
    simp only [Bool.and_eq_false_iff, decide_eq_false_iff_not]
    omega

/-- What has no bit in common is added as it is joined. -/
theorem add_or {x y : Nat} (hx : x < 2 ^ 62) (hy : y < 2 ^ 62) (h : x &&& y = 0) : x + y = x ||| y := by
  have hv : BitVec.ofNat 64 x &&& BitVec.ofNat 64 y = 0#64 := by
    apply BitVec.eq_of_toNat_eq
    rw [BitVec.toNat_and, BitVec.toNat_ofNat, BitVec.toNat_ofNat, Nat.mod_eq_of_lt (by omega), Nat.mod_eq_of_lt (by omega), h]
    rfl
  have e := congrArg BitVec.toNat (BitVec.add_eq_or_of_and_eq_zero _ _ hv)
  rw [BitVec.toNat_add, BitVec.toNat_or, BitVec.toNat_ofNat, BitVec.toNat_ofNat, Nat.mod_eq_of_lt (show x < 2 ^ 64 by omega), Nat.mod_eq_of_lt (show y < 2 ^ 64 by omega), Nat.mod_eq_of_lt (by omega)] at e
  exact e
theorem lt_top {a k : Nat} (h : a ≤ top k) : a < 2 ^ k := by
  unfold top at h
  have : 1 ≤ 2 ^ k := Nat.one_le_two_pow
  omega
theorem part_bit {a k s i : Nat} (ha : a ≤ top k) (h : (a * 2 ^ s).testBit i = true) : s ≤ i ∧ i < s + k := by
  rw [Nat.testBit_mul_two_pow, Bool.and_eq_true, decide_eq_true_eq] at h
  refine ⟨h.1, ?_⟩
  apply Classical.byContradiction
  intro hn
  have := Nat.testBit_lt_two_pow (Nat.lt_of_lt_of_le (lt_top ha) (Nat.pow_le_pow_right (by decide : 0 < 2) (show k ≤ i - s by omega)))
  rw [this] at h
  exact absurd h.2 (by decide)
theorem parts_and {a b k s j t : Nat} (ha : a ≤ top k) (hb : b ≤ top j) (h : apart s k t j) : a * 2 ^ s &&& b * 2 ^ t = 0 := by
  apply Nat.eq_of_testBit_eq
  intro i
  rw [Nat.testBit_and, Nat.zero_testBit]
  cases h1 : (a * 2 ^ s).testBit i with
  | false => rfl
  | true =>
    cases h2 : (b * 2 ^ t).testBit i with
    | false => rfl
    | true =>
      have := part_bit ha h1
      have := part_bit hb h2
      unfold apart at h
      omega
theorem part_lt {a k s : Nat} (ha : a ≤ top k) (h : s + k ≤ 32) : a * 2 ^ s < 2 ^ 32 := by
  have h1 := lt_top ha
  have h2 : a * 2 ^ s < 2 ^ k * 2 ^ s := Nat.mul_lt_mul_of_pos_right h1 (Nat.two_pow_pos s)
  have h3 : 2 ^ k * 2 ^ s ≤ 2 ^ 32 := by rw [← Nat.pow_add]; exact Nat.pow_le_pow_right (by decide) (by omega)
  omega
/-- Three parts side by side. -/
def sumN (a b c s t u : Nat) : Nat := a * 2 ^ s + b * 2 ^ t + c * 2 ^ u
structure Three (k j l s t u n : Nat) : Prop where
  st : apart s k t j
  su : apart s k u l
  tu : apart t j u l
  hs : s + k ≤ n
  ht : t + j ≤ n
  hu : u + l ≤ n
  hn : n ≤ 32
theorem sum_or {a b c k j l s t u n : Nat} (H : Three k j l s t u n) (ha : a ≤ top k) (hb : b ≤ top j) (hc : c ≤ top l) : sumN a b c s t u = a * 2 ^ s ||| b * 2 ^ t ||| c * 2 ^ u := by
  have n1 := H.hn
  have l1 := part_lt (s := s) ha (by have := H.hs; omega)
  have l2 := part_lt (s := t) hb (by have := H.ht; omega)
  have l3 := part_lt (s := u) hc (by have := H.hu; omega)
  have e1 := add_or (show a * 2 ^ s < 2 ^ 62 by omega) (show b * 2 ^ t < 2 ^ 62 by omega) (parts_and ha hb H.st)
  unfold sumN
  rw [e1]
  refine add_or (by rw [← e1]; omega) (by omega) ?_
  rw [Nat.and_or_distrib_right, parts_and ha hc H.su, parts_and hb hc H.tu]
  rfl
theorem sum_lt {a b c k j l s t u n : Nat} (H : Three k j l s t u n) (ha : a ≤ top k) (hb : b ≤ top j) (hc : c ≤ top l) : sumN a b c s t u < 2 ^ n := by
  rw [sum_or H ha hb hc]
  have f : ∀ {a k s : Nat}, a ≤ top k → s + k ≤ n → a * 2 ^ s < 2 ^ n := fun {a k s} ha h => by
    have h1 := lt_top ha
    have h2 : a * 2 ^ s < 2 ^ k * 2 ^ s := Nat.mul_lt_mul_of_pos_right h1 (Nat.two_pow_pos s)
    have h3 : 2 ^ k * 2 ^ s ≤ 2 ^ n := by rw [← Nat.pow_add]; exact Nat.pow_le_pow_right (by decide) (by omega)
    omega
  exact Nat.or_lt_two_pow (Nat.or_lt_two_pow (f ha H.hs) (f hb H.ht)) (f hc H.hu)
/-- A part of a value. -/
def getN (v k s : Nat) : Nat := v / 2 ^ s % 2 ^ k
theorem get_bit (v k s i : Nat) : (getN v k s).testBit i = (decide (i < k) && v.testBit (s + i)) := by
  unfold getN
  rw [Nat.testBit_mod_two_pow, Nat.testBit_div_two_pow, Nat.add_comm]
theorem get_le (v k s : Nat) : getN v k s ≤ top k := by
  unfold getN top
  have := Nat.mod_lt (v / 2 ^ s) (Nat.two_pow_pos k)
  omega
theorem get_own {a k s : Nat} (ha : a ≤ top k) : getN (a * 2 ^ s) k s = a := by
  unfold getN
  rw [Nat.mul_div_cancel _ (Nat.two_pow_pos s), Nat.mod_eq_of_lt (lt_top ha)]
theorem get_other {b k s j t : Nat} (hb : b ≤ top j) (h : apart s k t j) : getN (b * 2 ^ t) k s = 0 := by
  apply Nat.eq_of_testBit_eq
  intro i
  rw [get_bit, Nat.zero_testBit]
  cases h1 : (b * 2 ^ t).testBit (s + i) with
  | false => simp
  | true =>
    have := part_bit hb h1
    unfold apart at h
    simp
    omega
theorem get_or (v w k s : Nat) : getN (v ||| w) k s = getN v k s ||| getN w k s := by
  apply Nat.eq_of_testBit_eq
  intro i
  rw [get_bit, Nat.testBit_or, Nat.testBit_or, get_bit, get_bit]
  cases decide (i < k) <;> simp
theorem apart_comm {s k t j : Nat} (h : apart s k t j) : apart t j s k := by unfold apart at *; omega
theorem sum_get {a b c k j l s t u n : Nat} (H : Three k j l s t u n) (ha : a ≤ top k) (hb : b ≤ top j) (hc : c ≤ top l) : getN (sumN a b c s t u) k s = a ∧ getN (sumN a b c s t u) j t = b ∧ getN (sumN a b c s t u) l u = c := by
  rw [sum_or H ha hb hc]
  refine ⟨?_, ?_, ?_⟩
  · rw [get_or, get_or, get_own ha, get_other hb H.st, get_other hc H.su]; simp
  · rw [get_or, get_or, get_own hb, get_other ha (apart_comm H.st), get_other hc H.tu]; simp
  · rw [get_or, get_or, get_own hc, get_other ha (apart_comm H.su), get_other hb (apart_comm H.tu)]; simp

/-- The bits of three parts. -/
def maskN (k j l s t u : Nat) : Nat := top k * 2 ^ s ||| top j * 2 ^ t ||| top l * 2 ^ u
theorem mask_sum {k j l s t u n : Nat} (H : Three k j l s t u n) : maskN k j l s t u = sumN (top k) (top j) (top l) s t u :=
  (sum_or H (Nat.le_refl _) (Nat.le_refl _) (Nat.le_refl _)).symm
theorem part_in {a k s : Nat} (ha : a ≤ top k) : a * 2 ^ s &&& top k * 2 ^ s = a * 2 ^ s := by
  apply Nat.eq_of_testBit_eq
  intro i
  rw [Nat.testBit_and, mask_bit]
  cases h1 : (a * 2 ^ s).testBit i with
  | false => rfl
  | true =>
    have := part_bit ha h1
    simp
    omega
theorem sum_in {a b c k j l s t u n : Nat} (H : Three k j l s t u n) (ha : a ≤ top k) (hb : b ≤ top j) (hc : c ≤ top l) : sumN a b c s t u &&& maskN k j l s t u = sumN a b c s t u := by
  rw [sum_or H ha hb hc]
  unfold maskN
  apply Nat.eq_of_testBit_eq
  intro i
  have e1 := congrArg (fun x => Nat.testBit x i) (part_in (s := s) ha)
  have e2 := congrArg (fun x => Nat.testBit x i) (part_in (s := t) hb)
  have e3 := congrArg (fun x => Nat.testBit x i) (part_in (s := u) hc)
  simp only [Nat.testBit_and, Nat.testBit_or] at *
  generalize (a * 2 ^ s).testBit i = x1 at *
  generalize (b * 2 ^ t).testBit i = x2 at *
  generalize (c * 2 ^ u).testBit i = x3 at *
  generalize (top k * 2 ^ s).testBit i = y1 at *
  generalize (top j * 2 ^ t).testBit i = y2 at *
  generalize (top l * 2 ^ u).testBit i = y3 at *
  cases x1 <;> cases x2 <;> cases x3 <;> cases y1 <;> cases y2 <;> cases y3 <;> simp_all
theorem sum_le_mask {a b c k j l s t u n : Nat} (H : Three k j l s t u n) (ha : a ≤ top k) (hb : b ≤ top j) (hc : c ≤ top l) : sumN a b c s t u ≤ maskN k j l s t u := by
  rw [← sum_in H ha hb hc]; exact Nat.and_le_right
theorem sum_low {a b c k j l s t u n : Nat} (H : Three k j l s t u n) (ha : a ≤ top k) (hb : b ≤ top j) (hc : c ≤ top l) (h : maskN k j l s t u % 2 ^ 8 = 0) : sumN a b c s t u % 2 ^ 8 = 0 := by
  rw [← sum_in H ha hb hc, Nat.and_mod_two_pow, h, Nat.and_zero]
/-- What is within the bits of three parts is their sum. -/
theorem of_mask {V k j l s t u n : Nat} (H : Three k j l s t u n) (h : V &&& maskN k j l s t u = V) : V = sumN (getN V k s) (getN V j t) (getN V l u) s t u := by
  rw [sum_or H (get_le _ _ _) (get_le _ _ _) (get_le _ _ _)]
  apply Nat.eq_of_testBit_eq
  intro i
  have e := congrArg (fun x => Nat.testBit x i) h
  unfold maskN at e
  have g : ∀ k s, (getN V k s * 2 ^ s).testBit i = (decide (s ≤ i) && decide (i - s < k) && V.testBit i) := fun k s => by
    rw [Nat.testBit_mul_two_pow, get_bit]
    by_cases hs : s ≤ i
    · rw [show s + (i - s) = i by omega]; simp [hs]
    · simp [hs]
  simp only [Nat.testBit_and, Nat.testBit_or, mask_bit] at e
  rw [Nat.testBit_or, Nat.testBit_or, g, g, g]
  generalize (decide (s ≤ i) && decide (i - s < k)) = y1 at *
  generalize (decide (t ≤ i) && decide (i - t < j)) = y2 at *
  generalize (decide (u ≤ i) && decide (i - u < l)) = y3 at *
  clear g h
  generalize V.testBit i = x at *
  cases x <;> cases y1 <;> cases y2 <;> cases y3 <;> simp_all
/-- A colour of three parts. -/
def colN (a b c : Nat) : Nat := a * 65536 + b * 256 + c
theorem col_parts {a b c : Nat} (ha : a ≤ 255) (hb : b ≤ 255) (hc : c ≤ 255) : colN a b c / 65536 % 256 = a ∧ colN a b c / 256 % 256 = b ∧ colN a b c % 256 = c ∧ colN a b c ≤ 16777215 := by unfold colN; omega
theorem col_own {x : Nat} (h : x ≤ 16777215) : colN (x / 65536 % 256) (x / 256 % 256) (x % 256) = x := by unfold colN; omega

/-- The value of a colour, the colour of a value. -/
def valueN (k j l s t u c : Nat) : Nat := sumN (downN (c / 65536 % 256) (top k)) (downN (c / 256 % 256) (top j)) (downN (c % 256) (top l)) s t u
def colourN (k j l s t u v : Nat) : Nat := colN (upN (getN v k s) (top k)) (upN (getN v j t) (top j)) (upN (getN v l u) (top l))
theorem colour_le {k j l s t u v : Nat} (hk : 1 ≤ k) (hj : 1 ≤ j) (hl : 1 ≤ l) : colourN k j l s t u v ≤ 16777215 :=
  (col_parts (up_le (get_le v k s) (top_pos hk)) (up_le (get_le v j t) (top_pos hj)) (up_le (get_le v l u) (top_pos hl))).2.2.2
theorem quant_eq {k j l s t u n : Nat} (H : Three k j l s t u n) (c : Nat) : colourN k j l s t u (valueN k j l s t u c) = colN (leftN (c / 65536 % 256) (top k)) (leftN (c / 256 % 256) (top j)) (leftN (c % 256) (top l)) := by
  obtain ⟨g1, g2, g3⟩ := sum_get H (a := downN (c / 65536 % 256) (top k)) (b := downN (c / 256 % 256) (top j)) (c := downN (c % 256) (top l)) (down_le (by omega)) (down_le (by omega)) (down_le (by omega))
  unfold colourN valueN
  rw [g1, g2, g3]; rfl
/-- What is left, twice, is as once. -/
theorem quant_quant {k j l s t u n : Nat} (H : Three k j l s t u n) (hk : 1 ≤ k ∧ k ≤ 16) (hj : 1 ≤ j ∧ j ≤ 16) (hl : 1 ≤ l ∧ l ≤ 16) (c : Nat) :
    colourN k j l s t u (valueN k j l s t u (colourN k j l s t u (valueN k j l s t u c))) = colourN k j l s t u (valueN k j l s t u c) := by
  rw [quant_eq H, quant_eq H]
  have up : ∀ {k x}, 1 ≤ k → leftN (x % 256) (top k) ≤ 255 := fun {k x} h => up_le (down_le (by omega)) (top_pos h)
  obtain ⟨p1, p2, p3, _⟩ := col_parts (a := leftN (c / 65536 % 256) (top k)) (b := leftN (c / 256 % 256) (top j)) (c := leftN (c % 256) (top l)) (up hk.1) (up hj.1) (up hl.1)
  rw [p1, p2, p3, left_left hk (by omega), left_left hj (by omega), left_left hl (by omega)]
theorem quant_same {k j l s t u n : Nat} (H : Three k j l s t u n) (hk : 8 ≤ k ∧ k ≤ 16) (hj : 8 ≤ j ∧ j ≤ 16) (hl : 8 ≤ l ∧ l ≤ 16) {c : Nat} (hc : c ≤ 16777215) : colourN k j l s t u (valueN k j l s t u c) = c := by
  rw [quant_eq H, left_same hk (by omega), left_same hj (by omega), left_same hl (by omega), col_own hc]
/-- A value of parts up to 255 leads back to itself. -/
theorem value_colour {k j l s t u n : Nat} (H : Three k j l s t u n) (hk : 1 ≤ k ∧ k ≤ 8) (hj : 1 ≤ j ∧ j ≤ 8) (hl : 1 ≤ l ∧ l ≤ 8) {v : Nat} (hv : v &&& maskN k j l s t u = v) : valueN k j l s t u (colourN k j l s t u v) = v := by
  obtain ⟨p1, p2, p3, _⟩ := col_parts (up_le (get_le v k s) (top_pos hk.1)) (up_le (get_le v j t) (top_pos hj.1)) (up_le (get_le v l u) (top_pos hl.1))
  unfold valueN
  show sumN (downN (colN _ _ _ / 65536 % 256) _) (downN (colN _ _ _ / 256 % 256) _) (downN (colN _ _ _ % 256) _) s t u = v
  rw [p1, p2, p3, down_up hk (get_le _ _ _), down_up hj (get_le _ _ _), down_up hl (get_le _ _ _)]
  exact (of_mask H hv).symm
end Go.Proofs.Ytbdlmcpdplmdnaa.Fmt
