/-
  Plain facts of layer 4: bits by a polynomial. Nothing of the program is named here.
-/
import Derived.WalkKit
import Derived.ProofKit
namespace Go.Proofs.Ytkpnpldjhgpaiaa.Crc

/-- One step. -/
def st (n : Nat) : Nat := if n % 2 = 1 then n / 2 ^^^ 3988292384 else n / 2
/-- So many steps. -/
def sts : Nat → Nat → Nat
  | 0, n => n
  | k + 1, n => st (sts k n)
/-- A sum behind one byte. -/
def bst (c : Nat) (b : UInt8) : Nat := sts 8 ((c ^^^ b.toNat) % 256) ^^^ c / 256
/-- A sum behind bytes. -/
def crc (c : Nat) (l : List UInt8) : Nat := l.foldl bst c

theorem st_xor (a b : Nat) : st (a ^^^ b) = st a ^^^ st b := by
  unfold st
  have h1 : (a ^^^ b) / 2 = a / 2 ^^^ b / 2 := Nat.xor_div_two_pow (n := 1)
  have h2 : (a ^^^ b) % 2 = (a + b) % 2 := by
    have h3 : (a ^^^ b) % 2 = a % 2 ^^^ b % 2 := Nat.xor_mod_two_pow (n := 1)
    rw [h3, Nat.add_mod]
    rcases Nat.mod_two_eq_zero_or_one a with ha | ha <;> rcases Nat.mod_two_eq_zero_or_one b with hb | hb <;> rw [ha, hb] <;> rfl
  rw [h1, h2]
  by_cases ha : a % 2 = 1 <;> by_cases hb : b % 2 = 1
  · rw [if_neg (by omega), if_pos ha, if_pos hb]
    rw [Nat.xor_assoc, Nat.xor_comm 3988292384, Nat.xor_assoc, Nat.xor_self, Nat.xor_zero]
  · rw [if_pos (by omega), if_pos ha, if_neg hb]
    rw [Nat.xor_assoc, Nat.xor_assoc, Nat.xor_comm (b / 2)]
  · rw [if_pos (by omega), if_neg ha, if_pos hb, Nat.xor_assoc]
  · rw [if_neg (by omega), if_neg ha, if_neg hb]

theorem sts_xor (k a b : Nat) : sts k (a ^^^ b) = sts k a ^^^ sts k b := by
  induction k with
  | zero => rfl
  | succ k ih => show st _ = st _ ^^^ st _; rw [ih, st_xor]

theorem sts_succ' (k n : Nat) : sts (k + 1) n = sts k (st n) := by
  induction k with
  | zero => rfl
  | succ k ih => show st (sts (k + 1) n) = st (sts k (st n)); rw [ih]

theorem sts_add (j k n : Nat) : sts (j + k) n = sts j (sts k n) := by
  induction j with
  | zero => rw [Nat.zero_add]; rfl
  | succ j ih => rw [show j + 1 + k = (j + k) + 1 by omega]; show st _ = st _; rw [ih]

theorem st_two (m : Nat) : st (2 * m) = m := by
  unfold st; rw [if_neg (by omega)]; omega

theorem sts_pow (k m : Nat) : sts k (2 ^ k * m) = m := by
  induction k generalizing m with
  | zero => simp [sts]
  | succ k ih => rw [sts_succ', show 2 ^ (k + 1) * m = 2 * (2 ^ k * m) by rw [Nat.pow_succ, Nat.mul_comm (2 ^ k) 2, Nat.mul_assoc], st_two, ih]

theorem split8 (x : Nat) : x = x % 256 ^^^ 256 * (x / 256) := by
  apply Nat.eq_of_testBit_eq
  intro i
  rw [Nat.testBit_xor, show (256 : Nat) = 2 ^ 8 by rfl, Nat.testBit_mod_two_pow, Nat.testBit_two_pow_mul, Nat.testBit_div_two_pow]
  by_cases hi : i < 8
  · simp [hi]; rw [show decide (8 ≤ i) = false from decide_eq_false (by omega)]; simp
  · simp [hi]; rw [show i - 8 + 8 = i by omega]; simp; omega

theorem byte_xor (c : Nat) (b : UInt8) : (c ^^^ b.toNat) / 256 = c / 256 := by
  have h : (c ^^^ b.toNat) / 2 ^ 8 = c / 2 ^ 8 ^^^ b.toNat / 2 ^ 8 := Nat.xor_div_two_pow
  have e : b.toNat / 2 ^ 8 = 0 := Nat.div_eq_of_lt b.toNat_lt
  rw [e, Nat.xor_zero] at h
  exact h

theorem bst_eq (c : Nat) (b : UInt8) : bst c b = sts 8 (c ^^^ b.toNat) := by
  conv => rhs; rw [split8 (c ^^^ b.toNat), sts_xor, byte_xor, show (256 : Nat) = 2 ^ 8 by rfl, sts_pow]
  rfl

theorem st_lt (x : Nat) (h : x < 4294967296) : st x < 4294967296 := by
  unfold st
  split
  · exact Nat.xor_lt_two_pow (n := 32) (by omega) (by omega)
  · omega
theorem sts_lt (k x : Nat) (h : x < 4294967296) : sts k x < 4294967296 := by
  induction k with
  | zero => exact h
  | succ k ih => exact st_lt _ ih
theorem xor_lt (a b : Nat) (ha : a < 4294967296) (hb : b < 4294967296) : a ^^^ b < 4294967296 := Nat.xor_lt_two_pow (n := 32) ha hb
theorem xor_byte_lt (c : Nat) (b : UInt8) (hc : c < 4294967296) : c ^^^ b.toNat < 4294967296 := xor_lt _ _ hc (by have := b.toNat_lt; omega)
theorem bst_lt (c : Nat) (b : UInt8) (hc : c < 4294967296) : bst c b < 4294967296 := by
  rw [bst_eq]; exact sts_lt _ _ (xor_byte_lt c b hc)
theorem crc_lt (l : List UInt8) : ∀ c, c < 4294967296 → crc c l < 4294967296 := by
  induction l with
  | nil => intro c h; exact h
  | cons b r ih => intro c h; exact ih _ (bst_lt c b h)
theorem crc_append (c : Nat) (l m : List UInt8) : crc c (l ++ m) = crc (crc c l) m := List.foldl_append ..
theorem crc_step (c : Nat) (l : List UInt8) (k : Nat) (h : k < l.length) (b : UInt8) (hb : l[k] = b) : crc c (l.take (k + 1)) = bst (crc c (l.take k)) b := by
  rw [List.take_succ_eq_append_getElem h, crc_append, hb]; rfl

theorem xor_eq_zero {a b : Nat} (h : a ^^^ b = 0) : a = b := by
  have h2 : a ^^^ b ^^^ b = 0 ^^^ b := by rw [h]
  rw [Nat.xor_assoc, Nat.xor_self, Nat.xor_zero, Nat.zero_xor] at h2
  exact h2

theorem st_zero (z : Nat) (hz : z < 4294967296) (h : st z = 0) : z = 0 := by
  unfold st at h
  split at h
  · have := xor_eq_zero h; omega
  · omega
theorem st_inj (x y : Nat) (hx : x < 4294967296) (hy : y < 4294967296) (h : st x = st y) : x = y := by
  apply xor_eq_zero
  refine st_zero _ (xor_lt _ _ hx hy) ?_
  rw [st_xor, h, Nat.xor_self]
theorem sts_inj (k x y : Nat) (hx : x < 4294967296) (hy : y < 4294967296) (h : sts k x = sts k y) : x = y := by
  induction k with
  | zero => exact h
  | succ k ih => exact ih (st_inj _ _ (sts_lt _ _ hx) (sts_lt _ _ hy) h)
theorem xor_right_inj {a b c : Nat} (h : a ^^^ c = b ^^^ c) : a = b := by
  have h2 : a ^^^ c ^^^ c = b ^^^ c ^^^ c := by rw [h]
  rw [Nat.xor_assoc, Nat.xor_self, Nat.xor_zero, Nat.xor_assoc, Nat.xor_self, Nat.xor_zero] at h2
  exact h2
theorem xor_left_inj {a b c : Nat} (h : c ^^^ a = c ^^^ b) : a = b := by
  rw [Nat.xor_comm c, Nat.xor_comm c] at h; exact xor_right_inj h
theorem crc_inj (l : List UInt8) : ∀ x y, x < 4294967296 → y < 4294967296 → crc x l = crc y l → x = y := by
  induction l with
  | nil => intro x y _ _ h; exact h
  | cons b r ih =>
    intro x y hx hy h
    have h1 := ih _ _ (bst_lt x b hx) (bst_lt y b hy) h
    rw [bst_eq, bst_eq] at h1
    exact xor_right_inj (sts_inj _ _ _ (xor_byte_lt x b hx) (xor_byte_lt y b hy) h1)

/-- Bytes as one number, the least first. -/
def num : List UInt8 → Nat
  | [] => 0
  | b :: r => b.toNat ^^^ 256 * num r
theorem crc_num (l : List UInt8) : ∀ c, crc c l = sts (8 * l.length) (c ^^^ num l) := by
  induction l with
  | nil => intro c; show c = c ^^^ 0; rw [Nat.xor_zero]
  | cons b r ih =>
    intro c
    show crc (bst c b) r = _
    rw [ih, bst_eq, List.length_cons, Nat.mul_add, sts_add]
    show _ = sts (8 * r.length) (sts 8 (c ^^^ (b.toNat ^^^ 256 * num r)))
    rw [← Nat.xor_assoc, sts_xor 8 (c ^^^ b.toNat), show (256 : Nat) = 2 ^ 8 by rfl, sts_pow]
theorem num_mod (b : UInt8) (n : Nat) : (b.toNat ^^^ 256 * n) % 256 = b.toNat := by
  have h : (b.toNat ^^^ 256 * n) % 2 ^ 8 = b.toNat % 2 ^ 8 ^^^ (256 * n) % 2 ^ 8 := Nat.xor_mod_two_pow
  have e : (256 * n) % 2 ^ 8 = 0 := by omega
  have e2 : b.toNat % 2 ^ 8 = b.toNat := Nat.mod_eq_of_lt b.toNat_lt
  rw [e, e2, Nat.xor_zero] at h
  exact h
theorem num_div (b : UInt8) (n : Nat) : (b.toNat ^^^ 256 * n) / 256 = n := by
  rw [Nat.xor_comm, byte_xor]; omega
theorem num_lt (l : List UInt8) : num l < 256 ^ l.length := by
  induction l with
  | nil => decide
  | cons b r ih =>
    have h1 := num_div b (num r)
    show b.toNat ^^^ 256 * num r < 256 ^ (r.length + 1)
    generalize b.toNat ^^^ 256 * num r = x at *
    rw [Nat.pow_succ]
    generalize 256 ^ r.length = y at *
    omega
theorem num_inj (l m : List UInt8) (hl : l.length = m.length) (h : num l = num m) : l = m := by
  induction l generalizing m with
  | nil => cases m with
    | nil => rfl
    | cons _ _ => simp at hl
  | cons b r ih => cases m with
    | nil => simp at hl
    | cons d q =>
      simp only [List.length_cons, Nat.add_right_cancel_iff] at hl
      have h : b.toNat ^^^ 256 * num r = d.toNat ^^^ 256 * num q := h
      have h1 : (b.toNat ^^^ 256 * num r) % 256 = (d.toNat ^^^ 256 * num q) % 256 := by rw [h]
      have h2 : (b.toNat ^^^ 256 * num r) / 256 = (d.toNat ^^^ 256 * num q) / 256 := by rw [h]
      rw [num_mod, num_mod] at h1
      rw [num_div, num_div] at h2
      rw [ih q hl h2, UInt8.toNat_inj.1 h1]

/-- Up to four bytes side by side that are other ones make another sum. -/
theorem harm (c : Nat) (hc : c < 4294967296) (p u v q : List UInt8) (hl : u.length = v.length) (h4 : u.length ≤ 4) (h : crc c (p ++ u ++ q) = crc c (p ++ v ++ q)) : u = v := by
  rw [crc_append, crc_append, crc_append c (p ++ v), crc_append c p v] at h
  have hp := crc_lt p c hc
  generalize crc c p = d at *
  have h1 := crc_inj q _ _ (crc_lt u d hp) (crc_lt v d hp) h
  rw [crc_num, crc_num, hl] at h1
  have hb (l : List UInt8) (hl : l.length ≤ 4) : num l < 4294967296 := Nat.lt_of_lt_of_le (num_lt l) (Nat.pow_le_pow_right (by decide) hl)
  have h2 := sts_inj _ _ _ (xor_lt _ _ hp (hb u h4)) (xor_lt _ _ hp (hb v (by omega))) h1
  exact num_inj u v hl (xor_left_inj h2)

theorem bst_lin (c1 c2 c3 : Nat) (b1 b2 b3 : UInt8) : bst (c1 ^^^ c2 ^^^ c3) (b1 ^^^ b2 ^^^ b3) = bst c1 b1 ^^^ bst c2 b2 ^^^ bst c3 b3 := by
  rw [bst_eq, bst_eq, bst_eq, bst_eq, ← sts_xor, ← sts_xor, UInt8.toNat_xor, UInt8.toNat_xor]
  congr 1
  ac_rfl

/-- Three texts, byte by byte. -/
def mix3 : List UInt8 → List UInt8 → List UInt8 → List UInt8
  | a :: r, b :: s, c :: t => (a ^^^ b ^^^ c) :: mix3 r s t
  | _, _, _ => []
theorem crc_lin (n : Nat) : ∀ (l1 l2 l3 : List UInt8) (c1 c2 c3 : Nat), l1.length = n → l2.length = n → l3.length = n → crc (c1 ^^^ c2 ^^^ c3) (mix3 l1 l2 l3) = crc c1 l1 ^^^ crc c2 l2 ^^^ crc c3 l3 := by
  induction n with
  | zero =>
    intro l1 l2 l3 c1 c2 c3 h1 h2 h3
    obtain rfl := List.length_eq_zero_iff.1 h1
    obtain rfl := List.length_eq_zero_iff.1 h2
    obtain rfl := List.length_eq_zero_iff.1 h3
    rfl
  | succ n ih =>
    intro l1 l2 l3 c1 c2 c3 h1 h2 h3
    match l1, l2, l3, h1, h2, h3 with
    | a :: r, b :: s, c :: t, h1, h2, h3 =>
      simp only [List.length_cons, Nat.add_right_cancel_iff] at h1 h2 h3
      show crc (bst _ (a ^^^ b ^^^ c)) (mix3 r s t) = crc (bst c1 a) r ^^^ crc (bst c2 b) s ^^^ crc (bst c3 c) t
      rw [bst_lin, ih r s t _ _ _ h1 h2 h3]

theorem mix3_length (n : Nat) : ∀ (l1 l2 l3 : List UInt8), l1.length = n → l2.length = n → l3.length = n → (mix3 l1 l2 l3).length = n := by
  induction n with
  | zero =>
    intro l1 l2 l3 h1 h2 h3
    obtain rfl := List.length_eq_zero_iff.1 h1
    rfl
  | succ n ih =>
    intro l1 l2 l3 h1 h2 h3
    match l1, l2, l3, h1, h2, h3 with
    | a :: r, b :: s, c :: t, h1, h2, h3 =>
      simp only [List.length_cons, Nat.add_right_cancel_iff] at h1 h2 h3
      show (mix3 r s t).length + 1 = n + 1
      rw [ih r s t h1 h2 h3]
theorem mix3_get : ∀ (l1 l2 l3 : List UInt8) (j : Nat) (h : j < (mix3 l1 l2 l3).length) (h1 : j < l1.length) (h2 : j < l2.length) (h3 : j < l3.length), (mix3 l1 l2 l3)[j] = l1[j] ^^^ l2[j] ^^^ l3[j]
  | a :: r, b :: s, c :: t, 0, _, _, _, _ => rfl
  | a :: r, b :: s, c :: t, j + 1, h, h1, h2, h3 => by
    simp only [mix3, List.length_cons, Nat.add_lt_add_iff_right] at h h1 h2 h3
    exact mix3_get r s t j h h1 h2 h3

/-- Of a number the lowest 32 bits. -/
def low (c : Int) : Nat := (c % 4294967296).toNat
theorem low_lt (c : Int) : low c < 4294967296 := by unfold low; omega
theorem low_int (c : Int) : ((low c : Nat) : Int) = c % 4294967296 := by unfold low; omega
theorem low_nat (n : Nat) (h : n < 4294967296) : low n = n := by unfold low; omega

/-- A sum behind more bytes. -/
def moreV (c : Int) (l : List UInt8) : Nat := crc (low c) l
theorem moreV_lt (c : Int) (l : List UInt8) : moreV c l < 4294967296 := crc_lt l _ (low_lt c)
theorem moreV_append (c : Int) (l m : List UInt8) : moreV c (l ++ m) = moreV (moreV c l) m := by
  unfold moreV
  rw [crc_append, low_nat _ (crc_lt l _ (low_lt c))]

/-- The table, as numbers. -/
def tab : List Nat := (List.range 256).map (sts 8)
theorem tab_length : tab.length = 256 := by simp [tab]
theorem tab_get (j : Nat) (h : j < 256) : tab[j]'(by rw [tab_length]; exact h) = sts 8 j := by simp [tab]

end Go.Proofs.Ytkpnpldjhgpaiaa.Crc
