/-
  Plain facts of layer 13 (format): what is written is read again. Nothing of the program is named here but what holds of numbers as bytes.
-/
import Derived.Test.YtbdlmcpdplmdnaaFmtRefP
import Derived.Test.YtbdlmcpdplmdnaaOctBack
namespace Go.Proofs.Ytbdlmcpdplmdnaa.Fmt
open Oct
set_option linter.unusedVariables false

theorem ok1 {n : Int} (h0 : 0 ≤ n) (h1 : n < 256) : okB 1 n = true := by
  unfold okB sizeB fitsB
  simp
  omega
theorem ok2 {n : Int} (h0 : 0 ≤ n) (h1 : n < 65536) : okB 2 n = true := by
  unfold okB sizeB fitsB
  simp
  omega
theorem put1 {n : Int} (h0 : 0 ≤ n) (h1 : n < 256) : putS 1 n = ⟨#[byt n 0]⟩ := by
  unfold putS
  rw [if_pos (ok1 h0 h1)]
  rfl
theorem put2 {n : Int} (h0 : 0 ≤ n) (h1 : n < 65536) : putS 2 n = ⟨#[byt n 1, byt n 0]⟩ := by
  unfold putS
  rw [if_pos (ok2 h0 h1)]
  rfl
theorem flag_bd (b : Bool) : 0 ≤ flagI b ∧ flagI b < 256 := by cases b <;> decide
/-- All numbers are bytes. -/
theorem Fm.Is.small {f : Fm} {k j l s t u n : Nat} (H : f.Is k j l s t u n) :
    (0 ≤ f.B ∧ f.B < 256) ∧ (0 ≤ f.D ∧ f.D < 256) ∧ (0 ≤ f.rm ∧ f.rm < 65536) ∧ (0 ≤ f.gm ∧ f.gm < 65536) ∧ (0 ≤ f.bm ∧ f.bm < 65536) ∧ (0 ≤ f.rs ∧ f.rs < 256) ∧ (0 ≤ f.gs ∧ f.gs < 256) ∧ (0 ≤ f.bs ∧ f.bs < 256) := by
  have h1 := top_small H.hk.2
  have h2 := top_small H.hj.2
  have h3 := top_small H.hl.2
  have hB := H.B
  have hn := H.hn
  have hD := H.D
  have r1 := H.rm
  have r2 := H.gm
  have r3 := H.bm
  have t1 := H.rs
  have t2 := H.gs
  have t3 := H.bs
  have e1 := H.three.hs
  have e2 := H.three.ht
  have e3 := H.three.hu
  omega
theorem Fm.Is.bytes_eq {f : Fm} {k j l s t u n : Nat} (H : f.Is k j l s t u n) :
    f.bytes = ⟨#[byt f.B 0, byt f.D 0, byt (flagI f.big) 0, byt (flagI f.tr) 0, byt f.rm 1, byt f.rm 0, byt f.gm 1, byt f.gm 0, byt f.bm 1, byt f.bm 0, byt f.rs 0, byt f.gs 0, byt f.bs 0, 0, 0, 0]⟩ := by
  obtain ⟨b1, b2, b3, b4, b5, b6, b7, b8⟩ := H.small
  have g1 := flag_bd f.big
  have g2 := flag_bd f.tr
  have hf : f.fits 10 = true := by
    simp [Fm.fits, sizeI, Fm.num, Fm.nums, ok1 b1.1 b1.2, ok1 b2.1 b2.2, ok1 g1.1 g1.2, ok1 g2.1 g2.2, ok2 b3.1 b3.2, ok2 b4.1 b4.2, ok2 b5.1 b5.2, ok1 b6.1 b6.2, ok1 b7.1 b7.2, ok1 b8.1 b8.2]
  unfold Fm.bytes
  rw [if_pos hf]
  simp [Fm.cat, sizeI, Fm.num, Fm.nums, put1 b1.1 b1.2, put1 b2.1 b2.2, put1 g1.1 g1.2, put1 g2.1 g2.2, put2 b3.1 b3.2, put2 b4.1 b4.2, put2 b5.1 b5.2, put1 b6.1 b6.2, put1 b7.1 b7.2, put1 b8.1 b8.2]
  rfl
theorem byt0 {n : Int} (h0 : 0 ≤ n) (h1 : n < 256) : ((byt n 0).toNat : Int) = n := by
  rw [byt_toNat]; simp; omega
theorem byt10 {n : Int} (h0 : 0 ≤ n) (h1 : n < 65536) : ((byt n 1).toNat : Int) * 256 + ((byt n 0).toNat : Int) = n := by
  rw [byt_toNat, byt_toNat]; simp; omega
theorem flag_not (b : Bool) : (((byt (flagI b) 0).toNat : Int) != 0) = b := by cases b <;> decide
theorem parse_bytes {f : Fm} (h : f.ok = true) (tail : ByteArray) : parF (f.bytes ++ tail) = f ∧ parE (f.bytes ++ tail) = 0 ∧ f.bytes.size = 16 := by
  obtain ⟨k, j, l, s, t, u, n, H⟩ := f.is h
  obtain ⟨b1, b2, b3, b4, b5, b6, b7, b8⟩ := H.small
  rw [H.bytes_eq]
  have hsz : ¬ (((⟨#[byt f.B 0, byt f.D 0, byt (flagI f.big) 0, byt (flagI f.tr) 0, byt f.rm 1, byt f.rm 0, byt f.gm 1, byt f.gm 0, byt f.bm 1, byt f.bm 0, byt f.rs 0, byt f.gs 0, byt f.bs 0, 0, 0, 0]⟩ : ByteArray) ++ tail).size < 16) := by
    rw [ByteArray.size_append]
    show ¬ (16 + tail.size < 16)
    omega
  have hF : fmtOf ((⟨#[byt f.B 0, byt f.D 0, byt (flagI f.big) 0, byt (flagI f.tr) 0, byt f.rm 1, byt f.rm 0, byt f.gm 1, byt f.gm 0, byt f.bm 1, byt f.bm 0, byt f.rs 0, byt f.gs 0, byt f.bs 0, 0, 0, 0]⟩ : ByteArray) ++ tail) = f := by
    unfold fmtOf fmtX two byA
    simp only [ByteArray.data_append, Array.toList_append, List.cons_append, List.getD_cons_zero, List.getD_cons_succ]
    rw [byt0 b1.1 b1.2, byt0 b2.1 b2.2, flag_not, flag_not, byt10 b3.1 b3.2, byt10 b4.1 b4.2, byt10 b5.1 b5.2, byt0 b6.1 b6.2, byt0 b7.1 b7.2, byt0 b8.1 b8.2]
  unfold parF parE
  rw [if_neg hsz, if_neg hsz, hF, if_pos h, if_pos h]
  exact ⟨rfl, rfl, rfl⟩

/-- A number's bytes, and the number of bytes. -/
def putL (big : Bool) (n : Nat) (v : Int) : List UInt8 := if big then beL n v else leL n v
def getL (big : Bool) (l : List UInt8) : Int := valL (if big then l.reverse else l)
theorem putL_length (big : Bool) (n : Nat) (v : Int) : (putL big n v).length = n := by
  unfold putL
  cases big
  · exact leL_length n v
  · exact beL_length n v
theorem emod_two (n P : Int) (hP : 0 < P) : n % (P * 256) = n % P + n / P % 256 * P := by
  have e1 := Int.mul_ediv_add_emod n P
  have e2 := Int.mul_ediv_add_emod (n / P) 256
  have r0 := Int.emod_nonneg n (Int.ne_of_gt hP)
  have r1 := Int.emod_lt_of_pos n hP
  have s0 := Int.emod_nonneg (n / P) (show (256 : Int) ≠ 0 by decide)
  have s1 := Int.emod_lt_of_pos (n / P) (show (0 : Int) < 256 by decide)
  generalize n % P = r at *
  generalize n / P % 256 = d at *
  generalize n / P / 256 = k at *
  generalize n / P = q at *
  have hd : 0 ≤ d * P := Int.mul_nonneg s0 (Int.le_of_lt hP)
  have hd2 : d * P ≤ 255 * P := Int.mul_le_mul_of_nonneg_right (by omega) (Int.le_of_lt hP)
  have en : n = P * 256 * k + (r + d * P) := by
    rw [← e1, ← e2, Int.mul_add, Int.mul_assoc, Int.mul_comm P d]
    omega
  rw [en, Int.mul_add_emod_self_left]
  exact Int.emod_eq_of_lt (by omega) (by omega)
theorem valL_leLZ (s : Nat) (n : Int) : valL (leL s n) = n % 2 ^ (8 * s) := by
  induction s with
  | zero => simp [leL, valL]
  | succ s ih =>
    have hb := byt_toNat n s
    rw [leL_succ, valL_snoc, ih, leL_length, hb, show 8 * (s + 1) = 8 * s + 8 by omega, Int.pow_add]
    exact (emod_two n _ (Int.pow_pos (by decide))).symm
/-- WHAT IS PUT IS GOT AGAIN. -/
theorem get_put (big : Bool) (n : Nat) (v : Int) : getL big (putL big n v) = v % 2 ^ (8 * n) := by
  unfold getL putL
  cases big
  · exact valL_leLZ n v
  · simp only [if_true]
    unfold beL
    rw [List.reverse_reverse]
    exact valL_leLZ n v
/-- How many bytes a value has; its bytes; the value of bytes. -/
def Fm.size (f : Fm) : Nat := if f.ok then (f.B / 8).toNat else 0
def Fm.put (f : Fm) (v : Int) : ByteArray := if f.ok then ⟨(putL f.big (f.B / 8).toNat v).toArray⟩ else ⟨#[]⟩
def Fm.get (f : Fm) (t : ByteArray) : Int := if f.ok then if t.size < f.size then 0 else getL f.big (t.data.toList.take f.size) else 0
def Fm.getE (f : Fm) (t : ByteArray) : Int := if f.ok then if t.size < f.size then 2 else 0 else 130
/-- All bits of parts; as few bytes as they need, and from where on. -/
def Fm.mask (f : Fm) : Nat := maskN (width f.rm) (width f.gm) (width f.bm) f.rs.toNat f.gs.toNat f.bs.toNat
def Fm.few (f : Fm) : Nat × Nat := if f.ok then if f.B = 32 ∧ f.D ≤ 24 then if f.mask < 16777216 then (3, 0) else if f.mask % 256 = 0 then (3, 8) else (f.size, 0) else (f.size, 0) else (0, 0)
def Fm.cput (f : Fm) (v : Int) : ByteArray := if f.ok then ⟨(putL f.big f.few.1 (v % 2 ^ f.B.toNat / 2 ^ f.few.2)).toArray⟩ else ⟨#[]⟩
def Fm.cget (f : Fm) (t : ByteArray) : Int := if f.ok then if t.size < f.few.1 then 0 else getL f.big (t.data.toList.take f.few.1) * 2 ^ f.few.2 else 0
def Fm.cgetE (f : Fm) (t : ByteArray) : Int := if f.ok then if t.size < f.few.1 then 2 else 0 else 130
theorem list_take {l : List UInt8} {n : Nat} (h : l.length = n) (tail : ByteArray) : (((⟨l.toArray⟩ : ByteArray) ++ tail).data.toList.take n) = l ∧ ¬ ((⟨l.toArray⟩ : ByteArray) ++ tail).size < n := by
  constructor
  · rw [ByteArray.data_append, Array.toList_append]
    exact List.take_left' h
  · rw [ByteArray.size_append]
    show ¬ (l.toArray.size + tail.size < n)
    rw [List.size_toArray]
    omega
theorem size_bits {f : Fm} {k j l s t u n : Nat} (H : f.Is k j l s t u n) : 8 * (f.B / 8).toNat = f.B.toNat ∧ f.B.toNat = n ∧ (f.B / 8).toNat ≤ 4 := by
  have := H.B
  have := H.hn
  omega
theorem put_back {f : Fm} (h : f.ok = true) (v : Int) (tail : ByteArray) : f.get (f.put v ++ tail) = v % 2 ^ f.B.toNat ∧ f.getE (f.put v ++ tail) = 0 ∧ (f.put v).size = f.size := by
  obtain ⟨k, j, l, s, t, u, n, H⟩ := f.is h
  obtain ⟨e1, _, _⟩ := size_bits H
  have hs : f.size = (f.B / 8).toNat := if_pos h
  have hl := putL_length f.big (f.B / 8).toNat v
  obtain ⟨t1, t2⟩ := list_take hl tail
  unfold Fm.get Fm.getE Fm.put
  rw [if_pos h, if_pos h, if_pos h, hs, if_neg t2, if_neg t2, t1, get_put, e1]
  exact ⟨rfl, rfl, by show Array.size _ = _; rw [List.size_toArray]; exact hl⟩
theorem Fm.Is.mask_eq {f : Fm} {k j l s t u n : Nat} (H : f.Is k j l s t u n) : f.mask = maskN k j l s t u := by
  unfold Fm.mask
  rw [H.rm, H.gm, H.bm, H.rs, H.gs, H.bs, width_top H.hk, width_top H.hj, width_top H.hl]
  rfl
/-- A colour's value is within the bits of its parts. -/
theorem val_le {f : Fm} {k j l s t u n : Nat} (H : f.Is k j l s t u n) (c : Int) : f.val c ≤ f.mask ∧ (f.mask % 256 = 0 → f.val c % 256 = 0) ∧ f.val c < 2 ^ n := by
  rw [H.val_eq, H.mask_eq]
  unfold valueN
  have d1 := down_le (m := top k) (byte_le (colZ c / 65536))
  have d2 := down_le (m := top j) (byte_le (colZ c / 256))
  have d3 := down_le (m := top l) (byte_le (colZ c))
  exact ⟨sum_le_mask H.three d1 d2 d3, fun h => sum_low H.three d1 d2 d3 h, sum_lt H.three d1 d2 d3⟩
theorem few_cases {f : Fm} (h : f.ok = true) : (f.few = (3, 0) ∧ f.B = 32 ∧ f.mask < 16777216) ∨ (f.few = (3, 8) ∧ f.B = 32 ∧ f.mask % 256 = 0) ∨ f.few = (f.size, 0) := by
  unfold Fm.few
  rw [if_pos h]
  by_cases h1 : f.B = 32 ∧ f.D ≤ 24
  · rw [if_pos h1]
    by_cases h2 : f.mask < 16777216
    · rw [if_pos h2]; exact .inl ⟨rfl, h1.1, h2⟩
    · rw [if_neg h2]
      by_cases h3 : f.mask % 256 = 0
      · rw [if_pos h3]; exact .inr (.inl ⟨rfl, h1.1, h3⟩)
      · rw [if_neg h3]; exact .inr (.inr rfl)
  · rw [if_neg h1]; exact .inr (.inr rfl)
theorem cput_back {f : Fm} (h : f.ok = true) (c : Int) (tail : ByteArray) : f.cget (f.cput (f.val c : Nat) ++ tail) = (f.val c : Nat) ∧ f.cgetE (f.cput (f.val c : Nat) ++ tail) = 0 ∧ (f.cput (f.val c : Nat)).size = f.few.1 := by
  obtain ⟨k, j, l, s, t, u, n, H⟩ := f.is h
  obtain ⟨e1, e2, _⟩ := size_bits H
  obtain ⟨v1, v2, v3⟩ := val_le H c
  have hs : f.size = (f.B / 8).toNat := if_pos h
  have hl := putL_length f.big f.few.1 ((f.val c : Nat) % 2 ^ f.B.toNat / 2 ^ f.few.2)
  obtain ⟨t1, t2⟩ := list_take hl tail
  unfold Fm.cget Fm.cgetE Fm.cput
  rw [if_pos h, if_pos h, if_pos h, if_neg t2, if_neg t2, t1, get_put]
  refine ⟨?_, rfl, by show Array.size _ = _; rw [List.size_toArray]; exact hl⟩
  have hm : ((f.val c : Nat) : Int) % 2 ^ f.B.toNat = (f.val c : Nat) := by
    rw [e2]
    refine Int.emod_eq_of_lt (by omega) ?_
    have : ((2 ^ n : Nat) : Int) = 2 ^ n := by simp
    omega
  rw [hm]
  rcases few_cases h with ⟨hf, hB, hlt⟩ | ⟨hf, hB, h0⟩ | hf
  · rw [hf]
    simp only
    rw [show (2 : Int) ^ (8 * 3) = 16777216 from rfl, show (2 : Int) ^ 0 = 1 from rfl]
    omega
  · have := v2 h0
    have h32 : n = 32 := by have := H.B; omega
    rw [h32] at v3
    rw [hf]
    simp only
    rw [show (2 : Int) ^ (8 * 3) = 16777216 from rfl, show (2 : Int) ^ 8 = 256 from rfl]
    have : (2 : Nat) ^ 32 = 4294967296 := by decide
    omega
  · rw [hf]
    simp only
    rw [hs, e1, show (2 : Int) ^ 0 = 1 from rfl, Int.ediv_one, hm, Int.mul_one]

/-- Big or not. -/
def Fm.flip (f : Fm) : Fm := { f with big := !f.big }
theorem flip_ok (f : Fm) : f.flip.ok = f.ok := rfl
theorem flip_val (f : Fm) (c : Int) : f.flip.val c = f.val c := rfl
theorem flip_col (f : Fm) (c : Int) : f.flip.col c = f.col c := rfl
theorem flip_few (f : Fm) : f.flip.few = f.few := rfl
theorem put_flip (big : Bool) (n : Nat) (v : Int) : (putL (!big) n v).reverse = putL big n v := by
  unfold putL beL
  cases big <;> simp
theorem put_other (f : Fm) (v : Int) : revS (f.flip.put v) = f.put v := by
  have hb : f.flip.big = !f.big := rfl
  have hB : f.flip.B = f.B := rfl
  unfold Fm.put revS
  rw [flip_ok, hb, hB]
  cases f.ok with
  | true =>
    rw [if_pos rfl, if_pos rfl, ← put_flip f.big]
  | false => rfl
theorem cput_other (f : Fm) (v : Int) : revS (f.flip.cput v) = f.cput v := by
  have hb : f.flip.big = !f.big := rfl
  have hB : f.flip.B = f.B := rfl
  unfold Fm.cput revS
  rw [flip_ok, flip_few, hb, hB]
  cases f.ok with
  | true =>
    rw [if_pos rfl, if_pos rfl, ← put_flip f.big]
  | false => rfl
theorem put_size_le (f : Fm) (v : Int) : (f.put v).size ≤ 4 ∧ (f.cput v).size ≤ 4 := by
  cases h : f.ok with
  | false =>
    unfold Fm.put Fm.cput
    rw [h]
    exact ⟨Nat.zero_le _, Nat.zero_le _⟩
  | true =>
    obtain ⟨k, j, l, s, t, u, n, H⟩ := f.is h
    obtain ⟨_, _, e3⟩ := size_bits H
    have hs : f.size = (f.B / 8).toNat := if_pos h
    constructor
    · unfold Fm.put
      rw [if_pos h]
      show Array.size _ ≤ 4
      rw [List.size_toArray, putL_length]
      exact e3
    · unfold Fm.cput
      rw [if_pos h]
      show Array.size _ ≤ 4
      rw [List.size_toArray, putL_length]
      rcases few_cases h with ⟨hf, _⟩ | ⟨hf, _⟩ | hf
      · rw [hf]; decide
      · rw [hf]; decide
      · rw [hf, hs]; exact e3

/-- WHAT IS LEFT OF A COLOUR. -/
theorem colZ_own {c : Nat} (h : c ≤ 16777215) : colZ (c : Int) = c := by unfold colZ; omega
theorem colZ_le (c : Int) : colZ c ≤ 16777215 := by unfold colZ; omega
theorem left_eq {f : Fm} {k j l s t u n : Nat} (H : f.Is k j l s t u n) (c : Int) : f.left c = colourN k j l s t u (valueN k j l s t u (colZ c)) := by
  unfold Fm.left
  rw [H.col_eq, H.val_eq, colourZ_nat]
theorem left_le {f : Fm} (h : f.ok = true) (c : Int) : f.left c ≤ 16777215 := by
  obtain ⟨k, j, l, s, t, u, n, H⟩ := f.is h
  rw [left_eq H]
  exact colour_le H.hk.1 H.hj.1 H.hl.1
theorem left_twice {f : Fm} (h : f.ok = true) (c : Int) : f.left (f.left c : Nat) = f.left c := by
  obtain ⟨k, j, l, s, t, u, n, H⟩ := f.is h
  rw [left_eq H (f.left c : Nat), colZ_own (left_le h c), left_eq H c]
  exact quant_quant H.three H.hk H.hj H.hl _
theorem left_low (f : Fm) (c : Int) : f.left (colZ c : Nat) = f.left c := by
  unfold Fm.left Fm.val
  rw [colZ_own (colZ_le c)]
theorem top_255 {k : Nat} (hk : 1 ≤ k ∧ k ≤ 16) : (255 ≤ top k ↔ 8 ≤ k) ∧ (top k ≤ 255 ↔ k ≤ 8) := by
  have : ∀ k, k < 17 → 1 ≤ k → (255 ≤ top k ↔ 8 ≤ k) ∧ (top k ≤ 255 ↔ k ≤ 8) := by decide
  exact this k (by omega) hk.1
theorem left_all {f : Fm} (h : f.ok = true) (h1 : 255 ≤ f.rm) (h2 : 255 ≤ f.gm) (h3 : 255 ≤ f.bm) (c : Int) : f.left c = colZ c := by
  obtain ⟨k, j, l, s, t, u, n, H⟩ := f.is h
  have e1 := (top_255 H.hk).1.1 (by have := H.rm; omega)
  have e2 := (top_255 H.hj).1.1 (by have := H.gm; omega)
  have e3 := (top_255 H.hl).1.1 (by have := H.bm; omega)
  rw [left_eq H]
  exact quant_same H.three ⟨e1, H.hk.2⟩ ⟨e2, H.hj.2⟩ ⟨e3, H.hl.2⟩ (colZ_le c)
theorem val_col {f : Fm} (h : f.ok = true) (h1 : f.rm ≤ 255) (h2 : f.gm ≤ 255) (h3 : f.bm ≤ 255) {v : Nat} (hv : v &&& f.mask = v) : f.val (f.col v : Nat) = v := by
  obtain ⟨k, j, l, s, t, u, n, H⟩ := f.is h
  have e1 := (top_255 H.hk).2.1 (by have := H.rm; omega)
  have e2 := (top_255 H.hj).2.1 (by have := H.gm; omega)
  have e3 := (top_255 H.hl).2.1 (by have := H.bm; omega)
  rw [H.mask_eq] at hv
  rw [H.val_eq, H.col_eq, colourZ_nat, colZ_own (colour_le H.hk.1 H.hj.1 H.hl.1)]
  exact value_colour H.three ⟨H.hk.1, e1⟩ ⟨H.hj.1, e2⟩ ⟨H.hl.1, e3⟩ hv
end Go.Proofs.Ytbdlmcpdplmdnaa.Fmt
