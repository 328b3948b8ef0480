/-
  Contracts of octets.read, number, Int, Little, Signed of a cursor.
-/
import Derived.Test.YtbdlmcpdplmdnaaOctCur
namespace Go.Proofs.Ytbdlmcpdplmdnaa.Oct
open Go.ChangeShapes Go.WideShapes Go.ChangeAt Go.RowKit
set_option linter.unusedVariables false
set_option maxRecDepth 100000

/-- The number of bytes, the least one first. -/
def valL : List UInt8 → Int
  | [] => 0
  | b :: r => b.toNat + 256 * valL r

theorem valL_bd (l : List UInt8) : 0 ≤ valL l ∧ valL l < 2 ^ (8 * l.length) := by
  induction l with
  | nil => simp [valL]
  | cons b r ih =>
    have hb := b.toNat_lt
    have e : (2 : Int) ^ (8 * (r.length + 1)) = 2 ^ (8 * r.length) * 256 := by rw [show 8 * (r.length + 1) = 8 * r.length + 8 by omega, Int.pow_add]; rfl
    simp only [valL, List.length_cons]
    rw [e]
    omega

theorem valL_snoc (l : List UInt8) (b : UInt8) : valL (l ++ [b]) = valL l + b.toNat * 2 ^ (8 * l.length) := by
  induction l with
  | nil => simp [valL]
  | cons c r ih =>
    have e : (2 : Int) ^ (8 * (r.length + 1)) = 2 ^ (8 * r.length) * 256 := by rw [show 8 * (r.length + 1) = 8 * r.length + 8 by omega, Int.pow_add]; rfl
    simp only [List.cons_append, valL, List.length_cons]
    rw [ih, e, Int.mul_add, ← Int.mul_assoc, Int.add_assoc, Int.mul_comm 256 (b.toNat : Int), Int.mul_assoc, Int.mul_comm 256 (2 ^ _)]

theorem bits_or_comm (k : IntKind) (a b : Int) : bits .or k a b = bits .or k b a := by simp [bits, BitVec.or_comm]

theorem or_step (k : Nat) (hk : k < 4) (a : Int) (b : UInt8) (h0 : 0 ≤ a) (h1 : a < 2 ^ (8 * k)) : bits .or .i64 a (wrap64 (wrap64 b.toNat * 2 ^ (8 * k))) = a + b.toNat * 2 ^ (8 * k) := by
  have hb := b.toNat_lt
  generalize b.toNat = c at *
  have e : wrap64 (wrap64 (c : Int) * 2 ^ (8 * k)) = c * 2 ^ (8 * k) := by
    rw [IntWalk.wrap64_in (c : Int) (by omega)]
    rcases (show k = 0 ∨ k = 1 ∨ k = 2 ∨ k = 3 by omega) with rfl | rfl | rfl | rfl <;> rw [IntWalk.wrap64_in _ (by simp; omega)]
  rw [e, bits_or_comm, Int.add_comm]
  have w63 : ∀ n : Int, 0 ≤ n → n < 2 ^ 63 → IntKind.i64.wrap n = n := fun n h0 h1 => IntWalk.i64_in n (by omega)
  refine bits_join .i64 63 (by decide) w63 (8 * k) _ _ ?_ ?_ ?_ h0 h1 ?_
  · exact Int.mul_nonneg (by omega) (Int.le_of_lt (Int.pow_pos (by decide)))
  · exact Int.mul_emod_left _ _
  · rcases (show k = 0 ∨ k = 1 ∨ k = 2 ∨ k = 3 by omega) with rfl | rfl | rfl | rfl <;> simp <;> omega
  · rcases (show k = 0 ∨ k = 1 ∨ k = 2 ∨ k = 3 by omega) with rfl | rfl | rfl | rfl <;> simp at * <;> omega

theorem val_step (l : List UInt8) (k : Nat) (h : k < l.length) (hk : k < 4) (b : UInt8) (hb : l[k] = b) :
    bits .or .i64 (valL (l.take k)) (wrap64 (wrap64 b.toNat * 2 ^ (8 * k))) = valL (l.take (k + 1)) := by
  have hl : (l.take k).length = k := by simp; omega
  have hv := valL_bd (l.take k)
  rw [hl] at hv
  rw [or_step k hk _ b hv.1 hv.2, List.take_succ_eq_append_getElem h, hb, valL_snoc, hl]

set_option maxHeartbeats 1000000 in
theorem read_turned (t : ByteArray) (c : Addr) (w : World) (ht : t.size ≤ 4) (hc : t.size ≠ 0 → w.cell? c = some (.int .i64 t.size)) :
    Calls Try.prog 81 #[.string t, .func (.func 79) #[] #[.pointer (some c)]] w fun e w' => e = .returned (.int .i64 (valL t.data.toList.reverse)) ∧ w = w' := by
  go_enter Try.func81, Try.ntmps81
  go_wp2
  go_loop [5, 9] (fun n i => ∃ k : Nat, k ≤ t.size ∧ i = .int .i64 k ∧ n = .int .i64 (valL (t.data.toList.reverse.take k))) (fun _ i => t.size - (intOf i).toNat)
  case atStart => exact ⟨0, Nat.zero_le _, rfl, by simp [valL]⟩
  case round =>
    obtain ⟨k, hk, rfl, rfl⟩ := hrel
    by_cases hlt : k < t.size
    · have hc' := hc (by omega)
      go_wp2_with (go_at_call 79; refine (turned1_any _ t.size _ _ ?_ (by omega) (by omega) (by omega) (by omega)).mono ?_; exact hc'; rintro e w' ⟨rfl, rfl⟩)
      refine ⟨⟨k + 1, by omega, by go_num, ?_⟩, ?_⟩
      · rw [val_step t.data.toList.reverse k (by simpa using hlt) (by omega) t[t.size - 1 - k] (by simp; rfl)]
      · simp [intOf]; omega
    · obtain rfl : k = t.size := by omega
      go_wp2
      go_ret
      exact ⟨by rw [List.take_of_length_le (by simp)]; rfl, rfl⟩

set_option maxHeartbeats 1000000 in
theorem read_straight (t : ByteArray) (w : World) (ht : t.size ≤ 4) :
    Calls Try.prog 81 #[.string t, .func (.func 86) #[] #[]] w fun e w' => e = .returned (.int .i64 (valL t.data.toList)) ∧ w = w' := by
  go_enter Try.func81, Try.ntmps81
  go_wp2
  go_loop [5, 9] (fun n i => ∃ k : Nat, k ≤ t.size ∧ i = .int .i64 k ∧ n = .int .i64 (valL (t.data.toList.take k))) (fun _ i => t.size - (intOf i).toNat)
  case atStart => exact ⟨0, Nat.zero_le _, rfl, by simp [valL]⟩
  case round =>
    obtain ⟨k, hk, rfl, rfl⟩ := hrel
    by_cases hlt : k < t.size
    · go_wp2_with (go_at_call 86; refine (straight1_any _ _).mono ?_; rintro e w' ⟨rfl, rfl⟩)
      refine ⟨⟨k + 1, by omega, by go_num, ?_⟩, ?_⟩
      · rw [val_step t.data.toList k (by simpa using hlt) (by omega) t[k] (by simp; rfl)]
      · simp [intOf]; omega
    · obtain rfl : k = t.size := by omega
      go_wp2
      go_ret
      exact ⟨by rw [List.take_of_length_le (by simp)]; rfl, rfl⟩

def numE (t : ByteArray) (i e n : Int) : Int := if sizeB n then byE t i e n else keepE e 1
def numI (t : ByteArray) (i e n : Int) : Int := if sizeB n then byI t i e n else i
def intV (t : ByteArray) (i e n : Int) : Int := if sizeB n then valL (byS t i e n).data.toList.reverse else 0
def litV (t : ByteArray) (i e n : Int) : Int := if sizeB n then valL (byS t i e n).data.toList else 0

theorem byS_size4 {t : ByteArray} {i e n : Int} (hs : sizeB n = true) (h0 : 0 ≤ i) (h1 : i ≤ t.size) : (byS t i e n).size ≤ 4 ∧ ((byS t i e n).size ≠ 0 → ((byS t i e n).size : Int) = n) := by
  have := (intsz t i e n h0 h1).2.2
  have hn := sizeB_cases hs
  rw [this]
  split <;> omega

theorem CurAt.alloc {T : TypeId} {w : World} {b : Nat} {t : ByteArray} {i e : Int} (h : CurAt T w b t i e) (o : Obj) : CurAt T (w.alloc o) b t i e := by
  unfold CurAt at *
  rw [Below.heap_alloc _ _ _ (CurAt.lt h)]; exact h

theorem number_t (b : Nat) (t : ByteArray) (i e n : Int) (c : Addr) (w : World) (h : CurAt 84 w b t i e) (h0 : 0 ≤ i) (h1 : i ≤ t.size) (ht : t.size ≤ 9223372036854775807)
    (hc : w.cell? c = some (.int .i64 n)) (hcb : c.block < w.heap.size) (hne : c.block ≠ b) :
    Calls Try.prog 68 #[.pointer (some ⟨b, 0, none⟩), .int .i64 n, .func (.func 79) #[] #[.pointer (some c)]] w fun r w' => r = .returned (.int .i64 (intV t i e n)) ∧ CurAt 84 w' b t (numI t i e n) (numE t i e n) ∧ w.grownBy w' (some b) := by
  by_cases hs : sizeB n = true
  · have hz := byS_size4 (e := e) hs h0 h1
    have e1 : intV t i e n = valL (byS t i e n).data.toList.reverse := by simp [intV, hs]
    have e2 : numI t i e n = byI t i e n := by simp [numI, hs]
    have e3 : numE t i e n = byE t i e n := by simp [numE, hs]
    rw [e1, e2, e3]; clear e1 e2 e3
    go_enter Try.func68, Try.ntmps68
    go_wp2_with fail
    refine (isSize_any _ _).mono ?_
    rintro r w' ⟨rfl, rfl⟩
    go_wp2_with fail
    refine (bytes_any _ _ _ _ _ _ h h0 h1 ht).mono ?_
    rintro r w' ⟨rfl, hc', hg⟩
    have hcc : w'.cell? c = some (.int .i64 n) := by
      rw [World.cell?_of_block (w := w) (hg.block c.block hcb (by simp; omega))]; exact hc
    have HC := Lib.hid hc'
    have HG := Lib.hid hg
    clear hc' hg hc
    go_wp2_with fail
    refine (read_turned _ _ _ hz.1 (fun hne => by rw [hz.2 hne]; exact hcc)).mono ?_
    rintro r w'' ⟨rfl, rfl⟩
    go_wp2_with fail
    go_ret
    exact ⟨rfl, HC.out, HG.out⟩
  · have e1 : intV t i e n = 0 := by simp [intV, hs]
    have e2 : numI t i e n = i := by simp [numI, hs]
    have e3 : numE t i e n = keepE e 1 := by simp [numE, hs]
    rw [e1, e2, e3]; clear e1 e2 e3
    have hs' : sizeB n = false := by simpa using hs
    clear hs
    go_enter Try.func68, Try.ntmps68
    go_wp2_with fail
    refine (isSize_any _ _).mono ?_
    rintro r w' ⟨rfl, rfl⟩
    go_wp2_with fail
    refine (keep_any _ _ _ _ _ _ h).mono ?_
    rintro r w' ⟨rfl, hc', hg⟩
    have HC := Lib.hid hc'
    have HG := Lib.hid hg
    clear hc' hg hc
    go_wp2_with fail
    go_ret
    exact ⟨rfl, HC.out, HG.out⟩

theorem number_s (b : Nat) (t : ByteArray) (i e n : Int) (w : World) (h : CurAt 84 w b t i e) (h0 : 0 ≤ i) (h1 : i ≤ t.size) (ht : t.size ≤ 9223372036854775807) :
    Calls Try.prog 68 #[.pointer (some ⟨b, 0, none⟩), .int .i64 n, .func (.func 86) #[] #[]] w fun r w' => r = .returned (.int .i64 (litV t i e n)) ∧ CurAt 84 w' b t (numI t i e n) (numE t i e n) ∧ w.grownBy w' (some b) := by
  by_cases hs : sizeB n = true
  · have hz := byS_size4 (e := e) hs h0 h1
    have e1 : litV t i e n = valL (byS t i e n).data.toList := by simp [litV, hs]
    have e2 : numI t i e n = byI t i e n := by simp [numI, hs]
    have e3 : numE t i e n = byE t i e n := by simp [numE, hs]
    rw [e1, e2, e3]; clear e1 e2 e3
    go_enter Try.func68, Try.ntmps68
    go_wp2_with fail
    refine (isSize_any _ _).mono ?_
    rintro r w' ⟨rfl, rfl⟩
    go_wp2_with fail
    refine (bytes_any _ _ _ _ _ _ h h0 h1 ht).mono ?_
    rintro r w' ⟨rfl, hc', hg⟩
    have HC := Lib.hid hc'
    have HG := Lib.hid hg
    clear hc' hg
    go_wp2_with fail
    refine (read_straight _ _ hz.1).mono ?_
    rintro r w'' ⟨rfl, rfl⟩
    go_wp2_with fail
    go_ret
    exact ⟨rfl, HC.out, HG.out⟩
  · have e1 : litV t i e n = 0 := by simp [litV, hs]
    have e2 : numI t i e n = i := by simp [numI, hs]
    have e3 : numE t i e n = keepE e 1 := by simp [numE, hs]
    rw [e1, e2, e3]; clear e1 e2 e3
    have hs' : sizeB n = false := by simpa using hs
    clear hs
    go_enter Try.func68, Try.ntmps68
    go_wp2_with fail
    refine (isSize_any _ _).mono ?_
    rintro r w' ⟨rfl, rfl⟩
    go_wp2_with fail
    refine (keep_any _ _ _ _ _ _ h).mono ?_
    rintro r w' ⟨rfl, hc', hg⟩
    have HC := Lib.hid hc'
    have HG := Lib.hid hg
    clear hc' hg
    go_wp2_with fail
    go_ret
    exact ⟨rfl, HC.out, HG.out⟩

theorem int_any (b : Nat) (t : ByteArray) (i e n : Int) (w : World) (h : CurAt 84 w b t i e) (h0 : 0 ≤ i) (h1 : i ≤ t.size) (ht : t.size ≤ 9223372036854775807) :
    Calls Try.prog 45 #[.pointer (some ⟨b, 0, none⟩), .int .i64 n] w fun r w' => r = .returned (.int .i64 (intV t i e n)) ∧ CurAt 84 w' b t (numI t i e n) (numE t i e n) ∧ w.grownBy w' (some b) := by
  have hlt := h.lt
  go_enter Try.func45, Try.ntmps45
  go_wp2_with fail
  refine (turned_any _ _).mono ?_
  rintro r w' ⟨rfl, rfl⟩
  go_wp2_with fail
  refine (number_t _ _ _ _ _ _ _ (h.alloc _) h0 h1 ht (by simp) (by simp) (by simp; omega)).mono ?_
  rintro r w' ⟨rfl, hc', hg⟩
  have HC := Lib.hid hc'
  have HG := Lib.hid hg
  clear hc' hg
  go_wp2_with fail
  go_ret
  exact ⟨rfl, HC.out, grown_trans (World.grownBy_alloc w _ _) HG.out⟩

theorem lit_any (b : Nat) (t : ByteArray) (i e n : Int) (w : World) (h : CurAt 84 w b t i e) (h0 : 0 ≤ i) (h1 : i ≤ t.size) (ht : t.size ≤ 9223372036854775807) :
    Calls Try.prog 83 #[.pointer (some ⟨b, 0, none⟩), .int .i64 n] w fun r w' => r = .returned (.int .i64 (litV t i e n)) ∧ CurAt 84 w' b t (numI t i e n) (numE t i e n) ∧ w.grownBy w' (some b) := by
  go_enter Try.func83, Try.ntmps83
  go_wp2_with fail
  refine (straight_any _).mono ?_
  rintro r w' ⟨rfl, rfl⟩
  go_wp2_with fail
  refine (number_s _ _ _ _ _ _ h h0 h1 ht).mono ?_
  rintro r w' ⟨rfl, hc', hg⟩
  have HC := Lib.hid hc'
  have HG := Lib.hid hg
  clear hc' hg
  go_wp2_with fail
  go_ret
  exact ⟨rfl, HC.out, HG.out⟩

/-- A number of four bytes, perhaps below 0. -/
def minI (n : Int) : Int := if 2147483647 < n then n - 4294967296 else n

theorem minI_wrap (v : Int) (h0 : 0 ≤ v) (h1 : v < 4294967296) : wrap64 (wrap32 v) = minI v := by
  unfold wrap64 wrap32 minI
  split <;> omega

theorem intV_bd {t : ByteArray} {i e n : Int} (h0 : 0 ≤ i) (h1 : i ≤ t.size) : 0 ≤ intV t i e n ∧ intV t i e n < 4294967296 := by
  unfold intV
  by_cases hs : sizeB n = true
  · rw [if_pos hs]
    have hz := byS_size4 (e := e) hs h0 h1
    have hv := valL_bd (byS t i e n).data.toList.reverse
    have hl : (byS t i e n).data.toList.reverse.length = (byS t i e n).size := by simp
    rw [hl] at hv
    refine ⟨hv.1, Int.lt_of_lt_of_le hv.2 ?_⟩
    have : (2 : Int) ^ (8 * (byS t i e n).size) ≤ 2 ^ 32 := by
      have := Nat.pow_le_pow_right (n := 2) (by decide) (show 8 * (byS t i e n).size ≤ 32 by omega)
      exact_mod_cast this
    simpa using this
  · rw [if_neg hs]; decide

end Go.Proofs.Ytbdlmcpdplmdnaa.Oct
