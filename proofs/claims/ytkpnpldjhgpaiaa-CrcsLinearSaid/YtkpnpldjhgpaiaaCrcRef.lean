/-
  Contracts of the reference's More and Sum; the document's examples.
-/
import Derived.Test.YtkpnpldjhgpaiaaCrcSum
namespace Go.Proofs.Ytkpnpldjhgpaiaa.Crc
open Go.ChangeShapes Go.WideShapes Go.ChangeAt Go.RowKit
set_option linter.unusedVariables false

/-- The round's numbers, in the reference. -/
theorem bst_ref (x : Nat) (hx : x < 4294967296) (b : UInt8) : ∃ y j T : Nat, y < 4294967296 ∧ j < 256 ∧ sts 8 j = T ∧ T < 4294967296 ∧
    bits .xor .i64 (x : Int) (b.toNat : Int) = (y : Int) ∧ bits .and .i64 (y : Int) 255 = (j : Int) ∧ bits .xor .i64 (T : Int) ((x : Int) / 256) = (bst x b : Nat) := by
  have hb := b.toNat_lt
  refine ⟨x ^^^ b.toNat, (x ^^^ b.toNat) % 256, sts 8 ((x ^^^ b.toNat) % 256), xor_byte_lt x b hx, Nat.mod_lt _ (by decide), rfl, sts_lt _ _ (by omega), ?_, ?_, ?_⟩
  · exact i64_xor x b.toNat hx (by omega)
  · exact Bit.i64_mask _ 8 (by decide)
  · exact i64_xor (sts 8 ((x ^^^ b.toNat) % 256)) (x / 256) (sts_lt _ _ (by omega)) (by omega)

theorem mask32 (c : Int) : bits .and .i64 c 4294967295 = (low c : Nat) := by
  rw [low_int]; exact Bit.i64_mask c 32 (by decide)

set_option maxRecDepth 10000 in
set_option maxHeartbeats 1000000 in
theorem refMore_any (c : Int) (t : ByteArray) (w : World) (ht : t.size ≤ 1000000) :
    Calls Try.prog 11 #[.int .i64 c, .string t] w fun e w' => e = .returned (.int .i64 (moreV c t.data.toList : Nat)) ∧ w = w' := by
  unfold moreV
  have l0 := low_lt c
  have l1 := mask32 c
  generalize low c = z at *
  go_enter Try.func11, Try.ntmps11
  go_wp2_with fail
  go_loop [0, 5] (fun x i => ∃ k : Nat, k ≤ t.size ∧ i = .int .i64 k ∧ x = .int .i64 (crc z (t.data.toList.take k) : Nat)) (fun _ i => t.size - (intOf i).toNat)
  case atStart => exact ⟨0, Nat.zero_le _, rfl, rfl⟩
  case round =>
    obtain ⟨k, hk, rfl, rfl⟩ := hrel
    clear l1
    have hb := crc_lt (t.data.toList.take k) z l0
    by_cases hlt : k < t.size
    · have e1 := Lib.hid (crc_step z t.data.toList k (by simpa using hlt) t[k] (by simp; rfl))
      generalize crc z (t.data.toList.take k) = x at *
      obtain ⟨y, j, T, hy, hj, hT, hT2, hx1, hx2, hx3⟩ := bst_ref x hb t[k]
      have C1 := Lib.hid (byte_any j w (by omega))
      rw [hT] at C1
      clear hT
      have hw : wrap64 (t[k].toNat : Int) = t[k].toNat := IntWalk.wrap64_in _ (by have := t[k].toNat_lt; omega)
      go_wp2_with fail
      refine C1.out.mono ?_
      rintro r w' ⟨rfl, rfl⟩
      go_wp2_with fail
      refine ⟨⟨k + 1, by omega, by go_num, ?_⟩, ?_⟩
      · rw [e1.out]
      · simp [intOf]; omega
    · obtain rfl : k = t.size := by omega
      have e : t.data.toList.take t.size = t.data.toList := List.take_of_length_le (by simp)
      rw [e] at hb ⊢
      go_wp2_with fail
      go_ret
      exact ⟨rfl, rfl⟩

theorem sumV_one (t : ByteArray) : sumV [t] = moreV 4294967295 t.data.toList ^^^ 4294967295 := rfl

theorem refSum_any (t : ByteArray) (w : World) (ht : t.size ≤ 1000000) :
    Calls Try.prog 14 #[.string t] w fun e w' => e = .returned (.int .i64 (sumV [t] : Nat)) ∧ w = w' := by
  have C1 := Lib.hid (refMore_any 4294967295 t w ht)
  have hx := i64_xor (moreV 4294967295 t.data.toList) 4294967295 (moreV_lt _ _) (by decide)
  rw [← sumV_one] at hx
  generalize moreV 4294967295 t.data.toList = x at *
  go_enter Try.func14, Try.ntmps14
  go_wp2_with fail
  refine C1.out.mono ?_
  rintro r w' ⟨rfl, rfl⟩
  go_wp2_with fail
  go_ret
  exact ⟨ret_int hx, rfl⟩

theorem v_works : sumV [⟨#[49, 50, 51, 52]⟩, ⟨#[53, 54, 55, 56, 57]⟩] = 3421780262 := by decide +kernel

set_option maxRecDepth 10000 in
theorem works_any (w : World) :
    Calls Try.prog 8 #[] w fun e w' => e = .returned (.bool true) ∧ Below w.heap.size w w' := by
  go_enter Try.func8, Try.ntmps8
  go_wp2_with fail
  refine (make_any _).mono ?_
  rintro r w1 ⟨rfl, b1, t1, z1⟩
  have T1 := Lib.hid t1
  clear t1
  go_wp2_with fail
  refine (sum_new _ [⟨#[49, 50, 51, 52]⟩, ⟨#[53, 54, 55, 56, 57]⟩] 2 _ _ T1.out z1 rfl (by decide) (by decide) _ (by rfl)).mono ?_
  rintro r w2 ⟨rfl, rfl⟩
  rw [v_works]
  go_wp2_with fail
  refine (sum_nil _ _).mono ?_
  rintro r w2 ⟨rfl, rfl⟩
  go_wp2_with fail
  go_ret
  exact ⟨rfl, b1.alloc (Nat.le_of_lt z1) _⟩

theorem below_more {B : Nat} {w0 w w' : World} (h : Below B w0 w) (hB : B ≤ w0.heap.size) (k : Below w.heap.size w w') : Below B w0 w' := h.trans (k.mono (by have := h.size; omega))
theorem below_draws {w a : World} {B : Nat} (h : Below B w a) (n : Nat) : Below B w (a.drewN n) := ⟨h.os, h.tape, h.output, h.size, h.block⟩

theorem quiet_w {P : Program} {f : FuncId} {args : Array Value} {w : World} {n : Nat} {v : Value}
    (h : Calls P f args (w.drewN n) fun e w' => e = .returned v ∧ w.drewN n = w') : Calls P f args (w.drewN n) fun e w'' => e = .returned v ∧ ∃ m, w'' = w.drewN m :=
  h.mono fun _ _ ⟨he, hm⟩ => ⟨he, n, hm.symm⟩

end Go.Proofs.Ytkpnpldjhgpaiaa.Crc
