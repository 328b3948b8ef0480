/-
  FormatQuant: what is left of a colour, twice, is as once; a value of parts up to 255 leads back to itself; with 255 or more for all parts nothing is lost: whatever the format and the numbers.
-/
import Derived.Test.YtkpmmfbheghocaaRows
import Derived.Test.YtkpmmfbheghocaaFmtPrgJ
import Derived.WalkKit
import Derived.ProofKit
import Derived.OpenShut
import Derived.ShutString
import Derived.ChangeOld
import Derived.Below
import Derived.Lib.SmallJoins
import Derived.Deep.Slices
namespace Go.Proofs.Ytkpmmfbheghocaa.formatQuant
open Go.Proofs.Ytkpmmfbheghocaa.Fmt
open Go.ChangeShapes Go.WideShapes Go.ChangeAt Go.RowKit
open Go.ChangeMaps (open_string shut_string)
set_option linter.unusedVariables false

theorem own : ownKnob Try.prog.godebug = none := by kernel_rfl
theorem laidOut : laidOutB Try.prog = true := by kernel_rfl

open Go.Proofs.Ytkpmmfbheghocaa.RegVal
set_option maxRecDepth 100000
/-- What the operations of three regions leave. -/
def fqA (F : Value) (c l x n : Int) : Nat → Value
  | 0 => F
  | 1 => .int .i64 l
  | 2 => .int .i64 l
  | 3 => .int .i64 l
  | 4 => .bool false
  | 5 => .bool false
  | 6 => F
  | 7 => .int .i64 n
  | 8 => .int .i64 l
  | 9 => .int .i64 l
  | 10 => .bool false
  | 11 => .bool false
  | 12 => .bool false
  | 13 => .int .i64 l
  | 14 => .bool false
  | 15 => .bool false
  | 16 => .bool false
  | 17 => .int .i64 l
  | 18 => .bool false
  | 19 => .bool false
  | 20 => .bool false
  | 21 => F
  | 22 => F
  | 23 => .int .i64 c
  | 24 => .int .i64 x
  | 25 => .int .i64 l
  | 26 => .int .i64 l
  | 27 => .bool false
  | 28 => .bool false
  | _ => undef
def fqB (p4 p7 p5 p8 p6 p9 : Value) (rm rs gm gs bm bs x1 x2 x12 x3 M V n : Int) : Nat → Value
  | 0 => .int .i64 n
  | 1 => p4
  | 2 => .int .i64 rm
  | 3 => p7
  | 4 => .int .i64 rs
  | 5 => .int .i64 x1
  | 6 => p5
  | 7 => .int .i64 gm
  | 8 => p8
  | 9 => .int .i64 gs
  | 10 => .int .i64 x2
  | 11 => .int .i64 x12
  | 12 => p6
  | 13 => .int .i64 bm
  | 14 => p9
  | 15 => .int .i64 bs
  | 16 => .int .i64 x3
  | 17 => .int .i64 M
  | 18 => .int .i64 V
  | 19 => .int .i64 V
  | _ => undef
def fqC (F : Value) (V Y : Int) : Nat → Value
  | 0 => .bool true
  | 1 => .bool true
  | 2 => F
  | 3 => F
  | 4 => .int .i64 V
  | 5 => .int .i64 Y
  | 6 => .int .i64 V
  | 7 => .int .i64 V
  | 8 => .bool true
  | 9 => .bool true
  | 10 => .bool true
  | _ => undef
theorem i64_or_nat (a b : Nat) (ha : a < 2 ^ 62) (hb : b < 2 ^ 62) : bits .or .i64 (a : Int) (b : Int) = ((a ||| b : Nat) : Int) := by
  show IntKind.i64.wrap ((BitVec.ofInt 64 (a : Int) ||| BitVec.ofInt 64 (b : Int)).toNat : Int) = _
  rw [BitVec.toNat_or, ofInt_u64 _ (by omega), ofInt_u64 _ (by omega)]
  have : a ||| b < 2 ^ 62 := Nat.or_lt_two_pow ha hb
  exact IntWalk.i64_in _ (by omega)
theorem i64_and_any (a : Int) (m : Nat) (hm : m < 2 ^ 62) : ∃ V : Nat, bits .and .i64 a (m : Int) = (V : Int) ∧ V &&& m = V ∧ V ≤ m := by
  refine ⟨(BitVec.ofInt 64 a).toNat &&& m, ?_, ?_, Nat.and_le_right⟩
  · show IntKind.i64.wrap ((BitVec.ofInt 64 a &&& BitVec.ofInt 64 (m : Int)).toNat : Int) = _
    rw [BitVec.toNat_and, ofInt_u64 _ (by omega)]
    have : (BitVec.ofInt 64 a).toNat &&& m ≤ m := Nat.and_le_right
    exact IntWalk.i64_in _ (by omega)
  · rw [Nat.and_assoc, Nat.and_self]
theorem wf_nat {n : Nat} (h : n < 4294967296) : (Lit.int .i64 (n : Int)).wf = true := by
  simp only [Lit.wf, IntKind.min, IntKind.max, IntKind.signed, IntKind.bits, Bool.and_eq_true, decide_eq_true_eq, if_true]
  omega
/-- All that the law asks of a colour. -/
theorem asked (D : Says) (f : Fm) (n : Int) (hf : f.Wf) (wn : (Lit.int .i64 n).wf = true) (h : f.ok = true) : ∃ C L X : Nat, bits .and .i64 n 16777215 = (C : Int) ∧ C ≤ 16777215 ∧ L ≤ 16777215 ∧ (255 ≤ f.rm → 255 ≤ f.gm → 255 ≤ f.bm → L = C) ∧
    (∀ w, Calls Try.prog 19 #[f.v, .int .i64 (C : Nat)] w fun e w' => e = .returned (.int .i64 (L : Nat)) ∧ Below w.heap.size w w') ∧
    (∀ w, Calls Try.prog 19 #[f.v, .int .i64 (L : Nat)] w fun e w' => e = .returned (.int .i64 (L : Nat)) ∧ Below w.heap.size w w') ∧
    (∀ w, Calls Try.prog 19 #[f.v, .int .i64 n] w fun e w' => e = .returned (.int .i64 (L : Nat)) ∧ Below w.heap.size w w') ∧
    (∀ w, Calls Try.prog 17 #[f.v, .int .i64 (C : Nat)] w fun e w' => e = .returned (.int .i64 (X : Nat)) ∧ Below w.heap.size w w') ∧
    (∀ w, Calls Try.prog 18 #[f.v, .int .i64 (X : Nat)] w fun e w' => e = .returned (.int .i64 (L : Nat)) ∧ Below w.heap.size w w') := by
  obtain ⟨k, j, l, s, t, u, m, H⟩ := f.is h
  obtain ⟨_, _, hx⟩ := val_le H (colZ n : Nat)
  have hm : 2 ^ m ≤ 2 ^ 32 := Nat.pow_le_pow_right (by decide) (by have := H.hn; omega)
  have h32 : (2 : Nat) ^ 32 = 4294967296 := by decide
  have hc := colZ_le n
  have hl := left_le h n
  have ev : ∀ c, f.valI c = (f.val c : Nat) := fun c => by unfold Fm.valI; rw [h]; rfl
  have ec : ∀ c, f.colI c = (f.col c : Nat) := fun c => by unfold Fm.colI; rw [h]; rfl
  have el : ∀ c, f.leftI c = (f.left c : Nat) := fun c => by unfold Fm.leftI; rw [h]; rfl
  refine ⟨colZ n, f.left n, f.val (colZ n : Nat), ?_, hc, hl, fun h1 h2 h3 => left_all h h1 h2 h3 n, ?_, ?_, ?_, ?_, ?_⟩
  · have := Bit.i64_mask n 24 (by decide)
    rw [show (2 : Int) ^ 24 - 1 = 16777215 from rfl] at this
    rw [this]
    unfold colZ
    rw [show (2 : Int) ^ 24 = 16777216 from rfl]
    omega
  · have := D.quant f hf (colZ n : Nat) (wf_nat (by omega))
    rw [el, left_low] at this
    exact this
  · have := D.quant f hf (f.left n : Nat) (wf_nat (by omega))
    rw [el, left_twice h] at this
    exact this
  · have := D.quant f hf n wn
    rw [el] at this
    exact this
  · have := D.value f hf (colZ n : Nat) (wf_nat (by omega))
    rw [ev] at this
    exact this
  · have := D.colour f hf (f.val (colZ n : Nat) : Nat) (wf_nat (by omega))
    rw [ec, show f.col (f.val (colZ n : Nat) : Nat) = f.left (colZ n : Nat) from rfl, left_low] at this
    exact this
/-- All that it asks of a value. -/
theorem asked2 (D : Says) (f : Fm) (v : Int) (hf : f.Wf) (h : f.ok = true) (h1 : f.rm ≤ 255) (h2 : f.gm ≤ 255) (h3 : f.bm ≤ 255) : ∃ (P1 P2 P3 X1 X2 X3 X12 M V Y : Nat), (2 : Int) ^ f.rs.toNat = P1 ∧ (2 : Int) ^ f.gs.toNat = P2 ∧ (2 : Int) ^ f.bs.toNat = P3 ∧
    0 ≤ f.rs ∧ 0 ≤ f.gs ∧ 0 ≤ f.bs ∧ f.rs < 64 ∧ f.gs < 64 ∧ f.bs < 64 ∧ f.rm * P1 = X1 ∧ f.gm * P2 = X2 ∧ f.bm * P3 = X3 ∧ X1 < 2 ^ 62 ∧ X2 < 2 ^ 62 ∧ X3 < 2 ^ 62 ∧
    bits .or .i64 (X1 : Int) (X2 : Int) = X12 ∧ bits .or .i64 (X12 : Int) (X3 : Int) = M ∧ bits .and .i64 v (M : Int) = V ∧
    (∀ w, Calls Try.prog 18 #[f.v, .int .i64 (V : Nat)] w fun e w' => e = .returned (.int .i64 (Y : Nat)) ∧ Below w.heap.size w w') ∧
    (∀ w, Calls Try.prog 17 #[f.v, .int .i64 (Y : Nat)] w fun e w' => e = .returned (.int .i64 (V : Nat)) ∧ Below w.heap.size w w') := by
  obtain ⟨k, j, l, s, t, u, m, H⟩ := f.is h
  have hm : m ≤ 32 := by have := H.hn; omega
  have s1 := H.three.hs
  have s2 := H.three.ht
  have s3 := H.three.hu
  have x1 := shl_small (k := k) (s := s) H.hk.2 (by omega)
  have x2 := shl_small (k := j) (s := t) H.hj.2 (by omega)
  have x3 := shl_small (k := l) (s := u) H.hl.2 (by omega)
  have hM : f.mask = top k * 2 ^ s ||| top j * 2 ^ t ||| top l * 2 ^ u := H.mask_eq
  have hM2 : f.mask < 4294967296 := by
    rw [H.mask_eq, mask_sum H.three]
    have := sum_lt H.three (a := top k) (b := top j) (c := top l) (Nat.le_refl _) (Nat.le_refl _) (Nat.le_refl _)
    have h32 : 2 ^ m ≤ 2 ^ 32 := Nat.pow_le_pow_right (by decide) hm
    have : (2 : Nat) ^ 32 = 4294967296 := by decide
    omega
  obtain ⟨V, hV, hV2, hV3⟩ := i64_and_any v f.mask (by omega)
  have ev : ∀ c, f.valI c = (f.val c : Nat) := fun c => by unfold Fm.valI; rw [h]; rfl
  have ec : ∀ c, f.colI c = (f.col c : Nat) := fun c => by unfold Fm.colI; rw [h]; rfl
  have hcol : f.col (V : Nat) ≤ 16777215 := by
    rw [H.col_eq, colourZ_nat]
    exact colour_le H.hk.1 H.hj.1 H.hl.1
  refine ⟨2 ^ s, 2 ^ t, 2 ^ u, top k * 2 ^ s, top j * 2 ^ t, top l * 2 ^ u, top k * 2 ^ s ||| top j * 2 ^ t, f.mask, V, f.col (V : Nat), ?_, ?_, ?_, ?_, ?_, ?_, ?_, ?_, ?_, ?_, ?_, ?_, x1, x2, x3, i64_or_nat _ _ x1 x2, ?_, hV, ?_, ?_⟩
  · rw [H.rs]; simp
  · rw [H.gs]; simp
  · rw [H.bs]; simp
  · have := H.rs; omega
  · have := H.gs; omega
  · have := H.bs; omega
  · have := H.rs; omega
  · have := H.gs; omega
  · have := H.bs; omega
  · rw [H.rm]; simp
  · rw [H.gm]; simp
  · rw [H.bm]; simp
  · rw [i64_or_nat _ _ (Nat.or_lt_two_pow x1 x2) x3, hM]
  · have := D.colour f hf (V : Nat) (wf_nat (by omega))
    rw [ec] at this
    exact this
  · have := D.value f hf (f.col (V : Nat) : Nat) (wf_nat (by omega))
    rw [ev, val_col h h1 h2 h3 hV2] at this
    exact this
theorem bad (D : Says) (f : Fm) (n v : Int) (hf : f.Wf) (h : f.ok = false) (w : World) :
    Calls Try.prog 6 #[f.v, .int .i64 n, .int .i64 v] w fun e w' => e = .returned (.bool true) ∧ Below w.heap.size w w' := by
  have V0 := Lib.hid (works_any D)
  have V1 := Lib.hid (D.valid f hf)
  rw [h] at V1
  have hv : f.v = .agg #[.int .i64 f.B, .int .i64 f.D, .bool f.big, .bool f.tr, .int .i64 f.rm, .int .i64 f.gm, .int .i64 f.bm, .int .i64 f.rs, .int .i64 f.gs, .int .i64 f.bs] := rfl
  rw [hv] at V1 ⊢
  have a0 := FmAt.box f w 23
  have z0 := alloc_size w (.cells #[.int .i64 f.B, .int .i64 f.D, .bool f.big, .bool f.tr, .int .i64 f.rm, .int .i64 f.gm, .int .i64 f.bm, .int .i64 f.rs, .int .i64 f.gs, .int .i64 f.bs] 23)
  have K0 := Lib.hid (fun W' (h : Below (w.alloc (.cells #[.int .i64 f.B, .int .i64 f.D, .bool f.big, .bool f.tr, .int .i64 f.rm, .int .i64 f.gm, .int .i64 f.bm, .int .i64 f.rs, .int .i64 f.gs, .int .i64 f.bs] 23)).heap.size (w.alloc (.cells #[.int .i64 f.B, .int .i64 f.D, .bool f.big, .bool f.tr, .int .i64 f.rm, .int .i64 f.gm, .int .i64 f.bm, .int .i64 f.rs, .int .i64 f.gs, .int .i64 f.bs] 23)) W') => a0.below h (by rw [z0]; omega))
  have b0 := (Below.refl w.heap.size w).alloc (Nat.le_refl _) (.cells #[.int .i64 f.B, .int .i64 f.D, .bool f.big, .bool f.tr, .int .i64 f.rm, .int .i64 f.gm, .int .i64 f.bm, .int .i64 f.rs, .int .i64 f.gs, .int .i64 f.bs] 23)
  have q0 := Below.refl (w.alloc (.cells #[.int .i64 f.B, .int .i64 f.D, .bool f.big, .bool f.tr, .int .i64 f.rm, .int .i64 f.gm, .int .i64 f.bm, .int .i64 f.rs, .int .i64 f.gs, .int .i64 f.bs] 23)).heap.size (w.alloc (.cells #[.int .i64 f.B, .int .i64 f.D, .bool f.big, .bool f.tr, .int .i64 f.rm, .int .i64 f.gm, .int .i64 f.bm, .int .i64 f.rs, .int .i64 f.gs, .int .i64 f.bs] 23))
  clear hv a0 z0
  clear D hf h
  go_enter Try.func6, Try.ntmps6
  go_wp2_with fail
  generalize w.alloc (.cells #[.int .i64 f.B, .int .i64 f.D, .bool f.big, .bool f.tr, .int .i64 f.rm, .int .i64 f.gm, .int .i64 f.bm, .int .i64 f.rs, .int .i64 f.gs, .int .i64 f.bs] 23) = w0 at *
  have HB := Lib.hid (fun W (h : Below w0.heap.size w0 W) => (b0.trans (h.mono b0.size) : Below w.heap.size w W))
  clear b0
  refine (V0.out _).mono ?_
  rintro r w1 ⟨rfl, b1⟩
  have q1 := q0.trans (b1.mono q0.size)
  clear q0 b1
  obtain ⟨c0, c1, c2, c3, c4, c5, c6, c7, c8, c9⟩ := K0.out _ q1
  go_wp2_with fail
  refine (V1.out _).mono ?_
  rintro r w2 ⟨rfl, b2⟩
  have q2 := q1.trans (b2.mono q1.size)
  clear q1 b2 c0 c1 c2 c3 c4 c5 c6 c7 c8 c9
  go_wp2_with fail
  go_ret
  exact ⟨rfl, HB.out _ q2⟩
set_option maxHeartbeats 8000000 in
theorem good (D : Says) (f : Fm) (n v : Int) (hf : f.Wf) (wn : (Lit.int .i64 n).wf = true) (h : f.ok = true) (w : World) :
    Calls Try.prog 6 #[f.v, .int .i64 n, .int .i64 v] w fun e w' => e = .returned (.bool true) ∧ Below w.heap.size w w' := by
  have V0 := Lib.hid (works_any D)
  have V1 := Lib.hid (D.valid f hf)
  rw [h] at V1
  obtain ⟨C, L, X, hC, hC2, hL, hLC, U1, U2, U3, U4, U5⟩ := asked D f n hf wn h
  have V2 := Lib.hid U1
  have V3 := Lib.hid U2
  have V4 := Lib.hid U3
  have V5 := Lib.hid U4
  have V6 := Lib.hid U5
  have A2 := Lib.hid (asked2 D f v hf h)
  have HLC := Lib.hid hLC
  clear U1 U2 U3 U4 U5 hLC
  have hv : f.v = .agg #[.int .i64 f.B, .int .i64 f.D, .bool f.big, .bool f.tr, .int .i64 f.rm, .int .i64 f.gm, .int .i64 f.bm, .int .i64 f.rs, .int .i64 f.gs, .int .i64 f.bs] := rfl
  rw [hv] at V1 V2 V3 V4 V5 V6 A2 ⊢
  have a0 := FmAt.box f w 23
  have z0 := alloc_size w (.cells #[.int .i64 f.B, .int .i64 f.D, .bool f.big, .bool f.tr, .int .i64 f.rm, .int .i64 f.gm, .int .i64 f.bm, .int .i64 f.rs, .int .i64 f.gs, .int .i64 f.bs] 23)
  have K0 := Lib.hid (fun W' (h : Below (w.alloc (.cells #[.int .i64 f.B, .int .i64 f.D, .bool f.big, .bool f.tr, .int .i64 f.rm, .int .i64 f.gm, .int .i64 f.bm, .int .i64 f.rs, .int .i64 f.gs, .int .i64 f.bs] 23)).heap.size (w.alloc (.cells #[.int .i64 f.B, .int .i64 f.D, .bool f.big, .bool f.tr, .int .i64 f.rm, .int .i64 f.gm, .int .i64 f.bm, .int .i64 f.rs, .int .i64 f.gs, .int .i64 f.bs] 23)) W') => a0.below h (by rw [z0]; omega))
  have b0 := (Below.refl w.heap.size w).alloc (Nat.le_refl _) (.cells #[.int .i64 f.B, .int .i64 f.D, .bool f.big, .bool f.tr, .int .i64 f.rm, .int .i64 f.gm, .int .i64 f.bm, .int .i64 f.rs, .int .i64 f.gs, .int .i64 f.bs] 23)
  have q0 := Below.refl (w.alloc (.cells #[.int .i64 f.B, .int .i64 f.D, .bool f.big, .bool f.tr, .int .i64 f.rm, .int .i64 f.gm, .int .i64 f.bm, .int .i64 f.rs, .int .i64 f.gs, .int .i64 f.bs] 23)).heap.size (w.alloc (.cells #[.int .i64 f.B, .int .i64 f.D, .bool f.big, .bool f.tr, .int .i64 f.rm, .int .i64 f.gm, .int .i64 f.bm, .int .i64 f.rs, .int .i64 f.gs, .int .i64 f.bs] 23))
  clear hv a0 z0
  clear D hf h
  have lt0 : decide ((L : Int) < 0) = false := decide_eq_false (by omega)
  have gt0 : decide ((16777215 : Int) < L) = false := decide_eq_false (by omega)
  have gt1 : decide (16777215 < L) = false := decide_eq_false (by omega)
  go_enter Try.func6, Try.ntmps6
  go_wp2_with fail
  generalize w.alloc (.cells #[.int .i64 f.B, .int .i64 f.D, .bool f.big, .bool f.tr, .int .i64 f.rm, .int .i64 f.gm, .int .i64 f.bm, .int .i64 f.rs, .int .i64 f.gs, .int .i64 f.bs] 23) = w0 at *
  have HB := Lib.hid (fun W (h : Below w0.heap.size w0 W) => (b0.trans (h.mono b0.size) : Below w.heap.size w W))
  clear b0
  refine (V0.out _).mono ?_
  rintro r w1 ⟨rfl, b1⟩
  have q1 := q0.trans (b1.mono q0.size)
  clear q0 b1
  obtain ⟨c0, c1, c2, c3, c4, c5, c6, c7, c8, c9⟩ := K0.out _ q1
  go_wp2_with fail
  refine (V1.out _).mono ?_
  rintro r w2 ⟨rfl, b2⟩
  have q2 := q1.trans (b2.mono q1.size)
  clear q1 b2 c0 c1 c2 c3 c4 c5 c6 c7 c8 c9
  obtain ⟨c0, c1, c2, c3, c4, c5, c6, c7, c8, c9⟩ := K0.out _ q2
  go_wp2_with fail
  refine (V2.out _).mono ?_
  rintro r w3 ⟨rfl, b3⟩
  have q3 := q2.trans (b3.mono q2.size)
  clear q2 b3 c0 c1 c2 c3 c4 c5 c6 c7 c8 c9
  go_wp2_with fail
  have HS3 := Lib.hid (fun W (h : Below w3.heap.size w3 W) => (q3.trans (h.mono q3.size) : Below w0.heap.size w0 W))
  refine region_all (by kernel_rfl) (fqA (.agg #[.int .i64 f.B, .int .i64 f.D, .bool f.big, .bool f.tr, .int .i64 f.rm, .int .i64 f.gm, .int .i64 f.bm, .int .i64 f.rs, .int .i64 f.gs, .int .i64 f.bs]) (C : Nat) (L : Nat) (X : Nat) n) (fun W => Below w3.heap.size w3 W) [1, 3, 8, 9] [none, none, none, none, none, none, none, none, none, none, none, none, none, none, none, none, none, none, none, none, none, none, none, some 0, some 1, some 2, some 3, some 4, some 5, some 6, some 7, some 8, some 9, some 10, some 11, some 12, some 13, some 14, some 15, some 16, some 17, some 18, some 19, some 20, some 21, some 22, some 23, some 24, some 25, some 26, some 27, some 28, none, none, none, none, none, none, none, none, none, none, none, none, none, none, none, none, none, none, none, none, none, none, none, none, none, none, none, none, none, none, none, none, none, none, none, none, none, none, none, none, none, none, none, none, none, none, none, none, none, none, none, none, none, none, none, none, none, none, none, none, none] (by kernel_rfl) (by kernel_rfl) (by rfl) (by kernel_rfl) (by kernel_rfl) (by kernel_rfl) ((Below.refl _ _).drew) ⟨?_, ?_, ?_, ?_, ?_, ?_, ?_, ?_, ?_, ?_, ?_, ?_, ?_, ?_, ?_, ?_, ?_, ?_, ?_, ?_, ?_, ?_, ?_, ?_, ?_, ?_, ?_, ?_, ?_, trivial⟩ ?_
  case refine_30 =>
    intro w5 hS5
    have q5 := HS3.out _ hS5
    clear hS5 HS3 q3
    simp only [zipF, fqA]
    obtain ⟨c0, c1, c2, c3, c4, c5, c6, c7, c8, c9⟩ := K0.out _ q5
    go_upto_region 10 with fail
    go_cut [69] (fun o wx => w5 = wx ∧ o = .bool false)
    case first =>
      by_cases a1 : 255 ≤ f.rm
      · have e1 : decide (255 ≤ f.rm) = true := decide_eq_true a1
        by_cases a2 : 255 ≤ f.gm
        · have e2 : decide (255 ≤ f.gm) = true := decide_eq_true a2
          by_cases a3 : 255 ≤ f.bm
          · have e3 : decide (255 ≤ f.bm) = true := decide_eq_true a3
            obtain rfl := HLC.out a1 a2 a3
            go_wp2_with fail
            go_meet
            exact ⟨rfl, rfl⟩
          · have e3 : decide (255 ≤ f.bm) = false := decide_eq_false a3
            go_wp2_with fail
            go_meet
            exact ⟨rfl, rfl⟩
        · have e2 : decide (255 ≤ f.gm) = false := decide_eq_false a2
          go_wp2_with fail
          go_meet
          exact ⟨rfl, rfl⟩
      · have e1 : decide (255 ≤ f.rm) = false := decide_eq_false a1
        go_wp2_with fail
        go_meet
        exact ⟨rfl, rfl⟩
    case rest =>
    obtain ⟨rfl, rfl⟩ := hcut
    clear HLC hC hC2 hL lt0 gt0 gt1 V0 V1 V2 V3 V4 V5 V6
    by_cases a1 : 255 < f.rm
    · have e1 : decide (255 < f.rm) = true := decide_eq_true a1
      go_wp2_with fail
      go_ret
      exact ⟨rfl, HB.out _ q5⟩
    by_cases a2 : 255 < f.gm
    · have e1 : decide (255 < f.rm) = false := decide_eq_false a1
      have e2 : decide (255 < f.gm) = true := decide_eq_true a2
      go_wp2_with fail
      go_ret
      exact ⟨rfl, HB.out _ q5⟩
    by_cases a3 : 255 < f.bm
    · have e1 : decide (255 < f.rm) = false := decide_eq_false a1
      have e2 : decide (255 < f.gm) = false := decide_eq_false a2
      have e3 : decide (255 < f.bm) = true := decide_eq_true a3
      go_wp2_with fail
      go_ret
      exact ⟨rfl, HB.out _ q5⟩
    have e1 : decide (255 < f.rm) = false := decide_eq_false a1
    have e2 : decide (255 < f.gm) = false := decide_eq_false a2
    have e3 : decide (255 < f.bm) = false := decide_eq_false a3
    obtain ⟨P1, P2, P3, X1, X2, X3, X12, M, V, Y, p1, p2, p3, g1, g2, g3, g4, g5, g6, x1, x2, x3, y1, y2, y3, o1, o2, o3, U7, U8⟩ := A2.out (by omega) (by omega) (by omega)
    have V7 := Lib.hid U7
    have V8 := Lib.hid U8
    have wx1 : IntKind.i64.wrap (X1 : Int) = X1 := IntWalk.i64_in _ (by omega)
    have wx2 : IntKind.i64.wrap (X2 : Int) = X2 := IntWalk.i64_in _ (by omega)
    have wx3 : IntKind.i64.wrap (X3 : Int) = X3 := IntWalk.i64_in _ (by omega)
    clear A2 U7 U8 a1 a2 a3 y1 y2 y3
    go_wp2_with fail
    have HS5 := Lib.hid (fun W (h : Below w5.heap.size w5 W) => (q5.trans (h.mono q5.size) : Below w0.heap.size w0 W))
    clear c0 c1 c2 c3 c4 c5 c6 c7 c8 c9 e1 e2 e3
    refine region_all (by kernel_rfl) (fqB (.pointer (some ⟨w.heap.size, 4, none⟩)) (.pointer (some ⟨w.heap.size, 7, none⟩)) (.pointer (some ⟨w.heap.size, 5, none⟩)) (.pointer (some ⟨w.heap.size, 8, none⟩)) (.pointer (some ⟨w.heap.size, 6, none⟩)) (.pointer (some ⟨w.heap.size, 9, none⟩)) f.rm f.rs f.gm f.gs f.bm f.bs (X1 : Nat) (X2 : Nat) (X12 : Nat) (X3 : Nat) (M : Nat) (V : Nat) v) (fun W => Below w5.heap.size w5 W) [2, 3] [none, none, none, none, none, none, none, none, none, none, some 19, none, none, none, none, none, none, none, none, none, none, none, none, none, none, none, none, none, none, none, none, none, none, none, none, none, none, none, none, none, none, none, none, none, none, none, none, none, none, none, none, none, none, none, none, none, none, none, none, none, none, none, none, none, none, none, none, none, none, none, none, none, none, none, none, none, none, none, none, none, none, none, none, none, some 0, some 1, some 2, some 3, some 4, some 5, some 6, some 7, some 8, some 9, some 10, some 11, some 12, some 13, some 14, some 15, some 16, some 17, some 18, none, none, none, none, none, none, none, none, none, none] (by kernel_rfl) (by kernel_rfl) (by rfl) (by kernel_rfl) (by kernel_rfl) (by kernel_rfl) ((Below.refl _ _).drew) ⟨?_, ?_, ?_, ?_, ?_, ?_, ?_, ?_, ?_, ?_, ?_, ?_, ?_, ?_, ?_, ?_, ?_, ?_, ?_, ?_, trivial⟩ ?_
    case refine_21 =>
      intro w7 hS7
      have q7 := HS5.out _ hS7
      clear hS7 HS5 q5
      simp only [zipF, fqB]
      go_wp2_with fail
      have HS7 := Lib.hid (fun W (h : Below w7.heap.size w7 W) => (q7.trans (h.mono q7.size) : Below w0.heap.size w0 W))
      refine region_all (by kernel_rfl) (fqC (.agg #[.int .i64 f.B, .int .i64 f.D, .bool f.big, .bool f.tr, .int .i64 f.rm, .int .i64 f.gm, .int .i64 f.bm, .int .i64 f.rs, .int .i64 f.gs, .int .i64 f.bs]) (V : Nat) (Y : Nat)) (fun W => Below w7.heap.size w7 W) [3, 7, 10] [none, none, none, none, none, none, some 10, none, none, none, none, none, none, none, none, none, none, none, none, none, none, none, none, none, none, none, none, none, none, none, none, none, none, none, none, none, none, none, none, none, none, none, none, none, none, none, none, none, none, none, none, none, none, none, none, none, none, none, none, none, none, none, none, none, none, none, none, none, none, none, none, none, none, none, none, none, none, none, none, none, none, none, none, none, none, none, none, none, none, none, none, none, none, none, none, none, none, none, none, none, none, none, none, some 0, some 1, some 2, some 3, some 4, some 5, some 6, some 7, some 8, some 9] (by kernel_rfl) (by kernel_rfl) (by rfl) (by kernel_rfl) (by kernel_rfl) (by kernel_rfl) ((Below.refl _ _).drew) ⟨?_, ?_, ?_, ?_, ?_, ?_, ?_, ?_, ?_, ?_, ?_, trivial⟩ ?_
      case refine_12 =>
        intro W hS
        simp only [zipF, fqC]
        go_wp2_with fail
        go_ret
        exact ⟨rfl, HB.out _ (HS7.out _ hS)⟩
      all_goals
        intro ℓ act W hl hS hw hr hd
        clear hw
        simp [readFacts, depFacts, dstOf, Region.binds, fqC] at hr hd
        refine ⟨by first | exact wanted_none (by rfl) | exact wanted_guard (by rfl) (by rfl) (by simp only [*]), fun K hK => ?_⟩
        obtain ⟨c0, c1, c2, c3, c4, c5, c6, c7, c8, c9⟩ := K0.out _ (HS7.out W hS)
        go_simp
        first
          | (with_reducible refine (V7.out _).mono ?_
             rintro r w' ⟨rfl, b⟩
             exact hK _ (hS.trans (b.mono hS.size)))
          | (with_reducible refine (V8.out _).mono ?_
             rintro r w' ⟨rfl, b⟩
             exact hK _ (hS.trans (b.mono hS.size)))
          | exact hK _ hS
    all_goals
      intro ℓ act W hl hS hw hr hd
      clear hw
      simp [readFacts, depFacts, dstOf, Region.binds, fqB] at hr hd
      refine ⟨by first | exact wanted_none (by rfl) | exact wanted_guard (by rfl) (by rfl) (by simp only [*]), fun K hK => ?_⟩
      obtain ⟨c0, c1, c2, c3, c4, c5, c6, c7, c8, c9⟩ := K0.out _ (HS5.out W hS)
      go_simp
      first
        | exact hK _ hS
  all_goals
    intro ℓ act W hl hS hw hr hd
    clear hw
    simp [readFacts, depFacts, dstOf, Region.binds, fqA] at hr hd
    refine ⟨by first | exact wanted_none (by rfl) | exact wanted_guard (by rfl) (by rfl) (by simp only [*]), fun K hK => ?_⟩
    obtain ⟨c0, c1, c2, c3, c4, c5, c6, c7, c8, c9⟩ := K0.out _ (HS3.out W hS)
    go_simp
    first
      | (with_reducible refine (V3.out _).mono ?_
         rintro r w' ⟨rfl, b⟩
         exact hK _ (hS.trans (b.mono hS.size)))
      | (with_reducible refine (V4.out _).mono ?_
         rintro r w' ⟨rfl, b⟩
         exact hK _ (hS.trans (b.mono hS.size)))
      | (with_reducible refine (V5.out _).mono ?_
         rintro r w' ⟨rfl, b⟩
         exact hK _ (hS.trans (b.mono hS.size)))
      | (with_reducible refine (V6.out _).mono ?_
         rintro r w' ⟨rfl, b⟩
         exact hK _ (hS.trans (b.mono hS.size)))
      | exact hK _ hS
theorem walk (D : Says) (f : Fm) (n v : Int) (hf : f.Wf) (wn : (Lit.int .i64 n).wf = true) (w : World) :
    Calls Try.prog 6 #[f.v, .int .i64 n, .int .i64 v] w fun e w' => e = .returned (.bool true) ∧ Below w.heap.size w w' := by
  cases h : f.ok with
  | true => exact good D f n v hf wn h w
  | false => exact bad D f n v hf h w

set_option maxRecDepth 100000 in
theorem lifted (os : Os) (started : os.Started) (H : Type) (enc : TypeId × Value → H) :
    ReturnsInHanded {} Try.checked os 6 .any (Rows.formatQuantSpec.pre6 enc Try.prog Try.f6 Rows.formatQuantRow.domain false) (Rows.formatQuantSpec.post enc Try.prog Try.f6 false true false false) := by
  refine returnsInHanded_of_change (C := Try.checked) own started (by kernel_rfl) Try.func6
    (ChangeSpec.witness6 (enc := enc) (C := Try.checked) false ⟨#[], #[.agg #[.int .i64 0, .int .i64 0, .bool false, .bool false, .int .i64 0, .int .i64 0, .int .i64 0, .int .i64 0, .int .i64 0, .int .i64 0], .int .i64 0, .int .i64 0], []⟩ 8 (by kernel_rfl) (by kernel_rfl) (by kernel_rfl) (by kernel_rfl)) ?_
  intro W base args ds gs before hval0 hW hcnd _
  have hval : ∀ (j : Nat) t v, Try.f6.params[j]? = some t → args[j]? = some v → Value.okWide Try.prog W .any base t v := hval0
  have hW' := hW
  obtain ⟨p, q, hA0, hV, rfl, hfz, hnd⟩ := hW
  have hA : DataW.TrodAll enc Try.prog W 0 (fun _ => true) true Try.f6.params.toList args.toList ds p := hA0
  rw [Try.params6] at hA hval
  obtain ⟨v0, vs0, d0, ds0, p0, q0, hargs, rfl, rfl, h0, r0⟩ := trodAll_cons hA
  obtain ⟨v1, vs1, d1, ds1, p1, q1, rfl, rfl, rfl, h1, r1⟩ := trodAll_cons r0
  obtain ⟨v2, vs2, d2, ds2, p2, q2, rfl, rfl, rfl, h2, r2⟩ := trodAll_cons r1
  obtain ⟨rfl, rfl, rfl⟩ := trodAll_nil r2
  obtain rfl : args = #[v0, v1, v2] := by cases args; simp_all
  obtain ⟨rfl, rfl⟩ := trodVars_none hV
  have k0 := h0
  have lt0 : ∀ x ∈ p0, x.block < W.heap.size := by obtain ⟨m, hm⟩ := k0; exact DataW.trod_lt m _ _ _ hm
  obtain ⟨a0, rfl, w0⟩ := fmt_see (hval 0 23 v0 rfl rfl) h0
  have k1 := h1
  have lt1 : ∀ x ∈ p1, x.block < W.heap.size := by obtain ⟨m, hm⟩ := k1; exact DataW.trod_lt m _ _ _ hm
  obtain ⟨a1, rfl, rfl, rfl, w1⟩ := open_int Try.underlying3 (hval 1 3 v1 rfl rfl) h1
  have k2 := h2
  have lt2 : ∀ x ∈ p2, x.block < W.heap.size := by obtain ⟨m, hm⟩ := k2; exact DataW.trod_lt m _ _ _ hm
  obtain ⟨a2, rfl, rfl, rfl, w2⟩ := open_int Try.underlying3 (hval 2 3 v2 rfl rfl) h2
  clear hA0 hval0
  refine (walk says a0 a1 a2 w0 w1 W).mono fun e W' ⟨he, bel⟩ => ?_
  subst he
  exact ⟨_, rfl, _, _, _, [], _, [], hW', trodAll_mk1 (shut_bool Try.underlying4 _), (trodAll_cons_mk (Below.trod laidOut (by kernel_rfl) (of_decide_eq_true (by kernel_rfl)) k0 bel lt0) (trodAll_cons_mk (Below.trod laidOut (by kernel_rfl) (of_decide_eq_true (by kernel_rfl)) k1 bel lt1) (trodAll_cons_mk (Below.trod laidOut (by kernel_rfl) (of_decide_eq_true (by kernel_rfl)) k2 bel lt2) trodAll_mk0))), rfl, bel.frame _, fun h => by cases h⟩

theorem over : Rows.formatQuantRow.holds Try.pinned (OpenSpec.ofChange Rows.formatQuantSpec) :=
  OpenClaim.holds_of_wide 6 Try.f6 rfl rfl rfl rfl rfl rfl rfl ⟨rfl, rfl, rfl, rfl, rfl⟩ rfl rfl rfl rfl rfl (by kernel_rfl) Try.func6 (by kernel_rfl)
    (of_decide_eq_true (by kernel_rfl)) (by unfold Func.isWrapper; first | (rw [if_pos (by decide +kernel)]; kernel_rfl) | (rw [if_neg (by decide +kernel)]; exact ⟨rfl, rfl⟩))
    (fun os started H enc _ => lifted os started H enc)

theorem proved : Rows.FormatQuantSaid := over
end Go.Proofs.Ytkpmmfbheghocaa.formatQuant
