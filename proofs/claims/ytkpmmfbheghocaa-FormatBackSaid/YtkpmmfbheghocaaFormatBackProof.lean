/-
  FormatBack: what is put is got again: a format's bytes, a value, and, of a colour's value, as few bytes as it needs: whatever the format, the number and the text behind.
-/
import Derived.Test.YtkpmmfbheghocaaRows
import Derived.Test.YtkpmmfbheghocaaFmtPrgJ
import Derived.WalkKit
import Derived.ProofKit
import Derived.OpenShut
import Derived.ShutString
import Derived.ChangeOld
import Derived.Below
import Derived.Lib.SmallJoins
import Derived.Deep.Slices
namespace Go.Proofs.Ytkpmmfbheghocaa.formatBack
open Go.Proofs.Ytkpmmfbheghocaa.Fmt
open Go.ChangeShapes Go.WideShapes Go.ChangeAt Go.RowKit
open Go.ChangeMaps (open_string shut_string)
set_option linter.unusedVariables false

theorem own : ownKnob Try.prog.godebug = none := by kernel_rfl
theorem laidOut : laidOutB Try.prog = true := by kernel_rfl

open Go.Proofs.Ytkpmmfbheghocaa.RegVal
set_option maxRecDepth 100000
/-- What the operations of three regions leave. -/
def fkA (F A B : Value) (a b : ByteArray) (n : Int) : Nat → Value
  | 0 => F
  | 1 => F
  | 2 => .int .i64 n
  | 3 => .string a
  | 4 => .string b
  | 5 => .string (a ++ b)
  | 6 => A
  | 7 => A
  | 8 => B
  | 9 => .int .i64 0
  | 10 => B
  | 11 => .int .i64 0
  | _ => undef
def fkB (F A B : Value) (a b : ByteArray) (n : Int) : Nat → Value
  | 0 => F
  | 1 => F
  | 2 => .int .i64 n
  | 3 => .string a
  | 4 => .string b
  | 5 => .string (a ++ b)
  | 6 => A
  | 7 => A
  | 8 => B
  | 9 => .int .i64 0
  | 10 => B
  | 11 => .int .i64 0
  | _ => undef
def fkC (F p : Value) (a b : ByteArray) (sz q n v c m P : Int) : Nat → Value
  | 0 => .bool true
  | 1 => .bool true
  | 2 => .int .i64 v
  | 3 => .int .i64 v
  | 4 => .bool true
  | 5 => .bool true
  | 6 => .bool true
  | 7 => .int .i64 0
  | 8 => .bool true
  | 9 => .bool true
  | 10 => .bool true
  | 11 => .int .i64 c
  | 12 => .int .i64 c
  | 13 => .bool true
  | 14 => .bool true
  | 15 => .bool true
  | 16 => .int .i64 0
  | 17 => .bool true
  | 18 => .bool true
  | 19 => .bool true
  | 20 => F
  | 21 => .int .i64 n
  | 22 => .string a
  | 23 => .int .i64 sz
  | 24 => F
  | 25 => .int .i64 sz
  | 26 => .bool true
  | 27 => .bool true
  | 28 => .bool true
  | 29 => F
  | 30 => .int .i64 c
  | 31 => .string b
  | 32 => .int .i64 q
  | 33 => .int .i64 q
  | 34 => .bool true
  | 35 => .bool true
  | 36 => .bool true
  | 37 => .int .i64 c
  | 38 => .bool true
  | 39 => .bool true
  | 40 => .bool true
  | 41 => .int .i64 c
  | 42 => p
  | 43 => .int .i64 m
  | 44 => .int .i64 P
  | 45 => .bool true
  | 46 => .bool true
  | 47 => .bool true
  | _ => undef
theorem pow_wraps (P : Nat) (h1 : 1 ≤ P) (h2 : P ≤ 4294967296) : IntKind.i64.wrap (P : Int) = P ∧ IntKind.i64.wrap ((P : Int) - 1) = P - 1 ∧ wrap64 (P : Int) = P ∧ wrap64 ((P : Int) - 1) = P - 1 :=
  ⟨IntWalk.i64_in _ (by omega), IntWalk.i64_in _ (by omega), IntWalk.wrap64_in _ (by omega), IntWalk.wrap64_in _ (by omega)⟩
theorem early (D : Says) (f : Fm) (n : Int) (t : ByteArray) (hf : f.Wf) (wt : t.size ≤ maxLen) (h : 60 < t.size) (w : World) :
    Calls Try.prog 5 #[f.v, .int .i64 n, .string t] w fun e w' => e = .returned (.bool true) ∧ Below w.heap.size w w' := by
  unfold maxLen at wt
  have d1 : decide (60 < t.size) = true := decide_eq_true h
  have d2 : decide ((60 : Int) < t.size) = true := decide_eq_true (by omega)
  have bel := (Below.refl w.heap.size w).alloc (Nat.le_refl _) (.cells #[.int .i64 f.B, .int .i64 f.D, .bool f.big, .bool f.tr, .int .i64 f.rm, .int .i64 f.gm, .int .i64 f.bm, .int .i64 f.rs, .int .i64 f.gs, .int .i64 f.bs] 23)
  unfold Fm.v
  have W := Lib.hid (works_any D)
  go_enter Try.func5, Try.ntmps5
  go_wp2_with fail
  refine (W.out _).mono ?_
  rintro r w1 ⟨rfl, b1⟩
  have b := bel.trans (b1.mono bel.size)
  clear b1 bel
  go_wp2_with fail
  go_ret
  exact ⟨rfl, b⟩
theorem bad (D : Says) (f : Fm) (n : Int) (t : ByteArray) (hf : f.Wf) (ht : t.size ≤ 60) (h : f.ok = false) (w : World) :
    Calls Try.prog 5 #[f.v, .int .i64 n, .string t] w fun e w' => e = .returned (.bool true) ∧ Below w.heap.size w w' := by
  have d1 : decide (60 < t.size) = false := decide_eq_false (by omega)
  have d2 : decide ((60 : Int) < t.size) = false := decide_eq_false (by omega)
  have V0 := Lib.hid (works_any D)
  have V1 := Lib.hid (D.valid f hf)
  rw [h] at V1
  have hv : f.v = .agg #[.int .i64 f.B, .int .i64 f.D, .bool f.big, .bool f.tr, .int .i64 f.rm, .int .i64 f.gm, .int .i64 f.bm, .int .i64 f.rs, .int .i64 f.gs, .int .i64 f.bs] := rfl
  rw [hv] at V1 ⊢
  have a0 := FmAt.box f w 23
  have z0 := alloc_size w (.cells #[.int .i64 f.B, .int .i64 f.D, .bool f.big, .bool f.tr, .int .i64 f.rm, .int .i64 f.gm, .int .i64 f.bm, .int .i64 f.rs, .int .i64 f.gs, .int .i64 f.bs] 23)
  have K0 := Lib.hid (fun W' (h : Below (w.alloc (.cells #[.int .i64 f.B, .int .i64 f.D, .bool f.big, .bool f.tr, .int .i64 f.rm, .int .i64 f.gm, .int .i64 f.bm, .int .i64 f.rs, .int .i64 f.gs, .int .i64 f.bs] 23)).heap.size (w.alloc (.cells #[.int .i64 f.B, .int .i64 f.D, .bool f.big, .bool f.tr, .int .i64 f.rm, .int .i64 f.gm, .int .i64 f.bm, .int .i64 f.rs, .int .i64 f.gs, .int .i64 f.bs] 23)) W') => a0.below h (by rw [z0]; omega))
  have b0 := (Below.refl w.heap.size w).alloc (Nat.le_refl _) (.cells #[.int .i64 f.B, .int .i64 f.D, .bool f.big, .bool f.tr, .int .i64 f.rm, .int .i64 f.gm, .int .i64 f.bm, .int .i64 f.rs, .int .i64 f.gs, .int .i64 f.bs] 23)
  have q0 := Below.refl (w.alloc (.cells #[.int .i64 f.B, .int .i64 f.D, .bool f.big, .bool f.tr, .int .i64 f.rm, .int .i64 f.gm, .int .i64 f.bm, .int .i64 f.rs, .int .i64 f.gs, .int .i64 f.bs] 23)).heap.size (w.alloc (.cells #[.int .i64 f.B, .int .i64 f.D, .bool f.big, .bool f.tr, .int .i64 f.rm, .int .i64 f.gm, .int .i64 f.bm, .int .i64 f.rs, .int .i64 f.gs, .int .i64 f.bs] 23))
  clear D hf hv a0 z0
  go_enter Try.func5, Try.ntmps5
  go_wp2_with fail
  generalize w.alloc (.cells #[.int .i64 f.B, .int .i64 f.D, .bool f.big, .bool f.tr, .int .i64 f.rm, .int .i64 f.gm, .int .i64 f.bm, .int .i64 f.rs, .int .i64 f.gs, .int .i64 f.bs] 23) = w0 at *
  refine (V0.out _).mono ?_
  rintro r w1 ⟨rfl, b1⟩
  have q1 := q0.trans (b1.mono q0.size)
  clear q0 b1
  obtain ⟨c0, c1, c2, c3, c4, c5, c6, c7, c8, c9⟩ := K0.out _ q1
  go_wp2_with fail
  refine (V1.out _).mono ?_
  rintro r w2 ⟨rfl, b2⟩
  have q2 := q1.trans (b2.mono q1.size)
  clear q1 b2 c0 c1 c2 c3 c4 c5 c6 c7 c8 c9
  go_wp2_with fail
  go_ret
  exact ⟨rfl, b0.trans (q2.mono b0.size)⟩
set_option maxHeartbeats 8000000 in
theorem good (D : Says) (f : Fm) (n : Int) (t : ByteArray) (hf : f.Wf) (wn : (Lit.int .i64 n).wf = true) (ht : t.size ≤ 60) (h : f.ok = true) (w : World) :
    Calls Try.prog 5 #[f.v, .int .i64 n, .string t] w fun e w' => e = .returned (.bool true) ∧ Below w.heap.size w w' := by
  have d1 : decide (60 < t.size) = false := decide_eq_false (by omega)
  have d2 : decide ((60 : Int) < t.size) = false := decide_eq_false (by omega)
  obtain ⟨k, j, l, s, tt, u, m, H⟩ := f.is h
  have HM := Lib.hid H.B
  have hm : m ≤ 32 := by have := H.hn; omega
  have hmt : f.B.toNat = m := by have := H.B; omega
  obtain ⟨P, hP, hP2, hP3, hP4⟩ := pow_int hm
  obtain ⟨p1, p2, p3⟩ := parse_bytes h t
  obtain ⟨p4, p5, p6⟩ := put_back h n t
  obtain ⟨p7, p8, p9⟩ := cput_back h n t
  obtain ⟨_, _, p10⟩ := val_le H n
  have hsz := put_size_le f n
  have hsc := put_size_le f (f.val n : Nat)
  rw [hmt, hP] at p4
  rw [← hP2] at p10
  have e1 : f.valI n = (f.val n : Nat) := by unfold Fm.valI; rw [h]; rfl
  have wc : (Lit.int .i64 (f.val n : Nat)).wf = true := by
    simp only [Lit.wf, IntKind.min, IntKind.max, IntKind.signed, IntKind.bits, Bool.and_eq_true, decide_eq_true_eq, if_true]
    omega
  have V0 := Lib.hid (works_any D)
  have V1 := Lib.hid (D.valid f hf)
  have V2 := Lib.hid (D.bytes f hf)
  have V3 := Lib.hid (D.parse (f.bytes ++ t) (by rw [ByteArray.size_append]; omega))
  have V4 := Lib.hid (D.put f hf n wn)
  have V5 := Lib.hid (D.get f hf (f.put n ++ t) (by rw [ByteArray.size_append]; omega))
  have V6 := Lib.hid (D.value f hf n wn)
  have V7 := Lib.hid (D.cput f hf (f.val n : Nat) wc)
  have V8 := Lib.hid (D.cget f hf (f.cput (f.val n : Nat) ++ t) (by rw [ByteArray.size_append]; omega))
  have V9 := Lib.hid (D.compact f hf)
  have V10 := Lib.hid (D.size f hf)
  rw [h] at V1
  rw [p1, p2] at V3
  rw [p4, p5] at V5
  rw [e1] at V6
  rw [p7, p8] at V8
  have hmask := Bit.i64_mask n m (by omega)
  rw [hP] at hmask
  clear p1 p2 p4 p5 p7 p8 e1 wc
  generalize f.bytes = BS at *
  generalize f.put n = PT at *
  generalize f.val n = C at *
  generalize f.cput (C : Nat) = CT at *
  generalize f.size = SZ at *
  generalize f.few.1 = Q1 at *
  generalize f.few.2 = Q2 at *
  obtain ⟨VV, hVV⟩ : ∃ VV : Int, n % P = VV := ⟨_, rfl⟩
  rw [hVV] at V5 hmask
  have hv : f.v = .agg #[.int .i64 f.B, .int .i64 f.D, .bool f.big, .bool f.tr, .int .i64 f.rm, .int .i64 f.gm, .int .i64 f.bm, .int .i64 f.rs, .int .i64 f.gs, .int .i64 f.bs] := rfl
  rw [H.B] at hv
  rw [hv] at V1 V2 V3 V4 V5 V6 V7 V8 V9 V10 ⊢
  have a0 := FmAt.box f w 23
  have z0 := alloc_size w (.cells #[.int .i64 f.B, .int .i64 f.D, .bool f.big, .bool f.tr, .int .i64 f.rm, .int .i64 f.gm, .int .i64 f.bm, .int .i64 f.rs, .int .i64 f.gs, .int .i64 f.bs] 23)
  rw [H.B] at a0 z0
  have K0 := Lib.hid (fun W' (h : Below (w.alloc (.cells #[.int .i64 (m : Nat), .int .i64 f.D, .bool f.big, .bool f.tr, .int .i64 f.rm, .int .i64 f.gm, .int .i64 f.bm, .int .i64 f.rs, .int .i64 f.gs, .int .i64 f.bs] 23)).heap.size (w.alloc (.cells #[.int .i64 (m : Nat), .int .i64 f.D, .bool f.big, .bool f.tr, .int .i64 f.rm, .int .i64 f.gm, .int .i64 f.bm, .int .i64 f.rs, .int .i64 f.gs, .int .i64 f.bs] 23)) W') => a0.below h (by rw [z0]; omega))
  have b0 := (Below.refl w.heap.size w).alloc (Nat.le_refl _) (.cells #[.int .i64 (m : Nat), .int .i64 f.D, .bool f.big, .bool f.tr, .int .i64 f.rm, .int .i64 f.gm, .int .i64 f.bm, .int .i64 f.rs, .int .i64 f.gs, .int .i64 f.bs] 23)
  have q0 := Below.refl (w.alloc (.cells #[.int .i64 (m : Nat), .int .i64 f.D, .bool f.big, .bool f.tr, .int .i64 f.rm, .int .i64 f.gm, .int .i64 f.bm, .int .i64 f.rs, .int .i64 f.gs, .int .i64 f.bs] 23)).heap.size (w.alloc (.cells #[.int .i64 (m : Nat), .int .i64 f.D, .bool f.big, .bool f.tr, .int .i64 f.rm, .int .i64 f.gm, .int .i64 f.bm, .int .i64 f.rs, .int .i64 f.gs, .int .i64 f.bs] 23))
  have hdP : decide ((C : Int) < P) = true := decide_eq_true (by omega)
  have hdP2 : decide (C < P) = true := decide_eq_true p10
  have hd0 : decide ((0 : Int) ≤ C) = true := decide_eq_true (by omega)
  have hsm : (m : Int) < 64 := by omega
  obtain ⟨wP, wP1, wP2, wP3⟩ := pow_wraps P hP3 hP4
  have l1 : ¬ (9223372036854775807 < SZ + t.size) := by omega
  have l2 : ¬ (9223372036854775807 < Q1 + t.size) := by omega
  clear D hf hv a0 z0 wn H h hmt hP2 hVV
  go_enter Try.func5, Try.ntmps5
  go_wp2_with fail
  generalize w.alloc (.cells #[.int .i64 (m : Nat), .int .i64 f.D, .bool f.big, .bool f.tr, .int .i64 f.rm, .int .i64 f.gm, .int .i64 f.bm, .int .i64 f.rs, .int .i64 f.gs, .int .i64 f.bs] 23) = w0 at *
  have HB := Lib.hid (fun W (h : Below w0.heap.size w0 W) => (b0.trans (h.mono b0.size) : Below w.heap.size w W))
  clear b0
  refine (V0.out _).mono ?_
  rintro r w1 ⟨rfl, b1⟩
  have q1 := q0.trans (b1.mono q0.size)
  clear q0 b1
  obtain ⟨c0, c1, c2, c3, c4, c5, c6, c7, c8, c9⟩ := K0.out _ q1
  rw [HM.out] at c0
  go_wp2_with fail
  refine (V1.out _).mono ?_
  rintro r w2 ⟨rfl, b2⟩
  have q2 := q1.trans (b2.mono q1.size)
  clear q1 b2 c0 c1 c2 c3 c4 c5 c6 c7 c8 c9
  obtain ⟨c0, c1, c2, c3, c4, c5, c6, c7, c8, c9⟩ := K0.out _ q2
  rw [HM.out] at c0
  go_wp2_with fail
  refine (V2.out _).mono ?_
  rintro r w3 ⟨rfl, b3⟩
  have q3 := q2.trans (b3.mono q2.size)
  clear q2 b3 c0 c1 c2 c3 c4 c5 c6 c7 c8 c9
  go_wp2_with fail
  refine (V3.out _).mono ?_
  rintro r w4 ⟨rfl, b4⟩
  have q4 := q3.trans (b4.mono q3.size)
  clear q3 b4
  have a4 := FmAt.box f w4 23
  rw [HM.out] at a4
  have q5 := q4.alloc q4.size (.cells #[.int .i64 (m : Nat), .int .i64 f.D, .bool f.big, .bool f.tr, .int .i64 f.rm, .int .i64 f.gm, .int .i64 f.bm, .int .i64 f.rs, .int .i64 f.gs, .int .i64 f.bs] 23)
  obtain ⟨c0, c1, c2, c3, c4, c5, c6, c7, c8, c9⟩ := K0.out _ q5
  rw [HM.out] at c0
  obtain ⟨z0, z1, z2, z3, z4, z5, z6, z7, z8, z9⟩ := a4
  rw [HM.out] at z0
  clear q4
  go_wp2_with fail
  generalize w4.alloc (.cells #[.int .i64 (m : Nat), .int .i64 f.D, .bool f.big, .bool f.tr, .int .i64 f.rm, .int .i64 f.gm, .int .i64 f.bm, .int .i64 f.rs, .int .i64 f.gs, .int .i64 f.bs] 23) = w5 at *
  refine (V2.out _).mono ?_
  rintro r w6 ⟨rfl, b6⟩
  have q6 := q5.trans (b6.mono q5.size)
  clear q5 b6 c0 c1 c2 c3 c4 c5 c6 c7 c8 c9 z0 z1 z2 z3 z4 z5 z6 z7 z8 z9
  obtain ⟨c0, c1, c2, c3, c4, c5, c6, c7, c8, c9⟩ := K0.out _ q6
  rw [HM.out] at c0
  go_wp2_with fail
  have HS6 := Lib.hid (fun W (h : Below w6.heap.size w6 W) => (q6.trans (h.mono q6.size) : Below w0.heap.size w0 W))
  clear c0 c1 c2 c3 c4 c5 c6 c7 c8 c9 q6
  refine region_all (by kernel_rfl) (fkA (.agg #[.int .i64 (m : Nat), .int .i64 f.D, .bool f.big, .bool f.tr, .int .i64 f.rm, .int .i64 f.gm, .int .i64 f.bm, .int .i64 f.rs, .int .i64 f.gs, .int .i64 f.bs]) (.tuple #[.int .i64 VV, .int .i64 0]) (.int .i64 VV) PT t n) (fun W => Below w6.heap.size w6 W) [1, 2, 3] [none, none, none, none, none, none, none, none, none, none, none, some 10, some 11, none, none, none, none, none, none, none, none, none, none, none, none, none, none, none, none, none, none, none, none, none, none, none, none, none, none, none, none, none, none, none, none, none, none, none, none, none, none, none, none, none, none, none, none, some 7, some 0, some 1, some 2, some 3, some 4, some 5, some 6, some 8, some 9, none, none, none, none, none, none, none, none, none, none, none, none, none, none, none, none, none, none, none, none, none, none, none, none, none, none, none, none, none, none, none, none, none, none, none, none, none, none, none, none, none, none, none, none, none, none, none, none, none, none, none, none, none, none, none, none, none, none, none, none, none, none, none, none, none] (by kernel_rfl) (by kernel_rfl) (by rfl) (by kernel_rfl) (by kernel_rfl) (by kernel_rfl) ((Below.refl _ _).drew) ⟨?_, ?_, ?_, ?_, ?_, ?_, ?_, ?_, ?_, ?_, ?_, ?_, trivial⟩ ?_
  case refine_13 =>
    intro w7 hS7
    have q7 := HS6.out _ hS7
    clear hS7 HS6
    simp only [zipF, fkA]
    obtain ⟨c0, c1, c2, c3, c4, c5, c6, c7, c8, c9⟩ := K0.out _ q7
    rw [HM.out] at c0
    go_wp2_with fail
    refine (V6.out _).mono ?_
    rintro r w8 ⟨rfl, b8⟩
    have q8 := q7.trans (b8.mono q7.size)
    clear q7 b8 c0 c1 c2 c3 c4 c5 c6 c7 c8 c9
    go_wp2_with fail
    have HS8 := Lib.hid (fun W (h : Below w8.heap.size w8 W) => (q8.trans (h.mono q8.size) : Below w0.heap.size w0 W))
    clear q8
    refine region_all (by kernel_rfl) (fkB (.agg #[.int .i64 (m : Nat), .int .i64 f.D, .bool f.big, .bool f.tr, .int .i64 f.rm, .int .i64 f.gm, .int .i64 f.bm, .int .i64 f.rs, .int .i64 f.gs, .int .i64 f.bs]) (.tuple #[.int .i64 (C : Nat), .int .i64 0]) (.int .i64 (C : Nat)) CT t (C : Nat)) (fun W => Below w8.heap.size w8 W) [2, 3, 13] [none, none, none, none, none, none, none, none, none, none, none, none, none, none, some 10, some 11, none, none, none, none, none, none, none, none, none, none, none, none, none, none, none, none, none, none, none, none, none, none, none, none, none, none, none, none, none, none, none, none, none, none, none, none, none, none, none, none, none, none, none, none, none, none, none, none, none, none, none, none, none, none, some 7, some 0, some 1, some 2, some 3, some 4, some 5, some 6, some 8, some 9, none, none, none, none, none, none, none, none, none, none, none, none, none, none, none, none, none, none, none, none, none, none, none, none, none, none, none, none, none, none, none, none, none, none, none, none, none, none, none, none, none, none, none, none, none, none, none, none, none, none, none, none] (by kernel_rfl) (by kernel_rfl) (by rfl) (by kernel_rfl) (by kernel_rfl) (by kernel_rfl) ((Below.refl _ _).drew) ⟨?_, ?_, ?_, ?_, ?_, ?_, ?_, ?_, ?_, ?_, ?_, ?_, trivial⟩ ?_
    case refine_13 =>
      intro w9 hS9
      have q9 := HS8.out _ hS9
      clear hS9 HS8
      simp only [zipF, fkB]
      obtain ⟨c0, c1, c2, c3, c4, c5, c6, c7, c8, c9⟩ := K0.out _ q9
      rw [HM.out] at c0
      go_wp2_with fail
      refine (V9.out _).mono ?_
      rintro r w10 ⟨rfl, b10⟩
      have q10 := q9.trans (b10.mono q9.size)
      clear q9 b10 c0 c1 c2 c3 c4 c5 c6 c7 c8 c9
      go_wp2_with fail
      have HS10 := Lib.hid (fun W (h : Below w10.heap.size w10 W) => (q10.trans (h.mono q10.size) : Below w0.heap.size w0 W))
      clear q10
      refine region_all (by kernel_rfl) (fkC (.agg #[.int .i64 (m : Nat), .int .i64 f.D, .bool f.big, .bool f.tr, .int .i64 f.rm, .int .i64 f.gm, .int .i64 f.bm, .int .i64 f.rs, .int .i64 f.gs, .int .i64 f.bs]) (.pointer (some ⟨w.heap.size, 0, none⟩)) PT CT (SZ : Nat) (Q1 : Nat) n VV (C : Nat) (m : Nat) (P : Nat)) (fun W => Below w10.heap.size w10 W) [1, 3, 7, 10, 11, 12, 13, 14, 15, 16] [none, none, none, none, none, none, some 47, none, none, none, none, none, none, none, none, none, none, none, none, none, none, none, none, none, none, none, none, none, none, none, none, none, none, none, none, none, none, none, none, none, none, none, none, none, none, none, none, none, none, none, none, none, none, none, none, none, none, none, none, none, none, none, none, none, none, none, none, none, none, none, none, none, none, none, none, none, none, none, none, none, none, none, none, none, none, some 0, some 1, some 2, some 3, some 4, some 5, some 6, some 7, some 8, some 9, some 10, some 11, some 12, some 13, some 14, some 15, some 16, some 17, some 18, some 19, some 20, some 21, some 22, some 23, some 24, some 25, some 26, some 27, some 28, some 29, some 30, some 31, some 32, some 33, some 34, some 35, some 36, some 37, some 38, some 39, some 40, some 41, some 42, some 43, some 44, some 45, some 46] (by kernel_rfl) (by kernel_rfl) (by rfl) (by kernel_rfl) (by kernel_rfl) (by kernel_rfl) ((Below.refl _ _).drew) ⟨?_, ?_, ?_, ?_, ?_, ?_, ?_, ?_, ?_, ?_, ?_, ?_, ?_, ?_, ?_, ?_, ?_, ?_, ?_, ?_, ?_, ?_, ?_, ?_, ?_, ?_, ?_, ?_, ?_, ?_, ?_, ?_, ?_, ?_, ?_, ?_, ?_, ?_, ?_, ?_, ?_, ?_, ?_, ?_, ?_, ?_, ?_, ?_, trivial⟩ ?_
      case refine_49 =>
        intro W hS
        simp only [zipF, fkC]
        go_wp2_with fail
        go_ret
        exact ⟨rfl, HB.out _ (HS10.out _ hS)⟩
      all_goals
        intro ℓ act W hl hS hw hr hd
        clear hw
        simp [readFacts, depFacts, dstOf, Region.binds, fkC] at hr hd
        refine ⟨by first | exact wanted_none (by rfl) | exact wanted_guard (by rfl) (by rfl) (by simp only [*]), fun K hK => ?_⟩
        obtain ⟨c0, c1, c2, c3, c4, c5, c6, c7, c8, c9⟩ := K0.out _ (HS10.out W hS)
        rw [HM.out] at c0
        go_simp
        first
          | (with_reducible refine (V4.out _).mono ?_
             rintro r w' ⟨rfl, b⟩
             exact hK _ (hS.trans (b.mono hS.size)))
          | (with_reducible refine (V10.out _).mono ?_
             rintro r w' ⟨rfl, b⟩
             exact hK _ (hS.trans (b.mono hS.size)))
          | (with_reducible refine (V7.out _).mono ?_
             rintro r w' ⟨rfl, b⟩
             exact hK _ (hS.trans (b.mono hS.size)))
          | exact hK _ hS
    all_goals
      intro ℓ act W hl hS hw hr hd
      clear hw
      simp [readFacts, depFacts, dstOf, Region.binds, fkB] at hr hd
      refine ⟨by first | exact wanted_none (by rfl) | exact wanted_guard (by rfl) (by rfl) (by simp only [*]), fun K hK => ?_⟩
      obtain ⟨c0, c1, c2, c3, c4, c5, c6, c7, c8, c9⟩ := K0.out _ (HS8.out W hS)
      rw [HM.out] at c0
      go_simp
      first
        | (with_reducible refine (V7.out _).mono ?_
           rintro r w' ⟨rfl, b⟩
           exact hK _ (hS.trans (b.mono hS.size)))
        | (with_reducible refine (V8.out _).mono ?_
           rintro r w' ⟨rfl, b⟩
           exact hK _ (hS.trans (b.mono hS.size)))
        | exact hK _ hS
  all_goals
    intro ℓ act W hl hS hw hr hd
    clear hw
    simp [readFacts, depFacts, dstOf, Region.binds, fkA] at hr hd
    refine ⟨by first | exact wanted_none (by rfl) | exact wanted_guard (by rfl) (by rfl) (by simp only [*]), fun K hK => ?_⟩
    obtain ⟨c0, c1, c2, c3, c4, c5, c6, c7, c8, c9⟩ := K0.out _ (HS6.out W hS)
    rw [HM.out] at c0
    go_simp
    first
      | (with_reducible refine (V4.out _).mono ?_
         rintro r w' ⟨rfl, b⟩
         exact hK _ (hS.trans (b.mono hS.size)))
      | (with_reducible refine (V5.out _).mono ?_
         rintro r w' ⟨rfl, b⟩
         exact hK _ (hS.trans (b.mono hS.size)))
      | exact hK _ hS
theorem walk (D : Says) (f : Fm) (n : Int) (t : ByteArray) (hf : f.Wf) (wn : (Lit.int .i64 n).wf = true) (wt : t.size ≤ maxLen) (w : World) :
    Calls Try.prog 5 #[f.v, .int .i64 n, .string t] w fun e w' => e = .returned (.bool true) ∧ Below w.heap.size w w' := by
  by_cases h60 : 60 < t.size
  · exact early D f n t hf wt h60 w
  cases h : f.ok with
  | true => exact good D f n t hf wn (by omega) h w
  | false => exact bad D f n t hf (by omega) h w

set_option maxRecDepth 100000 in
theorem lifted (os : Os) (started : os.Started) (H : Type) (enc : TypeId × Value → H) :
    ReturnsInHanded {} Try.checked os 5 .any (Rows.formatBackSpec.pre6 enc Try.prog Try.f5 Rows.formatBackRow.domain false) (Rows.formatBackSpec.post enc Try.prog Try.f5 false true false false) := by
  refine returnsInHanded_of_change (C := Try.checked) own started (by kernel_rfl) Try.func5
    (ChangeSpec.witness6 (enc := enc) (C := Try.checked) false ⟨#[], #[.agg #[.int .i64 0, .int .i64 0, .bool false, .bool false, .int .i64 0, .int .i64 0, .int .i64 0, .int .i64 0, .int .i64 0, .int .i64 0], .int .i64 0, .string ByteArray.empty], []⟩ 8 (by kernel_rfl) (by kernel_rfl) (by kernel_rfl) (by kernel_rfl)) ?_
  intro W base args ds gs before hval0 hW hcnd _
  have hval : ∀ (j : Nat) t v, Try.f5.params[j]? = some t → args[j]? = some v → Value.okWide Try.prog W .any base t v := hval0
  have hW' := hW
  obtain ⟨p, q, hA0, hV, rfl, hfz, hnd⟩ := hW
  have hA : DataW.TrodAll enc Try.prog W 0 (fun _ => true) true Try.f5.params.toList args.toList ds p := hA0
  rw [Try.params5] at hA hval
  obtain ⟨v0, vs0, d0, ds0, p0, q0, hargs, rfl, rfl, h0, r0⟩ := trodAll_cons hA
  obtain ⟨v1, vs1, d1, ds1, p1, q1, rfl, rfl, rfl, h1, r1⟩ := trodAll_cons r0
  obtain ⟨v2, vs2, d2, ds2, p2, q2, rfl, rfl, rfl, h2, r2⟩ := trodAll_cons r1
  obtain ⟨rfl, rfl, rfl⟩ := trodAll_nil r2
  obtain rfl : args = #[v0, v1, v2] := by cases args; simp_all
  obtain ⟨rfl, rfl⟩ := trodVars_none hV
  have k0 := h0
  have lt0 : ∀ x ∈ p0, x.block < W.heap.size := by obtain ⟨m, hm⟩ := k0; exact DataW.trod_lt m _ _ _ hm
  obtain ⟨a0, rfl, w0⟩ := fmt_see (hval 0 23 v0 rfl rfl) h0
  have k1 := h1
  have lt1 : ∀ x ∈ p1, x.block < W.heap.size := by obtain ⟨m, hm⟩ := k1; exact DataW.trod_lt m _ _ _ hm
  obtain ⟨a1, rfl, rfl, rfl, w1⟩ := open_int Try.underlying3 (hval 1 3 v1 rfl rfl) h1
  have k2 := h2
  have lt2 : ∀ x ∈ p2, x.block < W.heap.size := by obtain ⟨m, hm⟩ := k2; exact DataW.trod_lt m _ _ _ hm
  obtain ⟨a2, rfl, rfl, rfl, w2⟩ := open_string Try.underlying9 (hval 2 9 v2 rfl rfl) h2
  clear hA0 hval0
  refine (walk says a0 a1 a2 w0 w1 w2 W).mono fun e W' ⟨he, bel⟩ => ?_
  subst he
  exact ⟨_, rfl, _, _, _, [], _, [], hW', trodAll_mk1 (shut_bool Try.underlying4 _), (trodAll_cons_mk (Below.trod laidOut (by kernel_rfl) (of_decide_eq_true (by kernel_rfl)) k0 bel lt0) (trodAll_cons_mk (Below.trod laidOut (by kernel_rfl) (of_decide_eq_true (by kernel_rfl)) k1 bel lt1) (trodAll_cons_mk (Below.trod laidOut (by kernel_rfl) (of_decide_eq_true (by kernel_rfl)) k2 bel lt2) trodAll_mk0))), rfl, bel.frame _, fun h => by cases h⟩

theorem over : Rows.formatBackRow.holds Try.pinned (OpenSpec.ofChange Rows.formatBackSpec) :=
  OpenClaim.holds_of_wide 5 Try.f5 rfl rfl rfl rfl rfl rfl rfl ⟨rfl, rfl, rfl, rfl, rfl⟩ rfl rfl rfl rfl rfl (by kernel_rfl) Try.func5 (by kernel_rfl)
    (of_decide_eq_true (by kernel_rfl)) (by unfold Func.isWrapper; first | (rw [if_pos (by decide +kernel)]; kernel_rfl) | (rw [if_neg (by decide +kernel)]; exact ⟨rfl, rfl⟩))
    (fun os started H enc _ => lifted os started H enc)

theorem proved : Rows.FormatBackSaid := over
end Go.Proofs.Ytkpmmfbheghocaa.formatBack
