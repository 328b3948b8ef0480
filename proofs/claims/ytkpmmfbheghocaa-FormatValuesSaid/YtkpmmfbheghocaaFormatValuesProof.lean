/-
  FormatValues: the value of any colour, and the colour of any value, by any format, are as the document says; by one that may not be all are 0: whatever the format and the number.
-/
import Derived.Test.YtkpmmfbheghocaaRows
import Derived.Test.YtkpmmfbheghocaaFmtPrgJ
import Derived.WalkKit
import Derived.ProofKit
import Derived.OpenShut
import Derived.ShutString
import Derived.ChangeOld
import Derived.Below
import Derived.Lib.SmallJoins
import Derived.Deep.Slices
namespace Go.Proofs.Ytkpmmfbheghocaa.formatValues
open Go.Proofs.Ytkpmmfbheghocaa.Fmt
open Go.ChangeShapes Go.WideShapes Go.ChangeAt Go.RowKit
open Go.ChangeMaps (open_string shut_string)
set_option linter.unusedVariables false

theorem own : ownKnob Try.prog.godebug = none := by kernel_rfl
theorem laidOut : laidOutB Try.prog = true := by kernel_rfl

open Go.Proofs.Ytkpmmfbheghocaa.RegVal
set_option maxRecDepth 100000
/-- What the last region's operations leave. -/
def fvV (F P a b c z s B : Value) (n : Int) : Nat → Value
  | 0 => .bool true
  | 1 => .bool true
  | 2 => F
  | 3 => .int .i64 n
  | 4 => a
  | 5 => F
  | 6 => .int .i64 n
  | 7 => a
  | 8 => .bool true
  | 9 => .bool true
  | 10 => .bool true
  | 11 => F
  | 12 => .int .i64 n
  | 13 => b
  | 14 => F
  | 15 => .int .i64 n
  | 16 => b
  | 17 => .bool true
  | 18 => .bool true
  | 19 => .bool true
  | 20 => F
  | 21 => .int .i64 n
  | 22 => c
  | 23 => F
  | 24 => .int .i64 n
  | 25 => c
  | 26 => .bool true
  | 27 => .bool true
  | 28 => .bool true
  | 29 => F
  | 30 => z
  | 31 => P
  | 32 => B
  | 33 => s
  | 34 => .bool true
  | 35 => .bool true
  | 36 => .bool true
  | _ => undef
set_option maxHeartbeats 4000000 in
theorem bad (D : Says) (f : Fm) (n : Int) (hf : f.Wf) (wn : (Lit.int .i64 n).wf = true) (h : f.ok = false) (w : World) :
    Calls Try.prog 4 #[f.v, .int .i64 n] w fun e w' => e = .returned (.bool true) ∧ Below w.heap.size w w' := by
  have V0 := Lib.hid (works_any D)
  have V1 := Lib.hid (refValid_any f hf)
  have V2 := Lib.hid (D.value f hf n wn)
  have V3 := Lib.hid (D.colour f hf n wn)
  have V4 := Lib.hid (D.quant f hf n wn)
  have V5 := Lib.hid (D.size f hf)
  have e1 : f.valI n = 0 := by unfold Fm.valI; rw [h]; rfl
  have e2 : f.colI n = 0 := by unfold Fm.colI; rw [h]; rfl
  have e3 : f.leftI n = 0 := by unfold Fm.leftI; rw [h]; rfl
  have e4 : f.size = 0 := by unfold Fm.size; rw [h]; rfl
  rw [e1] at V2
  rw [e2] at V3
  rw [e3] at V4
  rw [e4] at V5
  rw [h] at V1
  clear e1 e2 e3 e4 h
  have hv : f.v = .agg #[.int .i64 f.B, .int .i64 f.D, .bool f.big, .bool f.tr, .int .i64 f.rm, .int .i64 f.gm, .int .i64 f.bm, .int .i64 f.rs, .int .i64 f.gs, .int .i64 f.bs] := rfl
  rw [hv] at V1 V2 V3 V4 V5 ⊢
  have a0 := FmAt.box f w 23
  have z0 := alloc_size w (.cells #[.int .i64 f.B, .int .i64 f.D, .bool f.big, .bool f.tr, .int .i64 f.rm, .int .i64 f.gm, .int .i64 f.bm, .int .i64 f.rs, .int .i64 f.gs, .int .i64 f.bs] 23)
  have K0 := Lib.hid (fun W' (h : Below (w.alloc (.cells #[.int .i64 f.B, .int .i64 f.D, .bool f.big, .bool f.tr, .int .i64 f.rm, .int .i64 f.gm, .int .i64 f.bm, .int .i64 f.rs, .int .i64 f.gs, .int .i64 f.bs] 23)).heap.size (w.alloc (.cells #[.int .i64 f.B, .int .i64 f.D, .bool f.big, .bool f.tr, .int .i64 f.rm, .int .i64 f.gm, .int .i64 f.bm, .int .i64 f.rs, .int .i64 f.gs, .int .i64 f.bs] 23)) W') => a0.below h (by rw [z0]; omega))
  have b0 := (Below.refl w.heap.size w).alloc (Nat.le_refl _) (.cells #[.int .i64 f.B, .int .i64 f.D, .bool f.big, .bool f.tr, .int .i64 f.rm, .int .i64 f.gm, .int .i64 f.bm, .int .i64 f.rs, .int .i64 f.gs, .int .i64 f.bs] 23)
  have q0 := Below.refl (w.alloc (.cells #[.int .i64 f.B, .int .i64 f.D, .bool f.big, .bool f.tr, .int .i64 f.rm, .int .i64 f.gm, .int .i64 f.bm, .int .i64 f.rs, .int .i64 f.gs, .int .i64 f.bs] 23)).heap.size (w.alloc (.cells #[.int .i64 f.B, .int .i64 f.D, .bool f.big, .bool f.tr, .int .i64 f.rm, .int .i64 f.gm, .int .i64 f.bm, .int .i64 f.rs, .int .i64 f.gs, .int .i64 f.bs] 23))
  clear D hf hv a0 z0 wn
  go_enter Try.func4, Try.ntmps4
  go_wp2_with fail
  generalize w.alloc (.cells #[.int .i64 f.B, .int .i64 f.D, .bool f.big, .bool f.tr, .int .i64 f.rm, .int .i64 f.gm, .int .i64 f.bm, .int .i64 f.rs, .int .i64 f.gs, .int .i64 f.bs] 23) = w0 at *
  refine (V0.out _).mono ?_
  rintro r w1 ⟨rfl, b1⟩
  have q1 := q0.trans (b1.mono q0.size)
  have HB := Lib.hid (fun W (h : Below w0.heap.size w0 W) => (b0.trans (h.mono b0.size) : Below w.heap.size w W))
  clear V0 b1 q0 b0
  obtain ⟨c0, c1, c2, c3, c4, c5, c6, c7, c8, c9⟩ := K0.out _ q1
  go_wp2_with fail
  refine (V1.out _).mono ?_
  rintro r w5 ⟨rfl, b5⟩
  have q5 := q1.trans (b5.mono q1.size)
  clear V1 b5 q1 c0 c1 c2 c3 c4 c5 c6 c7 c8 c9
  obtain ⟨c0, c1, c2, c3, c4, c5, c6, c7, c8, c9⟩ := K0.out _ q5
  go_wp2_with fail
  refine (V2.out _).mono ?_
  rintro r w6 ⟨rfl, b6⟩
  have q6 := q5.trans (b6.mono q5.size)
  clear V2 b6 q5 c0 c1 c2 c3 c4 c5 c6 c7 c8 c9
  obtain ⟨c0, c1, c2, c3, c4, c5, c6, c7, c8, c9⟩ := K0.out _ q6
  go_wp2_with fail
  refine (V3.out _).mono ?_
  rintro r w7 ⟨rfl, b7⟩
  have q7 := q6.trans (b7.mono q6.size)
  clear V3 b7 q6 c0 c1 c2 c3 c4 c5 c6 c7 c8 c9
  obtain ⟨c0, c1, c2, c3, c4, c5, c6, c7, c8, c9⟩ := K0.out _ q7
  go_wp2_with fail
  refine (V4.out _).mono ?_
  rintro r w8 ⟨rfl, b8⟩
  have q8 := q7.trans (b8.mono q7.size)
  clear V4 b8 q7 c0 c1 c2 c3 c4 c5 c6 c7 c8 c9
  obtain ⟨c0, c1, c2, c3, c4, c5, c6, c7, c8, c9⟩ := K0.out _ q8
  go_wp2_with fail
  refine (V5.out _).mono ?_
  rintro r w9 ⟨rfl, b9⟩
  have q9 := q8.trans (b9.mono q8.size)
  clear V5 b9 q8 c0 c1 c2 c3 c4 c5 c6 c7 c8 c9
  go_wp2_with fail
  go_ret
  exact ⟨rfl, HB.out _ q9⟩
set_option maxHeartbeats 4000000 in
theorem good (D : Says) (f : Fm) (n : Int) (hf : f.Wf) (wn : (Lit.int .i64 n).wf = true) (h : f.ok = true) (w : World) :
    Calls Try.prog 4 #[f.v, .int .i64 n] w fun e w' => e = .returned (.bool true) ∧ Below w.heap.size w w' := by
  have V0 := Lib.hid (works_any D)
  have V1 := Lib.hid (refValid_any f hf)
  have V2 := Lib.hid (D.value f hf n wn)
  have V3 := Lib.hid (D.colour f hf n wn)
  have V4 := Lib.hid (D.quant f hf n wn)
  have V5 := Lib.hid (D.size f hf)
  have R2 := Lib.hid (refValue_f f h n)
  have R3 := Lib.hid (refColour_f f h n)
  have R4 := Lib.hid (refQuant_f f h n)
  have e1 : f.valI n = (f.val n : Nat) := by unfold Fm.valI; rw [h]; rfl
  have e2 : f.colI n = (f.col n : Nat) := by unfold Fm.colI; rw [h]; rfl
  have e3 : f.leftI n = (f.left n : Nat) := by unfold Fm.leftI; rw [h]; rfl
  have e4 : ((f.size : Nat) : Int) = f.B / 8 := by
    unfold Fm.size
    rw [if_pos h]
    obtain ⟨_, _, _, _, _, _, m, H⟩ := f.is h
    have := H.B
    omega
  have wd : IntKind.i64.wrap (f.B.tdiv 8) = f.B / 8 := by
    obtain ⟨_, _, _, _, _, _, m, H⟩ := f.is h
    have := H.B
    have := H.hn
    rw [Int.tdiv_eq_ediv_of_nonneg (by omega)]
    exact IntWalk.i64_in _ (by omega)
  rw [e1] at V2
  rw [e2] at V3
  rw [e3] at V4
  rw [e4] at V5
  rw [h] at V1
  obtain ⟨A1, hA1⟩ : ∃ A : Int, (f.val n : Nat) = A := ⟨_, rfl⟩
  obtain ⟨A2, hA2⟩ : ∃ A : Int, (f.col n : Nat) = A := ⟨_, rfl⟩
  obtain ⟨A3, hA3⟩ : ∃ A : Int, (f.left n : Nat) = A := ⟨_, rfl⟩
  obtain ⟨Z, hZ⟩ : ∃ Z : Int, f.B / 8 = Z := ⟨_, rfl⟩
  rw [hA1] at V2 R2
  rw [hA2] at V3 R3
  rw [hA3] at V4 R4
  rw [hZ] at V5 wd
  clear e1 e2 e3 e4 h hA1 hA2 hA3
  have hv : f.v = .agg #[.int .i64 f.B, .int .i64 f.D, .bool f.big, .bool f.tr, .int .i64 f.rm, .int .i64 f.gm, .int .i64 f.bm, .int .i64 f.rs, .int .i64 f.gs, .int .i64 f.bs] := rfl
  rw [hv] at V1 V2 V3 V4 V5 R2 R3 R4 ⊢
  have a0 := FmAt.box f w 23
  have z0 := alloc_size w (.cells #[.int .i64 f.B, .int .i64 f.D, .bool f.big, .bool f.tr, .int .i64 f.rm, .int .i64 f.gm, .int .i64 f.bm, .int .i64 f.rs, .int .i64 f.gs, .int .i64 f.bs] 23)
  have K0 := Lib.hid (fun W' (h : Below (w.alloc (.cells #[.int .i64 f.B, .int .i64 f.D, .bool f.big, .bool f.tr, .int .i64 f.rm, .int .i64 f.gm, .int .i64 f.bm, .int .i64 f.rs, .int .i64 f.gs, .int .i64 f.bs] 23)).heap.size (w.alloc (.cells #[.int .i64 f.B, .int .i64 f.D, .bool f.big, .bool f.tr, .int .i64 f.rm, .int .i64 f.gm, .int .i64 f.bm, .int .i64 f.rs, .int .i64 f.gs, .int .i64 f.bs] 23)) W') => a0.below h (by rw [z0]; omega))
  have b0 := (Below.refl w.heap.size w).alloc (Nat.le_refl _) (.cells #[.int .i64 f.B, .int .i64 f.D, .bool f.big, .bool f.tr, .int .i64 f.rm, .int .i64 f.gm, .int .i64 f.bm, .int .i64 f.rs, .int .i64 f.gs, .int .i64 f.bs] 23)
  have q0 := Below.refl (w.alloc (.cells #[.int .i64 f.B, .int .i64 f.D, .bool f.big, .bool f.tr, .int .i64 f.rm, .int .i64 f.gm, .int .i64 f.bm, .int .i64 f.rs, .int .i64 f.gs, .int .i64 f.bs] 23)).heap.size (w.alloc (.cells #[.int .i64 f.B, .int .i64 f.D, .bool f.big, .bool f.tr, .int .i64 f.rm, .int .i64 f.gm, .int .i64 f.bm, .int .i64 f.rs, .int .i64 f.gs, .int .i64 f.bs] 23))
  clear D hf hv a0 z0 wn
  go_enter Try.func4, Try.ntmps4
  go_wp2_with fail
  generalize w.alloc (.cells #[.int .i64 f.B, .int .i64 f.D, .bool f.big, .bool f.tr, .int .i64 f.rm, .int .i64 f.gm, .int .i64 f.bm, .int .i64 f.rs, .int .i64 f.gs, .int .i64 f.bs] 23) = w0 at *
  refine (V0.out _).mono ?_
  rintro r w1 ⟨rfl, b1⟩
  have q1 := q0.trans (b1.mono q0.size)
  have HB := Lib.hid (fun W (h : Below w0.heap.size w0 W) => (b0.trans (h.mono b0.size) : Below w.heap.size w W))
  clear V0 b1 q0 b0
  obtain ⟨c0, c1, c2, c3, c4, c5, c6, c7, c8, c9⟩ := K0.out _ q1
  go_wp2_with fail
  refine (V1.out _).mono ?_
  rintro r w5 ⟨rfl, b5⟩
  have q5 := q1.trans (b5.mono q1.size)
  clear V1 b5 q1 c0 c1 c2 c3 c4 c5 c6 c7 c8 c9
  go_wp2_with fail
  have HS := Lib.hid (fun W (h : Below w5.heap.size w5 W) => (q5.trans (h.mono q5.size) : Below w0.heap.size w0 W))
  refine region_all (by kernel_rfl) (fvV (.agg #[.int .i64 f.B, .int .i64 f.D, .bool f.big, .bool f.tr, .int .i64 f.rm, .int .i64 f.gm, .int .i64 f.bm, .int .i64 f.rs, .int .i64 f.gs, .int .i64 f.bs]) (.pointer (some ⟨w.heap.size, 0, none⟩)) (.int .i64 A1) (.int .i64 A2) (.int .i64 A3) (.int .i64 Z) (.int .i64 Z) (.int .i64 f.B) n) (fun W => Below w5.heap.size w5 W) [1, 2, 5] [none, none, none, none, some 36, none, none, none, none, none, none, none, none, none, none, none, none, none, none, none, none, none, none, none, none, none, none, none, none, none, none, none, none, none, none, none, none, none, some 0, some 1, some 2, some 3, some 4, some 5, some 6, some 7, some 8, some 9, some 10, some 11, some 12, some 13, some 14, some 15, some 16, some 17, some 18, some 19, some 20, some 21, some 22, some 23, some 24, some 25, some 26, some 27, some 28, some 29, some 30, some 31, some 32, some 33, some 34, some 35] (by kernel_rfl) (by kernel_rfl) (by rfl) (by kernel_rfl) (by kernel_rfl) (by kernel_rfl) ((Below.refl _ _).drew) ⟨?_, ?_, ?_, ?_, ?_, ?_, ?_, ?_, ?_, ?_, ?_, ?_, ?_, ?_, ?_, ?_, ?_, ?_, ?_, ?_, ?_, ?_, ?_, ?_, ?_, ?_, ?_, ?_, ?_, ?_, ?_, ?_, ?_, ?_, ?_, ?_, ?_, trivial⟩ ?_
  case refine_38 =>
    intro W hS
    simp only [zipF, fvV]
    go_wp2_with fail
    go_ret
    exact ⟨rfl, HB.out _ (HS.out _ hS)⟩
  all_goals
    intro ℓ act W hl hS hw hr hd
    clear hw
    simp [readFacts, depFacts, dstOf, Region.binds, fvV] at hr hd
    refine ⟨by first | exact wanted_none (by rfl) | exact wanted_guard (by rfl) (by rfl) (by simp only [*]), fun K hK => ?_⟩
    obtain ⟨c0, c1, c2, c3, c4, c5, c6, c7, c8, c9⟩ := K0.out _ (HS.out W hS)
    go_simp
    first
      | (with_reducible refine (V2.out _).mono ?_
         rintro r w' ⟨rfl, b⟩
         exact hK _ (hS.trans (b.mono hS.size)))
      | (with_reducible refine (V3.out _).mono ?_
         rintro r w' ⟨rfl, b⟩
         exact hK _ (hS.trans (b.mono hS.size)))
      | (with_reducible refine (V4.out _).mono ?_
         rintro r w' ⟨rfl, b⟩
         exact hK _ (hS.trans (b.mono hS.size)))
      | (with_reducible refine (V5.out _).mono ?_
         rintro r w' ⟨rfl, b⟩
         exact hK _ (hS.trans (b.mono hS.size)))
      | (with_reducible refine (R2.out _).mono ?_
         rintro r w' ⟨rfl, b⟩
         exact hK _ (hS.trans (b.mono hS.size)))
      | (with_reducible refine (R3.out _).mono ?_
         rintro r w' ⟨rfl, b⟩
         exact hK _ (hS.trans (b.mono hS.size)))
      | (with_reducible refine (R4.out _).mono ?_
         rintro r w' ⟨rfl, b⟩
         exact hK _ (hS.trans (b.mono hS.size)))
      | exact hK _ hS
theorem walk (D : Says) (f : Fm) (n : Int) (hf : f.Wf) (wn : (Lit.int .i64 n).wf = true) (w : World) :
    Calls Try.prog 4 #[f.v, .int .i64 n] w fun e w' => e = .returned (.bool true) ∧ Below w.heap.size w w' := by
  cases h : f.ok with
  | true => exact good D f n hf wn h w
  | false => exact bad D f n hf wn h w

set_option maxRecDepth 100000 in
theorem lifted (os : Os) (started : os.Started) (H : Type) (enc : TypeId × Value → H) :
    ReturnsInHanded {} Try.checked os 4 .any (Rows.formatValuesSpec.pre6 enc Try.prog Try.f4 Rows.formatValuesRow.domain false) (Rows.formatValuesSpec.post enc Try.prog Try.f4 false true false false) := by
  refine returnsInHanded_of_change (C := Try.checked) own started (by kernel_rfl) Try.func4
    (ChangeSpec.witness6 (enc := enc) (C := Try.checked) false ⟨#[], #[.agg #[.int .i64 0, .int .i64 0, .bool false, .bool false, .int .i64 0, .int .i64 0, .int .i64 0, .int .i64 0, .int .i64 0, .int .i64 0], .int .i64 0], []⟩ 8 (by kernel_rfl) (by kernel_rfl) (by kernel_rfl) (by kernel_rfl)) ?_
  intro W base args ds gs before hval0 hW hcnd _
  have hval : ∀ (j : Nat) t v, Try.f4.params[j]? = some t → args[j]? = some v → Value.okWide Try.prog W .any base t v := hval0
  have hW' := hW
  obtain ⟨p, q, hA0, hV, rfl, hfz, hnd⟩ := hW
  have hA : DataW.TrodAll enc Try.prog W 0 (fun _ => true) true Try.f4.params.toList args.toList ds p := hA0
  rw [Try.params4] at hA hval
  obtain ⟨v0, vs0, d0, ds0, p0, q0, hargs, rfl, rfl, h0, r0⟩ := trodAll_cons hA
  obtain ⟨v1, vs1, d1, ds1, p1, q1, rfl, rfl, rfl, h1, r1⟩ := trodAll_cons r0
  obtain ⟨rfl, rfl, rfl⟩ := trodAll_nil r1
  obtain rfl : args = #[v0, v1] := by cases args; simp_all
  obtain ⟨rfl, rfl⟩ := trodVars_none hV
  have k0 := h0
  have lt0 : ∀ x ∈ p0, x.block < W.heap.size := by obtain ⟨m, hm⟩ := k0; exact DataW.trod_lt m _ _ _ hm
  obtain ⟨a0, rfl, w0⟩ := fmt_see (hval 0 23 v0 rfl rfl) h0
  have k1 := h1
  have lt1 : ∀ x ∈ p1, x.block < W.heap.size := by obtain ⟨m, hm⟩ := k1; exact DataW.trod_lt m _ _ _ hm
  obtain ⟨a1, rfl, rfl, rfl, w1⟩ := open_int Try.underlying3 (hval 1 3 v1 rfl rfl) h1
  clear hA0 hval0
  refine (walk says a0 a1 w0 w1 W).mono fun e W' ⟨he, bel⟩ => ?_
  subst he
  exact ⟨_, rfl, _, _, _, [], _, [], hW', trodAll_mk1 (shut_bool Try.underlying4 _), (trodAll_cons_mk (Below.trod laidOut (by kernel_rfl) (of_decide_eq_true (by kernel_rfl)) k0 bel lt0) (trodAll_cons_mk (Below.trod laidOut (by kernel_rfl) (of_decide_eq_true (by kernel_rfl)) k1 bel lt1) trodAll_mk0)), rfl, bel.frame _, fun h => by cases h⟩

theorem over : Rows.formatValuesRow.holds Try.pinned (OpenSpec.ofChange Rows.formatValuesSpec) :=
  OpenClaim.holds_of_wide 4 Try.f4 rfl rfl rfl rfl rfl rfl rfl ⟨rfl, rfl, rfl, rfl, rfl⟩ rfl rfl rfl rfl rfl (by kernel_rfl) Try.func4 (by kernel_rfl)
    (of_decide_eq_true (by kernel_rfl)) (by unfold Func.isWrapper; first | (rw [if_pos (by decide +kernel)]; kernel_rfl) | (rw [if_neg (by decide +kernel)]; exact ⟨rfl, rfl⟩))
    (fun os started H enc _ => lifted os started H enc)

theorem proved : Rows.FormatValuesSaid := over
end Go.Proofs.Ytkpmmfbheghocaa.formatValues
