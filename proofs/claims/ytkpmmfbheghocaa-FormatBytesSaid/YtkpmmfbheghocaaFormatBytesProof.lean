/-
  FormatBytes: which formats may be, their bytes, and the format of any bytes, are as the document says: whatever the format and the text.
-/
import Derived.Test.YtkpmmfbheghocaaRows
import Derived.Test.YtkpmmfbheghocaaFmtPrgJ
import Derived.WalkKit
import Derived.ProofKit
import Derived.OpenShut
import Derived.ShutString
import Derived.ChangeOld
import Derived.Below
import Derived.Lib.SmallJoins
import Derived.Deep.Slices
namespace Go.Proofs.Ytkpmmfbheghocaa.formatBytes
open Go.Proofs.Ytkpmmfbheghocaa.Fmt
open Go.ChangeShapes Go.WideShapes Go.ChangeAt Go.RowKit
open Go.ChangeMaps (open_string shut_string)
set_option linter.unusedVariables false

theorem own : ownKnob Try.prog.godebug = none := by kernel_rfl
theorem laidOut : laidOutB Try.prog = true := by kernel_rfl

open Go.Proofs.Ytkpmmfbheghocaa.RegVal
set_option maxRecDepth 100000
/-- What the last region's operations leave. -/
def fbV (F G T a b : Value) (e : Int) : Nat → Value
  | 0 => .bool true
  | 1 => .bool true
  | 2 => F
  | 3 => a
  | 4 => F
  | 5 => a
  | 6 => .bool true
  | 7 => .bool true
  | 8 => .bool true
  | 9 => F
  | 10 => b
  | 11 => F
  | 12 => b
  | 13 => .bool true
  | 14 => .bool true
  | 15 => .bool true
  | 16 => G
  | 17 => G
  | 18 => .bool true
  | 19 => .bool true
  | 20 => .bool true
  | 21 => .int .i64 e
  | 22 => .int .i64 e
  | 23 => .bool true
  | 24 => .bool true
  | 25 => .bool true
  | 26 => T
  | 27 => T
  | 28 => .bool true
  | 29 => .bool true
  | 30 => .bool true
  | _ => undef
theorem early (D : Says) (f : Fm) (t : ByteArray) (wt : t.size ≤ maxLen) (h : 60 < t.size) (w : World) :
    Calls Try.prog 3 #[f.v, .string t] w fun e w' => e = .returned (.bool true) ∧ Below w.heap.size w w' := by
  unfold maxLen at wt
  have d1 : decide (60 < t.size) = true := decide_eq_true h
  have d2 : decide ((60 : Int) < t.size) = true := decide_eq_true (by omega)
  have bel := (Below.refl w.heap.size w).alloc (Nat.le_refl _) (.cells #[.int .i64 f.B, .int .i64 f.D, .bool f.big, .bool f.tr, .int .i64 f.rm, .int .i64 f.gm, .int .i64 f.bm, .int .i64 f.rs, .int .i64 f.gs, .int .i64 f.bs] 23)
  unfold Fm.v
  have W := Lib.hid (works_any D)
  go_enter Try.func3, Try.ntmps3
  go_wp2_with fail
  refine (W.out _).mono ?_
  rintro r w1 ⟨rfl, b1⟩
  have b := bel.trans (b1.mono bel.size)
  clear b1 bel
  go_wp2_with fail
  go_ret
  exact ⟨rfl, b⟩
set_option maxHeartbeats 4000000 in
theorem walk (D : Says) (f : Fm) (t : ByteArray) (hf : f.Wf) (wt : t.size ≤ maxLen) (w : World) :
    Calls Try.prog 3 #[f.v, .string t] w fun e w' => e = .returned (.bool true) ∧ Below w.heap.size w w' := by
  by_cases h60 : 60 < t.size
  · exact early D f t wt h60 w
  have d1 : decide (60 < t.size) = false := decide_eq_false h60
  have d2 : decide ((60 : Int) < t.size) = false := decide_eq_false (by omega)
  have V0 := Lib.hid (works_any D)
  have V1 := Lib.hid (D.parse t (by omega))
  have V2 := Lib.hid (refParse_any t (by omega))
  have V3 := Lib.hid (D.valid f hf)
  have V4 := Lib.hid (refValid_any f hf)
  have V5 := Lib.hid (D.bytes f hf)
  have V6 := Lib.hid (refBytes_any f hf)
  have V7 := Lib.hid D.standard
  have V8 := Lib.hid refStandard_any
  generalize parF t = g at *
  generalize parE t = E at *
  generalize f.bytes = BS at *
  generalize f.ok = OK at *
  have hv : f.v = .agg #[.int .i64 f.B, .int .i64 f.D, .bool f.big, .bool f.tr, .int .i64 f.rm, .int .i64 f.gm, .int .i64 f.bm, .int .i64 f.rs, .int .i64 f.gs, .int .i64 f.bs] := rfl
  have hg : g.v = .agg #[.int .i64 g.B, .int .i64 g.D, .bool g.big, .bool g.tr, .int .i64 g.rm, .int .i64 g.gm, .int .i64 g.bm, .int .i64 g.rs, .int .i64 g.gs, .int .i64 g.bs] := rfl
  rw [hv] at V3 V4 V5 V6 ⊢
  rw [hg] at V1 V2
  rw [show Fm.std.v = .agg #[.int .i64 32, .int .i64 24, .bool false, .bool true, .int .i64 255, .int .i64 255, .int .i64 255, .int .i64 16, .int .i64 8, .int .i64 0] from rfl] at V7 V8
  have a0 := FmAt.box f w 23
  have z0 := alloc_size w (.cells #[.int .i64 f.B, .int .i64 f.D, .bool f.big, .bool f.tr, .int .i64 f.rm, .int .i64 f.gm, .int .i64 f.bm, .int .i64 f.rs, .int .i64 f.gs, .int .i64 f.bs] 23)
  have b0 := (Below.refl w.heap.size w).alloc (Nat.le_refl _) (.cells #[.int .i64 f.B, .int .i64 f.D, .bool f.big, .bool f.tr, .int .i64 f.rm, .int .i64 f.gm, .int .i64 f.bm, .int .i64 f.rs, .int .i64 f.gs, .int .i64 f.bs] 23)
  have K0 := Lib.hid (fun W' (h : Below (w.alloc (.cells #[.int .i64 f.B, .int .i64 f.D, .bool f.big, .bool f.tr, .int .i64 f.rm, .int .i64 f.gm, .int .i64 f.bm, .int .i64 f.rs, .int .i64 f.gs, .int .i64 f.bs] 23)).heap.size (w.alloc (.cells #[.int .i64 f.B, .int .i64 f.D, .bool f.big, .bool f.tr, .int .i64 f.rm, .int .i64 f.gm, .int .i64 f.bm, .int .i64 f.rs, .int .i64 f.gs, .int .i64 f.bs] 23)) W') => a0.below h (by rw [z0]; omega))
  clear D hf hv hg a0 z0
  go_enter Try.func3, Try.ntmps3
  go_wp2_with fail
  generalize w.alloc (.cells #[.int .i64 f.B, .int .i64 f.D, .bool f.big, .bool f.tr, .int .i64 f.rm, .int .i64 f.gm, .int .i64 f.bm, .int .i64 f.rs, .int .i64 f.gs, .int .i64 f.bs] 23) = w0 at *
  refine (V0.out _).mono ?_
  rintro r w1 ⟨rfl, b1⟩
  have B0 := Lib.hid b0
  clear V0 b0
  go_wp2_with fail
  refine (V1.out _).mono ?_
  rintro r w2 ⟨rfl, b2⟩
  have b2 := b1.trans (b2.mono b1.size)
  clear V1 b1
  have a2 := FmAt.box g w2 23
  have z2 := alloc_size w2 (.cells #[.int .i64 g.B, .int .i64 g.D, .bool g.big, .bool g.tr, .int .i64 g.rm, .int .i64 g.gm, .int .i64 g.bm, .int .i64 g.rs, .int .i64 g.gs, .int .i64 g.bs] 23)
  have b2 := b2.alloc b2.size (.cells #[.int .i64 g.B, .int .i64 g.D, .bool g.big, .bool g.tr, .int .i64 g.rm, .int .i64 g.gm, .int .i64 g.bm, .int .i64 g.rs, .int .i64 g.gs, .int .i64 g.bs] 23)
  have K2 := Lib.hid (fun W' (h : Below (w2.alloc (.cells #[.int .i64 g.B, .int .i64 g.D, .bool g.big, .bool g.tr, .int .i64 g.rm, .int .i64 g.gm, .int .i64 g.bm, .int .i64 g.rs, .int .i64 g.gs, .int .i64 g.bs] 23)).heap.size (w2.alloc (.cells #[.int .i64 g.B, .int .i64 g.D, .bool g.big, .bool g.tr, .int .i64 g.rm, .int .i64 g.gm, .int .i64 g.bm, .int .i64 g.rs, .int .i64 g.gs, .int .i64 g.bs] 23)) W') => a2.below h (by rw [z2]; omega))
  have q2 := Below.refl (w2.alloc (.cells #[.int .i64 g.B, .int .i64 g.D, .bool g.big, .bool g.tr, .int .i64 g.rm, .int .i64 g.gm, .int .i64 g.bm, .int .i64 g.rs, .int .i64 g.gs, .int .i64 g.bs] 23)).heap.size (w2.alloc (.cells #[.int .i64 g.B, .int .i64 g.D, .bool g.big, .bool g.tr, .int .i64 g.rm, .int .i64 g.gm, .int .i64 g.bm, .int .i64 g.rs, .int .i64 g.gs, .int .i64 g.bs] 23))
  clear a2 z2
  go_wp2_with fail
  generalize w2.alloc (.cells #[.int .i64 g.B, .int .i64 g.D, .bool g.big, .bool g.tr, .int .i64 g.rm, .int .i64 g.gm, .int .i64 g.bm, .int .i64 g.rs, .int .i64 g.gs, .int .i64 g.bs] 23) = w3 at *
  refine (V2.out _).mono ?_
  rintro r w5 ⟨rfl, b5⟩
  have q5 := q2.trans (b5.mono q2.size)
  clear V2 b5 q2
  have a5 := FmAt.box g w5 23
  have z5 := alloc_size w5 (.cells #[.int .i64 g.B, .int .i64 g.D, .bool g.big, .bool g.tr, .int .i64 g.rm, .int .i64 g.gm, .int .i64 g.bm, .int .i64 g.rs, .int .i64 g.gs, .int .i64 g.bs] 23)
  have q5 := q5.alloc q5.size (.cells #[.int .i64 g.B, .int .i64 g.D, .bool g.big, .bool g.tr, .int .i64 g.rm, .int .i64 g.gm, .int .i64 g.bm, .int .i64 g.rs, .int .i64 g.gs, .int .i64 g.bs] 23)
  have K5 := Lib.hid (fun W' (h : Below (w5.alloc (.cells #[.int .i64 g.B, .int .i64 g.D, .bool g.big, .bool g.tr, .int .i64 g.rm, .int .i64 g.gm, .int .i64 g.bm, .int .i64 g.rs, .int .i64 g.gs, .int .i64 g.bs] 23)).heap.size (w5.alloc (.cells #[.int .i64 g.B, .int .i64 g.D, .bool g.big, .bool g.tr, .int .i64 g.rm, .int .i64 g.gm, .int .i64 g.bm, .int .i64 g.rs, .int .i64 g.gs, .int .i64 g.bs] 23)) W') => a5.below h (by rw [z5]; omega))
  clear a5 z5
  go_wp2_with fail
  obtain ⟨w4, hw4⟩ : ∃ w4, w5.alloc (.cells #[.int .i64 g.B, .int .i64 g.D, .bool g.big, .bool g.tr, .int .i64 g.rm, .int .i64 g.gm, .int .i64 g.bm, .int .i64 g.rs, .int .i64 g.gs, .int .i64 g.bs] 23) = w4 := ⟨_, rfl⟩
  rw [hw4] at K5 q5 ⊢
  have HB := Lib.hid (fun W (h : Below w4.heap.size w4 W) => (B0.out.trans ((b2.trans ((q5.trans (h.mono q5.size)).mono b2.size)).mono B0.out.size) : Below w.heap.size w W))
  have HS := Lib.hid (fun W (h : Below w4.heap.size w4 W) => (⟨K0.out W (b2.trans ((q5.trans (h.mono q5.size)).mono b2.size)), K2.out W (q5.trans (h.mono q5.size)), K5.out W h⟩ : FmAt W w.heap.size f ∧ FmAt W w2.heap.size g ∧ FmAt W w5.heap.size g))
  clear b2 q5 K0 K2 K5 B0 hw4
  refine region_all (by kernel_rfl) (fbV (.agg #[.int .i64 f.B, .int .i64 f.D, .bool f.big, .bool f.tr, .int .i64 f.rm, .int .i64 f.gm, .int .i64 f.bm, .int .i64 f.rs, .int .i64 f.gs, .int .i64 f.bs]) (.agg #[.int .i64 g.B, .int .i64 g.D, .bool g.big, .bool g.tr, .int .i64 g.rm, .int .i64 g.gm, .int .i64 g.bm, .int .i64 g.rs, .int .i64 g.gs, .int .i64 g.bs]) (.agg #[.int .i64 32, .int .i64 24, .bool false, .bool true, .int .i64 255, .int .i64 255, .int .i64 255, .int .i64 16, .int .i64 8, .int .i64 0]) (.bool OK) (.string BS) E) (fun W => Below w4.heap.size w4 W) [2, 5, 6, 7, 8, 9] [none, none, none, none, some 30, none, none, none, none, none, none, none, none, none, none, none, none, none, none, none, none, none, none, none, none, none, none, some 0, some 1, some 2, some 3, some 4, some 5, some 6, some 7, some 8, some 9, some 10, some 11, some 12, some 13, some 14, some 15, some 16, some 17, some 18, some 19, some 20, some 21, some 22, some 23, some 24, some 25, some 26, some 27, some 28, some 29] (by kernel_rfl) (by kernel_rfl) (by rfl) (by kernel_rfl) (by kernel_rfl) (by kernel_rfl) ((Below.refl _ _).drew) ⟨?_, ?_, ?_, ?_, ?_, ?_, ?_, ?_, ?_, ?_, ?_, ?_, ?_, ?_, ?_, ?_, ?_, ?_, ?_, ?_, ?_, ?_, ?_, ?_, ?_, ?_, ?_, ?_, ?_, ?_, ?_, trivial⟩ ?_
  case refine_32 =>
    intro W hS
    simp only [zipF, fbV]
    go_wp2_with fail
    go_ret
    exact ⟨rfl, HB.out _ hS⟩
  all_goals
    intro ℓ act W hl hS hw hr hd
    clear hw
    simp [readFacts, depFacts, dstOf, Region.binds, fbV] at hr hd
    refine ⟨by first | exact wanted_none (by rfl) | exact wanted_guard (by rfl) (by rfl) (by simp only [*]), fun K hK => ?_⟩
    obtain ⟨⟨c0, c1, c2, c3, c4, c5, c6, c7, c8, c9⟩, ⟨e0, e1, e2, e3, e4, e5, e6, e7, e8, e9⟩, ⟨g0, g1, g2, g3, g4, g5, g6, g7, g8, g9⟩⟩ := HS.out W hS
    go_simp
    first
      | (with_reducible refine (V3.out _).mono ?_
         rintro r w' ⟨rfl, b⟩
         exact hK _ (hS.trans (b.mono hS.size)))
      | (with_reducible refine (V4.out _).mono ?_
         rintro r w' ⟨rfl, b⟩
         exact hK _ (hS.trans (b.mono hS.size)))
      | (with_reducible refine (V5.out _).mono ?_
         rintro r w' ⟨rfl, b⟩
         exact hK _ (hS.trans (b.mono hS.size)))
      | (with_reducible refine (V6.out _).mono ?_
         rintro r w' ⟨rfl, b⟩
         exact hK _ (hS.trans (b.mono hS.size)))
      | (with_reducible refine (V7.out _).mono ?_
         rintro r w' ⟨rfl, b⟩
         exact hK _ (hS.trans (b.mono hS.size)))
      | (with_reducible refine (V8.out _).mono ?_
         rintro r w' ⟨rfl, b⟩
         exact hK _ (hS.trans (b.mono hS.size)))
      | exact hK _ hS

set_option maxRecDepth 100000 in
theorem lifted (os : Os) (started : os.Started) (H : Type) (enc : TypeId × Value → H) :
    ReturnsInHanded {} Try.checked os 3 .any (Rows.formatBytesSpec.pre6 enc Try.prog Try.f3 Rows.formatBytesRow.domain false) (Rows.formatBytesSpec.post enc Try.prog Try.f3 false true false false) := by
  refine returnsInHanded_of_change (C := Try.checked) own started (by kernel_rfl) Try.func3
    (ChangeSpec.witness6 (enc := enc) (C := Try.checked) false ⟨#[], #[.agg #[.int .i64 0, .int .i64 0, .bool false, .bool false, .int .i64 0, .int .i64 0, .int .i64 0, .int .i64 0, .int .i64 0, .int .i64 0], .string ByteArray.empty], []⟩ 8 (by kernel_rfl) (by kernel_rfl) (by kernel_rfl) (by kernel_rfl)) ?_
  intro W base args ds gs before hval0 hW hcnd _
  have hval : ∀ (j : Nat) t v, Try.f3.params[j]? = some t → args[j]? = some v → Value.okWide Try.prog W .any base t v := hval0
  have hW' := hW
  obtain ⟨p, q, hA0, hV, rfl, hfz, hnd⟩ := hW
  have hA : DataW.TrodAll enc Try.prog W 0 (fun _ => true) true Try.f3.params.toList args.toList ds p := hA0
  rw [Try.params3] at hA hval
  obtain ⟨v0, vs0, d0, ds0, p0, q0, hargs, rfl, rfl, h0, r0⟩ := trodAll_cons hA
  obtain ⟨v1, vs1, d1, ds1, p1, q1, rfl, rfl, rfl, h1, r1⟩ := trodAll_cons r0
  obtain ⟨rfl, rfl, rfl⟩ := trodAll_nil r1
  obtain rfl : args = #[v0, v1] := by cases args; simp_all
  obtain ⟨rfl, rfl⟩ := trodVars_none hV
  have k0 := h0
  have lt0 : ∀ x ∈ p0, x.block < W.heap.size := by obtain ⟨m, hm⟩ := k0; exact DataW.trod_lt m _ _ _ hm
  obtain ⟨a0, rfl, w0⟩ := fmt_see (hval 0 23 v0 rfl rfl) h0
  have k1 := h1
  have lt1 : ∀ x ∈ p1, x.block < W.heap.size := by obtain ⟨m, hm⟩ := k1; exact DataW.trod_lt m _ _ _ hm
  obtain ⟨a1, rfl, rfl, rfl, w1⟩ := open_string Try.underlying9 (hval 1 9 v1 rfl rfl) h1
  clear hA0 hval0
  refine (walk says a0 a1 w0 w1 W).mono fun e W' ⟨he, bel⟩ => ?_
  subst he
  exact ⟨_, rfl, _, _, _, [], _, [], hW', trodAll_mk1 (shut_bool Try.underlying4 _), (trodAll_cons_mk (Below.trod laidOut (by kernel_rfl) (of_decide_eq_true (by kernel_rfl)) k0 bel lt0) (trodAll_cons_mk (Below.trod laidOut (by kernel_rfl) (of_decide_eq_true (by kernel_rfl)) k1 bel lt1) trodAll_mk0)), rfl, bel.frame _, fun h => by cases h⟩

theorem over : Rows.formatBytesRow.holds Try.pinned (OpenSpec.ofChange Rows.formatBytesSpec) :=
  OpenClaim.holds_of_wide 3 Try.f3 rfl rfl rfl rfl rfl rfl rfl ⟨rfl, rfl, rfl, rfl, rfl⟩ rfl rfl rfl rfl rfl (by kernel_rfl) Try.func3 (by kernel_rfl)
    (of_decide_eq_true (by kernel_rfl)) (by unfold Func.isWrapper; first | (rw [if_pos (by decide +kernel)]; kernel_rfl) | (rw [if_neg (by decide +kernel)]; exact ⟨rfl, rfl⟩))
    (fun os started H enc _ => lifted os started H enc)

theorem proved : Rows.FormatBytesSaid := over
end Go.Proofs.Ytkpmmfbheghocaa.formatBytes
