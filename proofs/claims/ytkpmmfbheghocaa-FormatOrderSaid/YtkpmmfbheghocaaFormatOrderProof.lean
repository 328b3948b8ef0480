/-
  FormatOrder: big or not: the same bytes, the other way round, and the same colours: whatever the format and the number.
-/
import Derived.Test.YtkpmmfbheghocaaRows
import Derived.Test.YtkpmmfbheghocaaFmtPrgJ
import Derived.WalkKit
import Derived.ProofKit
import Derived.OpenShut
import Derived.ShutString
import Derived.ChangeOld
import Derived.Below
import Derived.Lib.SmallJoins
import Derived.Deep.Slices
namespace Go.Proofs.Ytkpmmfbheghocaa.formatOrder
open Go.Proofs.Ytkpmmfbheghocaa.Fmt
open Go.ChangeShapes Go.WideShapes Go.ChangeAt Go.RowKit
open Go.ChangeMaps (open_string shut_string)
set_option linter.unusedVariables false

theorem own : ownKnob Try.prog.godebug = none := by kernel_rfl
theorem laidOut : laidOutB Try.prog = true := by kernel_rfl

open Go.Proofs.Ytkpmmfbheghocaa.RegVal
set_option maxRecDepth 100000
/-- What the last region's operations leave. -/
def foV (F G : Value) (a b c d : ByteArray) (x y n : Int) : Nat → Value
  | 0 => .bool true
  | 1 => .bool true
  | 2 => .string a
  | 3 => .string b
  | 4 => .string a
  | 5 => .bool true
  | 6 => .bool true
  | 7 => .bool true
  | 8 => .string c
  | 9 => .string d
  | 10 => .string c
  | 11 => .bool true
  | 12 => .bool true
  | 13 => .bool true
  | 14 => F
  | 15 => .int .i64 n
  | 16 => .int .i64 x
  | 17 => G
  | 18 => .int .i64 n
  | 19 => .int .i64 x
  | 20 => .bool true
  | 21 => .bool true
  | 22 => .bool true
  | 23 => F
  | 24 => .int .i64 n
  | 25 => .int .i64 y
  | 26 => G
  | 27 => .int .i64 n
  | 28 => .int .i64 y
  | 29 => .bool true
  | 30 => .bool true
  | 31 => .bool true
  | 32 => G
  | 33 => .bool true
  | 34 => .bool true
  | 35 => .bool true
  | _ => undef
theorem bad (D : Says) (f : Fm) (n : Int) (hf : f.Wf) (h : f.ok = false) (w : World) :
    Calls Try.prog 7 #[f.v, .int .i64 n] w fun e w' => e = .returned (.bool true) ∧ Below w.heap.size w w' := by
  have V0 := Lib.hid (works_any D)
  have V1 := Lib.hid (D.valid f hf)
  rw [h] at V1
  have hv : f.v = .agg #[.int .i64 f.B, .int .i64 f.D, .bool f.big, .bool f.tr, .int .i64 f.rm, .int .i64 f.gm, .int .i64 f.bm, .int .i64 f.rs, .int .i64 f.gs, .int .i64 f.bs] := rfl
  rw [hv] at V1 ⊢
  have a0 := FmAt.box f w 23
  have z0 := alloc_size w (.cells #[.int .i64 f.B, .int .i64 f.D, .bool f.big, .bool f.tr, .int .i64 f.rm, .int .i64 f.gm, .int .i64 f.bm, .int .i64 f.rs, .int .i64 f.gs, .int .i64 f.bs] 23)
  have K0 := Lib.hid (fun W' (h : Below (w.alloc (.cells #[.int .i64 f.B, .int .i64 f.D, .bool f.big, .bool f.tr, .int .i64 f.rm, .int .i64 f.gm, .int .i64 f.bm, .int .i64 f.rs, .int .i64 f.gs, .int .i64 f.bs] 23)).heap.size (w.alloc (.cells #[.int .i64 f.B, .int .i64 f.D, .bool f.big, .bool f.tr, .int .i64 f.rm, .int .i64 f.gm, .int .i64 f.bm, .int .i64 f.rs, .int .i64 f.gs, .int .i64 f.bs] 23)) W') => a0.below h (by rw [z0]; omega))
  have b0 := (Below.refl w.heap.size w).alloc (Nat.le_refl _) (.cells #[.int .i64 f.B, .int .i64 f.D, .bool f.big, .bool f.tr, .int .i64 f.rm, .int .i64 f.gm, .int .i64 f.bm, .int .i64 f.rs, .int .i64 f.gs, .int .i64 f.bs] 23)
  have q0 := Below.refl (w.alloc (.cells #[.int .i64 f.B, .int .i64 f.D, .bool f.big, .bool f.tr, .int .i64 f.rm, .int .i64 f.gm, .int .i64 f.bm, .int .i64 f.rs, .int .i64 f.gs, .int .i64 f.bs] 23)).heap.size (w.alloc (.cells #[.int .i64 f.B, .int .i64 f.D, .bool f.big, .bool f.tr, .int .i64 f.rm, .int .i64 f.gm, .int .i64 f.bm, .int .i64 f.rs, .int .i64 f.gs, .int .i64 f.bs] 23))
  clear hv a0 z0
  clear D hf h
  go_enter Try.func7, Try.ntmps7
  go_wp2_with fail
  generalize w.alloc (.cells #[.int .i64 f.B, .int .i64 f.D, .bool f.big, .bool f.tr, .int .i64 f.rm, .int .i64 f.gm, .int .i64 f.bm, .int .i64 f.rs, .int .i64 f.gs, .int .i64 f.bs] 23) = w0 at *
  have HB := Lib.hid (fun W (h : Below w0.heap.size w0 W) => (b0.trans (h.mono b0.size) : Below w.heap.size w W))
  clear b0
  refine (V0.out _).mono ?_
  rintro r w1 ⟨rfl, b1⟩
  have q1 := q0.trans (b1.mono q0.size)
  clear q0 b1
  obtain ⟨c0, c1, c2, c3, c4, c5, c6, c7, c8, c9⟩ := K0.out _ q1
  go_wp2_with fail
  refine (V1.out _).mono ?_
  rintro r w2 ⟨rfl, b2⟩
  have q2 := q1.trans (b2.mono q1.size)
  clear q1 b2 c0 c1 c2 c3 c4 c5 c6 c7 c8 c9
  go_wp2_with fail
  go_ret
  exact ⟨rfl, HB.out _ q2⟩
set_option maxHeartbeats 8000000 in
theorem good (D : Says) (f : Fm) (n : Int) (hf : f.Wf) (wn : (Lit.int .i64 n).wf = true) (h : f.ok = true) (w : World) :
    Calls Try.prog 7 #[f.v, .int .i64 n] w fun e w' => e = .returned (.bool true) ∧ Below w.heap.size w w' := by
  have hg : f.flip.Wf := ⟨hf.B, hf.D, hf.rm, hf.gm, hf.bm, hf.rs, hf.gs, hf.bs⟩
  have V0 := Lib.hid (works_any D)
  have V1 := Lib.hid (D.valid f hf)
  have V2 := Lib.hid (D.put f hf n wn)
  have V3 := Lib.hid (D.put f.flip hg n wn)
  have V4 := Lib.hid (D.cput f hf n wn)
  have V5 := Lib.hid (D.cput f.flip hg n wn)
  have V6 := Lib.hid (D.value f hf n wn)
  have V7 := Lib.hid (D.value f.flip hg n wn)
  have V8 := Lib.hid (D.colour f hf n wn)
  have V9 := Lib.hid (D.colour f.flip hg n wn)
  have V10 := Lib.hid (D.valid f.flip hg)
  have s1 := put_size_le f.flip n
  have R1 := Lib.hid (fun w => Oct.refTurned_any (f.flip.put n) w (by omega))
  have R2 := Lib.hid (fun w => Oct.refTurned_any (f.flip.cput n) w (by omega))
  rw [put_other] at R1
  rw [cput_other] at R2
  rw [show f.flip.valI n = f.valI n from rfl] at V7
  rw [show f.flip.colI n = f.colI n from rfl] at V9
  rw [flip_ok] at V10
  rw [h] at V1 V10
  generalize f.put n = PA at *
  generalize f.flip.put n = PB at *
  generalize f.cput n = CA at *
  generalize f.flip.cput n = CB at *
  generalize f.valI n = X at *
  generalize f.colI n = Y at *
  rw [show f.flip.v = .agg #[.int .i64 f.B, .int .i64 f.D, .bool (!f.big), .bool f.tr, .int .i64 f.rm, .int .i64 f.gm, .int .i64 f.bm, .int .i64 f.rs, .int .i64 f.gs, .int .i64 f.bs] from rfl] at V3 V5 V7 V9 V10
  have hv : f.v = .agg #[.int .i64 f.B, .int .i64 f.D, .bool f.big, .bool f.tr, .int .i64 f.rm, .int .i64 f.gm, .int .i64 f.bm, .int .i64 f.rs, .int .i64 f.gs, .int .i64 f.bs] := rfl
  rw [hv] at V1 V2 V4 V6 V8 ⊢
  have a0 := FmAt.box f w 23
  have z0 := alloc_size w (.cells #[.int .i64 f.B, .int .i64 f.D, .bool f.big, .bool f.tr, .int .i64 f.rm, .int .i64 f.gm, .int .i64 f.bm, .int .i64 f.rs, .int .i64 f.gs, .int .i64 f.bs] 23)
  have K0 := Lib.hid (fun W' (h : Below (w.alloc (.cells #[.int .i64 f.B, .int .i64 f.D, .bool f.big, .bool f.tr, .int .i64 f.rm, .int .i64 f.gm, .int .i64 f.bm, .int .i64 f.rs, .int .i64 f.gs, .int .i64 f.bs] 23)).heap.size (w.alloc (.cells #[.int .i64 f.B, .int .i64 f.D, .bool f.big, .bool f.tr, .int .i64 f.rm, .int .i64 f.gm, .int .i64 f.bm, .int .i64 f.rs, .int .i64 f.gs, .int .i64 f.bs] 23)) W') => a0.below h (by rw [z0]; omega))
  have b0 := (Below.refl w.heap.size w).alloc (Nat.le_refl _) (.cells #[.int .i64 f.B, .int .i64 f.D, .bool f.big, .bool f.tr, .int .i64 f.rm, .int .i64 f.gm, .int .i64 f.bm, .int .i64 f.rs, .int .i64 f.gs, .int .i64 f.bs] 23)
  have q0 := Below.refl (w.alloc (.cells #[.int .i64 f.B, .int .i64 f.D, .bool f.big, .bool f.tr, .int .i64 f.rm, .int .i64 f.gm, .int .i64 f.bm, .int .i64 f.rs, .int .i64 f.gs, .int .i64 f.bs] 23)).heap.size (w.alloc (.cells #[.int .i64 f.B, .int .i64 f.D, .bool f.big, .bool f.tr, .int .i64 f.rm, .int .i64 f.gm, .int .i64 f.bm, .int .i64 f.rs, .int .i64 f.gs, .int .i64 f.bs] 23))
  clear hv a0 z0
  clear D hf h hg s1
  go_enter Try.func7, Try.ntmps7
  go_wp2_with fail
  generalize w.alloc (.cells #[.int .i64 f.B, .int .i64 f.D, .bool f.big, .bool f.tr, .int .i64 f.rm, .int .i64 f.gm, .int .i64 f.bm, .int .i64 f.rs, .int .i64 f.gs, .int .i64 f.bs] 23) = w0 at *
  have HB := Lib.hid (fun W (h : Below w0.heap.size w0 W) => (b0.trans (h.mono b0.size) : Below w.heap.size w W))
  clear b0
  refine (V0.out _).mono ?_
  rintro r w1 ⟨rfl, b1⟩
  have q1 := q0.trans (b1.mono q0.size)
  clear q0 b1
  obtain ⟨c0, c1, c2, c3, c4, c5, c6, c7, c8, c9⟩ := K0.out _ q1
  go_wp2_with fail
  refine (V1.out _).mono ?_
  rintro r w2 ⟨rfl, b2⟩
  have q2 := q1.trans (b2.mono q1.size)
  clear q1 b2 c0 c1 c2 c3 c4 c5 c6 c7 c8 c9
  obtain ⟨c0, c1, c2, c3, c4, c5, c6, c7, c8, c9⟩ := K0.out _ q2
  have z3 := alloc_size w2 (.cells #[.int .i64 f.B, .int .i64 f.D, .bool (!f.big), .bool f.tr, .int .i64 f.rm, .int .i64 f.gm, .int .i64 f.bm, .int .i64 f.rs, .int .i64 f.gs, .int .i64 f.bs] 23)
  have q3 := q2.alloc q2.size (.cells #[.int .i64 f.B, .int .i64 f.D, .bool (!f.big), .bool f.tr, .int .i64 f.rm, .int .i64 f.gm, .int .i64 f.bm, .int .i64 f.rs, .int .i64 f.gs, .int .i64 f.bs] 23)
  have a3 := FmAt.box f.flip w2 23
  have KG := Lib.hid (fun W' (h : Below (w2.alloc (.cells #[.int .i64 f.B, .int .i64 f.D, .bool (!f.big), .bool f.tr, .int .i64 f.rm, .int .i64 f.gm, .int .i64 f.bm, .int .i64 f.rs, .int .i64 f.gs, .int .i64 f.bs] 23)).heap.size (w2.alloc (.cells #[.int .i64 f.B, .int .i64 f.D, .bool (!f.big), .bool f.tr, .int .i64 f.rm, .int .i64 f.gm, .int .i64 f.bm, .int .i64 f.rs, .int .i64 f.gs, .int .i64 f.bs] 23)) W') => a3.below h (by
    have : (w2.alloc (.cells #[.int .i64 f.B, .int .i64 f.D, .bool (!f.big), .bool f.tr, .int .i64 f.rm, .int .i64 f.gm, .int .i64 f.bm, .int .i64 f.rs, .int .i64 f.gs, .int .i64 f.bs] 23)).heap.size = w2.heap.size + 1 := z3
    omega))
  obtain ⟨f0, f1, f2, f3, f4, f5, f6, f7, f8, f9⟩ := K0.out _ (q2.alloc q2.size (.cells #[.int .i64 f.B, .int .i64 f.D, .bool f.big, .bool f.tr, .int .i64 f.rm, .int .i64 f.gm, .int .i64 f.bm, .int .i64 f.rs, .int .i64 f.gs, .int .i64 f.bs] 23))
  obtain ⟨h0, h1, h2, h3, h4, h5, h6, h7, h8, h9⟩ := FmAt.box f w2 23
  obtain ⟨g0, g1, g2, g3, g4, g5, g6, g7, g8, g9⟩ := K0.out _ q3
  go_wp2_with fail
  generalize w2.alloc (.cells #[.int .i64 f.B, .int .i64 f.D, .bool (!f.big), .bool f.tr, .int .i64 f.rm, .int .i64 f.gm, .int .i64 f.bm, .int .i64 f.rs, .int .i64 f.gs, .int .i64 f.bs] 23) = w3 at *
  have q0 := Below.refl w3.heap.size w3
  clear a3 z3 q2 c0 c1 c2 c3 c4 c5 c6 c7 c8 c9 f0 f1 f2 f3 f4 f5 f6 f7 f8 f9 h0 h1 h2 h3 h4 h5 h6 h7 h8 h9 g0 g1 g2 g3 g4 g5 g6 g7 g8 g9
  have H3 := Lib.hid (fun W (h : Below w3.heap.size w3 W) => (q3.trans (h.mono q3.size) : Below w0.heap.size w0 W))
  clear q3
  refine (V2.out _).mono ?_
  rintro r w4 ⟨rfl, b4⟩
  have q4 := q0.trans (b4.mono q0.size)
  clear q0 b4
  obtain ⟨g0, g1, g2, g3, g4, g5, g6, g7, g8, g9⟩ := KG.out _ q4
  dsimp only [Fm.flip] at g0 g1 g2 g3 g4 g5 g6 g7 g8 g9
  go_wp2_with fail
  refine (V3.out _).mono ?_
  rintro r w5 ⟨rfl, b5⟩
  have q5 := q4.trans (b5.mono q4.size)
  clear q4 b5 g0 g1 g2 g3 g4 g5 g6 g7 g8 g9
  obtain ⟨c0, c1, c2, c3, c4, c5, c6, c7, c8, c9⟩ := K0.out _ (H3.out _ q5)
  go_wp2_with fail
  refine (V4.out _).mono ?_
  rintro r w6 ⟨rfl, b6⟩
  have q6 := q5.trans (b6.mono q5.size)
  clear q5 b6 c0 c1 c2 c3 c4 c5 c6 c7 c8 c9
  obtain ⟨g0, g1, g2, g3, g4, g5, g6, g7, g8, g9⟩ := KG.out _ q6
  dsimp only [Fm.flip] at g0 g1 g2 g3 g4 g5 g6 g7 g8 g9
  go_wp2_with fail
  refine (V5.out _).mono ?_
  rintro r w8 ⟨rfl, b8⟩
  have q8 := q6.trans (b8.mono q6.size)
  clear q6 b8 g0 g1 g2 g3 g4 g5 g6 g7 g8 g9
  go_wp2_with fail
  have HS8 := Lib.hid (fun W (h : Below w8.heap.size w8 W) => (q8.trans (h.mono q8.size) : Below w3.heap.size w3 W))
  refine region_all (by kernel_rfl) (foV (.agg #[.int .i64 f.B, .int .i64 f.D, .bool f.big, .bool f.tr, .int .i64 f.rm, .int .i64 f.gm, .int .i64 f.bm, .int .i64 f.rs, .int .i64 f.gs, .int .i64 f.bs]) (.agg #[.int .i64 f.B, .int .i64 f.D, .bool (!f.big), .bool f.tr, .int .i64 f.rm, .int .i64 f.gm, .int .i64 f.bm, .int .i64 f.rs, .int .i64 f.gs, .int .i64 f.bs]) PA PB CA CB X Y n) (fun W => Below w8.heap.size w8 W) [1, 2, 5, 6, 7, 8, 9, 10] [none, none, none, none, some 35, none, none, none, none, none, none, none, none, none, none, none, none, none, none, none, none, none, none, none, none, none, none, none, none, none, none, none, none, none, none, some 0, some 1, some 2, some 3, some 4, some 5, some 6, some 7, some 8, some 9, some 10, some 11, some 12, some 13, some 14, some 15, some 16, some 17, some 18, some 19, some 20, some 21, some 22, some 23, some 24, some 25, some 26, some 27, some 28, some 29, some 30, some 31, some 32, some 33, some 34] (by kernel_rfl) (by kernel_rfl) (by rfl) (by kernel_rfl) (by kernel_rfl) (by kernel_rfl) ((Below.refl _ _).drew) ⟨?_, ?_, ?_, ?_, ?_, ?_, ?_, ?_, ?_, ?_, ?_, ?_, ?_, ?_, ?_, ?_, ?_, ?_, ?_, ?_, ?_, ?_, ?_, ?_, ?_, ?_, ?_, ?_, ?_, ?_, ?_, ?_, ?_, ?_, ?_, ?_, trivial⟩ ?_
  case refine_37 =>
    intro W hS
    simp only [zipF, foV]
    go_wp2_with fail
    go_ret
    exact ⟨rfl, HB.out _ (H3.out _ (HS8.out _ hS))⟩
  all_goals
    intro ℓ act W hl hS hw hr hd
    clear hw
    simp [readFacts, depFacts, dstOf, Region.binds, foV] at hr hd
    refine ⟨by first | exact wanted_none (by rfl) | exact wanted_guard (by rfl) (by rfl) (by simp only [*]), fun K hK => ?_⟩
    obtain ⟨c0, c1, c2, c3, c4, c5, c6, c7, c8, c9⟩ := K0.out _ (H3.out W (HS8.out W hS))
    obtain ⟨g0, g1, g2, g3, g4, g5, g6, g7, g8, g9⟩ := KG.out _ (HS8.out W hS)
    dsimp only [Fm.flip] at g0 g1 g2 g3 g4 g5 g6 g7 g8 g9
    go_simp
    first
      | (with_reducible refine (V6.out _).mono ?_
         rintro r w' ⟨rfl, b⟩
         exact hK _ (hS.trans (b.mono hS.size)))
      | (with_reducible refine (V7.out _).mono ?_
         rintro r w' ⟨rfl, b⟩
         exact hK _ (hS.trans (b.mono hS.size)))
      | (with_reducible refine (V8.out _).mono ?_
         rintro r w' ⟨rfl, b⟩
         exact hK _ (hS.trans (b.mono hS.size)))
      | (with_reducible refine (V9.out _).mono ?_
         rintro r w' ⟨rfl, b⟩
         exact hK _ (hS.trans (b.mono hS.size)))
      | (with_reducible refine (V10.out _).mono ?_
         rintro r w' ⟨rfl, b⟩
         exact hK _ (hS.trans (b.mono hS.size)))
      | (with_reducible refine (R1.out _).mono ?_
         rintro r w' ⟨rfl, rfl⟩
         exact hK _ hS)
      | (with_reducible refine (R2.out _).mono ?_
         rintro r w' ⟨rfl, rfl⟩
         exact hK _ hS)
      | exact hK _ hS
theorem walk (D : Says) (f : Fm) (n : Int) (hf : f.Wf) (wn : (Lit.int .i64 n).wf = true) (w : World) :
    Calls Try.prog 7 #[f.v, .int .i64 n] w fun e w' => e = .returned (.bool true) ∧ Below w.heap.size w w' := by
  cases h : f.ok with
  | true => exact good D f n hf wn h w
  | false => exact bad D f n hf h w

set_option maxRecDepth 100000 in
theorem lifted (os : Os) (started : os.Started) (H : Type) (enc : TypeId × Value → H) :
    ReturnsInHanded {} Try.checked os 7 .any (Rows.formatOrderSpec.pre6 enc Try.prog Try.f7 Rows.formatOrderRow.domain false) (Rows.formatOrderSpec.post enc Try.prog Try.f7 false true false false) := by
  refine returnsInHanded_of_change (C := Try.checked) own started (by kernel_rfl) Try.func7
    (ChangeSpec.witness6 (enc := enc) (C := Try.checked) false ⟨#[], #[.agg #[.int .i64 0, .int .i64 0, .bool false, .bool false, .int .i64 0, .int .i64 0, .int .i64 0, .int .i64 0, .int .i64 0, .int .i64 0], .int .i64 0], []⟩ 8 (by kernel_rfl) (by kernel_rfl) (by kernel_rfl) (by kernel_rfl)) ?_
  intro W base args ds gs before hval0 hW hcnd _
  have hval : ∀ (j : Nat) t v, Try.f7.params[j]? = some t → args[j]? = some v → Value.okWide Try.prog W .any base t v := hval0
  have hW' := hW
  obtain ⟨p, q, hA0, hV, rfl, hfz, hnd⟩ := hW
  have hA : DataW.TrodAll enc Try.prog W 0 (fun _ => true) true Try.f7.params.toList args.toList ds p := hA0
  rw [Try.params7] at hA hval
  obtain ⟨v0, vs0, d0, ds0, p0, q0, hargs, rfl, rfl, h0, r0⟩ := trodAll_cons hA
  obtain ⟨v1, vs1, d1, ds1, p1, q1, rfl, rfl, rfl, h1, r1⟩ := trodAll_cons r0
  obtain ⟨rfl, rfl, rfl⟩ := trodAll_nil r1
  obtain rfl : args = #[v0, v1] := by cases args; simp_all
  obtain ⟨rfl, rfl⟩ := trodVars_none hV
  have k0 := h0
  have lt0 : ∀ x ∈ p0, x.block < W.heap.size := by obtain ⟨m, hm⟩ := k0; exact DataW.trod_lt m _ _ _ hm
  obtain ⟨a0, rfl, w0⟩ := fmt_see (hval 0 23 v0 rfl rfl) h0
  have k1 := h1
  have lt1 : ∀ x ∈ p1, x.block < W.heap.size := by obtain ⟨m, hm⟩ := k1; exact DataW.trod_lt m _ _ _ hm
  obtain ⟨a1, rfl, rfl, rfl, w1⟩ := open_int Try.underlying3 (hval 1 3 v1 rfl rfl) h1
  clear hA0 hval0
  refine (walk says a0 a1 w0 w1 W).mono fun e W' ⟨he, bel⟩ => ?_
  subst he
  exact ⟨_, rfl, _, _, _, [], _, [], hW', trodAll_mk1 (shut_bool Try.underlying4 _), (trodAll_cons_mk (Below.trod laidOut (by kernel_rfl) (of_decide_eq_true (by kernel_rfl)) k0 bel lt0) (trodAll_cons_mk (Below.trod laidOut (by kernel_rfl) (of_decide_eq_true (by kernel_rfl)) k1 bel lt1) trodAll_mk0)), rfl, bel.frame _, fun h => by cases h⟩

theorem over : Rows.formatOrderRow.holds Try.pinned (OpenSpec.ofChange Rows.formatOrderSpec) :=
  OpenClaim.holds_of_wide 7 Try.f7 rfl rfl rfl rfl rfl rfl rfl ⟨rfl, rfl, rfl, rfl, rfl⟩ rfl rfl rfl rfl rfl (by kernel_rfl) Try.func7 (by kernel_rfl)
    (of_decide_eq_true (by kernel_rfl)) (by unfold Func.isWrapper; first | (rw [if_pos (by decide +kernel)]; kernel_rfl) | (rw [if_neg (by decide +kernel)]; exact ⟨rfl, rfl⟩))
    (fun os started H enc _ => lifted os started H enc)

theorem proved : Rows.FormatOrderSaid := over
end Go.Proofs.Ytkpmmfbheghocaa.formatOrder
