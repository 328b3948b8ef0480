/-
  The statement ScreenRects of layer 14 (screen) holds of the program as it stands: what is inside, what is whole, and what two rectangles have in common is just what the document says.
-/
import Derived.Test.YtlamdgdegmjljaaRows
import Derived.Test.YtlamdgdegmjljaaScrProg
import Derived.Test.YtlamdgdegmjljaaScrView
import Derived.WalkKit
import Derived.ProofKit
import Derived.OpenShut
import Derived.ShutString
import Derived.ChangeOld
import Derived.Below
import Derived.Lib.SmallJoins
import Derived.Deep.Slices
namespace Go.Proofs.Ytlamdgdegmjljaa.screenRects
open Go.Proofs.Ytlamdgdegmjljaa.Scr
open Lz RowG RegVal Reg
open Go.ChangeShapes Go.WideShapes Go.ChangeAt Go.RowKit
open Go.ChangeMaps (open_string shut_string)
set_option linter.unusedVariables false

theorem own : ownKnob Try.prog.godebug = none := by kernel_rfl
theorem laidOut : laidOutB Try.prog = true := by kernel_rfl

theorem rects_two {w : World} {a b : Rc} : ∀ W', Below (w.heap.size + 2) ((w.alloc (.cells #[.int .i64 a.x, .int .i64 a.y, .int .i64 a.w, .int .i64 a.h] 35)).alloc (.cells #[.int .i64 b.x, .int .i64 b.y, .int .i64 b.w, .int .i64 b.h] 35)) W' → RAt W' w.heap.size a ∧ RAt W' (w.heap.size + 1) b := by
  intro W' k
  have z1 := alloc_size w (.cells #[.int .i64 a.x, .int .i64 a.y, .int .i64 a.w, .int .i64 a.h] 35)
  have r1 := RAt.box w a 35
  generalize w.alloc (.cells #[.int .i64 a.x, .int .i64 a.y, .int .i64 a.w, .int .i64 a.h] 35) = w1 at *
  have r2 := RAt.box w1 b 35
  have k2 := (Below.refl w1.heap.size w1).alloc (Nat.le_refl _) (.cells #[.int .i64 b.x, .int .i64 b.y, .int .i64 b.w, .int .i64 b.h] 35)
  generalize w1.alloc (.cells #[.int .i64 b.x, .int .i64 b.y, .int .i64 b.w, .int .i64 b.h] 35) = w2 at *
  rw [z1] at r2
  exact ⟨(r1.below k2 (by omega)).below k (by omega), r2.below k (by omega)⟩
/-- The numbers that are looked at. -/
def eight (a b : Rc) : List Int := [a.x, a.y, a.w, a.h, b.x, b.y, b.w, b.h]
theorem eight_small {a b : Rc} (h : ∀ j, j < 8 → -1073741824 ≤ px (eight a b) j ∧ px (eight a b) j ≤ 1073741824) : small a ∧ small b :=
  ⟨⟨h 0 (by decide), h 1 (by decide), h 2 (by decide), h 3 (by decide)⟩, ⟨h 4 (by decide), h 5 (by decide), h 6 (by decide), h 7 (by decide)⟩⟩
def srV (a b : Rc) (x y : Int) (p : Bool) : Nat → Value
  | 0 => .bool true
  | 1 => .bool true
  | 2 => .agg #[.int .i64 a.x, .int .i64 a.y, .int .i64 a.w, .int .i64 a.h]
  | 3 => .int .i64 x
  | 4 => .int .i64 y
  | 5 => .bool p
  | 6 => .agg #[.int .i64 a.x, .int .i64 a.y, .int .i64 a.w, .int .i64 a.h]
  | 7 => .int .i64 x
  | 8 => .int .i64 y
  | 9 => .bool p
  | 10 => .bool true
  | 11 => .bool true
  | 12 => .bool true
  | _ => undef
def stV (a b m : Rc) (x y : Int) (p : Bool) : Nat → Value
  | 0 => .bool true
  | 1 => .bool true
  | 2 => .agg #[.int .i64 a.x, .int .i64 a.y, .int .i64 a.w, .int .i64 a.h]
  | 3 => .int .i64 x
  | 4 => .int .i64 y
  | 5 => .bool p
  | 6 => .agg #[.int .i64 a.x, .int .i64 a.y, .int .i64 a.w, .int .i64 a.h]
  | 7 => .int .i64 x
  | 8 => .int .i64 y
  | 9 => .bool p
  | 10 => .bool true
  | 11 => .bool true
  | 12 => .bool true
  | 13 => .int .i64 x
  | 14 => .int .i64 y
  | 15 => .agg #[.int .i64 0, .int .i64 0, .int .i64 x, .int .i64 y]
  | 16 => .int .i64 x
  | 17 => .int .i64 y
  | 18 => .agg #[.int .i64 0, .int .i64 0, .int .i64 x, .int .i64 y]
  | 19 => .bool true
  | 20 => .bool true
  | 21 => .bool true
  | 22 => .agg #[.int .i64 a.x, .int .i64 a.y, .int .i64 a.w, .int .i64 a.h]
  | 23 => .agg #[.int .i64 b.x, .int .i64 b.y, .int .i64 b.w, .int .i64 b.h]
  | 24 => .agg #[.int .i64 m.x, .int .i64 m.y, .int .i64 m.w, .int .i64 m.h]
  | 25 => .agg #[.int .i64 a.x, .int .i64 a.y, .int .i64 a.w, .int .i64 a.h]
  | 26 => .agg #[.int .i64 b.x, .int .i64 b.y, .int .i64 b.w, .int .i64 b.h]
  | 27 => .agg #[.int .i64 m.x, .int .i64 m.y, .int .i64 m.w, .int .i64 m.h]
  | 28 => .bool true
  | 29 => .bool true
  | 30 => .bool true
  | 31 => .agg #[.int .i64 b.x, .int .i64 b.y, .int .i64 b.w, .int .i64 b.h]
  | 32 => .agg #[.int .i64 a.x, .int .i64 a.y, .int .i64 a.w, .int .i64 a.h]
  | 33 => .agg #[.int .i64 m.x, .int .i64 m.y, .int .i64 m.w, .int .i64 m.h]
  | 34 => .agg #[.int .i64 a.x, .int .i64 a.y, .int .i64 a.w, .int .i64 a.h]
  | 35 => .agg #[.int .i64 b.x, .int .i64 b.y, .int .i64 b.w, .int .i64 b.h]
  | 36 => .agg #[.int .i64 m.x, .int .i64 m.y, .int .i64 m.w, .int .i64 m.h]
  | 37 => .bool true
  | 38 => .bool true
  | 39 => .bool true
  | _ => undef
set_option maxRecDepth 100000 in
set_option maxHeartbeats 8000000 in
theorem walk {S : Lies} (D : Says S) (a b : Rc) (x y : Int) (wa : a.wf) (wb : b.wf) (wx : (Lit.int .i64 x).wf = true) (wy : (Lit.int .i64 y).wf = true) (w : World) :
    Calls Try.prog 4 #[a.v, b.v, .int .i64 x, .int .i64 y] w fun e w' => e = .returned (.bool true) ∧ Below w.heap.size w w' := by
  have V0 := Lib.hid (works_any D)
  have V1 := Lib.hid (fun w => D.inside a x y w wa wx wy)
  have V2 := Lib.hid (fun w => refInside_any a x y wx wy w)
  have V3 := Lib.hid (fun w => D.whole x y w wx wy)
  have V4 := Lib.hid (fun w h1 h2 => D.meet a b w h1 h2)
  have V5 := Lib.hid (fun w h1 h2 => refMeet_any a b h1 h2 w)
  have V6 : RowKit.Hid (∀ w, small a → small b → Calls Try.prog 32 #[b.v, a.v] w fun e w' => e = .returned (meetR a b).v ∧ Below w.heap.size w w') := Lib.hid (fun w h1 h2 => by rw [meetR_comm]; exact D.meet b a w h2 h1)
  have H2 := rects_two (w := w) (a := a) (b := b)
  have b0 := ((Below.refl w.heap.size w).alloc (Nat.le_refl _) (.cells #[.int .i64 a.x, .int .i64 a.y, .int .i64 a.w, .int .i64 a.h] 35))
  have b1 := b0.alloc b0.size (.cells #[.int .i64 b.x, .int .i64 b.y, .int .i64 b.w, .int .i64 b.h] 35)
  have z1 := alloc_size w (.cells #[.int .i64 a.x, .int .i64 a.y, .int .i64 a.w, .int .i64 a.h] 35)
  have z2 := alloc_size (w.alloc (.cells #[.int .i64 a.x, .int .i64 a.y, .int .i64 a.w, .int .i64 a.h] 35)) (.cells #[.int .i64 b.x, .int .i64 b.y, .int .i64 b.w, .int .i64 b.h] 35)
  obtain ⟨w1, hw1⟩ : ∃ w1, w.alloc (.cells #[.int .i64 a.x, .int .i64 a.y, .int .i64 a.w, .int .i64 a.h] 35) = w1 := ⟨_, rfl⟩
  rw [hw1] at H2 b1 z1 z2
  obtain ⟨w2, hw2⟩ : ∃ w2, w1.alloc (.cells #[.int .i64 b.x, .int .i64 b.y, .int .i64 b.w, .int .i64 b.h] 35) = w2 := ⟨_, rfl⟩
  rw [hw2] at H2 b1 z2
  have z2' : w2.heap.size = w.heap.size + 2 := by omega
  have HA := Lib.hid (fun W' (k : Below w2.heap.size w2 W') => H2 W' (k.mono (by omega)))
  have HB := Lib.hid b1
  clear H2 b0 b1 z2 wa wb wx wy D
  unfold Rc.v at *
  go_enter Try.func4, Try.ntmps4
  go_wp2_with fail
  refine (V0.out _).mono ?_
  rintro r w3 ⟨rfl, b3⟩
  obtain ⟨⟨c0, c1, c2, c3⟩, e0, e1, e2, e3⟩ := HA.out _ b3
  have Q3 := Lib.hid b3
  clear V0 b3
  obtain ⟨k4, kx⟩ := box1 w3 #[.int .i64 a.x, .int .i64 a.y, .int .i64 a.w, .int .i64 a.h, .int .i64 b.x, .int .i64 b.y, .int .i64 b.w, .int .i64 b.h] 3
  have z4 := alloc_size w3 (.cells #[.int .i64 a.x, .int .i64 a.y, .int .i64 a.w, .int .i64 a.h, .int .i64 b.x, .int .i64 b.y, .int .i64 b.w, .int .i64 b.h] 3)
  have hrow : SI (w3.alloc (.cells #[.int .i64 a.x, .int .i64 a.y, .int .i64 a.w, .int .i64 a.h, .int .i64 b.x, .int .i64 b.y, .int .i64 b.w, .int .i64 b.h] 3)) (.slice (some ⟨w3.heap.size, 0, none⟩) 8 8) (eight a b) := si_lit (eight a b) w3 3 #[.int .i64 a.x, .int .i64 a.y, .int .i64 a.w, .int .i64 a.h, .int .i64 b.x, .int .i64 b.y, .int .i64 b.w, .int .i64 b.h] 8 rfl rfl
  obtain ⟨w4, hw4⟩ : ∃ w4, w3.alloc (.cells #[.int .i64 a.x, .int .i64 a.y, .int .i64 a.w, .int .i64 a.h, .int .i64 b.x, .int .i64 b.y, .int .i64 b.w, .int .i64 b.h] 3) = w4 := ⟨_, rfl⟩
  rw [hw4] at k4 z4 hrow
  have Q4 := Lib.hid (Q3.out.trans (k4.mono Q3.out.size))
  obtain ⟨a9, cap9, e9, hc9⟩ := hrow.cells
  simp only [Value.slice.injEq] at e9
  obtain ⟨g9, off9, e10, _, hc9⟩ := hc9 (by show 0 < 8; decide)
  rw [← e9.1] at e10
  simp only [Option.some.injEq, Addr.mk.injEq, and_true] at e10
  obtain ⟨rfl, rfl⟩ := e10
  have HC : RowKit.Hid (∀ j, j < 8 → w4.cell? ⟨w3.heap.size, j, none⟩ = some (.int .i64 (px (eight a b) j))) := Lib.hid (fun j hj => by have := hc9 j hj; rwa [Nat.zero_add] at this)
  clear kx k4 hrow e9 hc9
  go_wp2_with fail
  clear c0 c1 c2 c3 e0 e1 e2 e3 hw4 hw1 hw2
  go_loopw [11] (fun i wr => ∃ k : Nat, k ≤ 8 ∧ i = .int .i64 k ∧ w4 = wr ∧ RowKit.Hid (∀ j, j < k → -1073741824 ≤ px (eight a b) j ∧ px (eight a b) j ≤ 1073741824)) (fun i _ => 8 - (intOf i).toNat)
  case atStart => exact ⟨0, Nat.zero_le _, rfl, by first | rfl | trivial, Lib.hid (fun j hj => by omega)⟩
  case round =>
    obtain ⟨k, hk, rfl, rfl, hsm⟩ := hrel
    by_cases hlt : k < 8
    · have d1 : decide (k < 8) = true := decide_eq_true hlt
      have d2 : decide ((k : Int) < 8) = true := decide_eq_true (by omega)
      have q0 := HC.out k hlt
      have HN : RowKit.Hid (-1073741824 ≤ px (eight a b) k → px (eight a b) k ≤ 1073741824 → ∀ j, j < k + 1 → -1073741824 ≤ px (eight a b) j ∧ px (eight a b) j ≤ 1073741824) := Lib.hid (fun h1 h2 j hj => by
        by_cases h : j < k
        · exact hsm.out j h
        · obtain rfl : j = k := by omega
          exact ⟨h1, h2⟩)
      generalize px (eight a b) k = n at *
      by_cases h1 : 1073741824 < n
      case pos =>
        have t1 : decide (1073741824 < n) = true := decide_eq_true h1
        clear HN
        go_wp2_with fail
        clear t1 h1
        refine region_all (by kernel_rfl) (srV a b x y (insB a x y)) (fun W => Below w4.heap.size w4 W) [2, 3, 4, 9] [none, none, none, none, none, none, none, none, some 12, none, none, none, none, none, none, none, none, none, none, none, none, none, none, none, none, none, none, none, none, none, none, none, none, none, none, none, none, none, none, none, none, none, none, none, none, none, none, none, none, none, some 0, some 1, some 2, some 3, some 4, some 5, some 6, some 7, some 8, some 9, some 10, some 11, none, none, none, none, none, none, none, none, none, none, none, none, none, none, none, none, none, none, none, none, none, none, none, none, none, none, none, none, none, none, none, none, none, none, none, none, none, none, none] (by kernel_rfl) (by kernel_rfl) (by rfl) (by kernel_rfl) (by kernel_rfl) (by kernel_rfl) ((Below.refl _ _).drew) ⟨?_, ?_, ?_, ?_, ?_, ?_, ?_, ?_, ?_, ?_, ?_, ?_, ?_, trivial⟩ ?_
        case refine_14 =>
          intro W hS
          simp only [zipF, srV]
          go_wp2_with fail
          go_ret
          exact ⟨rfl, HB.out.trans ((Q4.out.trans (hS.mono Q4.out.size)).mono HB.out.size)⟩
        all_goals
          intro ℓ act W hl hS hw hr hd
          obtain ⟨⟨c0, c1, c2, c3⟩, e0, e1, e2, e3⟩ := HA.out W (Q4.out.trans (hS.mono Q4.out.size))
          clear hw
          simp [readFacts, depFacts, dstOf, Region.binds, srV] at hr hd
          refine ⟨by first | exact wanted_none (by rfl) | exact wanted_guard (by rfl) (by rfl) (by simp only [*]), fun K hK => ?_⟩
          go_simp
          first
            | (with_reducible refine (V1.out _).mono ?_
               rintro r w' ⟨rfl, b⟩
               exact hK _ (hS.trans (b.mono hS.size)))
            | (with_reducible refine (V2.out _).mono ?_
               rintro r w' ⟨rfl, b⟩
               exact hK _ (hS.trans (b.mono hS.size)))
            | exact hK _ hS
      have t1 : decide (1073741824 < n) = false := decide_eq_false h1
      by_cases h2 : n < -1073741824
      case pos =>
        have t2 : decide (n < -1073741824) = true := decide_eq_true h2
        clear HN h1
        go_wp2_with fail
        clear t1 t2 h2
        refine region_all (by kernel_rfl) (srV a b x y (insB a x y)) (fun W => Below w4.heap.size w4 W) [2, 3, 4, 9] [none, none, none, none, none, none, none, none, some 12, none, none, none, none, none, none, none, none, none, none, none, none, none, none, none, none, none, none, none, none, none, none, none, none, none, none, none, none, none, none, none, none, none, none, none, none, none, none, none, none, none, some 0, some 1, some 2, some 3, some 4, some 5, some 6, some 7, some 8, some 9, some 10, some 11, none, none, none, none, none, none, none, none, none, none, none, none, none, none, none, none, none, none, none, none, none, none, none, none, none, none, none, none, none, none, none, none, none, none, none, none, none, none, none] (by kernel_rfl) (by kernel_rfl) (by rfl) (by kernel_rfl) (by kernel_rfl) (by kernel_rfl) ((Below.refl _ _).drew) ⟨?_, ?_, ?_, ?_, ?_, ?_, ?_, ?_, ?_, ?_, ?_, ?_, ?_, trivial⟩ ?_
        case refine_14 =>
          intro W hS
          simp only [zipF, srV]
          go_wp2_with fail
          go_ret
          exact ⟨rfl, HB.out.trans ((Q4.out.trans (hS.mono Q4.out.size)).mono HB.out.size)⟩
        all_goals
          intro ℓ act W hl hS hw hr hd
          obtain ⟨⟨c0, c1, c2, c3⟩, e0, e1, e2, e3⟩ := HA.out W (Q4.out.trans (hS.mono Q4.out.size))
          clear hw
          simp [readFacts, depFacts, dstOf, Region.binds, srV] at hr hd
          refine ⟨by first | exact wanted_none (by rfl) | exact wanted_guard (by rfl) (by rfl) (by simp only [*]), fun K hK => ?_⟩
          go_simp
          first
            | (with_reducible refine (V1.out _).mono ?_
               rintro r w' ⟨rfl, b⟩
               exact hK _ (hS.trans (b.mono hS.size)))
            | (with_reducible refine (V2.out _).mono ?_
               rintro r w' ⟨rfl, b⟩
               exact hK _ (hS.trans (b.mono hS.size)))
            | exact hK _ hS
      have t2 : decide (n < -1073741824) = false := decide_eq_false h2
      have HM := Lib.hid (HN.out (by omega) (by omega))
      clear HN h1 h2
      go_wp2_with fail
      exact ⟨⟨k + 1, by omega, by go_num, by first | rfl | trivial, HM⟩, by simp [intOf]; omega⟩
    · obtain rfl : k = 8 := by omega
      obtain ⟨s1, s2⟩ := eight_small hsm.out
      have V7 := Lib.hid (fun w => V4.out w s1 s2)
      have V8 := Lib.hid (fun w => V5.out w s1 s2)
      have V9 := Lib.hid (fun w => V6.out w s1 s2)
      clear V4 V5 V6 s1 s2 hsm
      go_wp2_with fail
      refine region_all (by kernel_rfl) (stV a b (meetR a b) x y (insB a x y)) (fun W => Below w4.heap.size w4 W) [2, 3, 4, 5, 9] [none, none, none, none, none, none, none, none, some 39, none, none, none, none, none, none, none, none, none, none, none, none, none, none, none, none, none, none, none, none, none, none, none, none, none, none, none, none, none, none, none, none, none, none, none, none, none, none, none, none, none, none, none, none, none, none, none, none, none, none, none, none, none, some 0, some 1, some 2, some 3, some 4, some 5, some 6, some 7, some 8, some 9, some 10, some 11, some 12, some 13, some 14, some 15, some 16, some 17, some 18, some 19, some 20, some 21, some 22, some 23, some 24, some 25, some 26, some 27, some 28, some 29, some 30, some 31, some 32, some 33, some 34, some 35, some 36, some 37, some 38] (by kernel_rfl) (by kernel_rfl) (by rfl) (by kernel_rfl) (by kernel_rfl) (by kernel_rfl) ((Below.refl _ _).drew) ⟨?_, ?_, ?_, ?_, ?_, ?_, ?_, ?_, ?_, ?_, ?_, ?_, ?_, ?_, ?_, ?_, ?_, ?_, ?_, ?_, ?_, ?_, ?_, ?_, ?_, ?_, ?_, ?_, ?_, ?_, ?_, ?_, ?_, ?_, ?_, ?_, ?_, ?_, ?_, ?_, trivial⟩ ?_
      case refine_41 =>
        intro W hS
        simp only [zipF, stV]
        go_wp2_with fail
        go_ret
        exact ⟨rfl, HB.out.trans ((Q4.out.trans (hS.mono Q4.out.size)).mono HB.out.size)⟩
      all_goals
        intro ℓ act W hl hS hw hr hd
        obtain ⟨⟨c0, c1, c2, c3⟩, e0, e1, e2, e3⟩ := HA.out W (Q4.out.trans (hS.mono Q4.out.size))
        clear hw
        simp [readFacts, depFacts, dstOf, Region.binds, stV] at hr hd
        refine ⟨by first | exact wanted_none (by rfl) | exact wanted_guard (by rfl) (by rfl) (by simp only [*]), fun K hK => ?_⟩
        go_simp
        first
          | (with_reducible refine (V1.out _).mono ?_
             rintro r w' ⟨rfl, b⟩
             exact hK _ (hS.trans (b.mono hS.size)))
          | (with_reducible refine (V2.out _).mono ?_
             rintro r w' ⟨rfl, b⟩
             exact hK _ (hS.trans (b.mono hS.size)))
          | (with_reducible refine (V3.out _).mono ?_
             rintro r w' ⟨rfl, b⟩
             exact hK _ (hS.trans (b.mono hS.size)))
          | (with_reducible refine (V7.out _).mono ?_
             rintro r w' ⟨rfl, b⟩
             exact hK _ (hS.trans (b.mono hS.size)))
          | (with_reducible refine (V8.out _).mono ?_
             rintro r w' ⟨rfl, b⟩
             exact hK _ (hS.trans (b.mono hS.size)))
          | (with_reducible refine (V9.out _).mono ?_
             rintro r w' ⟨rfl, b⟩
             exact hK _ (hS.trans (b.mono hS.size)))
          | exact hK _ hS

set_option maxRecDepth 100000 in
theorem lifted (os : Os) (started : os.Started) (H : Type) (enc : TypeId × Value → H) :
    ReturnsInHanded {} Try.checked os 4 .any (Rows.screenRectsSpec.pre6 enc Try.prog Try.f4 Rows.screenRectsRow.domain false) (Rows.screenRectsSpec.post enc Try.prog Try.f4 false true false false) := by
  refine returnsInHanded_of_change (C := Try.checked) own started (by kernel_rfl) Try.func4
    (ChangeSpec.witness6 (enc := enc) (C := Try.checked) false ⟨#[], #[.agg #[.int .i64 0, .int .i64 0, .int .i64 0, .int .i64 0], .agg #[.int .i64 0, .int .i64 0, .int .i64 0, .int .i64 0], .int .i64 0, .int .i64 0], []⟩ 8 (by kernel_rfl) (by kernel_rfl) (by kernel_rfl) (by kernel_rfl)) ?_
  intro W base args ds gs before hval0 hW hcnd _
  have hval : ∀ (j : Nat) t v, Try.f4.params[j]? = some t → args[j]? = some v → Value.okWide Try.prog W .any base t v := hval0
  have hW' := hW
  obtain ⟨p, q, hA0, hV, rfl, hfz, hnd⟩ := hW
  have hA : DataW.TrodAll enc Try.prog W 0 (fun _ => true) true Try.f4.params.toList args.toList ds p := hA0
  rw [Try.params4] at hA hval
  obtain ⟨v0, vs0, d0, ds0, p0, q0, hargs, rfl, rfl, h0, r0⟩ := trodAll_cons hA
  obtain ⟨v1, vs1, d1, ds1, p1, q1, rfl, rfl, rfl, h1, r1⟩ := trodAll_cons r0
  obtain ⟨v2, vs2, d2, ds2, p2, q2, rfl, rfl, rfl, h2, r2⟩ := trodAll_cons r1
  obtain ⟨v3, vs3, d3, ds3, p3, q3, rfl, rfl, rfl, h3, r3⟩ := trodAll_cons r2
  obtain ⟨rfl, rfl, rfl⟩ := trodAll_nil r3
  obtain rfl : args = #[v0, v1, v2, v3] := by cases args; simp_all
  obtain ⟨rfl, rfl⟩ := trodVars_none hV
  have k0 := h0
  have lt0 : ∀ x ∈ p0, x.block < W.heap.size := by obtain ⟨m, hm⟩ := k0; exact DataW.trod_lt m _ _ _ hm
  obtain ⟨a0, rfl, w0⟩ := rect_see (hval 0 35 v0 rfl rfl) h0
  have k1 := h1
  have lt1 : ∀ x ∈ p1, x.block < W.heap.size := by obtain ⟨m, hm⟩ := k1; exact DataW.trod_lt m _ _ _ hm
  obtain ⟨a1, rfl, w1⟩ := rect_see (hval 1 35 v1 rfl rfl) h1
  have k2 := h2
  have lt2 : ∀ x ∈ p2, x.block < W.heap.size := by obtain ⟨m, hm⟩ := k2; exact DataW.trod_lt m _ _ _ hm
  obtain ⟨a2, rfl, rfl, rfl, w2⟩ := open_int Try.underlying3 (hval 2 3 v2 rfl rfl) h2
  have k3 := h3
  have lt3 : ∀ x ∈ p3, x.block < W.heap.size := by obtain ⟨m, hm⟩ := k3; exact DataW.trod_lt m _ _ _ hm
  obtain ⟨a3, rfl, rfl, rfl, w3⟩ := open_int Try.underlying3 (hval 3 3 v3 rfl rfl) h3
  clear hA0 hval0
  refine (walk says a0 a1 a2 a3 w0 w1 w2 w3 W).mono fun e W' ⟨he, bel⟩ => ?_
  subst he
  exact ⟨_, rfl, _, _, _, [], _, [], hW', trodAll_mk1 (shut_bool Try.underlying4 _), (trodAll_cons_mk (Below.trod laidOut (by kernel_rfl) (of_decide_eq_true (by kernel_rfl)) k0 bel lt0) (trodAll_cons_mk (Below.trod laidOut (by kernel_rfl) (of_decide_eq_true (by kernel_rfl)) k1 bel lt1) (trodAll_cons_mk (Below.trod laidOut (by kernel_rfl) (of_decide_eq_true (by kernel_rfl)) k2 bel lt2) (trodAll_cons_mk (Below.trod laidOut (by kernel_rfl) (of_decide_eq_true (by kernel_rfl)) k3 bel lt3) trodAll_mk0)))), rfl, bel.frame _, fun h => by cases h⟩

theorem over : Rows.screenRectsRow.holds Try.pinned (OpenSpec.ofChange Rows.screenRectsSpec) :=
  OpenClaim.holds_of_wide 4 Try.f4 rfl rfl rfl rfl rfl rfl rfl ⟨rfl, rfl, rfl, rfl, rfl⟩ rfl rfl rfl rfl rfl (by kernel_rfl) Try.func4 (by kernel_rfl)
    (of_decide_eq_true (by kernel_rfl)) (by unfold Func.isWrapper; first | (rw [if_pos (by decide +kernel)]; kernel_rfl) | (rw [if_neg (by decide +kernel)]; exact ⟨rfl, rfl⟩))
    (fun os started H enc _ => lifted os started H enc)

theorem proved : Rows.ScreenRectsSaid := over
end Go.Proofs.Ytlamdgdegmjljaa.screenRects
