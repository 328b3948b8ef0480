/-
  Contracts of the reference of layer 16 (plain): which rectangles may be.
-/
import Derived.Test.YtmjjbapahgejmaaPlnRefA
import Derived.Test.YtmjjbapahgejmaaAllFmtM
import Derived.Deep.RegionWith
namespace Go.Proofs.Ytmjjbapahgejmaa.Pln
open Go.ChangeShapes Go.WideShapes Go.ChangeAt Go.RowKit Lz RowG RegVal Fmt
set_option linter.unusedVariables false
set_option maxRecDepth 100000

def fitsB (f : Fm) (w h : Int) : Bool := f.ok && decide (0 ≤ w) && decide (w ≤ 4096) && decide (0 ≤ h) && decide (h ≤ 4096)
theorem refFits_any (f : Fm) (hf : f.Wf) (x y : Int) (w : World) :
    Calls Try.prog 16 #[f.v, .int .i64 x, .int .i64 y] w fun e w' => e = .returned (.bool (fitsB f x y)) ∧ Below w.heap.size w w' := by
  have V := Lib.hid (fun w => refValid_any f hf w)
  have HO : RowKit.Hid (fitsB f x y = (f.ok && decide (0 ≤ x) && decide (x ≤ 4096) && decide (0 ≤ y) && decide (y ≤ 4096))) := Lib.hid rfl
  generalize fitsB f x y = O at *
  generalize f.ok = OK at *
  have AT := FmAt.box f w 37
  have bel := (Below.refl w.heap.size w).alloc (Nat.le_refl _) (.cells #[.int .i64 f.B, .int .i64 f.D, .bool f.big, .bool f.tr, .int .i64 f.rm, .int .i64 f.gm, .int .i64 f.bm, .int .i64 f.rs, .int .i64 f.gs, .int .i64 f.bs] 37)
  obtain ⟨w1, hw1⟩ : ∃ w1, w.alloc (.cells #[.int .i64 f.B, .int .i64 f.D, .bool f.big, .bool f.tr, .int .i64 f.rm, .int .i64 f.gm, .int .i64 f.bm, .int .i64 f.rs, .int .i64 f.gs, .int .i64 f.bs] 37) = w1 := ⟨_, rfl⟩
  rw [hw1] at AT bel
  have HF : f.v = .agg #[.int .i64 f.B, .int .i64 f.D, .bool f.big, .bool f.tr, .int .i64 f.rm, .int .i64 f.gm, .int .i64 f.bm, .int .i64 f.rs, .int .i64 f.gs, .int .i64 f.bs] := rfl
  rw [HF] at V ⊢
  have BEL := Lib.hid bel
  clear hf HF bel
  obtain ⟨B, D, big, tr, rm, gm, bm, rs, gs, bs⟩ := f
  simp only at *
  obtain ⟨d0, d1, d2, d3, d4, d5, d6, d7, d8, d9⟩ := AT
  dsimp only at d0 d1 d2 d3 d4 d5 d6 d7 d8 d9
  go_enter Try.func16, Try.ntmps16
  cases OK with
  | false =>
    have HO2 : O = false := by rw [HO.out]; simp
    subst HO2
    clear HO
    go_wp2_with fail
    refine (V.out _).mono ?_
    rintro r w2 ⟨rfl, b⟩
    have HB := Lib.hid (BEL.out.trans (b.mono BEL.out.size))
    clear b V BEL d0 d1 d2 d3 d4 d5 d6 d7 d8 d9
    go_wp2_with fail
    go_ret
    exact ⟨rfl, HB.out⟩
  | true =>
    by_cases e1 : 0 ≤ x
    case neg =>
      have ke1 : decide (0 ≤ x) = false := decide_eq_false e1
      have HO2 : O = false := by rw [HO.out]; simp [ke1]
      subst HO2
      clear HO
      go_wp2_with fail
      refine (V.out _).mono ?_
      rintro r w2 ⟨rfl, b⟩
      have HB := Lib.hid (BEL.out.trans (b.mono BEL.out.size))
      clear b V BEL d0 d1 d2 d3 d4 d5 d6 d7 d8 d9
      go_wp2_with fail
      go_ret
      exact ⟨rfl, HB.out⟩
    have ke1 : decide (0 ≤ x) = true := decide_eq_true e1
    by_cases e2 : x ≤ 4096
    case neg =>
      have ke2 : decide (x ≤ 4096) = false := decide_eq_false e2
      have HO2 : O = false := by rw [HO.out]; simp [ke1, ke2]
      subst HO2
      clear HO
      go_wp2_with fail
      refine (V.out _).mono ?_
      rintro r w2 ⟨rfl, b⟩
      have HB := Lib.hid (BEL.out.trans (b.mono BEL.out.size))
      clear b V BEL d0 d1 d2 d3 d4 d5 d6 d7 d8 d9
      go_wp2_with fail
      go_ret
      exact ⟨rfl, HB.out⟩
    have ke2 : decide (x ≤ 4096) = true := decide_eq_true e2
    by_cases e3 : 0 ≤ y
    case neg =>
      have ke3 : decide (0 ≤ y) = false := decide_eq_false e3
      have HO2 : O = false := by rw [HO.out]; simp [ke1, ke2, ke3]
      subst HO2
      clear HO
      go_wp2_with fail
      refine (V.out _).mono ?_
      rintro r w2 ⟨rfl, b⟩
      have HB := Lib.hid (BEL.out.trans (b.mono BEL.out.size))
      clear b V BEL d0 d1 d2 d3 d4 d5 d6 d7 d8 d9
      go_wp2_with fail
      go_ret
      exact ⟨rfl, HB.out⟩
    have ke3 : decide (0 ≤ y) = true := decide_eq_true e3
    by_cases e4 : y ≤ 4096
    case neg =>
      have ke4 : decide (y ≤ 4096) = false := decide_eq_false e4
      have HO2 : O = false := by rw [HO.out]; simp [ke1, ke2, ke3, ke4]
      subst HO2
      clear HO
      go_wp2_with fail
      refine (V.out _).mono ?_
      rintro r w2 ⟨rfl, b⟩
      have HB := Lib.hid (BEL.out.trans (b.mono BEL.out.size))
      clear b V BEL d0 d1 d2 d3 d4 d5 d6 d7 d8 d9
      go_wp2_with fail
      go_ret
      exact ⟨rfl, HB.out⟩
    have ke4 : decide (y ≤ 4096) = true := decide_eq_true e4
    have HO2 : O = true := by rw [HO.out]; simp [ke1, ke2, ke3, ke4]
    subst HO2
    clear HO
    go_wp2_with fail
    refine (V.out _).mono ?_
    rintro r w2 ⟨rfl, b⟩
    have HB := Lib.hid (BEL.out.trans (b.mono BEL.out.size))
    clear b V BEL d0 d1 d2 d3 d4 d5 d6 d7 d8 d9
    go_wp2_with fail
    go_ret
    exact ⟨rfl, HB.out⟩
end Go.Proofs.Ytmjjbapahgejmaa.Pln
