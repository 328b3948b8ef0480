/-
  Contracts of the reference of layer 14 (screen): sides, colours, what is within, what two have in common, the colour at a place.
-/
import Derived.Test.YtlamdgdegmjljaaScrMem
namespace Go.Proofs.Ytlamdgdegmjljaa.Scr
open Go.ChangeShapes Go.WideShapes Go.ChangeAt Go.RowKit Lz RowG RegVal Reg
set_option linter.unusedVariables false
set_option maxRecDepth 100000

theorem wf_bd {n : Int} (h : (Lit.int .i64 n).wf = true) : -9223372036854775808 ≤ n ∧ n ≤ 9223372036854775807 := by
  simp only [Lit.wf, IntKind.min, IntKind.max, IntKind.signed, IntKind.bits, Bool.and_eq_true, decide_eq_true_eq, if_true] at h
  omega
/-- A rectangle that was just boxed. -/
def RAt (w : World) (b : Nat) (r : Rc) : Prop := w.cell? ⟨b, 0, none⟩ = some (.int .i64 r.x) ∧ w.cell? ⟨b, 1, none⟩ = some (.int .i64 r.y) ∧ w.cell? ⟨b, 2, none⟩ = some (.int .i64 r.w) ∧ w.cell? ⟨b, 3, none⟩ = some (.int .i64 r.h)
theorem RAt.box (w : World) (r : Rc) (T : TypeId) : RAt (w.alloc (.cells #[.int .i64 r.x, .int .i64 r.y, .int .i64 r.w, .int .i64 r.h] T)) w.heap.size r := by
  obtain ⟨_, kx⟩ := box1 w #[.int .i64 r.x, .int .i64 r.y, .int .i64 r.w, .int .i64 r.h] T
  exact ⟨kx 0 _ rfl, kx 1 _ rfl, kx 2 _ rfl, kx 3 _ rfl⟩
theorem RAt.below {w w' : World} {b n : Nat} {r : Rc} (h : RAt w b r) (k : Below n w w') (hb : b < n) : RAt w' b r :=
  ⟨(k.cell (p := ⟨b, 0, none⟩) hb).trans h.1, (k.cell (p := ⟨b, 1, none⟩) hb).trans h.2.1, (k.cell (p := ⟨b, 2, none⟩) hb).trans h.2.2.1, (k.cell (p := ⟨b, 3, none⟩) hb).trans h.2.2.2⟩

theorem refSide_any (n : Int) (w : World) :
    Calls Try.prog 11 #[.int .i64 n] w fun e w' => e = .returned (.bool (sideB n)) ∧ w = w' := by
  by_cases h1 : 1 ≤ n
  · have d1 : decide (1 ≤ n) = true := decide_eq_true h1
    by_cases h2 : n ≤ 4096
    · have d2 : decide (n ≤ 4096) = true := decide_eq_true h2
      go_enter Try.func11, Try.ntmps11
      go_wp2_with fail
      go_ret
      exact ⟨retB (decide_eq_true ⟨h1, h2⟩).symm, rfl⟩
    · have d2 : decide (n ≤ 4096) = false := decide_eq_false h2
      go_enter Try.func11, Try.ntmps11
      go_wp2_with fail
      go_ret
      exact ⟨retB (decide_eq_false (by omega)).symm, rfl⟩
  · have d1 : decide (1 ≤ n) = false := decide_eq_false h1
    go_enter Try.func11, Try.ntmps11
    go_wp2_with fail
    go_ret
    exact ⟨retB (decide_eq_false (by omega)).symm, rfl⟩
theorem refColour_any (n : Int) (w : World) :
    Calls Try.prog 40 #[.int .i64 n] w fun e w' => e = .returned (.bool (colB n)) ∧ w = w' := by
  by_cases h1 : 0 ≤ n
  · have d1 : decide (0 ≤ n) = true := decide_eq_true h1
    by_cases h2 : n ≤ 16777215
    · have d2 : decide (n ≤ 16777215) = true := decide_eq_true h2
      go_enter Try.func40, Try.ntmps40
      go_wp2_with fail
      go_ret
      exact ⟨retB (decide_eq_true ⟨h1, h2⟩).symm, rfl⟩
    · have d2 : decide (n ≤ 16777215) = false := decide_eq_false h2
      go_enter Try.func40, Try.ntmps40
      go_wp2_with fail
      go_ret
      exact ⟨retB (decide_eq_false (by omega)).symm, rfl⟩
  · have d1 : decide (0 ≤ n) = false := decide_eq_false h1
    go_enter Try.func40, Try.ntmps40
    go_wp2_with fail
    go_ret
    exact ⟨retB (decide_eq_false (by omega)).symm, rfl⟩
set_option maxHeartbeats 4000000 in
theorem refInside_any (r : Rc) (w h : Int) (hw : (Lit.int .i64 w).wf = true) (hh : (Lit.int .i64 h).wf = true) (W0 : World) :
    Calls Try.prog 30 #[r.v, .int .i64 w, .int .i64 h] W0 fun e w' => e = .returned (.bool (insB r w h)) ∧ Below W0.heap.size W0 w' := by
  have AT := RAt.box W0 r 35
  have bel := (Below.refl W0.heap.size W0).alloc (Nat.le_refl _) (.cells #[.int .i64 r.x, .int .i64 r.y, .int .i64 r.w, .int .i64 r.h] 35)
  obtain ⟨rx, ry, rw, rh⟩ := r
  unfold Rc.v
  simp only at *
  obtain ⟨c0, c1, c2, c3⟩ := AT
  have HB := Lib.hid bel
  have HR : RowKit.Hid (∀ b, insB ⟨rx, ry, rw, rh⟩ w h = b ↔ insB ⟨rx, ry, rw, rh⟩ w h = b) := Lib.hid (fun _ => Iff.rfl)
  have HD : RowKit.Hid (insB ⟨rx, ry, rw, rh⟩ w h = decide (0 ≤ rx ∧ 0 ≤ ry ∧ 0 ≤ rw ∧ 0 ≤ rh ∧ rw ≤ w ∧ rx ≤ w - rw ∧ rh ≤ h ∧ ry ≤ h - rh)) := Lib.hid rfl
  generalize insB ⟨rx, ry, rw, rh⟩ w h = RES at *
  clear bel HR
  by_cases h0 : 0 ≤ rx
  case neg =>
    have d0 : decide (0 ≤ rx) = false := decide_eq_false h0
    have hres : RES = false := HD.out.trans (decide_eq_false (fun h => h0 (by omega)))
    subst hres
    clear HD
    clear h0
    go_enter Try.func30, Try.ntmps30
    go_wp2_with fail
    go_ret
    exact ⟨rfl, HB.out⟩
  have d0 : decide (0 ≤ rx) = true := decide_eq_true h0
  by_cases h1 : 0 ≤ ry
  case neg =>
    have d1 : decide (0 ≤ ry) = false := decide_eq_false h1
    have hres : RES = false := HD.out.trans (decide_eq_false (fun h => h1 (by omega)))
    subst hres
    clear HD
    clear h0
    clear h1
    go_enter Try.func30, Try.ntmps30
    go_wp2_with fail
    go_ret
    exact ⟨rfl, HB.out⟩
  have d1 : decide (0 ≤ ry) = true := decide_eq_true h1
  by_cases h2 : 0 ≤ rw
  case neg =>
    have d2 : decide (0 ≤ rw) = false := decide_eq_false h2
    have hres : RES = false := HD.out.trans (decide_eq_false (fun h => h2 (by omega)))
    subst hres
    clear HD
    clear h0
    clear h1
    clear h2
    go_enter Try.func30, Try.ntmps30
    go_wp2_with fail
    go_ret
    exact ⟨rfl, HB.out⟩
  have d2 : decide (0 ≤ rw) = true := decide_eq_true h2
  by_cases h3 : 0 ≤ rh
  case neg =>
    have d3 : decide (0 ≤ rh) = false := decide_eq_false h3
    have hres : RES = false := HD.out.trans (decide_eq_false (fun h => h3 (by omega)))
    subst hres
    clear HD
    clear h0
    clear h1
    clear h2
    clear h3
    go_enter Try.func30, Try.ntmps30
    go_wp2_with fail
    go_ret
    exact ⟨rfl, HB.out⟩
  have d3 : decide (0 ≤ rh) = true := decide_eq_true h3
  by_cases h4 : rw ≤ w
  case neg =>
    have d4 : decide (rw ≤ w) = false := decide_eq_false h4
    have hres : RES = false := HD.out.trans (decide_eq_false (fun h => h4 (by omega)))
    subst hres
    clear HD
    clear h0
    clear h1
    clear h2
    clear h3
    clear h4
    go_enter Try.func30, Try.ntmps30
    go_wp2_with fail
    go_ret
    exact ⟨rfl, HB.out⟩
  have d4 : decide (rw ≤ w) = true := decide_eq_true h4
  have w1 : IntKind.i64.wrap (w - rw) = w - rw := IntWalk.i64_in _ (by have := wf_bd hw; omega)
  have w2 : wrap64 (w - rw) = w - rw := IntWalk.wrap64_in _ (by have := wf_bd hw; omega)
  by_cases h5 : rx ≤ w - rw
  case neg =>
    have d5 : decide (rx ≤ w - rw) = false := decide_eq_false h5
    have hres : RES = false := HD.out.trans (decide_eq_false (fun h => h5 (by omega)))
    subst hres
    clear HD
    clear h0
    clear h1
    clear h2
    clear h3
    clear h4
    clear h5
    go_enter Try.func30, Try.ntmps30
    go_wp2_with fail
    go_ret
    exact ⟨rfl, HB.out⟩
  have d5 : decide (rx ≤ w - rw) = true := decide_eq_true h5
  by_cases h6 : rh ≤ h
  case neg =>
    have d6 : decide (rh ≤ h) = false := decide_eq_false h6
    have hres : RES = false := HD.out.trans (decide_eq_false (fun h => h6 (by omega)))
    subst hres
    clear HD
    clear h0
    clear h1
    clear h2
    clear h3
    clear h4
    clear h5
    clear h6
    go_enter Try.func30, Try.ntmps30
    go_wp2_with fail
    go_ret
    exact ⟨rfl, HB.out⟩
  have d6 : decide (rh ≤ h) = true := decide_eq_true h6
  have w3 : IntKind.i64.wrap (h - rh) = h - rh := IntWalk.i64_in _ (by have := wf_bd hh; omega)
  have w4 : wrap64 (h - rh) = h - rh := IntWalk.wrap64_in _ (by have := wf_bd hh; omega)
  by_cases h7 : ry ≤ h - rh
  case neg =>
    have d7 : decide (ry ≤ h - rh) = false := decide_eq_false h7
    have hres : RES = false := HD.out.trans (decide_eq_false (fun h => h7 (by omega)))
    subst hres
    clear HD
    clear h0
    clear h1
    clear h2
    clear h3
    clear h4
    clear h5
    clear h6
    clear h7
    go_enter Try.func30, Try.ntmps30
    go_wp2_with fail
    go_ret
    exact ⟨rfl, HB.out⟩
  have d7 : decide (ry ≤ h - rh) = true := decide_eq_true h7
  have hres : RES = true := HD.out.trans (decide_eq_true ⟨h0, h1, h2, h3, h4, h5, h6, h7⟩)
  subst hres
  clear HD h0 h1 h2 h3 h4 h5 h6 h7
  go_enter Try.func30, Try.ntmps30
  go_wp2_with fail
  go_ret
  exact ⟨rfl, HB.out⟩
set_option maxHeartbeats 4000000 in
theorem refIn_any (r : Rc) (x y : Int) (hx : -9223372036854775808 ≤ r.x + r.w ∧ r.x + r.w ≤ 9223372036854775807) (hy : -9223372036854775808 ≤ r.y + r.h ∧ r.y + r.h ≤ 9223372036854775807) (W0 : World) :
    Calls Try.prog 34 #[r.v, .int .i64 x, .int .i64 y] W0 fun e w' => e = .returned (.bool (inB r x y)) ∧ Below W0.heap.size W0 w' := by
  have AT := RAt.box W0 r 35
  have bel := (Below.refl W0.heap.size W0).alloc (Nat.le_refl _) (.cells #[.int .i64 r.x, .int .i64 r.y, .int .i64 r.w, .int .i64 r.h] 35)
  obtain ⟨rx, ry, rw, rh⟩ := r
  unfold Rc.v
  simp only at *
  obtain ⟨c0, c1, c2, c3⟩ := AT
  have HB := Lib.hid bel
  have HR : RowKit.Hid (∀ b, inB ⟨rx, ry, rw, rh⟩ x y = b ↔ inB ⟨rx, ry, rw, rh⟩ x y = b) := Lib.hid (fun _ => Iff.rfl)
  have HD : RowKit.Hid (inB ⟨rx, ry, rw, rh⟩ x y = decide (rx ≤ x ∧ x < rx + rw ∧ ry ≤ y ∧ y < ry + rh)) := Lib.hid rfl
  generalize inB ⟨rx, ry, rw, rh⟩ x y = RES at *
  clear bel HR
  by_cases h0 : rx ≤ x
  case neg =>
    have d0 : decide (rx ≤ x) = false := decide_eq_false h0
    have hres : RES = false := HD.out.trans (decide_eq_false (fun h => h0 (by omega)))
    subst hres
    clear HD
    clear h0
    go_enter Try.func34, Try.ntmps34
    go_wp2_with fail
    go_ret
    exact ⟨rfl, HB.out⟩
  have d0 : decide (rx ≤ x) = true := decide_eq_true h0
  have w1 : IntKind.i64.wrap (rx + rw) = rx + rw := IntWalk.i64_in _ hx
  have w2 : wrap64 (rx + rw) = rx + rw := IntWalk.wrap64_in _ hx
  by_cases h1 : x < rx + rw
  case neg =>
    have d1 : decide (x < rx + rw) = false := decide_eq_false h1
    have hres : RES = false := HD.out.trans (decide_eq_false (fun h => h1 (by omega)))
    subst hres
    clear HD
    clear h0
    clear h1
    go_enter Try.func34, Try.ntmps34
    go_wp2_with fail
    go_ret
    exact ⟨rfl, HB.out⟩
  have d1 : decide (x < rx + rw) = true := decide_eq_true h1
  by_cases h2 : ry ≤ y
  case neg =>
    have d2 : decide (ry ≤ y) = false := decide_eq_false h2
    have hres : RES = false := HD.out.trans (decide_eq_false (fun h => h2 (by omega)))
    subst hres
    clear HD
    clear h0
    clear h1
    clear h2
    go_enter Try.func34, Try.ntmps34
    go_wp2_with fail
    go_ret
    exact ⟨rfl, HB.out⟩
  have d2 : decide (ry ≤ y) = true := decide_eq_true h2
  have w3 : IntKind.i64.wrap (ry + rh) = ry + rh := IntWalk.i64_in _ hy
  have w4 : wrap64 (ry + rh) = ry + rh := IntWalk.wrap64_in _ hy
  by_cases h3 : y < ry + rh
  case neg =>
    have d3 : decide (y < ry + rh) = false := decide_eq_false h3
    have hres : RES = false := HD.out.trans (decide_eq_false (fun h => h3 (by omega)))
    subst hres
    clear HD
    clear h0
    clear h1
    clear h2
    clear h3
    go_enter Try.func34, Try.ntmps34
    go_wp2_with fail
    go_ret
    exact ⟨rfl, HB.out⟩
  have d3 : decide (y < ry + rh) = true := decide_eq_true h3
  have hres : RES = true := HD.out.trans (decide_eq_true ⟨h0, h1, h2, h3⟩)
  subst hres
  clear HD h0 h1 h2 h3
  go_enter Try.func34, Try.ntmps34
  go_wp2_with fail
  go_ret
  exact ⟨rfl, HB.out⟩
end Go.Proofs.Ytlamdgdegmjljaa.Scr
