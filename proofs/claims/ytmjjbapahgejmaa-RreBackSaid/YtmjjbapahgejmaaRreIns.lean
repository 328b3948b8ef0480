/-
  The program of layer 17 (rre): what it asks of the screen: is a rectangle inside, all of it.
-/
import Derived.Test.YtmjjbapahgejmaaRrePrgH
namespace Go.Proofs.Ytmjjbapahgejmaa.Rre
open Go.ChangeShapes Go.WideShapes Go.ChangeAt Go.RowKit Lz RowG RegVal Pln
set_option linter.unusedVariables false
set_option linter.unusedSimpArgs false
set_option maxRecDepth 100000

def witB (a l s : Int) : Bool := decide (0 ≤ a ∧ 0 ≤ l ∧ a ≤ s ∧ l ≤ s - a)
theorem ins_wit (rx ry rw rh W H : Int) : insQ rx ry rw rh W H = (witB rx rw W && witB ry rh H) := by
  unfold insQ witB
  rw [← Bool.decide_and]
  congr 1
  simp only [eq_iff_iff]
  omega
set_option maxHeartbeats 1000000 in
theorem within_any (a l s : Int) (hs : (Lit.int .i64 s).wf = true) (w : World) :
    Calls Try.prog 97 #[.int .i64 a, .int .i64 l, .int .i64 s] w fun e w' => e = .returned (.bool (witB a l s)) ∧ w = w' := by
  have HD : RowKit.Hid (witB a l s = decide (0 ≤ a ∧ 0 ≤ l ∧ a ≤ s ∧ l ≤ s - a)) := Lib.hid rfl
  generalize witB a l s = RES at *
  by_cases h0 : 0 ≤ a
  case neg =>
    have d0 : decide (0 ≤ a) = false := decide_eq_false h0
    have hres : RES = false := HD.out.trans (decide_eq_false (fun h => h0 (by omega)))
    subst hres
    clear HD h0
    go_enter Try.func97, Try.ntmps97
    go_wp2_with fail
    go_ret
    exact ⟨rfl, rfl⟩
  have d0 : decide (0 ≤ a) = true := decide_eq_true h0
  by_cases h1 : 0 ≤ l
  case neg =>
    have d1 : decide (0 ≤ l) = false := decide_eq_false h1
    have hres : RES = false := HD.out.trans (decide_eq_false (fun h => h1 (by omega)))
    subst hres
    clear HD h0 h1
    go_enter Try.func97, Try.ntmps97
    go_wp2_with fail
    go_ret
    exact ⟨rfl, rfl⟩
  have d1 : decide (0 ≤ l) = true := decide_eq_true h1
  by_cases h2 : a ≤ s
  case neg =>
    have d2 : decide (a ≤ s) = false := decide_eq_false h2
    have hres : RES = false := HD.out.trans (decide_eq_false (fun h => h2 (by omega)))
    subst hres
    clear HD h0 h1 h2
    go_enter Try.func97, Try.ntmps97
    go_wp2_with fail
    go_ret
    exact ⟨rfl, rfl⟩
  have d2 : decide (a ≤ s) = true := decide_eq_true h2
  have hb := wf_bd hs
  obtain ⟨q, hq⟩ : ∃ q, s - a = q := ⟨_, rfl⟩
  have w1 : IntKind.i64.wrap (s - a) = q := (IntWalk.i64_in _ (by omega)).trans hq
  have w2 : wrap64 (s - a) = q := (IntWalk.wrap64_in _ (by omega)).trans hq
  have hres : RES = decide (l ≤ q) := HD.out.trans (decide_eq_decide.2 ⟨fun h => by omega, fun h => ⟨h0, h1, h2, by omega⟩⟩)
  subst hres
  clear HD h0 h1 h2 hb hq
  go_enter Try.func97, Try.ntmps97
  go_wp2_with fail
  go_ret
  exact ⟨rfl, rfl⟩
set_option maxHeartbeats 4000000 in
theorem inside_any (rx ry rw rh w h : Int) (W0 : World) (hw : (Lit.int .i64 w).wf = true) (hh : (Lit.int .i64 h).wf = true) :
    Calls Try.prog 74 #[.agg #[.int .i64 rx, .int .i64 ry, .int .i64 rw, .int .i64 rh], .int .i64 w, .int .i64 h] W0 fun e w' => e = .returned (.bool (insQ rx ry rw rh w h)) ∧ Below W0.heap.size W0 w' := by
  have AT := (Pln.box1 W0 #[.int .i64 rx, .int .i64 ry, .int .i64 rw, .int .i64 rh] 29).2
  have bel := (Below.refl W0.heap.size W0).alloc (Nat.le_refl _) (.cells #[.int .i64 rx, .int .i64 ry, .int .i64 rw, .int .i64 rh] 29)
  rw [ins_wit]
  have c0 := AT 0 _ rfl
  have c1 := AT 1 _ rfl
  have c2 := AT 2 _ rfl
  have c3 := AT 3 _ rfl
  clear AT
  have HB := Lib.hid bel
  clear bel
  have C1 := Lib.hid (within_any rx rw w hw (W0.alloc (.cells #[.int .i64 rx, .int .i64 ry, .int .i64 rw, .int .i64 rh] 29)))
  have C2 := Lib.hid (within_any ry rh h hh (W0.alloc (.cells #[.int .i64 rx, .int .i64 ry, .int .i64 rw, .int .i64 rh] 29)))
  generalize witB rx rw w = t1 at *
  generalize witB ry rh h = t2 at *
  cases t1 with
  | false =>
    clear C2
    go_enter Try.func74, Try.ntmps74
    go_wp2_with fail
    refine C1.out.mono ?_
    rintro e w' ⟨rfl, rfl⟩
    go_wp2_with fail
    go_ret
    exact ⟨rfl, HB.out⟩
  | true =>
    go_enter Try.func74, Try.ntmps74
    go_wp2_with fail
    refine C1.out.mono ?_
    rintro e w' ⟨rfl, rfl⟩
    go_wp2_with fail
    refine C2.out.mono ?_
    rintro e w' ⟨rfl, rfl⟩
    go_wp2_with fail
    go_ret
    exact ⟨rfl, HB.out⟩
set_option maxHeartbeats 1000000 in
theorem whole_any (W H : Int) (w : World) :
    Calls Try.prog 47 #[.int .i64 W, .int .i64 H] w fun e w' => e = .returned (.agg #[.int .i64 0, .int .i64 0, .int .i64 W, .int .i64 H]) ∧ Below w.heap.size w w' := by
  have z1 := alloc_size w (.cells #[.int .i64 0, .int .i64 0, .int .i64 0, .int .i64 0] 29)
  have o3 := heap_alloc_new w (.cells #[.int .i64 0, .int .i64 0, .int .i64 0, .int .i64 0] 29)
  have k3 := (Below.refl w.heap.size w).alloc (Nat.le_refl _) (.cells #[.int .i64 0, .int .i64 0, .int .i64 0, .int .i64 0] 29)
  obtain ⟨w3, hw3⟩ : ∃ w3, w.alloc (.cells #[.int .i64 0, .int .i64 0, .int .i64 0, .int .i64 0] 29) = w3 := ⟨_, rfl⟩
  rw [hw3] at z1 o3 k3
  have hB := Lib.hid k3
  have HO := Lib.hid o3
  have o0 := cell_of_row w3 w.heap.size 0 _ _ _ o3
  have o1 := cell_of_row w3 w.heap.size 1 _ _ _ o3
  have o2 := cell_of_row w3 w.heap.size 2 _ _ _ o3
  have o4 := cell_of_row w3 w.heap.size 3 _ _ _ o3
  have fz : ∀ i, w3.frozen? ⟨w.heap.size, i, none⟩ = false := fun i => frozen_of_row w3 w.heap.size i _ _ o3
  simp at o0 o1 o2 o4
  clear k3 o3
  go_enter Try.func47, Try.ntmps47
  go_wp2_with fail
  refine bodyPost_ret (Ret.ret_cell rfl _ _ w.heap.size 29 _ (0, 0) _ rfl (setRowAt (i := 3) (v := .int .i64 H) (setRowAt (i := 2) (v := .int .i64 W) (setRowAt (i := 1) (v := .int .i64 0) (setRowAt (i := 0) (v := .int .i64 0) HO.out rfl) rfl) rfl) rfl) Try.underlying29 rfl (by kernel_rfl)) rfl ⟨rfl, below_set (below_set (below_set (below_set hB.out (by omega) _ _) (by omega) _ _) (by omega) _ _) (by omega) _ _⟩
end Go.Proofs.Ytmjjbapahgejmaa.Rre
