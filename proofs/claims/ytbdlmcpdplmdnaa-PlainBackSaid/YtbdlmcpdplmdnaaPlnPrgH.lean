/-
  The program of layer 16 (plain): from where a rectangle is copied, as bytes, and of bytes.
-/
import Derived.Test.YtbdlmcpdplmdnaaPlnRefG
import Derived.Test.YtbdlmcpdplmdnaaOctRead
import Derived.Test.YtbdlmcpdplmdnaaOctPut
namespace Go.Proofs.Ytbdlmcpdplmdnaa.Pln
open Go.ChangeShapes Go.WideShapes Go.ChangeAt Go.RowKit Lz RowG RegVal Fmt Oct
set_option linter.unusedVariables false
set_option linter.unusedSimpArgs false
set_option maxRecDepth 100000

theorem copy_any (x y : Int) (w : World) :
    Calls Try.prog 18 #[.int .i64 x, .int .i64 y] w fun e w' => e = .returned (.tuple #[.string (cpS x y), .int .i64 (cpE x y)]) ∧ Below w.heap.size w w' := by
  have PX := Lib.hid (fun w => put_any 2 x w)
  have PY := Lib.hid (fun w => put_any 2 y w)
  have hS : RowKit.Hid (cpS x y = if okB 2 x && okB 2 y then putS 2 x ++ putS 2 y else ⟨#[]⟩) := Lib.hid (by
    unfold cpS cpB putS
    cases okB 2 x <;> cases okB 2 y <;> simp [ByteArray.mk_append_mk])
  have hE : RowKit.Hid (cpE x y = if okB 2 x && okB 2 y then 0 else 1) := Lib.hid rfl
  have hx : putE 2 x = if okB 2 x then 0 else 1 := rfl
  have hy : putE 2 y = if okB 2 y then 0 else 1 := rfl
  have hadd : ∀ W : World, (Op.stringOp .add (putS 2 x) (putS 2 y)).run Try.prog W = .ok (.string (putS 2 x ++ putS 2 y)) W := fun W => run_string_add_sum W _ _ (by
    have := putS_size 2 x rfl
    have := putS_size 2 y rfl
    omega)
  generalize cpS x y = S at *
  generalize cpE x y = E at *
  generalize putS 2 x = sx at *
  generalize putS 2 y = sy at *
  generalize hex : putE 2 x = ex at *
  generalize hey : putE 2 y = ey at *
  clear hex hey
  go_enter Try.func18, Try.ntmps18
  generalize okB 2 x = bx at *
  generalize okB 2 y = bY at *
  cases bx with
  | false =>
    simp only [Bool.false_and, Bool.false_eq_true, if_false] at hS hE hx
    subst hx
    have e1 := hS.out
    have e2 := hE.out
    subst e1 e2
    clear hS hE hy hadd PY
    go_wp2_with fail
    refine (PX.out _).mono ?_
    rintro r w2 ⟨rfl, b⟩
    have HB := Lib.hid b
    clear b
    go_wp2_with fail
    go_ret2
    exact ⟨rfl, HB.out⟩
  | true =>
    simp only [Bool.true_and, if_true] at hS hE hx
    subst hx
    cases bY with
    | false =>
      simp only [Bool.false_eq_true, if_false] at hS hE hy
      subst hy
      have e1 := hS.out
      have e2 := hE.out
      subst e1 e2
      clear hS hE hadd
      go_wp2_with fail
      refine (PX.out _).mono ?_
      rintro r w2 ⟨rfl, b⟩
      have HB := Lib.hid b
      clear b
      go_wp2_with fail
      refine (PY.out _).mono ?_
      rintro r w3 ⟨rfl, b⟩
      have HB2 := Lib.hid (HB.out.trans (b.mono HB.out.size))
      clear b HB
      go_wp2_with fail
      go_ret2
      exact ⟨rfl, HB2.out⟩
    | true =>
      simp only [if_true] at hS hE hy
      subst hy
      have e1 := hS.out
      have e2 := hE.out
      subst e1 e2
      clear hS hE
      go_wp2_with fail
      refine (PX.out _).mono ?_
      rintro r w2 ⟨rfl, b⟩
      have HB := Lib.hid b
      clear b
      go_wp2_with fail
      refine (PY.out _).mono ?_
      rintro r w3 ⟨rfl, b⟩
      have HB2 := Lib.hid (HB.out.trans (b.mono HB.out.size))
      clear b HB
      go_wp2_with fail
      go_ret2
      exact ⟨rfl, HB2.out⟩
theorem two_ints (t : ByteArray) : ∃ v1 i1 e1 v2 i2 e2, intV t 0 0 2 = v1 ∧ numI t 0 0 2 = i1 ∧ numE t 0 0 2 = e1 ∧ intV t i1 e1 2 = v2 ∧ numI t i1 e1 2 = i2 ∧ numE t i1 e1 2 = e2 ∧ 0 ≤ i1 ∧ i1 ≤ t.size ∧ cfE t = e2 ∧ (e2 = 0 → v1 = cfV t 0 ∧ v2 = cfV t 2 ∧ i2 = cfN t) ∧ (¬ e2 = 0 → cfV t 0 = 0 ∧ cfV t 2 = 0 ∧ cfN t = 0) := by
  refine ⟨_, _, _, _, _, _, rfl, rfl, rfl, rfl, rfl, rfl, ?_⟩
  have hs : sizeB 2 = true := by decide
  unfold cfE cfV cfN numE numI intV
  simp only [hs, if_true]
  by_cases h4 : t.size < 4
  · by_cases h2 : t.size < 2
    · have e1 : byE t 0 0 2 = 2 := by unfold byE; rw [if_pos rfl, if_neg (by omega), if_pos (by omega)]
      have i1 : byI t 0 0 2 = 0 := by unfold byI; rw [e1]; rfl
      have e2 : byE t 0 2 2 = 2 := by unfold byE; rw [if_neg (by decide)]
      simp only [i1, e1, e2, if_pos h4]
      exact ⟨by omega, by omega, trivial, fun h => absurd h (by decide), fun _ => ⟨trivial, trivial, trivial⟩⟩
    · have e1 : byE t 0 0 2 = 0 := by unfold byE; rw [if_pos rfl, if_neg (by omega), if_neg (by omega)]
      have i1 : byI t 0 0 2 = 2 := by unfold byI; rw [e1]; rfl
      have e2 : byE t 2 0 2 = 2 := by unfold byE; rw [if_pos rfl, if_neg (by omega), if_pos (by omega)]
      simp only [i1, e1, e2, if_pos h4]
      exact ⟨by omega, by omega, trivial, fun h => absurd h (by decide), fun _ => ⟨trivial, trivial, trivial⟩⟩
  · have e1 : byE t 0 0 2 = 0 := by unfold byE; rw [if_pos rfl, if_neg (by omega), if_neg (by omega)]
    have i1 : byI t 0 0 2 = 2 := by unfold byI; rw [e1]; rfl
    have e2 : byE t 2 0 2 = 0 := by unfold byE; rw [if_pos rfl, if_neg (by omega), if_neg (by omega)]
    have i2 : byI t 2 0 2 = 4 := by unfold byI; rw [e2]; rfl
    have s1 : byS t 0 0 2 = t.extract 0 (0 + 2) := by unfold byS; rw [e1]; rfl
    have s2 : byS t 2 0 2 = t.extract 2 (2 + 2) := by unfold byS; rw [e2]; rfl
    rw [i1, e1, e2, i2, s1, s2]
    simp only [if_neg h4]
    exact ⟨by omega, by omega, trivial, fun _ => ⟨trivial, trivial, trivial⟩, fun h => absurd trivial h⟩
theorem copyOf_any (t : ByteArray) (ht : t.size ≤ 1000000) (w : World) :
    Calls Try.prog 20 #[.string t] w fun e w' => e = .returned (.tuple #[.int .i64 (cfV t 0), .int .i64 (cfV t 2), .int .i64 (cfN t), .int .i64 (cfE t)]) ∧ Below w.heap.size w w' := by
  obtain ⟨v1, i1, e1, v2, i2, e2, h1, h2, h3, h4, h5, h6, h7, h8, h9, h10, h11⟩ := two_ints t
  rw [h9]
  have NW := Lib.hid (new_any t w)
  have I1 := Lib.hid (fun W (h : CurAt 84 W w.heap.size t 0 0) => int_any w.heap.size t 0 0 2 W h (by omega) (by omega) (by omega))
  have I2 := Lib.hid (fun W (h : CurAt 84 W w.heap.size t i1 e1) => int_any w.heap.size t i1 e1 2 W h h7 h8 (by omega))
  rw [h1, h2, h3] at I1
  rw [h4, h5, h6] at I2
  have ER := Lib.hid (fun W (h : CurAt 84 W w.heap.size t i2 e2) => err_any w.heap.size t i2 e2 W h)
  have AT := Lib.hid (fun W (h : CurAt 84 W w.heap.size t i2 e2) => at_any w.heap.size t i2 e2 W h)
  have HT := Lib.hid h10
  have HF := Lib.hid h11
  clear h1 h2 h3 h4 h5 h6 h7 h8 h9 h10 h11 ht
  go_enter Try.func20, Try.ntmps20
  go_wp2_with fail
  refine NW.out.mono ?_
  rintro r w1 ⟨rfl, c1, b1⟩
  have C1 := Lib.hid (I1.out _ c1)
  have B1 := Lib.hid b1
  clear c1 b1 NW I1
  go_wp2_with fail
  refine C1.out.mono ?_
  rintro r w2 ⟨rfl, c2, g2⟩
  have C2 := Lib.hid (I2.out _ c2)
  have B2 := Lib.hid (B1.out.trans (below_of_grown g2 (Nat.le_refl _) B1.out.size))
  clear c2 g2 C1 I2
  go_wp2_with fail
  refine C2.out.mono ?_
  rintro r w3 ⟨rfl, c3, g3⟩
  have HC3 := Lib.hid c3
  have B3 := Lib.hid (B2.out.trans (below_of_grown g3 (Nat.le_refl _) B2.out.size))
  clear c3 g3 C2
  go_wp2_with fail
  refine (ER.out _ HC3.out).mono ?_
  rintro r w4 ⟨rfl, rfl⟩
  by_cases h0 : e2 = 0
  · subst h0
    go_wp2_with fail
    refine (AT.out _ HC3.out).mono ?_
    rintro r w4 ⟨rfl, rfl⟩
    go_wp2_with fail
    refine bodyPost_ret (results_tmp4 rfl _ _ _) rfl ?_
    obtain ⟨q1, q2, q3⟩ := HT.out (by first | trivial | rfl)
    rw [← q1, ← q2, ← q3]
    exact ⟨rfl, B3.out⟩
  · have d1 : (e2 != 0) = true := by simp [h0]
    have d2 : (e2 == 0) = false := by simp [h0]
    have HQ := Lib.hid (HF.out h0)
    clear h0
    go_wp2_with fail
    refine bodyPost_ret (results_tmp4 rfl _ _ _) rfl ?_
    obtain ⟨q1, q2, q3⟩ := HQ.out
    rw [q1, q2, q3]
    exact ⟨rfl, B3.out⟩
end Go.Proofs.Ytbdlmcpdplmdnaa.Pln
