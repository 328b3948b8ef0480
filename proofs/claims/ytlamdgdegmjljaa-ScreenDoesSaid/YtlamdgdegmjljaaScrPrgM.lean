/-
  The program's Resize.
-/
import Derived.Test.YtlamdgdegmjljaaRegAct
import Derived.Test.YtlamdgdegmjljaaScrPrgL
namespace Go.Proofs.Ytlamdgdegmjljaa.Scr
open Go.ChangeShapes Go.WideShapes Go.ChangeAt Go.RowKit Lz RowG Reg RegAct
set_option linter.unusedVariables false
set_option maxRecDepth 100000

theorem meet_whole {W H X Y : Int} (hX : sideB X = true) (hY : sideB Y = true) (hw : 1 ≤ W ∧ W ≤ 4096) (hh : 1 ≤ H ∧ H ≤ 4096) : meetR ⟨0, 0, X, Y⟩ ⟨0, 0, W, H⟩ = ⟨0, 0, min X W, min Y H⟩ := by
  obtain ⟨⟨u1, u2⟩, ⟨v1, v2⟩, _⟩ := side_mul hX hY
  unfold meetR
  simp only [Int.max_self, Int.zero_add, Int.sub_zero]
  rw [if_neg (by omega)]
/-- What is kept of a screen, drawn on a black one. -/
theorem res_blit {W H X Y : Int} {l : List Int} (ok : ImOk W H l) (hX : sideB X = true) (hY : sideB Y = true) : blitL X ⟨0, 0, min X W, min Y H⟩ (partL W ⟨0, 0, min X W, min Y H⟩ l) (blackL X Y) = resL W H X Y l := by
  obtain ⟨⟨u1, u2⟩, ⟨v1, v2⟩, m1, m2⟩ := side_mul hX hY
  have hw := ok.w
  have hh := ok.h
  have hr : insB ⟨0, 0, min X W, min Y H⟩ W H = true := ins_iff.2 (by simp only; omega)
  have hlen : (blackL X Y).length = (X * Y).toNat := by unfold blackL; exact gen_length _ _
  unfold blitL resL
  rw [hlen]
  refine gen_congr (fun i hi => ?_)
  obtain ⟨p0, p1, p2, p3, p4⟩ := (ImOk.black hX hY).place (i := i) (by rw [hlen]; exact hi)
  unfold blitF resF
  by_cases hin : inB ⟨0, 0, min X W, min Y H⟩ (i % X) (i / X) = true
  · have hb := in_iff.1 hin
    simp only at hb
    have hp := part_at ok hr hin
    rw [if_pos hin, hp]
    unfold atI
    rw [if_pos (by omega)]
  · have hb : ¬ ((i : Int) % X < min X W ∧ (i : Int) / X < min Y H) := fun e => hin (in_iff.2 (by simp only; omega))
    rw [if_neg hin]
    unfold atI blackL
    rw [if_neg (by omega), px_gen hi]

theorem set3 {w : World} {R : Nat} {z0 z1 z2 : Value} {T : TypeId} (h : w.heap[R]? = some (.cells #[z0, z1, z2] T (0, 0))) (a b c : Value) :
    (((w.setCell ⟨R, 0, none⟩ a).setCell ⟨R, 1, none⟩ b).setCell ⟨R, 2, none⟩ c).heap[R]? = some (.cells #[a, b, c] T (0, 0)) := by
  have h0 := setAt (cs' := #[a, z1, z2]) (i := 0) (v := a) h rfl
  have h1 := setAt (cs' := #[a, b, z2]) (i := 1) (v := b) h0 rfl
  exact setAt (cs' := #[a, b, c]) (i := 2) (v := c) h1 rfl
/-- On the way to the rectangle that is kept. -/
structure RzS (w1 : World) (K : Rc) (ℓ : Nat → Bool) (a : Act) (w : World) : Prop where
  b : Below w1.heap.size w1 w
  p : ℓ 13 = true → ∃ p, a.tmps[9]? = some (.pointer (some ⟨p, 0, none⟩)) ∧ w1.heap.size ≤ p ∧ p < w.heap.size ∧ (ℓ 14 = false → w.heap[p]? = some (.cells #[.int .i64 0, .int .i64 0, .int .i64 0, .int .i64 0] 35 (0, 0))) ∧ (ℓ 14 = true → RAt w p K)
theorem put_other {a : Act} {t : Option Nat} {v : Value} (h : t ≠ some 9) : (a.put t v).tmps[9]? = a.tmps[9]? := by
  cases t with
  | none => rfl
  | some t =>
    have hne : t ≠ 9 := fun e => h (by rw [e])
    show (a.tmps.setIfInBounds t v)[9]? = _
    rw [Array.getElem?_setIfInBounds_ne hne]
theorem RzS.keep {w1 : World} {K : Rc} {ℓ : Nat → Bool} {a : Act} {w w' : World} (h : RzS w1 K ℓ a w) (i : Nat) (h1 : i ≠ 13) (h2 : i ≠ 14) (k : Below w.heap.size w w') (t : Option Nat) (ht : t ≠ some 9) (v : Value) : RzS w1 K (fun j => if j = i then true else ℓ j) (a.put t v) w' := by
  refine ⟨below_n h.b k, fun h13 => ?_⟩
  have h13 : ℓ 13 = true := by simpa [Ne.symm h1] using h13
  obtain ⟨p, e9, q1, q2, q3, q4⟩ := h.p h13
  refine ⟨p, (put_other ht).trans e9, q1, Nat.lt_of_lt_of_le q2 k.size, fun h14 => ?_, fun h14 => ?_⟩
  · rw [k.block p q2]
    exact q3 (by simpa [Ne.symm h2] using h14)
  · exact (q4 (by simpa [Ne.symm h2] using h14)).below k q2
theorem RzS.made {w1 : World} {K : Rc} {ℓ : Nat → Bool} {a : Act} {w : World} (h : RzS w1 K ℓ a w) (hz : 9 < a.tmps.size) (h14 : ℓ 14 = false) : RzS w1 K (fun j => if j = 13 then true else ℓ j) (a.put (some 9) (.pointer (some ⟨w.heap.size, 0, none⟩))) (w.alloc (.cells #[.int .i64 0, .int .i64 0, .int .i64 0, .int .i64 0] 35)) := by
  have k := (Below.refl w.heap.size w).alloc (Nat.le_refl _) (.cells #[.int .i64 0, .int .i64 0, .int .i64 0, .int .i64 0] 35)
  refine ⟨below_n h.b k, fun _ => ⟨w.heap.size, ?_, h.b.size, by rw [alloc_size]; omega, fun _ => heap_alloc_new w _, fun e => ?_⟩⟩
  · show (a.tmps.setIfInBounds 9 _)[9]? = _
    simp [hz]
  · simp [h14] at e
theorem rat_store {w : World} {p : Nat} (K : Rc) (h : w.heap[p]? = some (.cells #[.int .i64 0, .int .i64 0, .int .i64 0, .int .i64 0] 35 (0, 0))) : RAt ((((w.setCell ⟨p, 0, none⟩ (.int .i64 K.x)).setCell ⟨p, 1, none⟩ (.int .i64 K.y)).setCell ⟨p, 2, none⟩ (.int .i64 K.w)).setCell ⟨p, 3, none⟩ (.int .i64 K.h)) p K := by
  have h4 := store4 h (.int .i64 K.x) (.int .i64 K.y) (.int .i64 K.w) (.int .i64 K.h)
  have x0 := cell_of_row _ p 0 _ _ _ h4
  have x1 := cell_of_row _ p 1 _ _ _ h4
  have x2 := cell_of_row _ p 2 _ _ _ h4
  have x3 := cell_of_row _ p 3 _ _ _ h4
  exact ⟨by simpa using x0, by simpa using x1, by simpa using x2, by simpa using x3⟩
theorem RzS.stored {w1 : World} {K : Rc} {ℓ : Nat → Bool} {a : Act} {w : World} {p : Nat} {v : Value} (h : RzS w1 K ℓ a w) (h13 : ℓ 13 = true) (e9 : a.tmps[9]? = some (.pointer (some ⟨p, 0, none⟩))) (q1 : w1.heap.size ≤ p) (q2 : p < w.heap.size) (q3 : w.heap[p]? = some (.cells #[.int .i64 0, .int .i64 0, .int .i64 0, .int .i64 0] 35 (0, 0))) :
    RzS w1 K (fun j => if j = 14 then true else ℓ j) (a.put none v) ((((w.setCell ⟨p, 0, none⟩ (.int .i64 K.x)).setCell ⟨p, 1, none⟩ (.int .i64 K.y)).setCell ⟨p, 2, none⟩ (.int .i64 K.w)).setCell ⟨p, 3, none⟩ (.int .i64 K.h)) :=
  ⟨below_set (below_set (below_set (below_set h.b q1 _ _) q1 _ _) q1 _ _) q1 _ _, fun _ => ⟨p, e9, q1, by simpa using q2, fun e => by simp at e, fun _ => rat_store K q3⟩⟩
def rzU (b : Nat) (W H X Y kx ky kw kh : Int) (i : Nat) (v : Value) (_ : World) : Prop := match i with
  | 0 => v = .int .i64 X
  | 1 => v = .int .i64 Y
  | 2 => v = .agg #[.int .i64 0, .int .i64 0, .int .i64 X, .int .i64 Y]
  | 3 => v = .pointer (some ⟨b, 0, none⟩)
  | 4 => v = .pointer (some ⟨b, 0, none⟩)
  | 5 => v = .pointer (some ⟨b, 0, none⟩)
  | 6 => v = .int .i64 W
  | 7 => v = .pointer (some ⟨b, 0, none⟩)
  | 8 => v = .pointer (some ⟨b, 0, none⟩)
  | 9 => v = .pointer (some ⟨b, 1, none⟩)
  | 10 => v = .int .i64 H
  | 11 => v = .agg #[.int .i64 0, .int .i64 0, .int .i64 W, .int .i64 H]
  | 12 => v = .agg #[.int .i64 kx, .int .i64 ky, .int .i64 kw, .int .i64 kh]
  | _ => True
theorem resize_not {w : World} {b g : Nat} {W H : Int} {l : List Int} (h : ScrAt w b g W H l) (X Y : Int) (hs : (sideB X && sideB Y) = false) :
    Calls Try.prog 19 #[ptr b, .int .i64 X, .int .i64 Y] w fun e w' => e = .returned (.int .i64 1) ∧ Below w.heap.size w w' := by
  have C1 := Lib.hid (newN_any X Y w hs)
  unfold ptr
  clear h hs
  go_enter Try.func19, Try.ntmps19
  go_wp2_with fail
  refine C1.out.mono ?_
  rintro e w1 ⟨rfl, b1⟩
  have B1 := Lib.hid b1
  clear b1
  go_wp2_with fail
  go_ret
  exact ⟨rfl, B1.out⟩
set_option maxHeartbeats 8000000 in
theorem resize_in {w : World} {b g : Nat} {W H : Int} {l : List Int} (h : ScrAt w b g W H l) (X Y : Int) (hX : sideB X = true) (hY : sideB Y = true) :
    Calls Try.prog 19 #[ptr b, .int .i64 X, .int .i64 Y] w fun e w' => e = .returned (.int .i64 0) ∧ ∃ g', ScrAt w' b g' X Y (resL W H X Y l) ∧ w.heap.size ≤ g' ∧ Touch w w' [b] := by
  have C1 := Lib.hid (newY_any X Y w hX hY)
  have hMT := meet_whole hX hY h.ok.w h.ok.h
  obtain ⟨⟨u1, u2⟩, ⟨v1, v2⟩, m1, m2⟩ := side_mul hX hY
  have hw := h.ok.w
  have hh := h.ok.h
  have CM := fun V => meet_any ⟨0, 0, X, Y⟩ ⟨0, 0, W, H⟩ (by unfold small; simp only; omega) (by unfold small; simp only; omega) V
  rw [hMT] at CM
  have HRB := Lib.hid (res_blit h.ok hX hY)
  obtain ⟨K, hK⟩ : ∃ K : Rc, ⟨0, 0, min X W, min Y H⟩ = K := ⟨_, rfl⟩
  have hin : insB K W H = true := by rw [← hK]; exact ins_iff.2 (by simp only; omega)
  have hinX : insB K X Y = true := by rw [← hK]; exact ins_iff.2 (by simp only; omega)
  rw [hK] at CM HRB
  have hright : rightQ K (partL W K l) = true := right_part h.ok hin (decide_eq_true ⟨rfl, rfl⟩)
  have HH := Lib.hid h
  have HIN := Lib.hid hin
  have HINX := Lib.hid hinX
  have HRT := Lib.hid hright
  have HLT := Lib.hid h.lt
  have HSZ := Lib.hid (And.intro hX hY)
  generalize resL W H X Y l = L2 at *
  clear hMT u1 u2 v1 v2 m1 m2 hw hh hK hin hinX hright h hX hY
  obtain ⟨kx, ky, kw, kh⟩ := K
  unfold Rc.v at CM
  simp only at CM
  have CMT := Lib.hid CM
  clear CM
  unfold ptr at *
  go_enter Try.func19, Try.ntmps19
  go_wp2_with fail
  refine C1.out.mono ?_
  rintro e w1 ⟨b2, F2, rfl, ⟨g2, rfl, hl2⟩, hF2, bb1⟩
  have HL2 := Lib.hid hl2
  have HB1 := Lib.hid bb1
  have HF2 := Lib.hid hF2
  have HS1 := Lib.hid (HH.out.below bb1 (Nat.le_refl _))
  clear hl2 bb1 hF2 C1
  go_upto_region 4 with fail
  refine region_ops (n := 46) (by kernel_rfl) (rzU b W H X Y kx ky kw kh) (fun _ _ _ => True) (RzS w1 ⟨kx, ky, kw, kh⟩) (by kernel_rfl) (by kernel_rfl) (by rfl) (by kernel_rfl) ⟨(Below.refl _ _).drew, fun h => by cases h⟩ ⟨?_, ?_, ?_, ?_, ?_, ?_, ?_, ?_, ?_, ?_, ?_, ?_, ?_, ?_, ?_, trivial⟩ ?_
  · intro ℓ act V hl hr hd hz hS hsame hdeps
    have e1 : act.tmps[1]? = some (.int .i64 X) := hsame 1 (by kernel_rfl)
    have HZ := Lib.hid hz
    clear hsame hdeps hz hr hd
    refine ⟨wanted_none (by rfl), fun K hK => ?_⟩
    go_simp
    exact hK _ _ (by rfl) trivial (hS.keep 0 (by decide) (by decide) (Below.refl _ _) (some 22) (by decide) _) (fun _ _ _ h => h) (fun _ _ _ h => h)
  · intro ℓ act V hl hr hd hz hS hsame hdeps
    have e2 : act.tmps[2]? = some (.int .i64 Y) := hsame 2 (by kernel_rfl)
    have HZ := Lib.hid hz
    clear hsame hdeps hz hr hd
    refine ⟨wanted_none (by rfl), fun K hK => ?_⟩
    go_simp
    exact hK _ _ (by rfl) trivial (hS.keep 1 (by decide) (by decide) (Below.refl _ _) (some 23) (by decide) _) (fun _ _ _ h => h) (fun _ _ _ h => h)
  · intro ℓ act V hl hr hd hz hS hsame hdeps
    obtain ⟨x22, e22, y22⟩ := hdeps ⟨0, .data⟩ (by simp) (by rfl) (by rfl) 22 (by rfl)
    replace y22 : x22 = .int .i64 X := y22
    subst y22
    obtain ⟨x23, e23, y23⟩ := hdeps ⟨1, .data⟩ (by simp) (by rfl) (by rfl) 23 (by rfl)
    replace y23 : x23 = .int .i64 Y := y23
    subst y23
    have HZ := Lib.hid hz
    clear hsame hdeps hz hr hd
    refine ⟨wanted_none (by rfl), fun K hK => ?_⟩
    go_simp
    have CM := whole_any X Y V
    unfold Rc.v at CM
    simp only at CM
    refine CM.mono ?_
    rintro r V2 ⟨rfl, bb⟩
    exact hK _ _ (by rfl) trivial (hS.keep 2 (by decide) (by decide) bb (some 24) (by decide) _) (fun _ _ _ h => h) (fun _ _ _ h => h)
  · intro ℓ act V hl hr hd hz hS hsame hdeps
    have e0 : act.tmps[0]? = some (.pointer (some ⟨b, 0, none⟩)) := hsame 0 (by kernel_rfl)
    have HZ := Lib.hid hz
    clear hsame hdeps hz hr hd
    refine ⟨wanted_none (by rfl), fun K hK => ?_⟩
    go_simp
    exact hK _ _ (by rfl) trivial (hS.keep 3 (by decide) (by decide) (Below.refl _ _) (some 25) (by decide) _) (fun _ _ _ h => h) (fun _ _ _ h => h)
  · intro ℓ act V hl hr hd hz hS hsame hdeps
    obtain ⟨x25, e25, y25⟩ := hdeps ⟨3, .data⟩ (by simp) (by rfl) (by rfl) 25 (by rfl)
    replace y25 : x25 = .pointer (some ⟨b, 0, none⟩) := y25
    subst y25
    have HZ := Lib.hid hz
    clear hsame hdeps hz hr hd
    refine ⟨wanted_none (by rfl), fun K hK => ?_⟩
    obtain ⟨c0, c1, _⟩ := (HS1.out.below hS.b (Nat.le_refl _)).cells
    go_simp
    exact hK _ _ (by rfl) trivial (hS.keep 4 (by decide) (by decide) (Below.refl _ _) (some 26) (by decide) _) (fun _ _ _ h => h) (fun _ _ _ h => h)
  · intro ℓ act V hl hr hd hz hS hsame hdeps
    obtain ⟨x26, e26, y26⟩ := hdeps ⟨4, .data⟩ (by simp) (by rfl) (by rfl) 26 (by rfl)
    replace y26 : x26 = .pointer (some ⟨b, 0, none⟩) := y26
    subst y26
    have HZ := Lib.hid hz
    clear hsame hdeps hz hr hd
    refine ⟨wanted_none (by rfl), fun K hK => ?_⟩
    go_simp
    exact hK _ _ (by rfl) trivial (hS.keep 5 (by decide) (by decide) (Below.refl _ _) (some 27) (by decide) _) (fun _ _ _ h => h) (fun _ _ _ h => h)
  · intro ℓ act V hl hr hd hz hS hsame hdeps
    obtain ⟨x27, e27, y27⟩ := hdeps ⟨5, .data⟩ (by simp) (by rfl) (by rfl) 27 (by rfl)
    replace y27 : x27 = .pointer (some ⟨b, 0, none⟩) := y27
    subst y27
    have HZ := Lib.hid hz
    clear hsame hdeps hz hr hd
    refine ⟨wanted_none (by rfl), fun K hK => ?_⟩
    obtain ⟨c0, c1, _⟩ := (HS1.out.below hS.b (Nat.le_refl _)).cells
    go_simp
    exact hK _ _ (by rfl) trivial (hS.keep 6 (by decide) (by decide) (Below.refl _ _) (some 28) (by decide) _) (fun _ _ _ h => h) (fun _ _ _ h => h)
  · intro ℓ act V hl hr hd hz hS hsame hdeps
    have e0 : act.tmps[0]? = some (.pointer (some ⟨b, 0, none⟩)) := hsame 0 (by kernel_rfl)
    have HZ := Lib.hid hz
    clear hsame hdeps hz hr hd
    refine ⟨wanted_none (by rfl), fun K hK => ?_⟩
    go_simp
    exact hK _ _ (by rfl) trivial (hS.keep 7 (by decide) (by decide) (Below.refl _ _) (some 29) (by decide) _) (fun _ _ _ h => h) (fun _ _ _ h => h)
  · intro ℓ act V hl hr hd hz hS hsame hdeps
    obtain ⟨x29, e29, y29⟩ := hdeps ⟨7, .data⟩ (by simp) (by rfl) (by rfl) 29 (by rfl)
    replace y29 : x29 = .pointer (some ⟨b, 0, none⟩) := y29
    subst y29
    have HZ := Lib.hid hz
    clear hsame hdeps hz hr hd
    refine ⟨wanted_none (by rfl), fun K hK => ?_⟩
    obtain ⟨c0, c1, _⟩ := (HS1.out.below hS.b (Nat.le_refl _)).cells
    go_simp
    exact hK _ _ (by rfl) trivial (hS.keep 8 (by decide) (by decide) (Below.refl _ _) (some 30) (by decide) _) (fun _ _ _ h => h) (fun _ _ _ h => h)
  · intro ℓ act V hl hr hd hz hS hsame hdeps
    obtain ⟨x30, e30, y30⟩ := hdeps ⟨8, .data⟩ (by simp) (by rfl) (by rfl) 30 (by rfl)
    replace y30 : x30 = .pointer (some ⟨b, 0, none⟩) := y30
    subst y30
    have HZ := Lib.hid hz
    clear hsame hdeps hz hr hd
    refine ⟨wanted_none (by rfl), fun K hK => ?_⟩
    go_simp
    exact hK _ _ (by rfl) trivial (hS.keep 9 (by decide) (by decide) (Below.refl _ _) (some 31) (by decide) _) (fun _ _ _ h => h) (fun _ _ _ h => h)
  · intro ℓ act V hl hr hd hz hS hsame hdeps
    obtain ⟨x31, e31, y31⟩ := hdeps ⟨9, .data⟩ (by simp) (by rfl) (by rfl) 31 (by rfl)
    replace y31 : x31 = .pointer (some ⟨b, 1, none⟩) := y31
    subst y31
    have HZ := Lib.hid hz
    clear hsame hdeps hz hr hd
    refine ⟨wanted_none (by rfl), fun K hK => ?_⟩
    obtain ⟨c0, c1, _⟩ := (HS1.out.below hS.b (Nat.le_refl _)).cells
    go_simp
    exact hK _ _ (by rfl) trivial (hS.keep 10 (by decide) (by decide) (Below.refl _ _) (some 32) (by decide) _) (fun _ _ _ h => h) (fun _ _ _ h => h)
  · intro ℓ act V hl hr hd hz hS hsame hdeps
    obtain ⟨x28, e28, y28⟩ := hdeps ⟨6, .data⟩ (by simp) (by rfl) (by rfl) 28 (by rfl)
    replace y28 : x28 = .int .i64 W := y28
    subst y28
    obtain ⟨x32, e32, y32⟩ := hdeps ⟨10, .data⟩ (by simp) (by rfl) (by rfl) 32 (by rfl)
    replace y32 : x32 = .int .i64 H := y32
    subst y32
    have HZ := Lib.hid hz
    clear hsame hdeps hz hr hd
    refine ⟨wanted_none (by rfl), fun K hK => ?_⟩
    go_simp
    have CM := whole_any W H V
    unfold Rc.v at CM
    simp only at CM
    refine CM.mono ?_
    rintro r V2 ⟨rfl, bb⟩
    exact hK _ _ (by rfl) trivial (hS.keep 11 (by decide) (by decide) bb (some 33) (by decide) _) (fun _ _ _ h => h) (fun _ _ _ h => h)
  · intro ℓ act V hl hr hd hz hS hsame hdeps
    obtain ⟨x24, e24, y24⟩ := hdeps ⟨2, .data⟩ (by simp) (by rfl) (by rfl) 24 (by rfl)
    replace y24 : x24 = .agg #[.int .i64 0, .int .i64 0, .int .i64 X, .int .i64 Y] := y24
    subst y24
    obtain ⟨x33, e33, y33⟩ := hdeps ⟨11, .data⟩ (by simp) (by rfl) (by rfl) 33 (by rfl)
    replace y33 : x33 = .agg #[.int .i64 0, .int .i64 0, .int .i64 W, .int .i64 H] := y33
    subst y33
    have HZ := Lib.hid hz
    clear hsame hdeps hz hr hd
    refine ⟨wanted_none (by rfl), fun K hK => ?_⟩
    go_simp
    have CM := CMT.out V
    refine CM.mono ?_
    rintro r V2 ⟨rfl, bb⟩
    exact hK _ _ (by rfl) trivial (hS.keep 12 (by decide) (by decide) bb (some 34) (by decide) _) (fun _ _ _ h => h) (fun _ _ _ h => h)
  · intro ℓ act V hl hr hd hz hS hsame hdeps
    have h14 : ℓ 14 = false := hr 14 (by kernel_rfl)
    have hz9 : 9 < act.tmps.size := Nat.lt_of_lt_of_eq (by decide : 9 < 46) (hz.trans (rfl : _ = 46)).symm
    have HZ := Lib.hid hz
    clear hsame hdeps hz hr hd
    refine ⟨wanted_none (by rfl), fun K hK => ?_⟩
    go_simp
    exact hK _ _ trivial trivial (hS.made hz9 h14) (fun _ _ _ h => h) (fun _ _ _ h => h)
  · intro ℓ act V hl hr hd hz hS hsame hdeps
    obtain ⟨x34, e34, y34⟩ := hdeps ⟨12, .data⟩ (by simp) (by rfl) (by rfl) 34 (by rfl)
    replace y34 : x34 = .agg #[.int .i64 kx, .int .i64 ky, .int .i64 kw, .int .i64 kh] := y34
    subst y34
    have h13 : ℓ 13 = true := hd 13 (by kernel_rfl)
    obtain ⟨p, e9, q1, q2, q3, _⟩ := hS.p h13
    have q3 := q3 hl
    have HZ := Lib.hid hz
    clear hsame hdeps hz hr hd
    refine ⟨wanted_none (by rfl), fun K hK => ?_⟩
    have x0 := cell_of_row V p 0 _ _ _ q3
    have x1 := cell_of_row V p 1 _ _ _ q3
    have x2 := cell_of_row V p 2 _ _ _ q3
    have x3 := cell_of_row V p 3 _ _ _ q3
    have fz : ∀ i, V.frozen? ⟨p, i, none⟩ = false := fun i => frozen_of_row V p i _ _ q3
    simp at x0 x1 x2 x3
    go_simp
    exact hK undef _ trivial trivial (hS.stored (v := undef) h13 e9 q1 q2 q3) (fun _ _ _ h => h) (fun _ _ _ h => h)
  · rintro ⟨tm, df⟩ V hd hz hsame hdone ⟨ℓ, hall, hS⟩
    obtain rfl : df = [] := hd
    obtain ⟨p, e9, q1, q2, _, q4⟩ := hS.p (hall 13 (by decide))
    have RK := Lib.hid (q4 (hall 14 (by decide)))
    have HBV := Lib.hid hS.b
    have HP := Lib.hid (And.intro q1 q2)
    clear hdone hall hS q1 q2 q4
    have hz : tm.size = 46 := hz
    have q9 := getD_same (show tm[9]? = _ from e9)
    have q0 := getD_same (show tm[0]? = _ from hsame 0 (by kernel_rfl))
    have q1 := getD_same (show tm[1]? = _ from hsame 1 (by kernel_rfl))
    have q2 := getD_same (show tm[2]? = _ from hsame 2 (by kernel_rfl))
    have q3 := getD_same (show tm[3]? = _ from hsame 3 (by kernel_rfl))
    have q4 := getD_same (show tm[4]? = _ from hsame 4 (by kernel_rfl))
    have q5 := getD_same (show tm[5]? = _ from hsame 5 (by kernel_rfl))
    have q6 := getD_same (show tm[6]? = _ from hsame 6 (by kernel_rfl))
    have q7 := getD_same (show tm[7]? = _ from hsame 7 (by kernel_rfl))
    have q8 := getD_same (show tm[8]? = _ from hsame 8 (by kernel_rfl))
    have q10 := getD_same (show tm[10]? = _ from hsame 10 (by kernel_rfl))
    have q11 := getD_same (show tm[11]? = _ from hsame 11 (by kernel_rfl))
    have q12 := getD_same (show tm[12]? = _ from hsame 12 (by kernel_rfl))
    have q13 := getD_same (show tm[13]? = _ from hsame 13 (by kernel_rfl))
    have q14 := getD_same (show tm[14]? = _ from hsame 14 (by kernel_rfl))
    have q15 := getD_same (show tm[15]? = _ from hsame 15 (by kernel_rfl))
    have q16 := getD_same (show tm[16]? = _ from hsame 16 (by kernel_rfl))
    have q17 := getD_same (show tm[17]? = _ from hsame 17 (by kernel_rfl))
    have q18 := getD_same (show tm[18]? = _ from hsame 18 (by kernel_rfl))
    have q19 := getD_same (show tm[19]? = _ from hsame 19 (by kernel_rfl))
    have q20 := getD_same (show tm[20]? = _ from hsame 20 (by kernel_rfl))
    have q21 := getD_same (show tm[21]? = _ from hsame 21 (by kernel_rfl))
    have q35 := getD_same (show tm[35]? = _ from hsame 35 (by kernel_rfl))
    have q36 := getD_same (show tm[36]? = _ from hsame 36 (by kernel_rfl))
    have q37 := getD_same (show tm[37]? = _ from hsame 37 (by kernel_rfl))
    have q38 := getD_same (show tm[38]? = _ from hsame 38 (by kernel_rfl))
    have q39 := getD_same (show tm[39]? = _ from hsame 39 (by kernel_rfl))
    have q40 := getD_same (show tm[40]? = _ from hsame 40 (by kernel_rfl))
    have q41 := getD_same (show tm[41]? = _ from hsame 41 (by kernel_rfl))
    have q42 := getD_same (show tm[42]? = _ from hsame 42 (by kernel_rfl))
    have q43 := getD_same (show tm[43]? = _ from hsame 43 (by kernel_rfl))
    have q44 := getD_same (show tm[44]? = _ from hsame 44 (by kernel_rfl))
    have q45 := getD_same (show tm[45]? = _ from hsame 45 (by kernel_rfl))
    clear hsame e9
    rw [arr_all tm 46 hz, show List.range 46 = [0, 1, 2, 3, 4, 5, 6, 7, 8, 9, 10, 11, 12, 13, 14, 15, 16, 17, 18, 19, 20, 21, 22, 23, 24, 25, 26, 27, 28, 29, 30, 31, 32, 33, 34, 35, 36, 37, 38, 39, 40, 41, 42, 43, 44, 45] from rfl]
    simp only [List.map_cons, List.map_nil, List.getElem_toArray, List.getElem_cons_zero, List.getElem_cons_succ, q9, q0, q1, q2, q3, q4, q5, q6, q7, q8, q10, q11, q12, q13, q14, q15, q16, q17, q18, q19, q20, q21, q35, q36, q37, q38, q39, q40, q41, q42, q43, q44, q45]
    clear q9 q0 q1 q2 q3 q4 q5 q6 q7 q8 q10 q11 q12 q13 q14 q15 q16 q17 q18 q19 q20 q21 q35 q36 q37 q38 q39 q40 q41 q42 q43 q44 q45 hz
    generalize tm.getD 22 undef = z22
    generalize tm.getD 23 undef = z23
    generalize tm.getD 24 undef = z24
    generalize tm.getD 25 undef = z25
    generalize tm.getD 26 undef = z26
    generalize tm.getD 27 undef = z27
    generalize tm.getD 28 undef = z28
    generalize tm.getD 29 undef = z29
    generalize tm.getD 30 undef = z30
    generalize tm.getD 31 undef = z31
    generalize tm.getD 32 undef = z32
    generalize tm.getD 33 undef = z33
    generalize tm.getD 34 undef = z34
    have S3 := Lib.hid (HS1.out.below HBV.out (Nat.le_refl _))
    have N3 := Lib.hid (HL2.out.below HBV.out (Nat.le_refl _))
    have KT := Lib.hid (fun W0 (k : Below V.heap.size V W0) => (take_any (S3.out.below k (Nat.le_refl _)) ⟨kx, ky, kw, kh⟩ HIN.out).mono (fun e w' hh => (by
      obtain ⟨u, rfl, hu, hbl⟩ := hh
      have k' := below_n k hbl
      refine ⟨u, rfl, RK.out.below k' HP.out.2, k', Lib.hid (taken (N3.out.below k' (Nat.le_refl _)) hu (by have := N3.out.lt; have := k.size; omega) ⟨kx, ky, kw, kh⟩ HINX.out HRT.out)⟩ :
      ∃ u, e = .returned u ∧ RAt w' p ⟨kx, ky, kw, kh⟩ ∧ Below V.heap.size V w' ∧ Hid (Calls Try.prog 42 #[ptr b2, Rc.v ⟨kx, ky, kw, kh⟩, u] w' fun e w2 => e = .returned (.tuple #[]) ∧ ScrAt w2 b2 g2 X Y (blitL X ⟨kx, ky, kw, kh⟩ (partL W ⟨kx, ky, kw, kh⟩ l) (blackL X Y)) ∧ Touch w' w2 [g2]))))
    rw [HRB.out] at KT
    unfold Rc.v ptr at KT
    simp only at KT
    have T5 := Lib.hid (KT.out V.drew (Below.refl _ _).drew)
    obtain ⟨r0, r1, r2, r3⟩ := RK.out
    simp only at r0 r1 r2 r3
    clear KT HRB HIN HINX HRT CMT
    go_wp2_with fail
    go_region_with (first
      | (refine T5.out.mono ?_; rintro e w6 ⟨u, rfl, ⟨x0, x1, x2, x3⟩, b6, D6⟩; have B6 := Lib.hid b6; clear b6)
      | (refine D6.out.mono ?_; rintro e w7 ⟨rfl, s7, t7⟩; have S7 := Lib.hid s7; have T7 := Lib.hid t7; clear s7 t7))
    all_goals
      clear r0 r1 r2 r3 x0 x1 x2 x3 T5 D6
      have HNE : RowKit.Hid (b ≠ b2 ∧ b ≠ g2 ∧ w.heap.size ≤ b2 ∧ w.heap.size ≤ g2) := Lib.hid (by
        have h1 := HF2.out b2 (by simp)
        have h2 := HF2.out g2 (by simp)
        have := HLT.out
        omega)
      obtain ⟨c0, c1, c2⟩ := S7.out.cells
      have hs7 : w7.heap[b]? = some (.cells #[.int .i64 W, .int .i64 H, .slice (some ⟨g, 0, none⟩) l.length l.length] 66 (0, 0)) := by
        rw [T7.out.block b (by have := B6.out.size; have := S3.out.lt; omega) (by simpa using HNE.out.2.1), B6.out.block b (by have := S3.out.lt; omega)]
        exact S3.out.head
      have HS7 := Lib.hid hs7
      have d0 := cell_of_row w7 b 0 _ _ _ hs7
      have d1 := cell_of_row w7 b 1 _ _ _ hs7
      have d2 := cell_of_row w7 b 2 _ _ _ hs7
      have fz : ∀ i, w7.frozen? ⟨b, i, none⟩ = false := fun i => frozen_of_row w7 b i _ _ hs7
      simp at d0 d1 d2
      obtain ⟨M, hM⟩ : ∃ M, L2.length = M := ⟨_, rfl⟩
      rw [hM] at c2
      have HM := Lib.hid hM
      clear hs7 hM
      go_wp2_with fail
      go_ret
      have hh := set3 HS7.out (.int .i64 X) (.int .i64 Y) (.slice (some ⟨g2, 0, none⟩) M M)
      have hbw : Touch w w7 [] := ⟨T7.out.os.trans (B6.out.os.trans (HBV.out.os.trans HB1.out.os)), T7.out.tape.trans (B6.out.tape.trans (HBV.out.tape.trans HB1.out.tape)), T7.out.output.trans (B6.out.output.trans (HBV.out.output.trans HB1.out.output)), Nat.le_trans HB1.out.size (Nat.le_trans HBV.out.size (Nat.le_trans B6.out.size T7.out.size)), fun k hk _ => by
        have h1 := HB1.out.size
        have h2 := HBV.out.size
        have h3 := B6.out.size
        have h4 := HNE.out
        rw [T7.out.block k (by omega) (by simp; omega), B6.out.block k (by omega), HBV.out.block k (by omega), HB1.out.block k hk]⟩
      refine ⟨rfl, g2, ⟨S7.out.ok, HNE.out.2.1, by rw [HM.out]; exact hh, ?_⟩, HNE.out.2.2.2, ?_⟩
      · rw [heap_setCell_other _ _ _ _ (by simpa using Ne.symm HNE.out.2.1), heap_setCell_other _ _ _ _ (by simpa using Ne.symm HNE.out.2.1), heap_setCell_other _ _ _ _ (by simpa using Ne.symm HNE.out.2.1)]
        exact S7.out.row
      · refine ⟨hbw.os, hbw.tape, hbw.output, by simpa using hbw.size, fun k hk hm => ?_⟩
        have hkb : k ≠ b := by simpa using hm
        rw [heap_setCell_other _ _ _ _ (by simpa using hkb), heap_setCell_other _ _ _ _ (by simpa using hkb), heap_setCell_other _ _ _ _ (by simpa using hkb)]
        exact hbw.block k hk (by simp)
theorem resize_any {w : World} {b : Nat} {W H : Int} {l : List Int} {F : List Nat} (h : lies w b W H l F) (X Y : Int) : Calls Try.prog 19 #[ptr b, .int .i64 X, .int .i64 Y] w (Drew lies w b (resW X Y W) (resH X Y H) (resS W H X Y l) F (resE X Y)) := by
  obtain ⟨g, rfl, h⟩ := h
  unfold resW resH resS resE
  cases hs : (sideB X && sideB Y) with
  | false => exact (resize_not h X Y hs).mono fun e w' ⟨he, hb⟩ => ⟨he, drew_same h hb⟩
  | true =>
    simp only [Bool.and_eq_true] at hs
    refine (resize_in h X Y hs.1 hs.2).mono fun e w' ⟨he, g', h1, h2, h3⟩ => ⟨he, [b, g'], ⟨g', rfl, h1⟩, h3.more (fun k hk => by simp at hk; simp [hk]), fun k hk => ?_⟩
    simp only [List.mem_cons, List.mem_nil_iff, or_false] at hk
    rcases hk with rfl | rfl
    · exact .inl (by simp)
    · exact .inr h2
end Go.Proofs.Ytlamdgdegmjljaa.Scr
