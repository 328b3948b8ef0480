/-
  Contracts of the reference of layer 15 (region): how many places, the smallest rectangle.
-/
import Derived.Test.YtedlhfemmofbpaaRegRefD
import Derived.Test.YtedlhfemmofbpaaRetCell
namespace Go.Proofs.Ytedlhfemmofbpaa.Reg
open Go.ChangeShapes Go.WideShapes Go.ChangeAt Go.RowKit Lz RowG RegVal
set_option linter.unusedVariables false
set_option maxRecDepth 100000

theorem retI {k : IntKind} {a b : Int} (h : a = b) : Ending.returned (Value.int k a) = Ending.returned (.int k b) := by rw [h]
theorem areaL_take {l : List Rc} (h : ∀ r ∈ l, counts r = true) (k : Nat) : 0 ≤ areaL (l.take k) ∧ areaL (l.take k) ≤ areaL l := by
  have pos : ∀ m : List Rc, (∀ r ∈ m, counts r = true) → 0 ≤ areaL m := by
    intro m hm
    induction m with
    | nil => exact Int.le_refl _
    | cons r m ih =>
      have h1 := counts_iff.1 (hm r (by simp))
      have h2 := ih fun s hs => hm s (List.mem_cons_of_mem _ hs)
      have h3 : 0 ≤ r.w * r.h := Int.mul_nonneg (by omega) (by omega)
      show 0 ≤ r.w * r.h + areaL m
      omega
  have e : areaL l = areaL (l.take k) + areaL (l.drop k) := by rw [← areaL_append, List.take_append_drop]
  have h1 := pos (l.take k) fun r hr => h r (List.mem_of_mem_take hr)
  have h2 := pos (l.drop k) fun r hr => h r (List.mem_of_mem_drop hr)
  omega
theorem areaL_succ {l : List Rc} {k : Nat} {r : Rc} (h : l[k]? = some r) : areaL (l.take (k + 1)) = areaL (l.take k) + r.w * r.h := by
  obtain ⟨hk, rfl⟩ := List.getElem?_eq_some_iff.1 h
  rw [List.take_succ_eq_append_getElem hk, areaL_append]
  simp [areaL]
theorem area_bound {B : Bands} (H : IsB B) : areaL (flat B) ≤ 4398046511104 := by
  rw [area_many H]
  have h := many_box (S := hasB B) (x := -1048576) (y := -1048576) (w := 2097152) (h := 2097152) (by decide) (by decide) (fun u v hs => by
    rw [← hasL_flat H] at hs
    have := hasL_far hs
    omega)
  omega
theorem make_eq (a : List Rc) : flat (comb (fOp 0) a []) = make a := rfl
theorem bands_length (L : Bands) (M : Nat) (h : ∀ s ∈ L, s.v.length ≤ M) : (flat L).length ≤ L.length * M := by
  induction L with
  | nil => simp [flat]
  | cons s L ih =>
    have h1 := ih fun t ht => h t (List.mem_cons_of_mem _ ht)
    have h2 := h s (by simp)
    have e : (flat (s :: L)).length = s.v.length + (flat L).length := by simp [flat, flat1]
    rw [e, List.length_cons, Nat.succ_mul]
    omega
theorem comb_length (f : Bool → Bool → Bool) (a b : List Rc) : (flat (comb f a b)).length ≤ (2 * (a.length + b.length)) * (2 * (a.length + b.length)) := by
  have lx := bordX_length (a ++ b) []
  have ly := bordY_length (a ++ b) []
  rw [List.length_append, List.length_nil] at lx ly
  have h1 := bands_length (comb f a b) (bordX (a ++ b) []).length (bandK_vals (xs := bordY (a ++ b) []) (k := (bordY (a ++ b) []).length - 1) (rowG f a b (bordX (a ++ b) [])) (fun p : Row => p.length ≤ (bordX (a ++ b) []).length) fun i v _ hv => by
    unfold rowG at hv
    by_cases he : rowK f a b (bordX (a ++ b) []) (nth (bordY (a ++ b) []) i) = []
    · rw [if_pos he] at hv; cases hv
    · rw [if_neg he] at hv
      obtain rfl := Option.some.inj hv
      exact Nat.le_trans (bandK_length _ _ _) (by omega))
  have h2 : (comb f a b).length ≤ (bordY (a ++ b) []).length := Nat.le_trans (bandK_length _ _ _) (by omega)
  exact Nat.le_trans h1 (Nat.mul_le_mul (by omega) (by omega))
set_option maxHeartbeats 4000000 in
theorem refArea_any (a : List Rc) (va : Value) (w : World) (hn : a.length ≤ 10000) (ha : SeesR w va a) :
    Calls Try.prog 20 #[va] w fun e w' => e = .returned (.int .i64 (areaL (make a))) ∧ Below w.heap.size w w' := by
  have C := Lib.hid (refCombine_any 0 a [] va (.slice none 0 0) w (by simpa using hn) ha (SeesR.nil w))
  rw [make_eq] at C
  have hform : IsB (comb fOr a []) := comb_form rfl a []
  have AT : RowKit.Hid (∀ k, 0 ≤ areaL ((make a).take k) ∧ areaL ((make a).take k) ≤ 4398046511104) := Lib.hid (fun k => by
    have h1 := areaL_take (l := make a) (fun r hr => hform.counts r hr) k
    have h2 : areaL (make a) ≤ 4398046511104 := area_bound hform
    omega)
  have AS : RowKit.Hid (∀ k r, (make a)[k]? = some r → areaL ((make a).take (k + 1)) = areaL ((make a).take k) + r.w * r.h) := Lib.hid (fun k r hr => areaL_succ hr)
  have hlen : (make a).length ≤ 400000000 := by
    have h1 := comb_length fOr a []
    have h2 : (2 * (a.length + ([] : List Rc).length)) * (2 * (a.length + ([] : List Rc).length)) ≤ 20000 * 20000 := Nat.mul_le_mul (by simp; omega) (by simp; omega)
    exact Nat.le_trans h1 h2
  obtain ⟨aa, ca, rfl, _, _⟩ := ha
  generalize make a = L at *
  clear hform
  go_enter Try.func20, Try.ntmps20
  go_wp2_with fail
  refine C.out.mono ?_
  rintro r w1 ⟨u, rfl, h1, b1⟩
  obtain ⟨g, cap, rfl, _, hs⟩ := RectsAt.sees h1
  have HS := Lib.hid hs
  obtain ⟨n, hn'⟩ : ∃ n, L.length = n := ⟨_, rfl⟩
  have HN := Lib.hid hn'
  rw [hn'] at hlen ⊢
  have B1 := Lib.hid b1
  clear hs h1 b1 C hn'
  go_wp2_with fail
  go_loopw [3, 5] (fun s i wr => ∃ k : Nat, k ≤ n ∧ i = .int .i64 k ∧ s = .int .i64 (areaL (L.take k)) ∧ ∃ q, wr = w1.drewN q) (fun _ i _ => n - (intOf i).toNat)
  case atStart => exact ⟨0, Nat.zero_le _, rfl, rfl, 0, rfl⟩
  case round =>
    obtain ⟨k, hk, rfl, rfl, q, rfl⟩ := hrel
    by_cases hlt : k < n
    · obtain ⟨b, off, rfl, hb, hc⟩ := HS.out (by rw [HN.out]; omega)
      obtain ⟨r, hr⟩ : ∃ r, L[k]? = some r := ⟨L[k]'(by rw [HN.out]; exact hlt), List.getElem?_eq_getElem _⟩
      obtain ⟨c0, c1, c2, c3⟩ : RcAt (w1.drewN q) b (off + k * 4) r := by
        obtain ⟨hk', rfl⟩ := List.getElem?_eq_some_iff.1 hr
        exact hc k hk'
      obtain ⟨P, hP⟩ : ∃ P, r.w * r.h = P := ⟨_, rfl⟩
      have hS := AS.out k r hr
      obtain ⟨a1, a2⟩ := AT.out k
      obtain ⟨a3, a4⟩ := AT.out (k + 1)
      rw [hP] at hS
      obtain ⟨S1, hS1⟩ : ∃ S, areaL (L.take (k + 1)) = S := ⟨_, rfl⟩
      have ES := Lib.hid hS1
      rw [hS1] at hS a3 a4
      generalize areaL (L.take k) = S at *
      have wP : IntKind.i64.wrap P = P := IntWalk.i64_in _ (by omega)
      have wS : IntKind.i64.wrap (S + P) = S + P := IntWalk.i64_in _ (by omega)
      obtain ⟨wq, hwq⟩ : ∃ wq, w1.drewN q = wq := ⟨_, rfl⟩
      rw [hwq] at c0 c1 c2 c3 ⊢
      have HW := Lib.hid hwq
      have HSS := Lib.hid hS
      clear hc hr hS1 hwq hS
      go_wp2_with fail
      go_quiet (fail)
      go_wp2_with fail
      refine ⟨⟨k + 1, by omega, by go_num, by rw [ES.out, HSS.out], by rw [← HW.out]; exact ⟨_, drewN_two _ _ _⟩⟩, by simp [intOf]; omega⟩
    · obtain rfl : k = n := by omega
      have e : areaL (L.take k) = areaL L := by rw [List.take_of_length_le (by rw [HN.out]; exact Nat.le_refl _)]
      have HE := Lib.hid e
      clear e
      generalize areaL (L.take k) = S at *
      go_wp2_with fail
      go_ret
      exact ⟨retI HE.out, below_drewN B1.out q⟩
/-- Four cells of a block are written. -/
theorem setAt {w : World} {R i : Nat} {cs cs' : Array Value} {T : TypeId} {v : Value} (h : w.heap[R]? = some (.cells cs T (0, 0))) (e : cs.setIfInBounds i v = cs') : (w.setCell ⟨R, i, none⟩ v).heap[R]? = some (.cells cs' T (0, 0)) := by
  rw [heap_setCell_same _ R i _ _ v h, e]
def set4 (w : World) (g : Nat) (a b c d : Value) : World := (((w.setCell ⟨g, 0, none⟩ a).setCell ⟨g, 1, none⟩ b).setCell ⟨g, 2, none⟩ c).setCell ⟨g, 3, none⟩ d
theorem set4_own {w : World} {g : Nat} {z0 z1 z2 z3 : Value} {T : TypeId} (h : w.heap[g]? = some (.cells #[z0, z1, z2, z3] T (0, 0))) (a b c d : Value) : (set4 w g a b c d).heap[g]? = some (.cells #[a, b, c, d] T (0, 0)) :=
  setAt (i := 3) (v := d) (setAt (i := 2) (v := c) (setAt (i := 1) (v := b) (setAt (i := 0) (v := a) h rfl) rfl) rfl) rfl
theorem set4_other {w : World} {g j : Nat} (hj : j ≠ g) (a b c d : Value) : (set4 w g a b c d).heap[j]? = w.heap[j]? := by
  unfold set4
  rw [heap_setCell_other _ ⟨g, 3, none⟩ j d hj, heap_setCell_other _ ⟨g, 2, none⟩ j c hj, heap_setCell_other _ ⟨g, 1, none⟩ j b hj, heap_setCell_other _ ⟨g, 0, none⟩ j a hj]
theorem set4_cell {w : World} {g j o : Nat} (hj : j ≠ g) (a b c d : Value) : (set4 w g a b c d).cell? ⟨j, o, none⟩ = w.cell? ⟨j, o, none⟩ := by
  simp only [World.cell?, set4_other hj]
theorem set4_below {w w' : World} {n g : Nat} (h : Below n w w') (hg : n ≤ g) (a b c d : Value) : Below n w (set4 w' g a b c d) :=
  below_set (below_set (below_set (below_set h hg _ _) hg _ _) hg _ _) hg _ _
def bdV (xs ys px py : Value) (x y nx ny mx my X Y a b : Int) : Nat → Value
  | 0 => .int .i64 x
  | 1 => .int .i64 y
  | 2 => xs
  | 3 => xs
  | 4 => .int .i64 nx
  | 5 => .int .i64 mx
  | 6 => px
  | 7 => .int .i64 X
  | 8 => .int .i64 x
  | 9 => .int .i64 a
  | 10 => ys
  | 11 => ys
  | 12 => .int .i64 ny
  | 13 => .int .i64 my
  | 14 => py
  | 15 => .int .i64 Y
  | 16 => .int .i64 y
  | 17 => .int .i64 b
  | 18 => .agg #[.int .i64 x, .int .i64 y, .int .i64 a, .int .i64 b]
  | _ => undef
def bdS (Wd Wa : World) (ℓ : Nat → Bool) (W : World) : Prop := (ℓ 19 = false → W = Wd) ∧ (ℓ 19 = true → W = Wa)
theorem bdS_keep {Wd Wa W : World} {ℓ : Nat → Bool} {i : Nat} (h1 : i ≠ 19) (h : bdS Wd Wa ℓ W) : bdS Wd Wa (fun j => if j = i then true else ℓ j) W := by
  unfold bdS at h ⊢
  simp only [if_neg (Ne.symm h1)]
  exact h
set_option maxHeartbeats 4000000 in
theorem refBounds_any (a : List Rc) (va : Value) (w : World) (hn : a.length ≤ 10000) (ha : SeesR w va a) :
    Calls Try.prog 24 #[va] w fun e w' => e = .returned (boundsL a).v ∧ Below w.heap.size w w' := by
  have bel := (Below.refl w.heap.size w).alloc (Nat.le_refl _) (.cells #[.int .i64 0, .int .i64 0, .int .i64 0, .int .i64 0] 32)
  have hg0 := heap_alloc_new w (.cells #[.int .i64 0, .int .i64 0, .int .i64 0, .int .i64 0] 32)
  have hz := alloc_size w (.cells #[.int .i64 0, .int .i64 0, .int .i64 0, .int .i64 0] 32)
  have C := Lib.hid (refBorders_any a va (w.alloc (.cells #[.int .i64 0, .int .i64 0, .int .i64 0, .int .i64 0] 32)) (by omega) (ha.below ((Below.refl _ _).alloc (Nat.le_refl _) _)))
  have BO := borders a []
  rw [List.append_nil] at BO
  have BN := bord_nil (a := a)
  have BL : RowKit.Hid (boundsL a = if bordX a [] = [] then ⟨0, 0, 0, 0⟩ else ⟨nth (bordX a []) 0, nth (bordY a []) 0, nth (bordX a []) ((bordX a []).length - 1) - nth (bordX a []) 0, nth (bordY a []) ((bordY a []).length - 1) - nth (bordY a []) 0⟩) := Lib.hid rfl
  have hxy : bordX a [] = [] ↔ bordY a [] = [] := BN.1.trans BN.2.symm
  have lx := bordX_length a []
  have ly := bordY_length a []
  simp only [List.length_nil] at lx ly
  obtain ⟨aa, ca, rfl, _, _⟩ := ha
  generalize boundsL a = BB at *
  generalize bordX a [] = xs at *
  generalize bordY a [] = ys at *
  clear BN
  go_enter Try.func24, Try.ntmps24
  go_wp2_with fail
  generalize w.alloc (.cells #[.int .i64 0, .int .i64 0, .int .i64 0, .int .i64 0] 32) = w0 at *
  refine C.out.mono ?_
  rintro r w1 ⟨u1, u2, rfl, hx, hy, b1⟩
  have hg1 : w1.heap[w.heap.size]? = some (.cells #[.int .i64 0, .int .i64 0, .int .i64 0, .int .i64 0] 32 (0, 0)) := (b1.block _ (by omega)).trans hg0
  have hB := bel.trans (b1.mono bel.size)
  have hbx := hx.2.1
  have hby := hy.2.1
  obtain ⟨ax, cx, rfl, hxc⟩ := hx.cells
  obtain ⟨ay, cy, rfl, hyc⟩ := hy.cells
  obtain ⟨nx, hnx⟩ : ∃ n, xs.length = n := ⟨_, rfl⟩
  obtain ⟨ny, hny⟩ : ∃ n, ys.length = n := ⟨_, rfl⟩
  have s0 := cell_of_row w1 w.heap.size 0 _ _ _ hg1
  have s1 := cell_of_row w1 w.heap.size 1 _ _ _ hg1
  have s2 := cell_of_row w1 w.heap.size 2 _ _ _ hg1
  have s3 := cell_of_row w1 w.heap.size 3 _ _ _ hg1
  simp at s0 s1 s2 s3
  have fz : ∀ i, w1.frozen? ⟨w.heap.size, i, none⟩ = false := fun i => frozen_of_row w1 w.heap.size i _ _ hg1
  rw [hnx] at hxc hbx ⊢
  rw [hny] at hyc hby ⊢
  have HG1 := Lib.hid hg1
  have HB := Lib.hid hB
  clear hg1 hg0 b1 C hB bel hx hy
  by_cases h0 : nx = 0
  · subst h0
    have hB0 : BB = ⟨0, 0, 0, 0⟩ := by rw [BL.out, if_pos (List.length_eq_zero_iff.1 hnx)]
    subst hB0
    clear hxc hyc hbx hby
    go_wp2_with fail
    refine bodyPost_ret (Ret.ret_cell rfl _ _ w.heap.size 32 _ (0, 0) _ rfl (set4_own HG1.out _ _ _ _) Try.underlying32 rfl (by kernel_rfl)) rfl ⟨rfl, set4_below HB.out (Nat.le_refl _) _ _ _ _⟩
  · have hny0 : ny ≠ 0 := fun e => h0 (by
      rw [← hnx]
      exact List.length_eq_zero_iff.2 (hxy.2 (List.length_eq_zero_iff.1 (by rw [hny, e]))))
    have hBB : BB = ⟨nth xs 0, nth ys 0, nth xs (nx - 1) - nth xs 0, nth ys (ny - 1) - nth ys 0⟩ := by
      rw [BL.out, if_neg (fun e => h0 (by rw [← hnx, e]; rfl)), hnx, hny]
    obtain ⟨mx, rfl⟩ : ∃ m, nx = m + 1 := ⟨nx - 1, by omega⟩
    obtain ⟨my, rfl⟩ : ∃ m, ny = m + 1 := ⟨ny - 1, by omega⟩
    rw [Nat.add_sub_cancel, Nat.add_sub_cancel] at hBB
    obtain ⟨gx, rfl, hgx, cx'⟩ := hxc (by omega)
    obtain ⟨gy, rfl, hgy, cy'⟩ := hyc (by omega)
    have hgx0 := hbx gx rfl
    have hgy0 := hby gy rfl
    have x0 := cx' 0 _ (nth_get (by omega))
    have x1 := cx' mx _ (nth_get (by omega))
    have y0 := cy' 0 _ (nth_get (by omega))
    have y1 := cy' my _ (nth_get (by omega))
    have nX0 := BO.nx _ (nth_mem (l := xs) (i := 0) (by omega))
    have nX1 := BO.nx _ (nth_mem (l := xs) (i := mx) (by omega))
    have nY0 := BO.ny _ (nth_mem (l := ys) (i := 0) (by omega))
    have nY1 := BO.ny _ (nth_mem (l := ys) (i := my) (by omega))
    generalize nth xs 0 = X0 at *
    generalize nth xs mx = X1 at *
    generalize nth ys 0 = Y0 at *
    generalize nth ys my = Y1 at *
    subst hBB
    have HX0 := Lib.hid x0
    have wX : IntKind.i64.wrap (X1 - X0) = X1 - X0 := IntWalk.i64_in _ (by omega)
    have wY : IntKind.i64.wrap (Y1 - Y0) = Y1 - Y0 := IntWalk.i64_in _ (by omega)
    have hxg : gx ≠ w.heap.size := by omega
    have hyg : gy ≠ w.heap.size := by omega
    have dmx : ((mx : Int) + 1 == 0) = false := by rw [beq_eq_false_iff_ne]; omega
    have wmx : IntKind.i64.wrap (mx : Int) = mx := IntWalk.i64_in _ (by omega)
    have wmy : IntKind.i64.wrap (my : Int) = my := IntWalk.i64_in _ (by omega)
    have mmx : (mx : Int) < (mx : Int) + 1 := by omega
    have mmy : (my : Int) < (my : Int) + 1 := by omega
    clear hxc hyc hbx hby cx' cy' h0 hny0 hxy BO BL
    go_wp2_with fail
    have HCE : RowKit.Hid (∀ ℓ W9, bdS w1.drew (set4 w1.drew w.heap.size (.int .i64 X0) (.int .i64 Y0) (.int .i64 (X1 - X0)) (.int .i64 (Y1 - Y0))) ℓ W9 → W9.cell? ⟨gx, mx, none⟩ = some (.int .i64 X1) ∧ W9.cell? ⟨gy, my, none⟩ = some (.int .i64 Y1)) := Lib.hid (fun ℓ W9 hS => by
      cases h : ℓ 19 with
      | false =>
        obtain rfl := hS.1 h
        exact ⟨x1, y1⟩
      | true =>
        obtain rfl := hS.2 h
        exact ⟨(set4_cell hxg _ _ _ _).trans x1, (set4_cell hyg _ _ _ _).trans y1⟩)
    refine region_alls (by kernel_rfl) (bdV (.slice (some ⟨gx, 0, none⟩) (mx + 1) cx) (.slice (some ⟨gy, 0, none⟩) (my + 1) cy) (.pointer (some ⟨gx, mx, none⟩)) (.pointer (some ⟨gy, my, none⟩)) X0 Y0 ((mx : Nat) + 1) ((my : Nat) + 1) (mx : Nat) (my : Nat) X1 Y1 (X1 - X0) (Y1 - Y0)) (bdS w1.drew (set4 w1.drew w.heap.size (.int .i64 X0) (.int .i64 Y0) (.int .i64 (X1 - X0)) (.int .i64 (Y1 - Y0)))) [2, 3, 4, 5, 6] [none, none, none, none, none, none, none, none, none, none, none, none, none, none, none, none, none, none, none, none, none, none, some 0, some 1, some 2, some 3, some 4, some 5, some 6, some 7, some 8, some 9, some 10, some 11, some 12, some 13, some 14, some 15, some 16, some 17, some 18] (by kernel_rfl) (by kernel_rfl) (by rfl) (by kernel_rfl) (by kernel_rfl) (by kernel_rfl) ⟨fun _ => rfl, fun h => by cases h⟩ ⟨?_, ?_, ?_, ?_, ?_, ?_, ?_, ?_, ?_, ?_, ?_, ?_, ?_, ?_, ?_, ?_, ?_, ?_, ?_, ?_, trivial⟩ ?_
    case refine_21 =>
      intro ℓ W3 hl hS
      obtain rfl := hS.2 (hl 19 (by decide))
      clear hS hl
      simp only [zipF, bdV]
      go_wp2_with fail
      refine bodyPost_ret (Ret.ret_cell rfl _ _ w.heap.size 32 _ (0, 0) _ rfl (set4_own (show w1.drew.heap[w.heap.size]? = _ from HG1.out) _ _ _ _) Try.underlying32 rfl (by kernel_rfl)) rfl ⟨rfl, set4_below HB.out.drew (Nat.le_refl _) _ _ _ _⟩
    case refine_20 =>
      intro ℓ act W9 hl hS hw hr hd
      clear hw
      obtain rfl := hS.1 hl
      simp [readFacts, depFacts, dstOf, Region.binds, bdV] at hr hd
      refine ⟨wanted_none (by rfl), fun K hK => ?_⟩
      go_simp
      exact hK _ ⟨fun h => by simp at h, fun _ => rfl⟩
    all_goals
      intro ℓ act W9 hl hS hw hr hd
      obtain ⟨q0, q1⟩ := HCE.out ℓ W9 hS
      clear hw
      simp [readFacts, depFacts, dstOf, Region.binds, bdV] at hr hd
      refine ⟨wanted_none (by rfl), fun K hK => ?_⟩
      go_simp
      exact hK _ (bdS_keep (by decide) hS)
end Go.Proofs.Ytedlhfemmofbpaa.Reg
