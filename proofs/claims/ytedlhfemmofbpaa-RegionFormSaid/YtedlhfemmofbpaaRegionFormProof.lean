/-
  The statement RegionForm of layer 15 (region) holds of the program as it stands: what Make makes is in the one form, made again it is the same, in whatever order and however often the rectangles come, and it has as many places.
-/
import Derived.Test.YtedlhfemmofbpaaRows
import Derived.Test.YtedlhfemmofbpaaRegProg
import Derived.Test.YtedlhfemmofbpaaRegForm
import Derived.Deep.DeepCutAuto
import Derived.WalkKit
import Derived.ProofKit
import Derived.OpenShut
import Derived.ShutString
import Derived.ChangeOld
import Derived.Below
import Derived.Lib.SmallJoins
import Derived.Deep.Slices
namespace Go.Proofs.Ytedlhfemmofbpaa.regionForm
open Go.Proofs.Ytedlhfemmofbpaa.Reg
open Lz RowG RegVal
open Go.ChangeShapes Go.WideShapes Go.ChangeAt Go.RowKit
open Go.ChangeMaps (open_string shut_string)
set_option linter.unusedVariables false

theorem own : ownKnob Try.prog.godebug = none := by kernel_rfl
theorem laidOut : laidOutB Try.prog = true := by kernel_rfl

set_option linter.unusedSimpArgs false
theorem rect_cells (w : World) (r : Rc) (T : TypeId) : Below w.heap.size w (w.alloc (.cells #[.int .i64 r.x, .int .i64 r.y, .int .i64 r.w, .int .i64 r.h] T)) ∧ RcAt (w.alloc (.cells #[.int .i64 r.x, .int .i64 r.y, .int .i64 r.w, .int .i64 r.h] T)) w.heap.size 0 r := by
  have hb := heap_alloc_new w (.cells #[.int .i64 r.x, .int .i64 r.y, .int .i64 r.w, .int .i64 r.h] T)
  exact ⟨(Below.refl _ w).alloc (Nat.le_refl _) _, by simp only [World.cell?, hb]; rfl, by simp only [World.cell?, hb]; rfl, by simp only [World.cell?, hb]; rfl, by simp only [World.cell?, hb]; rfl⟩
theorem rect_below {w w' : World} {p n : Nat} {r : Rc} (h : RcAt w p 0 r) (k : Below n w w') (hp : p < n) : RcAt w' p 0 r :=
  ⟨(k.cell (p := ⟨p, 0, none⟩) hp).trans h.1, (k.cell (p := ⟨p, 1, none⟩) hp).trans h.2.1, (k.cell (p := ⟨p, 2, none⟩) hp).trans h.2.2.1, (k.cell (p := ⟨p, 3, none⟩) hp).trans h.2.2.2⟩
/-- 'append' of two rectangles that were just made, as one operation of a region in open order. -/
theorem wp_rect2 {w0 : World} {o : Oper} {a : Act} {K : Act → World → Prop} {Q : Exit → Act → World → Prop} (s x : Operand)
    (ho : o.op = .call { callee := .builtin .append, args := #[s, x], argTypes := #[22, 22] })
    (v : Value) (B n : Nat) (l : List Rc) (hs : a.eval s = v) (hown : RowAt 32 4 B w0 v n (cellsR l)) (hB : B ≤ w0.heap.size) (hl : n ≤ 1000000000) (r t : Rc) (T : TypeId) (hx : a.eval x = .slice (some ⟨w0.heap.size, 0, none⟩) 2 2)
    (h : ∀ v' w', RectsAt B w' v' (l ++ [r, t]) → Below B w0 w' → K (a.put o.dst v') w') : o.wp Try.prog a (w0.alloc (.cells #[.int .i64 r.x, .int .i64 r.y, .int .i64 r.w, .int .i64 r.h, .int .i64 t.x, .int .i64 t.y, .int .i64 t.w, .int .i64 t.h] T)) K Q := by
  obtain ⟨i0, hi, hz0, hz1, hz2⟩ := info_parts info_rect
  have hsee := sees_new w0 4 #[.int .i64 r.x, .int .i64 r.y, .int .i64 r.w, .int .i64 r.h, .int .i64 t.x, .int .i64 t.y, .int .i64 t.w, .int .i64 t.h] T 2 rfl (cellsR_one [r, t])
  rcases hsee.2.2 with ⟨h1, _⟩ | ⟨g, off, cap, h1, _, hc⟩
  · simp at h1
  · simp only [Value.slice.injEq, Option.some.injEq, Addr.mk.injEq, and_true, true_and] at h1
    obtain ⟨⟨rfl, rfl⟩, rfl⟩ := h1
    refine wp_append_near s x 22 ho 32 i0 _ 4 32 Try.underlying22 hi hz0 hz1 hz2 rfl (by decide) v n (cellsR l) hs (hown.alloc _).1 ⟨w0.heap.size, 0, none⟩ 2 2 (cellsR [r, t]) hx rfl (fun j u hj => by rw [Go.WideShapes.add_plain]; exact hc j u hj) (cellsR_one [r, t]) (by unfold maxLen; omega) (by omega) ?_
    intro v' w' h1 h2 h3
    refine h v' w' ⟨?_, fun k hk => ?_, cellsR_one _⟩ (((Below.refl B w0).alloc hB _).trans (grown_below h2 hown.2.1 (by simp; omega)))
    · have e : n = l.length := by have := hown.1.1; rw [cellsR_length] at this; omega
      rw [List.length_append, cellsR_append, ← e]
      exact h1
    · rcases h3 k hk with h4 | h4
      · exact hown.2.1 k h4
      · have e : (w0.alloc (.cells #[.int .i64 r.x, .int .i64 r.y, .int .i64 r.w, .int .i64 r.h, .int .i64 t.x, .int .i64 t.y, .int .i64 t.w, .int .i64 t.h] T)).heap.size = w0.heap.size + 1 := alloc_size _ _
        omega
def fmV (vo va p sl : Value) (k : Int) (r : Rc) : Nat → Option Value
  | 0 => some vo
  | 1 => some va
  | 2 => some (.int .i64 k)
  | 3 => some p
  | 4 => some (.agg #[.int .i64 r.x, .int .i64 r.y, .int .i64 r.w, .int .i64 r.h])
  | 5 => some va
  | 6 => some (.int .i64 k)
  | 7 => some p
  | 8 => some (.agg #[.int .i64 r.x, .int .i64 r.y, .int .i64 r.w, .int .i64 r.h])
  | 9 => some sl
  | _ => none
def fmR (B : Nat) (R1 : List Rc) (i : Nat) (v : Value) (w : World) : Prop := if i = 10 ∨ i = 11 then RectsAt B w v R1 else True
theorem fmR_no {B : Nat} {R1 : List Rc} {ℓ : Nat → Bool} {j : Nat} {u : Value} {w : World} (h1 : ℓ 10 = false) (h2 : ℓ 11 = false) (hj : ℓ j = true) : fmR B R1 j u w := by
  unfold fmR
  rw [if_neg]
  · trivial
  · rintro (rfl | rfl)
    · rw [h1] at hj; cases hj
    · rw [h2] at hj; cases hj
def fmS (B : Nat) (Wd Wa : World) (ℓ : Nat → Bool) (W : World) : Prop :=
  Below B Wd W ∧ (ℓ 9 = false → W = Wd ∧ ℓ 10 = false ∧ ℓ 11 = false) ∧ (ℓ 9 = true → ℓ 10 = false → W = Wa ∧ ℓ 11 = false)
theorem fmS_keep {B : Nat} {Wd Wa W : World} {ℓ : Nat → Bool} {i : Nat} (h1 : i ≠ 9) (h2 : i ≠ 10) (h3 : i ≠ 11) (h : fmS B Wd Wa ℓ W) : fmS B Wd Wa (fun j => if j = i then true else ℓ j) W := by
  unfold fmS at h ⊢
  simp only [if_neg (Ne.symm h1), if_neg (Ne.symm h2), if_neg (Ne.symm h3)]
  exact h
theorem fmS_9 {B : Nat} {Wd Wa W : World} {ℓ : Nat → Bool} {i : Nat} (hi : i = 9) (hb : Below B Wd W) (hW : W = Wa) (h28 : ℓ 11 = false) : fmS B Wd Wa (fun j => if j = i then true else ℓ j) W := by
  subst hi
  refine ⟨hb, fun h => ?_, fun _ _ => ⟨hW, ?_⟩⟩
  · simp at h
  · simpa using h28
theorem fmS_10 {B : Nat} {Wd Wa W : World} {ℓ : Nat → Bool} {i : Nat} (hi : i = 10) (hb : Below B Wd W) (h26 : ℓ 9 = true) : fmS B Wd Wa (fun j => if j = i then true else ℓ j) W := by
  subst hi
  refine ⟨hb, fun h => ?_, fun _ h => ?_⟩
  · simp [h26] at h
  · simp at h
theorem fmS_11 {B : Nat} {Wd Wa W : World} {ℓ : Nat → Bool} {i : Nat} (hi : i = 11) (h : fmS B Wd Wa ℓ W) (h27 : ℓ 10 = true) : fmS B Wd Wa (fun j => if j = i then true else ℓ j) W := by
  subst hi
  refine ⟨h.1, fun h' => ?_, fun _ h' => ?_⟩
  · have h26 : ℓ 9 = false := by simpa using h'
    have := (h.2.1 h26).2.1
    rw [h27] at this
    cases this
  · simp [h27] at h'
set_option maxRecDepth 100000 in
set_option maxHeartbeats 16000000 in
theorem walk (D : Says) (a : Option Addr) (n cap : Nat) (l : List Rc) (W : World) (w0 : RcArg W a n cap l) :
    Calls Try.prog 6 #[.slice a n cap] W fun e w' => e = .returned (.bool true) ∧ Below W.heap.size W w' := by
  have hl := w0.1
  have SA := Lib.hid w0.sees
  have WLl : RowKit.Hid (∀ r ∈ l, r.wf) := Lib.hid w0.2.2.2.1
  have IR := Lib.hid w0.2.2.1
  have hn := w0.2.1
  unfold maxLen at hn
  clear w0
  by_cases hg : 12 < n
  · have hg' : decide ((12 : Int) < n) = true := decide_eq_true (by omega)
    go_enter Try.func6, Try.ntmps6
    go_wp2_with fail
    refine (works_any D _).mono ?_
    rintro r w1 ⟨rfl, b1⟩
    go_wp2_with fail
    all_goals (go_ret; exact ⟨rfl, b1⟩)
  have hg' : decide ((12 : Int) < n) = false := decide_eq_false (by omega)
  have L1 : l.length ≤ 12 := by omega
  have V0 := Lib.hid (works_any D)
  have V1 := Lib.hid (fun v w => D.make l v w (by omega) WLl.out)
  have hsm := make_small l 12 L1
  have V2 := fun v w => D.make (make l) v w (by omega) (make_wf l)
  rw [make_make] at V2
  have V2 := Lib.hid V2
  have V3 := fun v w => D.make (twice l 0) v w (by rw [twice_length]; omega) (twice_wf WLl.out 0)
  rw [twice_make] at V3
  have V3 := Lib.hid V3
  have V4 := Lib.hid (fun v w => D.area l v w (by omega) WLl.out)
  have SM := Lib.hid (fun va vb w => refSame_yes (make l) va vb w (make_fits l (by omega)))
  have hform : IsB (comb fOr l []) := comb_form rfl l []
  have TK : RowKit.Hid (∀ k : Nat, 0 ≤ areaL ((make l).take k) ∧ areaL ((make l).take k) ≤ 4398046511104) := Lib.hid (fun k => by
    have h1 := areaL_take (l := make l) (fun r hr => hform.counts r hr) k
    have h2 : areaL (make l) ≤ 4398046511104 := area_bound hform
    omega)
  have AS : RowKit.Hid (∀ (k : Nat) (r : Rc), (make l)[k]? = some r → areaL ((make l).take (k + 1)) = areaL ((make l).take k) + r.w * r.h) := Lib.hid (fun k r hr => areaL_succ hr)
  have MC : RowKit.Hid (∀ (k : Nat) (r : Rc), (make l)[k]? = some r → (-1048576 ≤ r.x ∧ 1 ≤ r.w ∧ r.x + r.w ≤ 1048576) ∧ (-1048576 ≤ r.y ∧ 1 ≤ r.h ∧ r.y + r.h ≤ 1048576)) := Lib.hid (fun k r h => make_counts h)
  have MN : RowKit.Hid (∀ (k : Nat) (s r : Rc), (make l)[k]? = some s → (make l)[k + 1]? = some r → Reg.ahead s r) := Lib.hid (fun k s r h1 h2 => make_next h1 h2)
  have TS : RowKit.Hid (∀ (k : Nat) (h : k < l.length), twice l k = twice l (k + 1) ++ [l[k], l[k]]) := Lib.hid (fun k h => twice_step h)
  have TN := Lib.hid (twice_none l)
  have TL := Lib.hid (twice_length l)
  clear D hg hform
  generalize make l = L at *
  obtain ⟨m, hm⟩ : ∃ m, L.length = m := ⟨_, rfl⟩
  rw [hm] at hsm
  have HM := Lib.hid hm
  clear hm
  go_enter Try.func6, Try.ntmps6
  go_wp2_with fail
  refine (V0.out _).mono ?_
  rintro r w1 ⟨rfl, b1⟩
  have SA1 := Lib.hid (SA.out.below b1)
  have B1 := Lib.hid b1
  clear b1 V0
  go_wp2_with fail
  refine (V1.out _ w1 SA1.out).mono ?_
  rintro r w2 ⟨u, rfl, s, b2⟩
  have SA2 := Lib.hid (SA1.out.below b2)
  have SL2 := Lib.hid s
  have B2 := Lib.hid (B1.out.trans (b2.mono B1.out.size))
  obtain ⟨pu, cu, rfl, _, hrs⟩ := s
  have HRS := Lib.hid hrs
  rw [HM.out]
  clear b2 V1 hrs SA1 B1
  go_wp2_with fail
  go_loopw [5, 6] (fun vn vi wz => ∃ k : Nat, k ≤ m ∧ vi = .int .i64 k ∧ vn = .int .i64 (areaL (L.take k)) ∧ Below w2.heap.size w2 wz) (fun _ vi _ => m - (intOf vi).toNat)
  case atStart => exact ⟨0, Nat.zero_le _, rfl, rfl, Below.refl _ _⟩
  case round =>
    obtain ⟨k, hk, rfl, rfl, hbz⟩ := hrel
    have BZ := Lib.hid hbz
    clear hbz
    by_cases hlt : k < m
    · have dk : decide ((k : Int) < m) = true := decide_eq_true (by omega)
      have dk2 : decide (k < m) = true := decide_eq_true hlt
      obtain ⟨b, off, rfl, hb, hc⟩ := HRS.out (by rw [HM.out]; omega)
      obtain ⟨r, hr⟩ : ∃ r, L[k]? = some r := ⟨L[k]'(by rw [HM.out]; exact hlt), List.getElem?_eq_getElem _⟩
      have hcell : RcAt w2 b (off + k * 4) r := by
        obtain ⟨hk', rfl⟩ := List.getElem?_eq_some_iff.1 hr
        exact hc k hk'
      obtain ⟨⟨m1, m2, m3⟩, m4, m5, m6⟩ := MC.out k r hr
      have has := AS.out k r hr
      have ht0 := TK.out k
      have ht1 := TK.out (k + 1)
      obtain ⟨A0, hA0⟩ : ∃ A0, areaL (L.take k) = A0 := ⟨_, rfl⟩
      obtain ⟨A1, hA1⟩ : ∃ A1, areaL (L.take (k + 1)) = A1 := ⟨_, rfl⟩
      rw [hA0, hA1] at has
      rw [hA0] at ht0 ⊢
      rw [hA1] at ht1
      have HA1 := Lib.hid hA1
      obtain ⟨wh, hwh⟩ : ∃ wh, r.w * r.h = wh := ⟨_, rfl⟩
      have hwb : 0 ≤ wh ∧ wh ≤ 4398046511104 := by
        rw [← hwh]
        exact ⟨Int.mul_nonneg (by omega) (by omega), Int.le_trans (Int.mul_le_mul (show r.w ≤ 2097152 by omega) (show r.h ≤ 2097152 by omega) (by omega) (by omega)) (by decide)⟩
      rw [hwh] at has
      have f1 : IntKind.i64.wrap (r.w * r.h) = wh := by rw [hwh]; exact IntWalk.i64_in _ (by omega)
      have f2 : wrap64 (r.w * r.h) = wh := by rw [hwh]; exact IntWalk.wrap64_in _ (by omega)
      have f3 : IntKind.i64.wrap (A0 + wh) = A1 := (IntWalk.i64_in _ (by omega)).trans has.symm
      have f4 : wrap64 (A0 + wh) = A1 := (IntWalk.wrap64_in _ (by omega)).trans has.symm
      have HF := Lib.hid (And.intro f1 (And.intro f2 (And.intro f3 f4)))
      have q1 : decide (r.w < 1) = false := decide_eq_false (by omega)
      have q2 : decide (r.h < 1) = false := decide_eq_false (by omega)
      have hcr : RcAt wr b (off + k * 4) r := by
        obtain ⟨g0, g1, g2, g3⟩ := hcell
        exact ⟨(BZ.out.cell (p := ⟨b, off + k * 4, none⟩) hb).trans g0, (BZ.out.cell (p := ⟨b, off + k * 4 + 1, none⟩) hb).trans g1, (BZ.out.cell (p := ⟨b, off + k * 4 + 2, none⟩) hb).trans g2, (BZ.out.cell (p := ⟨b, off + k * 4 + 3, none⟩) hb).trans g3⟩
      have j6 := rect_cells wr r 32
      obtain ⟨w6, hw6⟩ : ∃ w6, wr.alloc (.cells #[.int .i64 r.x, .int .i64 r.y, .int .i64 r.w, .int .i64 r.h] 32) = w6 := ⟨_, rfl⟩
      rw [hw6] at j6
      have B6 := Lib.hid (BZ.out.trans (j6.1.mono BZ.out.size))
      obtain ⟨q3, q4, q5, q6⟩ := hcr
      have HJ := Lib.hid j6
      obtain ⟨x0, x1, x2, x3⟩ := j6.2
      simp only [Nat.zero_add] at x1 x2 x3
      clear f1 f2 f3 f4 hA0 hA1 has ht0 ht1 hwh hwb hcell j6
      by_cases hk0 : k = 0
      case pos =>
        subst hk0
        have f1 := HF.out.1
        have f2 := HF.out.2.1
        have f3 := HF.out.2.2.1
        have f4 := HF.out.2.2.2
        simp only [Nat.zero_mul, Nat.add_zero] at q3 q4 q5 q6
        clear hc hr
        go_wp2_with fail
        exact ⟨⟨0 + 1, by omega, by go_num, by rw [HA1.out], B6.out⟩, by simp [intOf]; omega⟩
      case neg =>
        obtain ⟨j, rfl⟩ : ∃ j, k = j + 1 := ⟨k - 1, by omega⟩
        obtain ⟨s, hs⟩ : ∃ s, L[j]? = some s := ⟨L[j]'(by rw [HM.out]; omega), List.getElem?_eq_getElem _⟩
        have hcs : RcAt w2 b (off + j * 4) s := by
          obtain ⟨hk', rfl⟩ := List.getElem?_eq_some_iff.1 hs
          exact hc j hk'
        obtain ⟨⟨n1, n2, n3⟩, n4, n5, n6⟩ := MC.out j s hs
        have hah := MN.out j s r hs hr
        have hc6 : RcAt w6 b (off + j * 4) s := by
          obtain ⟨g0, g1, g2, g3⟩ := hcs
          exact ⟨(B6.out.cell (p := ⟨b, off + j * 4, none⟩) hb).trans g0, (B6.out.cell (p := ⟨b, off + j * 4 + 1, none⟩) hb).trans g1, (B6.out.cell (p := ⟨b, off + j * 4 + 2, none⟩) hb).trans g2, (B6.out.cell (p := ⟨b, off + j * 4 + 3, none⟩) hb).trans g3⟩
        have j7 := rect_cells w6 s 32
        obtain ⟨w7, hw7⟩ : ∃ w7, w6.alloc (.cells #[.int .i64 s.x, .int .i64 s.y, .int .i64 s.w, .int .i64 s.h] 32) = w7 := ⟨_, rfl⟩
        rw [hw7] at j7
        have hsz6 : wr.heap.size < w6.heap.size := by rw [← hw6]; simp
        have B7 := Lib.hid (B6.out.trans (j7.1.mono B6.out.size))
        obtain ⟨s3, s4, s5, s6⟩ := hc6
        obtain ⟨y0, y1, y2, y3⟩ := j7.2
        obtain ⟨z0, z1, z2, z3⟩ := rect_below HJ.out.2 j7.1 hsz6
        simp only [Nat.zero_add] at y1 y2 y3 z1 z2 z3
        have kj : ((j : Int) + 1 == 0) = false := by simp; omega
        have wj : IntKind.i64.wrap ((j : Int) + 1 - 1) = j := (IntWalk.i64_in _ (by omega)).trans (by omega)
        have wj2 : wrap64 ((j : Int) + 1 - 1) = j := (IntWalk.wrap64_in _ (by omega)).trans (by omega)
        obtain ⟨sx, hsx⟩ : ∃ sx, s.x + s.w = sx := ⟨_, rfl⟩
        obtain ⟨sy, hsy⟩ : ∃ sy, s.y + s.h = sy := ⟨_, rfl⟩
        have e1 : IntKind.i64.wrap (s.x + s.w) = sx := (IntWalk.i64_in _ (by omega)).trans hsx
        have e2 : wrap64 (s.x + s.w) = sx := (IntWalk.wrap64_in _ (by omega)).trans hsx
        have e3 : IntKind.i64.wrap (s.y + s.h) = sy := (IntWalk.i64_in _ (by omega)).trans hsy
        have e4 : wrap64 (s.y + s.h) = sy := (IntWalk.wrap64_in _ (by omega)).trans hsy
        have f1 := HF.out.1
        have f2 := HF.out.2.1
        have f3 := HF.out.2.2.1
        have f4 := HF.out.2.2.2
        unfold Reg.ahead at hah
        rw [hsx, hsy] at hah
        rcases hah with ⟨h1, h2, h3⟩ | h1
        · have t1 : (s.y == r.y) = true := by simpa using h1
          have t2 : (s.h == r.h) = true := by simpa using h2
          have t3 : decide (r.x ≤ sx) = false := decide_eq_false (by omega)
          have B8 := B7.out
          rw [← hw7, h1, h2] at B8
          have HB8 := Lib.hid B8
          clear B8
          clear hc hr hs hcs hsx hsy h3 j7
          go_wp2_with fail
          exact ⟨⟨j + 1 + 1, by omega, by go_num, by rw [HA1.out], HB8.out⟩, by simp [intOf]; omega⟩
        · have hne : ¬ (s.y = r.y) := by omega
          have t1 : (s.y == r.y) = false := by simpa using hne
          have t3 : decide (r.y < sy) = false := decide_eq_false (by omega)
          clear hc hr hs hcs hsx hsy h1 j7
          go_wp2_with fail
          exact ⟨⟨j + 1 + 1, by omega, by go_num, by rw [HA1.out], B7.out⟩, by simp [intOf]; omega⟩
    · obtain rfl : k = m := by omega
      have eL : L.take k = L := List.take_of_length_le (by rw [HM.out]; exact Nat.le_refl _)
      rw [eL]
      have SA3 := Lib.hid (SA2.out.below BZ.out)
      have SL3 := Lib.hid (SL2.out.below BZ.out)
      have B3 := Lib.hid (B2.out.trans (BZ.out.mono B2.out.size))
      have dk : decide ((k : Int) < k) = false := decide_eq_false (by omega)
      generalize areaL L = AR at *
      clear TK AS MC MN HRS SA2 SL2 eL
      have sl := SL3.out
      rw [HM.out] at sl
      have SLW := Lib.hid sl
      have wn : IntKind.i64.wrap ((n : Int) - 1) = (n : Int) - 1 := IntWalk.i64_in _ (by omega)
      have wn2 : wrap64 ((n : Int) - 1) = (n : Int) - 1 := IntWalk.wrap64_in _ (by omega)
      clear SL3 sl BZ
      generalize wr = w3 at *
      go_wp2_with fail
      clear wn wn2
      go_loopw [9, 10] (fun vo vi wz => ∃ (q : Nat) (i : Int), q ≤ n ∧ vi = .int .i64 i ∧ i = (q : Int) - 1 ∧ RectsAt w3.heap.size wz vo (twice l q) ∧ Below w3.heap.size w3 wz) (fun _ vi _ => (intOf vi + 1).toNat)
      case atStart => exact ⟨n, (n : Int) - 1, Nat.le_refl _, rfl, rfl, by rw [← hl, TN.out]; exact RowAt.nil _ _ _ _, Below.refl _ _⟩
      case round =>
        obtain ⟨q, i, hq, rfl, hi, hO, hbz⟩ := hrel
        by_cases hq0 : 0 < q
        · obtain ⟨p, rfl⟩ : ∃ p, q = p + 1 := ⟨q - 1, by omega⟩
          obtain rfl : i = (p : Int) := by omega
          have i0 : decide ((0 : Int) ≤ p) = true := decide_eq_true (by omega)
          have i1 : (p : Int) < n := by omega
          have pl : p < l.length := by omega
          obtain ⟨b, off, rfl, hb, hc⟩ := IR.out (by omega)
          have hcell : RcAt W b (off + p * 4) (l[p]'pl) := hc p pl
          have HR1 := Lib.hid (TS.out p pl)
          obtain ⟨r, hr⟩ : ∃ r, l[p]'pl = r := ⟨_, rfl⟩
          rw [hr] at hcell HR1
          obtain ⟨vn, cn, rfl⟩ := RowAt.shape hO
          have hol : (twice l (p + 1)).length ≤ 10000 := by rw [TL.out]; omega
          have ER1 : RowKit.Hid (∀ W v, RectsAt w3.heap.size W v (twice l (p + 1) ++ [r, r]) → RectsAt w3.heap.size W v (twice l p)) := Lib.hid (fun W v h => by rw [HR1.out]; exact h)
          generalize twice l (p + 1) = R at *
          have HBd : RowKit.Hid (RowAt 32 4 w3.heap.size wr.drew (.slice vn R.length cn) R.length (cellsR R)) := Lib.hid hO
          have HZ := Lib.hid hbz
          have hqs : w3.heap.size ≤ wr.drew.heap.size := hbz.size
          have CELL : RowKit.Hid (∀ W', Below w3.heap.size wr.drew W' → RcAt W' b (off + p * 4) r) := Lib.hid (fun W' h => by
            have k := B3.out.trans ((HZ.out.drew.trans h).mono B3.out.size)
            obtain ⟨g0, g1, g2, g3⟩ := hcell
            exact ⟨(k.cell (p := ⟨b, off + p * 4, none⟩) hb).trans g0, (k.cell (p := ⟨b, off + p * 4 + 1, none⟩) hb).trans g1, (k.cell (p := ⟨b, off + p * 4 + 2, none⟩) hb).trans g2, (k.cell (p := ⟨b, off + p * 4 + 3, none⟩) hb).trans g3⟩)
          have wp1 : IntKind.i64.wrap ((p : Int) - 1) = (p : Int) - 1 := IntWalk.i64_in _ (by omega)
          have wp2 : wrap64 ((p : Int) - 1) = (p : Int) - 1 := IntWalk.wrap64_in _ (by omega)
          clear hc hcell hr hO hbz HR1 hi hq0
          go_wp2_with fail
          refine region_preds (by kernel_rfl) (fmV (.slice vn R.length cn) (.slice (some ⟨b, off, none⟩) n cap) (.pointer (some ⟨b, off + p * 4, none⟩)) (.slice (some ⟨wr.drew.heap.size, 0, none⟩) 2 2) p r) (fmR w3.heap.size (R ++ [r, r])) (fmS w3.heap.size wr.drew (wr.drew.alloc (.cells #[.int .i64 r.x, .int .i64 r.y, .int .i64 r.w, .int .i64 r.h, .int .i64 r.x, .int .i64 r.y, .int .i64 r.w, .int .i64 r.h] 32))) [0, 10] [none, none, none, none, none, none, none, none, none, some 11, none, none, none, none, none, none, none, none, none, none, none, none, none, none, none, none, none, none, none, none, none, none, none, none, none, none, none, none, none, none, none, none, none, none, none, none, none, none, none, none, none, none, none, none, none, none, none, none, none, none, none, none, none, none, none, none, none, none, none, none, none, none, none, none, none, none, none, none, none, none, none, none, none, none, none, none, none, none, none, none, none, none, none, none, none, none, none, none, none, none, some 0, some 1, some 2, some 3, some 4, some 5, some 6, some 7, some 8, some 9, some 10, none, none, none, none, none, none, none, none, none, none, none, none, none, none, none, none, none, none, none, none, none] (by kernel_rfl) (by kernel_rfl) (by rfl) (by kernel_rfl) (by kernel_rfl) (by kernel_rfl) ⟨Below.refl _ _, fun _ => ⟨rfl, rfl, rfl⟩, fun h => by cases h⟩ ⟨?_, ?_, ?_, ?_, ?_, ?_, ?_, ?_, ?_, ?_, ?_, ?_, trivial⟩ ?_
          case refine_13 =>
            intro vs ℓ W3 hl3 hS hR
            have hq : fmR w3.heap.size (R ++ [r, r]) 11 (vs 11) W3 := hR 11 9 (by rfl) rfl
            have HQ : RowKit.Hid (RectsAt w3.heap.size W3 (vs 11) (R ++ [r, r])) := Lib.hid (by unfold fmR at hq; rw [if_pos (.inr rfl)] at hq; exact hq)
            have HZ3 := Lib.hid (HZ.out.drew.trans hS.1)
            clear hR hS hl3 hq
            simp only [zipF, fmV, Option.getD_some, Option.getD_none]
            generalize vs 11 = nb at *
            generalize vs 10 = nb2 at *
            go_wp2_with fail
            exact ⟨⟨p, (p : Int) - 1, by omega, rfl, rfl, ER1.out _ _ HQ.out, HZ3.out⟩, by simp [intOf]⟩
          case refine_1 =>
            intro ℓ act W9 hl hS hw hx hr hd
            have e8 : act.tmps[9]? = some (.slice vn R.length cn) := hx 9 11 (by rfl) (by kernel_rfl)
            clear hw hx hr hd
            refine ⟨wanted_none (by rfl), fun K hK => ?_⟩
            go_simp
            exact hK _ _ rfl (fmS_keep (by decide) (by decide) (by decide) hS) (fun _ _ _ _ h => h)
          case refine_10 =>
            intro ℓ act W9 hl hS hw hx hr hd
            clear hw hx
            obtain ⟨rfl, h27, h28⟩ := hS.2.1 hl
            simp [readFacts, depFactsP, dstOf, Region.binds, fmV] at hr hd
            refine ⟨wanted_none (by rfl), fun K hK => ?_⟩
            go_simp
            exact hK _ _ rfl (fmS_9 (by decide) ((Below.refl _ _).alloc hqs _) rfl h28) (fun j u _ hj h => fmR_no h27 h28 hj)
          case refine_11 =>
            intro ℓ act W9 hl hS hw hx hr hd
            have h26 : ℓ 9 = true := hw ⟨9, .data⟩ (by simp) (by rfl)
            clear hw hx
            obtain ⟨rfl, h28⟩ := hS.2.2 h26 hl
            simp [readFacts, depFactsP, dstOf, Region.binds, fmV] at hr hd
            refine ⟨wanted_none (by rfl), fun K hK => ?_⟩
            obtain ⟨e32, e58⟩ := hd
            refine wp_rect2 (.tmp 100) (.tmp 109) rfl (.slice vn R.length cn) w3.heap.size R.length R (eval_tmp e32) HBd.out hqs (by omega) r r 32 (eval_tmp e58) ?_
            intro v' w' h1 h2
            exact hK _ _ (show fmR w3.heap.size (R ++ [r, r]) 10 v' w' from by unfold fmR; rw [if_pos (.inl rfl)]; exact h1) (fmS_10 (by decide) h2 h26) (fun j u _ hj h => fmR_no hl h28 hj)
          case refine_12 =>
            intro ℓ act W9 hl hS hw hx hr hd
            have h27 : ℓ 10 = true := hw ⟨10, .data⟩ (by simp) (by rfl)
            clear hw hx
            simp [readFacts, depFactsP, dstOf, Region.binds, fmV, fmR] at hr hd
            refine ⟨wanted_none (by rfl), fun K hK => ?_⟩
            obtain ⟨⟨v, e59, y59⟩, hd2⟩ := hd
            clear hd2
            go_simp
            exact hK _ _ (show fmR w3.heap.size (R ++ [r, r]) 11 v W9 from by unfold fmR; rw [if_pos (.inr rfl)]; exact y59) (fmS_11 (by decide) hS h27) (fun _ _ _ _ h => h)
          all_goals
            intro ℓ act W9 hl hS hw hx hr hd
            clear hw hx
            simp [readFacts, depFactsP, dstOf, Region.binds, fmV] at hr hd
            refine ⟨wanted_none (by rfl), fun K hK => ?_⟩
            obtain ⟨q0, q1, q2, q3⟩ := CELL.out W9 hS.1
            go_simp
            exact hK _ _ rfl (fmS_keep (by decide) (by decide) (by decide) hS) (fun _ _ _ _ h => h)
        · obtain rfl : q = 0 := by omega
          obtain rfl : i = -1 := by omega
          have SLr := Lib.hid (SLW.out.below hbz)
          have SAr := Lib.hid (SA3.out.below hbz)
          have SBr := Lib.hid (RectsAt.sees hO)
          have Br := Lib.hid (B3.out.trans (hbz.mono B3.out.size))
          obtain ⟨vn, cn, rfl⟩ := RowAt.shape hO
          clear hO hbz SLW SA3 B3 hi hq hq0 IR TS TL TN
          have C1 := Lib.hid (V2.out _ wr SLr.out)
          clear V2
          go_wp2_with fail
          refine C1.out.mono ?_
          rintro _ w9 ⟨u9, rfl, s9, b9⟩
          have D1 := Lib.hid (SM.out _ _ w9 s9 (SLr.out.below b9))
          have SL9 := Lib.hid (SLr.out.below b9)
          have SA9 := Lib.hid (SAr.out.below b9)
          have SB9 := Lib.hid (SBr.out.below b9)
          have B9 := Lib.hid (Br.out.trans (b9.mono Br.out.size))
          obtain ⟨pa, ca, rfl, _⟩ := s9
          clear b9 C1 SLr SAr SBr Br
          go_wp2_with fail
          refine D1.out.mono ?_
          rintro _ wq ⟨rfl, z, rfl⟩
          have SL10 := Lib.hid (SL9.out.drewN z)
          have SA10 := Lib.hid (SA9.out.drewN z)
          have SB10 := Lib.hid (SB9.out.drewN z)
          have B10 := Lib.hid (below_drewN B9.out z)
          clear D1 SL9 SA9 SB9 B9
          generalize w9.drewN z = w10 at *
          have C2 := Lib.hid (V3.out _ w10 SB10.out)
          clear V3
          go_wp2_with fail
          refine C2.out.mono ?_
          rintro _ w11 ⟨u11, rfl, s11, b11⟩
          have D2 := Lib.hid (SM.out _ _ w11 s11 (SL10.out.below b11))
          have SA11 := Lib.hid (SA10.out.below b11)
          have B11 := Lib.hid (B10.out.trans (b11.mono B10.out.size))
          obtain ⟨pb, cb, rfl, _⟩ := s11
          clear b11 C2 SL10 SA10 SB10 B10 SM
          go_wp2_with fail
          refine D2.out.mono ?_
          rintro _ wq ⟨rfl, z, rfl⟩
          have SA12 := Lib.hid (SA11.out.drewN z)
          have B12 := Lib.hid (below_drewN B11.out z)
          clear D2 SA11 B11
          generalize w11.drewN z = w12 at *
          have C3 := Lib.hid (V4.out _ w12 SA12.out)
          clear V4
          go_wp2_with fail
          refine C3.out.mono ?_
          rintro _ w13 ⟨rfl, b13⟩
          have B13 := Lib.hid (B12.out.trans (b13.mono B12.out.size))
          clear b13 C3
          go_wp2_with fail
          go_ret
          exact ⟨rfl, B13.out⟩

set_option maxRecDepth 100000 in
theorem lifted (os : Os) (started : os.Started) (H : Type) (enc : TypeId × Value → H) :
    ReturnsInHanded {} Try.checked os 6 .any (Rows.regionFormSpec.pre6 enc Try.prog Try.f6 Rows.regionFormRow.domain false) (Rows.regionFormSpec.post enc Try.prog Try.f6 false true false false) := by
  refine returnsInHanded_of_change (C := Try.checked) own started (by kernel_rfl) Try.func6
    (ChangeSpec.witness6 (enc := enc) (C := Try.checked) false ⟨#[], #[.slice none 0 0], []⟩ 8 (by kernel_rfl) (by kernel_rfl) (by kernel_rfl) (by kernel_rfl)) ?_
  intro W base args ds gs before hval0 hW hcnd _
  have hval : ∀ (j : Nat) t v, Try.f6.params[j]? = some t → args[j]? = some v → Value.okWide Try.prog W .any base t v := hval0
  have hW' := hW
  obtain ⟨p, q, hA0, hV, rfl, hfz, hnd⟩ := hW
  have hA : DataW.TrodAll enc Try.prog W 0 (fun _ => true) true Try.f6.params.toList args.toList ds p := hA0
  rw [Try.params6] at hA hval
  obtain ⟨v0, vs0, d0, ds0, p0, q0, hargs, rfl, rfl, h0, r0⟩ := trodAll_cons hA
  obtain ⟨rfl, rfl, rfl⟩ := trodAll_nil r0
  obtain rfl : args = #[v0] := by cases args; simp_all
  obtain ⟨rfl, rfl⟩ := trodVars_none hV
  have k0 := h0
  have lt0 : ∀ x ∈ p0, x.block < W.heap.size := by obtain ⟨m, hm⟩ := k0; exact DataW.trod_lt m _ _ _ hm
  obtain ⟨a0, len0, cap0, rfl⟩ := okWide_slice Try.underlying22 (hval 0 22 v0 rfl rfl)
  obtain ⟨A0, w0⟩ := rects_see h0
  clear hA0 hval0
  refine (walk says a0 len0 cap0 A0 W w0).mono fun e W' ⟨he, bel⟩ => ?_
  subst he
  exact ⟨_, rfl, _, _, _, [], _, [], hW', trodAll_mk1 (shut_bool Try.underlying4 _), (trodAll_cons_mk (Below.trod laidOut (by kernel_rfl) (of_decide_eq_true (by kernel_rfl)) k0 bel lt0) trodAll_mk0), rfl, bel.frame _, fun h => by cases h⟩

theorem over : Rows.regionFormRow.holds Try.pinned (OpenSpec.ofChange Rows.regionFormSpec) :=
  OpenClaim.holds_of_wide 6 Try.f6 rfl rfl rfl rfl rfl rfl rfl ⟨rfl, rfl, rfl, rfl, rfl⟩ rfl rfl rfl rfl rfl (by kernel_rfl) Try.func6 (by kernel_rfl)
    (of_decide_eq_true (by kernel_rfl)) (by unfold Func.isWrapper; first | (rw [if_pos (by decide +kernel)]; kernel_rfl) | (rw [if_neg (by decide +kernel)]; exact ⟨rfl, rfl⟩))
    (fun os started H enc _ => lifted os started H enc)

theorem proved : Rows.RegionFormSaid := over
end Go.Proofs.Ytedlhfemmofbpaa.regionForm
