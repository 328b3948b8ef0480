/-
  Contracts of the reference of layer 13 (format): the format of bytes.
-/
import Derived.Test.YtkpmmfbheghocaaFmtRefB
import Derived.Test.YtkpmmfbheghocaaOctRefCur
import Derived.Test.YtkpmmfbheghocaaRetCell
namespace Go.Proofs.Ytkpmmfbheghocaa.Fmt
open Go.ChangeShapes Go.WideShapes Go.ChangeAt Go.RowKit RegVal Oct
set_option linter.unusedVariables false
set_option maxRecDepth 100000

def Fm.std : Fm := ⟨32, 24, false, true, 255, 255, 255, 16, 8, 0⟩
theorem refStandard_any (w : World) :
    Calls Try.prog 16 #[] w fun e w' => e = .returned Fm.std.v ∧ Below w.heap.size w w' := by
  have bel := (Below.refl w.heap.size w).alloc (Nat.le_refl _) (.cells #[.int .i64 32, .int .i64 24, .bool false, .bool true, .int .i64 255, .int .i64 255, .int .i64 255, .int .i64 16, .int .i64 8, .int .i64 0] 23)
  go_enter Try.func16, Try.ntmps16
  go_wp2_with fail
  refine bodyPost_ret (Ret.ret_cell rfl _ _ w.heap.size 23 _ (0, 0) _ rfl (heap_alloc_new _ _) Try.underlying23 rfl (by kernel_rfl)) rfl ⟨rfl, bel⟩
/-- A byte of a text as a number. -/
def byA (t : ByteArray) (i : Nat) : Int := ((t.data.toList.getD i 0).toNat : Nat)
def two (t : ByteArray) (i : Nat) : Int := byA t i * 256 + byA t (i + 1)
/-- The format of sixteen bytes. -/
def fmtX (x y : Nat → Int) : Fm := ⟨x 0, x 1, x 2 != 0, x 3 != 0, y 4, y 6, y 8, x 10, x 11, x 12⟩
def fmtOf (t : ByteArray) : Fm := fmtX (byA t) (two t)
theorem byA_bd (t : ByteArray) (i : Nat) : 0 ≤ byA t i ∧ byA t i < 256 := by
  unfold byA
  have := (t.data.toList.getD i 0).toNat_lt
  omega
theorem wf_small {n : Int} (h0 : 0 ≤ n) (h1 : n < 65536) : (Lit.int .i64 n).wf = true := by
  simp only [Lit.wf, IntKind.min, IntKind.max, IntKind.signed, IntKind.bits, Bool.and_eq_true, decide_eq_true_eq, if_true]
  omega
theorem fmtOf_wf (t : ByteArray) : (fmtOf t).Wf := by
  have h := byA_bd t
  have h2 : ∀ i, 0 ≤ two t i ∧ two t i < 65536 := fun i => by
    have := h i
    have := h (i + 1)
    unfold two
    omega
  exact ⟨wf_small (h 0).1 (by have := h 0; show byA t 0 < _; omega), wf_small (h 1).1 (by have := h 1; show byA t 1 < _; omega), wf_small (h2 4).1 (h2 4).2, wf_small (h2 6).1 (h2 6).2, wf_small (h2 8).1 (h2 8).2, wf_small (h 10).1 (by have := h 10; show byA t 10 < _; omega), wf_small (h 11).1 (by have := h 11; show byA t 11 < _; omega), wf_small (h 12).1 (by have := h 12; show byA t 12 < _; omega)⟩
theorem two_val (t : ByteArray) (i : Nat) (h : i + 2 ≤ t.size) : valL (t.extract i (i + 2)).data.toList.reverse = two t i := by
  have e : (t.extract i (i + 2)).data.toList = [t.data.toList.getD i 0, t.data.toList.getD (i + 1) 0] := by
    have hl : t.data.toList.length = t.size := by simp
    have e1 : (t.extract i (i + 2)).data.toList = (t.data.toList.drop i).take 2 := by simp [ByteArray.data_extract]
    rw [e1]
    apply List.ext_getElem?
    intro k
    rw [List.getElem?_take]
    by_cases h0 : k = 0
    · subst h0
      rw [if_pos (by omega), List.getElem?_drop, List.getElem?_eq_getElem (show i + 0 < t.data.toList.length by omega), List.getD_eq_getElem?_getD, List.getElem?_eq_getElem (show i < t.data.toList.length by omega)]
      rfl
    by_cases h1 : k = 1
    · subst h1
      rw [if_pos (by omega), List.getElem?_drop, List.getElem?_eq_getElem (show i + 1 < t.data.toList.length by omega), List.getD_eq_getElem?_getD, List.getD_eq_getElem?_getD, List.getElem?_eq_getElem (show i + 1 < t.data.toList.length by omega)]
      rfl
    · rw [if_neg (by omega), List.getElem?_eq_none (by simp; omega)]
  rw [e]
  simp [valL, two, byA]
  omega
def paV (t : ByteArray) (x y : Nat → Int) (F : Value) (g : Nat) : Nat → Value
  | 0 => .string t
  | 1 => .int .u8 (x 0)
  | 2 => .int .i64 (x 0)
  | 3 => .string t
  | 4 => .int .u8 (x 1)
  | 5 => .int .i64 (x 1)
  | 6 => .string t
  | 7 => .int .u8 (x 2)
  | 8 => .bool (x 2 != 0)
  | 9 => .string t
  | 10 => .int .u8 (x 3)
  | 11 => .bool (x 3 != 0)
  | 12 => .string t
  | 13 => .string (t.extract 4 6)
  | 14 => .int .i64 (y 4)
  | 15 => .string t
  | 16 => .string (t.extract 6 8)
  | 17 => .int .i64 (y 6)
  | 18 => .string t
  | 19 => .string (t.extract 8 10)
  | 20 => .int .i64 (y 8)
  | 21 => .string t
  | 22 => .int .u8 (x 10)
  | 23 => .int .i64 (x 10)
  | 24 => .string t
  | 25 => .int .u8 (x 11)
  | 26 => .int .i64 (x 11)
  | 27 => .string t
  | 28 => .int .u8 (x 12)
  | 29 => .int .i64 (x 12)
  | 30 => F
  | 31 => .pointer (some ⟨g, 0, none⟩)
  | _ => undef
def Fm.cs (f : Fm) : Array Value := #[.int .i64 f.B, .int .i64 f.D, .bool f.big, .bool f.tr, .int .i64 f.rm, .int .i64 f.gm, .int .i64 f.bm, .int .i64 f.rs, .int .i64 f.gs, .int .i64 f.bs]
/-- What becomes of bytes: a format, or why there is none. -/
def parF (t : ByteArray) : Fm := if t.size < 16 then Fm.zero else if (fmtOf t).ok then fmtOf t else Fm.zero
def parE (t : ByteArray) : Int := if t.size < 16 then 2 else if (fmtOf t).ok then 0 else 130
/-- What is so on the way: the variable is there, and holds the format, when it was stored. -/
def paS (w1 : World) (f : Fm) (ℓ : Nat → Bool) (W : World) : Prop :=
  Below w1.heap.size w1 W ∧ (ℓ 31 = false → W.heap.size = w1.heap.size ∧ ℓ 32 = false) ∧ (ℓ 31 = true → ∃ cs : Array Value, cs.size = 10 ∧ W.heap[w1.heap.size]? = some (.cells cs 23 (0, 0)) ∧ (ℓ 32 = true → cs = f.cs))
theorem paS_keep {w1 W : World} {f : Fm} {ℓ : Nat → Bool} {i : Nat} (h1 : i ≠ 31) (h2 : i ≠ 32) (h : paS w1 f ℓ W) : paS w1 f (fun j => if j = i then true else ℓ j) W := by
  unfold paS at h ⊢
  simp only [if_neg (Ne.symm h1), if_neg (Ne.symm h2)]
  exact h
theorem below_set {w w' : World} {n : Nat} (h : Below n w w') {g : Nat} (hg : n ≤ g) (o : Nat) (v : Value) : Below n w (w'.setCell ⟨g, o, none⟩ v) :=
  ⟨h.os, h.tape, h.output, by simpa using h.size, fun i hi => (heap_setCell_other w' ⟨g, o, none⟩ i v (fun e => by have : g = i := e.symm; omega)).trans (h.block i hi)⟩
theorem setAt {w : World} {R i : Nat} {cs cs' : Array Value} {T : TypeId} {v : Value} (h : w.heap[R]? = some (.cells cs T (0, 0))) (e : cs.setIfInBounds i v = cs') : (w.setCell ⟨R, i, none⟩ v).heap[R]? = some (.cells cs' T (0, 0)) := by
  rw [heap_setCell_same _ R i _ _ v h, e]
theorem store10 {w : World} {R : Nat} {z0 z1 z2 z3 z4 z5 z6 z7 z8 z9 : Value} {T : TypeId} (h : w.heap[R]? = some (.cells #[z0, z1, z2, z3, z4, z5, z6, z7, z8, z9] T (0, 0))) (a b c d e f g i j k : Value) :
    ((((((((((w.setCell ⟨R, 0, none⟩ a).setCell ⟨R, 1, none⟩ b).setCell ⟨R, 2, none⟩ c).setCell ⟨R, 3, none⟩ d).setCell ⟨R, 4, none⟩ e).setCell ⟨R, 5, none⟩ f).setCell ⟨R, 6, none⟩ g).setCell ⟨R, 7, none⟩ i).setCell ⟨R, 8, none⟩ j).setCell ⟨R, 9, none⟩ k).heap[R]? = some (.cells #[a, b, c, d, e, f, g, i, j, k] T (0, 0)) := by
  have h0 := setAt (cs' := #[a, z1, z2, z3, z4, z5, z6, z7, z8, z9]) (i := 0) (v := a) h rfl
  have h1 := setAt (cs' := #[a, b, z2, z3, z4, z5, z6, z7, z8, z9]) (i := 1) (v := b) h0 rfl
  have h2 := setAt (cs' := #[a, b, c, z3, z4, z5, z6, z7, z8, z9]) (i := 2) (v := c) h1 rfl
  have h3 := setAt (cs' := #[a, b, c, d, z4, z5, z6, z7, z8, z9]) (i := 3) (v := d) h2 rfl
  have h4 := setAt (cs' := #[a, b, c, d, e, z5, z6, z7, z8, z9]) (i := 4) (v := e) h3 rfl
  have h5 := setAt (cs' := #[a, b, c, d, e, f, z6, z7, z8, z9]) (i := 5) (v := f) h4 rfl
  have h6 := setAt (cs' := #[a, b, c, d, e, f, g, z7, z8, z9]) (i := 6) (v := g) h5 rfl
  have h7 := setAt (cs' := #[a, b, c, d, e, f, g, i, z8, z9]) (i := 7) (v := i) h6 rfl
  have h8 := setAt (cs' := #[a, b, c, d, e, f, g, i, j, z9]) (i := 8) (v := j) h7 rfl
  have h9 := setAt (cs' := #[a, b, c, d, e, f, g, i, j, k]) (i := 9) (v := k) h8 rfl
  exact h9
theorem arr10 {cs : Array Value} (h : cs.size = 10) : ∃ z0 z1 z2 z3 z4 z5 z6 z7 z8 z9, cs = #[z0, z1, z2, z3, z4, z5, z6, z7, z8, z9] := by
  obtain ⟨l⟩ := cs
  match l, h with
  | [z0, z1, z2, z3, z4, z5, z6, z7, z8, z9], _ => exact ⟨z0, z1, z2, z3, z4, z5, z6, z7, z8, z9, rfl⟩
set_option maxHeartbeats 4000000 in
theorem refParse_any (t : ByteArray) (ht : t.size ≤ 1000000) (w : World) :
    Calls Try.prog 10 #[.string t] w fun e w' => e = .returned (.tuple #[(parF t).v, .int .i64 (parE t)]) ∧ Below w.heap.size w w' := by
  by_cases h16 : t.size < 16
  · have d1 : decide (t.size < 16) = true := decide_eq_true h16
    have d2 : decide ((t.size : Int) < 16) = true := decide_eq_true (by omega)
    have bel := (Below.refl w.heap.size w).alloc (Nat.le_refl _) (.cells Fm.zero.cs 23)
    have e1 : parF t = Fm.zero := if_pos h16
    have e2 : parE t = 2 := if_pos h16
    rw [e1, e2]
    go_enter Try.func10, Try.ntmps10
    go_wp2_with fail
    refine bodyPost_ret (Ret.ret_cell_tmp rfl _ _ w.heap.size 23 _ (0, 0) _ rfl (heap_alloc_new _ _) Try.underlying23 rfl (by kernel_rfl)) rfl ⟨rfl, bel⟩
  have d1 : decide (t.size < 16) = false := decide_eq_false h16
  have d2 : decide ((t.size : Int) < 16) = false := decide_eq_false (by omega)
  have ix : ∀ i (h : i < t.size), (t[i].toNat : Int) = byA t i := fun i h => by
    unfold byA
    rw [List.getD_eq_getElem?_getD, List.getElem?_eq_getElem (show i < t.data.toList.length by simpa using h)]
    rfl
  have i0 := ix 0 (by omega)
  have i1 := ix 1 (by omega)
  have i2 := ix 2 (by omega)
  have i3 := ix 3 (by omega)
  have i10 := ix 10 (by omega)
  have i11 := ix 11 (by omega)
  have i12 := ix 12 (by omega)
  have bd := byA_bd t
  have wr : ∀ i, wrap64 (byA t i) = byA t i := fun i => IntWalk.wrap64_in _ (by have := bd i; omega)
  have I1 := Lib.hid (fun w => refInt_any (t.extract 4 6) w (by rw [ByteArray.size_extract]; omega))
  have I2 := Lib.hid (fun w => refInt_any (t.extract 6 8) w (by rw [ByteArray.size_extract]; omega))
  have I3 := Lib.hid (fun w => refInt_any (t.extract 8 10) w (by rw [ByteArray.size_extract]; omega))
  rw [two_val t 4 (by omega)] at I1
  rw [two_val t 6 (by omega)] at I2
  rw [two_val t 8 (by omega)] at I3
  have OK := Lib.hid (fun w => refValid_any (fmtOf t) (fmtOf_wf t) w)
  have e1 : RowKit.Hid (parF t = if (fmtOf t).ok then fmtOf t else Fm.zero) := Lib.hid (if_neg h16)
  have e2 : RowKit.Hid (parE t = if (fmtOf t).ok then 0 else 130) := Lib.hid (if_neg h16)
  generalize parF t = PF at *
  generalize parE t = PE at *
  have HX : RowKit.Hid ((fmtOf t).v = .agg #[.int .i64 (byA t 0), .int .i64 (byA t 1), .bool (byA t 2 != 0), .bool (byA t 3 != 0), .int .i64 (two t 4), .int .i64 (two t 6), .int .i64 (two t 8), .int .i64 (byA t 10), .int .i64 (byA t 11), .int .i64 (byA t 12)]) := Lib.hid rfl
  have HV : RowKit.Hid ((fmtOf t).v = .agg (fmtOf t).cs) := Lib.hid rfl
  have HZ : RowKit.Hid (Fm.zero.v = .agg Fm.zero.cs) := Lib.hid rfl
  clear ix
  generalize byA t = x at *
  generalize two t = y at *
  generalize fmtOf t = F at *
  have wr2 : ∀ i, IntKind.i64.wrap (x i) = x i := fun i => IntWalk.i64_in _ (by have := bd i; omega)
  have j0 : 0 < t.size := by omega
  have j1 : (1 : Int) < t.size := by omega
  have j2 : (2 : Int) < t.size := by omega
  have j3 : (3 : Int) < t.size := by omega
  have j10 : (10 : Int) < t.size := by omega
  have j11 : (11 : Int) < t.size := by omega
  have j12 : (12 : Int) < t.size := by omega
  have k6 : (6 : Int) ≤ t.size := by omega
  have k8 : (8 : Int) ≤ t.size := by omega
  have k10 : (10 : Int) ≤ t.size := by omega
  have bel := (Below.refl w.heap.size w).alloc (Nat.le_refl _) (.cells Fm.zero.cs 23)
  have h2 := heap_alloc_new w (.cells Fm.zero.cs 23)
  have hsz : (w.alloc (.cells Fm.zero.cs 23)).heap.size = w.heap.size + 1 := alloc_size _ _
  obtain ⟨w1, hw1⟩ : ∃ w1, w.alloc (.cells Fm.zero.cs 23) = w1 := ⟨_, rfl⟩
  rw [hw1] at bel h2 hsz
  have hw1' : w.alloc (.cells #[.int .i64 0, .int .i64 0, .bool false, .bool false, .int .i64 0, .int .i64 0, .int .i64 0, .int .i64 0, .int .i64 0, .int .i64 0] 23) = w1 := hw1
  have HSZ := Lib.hid hsz
  have H2 := Lib.hid h2
  clear hw1 hsz h2
  go_enter Try.func10, Try.ntmps10
  go_wp2_with fail
  refine region_alls (by kernel_rfl) (paV t x y (.agg #[.int .i64 (x 0), .int .i64 (x 1), .bool (x 2 != 0), .bool (x 3 != 0), .int .i64 (y 4), .int .i64 (y 6), .int .i64 (y 8), .int .i64 (x 10), .int .i64 (x 11), .int .i64 (x 12)]) w1.heap.size) (paS w1 F) [0] [none, none, none, none, some 31, none, none, none, none, none, some 0, some 1, some 2, some 3, some 4, some 5, some 6, some 7, some 8, some 9, some 10, some 11, some 12, some 13, some 14, some 15, some 16, some 17, some 18, some 19, some 20, some 21, some 22, some 23, some 24, some 25, some 26, some 27, some 28, some 29, some 30, none, none, none, none, none, none] (by kernel_rfl) (by kernel_rfl) (by rfl) (by kernel_rfl) (by kernel_rfl) (by kernel_rfl) ⟨(Below.refl _ _).drew, fun _ => ⟨rfl, rfl⟩, fun h => by cases h⟩ ⟨?_, ?_, ?_, ?_, ?_, ?_, ?_, ?_, ?_, ?_, ?_, ?_, ?_, ?_, ?_, ?_, ?_, ?_, ?_, ?_, ?_, ?_, ?_, ?_, ?_, ?_, ?_, ?_, ?_, ?_, ?_, ?_, ?_, trivial⟩ ?_
  case refine_34 =>
    intro ℓ W hall hS
    obtain ⟨cs, _, hg, hcs⟩ := hS.2.2 (hall 31 (by decide))
    obtain rfl := hcs (hall 32 (by decide))
    have hB := hS.1
    clear hS hall
    simp only [zipF, paV]
    have hx := HX.out
    have OK' := OK.out
    rw [hx] at OK'
    rw [HV.out] at hx
    have hcs' : F.cs = _ := Value.agg.inj hx
    rw [hcs'] at hg
    have HO := Lib.hid OK'
    have hsz := HSZ.out
    have HGB : RowKit.Hid (∀ W', Below W.heap.size W W' → W'.heap[w1.heap.size]? = some (.cells #[.int .i64 (x 0), .int .i64 (x 1), .bool (x 2 != 0), .bool (x 3 != 0), .int .i64 (y 4), .int .i64 (y 6), .int .i64 (y 8), .int .i64 (x 10), .int .i64 (x 11), .int .i64 (x 12)] 23 (0, 0))) := Lib.hid (fun W' h => (h.block _ (Array.getElem?_eq_some_iff.1 hg).1).trans hg)
    have HRB : RowKit.Hid (∀ W', Below W.heap.size W W' → W'.heap[w.heap.size]? = some (.cells Fm.zero.cs 23 (0, 0))) := Lib.hid (fun W' h => ((hB.trans (h.mono hB.size)).block _ (by omega)).trans H2.out)
    have HB2 : RowKit.Hid (∀ W', Below W.heap.size W W' → Below w.heap.size w W') := Lib.hid (fun W' h => bel.trans ((hB.trans (h.mono hB.size)).mono bel.size))
    have HFT : RowKit.Hid (F.ok = true → PF.v = Value.agg #[.int .i64 (x 0), .int .i64 (x 1), .bool (x 2 != 0), .bool (x 3 != 0), .int .i64 (y 4), .int .i64 (y 6), .int .i64 (y 8), .int .i64 (x 10), .int .i64 (x 11), .int .i64 (x 12)] ∧ PE = 0) := Lib.hid (fun h => by rw [e1.out, e2.out, if_pos h, if_pos h]; exact ⟨HX.out, rfl⟩)
    have HFF : RowKit.Hid (F.ok = false → PF.v = Value.agg Fm.zero.cs ∧ PE = 130) := Lib.hid (fun h => by rw [e1.out, e2.out, if_neg (by rw [h]; simp), if_neg (by rw [h]; simp)]; exact ⟨rfl, rfl⟩)
    clear e1 e2
    have c0 := cell_of_row W w1.heap.size 0 _ _ _ hg
    have c1 := cell_of_row W w1.heap.size 1 _ _ _ hg
    have c2 := cell_of_row W w1.heap.size 2 _ _ _ hg
    have c3 := cell_of_row W w1.heap.size 3 _ _ _ hg
    have c4 := cell_of_row W w1.heap.size 4 _ _ _ hg
    have c5 := cell_of_row W w1.heap.size 5 _ _ _ hg
    have c6 := cell_of_row W w1.heap.size 6 _ _ _ hg
    have c7 := cell_of_row W w1.heap.size 7 _ _ _ hg
    have c8 := cell_of_row W w1.heap.size 8 _ _ _ hg
    have c9 := cell_of_row W w1.heap.size 9 _ _ _ hg
    simp at c0 c1 c2 c3 c4 c5 c6 c7 c8 c9
    clear hcs hcs' hx OK' OK HX HV HZ hB hsz HSZ hg H2 hw1' bel
    generalize w1.heap.size = g at *
    clear i0 i1 i2 i3 i10 i11 i12 bd wr wr2 I1 I2 I3
    go_wp2_with fail
    refine (HO.out _).mono ?_
    rintro r w4 ⟨rfl, b4⟩
    have G4 := HGB.out _ b4
    have R4 := HRB.out _ b4
    have B4 := Lib.hid (HB2.out _ b4)
    clear HO b4 HGB HRB HB2 c0 c1 c2 c3 c4 c5 c6 c7 c8 c9
    have s0 := cell_of_row w4 w.heap.size 0 _ _ _ R4
    have s1 := cell_of_row w4 w.heap.size 1 _ _ _ R4
    have s2 := cell_of_row w4 w.heap.size 2 _ _ _ R4
    have s3 := cell_of_row w4 w.heap.size 3 _ _ _ R4
    have s4 := cell_of_row w4 w.heap.size 4 _ _ _ R4
    have s5 := cell_of_row w4 w.heap.size 5 _ _ _ R4
    have s6 := cell_of_row w4 w.heap.size 6 _ _ _ R4
    have s7 := cell_of_row w4 w.heap.size 7 _ _ _ R4
    have s8 := cell_of_row w4 w.heap.size 8 _ _ _ R4
    have s9 := cell_of_row w4 w.heap.size 9 _ _ _ R4
    have fz : ∀ i, w4.frozen? ⟨w.heap.size, i, none⟩ = false := fun i => frozen_of_row w4 w.heap.size i _ _ R4
    have c0 := cell_of_row w4 g 0 _ _ _ G4
    have c1 := cell_of_row w4 g 1 _ _ _ G4
    have c2 := cell_of_row w4 g 2 _ _ _ G4
    have c3 := cell_of_row w4 g 3 _ _ _ G4
    have c4 := cell_of_row w4 g 4 _ _ _ G4
    have c5 := cell_of_row w4 g 5 _ _ _ G4
    have c6 := cell_of_row w4 g 6 _ _ _ G4
    have c7 := cell_of_row w4 g 7 _ _ _ G4
    have c8 := cell_of_row w4 g 8 _ _ _ G4
    have c9 := cell_of_row w4 g 9 _ _ _ G4
    simp at c0 c1 c2 c3 c4 c5 c6 c7 c8 c9
    simp [Fm.zero, Fm.cs] at s0 s1 s2 s3 s4 s5 s6 s7 s8 s9
    have HR4 : RowKit.Hid (w4.heap[w.heap.size]? = some (.cells #[.int .i64 0, .int .i64 0, .bool false, .bool false, .int .i64 0, .int .i64 0, .int .i64 0, .int .i64 0, .int .i64 0, .int .i64 0] 23 (0, 0))) := Lib.hid R4
    clear G4 R4
    generalize F.ok = ok at *
    cases ok with
    | true =>
      have hft := Lib.hid (HFT.out (by simp))
      clear HFT HFF
      go_wp2_with fail
      refine bodyPost_ret (Ret.ret_cell_tmp rfl _ _ w.heap.size 23 _ (0, 0) _ rfl (store10 HR4.out _ _ _ _ _ _ _ _ _ _) Try.underlying23 rfl (by kernel_rfl)) rfl ⟨?_, (below_set (below_set (below_set (below_set (below_set (below_set (below_set (below_set (below_set (below_set B4.out (Nat.le_refl _) _ _) (Nat.le_refl _) _ _) (Nat.le_refl _) _ _) (Nat.le_refl _) _ _) (Nat.le_refl _) _ _) (Nat.le_refl _) _ _) (Nat.le_refl _) _ _) (Nat.le_refl _) _ _) (Nat.le_refl _) _ _) (Nat.le_refl _) _ _)⟩
      rw [hft.out.1, hft.out.2]
      rfl
    | false =>
      have hft := Lib.hid (HFF.out (by simp))
      clear HFT HFF
      go_wp2_with fail
      refine bodyPost_ret (Ret.ret_cell_tmp rfl _ _ w.heap.size 23 _ (0, 0) _ rfl (store10 HR4.out _ _ _ _ _ _ _ _ _ _) Try.underlying23 rfl (by kernel_rfl)) rfl ⟨?_, (below_set (below_set (below_set (below_set (below_set (below_set (below_set (below_set (below_set (below_set B4.out (Nat.le_refl _) _ _) (Nat.le_refl _) _ _) (Nat.le_refl _) _ _) (Nat.le_refl _) _ _) (Nat.le_refl _) _ _) (Nat.le_refl _) _ _) (Nat.le_refl _) _ _) (Nat.le_refl _) _ _) (Nat.le_refl _) _ _) (Nat.le_refl _) _ _)⟩
      rw [hft.out.1, hft.out.2]
      rfl
  case refine_33 =>
    intro ℓ act W hl hS hw hr hd
    have h31 : ℓ 31 = true := hw ⟨31, .data⟩ (by simp) (by rfl)
    obtain ⟨cs, hcs, hg, _⟩ := hS.2.2 h31
    have hB := hS.1
    clear hw hS
    simp [readFacts, depFacts, dstOf, Region.binds, paV] at hr hd
    refine ⟨wanted_none (by rfl), fun K hK => ?_⟩
    obtain ⟨z0, z1, z2, z3, z4, z5, z6, z7, z8, z9, rfl⟩ := arr10 hcs
    have c0 := cell_of_row W w1.heap.size 0 _ _ _ hg
    have c1 := cell_of_row W w1.heap.size 1 _ _ _ hg
    have c2 := cell_of_row W w1.heap.size 2 _ _ _ hg
    have c3 := cell_of_row W w1.heap.size 3 _ _ _ hg
    have c4 := cell_of_row W w1.heap.size 4 _ _ _ hg
    have c5 := cell_of_row W w1.heap.size 5 _ _ _ hg
    have c6 := cell_of_row W w1.heap.size 6 _ _ _ hg
    have c7 := cell_of_row W w1.heap.size 7 _ _ _ hg
    have c8 := cell_of_row W w1.heap.size 8 _ _ _ hg
    have c9 := cell_of_row W w1.heap.size 9 _ _ _ hg
    have fz : ∀ i, W.frozen? ⟨w1.heap.size, i, none⟩ = false := fun i => frozen_of_row W w1.heap.size i _ _ hg
    have HG := Lib.hid hg
    clear hg
    simp at c0 c1 c2 c3 c4 c5 c6 c7 c8 c9
    go_simp
    have hx := HX.out
    rw [HV.out] at hx
    have hcs : F.cs = _ := Value.agg.inj hx
    refine hK _ ⟨below_set (below_set (below_set (below_set (below_set (below_set (below_set (below_set (below_set (below_set hB (Nat.le_refl _) _ _) (Nat.le_refl _) _ _) (Nat.le_refl _) _ _) (Nat.le_refl _) _ _) (Nat.le_refl _) _ _) (Nat.le_refl _) _ _) (Nat.le_refl _) _ _) (Nat.le_refl _) _ _) (Nat.le_refl _) _ _) (Nat.le_refl _) _ _, fun h => ?_, fun _ => ⟨F.cs, rfl, ?_, fun _ => rfl⟩⟩
    · have h' : ℓ 31 = false := by simpa using h
      rw [h31] at h'
      cases h'
    · rw [hcs]
      exact store10 HG.out _ _ _ _ _ _ _ _ _ _
  case refine_32 =>
    intro ℓ act W hl hS hw hr hd
    obtain ⟨hz, h32⟩ := hS.2.1 hl
    have hB := hS.1
    clear hw hS
    simp [readFacts, depFacts] at hr hd
    refine ⟨wanted_none (by rfl), fun K hK => ?_⟩
    go_simp
    refine hK _ ⟨hB.alloc hB.size _, fun h => by simp at h, fun _ => ⟨Fm.zero.cs, rfl, ?_, fun h => ?_⟩⟩
    · rw [← hz]; exact heap_alloc_new _ _
    · have : ℓ 32 = true := by simpa using h
      rw [h32] at this
      cases this
  all_goals
    intro ℓ act W hl hS hw hr hd
    clear hw
    simp [readFacts, depFacts, dstOf, Region.binds, paV] at hr hd
    refine ⟨wanted_none (by rfl), fun K hK => ?_⟩
    go_simp
    first
      | (with_reducible refine (I1.out _).mono ?_
         rintro r w' ⟨rfl, rfl⟩
         exact hK _ (paS_keep (by decide) (by decide) hS))
      | (with_reducible refine (I2.out _).mono ?_
         rintro r w' ⟨rfl, rfl⟩
         exact hK _ (paS_keep (by decide) (by decide) hS))
      | (with_reducible refine (I3.out _).mono ?_
         rintro r w' ⟨rfl, rfl⟩
         exact hK _ (paS_keep (by decide) (by decide) hS))
      | exact hK _ (paS_keep (by decide) (by decide) hS)
end Go.Proofs.Ytkpmmfbheghocaa.Fmt
