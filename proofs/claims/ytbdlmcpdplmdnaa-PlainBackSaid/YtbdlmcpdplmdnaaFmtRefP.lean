/-
  Contracts of the reference of layer 13 (format): the format of bytes.
-/
import Derived.Test.YtbdlmcpdplmdnaaFmtRefB
import Derived.Test.YtbdlmcpdplmdnaaOctRefCur
import Derived.Test.YtbdlmcpdplmdnaaRetCell
namespace Go.Proofs.Ytbdlmcpdplmdnaa.Fmt
open Go.ChangeShapes Go.WideShapes Go.ChangeAt Go.RowKit RegVal Oct
set_option linter.unusedVariables false
set_option maxRecDepth 100000

def Fm.std : Fm := ⟨32, 24, false, true, 255, 255, 255, 16, 8, 0⟩
/-- A byte of a text as a number. -/
def byA (t : ByteArray) (i : Nat) : Int := ((t.data.toList.getD i 0).toNat : Nat)
def two (t : ByteArray) (i : Nat) : Int := byA t i * 256 + byA t (i + 1)
/-- The format of sixteen bytes. -/
def fmtX (x y : Nat → Int) : Fm := ⟨x 0, x 1, x 2 != 0, x 3 != 0, y 4, y 6, y 8, x 10, x 11, x 12⟩
def fmtOf (t : ByteArray) : Fm := fmtX (byA t) (two t)
theorem byA_bd (t : ByteArray) (i : Nat) : 0 ≤ byA t i ∧ byA t i < 256 := by
  unfold byA
  have := (t.data.toList.getD i 0).toNat_lt
  omega
theorem wf_small {n : Int} (h0 : 0 ≤ n) (h1 : n < 65536) : (Lit.int .i64 n).wf = true := by
  simp only [Lit.wf, IntKind.min, IntKind.max, IntKind.signed, IntKind.bits, Bool.and_eq_true, decide_eq_true_eq, if_true]
  omega
theorem fmtOf_wf (t : ByteArray) : (fmtOf t).Wf := by
  have h := byA_bd t
  have h2 : ∀ i, 0 ≤ two t i ∧ two t i < 65536 := fun i => by
    have := h i
    have := h (i + 1)
    unfold two
    omega
  exact ⟨wf_small (h 0).1 (by have := h 0; show byA t 0 < _; omega), wf_small (h 1).1 (by have := h 1; show byA t 1 < _; omega), wf_small (h2 4).1 (h2 4).2, wf_small (h2 6).1 (h2 6).2, wf_small (h2 8).1 (h2 8).2, wf_small (h 10).1 (by have := h 10; show byA t 10 < _; omega), wf_small (h 11).1 (by have := h 11; show byA t 11 < _; omega), wf_small (h 12).1 (by have := h 12; show byA t 12 < _; omega)⟩
theorem two_val (t : ByteArray) (i : Nat) (h : i + 2 ≤ t.size) : valL (t.extract i (i + 2)).data.toList.reverse = two t i := by
  have e : (t.extract i (i + 2)).data.toList = [t.data.toList.getD i 0, t.data.toList.getD (i + 1) 0] := by
    have hl : t.data.toList.length = t.size := by simp
    have e1 : (t.extract i (i + 2)).data.toList = (t.data.toList.drop i).take 2 := by simp [ByteArray.data_extract]
    rw [e1]
    apply List.ext_getElem?
    intro k
    rw [List.getElem?_take]
    by_cases h0 : k = 0
    · subst h0
      rw [if_pos (by omega), List.getElem?_drop, List.getElem?_eq_getElem (show i + 0 < t.data.toList.length by omega), List.getD_eq_getElem?_getD, List.getElem?_eq_getElem (show i < t.data.toList.length by omega)]
      rfl
    by_cases h1 : k = 1
    · subst h1
      rw [if_pos (by omega), List.getElem?_drop, List.getElem?_eq_getElem (show i + 1 < t.data.toList.length by omega), List.getD_eq_getElem?_getD, List.getD_eq_getElem?_getD, List.getElem?_eq_getElem (show i + 1 < t.data.toList.length by omega)]
      rfl
    · rw [if_neg (by omega), List.getElem?_eq_none (by simp; omega)]
  rw [e]
  simp [valL, two, byA]
  omega
def paV (t : ByteArray) (x y : Nat → Int) (F : Value) (g : Nat) : Nat → Value
  | 0 => .string t
  | 1 => .int .u8 (x 0)
  | 2 => .int .i64 (x 0)
  | 3 => .string t
  | 4 => .int .u8 (x 1)
  | 5 => .int .i64 (x 1)
  | 6 => .string t
  | 7 => .int .u8 (x 2)
  | 8 => .bool (x 2 != 0)
  | 9 => .string t
  | 10 => .int .u8 (x 3)
  | 11 => .bool (x 3 != 0)
  | 12 => .string t
  | 13 => .string (t.extract 4 6)
  | 14 => .int .i64 (y 4)
  | 15 => .string t
  | 16 => .string (t.extract 6 8)
  | 17 => .int .i64 (y 6)
  | 18 => .string t
  | 19 => .string (t.extract 8 10)
  | 20 => .int .i64 (y 8)
  | 21 => .string t
  | 22 => .int .u8 (x 10)
  | 23 => .int .i64 (x 10)
  | 24 => .string t
  | 25 => .int .u8 (x 11)
  | 26 => .int .i64 (x 11)
  | 27 => .string t
  | 28 => .int .u8 (x 12)
  | 29 => .int .i64 (x 12)
  | 30 => F
  | 31 => .pointer (some ⟨g, 0, none⟩)
  | _ => undef
def Fm.cs (f : Fm) : Array Value := #[.int .i64 f.B, .int .i64 f.D, .bool f.big, .bool f.tr, .int .i64 f.rm, .int .i64 f.gm, .int .i64 f.bm, .int .i64 f.rs, .int .i64 f.gs, .int .i64 f.bs]
/-- What becomes of bytes: a format, or why there is none. -/
def parF (t : ByteArray) : Fm := if t.size < 16 then Fm.zero else if (fmtOf t).ok then fmtOf t else Fm.zero
def parE (t : ByteArray) : Int := if t.size < 16 then 2 else if (fmtOf t).ok then 0 else 130
/-- What is so on the way: the variable is there, and holds the format, when it was stored. -/
def paS (w1 : World) (f : Fm) (ℓ : Nat → Bool) (W : World) : Prop :=
  Below w1.heap.size w1 W ∧ (ℓ 31 = false → W.heap.size = w1.heap.size ∧ ℓ 32 = false) ∧ (ℓ 31 = true → ∃ cs : Array Value, cs.size = 10 ∧ W.heap[w1.heap.size]? = some (.cells cs 23 (0, 0)) ∧ (ℓ 32 = true → cs = f.cs))
theorem paS_keep {w1 W : World} {f : Fm} {ℓ : Nat → Bool} {i : Nat} (h1 : i ≠ 31) (h2 : i ≠ 32) (h : paS w1 f ℓ W) : paS w1 f (fun j => if j = i then true else ℓ j) W := by
  unfold paS at h ⊢
  simp only [if_neg (Ne.symm h1), if_neg (Ne.symm h2)]
  exact h
theorem below_set {w w' : World} {n : Nat} (h : Below n w w') {g : Nat} (hg : n ≤ g) (o : Nat) (v : Value) : Below n w (w'.setCell ⟨g, o, none⟩ v) :=
  ⟨h.os, h.tape, h.output, by simpa using h.size, fun i hi => (heap_setCell_other w' ⟨g, o, none⟩ i v (fun e => by have : g = i := e.symm; omega)).trans (h.block i hi)⟩
theorem setAt {w : World} {R i : Nat} {cs cs' : Array Value} {T : TypeId} {v : Value} (h : w.heap[R]? = some (.cells cs T (0, 0))) (e : cs.setIfInBounds i v = cs') : (w.setCell ⟨R, i, none⟩ v).heap[R]? = some (.cells cs' T (0, 0)) := by
  rw [heap_setCell_same _ R i _ _ v h, e]
theorem store10 {w : World} {R : Nat} {z0 z1 z2 z3 z4 z5 z6 z7 z8 z9 : Value} {T : TypeId} (h : w.heap[R]? = some (.cells #[z0, z1, z2, z3, z4, z5, z6, z7, z8, z9] T (0, 0))) (a b c d e f g i j k : Value) :
    ((((((((((w.setCell ⟨R, 0, none⟩ a).setCell ⟨R, 1, none⟩ b).setCell ⟨R, 2, none⟩ c).setCell ⟨R, 3, none⟩ d).setCell ⟨R, 4, none⟩ e).setCell ⟨R, 5, none⟩ f).setCell ⟨R, 6, none⟩ g).setCell ⟨R, 7, none⟩ i).setCell ⟨R, 8, none⟩ j).setCell ⟨R, 9, none⟩ k).heap[R]? = some (.cells #[a, b, c, d, e, f, g, i, j, k] T (0, 0)) := by
  have h0 := setAt (cs' := #[a, z1, z2, z3, z4, z5, z6, z7, z8, z9]) (i := 0) (v := a) h rfl
  have h1 := setAt (cs' := #[a, b, z2, z3, z4, z5, z6, z7, z8, z9]) (i := 1) (v := b) h0 rfl
  have h2 := setAt (cs' := #[a, b, c, z3, z4, z5, z6, z7, z8, z9]) (i := 2) (v := c) h1 rfl
  have h3 := setAt (cs' := #[a, b, c, d, z4, z5, z6, z7, z8, z9]) (i := 3) (v := d) h2 rfl
  have h4 := setAt (cs' := #[a, b, c, d, e, z5, z6, z7, z8, z9]) (i := 4) (v := e) h3 rfl
  have h5 := setAt (cs' := #[a, b, c, d, e, f, z6, z7, z8, z9]) (i := 5) (v := f) h4 rfl
  have h6 := setAt (cs' := #[a, b, c, d, e, f, g, z7, z8, z9]) (i := 6) (v := g) h5 rfl
  have h7 := setAt (cs' := #[a, b, c, d, e, f, g, i, z8, z9]) (i := 7) (v := i) h6 rfl
  have h8 := setAt (cs' := #[a, b, c, d, e, f, g, i, j, z9]) (i := 8) (v := j) h7 rfl
  have h9 := setAt (cs' := #[a, b, c, d, e, f, g, i, j, k]) (i := 9) (v := k) h8 rfl
  exact h9
theorem arr10 {cs : Array Value} (h : cs.size = 10) : ∃ z0 z1 z2 z3 z4 z5 z6 z7 z8 z9, cs = #[z0, z1, z2, z3, z4, z5, z6, z7, z8, z9] := by
  obtain ⟨l⟩ := cs
  match l, h with
  | [z0, z1, z2, z3, z4, z5, z6, z7, z8, z9], _ => exact ⟨z0, z1, z2, z3, z4, z5, z6, z7, z8, z9, rfl⟩
end Go.Proofs.Ytbdlmcpdplmdnaa.Fmt
