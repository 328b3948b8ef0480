/-
  Contracts of the reference of layer 13 (format): values and colours of a format that may be.
-/
import Derived.Test.YtbdlmcpdplmdnaaFmtRefV
import Derived.Test.YtbdlmcpdplmdnaaRegVal
namespace Go.Proofs.Ytbdlmcpdplmdnaa.Fmt
open Go.ChangeShapes Go.WideShapes Go.ChangeAt Go.RowKit RegVal
set_option linter.unusedVariables false
set_option maxRecDepth 100000

/-- The value of a colour, the colour of a value, what is left of a colour. -/
def Fm.val (f : Fm) (c : Int) : Nat := valueN (width f.rm) (width f.gm) (width f.bm) f.rs.toNat f.gs.toNat f.bs.toNat (colZ c)
def Fm.col (f : Fm) (v : Int) : Nat := colourZ (width f.rm) (width f.gm) (width f.bm) f.rs.toNat f.gs.toNat f.bs.toNat v
def Fm.left (f : Fm) (c : Int) : Nat := f.col (f.val c : Nat)
theorem Fm.Is.val_eq {f : Fm} {k j l s t u n : Nat} (H : f.Is k j l s t u n) (c : Int) : f.val c = valueN k j l s t u (colZ c) := by
  unfold Fm.val
  rw [H.rm, H.gm, H.bm, H.rs, H.gs, H.bs, width_top H.hk, width_top H.hj, width_top H.hl]
  rfl
theorem Fm.Is.col_eq {f : Fm} {k j l s t u n : Nat} (H : f.Is k j l s t u n) (v : Int) : f.col v = colourZ k j l s t u v := by
  unfold Fm.col
  rw [H.rm, H.gm, H.bm, H.rs, H.gs, H.bs, width_top H.hk, width_top H.hj, width_top H.hl]
  rfl
theorem refValue_f (f : Fm) (h : f.ok = true) (c : Int) (w : World) :
    Calls Try.prog 40 #[f.v, .int .i64 c] w fun e w' => e = .returned (.int .i64 (f.val c : Nat)) ∧ Below w.heap.size w w' := by
  obtain ⟨k, j, l, s, t, u, n, H⟩ := f.is h
  rw [H.val_eq]
  unfold Fm.v
  rw [H.rm, H.gm, H.bm, H.rs, H.gs, H.bs]
  exact refValue_any _ _ _ _ k j l s t u c H.hk H.hj H.hl n H.three w
theorem refColour_f (f : Fm) (h : f.ok = true) (v : Int) (w : World) :
    Calls Try.prog 29 #[f.v, .int .i64 v] w fun e w' => e = .returned (.int .i64 (f.col v : Nat)) ∧ Below w.heap.size w w' := by
  obtain ⟨k, j, l, s, t, u, n, H⟩ := f.is h
  rw [H.col_eq]
  unfold Fm.v
  rw [H.rm, H.gm, H.bm, H.rs, H.gs, H.bs]
  exact refColour_any _ _ _ _ k j l s t u v H.hk H.hj H.hl n H.three w
/-- A format that stands in a block. -/
def FmAt (w : World) (b : Nat) (f : Fm) : Prop :=
  w.cell? ⟨b, 0, none⟩ = some (.int .i64 f.B) ∧ w.cell? ⟨b, 1, none⟩ = some (.int .i64 f.D) ∧ w.cell? ⟨b, 2, none⟩ = some (.bool f.big) ∧ w.cell? ⟨b, 3, none⟩ = some (.bool f.tr) ∧
  w.cell? ⟨b, 4, none⟩ = some (.int .i64 f.rm) ∧ w.cell? ⟨b, 5, none⟩ = some (.int .i64 f.gm) ∧ w.cell? ⟨b, 6, none⟩ = some (.int .i64 f.bm) ∧
  w.cell? ⟨b, 7, none⟩ = some (.int .i64 f.rs) ∧ w.cell? ⟨b, 8, none⟩ = some (.int .i64 f.gs) ∧ w.cell? ⟨b, 9, none⟩ = some (.int .i64 f.bs)
theorem FmAt.box (f : Fm) (w : World) (T : TypeId) : FmAt (w.alloc (.cells #[.int .i64 f.B, .int .i64 f.D, .bool f.big, .bool f.tr, .int .i64 f.rm, .int .i64 f.gm, .int .i64 f.bm, .int .i64 f.rs, .int .i64 f.gs, .int .i64 f.bs] T)) w.heap.size f := by
  obtain ⟨_, kx⟩ := box1 w #[.int .i64 f.B, .int .i64 f.D, .bool f.big, .bool f.tr, .int .i64 f.rm, .int .i64 f.gm, .int .i64 f.bm, .int .i64 f.rs, .int .i64 f.gs, .int .i64 f.bs] T
  exact ⟨kx 0 _ rfl, kx 1 _ rfl, kx 2 _ rfl, kx 3 _ rfl, kx 4 _ rfl, kx 5 _ rfl, kx 6 _ rfl, kx 7 _ rfl, kx 8 _ rfl, kx 9 _ rfl⟩
theorem FmAt.below {w w' : World} {b n : Nat} {f : Fm} (h : FmAt w b f) (k : Below n w w') (hb : b < n) : FmAt w' b f := by
  obtain ⟨h0, h1, h2, h3, h4, h5, h6, h7, h8, h9⟩ := h
  exact ⟨(k.cell hb).trans h0, (k.cell hb).trans h1, (k.cell hb).trans h2, (k.cell hb).trans h3, (k.cell hb).trans h4, (k.cell hb).trans h5, (k.cell hb).trans h6, (k.cell hb).trans h7, (k.cell hb).trans h8, (k.cell hb).trans h9⟩

def quV (F a b : Value) (c : Int) : Nat → Value
  | 0 => F
  | 1 => F
  | 2 => .int .i64 c
  | 3 => a
  | 4 => b
  | 5 => b
  | _ => undef
end Go.Proofs.Ytbdlmcpdplmdnaa.Fmt
