/-
  What is done with a guess: the two closures of layer 11.
-/
import Derived.Test.YtcjloklilabblaaFltRow
namespace Go.Proofs.Ytcjloklilabblaa.Flt
open Go.ChangeShapes Go.WideShapes Go.ChangeAt Go.RowKit
set_option linter.unusedVariables false

/-- A row of bytes in a block, none of them frozen. -/
structure RowIn (w : World) (g : Nat) (l : List UInt8) : Prop where
  lt : g < w.heap.size
  cell : ∀ i, i < l.length → w.cell? ⟨g, i, none⟩ = some (.int .u8 (l.getD i 0).toNat)
  free : ∀ i, i < l.length → w.frozen? ⟨g, i, none⟩ = false
theorem RowIn.block {w w' : World} {g : Nat} {l : List UInt8} (h : RowIn w g l) (hs : g < w'.heap.size) (k : w'.heap[g]? = w.heap[g]?) : RowIn w' g l :=
  ⟨hs, fun i hi => (World.cell?_of_block (w := w) (w' := w') (a := ⟨g, i, none⟩) k).trans (h.cell i hi), fun i hi => (World.frozen?_of_block (w := w) (w' := w') (a := ⟨g, i, none⟩) k).trans (h.free i hi)⟩
theorem RowIn.below {B : Nat} {w w' : World} {g : Nat} {l : List UInt8} (h : RowIn w g l) (k : Below B w w') (hB : w.heap.size ≤ B) : RowIn w' g l :=
  h.block (Nat.lt_of_lt_of_le h.lt k.size) (k.block g (Nat.lt_of_lt_of_le h.lt hB))
theorem RowIn.set {w : World} {g : Nat} {l : List UInt8} (h : RowIn w g l) (n : Nat) (hn : n < l.length) (b : UInt8) : RowIn (w.setCell ⟨g, n, none⟩ (.int .u8 b.toNat)) g (l.set n b) := by
  refine ⟨by rw [World.setCell]; simpa using h.lt, fun i hi => ?_, fun i hi => ?_⟩
  · rw [List.length_set] at hi
    by_cases hin : i = n
    · subst hin
      rw [World.cell?_setCell_same _ _ _ (h.cell i hi), List.getD_eq_getElem?_getD, List.getElem?_set_self hi]; rfl
    · rw [World.cell?_setCell_other _ _ _ _ (by intro e; cases e; exact hin rfl), h.cell i hi, List.getD_eq_getElem?_getD, List.getD_eq_getElem?_getD, List.getElem?_set_ne (by omega)]
  · rw [List.length_set] at hi
    rw [World.frozen?_setCell]; exact h.free i hi
theorem RowIn.set_other {w : World} {g g' : Nat} {l : List UInt8} (h : RowIn w g l) (hg : g ≠ g') (n : Nat) (v : Value) : RowIn (w.setCell ⟨g', n, none⟩ v) g l :=
  h.block (by rw [World.setCell]; simpa using h.lt) (Below.heap_setCell _ _ _ _ hg)

/-- What Filter's closure works on. -/
structure FS (W : World) (B x y gl cl gm : Nat) (row made : List UInt8) (w : World) : Prop where
  bel : Below B W w
  hx : B ≤ x ∧ x < w.heap.size
  hy : B ≤ y ∧ y < w.heap.size
  cx : w.cell? ⟨x, 0, none⟩ = some (.slice (some ⟨gl, 0, none⟩) row.length cl)
  cy : w.cell? ⟨y, 0, none⟩ = some (.slice (some ⟨gm, 0, none⟩) row.length row.length)
  line : RowIn w gl row
  mad : RowIn w gm made
  hm : made.length = row.length
  ne : gm ≠ x ∧ gm ≠ y ∧ gm ≠ gl ∧ B ≤ gm
theorem FS.below {W : World} {B x y gl cl gm : Nat} {row made : List UInt8} {w w' : World} (h : FS W B x y gl cl gm row made w) (k : Below w.heap.size w w') : FS W B x y gl cl gm row made w' :=
  ⟨h.bel.trans (k.mono (Nat.le_trans h.hx.1 (Nat.le_of_lt h.hx.2))), ⟨h.hx.1, Nat.lt_of_lt_of_le h.hx.2 k.size⟩, ⟨h.hy.1, Nat.lt_of_lt_of_le h.hy.2 k.size⟩, (k.cell h.hx.2).trans h.cx, (k.cell h.hy.2).trans h.cy, h.line.below k (Nat.le_refl _), h.mad.below k (Nat.le_refl _), h.hm, h.ne⟩

theorem FS.drew {W : World} {B x y gl cl gm : Nat} {row made : List UInt8} {w : World} (h : FS W B x y gl cl gm row made w) : FS W B x y gl cl gm row made w.drew := h.below (Below.refl _ w).drew
theorem FS.store {W : World} {B x y gl cl gm : Nat} {row made : List UInt8} {w : World} (h : FS W B x y gl cl gm row made w) (n : Nat) (hn : n < row.length) (b : UInt8) : FS W B x y gl cl gm row (made.set n b) (w.setCell ⟨gm, n, none⟩ (.int .u8 b.toNat)) := by
  obtain ⟨n1, n2, n3, n4⟩ := h.ne
  have hs : (w.setCell ⟨gm, n, none⟩ (.int .u8 b.toNat)).heap.size = w.heap.size := by rw [World.setCell]; simp
  refine ⟨h.bel.setCell n4 _, ⟨h.hx.1, hs ▸ h.hx.2⟩, ⟨h.hy.1, hs ▸ h.hy.2⟩, ?_, ?_, h.line.set_other (Ne.symm n3) _ _, h.mad.set n (by rw [h.hm]; exact hn) b, by rw [List.length_set]; exact h.hm, h.ne⟩
  · rw [World.cell?_setCell_other _ _ _ _ (by intro e; cases e; exact n1 rfl)]; exact h.cx
  · rw [World.cell?_setCell_other _ _ _ _ (by intro e; cases e; exact n2 rfl)]; exact h.cy
theorem u8_sub (q : UInt8) (g : Int) : IntKind.u8.wrap ((q.toNat : Int) - g) = ((byteI (q.toNat - g)).toNat : Int) := by
  rw [byteI_val]; rfl
theorem u8_add (q : UInt8) (g : Int) : IntKind.u8.wrap ((q.toNat : Int) + g) = ((byteI (q.toNat + g)).toNat : Int) := by
  rw [byteI_val]; rfl

theorem cloF_any (W : World) (B x y gl cl gm : Nat) (row made : List UInt8) (n : Nat) (g : Int) (w : World) (h : FS W B x y gl cl gm row made w) (hn : n < row.length) (hg : 0 ≤ g ∧ g < 256) (hl : row.length ≤ 400) :
    Calls Try.prog 24 #[.int .i64 n, .int .u8 g, .pointer (some ⟨x, 0, none⟩), .pointer (some ⟨y, 0, none⟩)] w fun e w' => e = .returned (.tuple #[]) ∧ FS W B x y gl cl gm row (made.set n (byteI (atB row n - g))) w' := by
  have c1 := h.cx
  have c2 := h.cy
  have c3 := h.line.cell n hn
  have c4 := h.mad.cell n (by rw [h.hm]; exact hn)
  have f4 := h.mad.free n (by rw [h.hm]; exact hn)
  have e : atB row n = ((row.getD n 0).toNat : Int) := by rw [atB_in hn, List.getD_eq_getElem?_getD, List.getElem?_eq_getElem hn]; rfl
  have ey := u8_sub (row.getD n 0) g
  rw [← e] at ey
  have HS := Lib.hid (h.drew.store n hn (byteI (atB row n - g)))
  have k4 := h.drew.mad.cell n (by rw [h.hm]; exact hn)
  have g4 := h.drew.mad.free n (by rw [h.hm]; exact hn)
  clear h
  generalize row.length = len at *
  rw [← e] at c3
  generalize byteI (atB row n - g) = Y at *
  generalize atB row n = q at *
  clear e
  go_enter Try.func24, Try.ntmps24
  go_wp2
  go_still_tail 9, (by kernel_rfl)
  change wpList _ _ _ _ _ w.drew
  clear c1 c2 c3 c4 f4
  generalize w.drew = w2 at *
  go_wp2_with fail
  go_end0
  exact ⟨rfl, HS.out⟩

/-- What Unfilter's closure works on. -/
structure US (W : World) (B x gl cl : Nat) (row : List UInt8) (w : World) : Prop where
  bel : Below B W w
  hx : B ≤ x ∧ x < w.heap.size
  cx : w.cell? ⟨x, 0, none⟩ = some (.slice (some ⟨gl, 0, none⟩) row.length cl)
  line : RowIn w gl row
  ne : gl ≠ x ∧ B ≤ gl
theorem US.below {W : World} {B x gl cl : Nat} {row : List UInt8} {w w' : World} (h : US W B x gl cl row w) (k : Below w.heap.size w w') : US W B x gl cl row w' :=
  ⟨h.bel.trans (k.mono (Nat.le_trans h.hx.1 (Nat.le_of_lt h.hx.2))), ⟨h.hx.1, Nat.lt_of_lt_of_le h.hx.2 k.size⟩, (k.cell h.hx.2).trans h.cx, h.line.below k (Nat.le_refl _), h.ne⟩
theorem US.store {W : World} {B x gl cl : Nat} {row : List UInt8} {w : World} (h : US W B x gl cl row w) (n : Nat) (hn : n < row.length) (b : UInt8) : US W B x gl cl (row.set n b) (w.setCell ⟨gl, n, none⟩ (.int .u8 b.toNat)) := by
  obtain ⟨n1, n4⟩ := h.ne
  have hs : (w.setCell ⟨gl, n, none⟩ (.int .u8 b.toNat)).heap.size = w.heap.size := by rw [World.setCell]; simp
  refine ⟨h.bel.setCell n4 _, ⟨h.hx.1, hs ▸ h.hx.2⟩, ?_, h.line.set n hn b, h.ne⟩
  rw [World.cell?_setCell_other _ _ _ _ (by intro e; cases e; exact n1 rfl), List.length_set]; exact h.cx

theorem cloU_any (W : World) (B x gl cl : Nat) (row : List UInt8) (n : Nat) (g : Int) (w : World) (h : US W B x gl cl row w) (hn : n < row.length) (hg : 0 ≤ g ∧ g < 256) (hl : row.length ≤ 400) :
    Calls Try.prog 27 #[.int .i64 n, .int .u8 g, .pointer (some ⟨x, 0, none⟩)] w fun e w' => e = .returned (.tuple #[]) ∧ US W B x gl cl (row.set n (byteI (atB row n + g))) w' := by
  have c1 := h.cx
  have c3 := h.line.cell n hn
  have f3 := h.line.free n hn
  have e : atB row n = ((row.getD n 0).toNat : Int) := by rw [atB_in hn, List.getD_eq_getElem?_getD, List.getElem?_eq_getElem hn]; rfl
  have ey := byteI_val (atB row n + g)
  have HS := Lib.hid (h.store n hn (byteI (atB row n + g)))
  clear h
  generalize row.length = len at *
  rw [← e] at c3
  generalize byteI (atB row n + g) = Y at *
  generalize atB row n = q at *
  clear e
  go_enter Try.func27, Try.ntmps27
  go_wp2
  rw [← ey]
  go_end0
  exact ⟨rfl, HS.out⟩
end Go.Proofs.Ytcjloklilabblaa.Flt
