/-
  The document's examples: contract of works.
-/
import Derived.Test.YtikfenimgjeplaaSymEval
namespace Go.Proofs.Ytikfenimgjeplaa.Sym
open Go.ChangeShapes Go.WideShapes Go.ChangeAt Go.RowKit
open Go.Proofs.Ytikfenimgjeplaa.Huf (IsInts fine nats)
open Go.Proofs.Ytikfenimgjeplaa.Lz (Tok okT tokC IsToks TokAt cellsT cellsT_get)
open Go.Proofs.Ytikfenimgjeplaa.Bit (WrAt WrRaw But Near RdAt tb pack wstring_any rnew_any)
set_option linter.unusedVariables false
set_option maxRecDepth 100000

theorem exT_at (w : World) (T : TypeId) : IsToks (w.alloc (.cells #[.int .i64 97, .int .i64 0, .int .i64 0, .int .i64 0, .int .i64 3, .int .i64 1] T)) (some ⟨w.heap.size, 0, none⟩) exT := by
  intro _
  refine ⟨w.heap.size, 0, rfl, by simp, fun i hi => ?_⟩
  have hi2 : i < 2 := hi
  obtain rfl | rfl : i = 0 ∨ i = 1 := by omega
  · refine ⟨?_, ?_, ?_⟩ <;> rw [cell_of_row _ _ _ _ _ _ (heap_alloc_new _ _)] <;> rfl
  · refine ⟨?_, ?_, ?_⟩ <;> rw [cell_of_row _ _ _ _ _ _ (heap_alloc_new _ _)] <;> rfl

theorem below_but {B b : Nat} {v : Value} {w0 w w' : World} (h : Below B w0 w) (hB : B ≤ w0.heap.size) (k : But b v w w') (hb : B ≤ b) (hv : ∀ i, v.ownBlock = some i → B ≤ i) : Below B w0 w' :=
  h.trans ⟨k.os, k.tape, k.output, k.size, fun i hi => k.block i (by have := h.size; omega) (by omega) (fun e => by have := hv i e.symm; omega)⟩
theorem below_grow {B b : Nat} {w0 w w' : World} (h : Below B w0 w) (hB : B ≤ w0.heap.size) (k : w.grownBy w' (some b)) (hb : B ≤ b) : Below B w0 w' :=
  h.trans ⟨k.os, k.tape, k.output, k.size, fun i hi => k.block i (by have := h.size; omega) (fun e => by cases e; omega)⟩
theorem ints_block {w w' : World} {a : Option Addr} {L : List Int} (h : IsInts w a L) (hs : w.heap.size ≤ w'.heap.size) (k : ∀ g off, a = some ⟨g, off, none⟩ → g < w.heap.size → w'.heap[g]? = w.heap[g]?) : IsInts w' a L := by
  intro h0
  obtain ⟨g, off, e, hg, hc⟩ := h h0
  refine ⟨g, off, e, Nat.lt_of_lt_of_le hg hs, fun i hi => ?_⟩
  rw [← hc i hi]
  exact World.cell?_of_block (w := w) (w' := w') (a := ⟨g, off + i, none⟩) (k g off e hg)
theorem wr_new (w : World) : WrAt (w.alloc (.cells #[.slice none 0 0, .int .i64 0] 39)) w.heap.size (.slice none 0 0) [] := ⟨heap_alloc_new _ _, World.ownsRow_nil _ _ _ _⟩

set_option maxHeartbeats 4000000 in
theorem works_any (w : World) :
    Calls Try.prog 9 #[] w fun e w' => e = .returned (.bool true) ∧ Below w.heap.size w w' := by
  have C1 := Lib.hid (fun w => length_any 12 (by decide) w)
  rw [show lenS 12 = (265, 1, 1) by decide +kernel] at C1
  have C2 := Lib.hid (fun w => distance_any 24577 (by decide) w)
  rw [show distS 24577 = (29, 0, 13) by decide +kernel] at C2
  unfold trip at C1 C2
  go_enter Try.func9, Try.ntmps9
  go_wp2_with fail
  refine (C1.out _).mono ?_
  rintro r w1 ⟨rfl, b1⟩
  go_wp2_with fail
  refine (C2.out _).mono ?_
  rintro r w2 ⟨rfl, b2⟩
  have HB2 := Lib.hid (b1.trans (b2.mono b1.size))
  clear b1 b2 C1 C2
  go_wp2_with fail
  refine (fixed_any _).mono ?_
  rintro r w3 ⟨a, ca, b, cb, rfl, iA, iB, b3⟩
  have HB3 := Lib.hid (HB2.out.trans (b3.mono HB2.out.size))
  have IA := Lib.hid iA
  have IB := Lib.hid iB
  clear b3 HB2 iA iB
  go_wp2_with fail
  have hwr := wr_below (wr_new w3) ((Below.refl _ _).alloc (Nat.le_refl _) (.cells #[.int .i64 97, .int .i64 0, .int .i64 0, .int .i64 0, .int .i64 3, .int .i64 1] 64))
  have b4 : Below w3.heap.size w3 ((w3.alloc (.cells #[.slice none 0 0, .int .i64 0] 39)).alloc (.cells #[.int .i64 97, .int .i64 0, .int .i64 0, .int .i64 0, .int .i64 3, .int .i64 1] 64)) := ((Below.refl _ _).alloc (Nat.le_refl _) _).alloc (by simp) _
  have htk := exT_at (w3.alloc (.cells #[.slice none 0 0, .int .i64 0] 39)) 64
  rw [show (w3.alloc (.cells #[.slice none 0 0, .int .i64 0] 39)).heap.size = w3.heap.size + 1 by simp] at htk
  generalize ((w3.alloc (.cells #[.slice none 0 0, .int .i64 0] 39)).alloc (.cells #[.int .i64 97, .int .i64 0, .int .i64 0, .int .i64 0, .int .i64 3, .int .i64 1] 64)) = w4 at *
  have iA4 := IA.out.below b4 (Nat.le_refl _)
  have iB4 := IB.out.below b4 (Nat.le_refl _)
  have HB4 := Lib.hid (HB3.out.trans (b4.mono HB3.out.size))
  have hlt4 : w3.heap.size < w4.heap.size := WrRaw.lt hwr
  have hge : w.heap.size ≤ w3.heap.size := HB3.out.size
  have CW := Lib.hid (write_any w3.heap.size (.slice none 0 0) [] (some ⟨a, 0, none⟩) (some ⟨b, 0, none⟩) (some ⟨w3.heap.size + 1, 0, none⟩) 288 ca 30 cb 2 2 (ints fxL) (ints fxD) exT w4 hwr rfl rfl rfl iA4 iB4 htk
    (fun _ x hx => by cases hx; exact ⟨by simp, fun h => by cases h⟩) (by decide) (by decide) (by decide) (by decide))
  rw [ex_wr, nats_ints, nats_ints] at CW
  have la : a < w3.heap.size := by obtain ⟨g, off, e, hg, _⟩ := IA.out (by decide); cases e; exact hg
  have lb : b < w3.heap.size := by obtain ⟨g, off, e, hg, _⟩ := IB.out (by decide); cases e; exact hg
  have IA4 := Lib.hid iA4
  have IB4 := Lib.hid iB4
  clear hwr b4 htk IA IB HB3 iA4 iB4
  refine CW.out.mono ?_
  rintro r w5 ⟨rfl, v5, h5, k5, n5⟩
  have h5' : WrAt w5 w3.heap.size v5 (wrBits fxL fxD exT) := h5
  have hv5 : ∀ i, v5.ownBlock = some i → w.heap.size ≤ i := fun i hi => by
    rcases n5 i hi with h | h
    · cases h
    · omega
  have IA5 := Lib.hid (ints_block IA4.out k5.size fun g off e hg => by cases e; exact k5.block a hg (by omega) (fun h => by cases h))
  have IB5 := Lib.hid (ints_block IB4.out k5.size fun g off e hg => by cases e; exact k5.block b hg (by omega) (fun h => by cases h))
  have HB5 := Lib.hid (below_but HB4.out (Nat.le_refl _) k5 hge (fun i h => by cases h))
  have CS := Lib.hid (wstring_any w3.heap.size v5 _ w5 h5')
  clear h5 h5' k5 n5 IA4 IB4 HB4 CW
  go_wp2_with fail
  refine CS.out.mono ?_
  rintro r w6 ⟨rfl, rfl⟩
  have hexb : (⟨(pack (wrBits fxL fxD exT)).toArray⟩ : ByteArray) = exB := rfl
  rw [hexb]
  clear CS hexb
  go_wp2_with fail
  refine (rnew_any exB _).mono ?_
  rintro r w6 ⟨rfl, r6, b6⟩
  have HB6 := Lib.hid (HB5.out.trans (b6.mono HB5.out.size))
  have CR := Lib.hid (read_any w5.heap.size exB 0 (some ⟨a, 0, none⟩) (some ⟨b, 0, none⟩) 288 ca 30 cb (ints fxL) (ints fxD) 9 w6 r6 (Nat.zero_le _) (Nat.le_trans ex_size (by decide)) rfl rfl (IA5.out.below b6 (Nat.le_refl _)) (IB5.out.below b6 (Nat.le_refl _)) (by decide) (by decide))
  have hge5 : w.heap.size ≤ w5.heap.size := HB5.out.size
  obtain ⟨x1, x2, x3⟩ := ex_rd
  generalize rdG (ints fxL) (ints fxD) (tb exB) 0 9 = res at *
  obtain ⟨rl, re, rj, rb⟩ := res
  simp only at x1 x2 x3 CR
  subst x1
  clear r6 b6 IA5 IB5 HB5
  go_wp2_with fail
  refine CR.out.mono ?_
  rintro r w7 ⟨v7, rfl, o7, _, g7⟩
  have HB7 := Lib.hid (below_grow HB6.out (Nat.le_refl _) g7 hge5)
  rw [x2] at o7
  obtain ⟨g, cap, rfl⟩ := Huf.own_form o7 (by decide)
  have c7 : w7.cell? ⟨g, 4, none⟩ = some (.int .i64 3) := by
    rw [o7.cellAt 4 (by decide)]
    have := (cellsT_get rl 1 (by omega)).2.1
    rw [show 1 * 3 + 1 = 4 from rfl] at this
    rw [this]
    rw [List.getD_eq_getElem?_getD, List.getElem?_eq_getElem (by omega)] at x3
    exact congrArg (fun z => some (Value.int .i64 z)) x3
  clear o7 g7 x2 x3 HB6 CR hv5
  go_wp2_with fail
  go_ret
  exact ⟨rfl, HB7.out⟩
end Go.Proofs.Ytikfenimgjeplaa.Sym
