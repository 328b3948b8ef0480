/-
  What keeps a writer and a reader as they were, and the contract of 'works': the document's examples.
-/
import Derived.Test.YtdgoaccnjlkdcaaBitWr
import Derived.Test.YtdgoaccnjlkdcaaBitRd
namespace Go.Proofs.Ytdgoaccnjlkdcaa.Bit
open Go.ChangeShapes Go.WideShapes Go.ChangeAt Go.RowKit
set_option linter.unusedVariables false

/-- The row of v lies from block B on. -/
def From (B : Nat) (v : Value) : Prop := ∀ k, v.ownBlock = some k → B ≤ k

theorem From.nil (B : Nat) : From B (.slice none 0 0) := by intro k hk; simp [Value.ownBlock] at hk
theorem From.near {B : Nat} {w : World} {v v' : Value} (h : From B v) (n : Near w v v') (hB : B ≤ w.heap.size) : From B v' := by
  intro k hk
  rcases n k hk with h1 | h1
  · exact h k h1
  · omega

theorem below_but {B b : Nat} {v : Value} {w0 w w' : World} (h : Below B w0 w) (hB : B ≤ w0.heap.size) (k : But b v w w') (hb : B ≤ b) (hv : From B v) : Below B w0 w' :=
  h.trans ⟨k.os, k.tape, k.output, k.size, fun i hi => k.block i (by have := h.size; omega) (by omega) (fun e => by have := hv i e.symm; omega)⟩

theorem below_grow {B b : Nat} {w0 w w' : World} (h : Below B w0 w) (hB : B ≤ w0.heap.size) (k : w.grownBy w' (some b)) (hb : B ≤ b) : Below B w0 w' :=
  h.trans ⟨k.os, k.tape, k.output, k.size, fun i hi => k.block i (by have := h.size; omega) (by simp; omega)⟩

theorem below_more {B : Nat} {w0 w w' : World} (h : Below B w0 w) (hB : B ≤ w0.heap.size) (k : Below w.heap.size w w') : Below B w0 w' := h.trans (k.mono (by have := h.size; omega))

theorem below_draws {w a : World} {B : Nat} (h : Below B w a) (n : Nat) : Below B w (a.drewN n) := ⟨h.os, h.tape, h.output, h.size, h.block⟩

/-- A writer is as it was where its blocks are. -/
theorem WrRaw.same {w w' : World} {b : Nat} {v : Value} {bs : List UInt8} {f : Int} (h : WrRaw w b v bs f) (hb : w'.heap[b]? = w.heap[b]?) (hv : ∀ k, v.ownBlock = some k → w'.heap[k]? = w.heap[k]?) : WrRaw w' b v bs f :=
  ⟨by rw [hb]; exact h.blk, ownsRow_block h.own hv⟩

theorem WrRaw.underBut {w w' : World} {b b2 B : Nat} {v v2 : Value} {bs : List UInt8} {f : Int} (h : WrRaw w b v bs f) (hb : b < B) (hv : ∀ k, v.ownBlock = some k → k < B) (k : But b2 v2 w w') (hb2 : B ≤ b2) (hv2 : From B v2) : WrRaw w' b v bs f :=
  h.same (k.block b h.lt (by omega) (fun e => by have := hv2 b e.symm; omega)) (fun i hi => k.block i (h.own.lt i hi).2 (by have := hv i hi; omega) (fun e => by have := hv2 i e.symm; have := hv i hi; omega))

theorem WrRaw.underGrow {w w' : World} {b b2 : Nat} {v : Value} {bs : List UInt8} {f : Int} (h : WrRaw w b v bs f) (k : w.grownBy w' (some b2)) (hb : b ≠ b2) (hv : v.ownBlock ≠ some b2) : WrRaw w' b v bs f :=
  h.same (k.block b h.lt (by simp; exact hb)) (fun i hi => k.block i (h.own.lt i hi).2 (fun e => hv (by rw [hi, e])))

theorem RdAt.below {T : TypeId} {w w' : World} {b : Nat} {t : ByteArray} {i : Nat} {e : Bool} (h : RdAt T w b t i e) (k : Below w.heap.size w w') : RdAt T w' b t i e := by
  have hl := h.lt
  unfold RdAt at *
  rw [k.block b hl]; exact h

theorem RdAt.underBut {T : TypeId} {w w' : World} {b b2 : Nat} {v2 : Value} {t : ByteArray} {i : Nat} {e : Bool} (h : RdAt T w b t i e) (k : But b2 v2 w w') (hb : b ≠ b2) (hv : v2.ownBlock ≠ some b) : RdAt T w' b t i e := by
  have hl := h.lt
  unfold RdAt at *
  rw [k.block b hl hb (fun e => hv e.symm)]; exact h

theorem WrRaw.draws {w : World} {b : Nat} {v : Value} {bs : List UInt8} {f : Int} (h : WrRaw w b v bs f) (n : Nat) : WrRaw (w.drewN n) b v bs f := ⟨h.blk, h.own⟩

/-- A new writer. -/
theorem WrAt.new (w : World) : WrAt (w.alloc (.cells #[.slice none 0 0, .int .i64 0] 28)) w.heap.size (.slice none 0 0) [] :=
  ⟨heap_alloc_new _ _, World.ownsRow_nil _ _ _ _⟩

theorem below_alloc {B : Nat} {w0 w : World} (h : Below B w0 w) (hB : B ≤ w0.heap.size) (o : Obj) : Below B w0 (w.alloc o) := h.alloc (by have := h.size; omega) o

theorem v_w : pack (([] ++ bitsOf (cnt 3) 5) ++ bitsOf (cnt 2) 1) = [13] := by decide +kernel
theorem v_v : pack ([] ++ codeBits 6 3) = [3] := by decide +kernel
theorem v_l : (([] ++ bitsOf (cnt 3) 5) ++ bitsOf (cnt 2) 1).length = 5 := by decide +kernel
theorem v_r1 : rV (tb ⟨#[13]⟩) 0 false (cnt 3) = 5 ∧ rI (tb ⟨#[13]⟩) 0 false (cnt 3) = 3 ∧ rOk (tb ⟨#[13]⟩) 0 false (cnt 3) = true := by decide +kernel
theorem v_r2 : rV (tb ⟨#[13]⟩) 3 false (cnt 2) = 1 ∧ rI (tb ⟨#[13]⟩) 3 false (cnt 2) = 5 ∧ rOk (tb ⟨#[13]⟩) 3 false (cnt 2) = true := by decide +kernel
theorem v_r3 : rV (tb ⟨#[13]⟩) 5 false (cnt 4) = 0 ∧ rI (tb ⟨#[13]⟩) 5 false (cnt 4) = 5 ∧ rOk (tb ⟨#[13]⟩) 5 false (cnt 4) = false := by decide +kernel
theorem v_t : (tb ⟨#[13]⟩).length = 8 := by decide +kernel

set_option maxRecDepth 100000 in
set_option maxHeartbeats 4000000 in
theorem works_any (w : World) :
    Calls Try.prog 8 #[] w fun e w' => e = .returned (.bool true) ∧ Below w.heap.size w w' := by
  have hB := Nat.le_refl w.heap.size
  go_enter Try.func8, Try.ntmps8
  go_wp2_with fail
  have h1 := WrAt.new w
  have bl1 := (Below.refl w.heap.size w).alloc hB (.cells #[.slice none 0 0, .int .i64 0] 28)
  generalize w.alloc (.cells #[.slice none 0 0, .int .i64 0] 28) = w1 at *
  refine (wbits_any _ _ _ _ _ _ h1 (by decide)).mono ?_
  rintro r w2 ⟨rfl, v2, h2, b2, n2⟩
  have bl2 := below_but bl1 hB b2 hB (From.nil _)
  have o2 := (From.nil w.heap.size).near n2 bl1.size
  clear h1 bl1 b2 n2
  go_wp2_with fail
  refine (wbits_any _ _ _ _ _ _ h2 (by decide)).mono ?_
  rintro r w3 ⟨rfl, v3, h3, b3, n3⟩
  have bl3 := below_but bl2 hB b3 hB o2
  have o3 := o2.near n3 bl2.size
  clear h2 bl2 b3 n3 o2
  go_wp2_with fail
  have g3 := WrRaw.alloc h3 (.cells #[.slice none 0 0, .int .i64 0] 28)
  have h4 := WrAt.new w3
  have lt3 : w.heap.size < w3.heap.size := WrRaw.lt h3
  have lv3 : ∀ k, v3.ownBlock = some k → k < w3.heap.size := fun k hk => (h3.own.lt k hk).2
  have bl4 := below_alloc bl3 hB (.cells #[.slice none 0 0, .int .i64 0] 28)
  have z4 : w3.heap.size ≤ (w3.alloc (.cells #[.slice none 0 0, .int .i64 0] 28)).heap.size := by simp
  generalize w3.alloc (.cells #[.slice none 0 0, .int .i64 0] 28) = w4 at *
  generalize w3.heap.size = B3 at *
  clear h3 bl3
  refine (wcode_any _ _ _ _ _ _ h4 (by decide)).mono ?_
  rintro r w5 ⟨rfl, v5, h5, b5, n5⟩
  have g5 := g3.underBut lt3 lv3 b5 (Nat.le_refl _) (From.nil _)
  have bl5 := below_but bl4 hB b5 (by omega) (From.nil _)
  have o5 := (From.nil B3).near n5 z4
  have z5 := Nat.le_trans z4 b5.size
  clear h4 g3 bl4 b5 n5
  go_wp2_with fail
  refine (rnew_any _ _).mono ?_
  rintro r w6 ⟨rfl, r6, b6⟩
  have g6 := WrRaw.below g5 b6
  have h6 := WrRaw.below h5 b6
  have bl6 := below_more bl5 hB b6
  have l5 := WrRaw.lt g5
  have l5' := WrRaw.lt h5
  have lo3 : v3.ownBlock ≠ some w5.heap.size := fun e => by have := (g5.own.lt _ e).2; omega
  have lo5 : v5.ownBlock ≠ some w5.heap.size := fun e => by have := (h5.own.lt _ e).2; omega
  clear g5 h5 b6 bl5
  have z5' : w.heap.size ≤ w5.heap.size := by omega
  generalize w5.heap.size = B5 at *
  go_wp2_with fail
  refine (wstring_any _ _ _ _ g6).mono ?_
  rintro r w7 ⟨rfl, rfl⟩
  rw [v_w]
  go_wp2_with fail
  refine (wlen_any _ _ _ _ g6 (by rw [v_l]; decide)).mono ?_
  rintro r w7 ⟨rfl, n7, rfl⟩
  rw [v_l]
  go_wp2_with fail
  refine (wstring_any _ _ ([] ++ codeBits 6 3) _ (WrRaw.draws h6 n7)).mono ?_
  rintro r w7 ⟨rfl, rfl⟩
  rw [v_v]
  go_wp2_with fail
  refine (rbits_any _ _ _ _ _ _ (show RdAt _ (w6.drewN n7) _ _ _ _ from r6) (by decide) (by decide)).mono ?_
  rintro r w8 ⟨rfl, r8, g8⟩
  rw [v_r1.1]
  rw [v_r1.2.1, v_r1.2.2] at r8
  have bl8 := below_grow (below_draws bl6 n7) hB g8 z5'
  clear g6 h6 r6 g8 bl6
  go_wp2_with fail
  refine (rbits_any _ _ _ _ _ _ (show RdAt _ w8 _ _ _ false from r8) (by decide +kernel) (by decide)).mono ?_
  rintro r w9 ⟨rfl, r9, g9⟩
  rw [v_r2.1]
  rw [v_r2.2.1, v_r2.2.2] at r9
  have bl9 := below_grow bl8 hB g9 z5'
  clear r8 g9 bl8
  go_wp2_with fail
  refine (rleft_any _ _ _ _ _ (show RdAt _ w9 _ _ _ false from r9) (by decide +kernel) (by decide)).mono ?_
  rintro r w10 ⟨rfl, n10, rfl⟩
  rw [v_t]
  go_wp2_with fail
  refine (rbits_any _ _ _ _ _ _ (show RdAt _ (w9.drewN n10) _ _ _ false from r9) (by decide +kernel) (by decide)).mono ?_
  rintro r w11 ⟨rfl, r11, g11⟩
  rw [v_r3.1]
  rw [v_r3.2.1, v_r3.2.2] at r11
  have bl11 := below_grow (below_draws bl9 n10) hB g11 z5'
  clear r9 g11 bl9
  go_wp2_with fail
  refine (rerr_any _ _ _ _ _ (show RdAt _ w11 _ _ _ true from r11)).mono ?_
  rintro r w12 ⟨rfl, rfl⟩
  have HB := Lib.hid bl11
  clear bl11 r11
  go_wp2_with fail
  go_ret
  exact ⟨rfl, HB.out⟩
end Go.Proofs.Ytdgoaccnjlkdcaa.Bit
