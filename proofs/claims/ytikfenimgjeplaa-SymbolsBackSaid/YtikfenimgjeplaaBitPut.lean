/-
  Contract of bitio.Writer's put: one bit more.
-/
import Derived.Test.YtikfenimgjeplaaBitWrite
namespace Go.Proofs.Ytikfenimgjeplaa.Bit
open Go.ChangeShapes Go.WideShapes Go.ChangeAt Go.RowKit
set_option linter.unusedVariables false

theorem cellsU_length (l : List UInt8) : (cellsU l).length = l.length := by simp [cellsU]
theorem cellsU_get (l : List UInt8) (i : Nat) : (cellsU l)[i]? = (l[i]?).map fun b => Value.int .u8 b.toNat := by simp [cellsU]
theorem cellsU_set (l : List UInt8) (i : Nat) (x : UInt8) : (cellsU l).set i (.int .u8 x.toNat) = cellsU (l.set i x) := by simp [cellsU, List.map_set]

theorem WrRaw.shape {w : World} {b : Nat} {v : Value} {bs : List UInt8} {f : Int} (h : WrRaw w b v bs f) (hn : 0 < bs.length) : ∃ g cap, v = .slice (some ⟨g, 0, none⟩) bs.length cap ∧ g ≠ b := by
  rcases h.own.2 with ⟨_, h0⟩ | ⟨g, cap, cur, rfl, _⟩
  · omega
  · exact ⟨g, cap, rfl, fun e => h.ne (by rw [e]; rfl)⟩

theorem WrRaw.byteAt {w : World} {b g cap : Nat} {bs : List UInt8} {f : Int} (h : WrRaw w b (.slice (some ⟨g, 0, none⟩) bs.length cap) bs f) (i : Nat) (hi : i < bs.length) :
    w.cell? ⟨g, i, none⟩ = some (.int .u8 (bs[i].toNat : Nat)) ∧ w.frozen? ⟨g, i, none⟩ = false := by
  refine ⟨?_, h.own.frozenAt i⟩
  rw [h.own.cellAt i (by omega), cellsU_get, List.getElem?_eq_getElem hi]
  rfl

theorem WrRaw.stored {w : World} {b g cap : Nat} {bs : List UInt8} {f : Int} (h : WrRaw w b (.slice (some ⟨g, 0, none⟩) bs.length cap) bs f) (i : Nat) (x : UInt8) :
    WrRaw (w.setCell ⟨g, i, none⟩ (.int .u8 x.toNat)) b (.slice (some ⟨g, 0, none⟩) bs.length cap) (bs.set i x) f ∧ But b (.slice (some ⟨g, 0, none⟩) bs.length cap) w (w.setCell ⟨g, i, none⟩ (.int .u8 x.toNat)) := by
  have hne : b ≠ g := fun e => h.ne (by rw [e]; rfl)
  have hs := (h.own.stored i (.int .u8 x.toNat)).1
  rw [cellsU_set] at hs
  refine ⟨⟨?_, by rw [List.length_set]; exact hs⟩, ⟨rfl, rfl, rfl, by simp, fun k _ _ hk => heap_setCell_other w ⟨g, i, none⟩ k _ (fun e => hk (by rw [e]; rfl))⟩⟩
  rw [heap_setCell_other w ⟨g, i, none⟩ b _ hne]; exact h.blk

theorem But.drew (b : Nat) (v : Value) (w : World) : But b v w w.drew := ⟨rfl, rfl, rfl, Nat.le_refl _, fun _ _ _ _ => rfl⟩
theorem WrRaw.drew {w : World} {b : Nat} {v : Value} {bs : List UInt8} {f : Int} (h : WrRaw w b v bs f) : WrRaw w.drew b v bs f := ⟨h.blk, h.own⟩

/-- The region 'bytes[last] |= ..' and what stands behind it: shared by both ways. -/
theorem shl_u8 (bb : Bool) (k : Nat) (hk : k < 8) : IntKind.u8.wrap (IntKind.i64.wrap ((bb.toNat : Int) * 2 ^ k)) = ((2 ^ k * bb.toNat : Nat) : Int) := by
  have hp : (2 : Nat) ^ k ≤ 2 ^ 7 := Nat.pow_le_pow_right (by decide) (by omega)
  have hb : bb.toNat ≤ 1 := by cases bb <;> simp
  have h2 : 2 ^ k * bb.toNat ≤ 2 ^ k * 1 := Nat.mul_le_mul_left _ hb
  have e : (bb.toNat : Int) * 2 ^ k = ((2 ^ k * bb.toNat : Nat) : Int) := by rw [Int.natCast_mul, Int.natCast_pow, Int.mul_comm]; rfl
  rw [e, IntWalk.i64_in _ (by omega), IntKind.wrap_u8']
  omega

set_option maxRecDepth 100000 in
set_option maxHeartbeats 2000000 in
theorem put_some (b g cap : Nat) (bs : List UInt8) (f : Nat) (bb : Bool) (w : World) (h : WrRaw w b (.slice (some ⟨g, 0, none⟩) bs.length cap) bs f) (hl : 0 < bs.length) (f1 : 1 ≤ f) (f8 : f ≤ 7) (hm : bs.length ≤ 1099511627776)
    (x : UInt8) (hx : bs[bs.length - 1]? = some x) (y : UInt8) (hy : bits .or .u8 (x.toNat : Int) ((2 ^ (8 - f) * bb.toNat : Nat) : Int) = y.toNat) :
    Calls Try.prog 46 #[.pointer (some ⟨b, 0, none⟩), .int .i64 bb.toNat] w fun r w' => r = .returned (.tuple #[]) ∧
      WrRaw w' b (.slice (some ⟨g, 0, none⟩) bs.length cap) (bs.set (bs.length - 1) y) (f - 1 : Nat) ∧ But b (.slice (some ⟨g, 0, none⟩) bs.length cap) w w' := by
  obtain ⟨c0, c1, f0, f1'⟩ := h.cells
  have hi : bs.length - 1 < bs.length := by omega
  obtain ⟨c2, f2⟩ := h.byteAt (bs.length - 1) hi
  have ex : bs[bs.length - 1] = x := by rw [List.getElem?_eq_getElem hi] at hx; exact Option.some.inj hx
  rw [ex] at c2
  have e1 : ((bs.length : Int) - 1) = ((bs.length - 1 : Nat) : Int) := by omega
  have k1 : IntKind.i64.wrap ((bs.length : Int) - 1) = ((bs.length - 1 : Nat) : Int) := by rw [← e1]; exact IntWalk.i64_in _ (by omega)
  have k2 : IntKind.i64.wrap (8 - (f : Int)) = ((8 - f : Nat) : Int) := by rw [show (8 - (f : Int)) = ((8 - f : Nat) : Int) by omega]; exact IntWalk.i64_in _ (by omega)
  have k3 : (0 : Int) ≤ ((8 - f : Nat) : Int) := by omega
  have k4 : ((bs.length - 1 : Nat) : Int) < (bs.length : Int) := by omega
  have k5 : (0 : Int) ≤ ((bs.length - 1 : Nat) : Int) := by omega
  have H := Lib.hid h
  rw [← shl_u8 bb (8 - f) (by omega)] at hy
  have HY := Lib.hid hy
  clear h hx ex hy e1
  go_enter Try.func46, Try.ntmps46
  go_wp2
  go_still_tail 22, (by kernel_rfl)
  rw [HY.out]
  change wpList _ _ _ _ _ w.drew
  have h2 := H.out.drew
  have b2 := But.drew b (.slice (some ⟨g, 0, none⟩) bs.length cap) w
  clear c0 c1 c2 f0 f1' f2
  generalize w.drew = w2 at *
  have cz := (h2.byteAt (bs.length - 1) hi).1
  have fz := (h2.byteAt (bs.length - 1) hi).2
  obtain ⟨h3, b3⟩ := h2.stored (bs.length - 1) y
  obtain ⟨c3, c4, f3, f4⟩ := h3.cells
  have H3 := Lib.hid h3
  have B3 := Lib.hid (b2.trans (Near.refl _ _) b3)
  clear h2 b2 h3 b3 k1 k2 k3 k4 k5
  have q1 : (f : Int) - 1 = ((f - 1 : Nat) : Int) := by omega
  go_wp2
  go_end0
  exact ⟨rfl, H3.out.setFree _, B3.out.trans (Near.refl _ _) (But.setCell _ _ _)⟩

theorem WrRaw.alloc {w : World} {b : Nat} {v : Value} {bs : List UInt8} {f : Int} (h : WrRaw w b v bs f) (o : Obj) : WrRaw (w.alloc o) b v bs f := by
  refine ⟨?_, h.own.alloc o⟩
  rw [Below.heap_alloc w o b h.lt]; exact h.blk

theorem But.alloc (b : Nat) (v : Value) (w : World) (o : Obj) : But b v w (w.alloc o) := ⟨rfl, rfl, rfl, by simp, fun k hk _ _ => Below.heap_alloc w o k hk⟩

theorem Near.alloc {w : World} {v v' : Value} {o : Obj} (h : Near (w.alloc o) v v') : Near w v v' := by
  intro k hk
  rcases h k hk with h1 | h1
  · exact .inl h1
  · refine .inr ?_
    have : (w.alloc o).heap.size = w.heap.size + 1 := by simp
    omega

theorem WrRaw.more {w w1 : World} {b : Nat} {v v' : Value} {bs : List UInt8} {f : Int} {o : Obj} (h : WrRaw w b v bs f) (hg : (w.alloc o).grownBy w1 v.ownBlock) (hn : Near (w.alloc o) v v')
    (ho : w1.ownsRow 0 5 1 v' (bs.length + 1) (cellsU bs ++ [.int .u8 0])) :
    ∃ g cap, v' = .slice (some ⟨g, 0, none⟩) (bs.length + 1) cap ∧ w1.cell? ⟨b, 0, none⟩ = some v ∧ w1.frozen? ⟨b, 0, none⟩ = false ∧
      WrRaw (w1.setCell ⟨b, 0, none⟩ v') b v' (bs ++ [0]) f ∧ But b v w (w1.setCell ⟨b, 0, none⟩ v') ∧ Near w v v' := by
  have ha := h.alloc o
  have e : (bs ++ [0]).length = bs.length + 1 := by simp
  have e2 : cellsU (bs ++ [0]) = cellsU bs ++ [.int .u8 0] := by simp [cellsU]
  obtain ⟨h1, h2⟩ := ha.appended (bs' := bs ++ [0]) hg hn (by rw [e, e2]; exact ho)
  have hb : w1.heap[b]? = (w.alloc o).heap[b]? := hg.block b ha.lt (fun e => ha.ne e.symm)
  obtain ⟨c0, _, f0, _⟩ := ha.cells
  obtain ⟨g, cap, rfl, _⟩ := h1.shape (by simp)
  refine ⟨g, cap, by rw [e], ?_, ?_, h1, (But.alloc b v w o).trans (Near.refl _ _) h2, hn.alloc⟩
  · rw [World.cell?_of_block (a := ⟨b, 0, none⟩) hb]; exact c0
  · rw [World.frozen?_of_block (a := ⟨b, 0, none⟩) hb]; exact f0

set_option maxRecDepth 100000 in
set_option maxHeartbeats 2000000 in
theorem put_none (b : Nat) (v : Value) (bs : List UInt8) (bb : Bool) (w : World) (h : WrRaw w b v bs 0) (hm : bs.length ≤ 1099511627776) :
    Calls Try.prog 46 #[.pointer (some ⟨b, 0, none⟩), .int .i64 bb.toNat] w fun r w' => r = .returned (.tuple #[]) ∧
      ∃ v', WrRaw w' b v' (bs ++ [UInt8.ofNat bb.toNat]) 7 ∧ But b v w w' ∧ Near w v v' := by
  obtain ⟨i0, hi, hz0, hz1, hz2⟩ := info_parts info_u8
  obtain ⟨c0, c1, f0, f1'⟩ := h.cells
  have H := Lib.hid h
  have hown := h.own
  clear h
  go_enter Try.func46, Try.ntmps46
  go_wp2_with (at_builtin; refine wpList_append_near _ rfl _ _ 37 rfl 5 i0 (.int .u8 0) 1 1 Try.underlying37 hi hz0 hz1 hz2 rfl (by decide) v bs.length (cellsU bs) rfl (hown.alloc _) ⟨w.heap.size, 0, none⟩ 1 1 [.int .u8 0] rfl rfl (cell_one_new _ _ _) (by intro u hu; simp at hu; subst hu; rfl) (by unfold maxLen; omega) (by omega) ?_; intro v' w1 hown1 hgrow hnear; obtain ⟨g, cap, rfl, c3, f3, h3, b3, n3⟩ := H.out.more hgrow hnear hown1; clear hown hown1 hgrow hnear c0 c1 f0 f1' hi hz0 hz1 hz2; obtain ⟨c4, c5, f4, f5⟩ := h3.cells; have H3 := Lib.hid h3; have B3 := Lib.hid b3; have N3 := Lib.hid n3; clear h3 b3 n3)
  have h4 := H3.out.setFree 8
  have b4 := B3.out.trans N3.out (But.setCell (b := b) (v := .slice (some ⟨g, 0, none⟩) (bs.length + 1) cap) _ 1 (.int .i64 8))
  have s4 := b4.size
  have e : bs.length + 1 = (bs ++ [0]).length := by simp
  have x0 : (bs ++ [(0 : UInt8)])[(bs ++ [(0 : UInt8)]).length - 1]? = some 0 := by simp
  have y0 : (bs ++ [(0 : UInt8)]).set ((bs ++ [(0 : UInt8)]).length - 1) (UInt8.ofNat bb.toNat) = bs ++ [UInt8.ofNat bb.toNat] := by simp
  have l0 : 0 < (bs ++ [(0 : UInt8)]).length := by simp
  have m0 : (bs ++ [(0 : UInt8)]).length ≤ 1099511627777 := by simp; omega
  clear c3 f3 c4 c5 f4 f5 H3 B3
  generalize (w1.setCell ⟨b, 0, none⟩ (.slice (some ⟨g, 0, none⟩) (bs.length + 1) cap)).setCell ⟨b, 1, none⟩ (.int .i64 8) = w4 at *
  rw [e] at h4 ⊢
  have N4 : Hid (Near w v (.slice (some ⟨g, 0, none⟩) (bs ++ [(0 : UInt8)]).length cap)) := by rw [← e]; exact N3
  clear N3 e
  have Y0 := Lib.hid y0
  clear y0
  generalize bs ++ [(0 : UInt8)] = cs at *
  clear hm H
  have hy : bits .or .u8 ((0 : UInt8).toNat : Int) ((2 ^ (8 - 8) * bb.toNat : Nat) : Int) = (UInt8.ofNat bb.toNat).toNat := by cases bb <;> rfl
  obtain ⟨f, hf⟩ : ∃ f : Nat, 8 = f := ⟨8, rfl⟩
  have e8 : ((8 : Nat) : Int) = (f : Int) := by rw [hf]
  have h5 : WrRaw w4 b (.slice (some ⟨g, 0, none⟩) cs.length cap) cs f := by rw [← e8]; exact h4
  have hy' : bits .or .u8 ((0 : UInt8).toNat : Int) ((2 ^ (8 - f) * bb.toNat : Nat) : Int) = (UInt8.ofNat bb.toNat).toNat := by rw [← hf]; exact hy
  have f1 : 1 ≤ f := by omega
  have f8 : f ≤ 8 := by omega
  have B4 := Lib.hid b4
  have HF := Lib.hid hf
  clear h4 hy hf e8 b4 s4
  obtain ⟨y, hyy⟩ : ∃ y, UInt8.ofNat bb.toNat = y := ⟨_, rfl⟩
  rw [hyy] at hy'
  obtain ⟨x, hxx⟩ : ∃ x : UInt8, (0 : UInt8) = x := ⟨_, rfl⟩
  rw [hxx] at hy' x0
  clear hxx
  have YY := Lib.hid hyy
  clear hyy
  obtain ⟨c0, c1, f0, f1'⟩ := h5.cells
  have hi : cs.length - 1 < cs.length := by omega
  obtain ⟨c2, f2⟩ := h5.byteAt (cs.length - 1) hi
  have ex : cs[cs.length - 1] = x := by rw [List.getElem?_eq_getElem hi] at x0; exact Option.some.inj x0
  rw [ex] at c2
  have e1 : ((cs.length : Int) - 1) = ((cs.length - 1 : Nat) : Int) := by omega
  have k1 : IntKind.i64.wrap ((cs.length : Int) - 1) = ((cs.length - 1 : Nat) : Int) := by rw [← e1]; exact IntWalk.i64_in _ (by omega)
  have k2 : IntKind.i64.wrap (8 - (f : Int)) = ((8 - f : Nat) : Int) := by rw [show (8 - (f : Int)) = ((8 - f : Nat) : Int) by omega]; exact IntWalk.i64_in _ (by omega)
  have k3 : (0 : Int) ≤ ((8 - f : Nat) : Int) := by omega
  have k4 : ((cs.length - 1 : Nat) : Int) < (cs.length : Int) := by omega
  have k5 : (0 : Int) ≤ ((cs.length - 1 : Nat) : Int) := by omega
  have H := Lib.hid h5
  rw [← shl_u8 bb (8 - f) (by omega)] at hy'
  have HY := Lib.hid hy'
  clear h5 x0 ex hy' e1
  go_still_tail 22, (by kernel_rfl)
  rw [HY.out]
  change wpList _ _ _ _ _ w4.drew
  have h2 := H.out.drew
  have b2 := B4.out.trans N4.out (But.drew b (.slice (some ⟨g, 0, none⟩) cs.length cap) w4)
  clear c0 c1 c2 f0 f1' f2 H B4
  generalize w4.drew = w2 at *
  have cz := (h2.byteAt (cs.length - 1) hi).1
  have fz := (h2.byteAt (cs.length - 1) hi).2
  obtain ⟨h3, b3⟩ := h2.stored (cs.length - 1) y
  obtain ⟨c3, c4, f3, f4⟩ := h3.cells
  have H3 := Lib.hid h3
  have B3 := Lib.hid (b2.trans N4.out b3)
  clear h2 b2 h3 b3 k1 k2 k3 k4 k5
  have q1 : (f : Int) - 1 = 7 := by have := HF.out; omega
  go_wp2
  go_end0
  refine ⟨rfl, _, ?_, B3.out.trans N4.out (But.setCell _ _ _), N4.out⟩
  rw [← Y0.out, YY.out]
  exact H3.out.setFree _
end Go.Proofs.Ytikfenimgjeplaa.Bit
