/-
  Proved: whatever is asked of octets.Cursor, in whatever order, each answer and what is left is just what the document's reference answers (statement OctetsReads). Conditions: none.
-/
import Derived.Test.YtfelecomjllphaaRows
import Derived.Test.YtfelecomjllphaaOctBack
import Derived.WalkKit
import Derived.ProofKit
import Derived.OpenShut
import Derived.ShutString
import Derived.ChangeOld
import Derived.Below
namespace Go.Proofs.Ytfelecomjllphaa.octetsReads
open Go.Proofs.Ytfelecomjllphaa.Oct
open Go.ChangeShapes Go.WideShapes Go.ChangeAt Go.RowKit
open Go.ChangeMaps (open_string shut_string)
set_option linter.unusedVariables false

theorem own : ownKnob Try.prog.godebug = none := by kernel_rfl
theorem laidOut : laidOutB Try.prog = true := by kernel_rfl

/-- WHAT THE WALK IS TOLD OF A SLICE OF INTEGERS THAT CAME IN: it is nil; or it leads to a row of 'cap' cells, the numbers 'zs' (the first 'len' are its elements, the rest its spare room), each fitting its kind. -/
def IsRow (k : IntKind) (w : World) (a : Option Addr) (len cap : Nat) (zs : List Int) : Prop :=
  (a = none ∧ len = 0 ∧ cap = 0 ∧ zs = []) ∨
  ∃ x, a = some x ∧ len ≤ cap ∧ cap ≤ maxLen ∧ zs.length = cap ∧ (∀ i, i < zs.length → w.cell? (x.add i) = some (.int k (zs.getD i 0))) ∧ ∀ n ∈ zs, (Lit.int k n).wf = true

theorem numI_bd {t : ByteArray} {i e n : Int} (h0 : 0 ≤ i) (h1 : i ≤ t.size) : 0 ≤ numI t i e n ∧ numI t i e n ≤ t.size := by
  have := intsz t i e n h0 h1
  unfold numI
  split <;> omega

set_option maxRecDepth 100000 in
set_option maxHeartbeats 4000000 in
theorem main (a0 : ByteArray) (b1 off1 cap1 b2 off2 cap2 len : Nat) (z1 z2 : List Int) (w : World) (q0 : a0.size ≤ 300) (q2 : len ≤ 300) (hb1 : b1 < w.heap.size) (hb2 : b2 < w.heap.size)
    (hz1 : ∀ i, i < len → w.cell? ⟨b1, off1 + i, none⟩ = some (.int .i64 (z1.getD i 0))) (hz2 : ∀ i, i < len → w.cell? ⟨b2, off2 + i, none⟩ = some (.int .i64 (z2.getD i 0))) :
    Calls Try.prog 4 #[.string a0, .slice (some ⟨b1, off1, none⟩) len cap1, .slice (some ⟨b2, off2, none⟩) len cap2] w fun e w' => e = .returned (.bool true) ∧ Below w.heap.size w w' := by
  have HZ1 := Lib.hid hz1
  have HZ2 := Lib.hid hz2
  clear hz1 hz2
  have nn : ((len : Int) != len) = false := by simp
  go_enter Try.func4, Try.ntmps4
  go_wp2_with fail
  refine (works_any _).mono ?_
  rintro r w1 ⟨rfl, bl1⟩
  go_wp2_with fail
  refine (new_any _ _).mono ?_
  rintro r w2 ⟨rfl, c2, bl2⟩
  go_wp2_with fail
  have hne : w1.heap.size < w2.heap.size := c2.lt
  have c3 := c2.alloc (.cells #[.string a0, .int .i64 0, .int .i64 0] 34)
  have d3 : CurAt 34 (w2.alloc (.cells #[.string a0, .int .i64 0, .int .i64 0] 34)) w2.heap.size a0 0 0 := heap_alloc_new _ _
  have bb := (below_next bl1 bl2).alloc (below_next bl1 bl2).size (.cells #[.string a0, .int .i64 0, .int .i64 0] 34)
  have k1 := bl1.size
  generalize w2.alloc (.cells #[.string a0, .int .i64 0, .int .i64 0] 34) = w3 at *
  generalize w1.heap.size = B1 at *
  generalize w2.heap.size = B2 at *
  clear bl1 bl2 c2 w1 w2
  go_loopw [10] (fun i wr => ∃ (k : Nat) (p x : Int), k ≤ len ∧ i = .int .i64 k ∧ 0 ≤ p ∧ p ≤ a0.size ∧ CurAt 49 wr B1 a0 p x ∧ CurAt 34 wr B2 a0 p x ∧ Below w.heap.size w wr) (fun i _ => len - (intOf i).toNat)
  case atStart => exact ⟨0, 0, 0, Nat.zero_le _, rfl, by omega, by omega, c3, d3, bb⟩
  case round =>
    clear c3 d3 bb nn
    obtain ⟨k, p, x, hk, rfl, p0, p1, c4, d4, bl⟩ := hrel
    by_cases hlt : k < len
    · have hcell1 : wr.cell? ⟨b1, off1 + k, none⟩ = some (.int .i64 (z1.getD k 0)) := by rw [bl.cell hb1]; exact HZ1.out k hlt
      have hcell2 : wr.cell? ⟨b2, off2 + k, none⟩ = some (.int .i64 (z2.getD k 0)) := by rw [bl.cell hb2]; exact HZ2.out k hlt
      generalize z1.getD k 0 = u at *
      generalize z2.getD k 0 = v at *
      have i0 : (0 : Int) ≤ k := by omega
      have i1 : (k : Int) < len := by omega
      have hB2 : b2 ≠ B1 := by omega
      have hbw : b2 < wr.heap.size := by have := bl.size; omega
      by_cases t0 : u.tmod 5 = 0
      · have T0 : (u.tmod 5 == 0) = true := by simp [t0]
        clear t0
        go_wp2_with fail
        go_region_held3 (fun w' => w'.cell? ⟨b2, off2 + k, none⟩ = some (.int .i64 v)) (first | exact hcell2 | exact hk5 | exact hk6)
          (first
            | (go_at_call 16; refine (int_any _ _ _ _ _ _ (show CurAt _ wr.drew _ _ _ _ from c4) p0 p1 (by omega)).mono ?_; rintro r w5 ⟨rfl, c5, g5⟩; have hk5 : w5.cell? ⟨b2, off2 + k, none⟩ = some (.int .i64 v) := (World.cell?_of_block (w := wr) (g5.block b2 hbw (by simp; omega))).trans hcell2)
            | (go_at_call 17; refine (refCInt_any _ _ _ _ _ _ (CurAt.kept (show CurAt _ wr.drew _ _ _ _ from d4) g5 (by simp; omega)) p0 p1 (by omega)).mono ?_; rintro r w6 ⟨rfl, d6, g6⟩; have hk6 : w6.cell? ⟨b2, off2 + k, none⟩ = some (.int .i64 v) := (World.cell?_of_block (w := w5) (g6.block b2 (Nat.lt_of_lt_of_le hbw g5.size) (by simp; omega))).trans hk5))
        have c6 := c5.kept g6 (by simp; omega)
        have bl6 : Below w.heap.size w w6 := below_grown (below_grown (show Below w.heap.size w wr.drew from bl.drew) g5 k1) g6 (by omega)
        have p0' := (numI_bd (e := x) (n := v) p0 p1).1
        have p1' := (numI_bd (e := x) (n := v) p0 p1).2
        clear g5 g6 c5 hk5 hk6 hcell1 hcell2 c4 d4 bl
        generalize numI a0 p x v = p' at *
        generalize numE a0 p x v = x' at *
        clear p0 p1
        obtain ⟨e0, e1, e2, _, _⟩ := d6.cells
        have E1 : IntKind.i64.wrap ((a0.size : Int) - p') = a0.size - p' := IntWalk.i64_in _ (by omega)
        go_wp2_with fail
        go_quiet (first
          | (go_at_call 24; exact quiet_w (at_any _ _ _ _ _ (show CurAt _ (w6.drewN _) _ _ _ _ from c6)))
          | (go_at_call 25; exact Calls.quiet_of (left_any _ _ _ _ _ (show CurAt _ (w6.drewN _) _ _ _ _ from c6) p0' p1' (by omega)))
          | (go_at_call 26; exact quiet_w (err_any _ _ _ _ _ (show CurAt _ (w6.drewN _) _ _ _ _ from c6)))
          | (go_at_call 27; exact Calls.quiet_of (end_any _ _ _ _ _ (show CurAt _ (w6.drewN _) _ _ _ _ from c6) p0' p1' (by omega)))
          | (go_at_call 28; exact Calls.quiet_of (refEnd_any _ _ _ _ _ (show CurAt _ (w6.drewN _) _ _ _ _ from d6) p0' p1' (by omega))))
        go_wp2_with fail
        refine ⟨⟨k + 1, p', x', by omega, by go_num, p0', p1', c6, d6, below_drewN bl6 _⟩, ?_⟩
        simp [intOf]; omega
      by_cases t1 : u.tmod 5 = 1
      · have T0 : (u.tmod 5 == 0) = false := by simp [t0]
        have T1 : (u.tmod 5 == 1) = true := by simp [t1]
        clear t0 t1
        go_wp2_with fail
        go_region_held3 (fun w' => w'.cell? ⟨b2, off2 + k, none⟩ = some (.int .i64 v)) (first | exact hcell2 | exact hk5 | exact hk6)
          (first
            | (go_at_call 18; refine (lit_any _ _ _ _ _ _ (show CurAt _ wr.drew _ _ _ _ from c4) p0 p1 (by omega)).mono ?_; rintro r w5 ⟨rfl, c5, g5⟩; have hk5 : w5.cell? ⟨b2, off2 + k, none⟩ = some (.int .i64 v) := (World.cell?_of_block (w := wr) (g5.block b2 hbw (by simp; omega))).trans hcell2)
            | (go_at_call 19; refine (refCLittle_any _ _ _ _ _ _ (CurAt.kept (show CurAt _ wr.drew _ _ _ _ from d4) g5 (by simp; omega)) p0 p1 (by omega)).mono ?_; rintro r w6 ⟨rfl, d6, g6⟩; have hk6 : w6.cell? ⟨b2, off2 + k, none⟩ = some (.int .i64 v) := (World.cell?_of_block (w := w5) (g6.block b2 (Nat.lt_of_lt_of_le hbw g5.size) (by simp; omega))).trans hk5))
        have c6 := c5.kept g6 (by simp; omega)
        have bl6 : Below w.heap.size w w6 := below_grown (below_grown (show Below w.heap.size w wr.drew from bl.drew) g5 k1) g6 (by omega)
        have p0' := (numI_bd (e := x) (n := v) p0 p1).1
        have p1' := (numI_bd (e := x) (n := v) p0 p1).2
        clear g5 g6 c5 hk5 hk6 hcell1 hcell2 c4 d4 bl
        generalize numI a0 p x v = p' at *
        generalize numE a0 p x v = x' at *
        clear p0 p1
        obtain ⟨e0, e1, e2, _, _⟩ := d6.cells
        have E1 : IntKind.i64.wrap ((a0.size : Int) - p') = a0.size - p' := IntWalk.i64_in _ (by omega)
        go_wp2_with fail
        go_quiet (first
          | (go_at_call 24; exact quiet_w (at_any _ _ _ _ _ (show CurAt _ (w6.drewN _) _ _ _ _ from c6)))
          | (go_at_call 25; exact Calls.quiet_of (left_any _ _ _ _ _ (show CurAt _ (w6.drewN _) _ _ _ _ from c6) p0' p1' (by omega)))
          | (go_at_call 26; exact quiet_w (err_any _ _ _ _ _ (show CurAt _ (w6.drewN _) _ _ _ _ from c6)))
          | (go_at_call 27; exact Calls.quiet_of (end_any _ _ _ _ _ (show CurAt _ (w6.drewN _) _ _ _ _ from c6) p0' p1' (by omega)))
          | (go_at_call 28; exact Calls.quiet_of (refEnd_any _ _ _ _ _ (show CurAt _ (w6.drewN _) _ _ _ _ from d6) p0' p1' (by omega))))
        go_wp2_with fail
        refine ⟨⟨k + 1, p', x', by omega, by go_num, p0', p1', c6, d6, below_drewN bl6 _⟩, ?_⟩
        simp [intOf]; omega
      by_cases t2 : u.tmod 5 = 2
      · have T0 : (u.tmod 5 == 0) = false := by simp [t0]
        have T1 : (u.tmod 5 == 1) = false := by simp [t1]
        have T2 : (u.tmod 5 == 2) = true := by simp [t2]
        clear t0 t1 t2
        go_wp2_with fail
        refine (csigned_any _ _ _ _ _ c4 p0 p1 (by omega)).mono ?_
        rintro r w5 ⟨rfl, c5, g5⟩
        have d5 := d4.kept g5 (by simp; omega)
        go_wp2_with fail
        refine (refCSigned_any _ _ _ _ _ d5 p0 p1 (by omega)).mono ?_
        rintro r w6 ⟨rfl, d6, g6⟩
        have c6 := c5.kept g6 (by simp; omega)
        have bl6 : Below w.heap.size w w6 := below_grown (below_grown bl g5 k1) g6 (by omega)
        have p0' := (numI_bd (e := x) (n := 4) p0 p1).1
        have p1' := (numI_bd (e := x) (n := 4) p0 p1).2
        clear g5 g6 c5 d5 hcell1 hcell2 c4 d4 bl
        generalize numI a0 p x 4 = p' at *
        generalize numE a0 p x 4 = x' at *
        clear p0 p1
        obtain ⟨e0, e1, e2, _, _⟩ := d6.cells
        have E1 : IntKind.i64.wrap ((a0.size : Int) - p') = a0.size - p' := IntWalk.i64_in _ (by omega)
        go_wp2_with fail
        go_quiet (first
          | (go_at_call 24; exact quiet_w (at_any _ _ _ _ _ (show CurAt _ (w6.drewN _) _ _ _ _ from c6)))
          | (go_at_call 25; exact Calls.quiet_of (left_any _ _ _ _ _ (show CurAt _ (w6.drewN _) _ _ _ _ from c6) p0' p1' (by omega)))
          | (go_at_call 26; exact quiet_w (err_any _ _ _ _ _ (show CurAt _ (w6.drewN _) _ _ _ _ from c6)))
          | (go_at_call 27; exact Calls.quiet_of (end_any _ _ _ _ _ (show CurAt _ (w6.drewN _) _ _ _ _ from c6) p0' p1' (by omega)))
          | (go_at_call 28; exact Calls.quiet_of (refEnd_any _ _ _ _ _ (show CurAt _ (w6.drewN _) _ _ _ _ from d6) p0' p1' (by omega))))
        go_wp2_with fail
        refine ⟨⟨k + 1, p', x', by omega, by go_num, p0', p1', c6, d6, below_drewN bl6 _⟩, ?_⟩
        simp [intOf]; omega
      by_cases t3 : u.tmod 5 = 3
      · have T0 : (u.tmod 5 == 0) = false := by simp [t0]
        have T1 : (u.tmod 5 == 1) = false := by simp [t1]
        have T2 : (u.tmod 5 == 2) = false := by simp [t2]
        have T3 : (u.tmod 5 == 3) = true := by simp [t3]
        clear t0 t1 t2 t3
        go_wp2_with fail
        go_region_held3 (fun w' => w'.cell? ⟨b2, off2 + k, none⟩ = some (.int .i64 v)) (first | exact hcell2 | exact hk5 | exact hk6)
          (first
            | (go_at_call 22; refine (bytes_any _ _ _ _ _ _ (show CurAt _ wr.drew _ _ _ _ from c4) p0 p1 (by omega)).mono ?_; rintro r w5 ⟨rfl, c5, g5⟩; have hk5 : w5.cell? ⟨b2, off2 + k, none⟩ = some (.int .i64 v) := (World.cell?_of_block (w := wr) (g5.block b2 hbw (by simp; omega))).trans hcell2)
            | (go_at_call 23; refine (refBytes_any _ _ _ _ _ _ (CurAt.kept (show CurAt _ wr.drew _ _ _ _ from d4) g5 (by simp; omega)) p0 p1 (by omega)).mono ?_; rintro r w6 ⟨rfl, d6, g6⟩; have hk6 : w6.cell? ⟨b2, off2 + k, none⟩ = some (.int .i64 v) := (World.cell?_of_block (w := w5) (g6.block b2 (Nat.lt_of_lt_of_le hbw g5.size) (by simp; omega))).trans hk5))
        have c6 := c5.kept g6 (by simp; omega)
        have bl6 : Below w.heap.size w w6 := below_grown (below_grown (show Below w.heap.size w wr.drew from bl.drew) g5 k1) g6 (by omega)
        have p0' := (intsz a0 p x v p0 p1).1
        have p1' := (intsz a0 p x v p0 p1).2.1
        clear g5 g6 c5 hk5 hk6 hcell1 hcell2 c4 d4 bl
        generalize byI a0 p x v = p' at *
        generalize byE a0 p x v = x' at *
        clear p0 p1
        obtain ⟨e0, e1, e2, _, _⟩ := d6.cells
        have E1 : IntKind.i64.wrap ((a0.size : Int) - p') = a0.size - p' := IntWalk.i64_in _ (by omega)
        go_wp2_with fail
        go_quiet (first
          | (go_at_call 24; exact quiet_w (at_any _ _ _ _ _ (show CurAt _ (w6.drewN _) _ _ _ _ from c6)))
          | (go_at_call 25; exact Calls.quiet_of (left_any _ _ _ _ _ (show CurAt _ (w6.drewN _) _ _ _ _ from c6) p0' p1' (by omega)))
          | (go_at_call 26; exact quiet_w (err_any _ _ _ _ _ (show CurAt _ (w6.drewN _) _ _ _ _ from c6)))
          | (go_at_call 27; exact Calls.quiet_of (end_any _ _ _ _ _ (show CurAt _ (w6.drewN _) _ _ _ _ from c6) p0' p1' (by omega)))
          | (go_at_call 28; exact Calls.quiet_of (refEnd_any _ _ _ _ _ (show CurAt _ (w6.drewN _) _ _ _ _ from d6) p0' p1' (by omega))))
        go_wp2_with fail
        refine ⟨⟨k + 1, p', x', by omega, by go_num, p0', p1', c6, d6, below_drewN bl6 _⟩, ?_⟩
        simp [intOf]; omega
      have T0 : (u.tmod 5 == 0) = false := by simp [t0]
      have T1 : (u.tmod 5 == 1) = false := by simp [t1]
      have T2 : (u.tmod 5 == 2) = false := by simp [t2]
      have T3 : (u.tmod 5 == 3) = false := by simp [t3]
      clear t0 t1 t2 t3
      · have c6 := c4
        have d6 := d4
        have bl6 := bl
        have p0' := p0
        have p1' := p1
        clear c4 d4 bl p0 p1 hcell2
        obtain ⟨e0, e1, e2, _, _⟩ := d6.cells
        have E1 : IntKind.i64.wrap ((a0.size : Int) - p) = a0.size - p := IntWalk.i64_in _ (by omega)
        go_wp2_with fail
        go_quiet (first
          | (go_at_call 24; exact quiet_w (at_any _ _ _ _ _ (show CurAt _ (wr.drewN _) _ _ _ _ from c6)))
          | (go_at_call 25; exact Calls.quiet_of (left_any _ _ _ _ _ (show CurAt _ (wr.drewN _) _ _ _ _ from c6) p0' p1' (by omega)))
          | (go_at_call 26; exact quiet_w (err_any _ _ _ _ _ (show CurAt _ (wr.drewN _) _ _ _ _ from c6)))
          | (go_at_call 27; exact Calls.quiet_of (end_any _ _ _ _ _ (show CurAt _ (wr.drewN _) _ _ _ _ from c6) p0' p1' (by omega)))
          | (go_at_call 28; exact Calls.quiet_of (refEnd_any _ _ _ _ _ (show CurAt _ (wr.drewN _) _ _ _ _ from d6) p0' p1' (by omega))))
        go_wp2_with fail
        refine ⟨⟨k + 1, p, x, by omega, by go_num, p0', p1', c6, d6, below_drewN bl6 _⟩, ?_⟩
        simp [intOf]; omega
    · obtain rfl : k = len := by omega
      go_wp2_with fail
      go_ret
      exact ⟨rfl, bl⟩

theorem early (a0 : ByteArray) (a1 a2 : Option Addr) (l1 c1 l2 c2 : Nat) (w : World) (w0 : a0.size ≤ maxLen) (hl1 : l1 ≤ maxLen) (hl2 : l2 ≤ maxLen) (h : 300 < a0.size ∨ 300 < l1 ∨ l1 ≠ l2) :
    Calls Try.prog 4 #[.string a0, .slice a1 l1 c1, .slice a2 l2 c2] w fun e w' => e = .returned (.bool true) ∧ Below w.heap.size w w' := by
  unfold maxLen at *
  by_cases h1 : 300 < a0.size
  · clear h
    go_enter Try.func4, Try.ntmps4
    go_wp2_with fail
    refine (works_any _).mono ?_
    rintro r w1 ⟨rfl, b1⟩
    go_wp2_with fail
    all_goals (go_ret; exact ⟨rfl, b1⟩)
  by_cases h2 : 300 < l1
  · clear h
    have d1 : decide (300 < (a0.size : Int)) = false := by simp; omega
    have d2 : decide (300 < (l1 : Int)) = true := by simp; omega
    go_enter Try.func4, Try.ntmps4
    go_wp2_with fail
    refine (works_any _).mono ?_
    rintro r w1 ⟨rfl, b1⟩
    go_wp2_with fail
    all_goals (go_ret; exact ⟨rfl, b1⟩)
  have h3 : l1 ≠ l2 := by omega
  clear h
  have d1 : decide (300 < (a0.size : Int)) = false := by simp; omega
  have d2 : decide (300 < (l1 : Int)) = false := by simp; omega
  have d3 : ((l1 : Int) != l2) = true := by rw [bne_iff_ne]; omega
  clear h3
  go_enter Try.func4, Try.ntmps4
  go_wp2_with fail
  refine (works_any _).mono ?_
  rintro r w1 ⟨rfl, b1⟩
  go_wp2_with fail
  all_goals (go_ret; exact ⟨rfl, b1⟩)

theorem none_left (a0 : ByteArray) (a1 a2 : Option Addr) (c1 c2 : Nat) (w : World) (q0 : a0.size ≤ 300) :
    Calls Try.prog 4 #[.string a0, .slice a1 0 c1, .slice a2 0 c2] w fun e w' => e = .returned (.bool true) ∧ Below w.heap.size w w' := by
  go_enter Try.func4, Try.ntmps4
  go_wp2_with fail
  refine (works_any _).mono ?_
  rintro r w1 ⟨rfl, b1⟩
  go_wp2_with fail
  refine (new_any _ _).mono ?_
  rintro r w2 ⟨rfl, c2, b2⟩
  go_wp2_with fail
  refine wp_loop_rounds 1 ?_
  rw [rounds_succ]
  go_wp2_with fail
  go_ret
  exact ⟨rfl, (below_next b1 b2).alloc (below_next b1 b2).size _⟩

theorem walk (a0 : ByteArray) (a1 : Option Addr) (len1 cap1 : Nat) (z1 : List Int) (a2 : Option Addr) (len2 cap2 : Nat) (z2 : List Int) (w : World) (w0 : a0.size ≤ maxLen) (w1 : IsRow .i64 w a1 len1 cap1 z1) (w2 : IsRow .i64 w a2 len2 cap2 z2) :
    Calls Try.prog 4 #[.string a0, .slice a1 len1 cap1, .slice a2 len2 cap2] w fun e w' => e = .returned (.bool true) ∧ Below w.heap.size w w' := by
  have hl : ∀ {a : Option Addr} {l c : Nat} {z : List Int}, IsRow .i64 w a l c z → l ≤ maxLen := by
    rintro a l c z (⟨_, rfl, _⟩ | ⟨x, rfl, h1, h2, _⟩)
    · exact Nat.zero_le _
    · omega
  by_cases h : 300 < a0.size ∨ 300 < len1 ∨ len1 ≠ len2
  · exact early a0 a1 a2 len1 cap1 len2 cap2 w w0 (hl w1) (hl w2) h
  obtain rfl : len1 = len2 := by omega
  by_cases h0 : len1 = 0
  · subst h0
    exact none_left a0 a1 a2 cap1 cap2 w (by omega)
  rcases w1 with ⟨_, h1, _⟩ | ⟨x, rfl, h1, h2, h3, h4, _⟩
  · omega
  rcases w2 with ⟨_, g1, _⟩ | ⟨y, rfl, g1, g2, g3, g4, _⟩
  · omega
  obtain ⟨b1, off1, rfl, hc1⟩ := ints_at h4 (by omega)
  obtain ⟨b2, off2, rfl, hc2⟩ := ints_at g4 (by omega)
  exact main a0 b1 off1 cap1 b2 off2 cap2 len1 z1 z2 w (by omega) (by omega) (World.block_lt_of_cell? w _ (hc1 0 (by omega))) (World.block_lt_of_cell? w _ (hc2 0 (by omega))) (fun i hi => hc1 i (by omega)) (fun i hi => hc2 i (by omega))

set_option maxRecDepth 100000 in
theorem lifted (os : Os) (started : os.Started) (H : Type) (enc : TypeId × Value → H) :
    ReturnsInHanded {} Try.checked os 4 .any (Rows.octetsReadsSpec.pre6 enc Try.prog Try.f4 Rows.octetsReadsRow.domain false) (Rows.octetsReadsSpec.post enc Try.prog Try.f4 false true false false) := by
  refine returnsInHanded_of_change (C := Try.checked) own started (by kernel_rfl) Try.func4
    (ChangeSpec.witness6 (enc := enc) (C := Try.checked) false ⟨#[], #[.string ByteArray.empty, .slice none 0 0, .slice none 0 0], []⟩ 8 (by kernel_rfl) (by kernel_rfl) (by kernel_rfl) (by kernel_rfl)) ?_
  intro W base args ds gs before hval0 hW hcnd _
  have hval : ∀ (j : Nat) t v, Try.f4.params[j]? = some t → args[j]? = some v → Value.okWide Try.prog W .any base t v := hval0
  have hW' := hW
  obtain ⟨p, q, hA0, hV, rfl, hfz, hnd⟩ := hW
  have hA : DataW.TrodAll enc Try.prog W 0 (fun _ => true) true Try.f4.params.toList args.toList ds p := hA0
  rw [Try.params4] at hA hval
  obtain ⟨v0, vs0, d0, ds0, p0, q0, hargs, rfl, rfl, h0, r0⟩ := trodAll_cons hA
  obtain ⟨v1, vs1, d1, ds1, p1, q1, rfl, rfl, rfl, h1, r1⟩ := trodAll_cons r0
  obtain ⟨v2, vs2, d2, ds2, p2, q2, rfl, rfl, rfl, h2, r2⟩ := trodAll_cons r1
  obtain ⟨rfl, rfl, rfl⟩ := trodAll_nil r2
  obtain rfl : args = #[v0, v1, v2] := by cases args; simp_all
  obtain ⟨rfl, rfl⟩ := trodVars_none hV
  obtain ⟨a0, rfl, rfl, rfl, w0⟩ := open_string Try.underlying9 (hval 0 9 v0 rfl rfl) h0
  obtain ⟨a1, len1, cap1, rfl⟩ := okWide_slice Try.underlying29 (hval 1 29 v1 rfl rfl)
  have k1 := h1
  have lt1 : ∀ x ∈ p1, x.block < W.heap.size := by obtain ⟨m, hm⟩ := k1; exact DataW.trod_lt m _ _ _ hm
  obtain ⟨z1, w1⟩ : ∃ zs, IsRow .i64 W a1 len1 cap1 zs := by
    obtain ⟨fuel, hf⟩ := h1
    rcases open_ints Try.underlying29 Try.underlying3 (by kernel_rfl) hf with ⟨hcs, _⟩ | ⟨x, l, c, zs, hcs, _, hl, hm, hz, _, hcell, hwz⟩
    · simp [Value.cells] at hcs
      obtain ⟨rfl, rfl, rfl⟩ := hcs
      exact ⟨[], .inl ⟨rfl, rfl, rfl, rfl⟩⟩
    · simp [Value.cells] at hcs
      obtain ⟨rfl, rfl, rfl⟩ := hcs
      exact ⟨zs, .inr ⟨_, rfl, hl, hm, by simpa using hz, hcell, hwz⟩⟩
  obtain ⟨a2, len2, cap2, rfl⟩ := okWide_slice Try.underlying29 (hval 2 29 v2 rfl rfl)
  have k2 := h2
  have lt2 : ∀ x ∈ p2, x.block < W.heap.size := by obtain ⟨m, hm⟩ := k2; exact DataW.trod_lt m _ _ _ hm
  obtain ⟨z2, w2⟩ : ∃ zs, IsRow .i64 W a2 len2 cap2 zs := by
    obtain ⟨fuel, hf⟩ := h2
    rcases open_ints Try.underlying29 Try.underlying3 (by kernel_rfl) hf with ⟨hcs, _⟩ | ⟨x, l, c, zs, hcs, _, hl, hm, hz, _, hcell, hwz⟩
    · simp [Value.cells] at hcs
      obtain ⟨rfl, rfl, rfl⟩ := hcs
      exact ⟨[], .inl ⟨rfl, rfl, rfl, rfl⟩⟩
    · simp [Value.cells] at hcs
      obtain ⟨rfl, rfl, rfl⟩ := hcs
      exact ⟨zs, .inr ⟨_, rfl, hl, hm, by simpa using hz, hcell, hwz⟩⟩
  clear hA0 hval0
  refine (walk a0 a1 len1 cap1 z1 a2 len2 cap2 z2 W w0 w1 w2).mono fun e W' ⟨he, bel⟩ => ?_
  subst he
  exact ⟨_, rfl, _, _, _, [], _, [], hW', trodAll_mk1 (shut_bool Try.underlying4 _), (trodAll_cons_mk (shut_string Try.underlying9 w0) (trodAll_cons_mk (Below.trod laidOut (by kernel_rfl) (of_decide_eq_true (by kernel_rfl)) k1 bel lt1) (trodAll_cons_mk (Below.trod laidOut (by kernel_rfl) (of_decide_eq_true (by kernel_rfl)) k2 bel lt2) trodAll_mk0))), rfl, bel.frame _, fun h => by cases h⟩

theorem over : Rows.octetsReadsRow.holds Try.pinned (OpenSpec.ofChange Rows.octetsReadsSpec) :=
  OpenClaim.holds_of_wide 4 Try.f4 rfl rfl rfl rfl rfl rfl rfl ⟨rfl, rfl, rfl, rfl, rfl⟩ rfl rfl rfl rfl rfl (by kernel_rfl) Try.func4 (by kernel_rfl)
    (of_decide_eq_true (by kernel_rfl)) (by unfold Func.isWrapper; first | (rw [if_pos (by decide +kernel)]; kernel_rfl) | (rw [if_neg (by decide +kernel)]; exact ⟨rfl, rfl⟩))
    (fun os started H enc _ => lifted os started H enc)

theorem proved : Rows.OctetsReadsSaid := over
end Go.Proofs.Ytfelecomjllphaa.octetsReads
