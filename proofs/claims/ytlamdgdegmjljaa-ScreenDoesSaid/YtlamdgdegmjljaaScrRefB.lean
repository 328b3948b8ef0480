/-
  Contracts of the reference of layer 14 (screen): black images.
-/
import Derived.Test.YtlamdgdegmjljaaScrRefA
namespace Go.Proofs.Ytlamdgdegmjljaa.Scr
open Go.ChangeShapes Go.WideShapes Go.ChangeAt Go.RowKit Lz RowG RegVal Reg
set_option linter.unusedVariables false
set_option maxRecDepth 100000

/-- A variable that holds an image. -/
def VarAt (w : World) (g : Nat) (W H : Int) (v : Value) : Prop := w.heap[g]? = some (.cells #[.int .i64 W, .int .i64 H, v] 32 (0, 0))
theorem VarAt.cells {w : World} {g : Nat} {W H : Int} {v : Value} (h : VarAt w g W H v) : (w.cell? ⟨g, 0, none⟩ = some (.int .i64 W) ∧ w.cell? ⟨g, 1, none⟩ = some (.int .i64 H) ∧ w.cell? ⟨g, 2, none⟩ = some v) ∧ ∀ i, w.frozen? ⟨g, i, none⟩ = false :=
  ⟨⟨cell_of_row w g 0 _ _ _ h, cell_of_row w g 1 _ _ _ h, cell_of_row w g 2 _ _ _ h⟩, fun i => frozen_of_row w g i _ _ h⟩
theorem VarAt.lt {w : World} {g : Nat} {W H : Int} {v : Value} (h : VarAt w g W H v) : g < w.heap.size := (Array.getElem?_eq_some_iff.1 h).1
theorem VarAt.below {w w' : World} {g B : Nat} {W H : Int} {v : Value} (h : VarAt w g W H v) (k : Below B w w') (hg : g < B) : VarAt w' g W H v := (k.block g hg).trans h
theorem VarAt.new (w : World) (W H : Int) (v : Value) : VarAt (w.alloc (.cells #[.int .i64 W, .int .i64 H, v] 32)) w.heap.size W H v := heap_alloc_new _ _
theorem VarAt.set {w : World} {g : Nat} {W H : Int} {v : Value} (h : VarAt w g W H v) (u : Value) : VarAt (w.setCell ⟨g, 2, none⟩ u) g W H u := setAt h rfl
theorem VarAt.other {w : World} {g R : Nat} {W H : Int} {v : Value} (h : VarAt w g W H v) (hR : R ≠ g) (i : Nat) (u : Value) : VarAt (w.setCell ⟨R, i, none⟩ u) g W H v :=
  (heap_setCell_other w ⟨R, i, none⟩ g u (Ne.symm hR)).trans h
theorem row_other {B g i : Nat} {w : World} {v u : Value} {l : List Int} (h : IntsAt B w v l) (hg : g < B) : IntsAt B (w.setCell ⟨g, i, none⟩ u) v l := by
  refine ⟨own_block h.1 fun k hk => ?_, h.2⟩
  have := h.2.1 k hk
  exact heap_setCell_other w ⟨g, i, none⟩ k u (fun e => by have : k = g := e; omega)
theorem store3 {w : World} {R : Nat} {W H : Int} {v : Value} (h : VarAt w R W H v) (W' H' : Int) (v' : Value) :
    VarAt (((w.setCell ⟨R, 0, none⟩ (.int .i64 W')).setCell ⟨R, 1, none⟩ (.int .i64 H')).setCell ⟨R, 2, none⟩ v') R W' H' v' := by
  have h0 := setAt (cs' := #[.int .i64 W', .int .i64 H, v]) (i := 0) (v := .int .i64 W') h rfl
  have h1 := setAt (cs' := #[.int .i64 W', .int .i64 H', v]) (i := 1) (v := .int .i64 H') h0 rfl
  exact setAt (cs' := #[.int .i64 W', .int .i64 H', v']) (i := 2) (v := v') h1 rfl
theorem below_store3 {w w' : World} {n R : Nat} (h : Below n w w') (hR : n ≤ R) (a b c : Value) : Below n w (((w'.setCell ⟨R, 0, none⟩ a).setCell ⟨R, 1, none⟩ b).setCell ⟨R, 2, none⟩ c) :=
  below_set (below_set (below_set h hR _ _) hR _ _) hR _ _
theorem row_store3 {B R : Nat} {w : World} {v : Value} {l : List Int} (h : IntsAt B w v l) (hR : R < B) (a b c : Value) : IntsAt B (((w.setCell ⟨R, 0, none⟩ a).setCell ⟨R, 1, none⟩ b).setCell ⟨R, 2, none⟩ c) v l :=
  row_other (row_other (row_other h hR) hR) hR
/-- A row that was made behind w. -/
def Fresh (w : World) (v : Value) : Prop := ∀ k, v.ownBlock = some k → w.heap.size ≤ k
theorem fresh_row {B : Nat} {w w' : World} {v : Value} {l : List Int} (h : IntsAt B w' v l) (hB : w.heap.size ≤ B) : Fresh w v := fun k hk => Nat.le_trans hB (h.2.1 k hk)
theorem Fresh.near {w : World} {v : Value} (h : Fresh w v) (u : Value) : Near w u v := fun k hk => .inr (h k hk)
/-- On the way: the result's variable, the image's variable, and its row. -/
structure Mid (w wr : World) (B : Nat) (W H : Int) (v : Value) (l : List Int) : Prop where
  r : VarAt wr w.heap.size 0 0 (.slice none 0 0)
  g : VarAt wr (w.heap.size + 1) W H v
  row : IntsAt B wr v l
  bel : Below w.heap.size w wr
  hB : w.heap.size + 1 < B ∧ B ≤ wr.heap.size
theorem Mid.step {w wr w1 : World} {B : Nat} {W H : Int} {v v' : Value} {l l' : List Int} (h : Mid w wr B W H v l) (k : Below B wr w1) (hr : IntsAt B w1 v' l') : Mid w (w1.setCell ⟨w.heap.size + 1, 2, none⟩ v') B W H v' l' := by
  have hb := h.hB
  have := k.size
  refine ⟨(h.r.below k (by omega)).other (by omega) _ _, (h.g.below k (by omega)).set v', row_other hr (by omega), below_set (h.bel.trans (k.mono (by omega))) (by omega) _ _, by simpa using ⟨by omega, by omega⟩⟩
theorem shape4 {B : Nat} {w : World} {v : Value} {l : List Int} (h : IntsAt B w v l) : ∃ a n cap, v = .slice a n cap := by
  obtain ⟨a, cap, e⟩ := RowAt.shape h
  exact ⟨a, _, cap, e⟩
theorem zero_img : Try.prog.info? 32 = Try.prog.info? 32 := rfl
set_option maxHeartbeats 2000000 in
theorem refBlack_any (W H : Int) (hW : 1 ≤ W ∧ W ≤ 4096) (hH : 1 ≤ H ∧ H ≤ 4096) (w : World) :
    Calls Try.prog 12 #[.int .i64 W, .int .i64 H] w fun e w' => ∃ v, e = .returned (imgV W H v) ∧ SI w' v (blackL W H) ∧ Below w.heap.size w w' ∧ Fresh w v := by
  have hs := side_mul (decide_eq_true hW) (decide_eq_true hH)
  obtain ⟨N, hN⟩ : ∃ N : Nat, W * H = N := ⟨(W * H).toNat, by omega⟩
  have HL : RowKit.Hid (blackL W H = gen N (fun _ => 0)) := Lib.hid (by unfold blackL; rw [hN, Int.toNat_natCast])
  have hNb : N ≤ 16777216 := by omega
  have w1 : IntKind.i64.wrap (N : Nat) = (N : Nat) := IntWalk.i64_in _ (by omega)
  have w2 : wrap64 (N : Nat) = (N : Nat) := IntWalk.wrap64_in _ (by omega)
  have hz1 := alloc_size w (.cells #[.int .i64 0, .int .i64 0, .slice none 0 0] 32)
  have hz2 := alloc_size (w.alloc (.cells #[.int .i64 0, .int .i64 0, .slice none 0 0] 32)) (.cells #[.int .i64 W, .int .i64 H, .slice none 0 0] 32)
  have M0 : Mid w ((w.alloc (.cells #[.int .i64 0, .int .i64 0, .slice none 0 0] 32)).alloc (.cells #[.int .i64 W, .int .i64 H, .slice none 0 0] 32)) (w.heap.size + 2) W H (.slice none 0 0) (gen 0 (fun _ => 0)) := by
    have b1 := (Below.refl w.heap.size w).alloc (Nat.le_refl _) (.cells #[.int .i64 0, .int .i64 0, .slice none 0 0] 32)
    refine ⟨?_, ?_, RowAt.nil _ _ _ _, b1.alloc b1.size _, by omega⟩
    · exact ((Below.refl _ (w.alloc (.cells #[.int .i64 0, .int .i64 0, .slice none 0 0] 32))).alloc (Nat.le_refl _) _).block w.heap.size (by omega) |>.trans (heap_alloc_new _ _)
    · have := VarAt.new (w.alloc (.cells #[.int .i64 0, .int .i64 0, .slice none 0 0] 32)) W H (.slice none 0 0)
      rwa [hz1] at this
  have M0' := Lib.hid M0
  clear hs hz2 M0 hW hH
  go_enter Try.func12, Try.ntmps12
  go_wp2_with fail
  generalize (w.alloc (.cells #[.int .i64 0, .int .i64 0, .slice none 0 0] 32)).alloc (.cells #[.int .i64 W, .int .i64 H, .slice none 0 0] 32) = w3 at *
  clear hz1
  go_loopw [6] (fun i wr => ∃ k : Nat, k ≤ N ∧ i = .int .i64 k ∧ ∃ v, Mid w wr (w.heap.size + 2) W H v (gen k (fun _ => 0))) (fun i _ => N - (intOf i).toNat)
  case atStart => exact ⟨0, Nat.zero_le _, rfl, _, M0'.out⟩
  case round =>
    obtain ⟨k, hk, rfl, v, M⟩ := hrel
    have HM := Lib.hid M
    by_cases hlt : k < N
    · have d1 : decide (k < N) = true := decide_eq_true hlt
      have d2 : decide ((k : Int) < N) = true := decide_eq_true (by omega)
      obtain ⟨⟨_, _, c2⟩, _⟩ := M.g.cells
      have hB := M.hB
      have hBl := hB.2
      have HS := Lib.hid (gen_succ k (fun _ => 0))
      have HR := Lib.hid M.row
      have hgl := gen_length k (fun _ => 0)
      have HG := Lib.hid hgl
      clear M hB hgl M0'
      go_wp2_with (at_builtin; refine wpl_int rfl _ _ rfl v (w.heap.size + 2) (gen k (fun _ => 0)) rfl HR.out hBl (by rw [HG.out]; omega) 0 _ rfl ?_; intro v' w4 h1 b1; have hv := (HM.out.g.below b1 (by omega)).cells; have c2' := hv.1.2.2; have fz := hv.2; have HN := Lib.hid (HM.out.step b1 h1); obtain ⟨a4, n4, cap4, rfl⟩ := shape4 h1; clear h1 b1 hv)
      refine ⟨⟨k + 1, by omega, by go_num, .slice a4 n4 cap4, ?_⟩, by simp [intOf]; omega⟩
      rw [HS.out]
      exact HN.out
    · obtain rfl : k = N := by omega
      have d1 : decide (k < k) = false := decide_eq_false hlt
      have d2 : decide ((k : Int) < k) = false := decide_eq_false (by omega)
      obtain ⟨⟨c0, c1, c2⟩, _⟩ := M.g.cells
      obtain ⟨⟨r0, r1, r2⟩, fz⟩ := M.r.cells
      obtain ⟨a, n, cap, rfl⟩ := shape4 M.row
      clear M
      go_wp2_with fail
      refine bodyPost_ret (Ret.ret_cell rfl _ _ w.heap.size 32 _ (0, 0) _ rfl (store3 HM.out.r _ _ _) Try.underlying32 rfl (by kernel_rfl)) rfl ⟨.slice a n cap, rfl, ?_, below_store3 HM.out.bel (Nat.le_refl _) _ _ _, fresh_row HM.out.row (by omega)⟩
      rw [HL.out]
      exact (row_store3 HM.out.row (by omega) _ _ _).si
end Go.Proofs.Ytlamdgdegmjljaa.Scr
