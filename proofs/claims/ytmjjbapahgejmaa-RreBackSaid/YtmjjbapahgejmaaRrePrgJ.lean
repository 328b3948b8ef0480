/-
  The program of layer 17 (rre): Decode.
-/
import Derived.Test.YtmjjbapahgejmaaRrePrgI
import Derived.Test.YtmjjbapahgejmaaAllFmtP
import Derived.Laws.MakeOwn
import Derived.Laws.OwnMore
namespace Go.Proofs.Ytmjjbapahgejmaa.Rre
open Go.ChangeShapes Go.WideShapes Go.ChangeAt Go.RowKit Lz RowG RegVal Pln
open Go.Proofs.Ytmjjbapahgejmaa.Fmt (Fm FmAt size_any fget_any colour_any)
open Go.Proofs.Ytmjjbapahgejmaa.Oct (CurAt grown_trans grown_drew grown_of_below below_of_grown byS byI byE intV numI numE sizeB valL valL_bd keepE intV_bd int_any err_any new_any at_any)
set_option linter.unusedVariables false
set_option linter.unusedSimpArgs false
set_option maxRecDepth 100000

theorem getL_wf (big : Bool) (l : List UInt8) (h : l.length ≤ 4) : (Lit.int .i64 (Fmt.getL big l)).wf = true := by
  unfold Fmt.getL
  have h1 := valL_bd (if big then l.reverse else l)
  have hl : (if big then l.reverse else l).length = l.length := by split <;> simp
  rw [hl] at h1
  have h2 : (2 : Int) ^ (8 * l.length) ≤ 2 ^ 32 := by
    have := Nat.pow_le_pow_right (n := 2) (by decide) (show 8 * l.length ≤ 32 by omega)
    exact_mod_cast this
  exact WalkArith.wf_i64 (by omega)
theorem get_wf {f : Fm} (hok : f.ok = true) (t : ByteArray) : (Lit.int .i64 (f.get t)).wf = true := by
  unfold Fm.get
  rw [if_pos hok]
  split
  · rfl
  · refine getL_wf _ _ (Nat.le_trans (List.length_take_le _ _) ?_)
    exact (Fmt.size_le4 f).1
theorem col_get {f : Fm} (hf : f.Wf) (hok : f.ok = true) (t : ByteArray) (w : World) : Calls Try.prog 48 #[f.v, .int .i64 (f.get t)] w fun e w' => e = .returned (.int .i64 ((f.col (f.get t) : Nat) : Int)) ∧ Below w.heap.size w w' := by
  have := colour_any f hf (f.get t) (get_wf hok t) w
  rwa [show f.colI (f.get t) = ((f.col (f.get t) : Nat) : Int) from if_pos hok] at this
theorem make_ints (N : Nat) (hN : N ≤ 100000000) (w : World) : ∃ w', (Instr.makeSlice 22 (.int .i64 (N : Int)) (.int .i64 (N : Int))).run Try.prog w = .ok (.slice (some ⟨w.heap.size, 0, none⟩) N N) w' ∧
    IntsAt w.heap.size w' (.slice (some ⟨w.heap.size, 0, none⟩) N N) (gen N (fun _ => 0)) ∧ Below w.heap.size w w' ∧ w'.heap.size = w.heap.size + 1 := by
  obtain ⟨i0, hi, hz0, hz1, hz2⟩ := info_parts info_num
  have hr := run_make (P := Try.prog) w 22 3 i0 (.int .i64 0) Try.underlying22 hi hz0 .i64 .i64 (N : Int) (N : Int) (by omega) (by omega) (by rw [hz2]; omega) (by omega)
  rw [hz1] at hr
  refine ⟨_, by rw [hr]; rfl, ?_, (Below.refl _ _).alloc (Nat.le_refl _) _, Pln.alloc_size _ _⟩
  have hm : madeCells (Value.int .i64 0).cells ((N : Int).toNat * 1) = (ints (gen N (fun _ => 0))).toArray := by
    rw [Int.toNat_natCast, Nat.mul_one]
    apply Array.ext'
    rw [show (Value.int .i64 0).cells = #[.int .i64 0] from rfl, toList_madeCells_one]
    unfold ints gen
    rw [List.map_map]
    exact ((List.map_const' ..).trans (by rw [List.length_range])).symm
  rw [hm]
  refine ⟨⟨by simp [ints, gen], .inr ⟨_, N, _, by simp [gen_length], Nat.zero_le _, heap_alloc_new _ _, by simp [gen_length], by unfold maxLen; omega, by simp [ints, gen], by rw [List.toList_toArray]; exact List.take_of_length_le (by simp [ints, gen])⟩⟩, fun k hk => ?_, fun u hu => ?_⟩
  · simp [Value.ownBlock] at hk
    omega
  · unfold ints at hu
    obtain ⟨q, _, rfl⟩ := List.mem_map.1 hu
    rfl
/-- While a rectangle is filled. -/
def fiS (w6 : World) (P g N cap : Nat) (l0 l1 : List Int) (ℓ : Nat → Bool) (W : World) : Prop :=
  Pln.Touch (fun k => k = g) w6 W ∧ (ℓ 8 = false → IntsAt P W (.slice (some ⟨g, 0, none⟩) N cap) l0) ∧ (ℓ 8 = true → IntsAt P W (.slice (some ⟨g, 0, none⟩) N cap) l1)
theorem fiS_keep {w6 W : World} {P g N cap : Nat} {l0 l1 : List Int} {ℓ : Nat → Bool} {j : Nat} (h : fiS w6 P g N cap l0 l1 ℓ W) (hj : j ≠ 8) : fiS w6 P g N cap l0 l1 (fun q => if q = j then true else ℓ q) W :=
  ⟨h.1, fun hl => h.2.1 (by simpa [Ne.symm hj] using hl), fun hl => h.2.2 (by simpa [Ne.symm hj] using hl)⟩
theorem fiS_below {w6 W W' : World} {P g N cap : Nat} {l0 l1 : List Int} {ℓ : Nat → Bool} (h : fiS w6 P g N cap l0 l1 ℓ W) (k : Below W.heap.size W W') : fiS w6 P g N cap l0 l1 ℓ W' :=
  ⟨h.1.trans (Pln.Touch.of_below k), fun hl => RowAt.below (h.2.1 hl) k, fun hl => RowAt.below (h.2.2 hl) k⟩
def fwV (F sl R : Value) (W H g c : Int) : Nat → Value
  | 0 => .int .i64 W
  | 1 => sl
  | 2 => .int .i64 W
  | 3 => .int .i64 H
  | 4 => R
  | 5 => F
  | 6 => .int .i64 g
  | 7 => .int .i64 c
  | _ => .tuple #[]
def fpV (F sl p1 R p0 : Value) (W v c : Int) : Nat → Value
  | 0 => .int .i64 W
  | 1 => sl
  | 2 => p1
  | 3 => R
  | 4 => F
  | 5 => p0
  | 6 => .int .i64 v
  | 7 => .int .i64 c
  | _ => .tuple #[]
end Go.Proofs.Ytmjjbapahgejmaa.Rre
