/-
  Contracts of package huffman (layer 5), over this seat's translation: within, room, tally, firsts, Check.
-/
import Derived.Test.YtikfenimgjeplaaRows
import Derived.WalkKit
import Derived.ProofKit
import Derived.OpenShut
import Derived.ShutString
import Derived.ChangeOld
import Derived.Below
import Derived.WalkSpells
import Derived.WalkLawsBesides
import Derived.Deep.QuietTactic
import Derived.Deep.WholeRow
import Derived.BigQuiet
import Derived.BigGuardPart
import Derived.StillTailTactics
import Derived.Deep.RegionHeld3
import Derived.Deep.RegionWith
import Derived.Outline
import Derived.IntWalk
import Derived.Lib.Hide
import Derived.Test.YtikfenimgjeplaaHufBits
import Derived.Test.YtikfenimgjeplaaOctMath
namespace Go.Proofs.Ytikfenimgjeplaa.Huf
open Go.ChangeShapes Go.WideShapes Go.ChangeAt Go.RowKit
set_option linter.unusedVariables false

theorem ret_int {k : IntKind} {a b : Int} (h : a = b) : Ending.returned (Value.int k a) = Ending.returned (.int k b) := by rw [h]
theorem ret_bool {a b : Bool} (h : a = b) : Ending.returned (Value.bool a) = Ending.returned (.bool b) := by rw [h]

/-- What is told of a slice of numbers. -/
def IsInts (w : World) (a : Option Addr) (L : List Int) : Prop :=
  0 < L.length → ∃ b off, a = some ⟨b, off, none⟩ ∧ b < w.heap.size ∧ ∀ i (h : i < L.length), w.cell? ⟨b, off + i, none⟩ = some (.int .i64 L[i])

theorem IsInts.below {w w' : World} {a : Option Addr} {L : List Int} {n : Nat} (h : IsInts w a L) (k : Below n w w') (hn : w.heap.size ≤ n) : IsInts w' a L := by
  intro h0
  obtain ⟨b, off, e, hb, hc⟩ := h h0
  exact ⟨b, off, e, Nat.lt_of_lt_of_le hb k.size, fun i hi => (k.cell (by show b < n; omega)).trans (hc i hi)⟩

/-- Are all from 0 to m? -/
def allIn (m : Int) (L : List Int) : Bool := L.all fun x => decide (0 ≤ x) && decide (x ≤ m)
theorem allIn_take (m : Int) (L : List Int) (k : Nat) (h : k < L.length) : allIn m (L.take (k + 1)) = (allIn m (L.take k) && (decide (0 ≤ L[k]) && decide (L[k] ≤ m))) := by
  unfold allIn
  rw [List.take_succ_eq_append_getElem h, List.all_append]
  simp
theorem allIn_false (m : Int) (L : List Int) (k : Nat) (h : k < L.length) (hk : L[k] < 0 ∨ m < L[k]) : allIn m L = false := by
  unfold allIn
  rw [List.all_eq_false]
  exact ⟨L[k], List.getElem_mem h, by simp; omega⟩

set_option maxHeartbeats 1000000 in
theorem within_any (a : Option Addr) (n cap : Nat) (L : List Int) (m : Int) (w : World) (hn : L.length = n) (h : IsInts w a L) (hl : n ≤ 1000000) :
    Calls Try.prog 63 #[.slice a n cap, .int .i64 m] w fun e w' => e = .returned (.bool (allIn m L)) ∧ w = w' := by
  have H := Lib.hid h
  clear h
  go_enter Try.func63, Try.ntmps63
  go_wp2_with fail
  go_loop [9] (fun i => ∃ k : Nat, k ≤ n ∧ i = .int .i64 k ∧ allIn m (L.take k) = true) (fun i => n - (intOf i).toNat)
  case atStart => exact ⟨0, Nat.zero_le _, rfl, rfl⟩
  case round =>
    obtain ⟨k, hk, rfl, hin⟩ := hrel
    have HIN := Lib.hid hin
    clear hin
    by_cases hlt : k < n
    · obtain ⟨b, off, rfl, hb, hc⟩ := H.out (by omega)
      have hck := hc k (by omega)
      have hT := Lib.hid (allIn_take m L k (by omega))
      have hF := Lib.hid (allIn_false m L k (by omega))
      clear hc
      obtain ⟨x, hx⟩ : ∃ x, L[k] = x := ⟨_, rfl⟩
      rw [hx] at hck hT hF
      clear hx
      by_cases h1 : x < 0
      · go_wp2_with fail
        go_ret
        exact ⟨ret_bool (hF.out (.inl h1)).symm, rfl⟩
      · by_cases h2 : m < x
        · go_wp2_with fail
          go_ret
          exact ⟨ret_bool (hF.out (.inr h2)).symm, rfl⟩
        · go_wp2_with fail
          refine ⟨⟨k + 1, by omega, by go_num, ?_⟩, ?_⟩
          · rw [hT.out, HIN.out]; simp; omega
          · simp [intOf]; omega
    · obtain rfl : k = n := by omega
      have e : L.take k = L := List.take_of_length_le (by omega)
      rw [e] at HIN
      go_wp2_with fail
      go_ret
      exact ⟨ret_bool HIN.out.symm, rfl⟩

theorem room_any (k : Nat) (hk : k ≤ 15) (w : World) :
    Calls Try.prog 81 #[.int .i64 k] w fun e w' => e = .returned (.int .i64 (2 ^ (15 - k) : Nat)) ∧ w = w' := by
  go_enter Try.func81, Try.ntmps81
  go_wp2
  go_ret
  refine ⟨ret_int ?_, rfl⟩
  have : ∀ k : Nat, k ≤ 15 → (32768 / 2 ^ k : Int) = ((2 ^ (15 - k) : Nat) : Int) := by decide
  exact this k hk

/-- Sixteen numbers. -/
def row16 (f : Nat → Nat) : Array Value := ((List.range 16).map fun j => Value.int .i64 (f j : Nat)).toArray

/-- Block b holds sixteen numbers. -/
def At16 (w : World) (b : Nat) (f : Nat → Nat) : Prop := w.heap[b]? = some (.cells (row16 f) 108 (0, 0))

theorem row16_get (f : Nat → Nat) (j : Nat) (hj : j < 16) : (row16 f)[j]? = some (.int .i64 (f j : Nat)) := by
  unfold row16; simp [hj]
theorem row16_set (f : Nat → Nat) (j : Nat) (v : Nat) : (row16 f).setIfInBounds j (.int .i64 (v : Nat)) = row16 fun i => if i = j then v else f i := by
  unfold row16
  apply Array.ext_getElem?
  intro i
  by_cases hi : i < 16
  · by_cases hij : i = j
    · subst hij; simp [hi]
    · simp [hi, hij, Ne.symm hij]
  · simp [hi]
theorem At16.cell {w : World} {b : Nat} {f : Nat → Nat} (h : At16 w b f) (j : Nat) (hj : j < 16) : w.cell? ⟨b, j, none⟩ = some (.int .i64 (f j : Nat)) := by
  unfold At16 at h
  rw [cell_of_row w b j _ _ _ h, row16_get f j hj]
theorem At16.frozen {w : World} {b : Nat} {f : Nat → Nat} (h : At16 w b f) (j : Nat) : w.frozen? ⟨b, j, none⟩ = false := frozen_of_row w b j _ _ h
theorem At16.lt {w : World} {b : Nat} {f : Nat → Nat} (h : At16 w b f) : b < w.heap.size := (Array.getElem?_eq_some_iff.1 h).1
theorem At16.draws {w : World} {b : Nat} {f : Nat → Nat} (h : At16 w b f) (n : Nat) : At16 (w.drewN n) b f := h
theorem At16.set {w : World} {b : Nat} {f : Nat → Nat} (h : At16 w b f) (j v : Nat) : At16 (w.setCell ⟨b, j, none⟩ (.int .i64 (v : Nat))) b fun i => if i = j then v else f i := by
  unfold At16 at *
  rw [heap_setCell_same w b j _ _ _ h, row16_set]
theorem At16.other {w : World} {b c j : Nat} {v : Value} {f : Nat → Nat} (h : At16 w b f) (hc : b ≠ c) : At16 (w.setCell ⟨c, j, none⟩ v) b f := by
  unfold At16 at *
  rw [heap_setCell_other w ⟨c, j, none⟩ b v hc]; exact h

theorem row16_one (f : Nat → Nat) : (row16 f).all (·.oneCell') = true := by
  rw [Array.all_eq_true_iff_forall_mem]
  intro v hv
  unfold row16 at hv
  simp only [List.mem_toArray, List.mem_map] at hv
  obtain ⟨j, _, rfl⟩ := hv
  rfl
theorem row16_size (f : Nat → Nat) : (row16 f).size = 16 := by simp [row16]
theorem info16 : (Try.prog.info? 108).map (·.size) = some 16 := by kernel_rfl

theorem At16.setRow {w : World} {b : Nat} {f : Nat → Nat} (h : At16 w b f) (f' : Nat → Nat) : At16 (w.setRow b (row16 f')) b f' := by
  unfold At16 at *
  exact setRow_heap w b _ _ _ _ h
theorem At16.rowOther {w : World} {b c : Nat} {f : Nat → Nat} (h : At16 w b f) (hc : b ≠ c) (cs : Array Value) : At16 (w.setRow c cs) b f := by
  unfold At16 at *
  rw [setRow_other w c b cs hc]; exact h
theorem below_setRow {n b : Nat} {w w' : World} (h : Below n w w') (hb : n ≤ b) (cs : Array Value) : Below n w (w'.setRow b cs) :=
  ⟨h.os, h.tape, h.output, by rw [setRow_size]; exact h.size, fun k hk => by rw [setRow_other w' b k cs (by omega)]; exact h.block k hk⟩
theorem At16.kept {w w' : World} {b n : Nat} {f : Nat → Nat} (h : At16 w b f) (k : Below n w w') (hb : b < n) : At16 w' b f := by
  unfold At16 at *
  rw [k.block b hb]; exact h

theorem wpl_load16 {ops : Array Oper} {rest : List Oper} {o : Oper} {a : Act} {w : World} {Q : Exit → Act → World → Prop} (hgd : o.guard = none) (x : Operand) (ho : o.op = .load 108 x)
    (g : Nat) (hx : a.eval x = .pointer (some ⟨g, 0, none⟩)) (f : Nat → Nat) (hg : At16 w g f) (h : wpList Try.prog ops Q rest (a.put o.dst (.agg (row16 f))) w) : wpList Try.prog ops Q (o :: rest) a w :=
  wpList_load_row hgd 108 x ho g hx _ _ _ _ hg Try.underlying108 rfl (by rw [row16_size]; exact info16) h
theorem wpl_store16 {ops : Array Oper} {rest : List Oper} {o : Oper} {a : Act} {w : World} {Q : Exit → Act → World → Prop} (hgd : o.guard = none) (x y : Operand) (ho : o.op = .store 108 x y)
    (g : Nat) (f : Nat → Nat) (hx : a.eval x = .pointer (some ⟨g, 0, none⟩)) (hy : a.eval y = .agg (row16 f)) (f0 : Nat → Nat) (hg : At16 w g f0)
    (h : wpList Try.prog ops Q rest (a.put o.dst undef) (w.setRow g (row16 f))) : wpList Try.prog ops Q (o :: rest) a w :=
  wpList_store_row hgd 108 x y ho g _ hx hy _ _ hg (by rw [row16_size]; exact info16) (by rw [row16_size, row16_size]) (row16_one f) h
theorem results16 {fn : Func} {p : Tmp} (h : fn.results = #[.cell p 108]) (tmps : Array Value) (w : World) (g : Nat) (f : Nat → Nat) (hp : tmps.getD p undef = .pointer (some ⟨g, 0, none⟩)) (hg : At16 w g f) :
    (results fn tmps).run Try.prog w = .ok (.agg (row16 f)) w :=
  results_cell_row h tmps w g _ _ _ _ hp hg Try.underlying108 rfl (by rw [row16_size]; exact info16)

set_option maxHeartbeats 2000000 in
theorem tally_any (a : Option Addr) (n cap : Nat) (L : List Nat) (w : World) (hn : L.length = n) (h : IsInts w a (L.map fun (x : Nat) => (x : Int))) (hl : n ≤ 1000000) (h15 : ∀ x ∈ L, x ≤ 15) :
    Calls Try.prog 73 #[.slice a n cap] w fun e w' => e = .returned (.agg (row16 (cn L))) ∧ Below w.heap.size w w' := by
  have H := Lib.hid h
  have H15 := Lib.hid h15
  clear h h15
  go_enter Try.func73, Try.ntmps73
  go_wp2_with fail
  go_loopw [8] (fun i wr => ∃ k : Nat, k ≤ n ∧ i = .int .i64 k ∧ At16 wr (w.heap.size + 1) (fun j => (L.take k).count j) ∧ At16 wr w.heap.size (fun _ => 0) ∧ Below w.heap.size w wr) (fun i _ => n - (intOf i).toNat)
  case atStart =>
    refine ⟨0, Nat.zero_le _, rfl, ?_, ?_, ((Below.refl _ _).alloc (Nat.le_refl _) _).alloc (by simp) _⟩
    · have := heap_alloc_new (w.alloc (.cells (row16 fun _ => 0) 108)) (.cells (row16 fun _ => 0) 108)
      rw [World.size_alloc] at this
      exact this
    · exact heap_alloc2_old w _ _
  case round =>
    obtain ⟨k, hk, rfl, hat, hres, hbel⟩ := hrel
    by_cases hlt : k < n
    · obtain ⟨b, off, rfl, hb, hc⟩ := H.out (by simp; omega)
      have hck := hc k (by simp; omega)
      have hx15 := H15.out L[k] (List.getElem_mem (by omega))
      rw [List.getElem_map] at hck
      have HT : Hid (∀ j, (L.take (k + 1)).count j = if j = L[k] then (L.take k).count L[k] + 1 else (L.take k).count j) := fun j => by
        rw [List.take_succ_eq_append_getElem (by omega), List.count_append, List.count_singleton]
        by_cases e : j = L[k]
        · subst e; simp
        · simp [e, Ne.symm e]
      clear hc
      have hcw : wr.cell? ⟨b, off + k, none⟩ = some (.int .i64 (L[k] : Nat)) := (hbel.cell hb).trans hck
      clear hck
      generalize L[k] = x at *
      have hcx := hat.cell x (by omega)
      have hfx := hat.frozen x
      have hcl : (L.take k).count x ≤ 1000000 := Nat.le_trans List.count_le_length (by simp; omega)
      have HA := Lib.hid (hat.set x ((L.take k).count x + 1))
      have HR := Lib.hid (hres.other (j := x) (v := .int .i64 (((L.take k).count x + 1 : Nat) : Int)) (Nat.ne_of_lt (Nat.lt_succ_self w.heap.size)))
      have HB := Lib.hid (hbel.setCell (p := ⟨w.heap.size + 1, x, none⟩) (Nat.le_succ _) (.int .i64 (((L.take k).count x + 1 : Nat) : Int)))
      clear hat hres hbel
      generalize (L.take k).count x = c at *
      go_wp2_with fail
      refine ⟨⟨k + 1, by omega, by go_num, ?_, HR.out, HB.out⟩, ?_⟩
      · have := HA.out
        rw [← funext HT.out] at this
        exact this
      · simp [intOf]; omega
    · obtain rfl : k = n := by omega
      have e : L.take k = L := List.take_of_length_le (by omega)
      rw [e] at hat
      have hf0 := hat.frozen 0
      have hc0 := hat.cell 0 (by decide)
      have HA := Lib.hid (hat.set 0 0)
      have HR := Lib.hid (hres.other (c := w.heap.size + 1) (j := 0) (v := .int .i64 ((0 : Nat) : Int)) (Nat.ne_of_lt (Nat.lt_succ_self w.heap.size)))
      have HB := Lib.hid (hbel.setCell (p := ⟨w.heap.size + 1, 0, none⟩) (Nat.le_succ _) (.int .i64 ((0 : Nat) : Int)))
      clear hat hres hbel
      go_wp2_with (first | refine wpl_load16 rfl _ rfl _ rfl _ HA.out ?_ | refine wpl_store16 rfl _ _ rfl _ _ rfl rfl _ HR.out ?_)
      refine bodyPost_ret (results16 rfl _ _ _ _ rfl (HR.out.setRow _)) rfl ⟨?_, below_setRow HB.out (Nat.le_refl _) _⟩
      rfl

theorem cn_le (L : List Nat) (j : Nat) : cn L j ≤ L.length := by
  unfold cn
  split
  · omega
  · exact List.count_le_length
theorem fst_le (L : List Nat) : ∀ j, fst L j ≤ (2 ^ j - 1) * (2 * L.length) := by
  intro j
  induction j with
  | zero => exact Nat.zero_le _
  | succ j ih =>
    have h1 := cn_le L j
    have h2 : (2 ^ (j + 1) - 1) * (2 * L.length) = 2 * ((2 ^ j - 1) * (2 * L.length)) + 2 * L.length := by
      rw [Nat.sub_mul, Nat.sub_mul, Nat.pow_succ, Nat.one_mul]
      have : 2 * L.length ≤ 2 ^ j * (2 * L.length) := Nat.le_mul_of_pos_left _ (Nat.pow_pos (by decide))
      rw [Nat.mul_comm (2 ^ j) 2, Nat.mul_assoc]
      omega
    show 2 * (fst L j + cn L j) ≤ _
    omega
theorem fst_small (L : List Nat) (j : Nat) (hj : j ≤ 15) (hl : L.length ≤ 1000000) : fst L j ≤ 65534000000 := by
  refine Nat.le_trans (fst_le L j) ?_
  have h1 : (2 : Nat) ^ j ≤ 2 ^ 15 := Nat.pow_le_pow_right (by decide) hj
  exact Nat.le_trans (Nat.mul_le_mul (show 2 ^ j - 1 ≤ 32767 by omega) (show 2 * L.length ≤ 2000000 by omega)) (by decide)

theorem alloc3 (w : World) (A B C : Obj) : (((w.alloc A).alloc B).alloc C).heap[w.heap.size]? = some A ∧ (((w.alloc A).alloc B).alloc C).heap[w.heap.size + 1]? = some B ∧ (((w.alloc A).alloc B).alloc C).heap[w.heap.size + 2]? = some C := by
  refine ⟨?_, ?_, ?_⟩
  · rw [heap_alloc_old _ _ (by simp; omega)]; exact heap_alloc2_old w A B
  · rw [heap_alloc_old _ _ (by simp)]; exact heap_alloc2_new w A B
  · have := heap_alloc_new ((w.alloc A).alloc B) C
    rw [World.size_alloc, World.size_alloc] at this
    exact this

theorem row16_congr {f g : Nat → Nat} (h : ∀ j, j < 16 → f j = g j) : row16 f = row16 g := by
  unfold row16
  congr 1
  apply List.map_congr_left
  intro j hj
  rw [h j (by simpa using hj)]

set_option maxHeartbeats 2000000 in
theorem firsts_any (L : List Nat) (w : World) (hl : L.length ≤ 1000000) :
    Calls Try.prog 72 #[.agg (row16 (cn L))] w fun e w' => e = .returned (.agg (row16 (fst L))) ∧ Below w.heap.size w w' := by
  go_enter Try.func72, Try.ntmps72
  go_wp2_with fail
  go_loopw [5] (fun i wr => ∃ k : Nat, k ≤ 15 ∧ i = .int .i64 k ∧ At16 wr (w.heap.size + 2) (fun j => if j ≤ k then fst L j else 0) ∧ At16 wr w.heap.size (cn L) ∧ At16 wr (w.heap.size + 1) (fun _ => 0) ∧ Below w.heap.size w wr) (fun i _ => 15 - (intOf i).toNat)
  case atStart =>
    obtain ⟨g0, g1, g2⟩ := alloc3 w (.cells (row16 (cn L)) 108) (.cells (row16 fun _ => 0) 108) (.cells (row16 fun _ => 0) 108)
    refine ⟨0, Nat.zero_le _, rfl, ?_, g0, g1, (((Below.refl _ _).alloc (Nat.le_refl _) _).alloc (by simp) _).alloc (by simp; omega) _⟩
    unfold At16
    rw [row16_congr (f := fun j => if j ≤ 0 then fst L j else 0) (g := fun _ => 0) (fun j _ => by
      show (if j ≤ 0 then fst L j else 0) = 0
      by_cases h : j ≤ 0
      · rw [if_pos h, show j = 0 by omega]; rfl
      · rw [if_neg h])]
    exact g2
  case round =>
    obtain ⟨k, hk, rfl, hat, hbox, hres, hbel⟩ := hrel
    by_cases hlt : k < 15
    · have c1 := hat.cell k (by omega)
      have c2 := hbox.cell k (by omega)
      have c3 := hat.cell (k + 1) (by omega)
      have f3 := hat.frozen (k + 1)
      rw [if_pos (Nat.le_refl _)] at c1
      have h1 := fst_small L k (by omega) hl
      have h2 := cn_le L k
      have HF : Hid (fst L (k + 1) = 2 * (fst L k + cn L k)) := rfl
      have HAT := Lib.hid hat
      have HBX := Lib.hid hbox
      have HRS := Lib.hid hres
      have HBL := Lib.hid hbel
      clear hat hbox hres hbel
      generalize fst L k = x at *
      generalize cn L k = y at *
      have hw1 : IntKind.i64.wrap ((x : Int) + y) = (x : Int) + y := IntWalk.i64_in _ (by omega)
      have hw2 : wrap64 (((x : Int) + y) * 2) = ((x : Int) + y) * 2 := IntWalk.wrap64_in _ (by omega)
      obtain ⟨z, hz⟩ : ∃ z, 2 * (x + y) = z := ⟨_, rfl⟩
      have HW : Hid (((x : Int) + y) * 2 = (z : Int)) := by show ((x : Int) + y) * 2 = (z : Int); omega
      rw [hz] at HF
      clear hz
      go_wp2_with fail
      go_region
      rw [HW.out]
      have HA2 := Lib.hid ((HAT.out.set (k + 1) z).draws 1)
      have HB2 := Lib.hid ((HBX.out.other (c := w.heap.size + 2) (j := k + 1) (v := .int .i64 (z : Int)) (by omega)).draws 1)
      have HR2 := Lib.hid ((HRS.out.other (c := w.heap.size + 2) (j := k + 1) (v := .int .i64 (z : Int)) (by omega)).draws 1)
      have HL2 := Lib.hid ((HBL.out.setCell (p := ⟨w.heap.size + 2, k + 1, none⟩) (by show w.heap.size ≤ w.heap.size + 2; omega) (.int .i64 (z : Int))).drew)
      clear c1 c2 c3 f3 HAT HBX HRS HBL hw1 hw2
      go_wp2_with fail
      refine ⟨⟨k + 1, by omega, by go_num, ?_, HB2.out, HR2.out, HL2.out⟩, ?_⟩
      · have e : (fun j => if j ≤ k + 1 then fst L j else 0) = (fun i => if i = k + 1 then z else if i ≤ k then fst L i else 0) := by
          funext j
          by_cases h : j = k + 1
          · rw [if_pos h, h, if_pos (Nat.le_refl _), HF.out]
          · rw [if_neg h]
            by_cases h2 : j ≤ k
            · rw [if_pos h2, if_pos (by omega)]
            · rw [if_neg h2, if_neg (by omega)]
        rw [e]
        exact HA2.out
      · simp [intOf]; omega
    · obtain rfl : k = 15 := by omega
      have HA := Lib.hid hat
      have HR := Lib.hid hres
      have HB := Lib.hid hbel
      clear hat hres hbel hbox
      go_wp2_with (first | refine wpl_load16 rfl _ rfl _ rfl _ HA.out ?_ | refine wpl_store16 rfl _ _ rfl _ _ rfl rfl _ HR.out ?_)
      refine bodyPost_ret (results16 rfl _ _ _ _ rfl (HR.out.setRow _)) rfl ⟨?_, below_setRow HB.out (Nat.le_succ _) _⟩
      rw [row16_congr (g := fst L) (fun j hj => by rw [if_pos (by omega)])]

theorem run_index16 (f : Nat → Nat) (k : Nat) (hk : k < 16) (w : World) : (Instr.index 108 (.agg (row16 f)) (.int .i64 k)).run Try.prog w = .ok (.int .i64 (f k : Nat)) w := by
  have h1 : (0 : Int) ≤ (k : Int) ∧ (k : Int) < ((16 : Nat) : Int) := by omega
  have hs : (sizeOf 3).run Try.prog w = .ok 1 w := by kernel_rfl
  have hg := row16_get f k hk
  simp only [Instr.index, asIntOf, Sem.run_bind, Sem.run_pure, Result.andThen_ok, run_underlying Try.underlying108]
  rw [if_pos h1]
  simp [part, hs, hg, go_sem]

theorem wpl_index16 {ops : Array Oper} {rest : List Oper} {o : Oper} {a : Act} {w : World} {Q : Exit → Act → World → Prop} (hgd : o.guard = none) (x y : Operand) (ho : o.op = .index 108 x y)
    (f : Nat → Nat) (k : Nat) (hx : a.eval x = .agg (row16 f)) (hy : a.eval y = .int .i64 k) (hk : k < 16) (h : wpList Try.prog ops Q rest (a.put o.dst (.int .i64 (f k : Nat))) w) : wpList Try.prog ops Q (o :: rest) a w := by
  refine wpList_plain hgd fun K hK => ?_
  unfold Oper.wp execOp
  simp only [ho, hx, hy, Sem.run_bind, run_index16 f k hk, Result.andThen_ok, Sem.run_pure]
  exact hK _ _ h

end Go.Proofs.Ytikfenimgjeplaa.Huf
