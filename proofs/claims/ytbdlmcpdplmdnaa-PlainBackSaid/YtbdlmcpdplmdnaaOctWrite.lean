/-
  Contracts of octets.write, at both ways to lay a number's bytes.
-/
import Derived.Test.YtbdlmcpdplmdnaaOctBase
import Derived.Test.YtbdlmcpdplmdnaaOctMath
namespace Go.Proofs.Ytbdlmcpdplmdnaa.Oct
open Go.ChangeShapes Go.WideShapes Go.ChangeAt Go.RowKit
set_option linter.unusedVariables false
set_option maxRecDepth 100000

theorem info5 : (Try.prog.info? 5).map (fun i => (i.zero, i.size, i.bytes)) = some (some (.int .u8 0), 1, 1) := by kernel_rfl

/-- What the bytes are behind k rounds, where round i writes byte i at 'place i' (its own inverse). -/
def rowT (place : Nat → Nat) (s : Nat) (n : Int) (k : Nat) : List Value := (List.range s).map fun j => if place j < k then Value.int .u8 (n / 2 ^ (8 * place j) % 256) else Value.int .u8 0

theorem rowT_zero (place : Nat → Nat) (s : Nat) (n : Int) : rowT place s n 0 = List.replicate s (Value.int .u8 0) := by
  apply List.ext_getElem?
  intro j
  by_cases hj : j < s
  · simp [rowT, hj]
  · simp [rowT, hj]

theorem rowT_step (place : Nat → Nat) (s : Nat) (n : Int) (k : Nat) (hi : ∀ j, j < s → place (place j) = j) (hl : ∀ j, j < s → place j < s) (hk : k < s) :
    (rowT place s n k).set (place k) (Value.int .u8 (n / 2 ^ (8 * k) % 256)) = rowT place s n (k + 1) := by
  apply List.ext_getElem?
  intro j
  rw [List.getElem?_set]
  by_cases hj : j < s
  · by_cases hjk : place k = j
    · subst hjk
      simp [rowT, hi k hk, hl k hk]
    · have : place j ≠ k := by intro h; subst h; exact hjk (hi j hj)
      simp only [rowT, List.getElem?_map, List.getElem?_range hj, Option.map_some, List.length_map, List.length_range, if_neg hjk]
      congr 1
      by_cases h : place j < k
      · rw [if_pos h, if_pos (by omega)]
      · rw [if_neg h, if_neg (by omega)]
  · have hpk : place k ≠ j := by have := hl k hk; omega
    simp [rowT, hj, hpk]

theorem rowT_done (place : Nat → Nat) (s : Nat) (n : Int) (hl : ∀ j, j < s → place j < s) : rowT place s n s = ((List.range s).map fun j => byt n (place j)).map fun b => Value.int .u8 b.toNat := by
  unfold rowT
  rw [List.map_map]
  apply List.map_congr_left
  intro j hj
  rw [if_pos (hl j (List.mem_range.1 hj))]
  simp only [Function.comp, byt_toNat]

theorem turnedL (s : Nat) (n : Int) : ((List.range s).map fun j => byt n (s - 1 - j)) = beL s n := by
  unfold beL leL
  apply List.ext_getElem?
  intro j
  by_cases hj : j < s
  · rw [List.getElem?_reverse (by simpa using hj)]
    simp [hj, show s - 1 - j < s by omega]
  · rw [List.getElem?_eq_none (by simpa using hj), List.getElem?_eq_none (by simpa using hj)]


set_option maxHeartbeats 1000000 in
theorem write_turned (s : Nat) (n : Int) (c : Addr) (w : World) (h0 : 1 ≤ s) (h4 : s ≤ 4) (hs : sizeB s = true) (hn0 : 0 ≤ n) (hf : fitsB s n = true)
    (hc : w.cell? c = some (.int .i64 s)) (hb : c.block < w.heap.size) :
    Calls Try.prog 64 #[.int .i64 s, .int .i64 n, .func (.func 79) #[] #[.pointer (some c)]] w fun e w' => e = .returned (.tuple #[.string ⟨(beL s n).toArray⟩, .int .i64 0]) ∧ Below w.heap.size w w' := by
  obtain ⟨i0, hi, hz0, hz1, hz2⟩ := info_parts info5
  go_enter Try.func64, Try.ntmps64
  go_wp2_with (first
    | (go_at_call 77; refine (isSize_any _ _).mono ?_; rintro e w' ⟨rfl, rfl⟩)
    | (go_at_call 78; refine (fits_any _ _ _ (by omega) (by omega)).mono ?_; rintro e w' ⟨rfl, rfl⟩)
    | (at_make; refine wpList_make_full _ rfl _ _ 57 rfl w.heap.size 5 i0 (.int .u8 0) 1 Try.underlying57 hi hz0 hz1 .i64 .i64 _ _ s rfl rfl rfl rfl (by rw [hz2]; omega) (by unfold maxLen; omega) (Nat.le_refl _) ?_; intro w1 hown hgrow))
  go_loopw [26] (fun i wr => ∃ k : Nat, k ≤ s ∧ i = .int .i64 k ∧ wr.ownsRow w.heap.size 5 1 (.slice (some ⟨w.heap.size, 0, none⟩) s s) s (rowT (fun j => s - 1 - j) s n k) ∧ Below w.heap.size w wr) (fun i _ => s - (intOf i).toNat)
  case atStart =>
    refine ⟨0, Nat.zero_le _, rfl, ?_, (Below.refl _ _).grown hgrow (Nat.le_refl _) (fun j hj => by cases hj)⟩
    rw [rowT_zero]
    rw [show (Value.int IntKind.u8 0).cells = #[Value.int .u8 0] from rfl, toList_madeCells_one, Nat.mul_one] at hown
    exact hown
  case round =>
    obtain ⟨k, hk, rfl, hown1, hbel⟩ := hrel
    by_cases hlt : k < s
    · have hc1 : wr.cell? c = some (.int .i64 s) := by rw [hbel.cell hb]; exact hc
      have fz := hown1.frozenAt (s - 1 - k)
      have cz : wr.cell? ⟨w.heap.size, s - 1 - k, none⟩ = some (.int .u8 0) := by
        rw [hown1.cellAt _ (by omega)]
        simp [rowT, show s - 1 - k < s by omega, show s - 1 - (s - 1 - k) = k by omega]
      have hst := hown1.stored (s - 1 - k) (Value.int .u8 (n / 2 ^ (8 * k) % 256))
      rw [show ((rowT (fun j => s - 1 - j) s n k).set (s - 1 - k) _ = _) from rowT_step (fun j => s - 1 - j) s n k (by intro j hj; show s - 1 - (s - 1 - j) = j; omega) (by intro j hj; show s - 1 - j < s; omega) hlt] at hst
      have HST := Lib.hid hst
      have HBEL := Lib.hid hbel
      clear hown hgrow hown1 hst hbel
      have e1 : IntKind.i64.wrap (8 * (k : Int)) = 8 * k := IntWalk.i64_in _ (by omega)
      have e2 : 0 ≤ 8 * (k : Int) := by omega
      have e3 : 8 * (k : Int) ≤ 64 := by omega
      have e4 : 0 ≤ (s : Int) - 1 - k := by omega
      have e5 : (s : Int) - 1 - k < s := by omega
      have e6 : ((s : Int) - 1 - k).toNat = s - 1 - k := by omega
      go_wp2_with fail
      go_region_with (go_at_call 79; refine (turned1_any _ s _ _ ?_ (by omega) (by omega) (by omega) (by omega)).mono ?_; exact hc1; rintro e w' ⟨rfl, rfl⟩)
      go_wp2_with fail
      refine ⟨⟨k + 1, by omega, by go_num, HST.out.1.drew, (HBEL.out.setCell (Nat.le_refl _) _).drew⟩, ?_⟩
      simp [intOf]; omega
    · obtain rfl : k = s := by omega
      have hcv := fun W (hW : ∀ j, j < k → W.cell? ((⟨w.heap.size, 0, none⟩ : Addr).add j) = ((beL k n).map fun b => Value.int .u8 b.toNat)[j]?) => run_string_of (P := Try.prog) W 57 9 5 ⟨w.heap.size, 0, none⟩ k (beL k n) k (beL_length k n) Try.underlying57 Try.underlying5 Try.underlying9 hW
      have hcv1 := hcv wr (fun j hj => by
        have := hown1.cellAt j (by omega)
        rw [rowT_done _ _ _ (by intro j hj; omega), turnedL] at this
        rw [addr_add]; exact this)
      have HBEL := Lib.hid hbel
      clear hcv hown hgrow hown1 hbel
      go_wp2
      go_ret2
      exact ⟨rfl, HBEL.out⟩

set_option maxHeartbeats 1000000 in
theorem write_straight (s : Nat) (n : Int) (w : World) (h0 : 1 ≤ s) (h4 : s ≤ 4) (hs : sizeB s = true) (hn0 : 0 ≤ n) (hf : fitsB s n = true) :
    Calls Try.prog 64 #[.int .i64 s, .int .i64 n, .func (.func 86) #[] #[]] w fun e w' => e = .returned (.tuple #[.string ⟨(leL s n).toArray⟩, .int .i64 0]) ∧ Below w.heap.size w w' := by
  obtain ⟨i0, hi, hz0, hz1, hz2⟩ := info_parts info5
  go_enter Try.func64, Try.ntmps64
  go_wp2_with (first
    | (go_at_call 77; refine (isSize_any _ _).mono ?_; rintro e w' ⟨rfl, rfl⟩)
    | (go_at_call 78; refine (fits_any _ _ _ (by omega) (by omega)).mono ?_; rintro e w' ⟨rfl, rfl⟩)
    | (at_make; refine wpList_make_full _ rfl _ _ 57 rfl w.heap.size 5 i0 (.int .u8 0) 1 Try.underlying57 hi hz0 hz1 .i64 .i64 _ _ s rfl rfl rfl rfl (by rw [hz2]; omega) (by unfold maxLen; omega) (Nat.le_refl _) ?_; intro w1 hown hgrow))
  go_loopw [26] (fun i wr => ∃ k : Nat, k ≤ s ∧ i = .int .i64 k ∧ wr.ownsRow w.heap.size 5 1 (.slice (some ⟨w.heap.size, 0, none⟩) s s) s (rowT (fun j => j) s n k) ∧ Below w.heap.size w wr) (fun i _ => s - (intOf i).toNat)
  case atStart =>
    refine ⟨0, Nat.zero_le _, rfl, ?_, (Below.refl _ _).grown hgrow (Nat.le_refl _) (fun j hj => by cases hj)⟩
    rw [rowT_zero]
    rw [show (Value.int IntKind.u8 0).cells = #[Value.int .u8 0] from rfl, toList_madeCells_one, Nat.mul_one] at hown
    exact hown
  case round =>
    obtain ⟨k, hk, rfl, hown1, hbel⟩ := hrel
    by_cases hlt : k < s
    · have fz := hown1.frozenAt (k)
      have cz : wr.cell? ⟨w.heap.size, k, none⟩ = some (.int .u8 0) := by
        rw [hown1.cellAt _ (by omega)]
        simp [rowT, hlt]
      have hst := hown1.stored (k) (Value.int .u8 (n / 2 ^ (8 * k) % 256))
      rw [show ((rowT (fun j => j) s n k).set k _ = _) from rowT_step (fun j => j) s n k (by intro j hj; rfl) (by intro j hj; exact hj) hlt] at hst
      have HST := Lib.hid hst
      have HBEL := Lib.hid hbel
      clear hown hgrow hown1 hst hbel
      have e1 : IntKind.i64.wrap (8 * (k : Int)) = 8 * k := IntWalk.i64_in _ (by omega)
      have e2 : 0 ≤ 8 * (k : Int) := by omega
      have e3 : 8 * (k : Int) ≤ 64 := by omega
      have e4 : 0 ≤ (k : Int) := by omega
      have e5 : (k : Int) < s := by omega
      go_wp2_with fail
      go_region_with (go_at_call 86; refine (straight1_any _ _).mono ?_; rintro e w' ⟨rfl, rfl⟩)
      go_wp2_with fail
      refine ⟨⟨k + 1, by omega, by go_num, HST.out.1.drew, (HBEL.out.setCell (Nat.le_refl _) _).drew⟩, ?_⟩
      simp [intOf]; omega
    · obtain rfl : k = s := by omega
      have hcv := fun W (hW : ∀ j, j < k → W.cell? ((⟨w.heap.size, 0, none⟩ : Addr).add j) = ((leL k n).map fun b => Value.int .u8 b.toNat)[j]?) => run_string_of (P := Try.prog) W 57 9 5 ⟨w.heap.size, 0, none⟩ k (leL k n) k (leL_length k n) Try.underlying57 Try.underlying5 Try.underlying9 hW
      have hcv1 := hcv wr (fun j hj => by
        have := hown1.cellAt j (by omega)
        rw [rowT_done _ _ _ (by intro j hj; omega), show ((List.range k).map fun j => byt n j) = leL k n from rfl] at this
        rw [addr_add]; exact this)
      have HBEL := Lib.hid hbel
      clear hcv hown hgrow hown1 hbel
      go_wp2
      go_ret2
      exact ⟨rfl, HBEL.out⟩

end Go.Proofs.Ytbdlmcpdplmdnaa.Oct
