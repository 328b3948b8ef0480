/-
  Texts in one: OctMath, OctBase, OctWrite, OctPut, OctRef, OctCur, OctRead, OctRefCur, OctWorks, OctBack.
-/
import Derived.WalkKit
import Derived.ProofKit
import Derived.Laws.Cells
import Derived.Laws.BytesString
import Derived.Test.YtmjjbapahgejmaaRows
import Derived.OpenShut
import Derived.ShutString
import Derived.ChangeOld
import Derived.Below
import Derived.WalkSpells
import Derived.WalkLawsBesides
import Derived.Deep.QuietTactic
import Derived.BigQuiet
import Derived.BigGuardPart
import Derived.StillTailTactics
import Derived.Deep.RegionHeld3
import Derived.Deep.RegionWith
import Derived.Outline
import Derived.IntWalk
import Derived.Lib.Hide
namespace Go.Proofs.Ytmjjbapahgejmaa.Oct

/-- Byte number i of n, counted from the least one. -/
def byt (n : Int) (i : Nat) : UInt8 := UInt8.ofNat (n / 2 ^ (8 * i) % 256).toNat

theorem byt_toNat (n : Int) (i : Nat) : ((byt n i).toNat : Int) = n / 2 ^ (8 * i) % 256 := by
  unfold byt
  have h0 : 0 ≤ n / 2 ^ (8 * i) % 256 := Int.emod_nonneg _ (by decide)
  have h1 : n / 2 ^ (8 * i) % 256 < 256 := Int.emod_lt_of_pos _ (by decide)
  rw [UInt8.toNat_ofNat']
  omega

/-- The bytes of n, the least one first. -/
def leL (s : Nat) (n : Int) : List UInt8 := (List.range s).map (byt n)
/-- The bytes of n, the greatest one first. -/
def beL (s : Nat) (n : Int) : List UInt8 := (leL s n).reverse

theorem leL_length (s : Nat) (n : Int) : (leL s n).length = s := by simp [leL]
theorem beL_length (s : Nat) (n : Int) : (beL s n).length = s := by simp [beL, leL]

theorem ofNat_foldl (ns : List UInt8) : ∀ s : ByteArray, (ns.map fun b => (b.toNat : Int)).foldl (fun r n => r.push (UInt8.ofNat n.toNat)) s = ⟨s.data ++ ns.toArray⟩ := by
  induction ns with
  | nil => intro s; cases s; simp
  | cons n ns ih =>
    intro s
    simp only [List.map_cons, List.foldl_cons]
    rw [ih]
    cases s
    simp [ByteArray.push]

theorem addr_add (g j : Nat) : (⟨g, 0, none⟩ : Addr).add j = ⟨g, j, none⟩ := by
  unfold Addr.add
  split
  · next h => simp_all
  · simp

/-- 'string(b)' of a slice that reads as bytes. -/
theorem run_string_of {P : Program} (w : World) (src dst e : TypeId) (a : Addr) (c : Nat) (bs : List UInt8) (len : Nat) (hl : bs.length = len)
    (hs : P.underlying src = some (.slice e)) (he : P.underlying e = some (.int .u8)) (hd : P.underlying dst = some .string)
    (h : ∀ j, j < len → w.cell? (a.add j) = (bs.map fun b => Value.int .u8 b.toNat)[j]?) :
    (convert src dst (.slice (some a) len c)).run P w = .ok (.string ⟨bs.toArray⟩) w := by
  subst hl
  rw [run_convert_bytes_string w src dst e _ _ _ hs he hd]
  have h1 := run_loadCells_list (P := P) (w := w) a (bs.map fun b => Value.int .u8 b.toNat) (by
    intro j v hj
    have hlt : j < bs.length := by
      have := (List.getElem?_eq_some_iff.1 hj).1
      simpa using this
    rw [h j hlt, hj])
  rw [List.length_map] at h1
  rw [run_bytesToString w a bs.length c (bs.map fun b => (b.toNat : Int)) (by rw [h1, List.map_map]; rfl), ofNat_foldl]
  rw [show ByteArray.empty.data = #[] from rfl, Array.empty_append]

end Go.Proofs.Ytmjjbapahgejmaa.Oct
namespace Go.Proofs.Ytmjjbapahgejmaa.Oct
open Go.ChangeShapes Go.WideShapes Go.ChangeAt Go.RowKit
set_option linter.unusedVariables false
set_option maxRecDepth 100000

def sizeB (n : Int) : Bool := decide (n = 1 ∨ n = 2 ∨ n = 4)

theorem isSize_any (n : Int) (w : World) :
    Calls Try.prog 91 #[.int .i64 n] w fun e w' => e = .returned (.bool (sizeB n)) ∧ w = w' := by
  by_cases h1 : n = 1
  · subst h1
    go_enter Try.func91, Try.ntmps91
    go_wp2
    go_ret
    exact ⟨rfl, rfl⟩
  by_cases h2 : n = 2
  · subst h2
    go_enter Try.func91, Try.ntmps91
    go_wp2
    go_ret
    exact ⟨rfl, rfl⟩
  by_cases h4 : n = 4
  · subst h4
    go_enter Try.func91, Try.ntmps91
    go_wp2
    go_ret
    exact ⟨rfl, rfl⟩
  have e : sizeB n = false := by simp [sizeB, h1, h2, h4]
  have e1 : (n == 1) = false := by simp [h1]
  have e2 : (n == 2) = false := by simp [h2]
  have e4 : (n == 4) = false := by simp [h4]
  clear h1 h2 h4
  go_enter Try.func91, Try.ntmps91
  go_wp2
  go_ret
  exact ⟨by rw [e]; rfl, rfl⟩

def fitsB (s n : Int) : Bool := (n / 2 ^ (8 * s).toNat == 0)

theorem fits_any (s n : Int) (w : World) (h0 : 0 ≤ s) (h1 : s ≤ 4) :
    Calls Try.prog 100 #[.int .i64 s, .int .i64 n] w fun e w' => e = .returned (.bool (fitsB s n)) ∧ w = w' := by
  go_enter Try.func100, Try.ntmps100
  go_wp2
  go_ret
  exact ⟨rfl, rfl⟩

theorem turned1_any (i s : Int) (a : Addr) (w : World) (hc : w.cell? a = some (.int .i64 s)) (h0 : 0 ≤ s) (h1 : s ≤ 4) (i0 : 0 ≤ i) (i1 : i ≤ 4) :
    Calls Try.prog 94 #[.int .i64 i, .pointer (some a)] w fun e w' => e = .returned (.int .i64 (s - 1 - i)) ∧ w = w' := by
  go_enter Try.func94, Try.ntmps94
  go_wp2
  go_ret
  exact ⟨rfl, rfl⟩

theorem straight1_any (i : Int) (w : World) :
    Calls Try.prog 105 #[.int .i64 i] w fun e w' => e = .returned (.int .i64 i) ∧ w = w' := by
  go_enter Try.func105, Try.ntmps105
  go_wp2
  go_ret
  exact ⟨rfl, rfl⟩

theorem straight_any (w : World) :
    Calls Try.prog 101 #[] w fun e w' => e = .returned (.func (.func 105) #[] #[]) ∧ w = w' := by
  go_enter Try.func101, Try.ntmps101
  go_wp2
  go_ret
  exact ⟨rfl, rfl⟩

theorem turned_any (s : Int) (w : World) :
    Calls Try.prog 69 #[.int .i64 s] w fun e w' => e = .returned (.func (.func 94) #[] #[.pointer (some ⟨w.heap.size, 0, none⟩)]) ∧ w' = w.alloc (.cells #[.int .i64 s] 3) := by
  have hmf : ∀ (fn : Fn) (first cap : Array Value) (w : World), (Instr.makeFunc fn first cap).run Try.prog w = .ok (.func fn first cap) w := fun _ _ _ _ => rfl
  go_enter Try.func69, Try.ntmps69
  go_wp2
  go_ret
  exact ⟨rfl, rfl⟩

end Go.Proofs.Ytmjjbapahgejmaa.Oct
namespace Go.Proofs.Ytmjjbapahgejmaa.Oct
open Go.ChangeShapes Go.WideShapes Go.ChangeAt Go.RowKit
set_option linter.unusedVariables false
set_option maxRecDepth 100000

theorem info5 : (Try.prog.info? 5).map (fun i => (i.zero, i.size, i.bytes)) = some (some (.int .u8 0), 1, 1) := by kernel_rfl

/-- What the bytes are behind k rounds, where round i writes byte i at 'place i' (its own inverse). -/
def rowT (place : Nat → Nat) (s : Nat) (n : Int) (k : Nat) : List Value := (List.range s).map fun j => if place j < k then Value.int .u8 (n / 2 ^ (8 * place j) % 256) else Value.int .u8 0

theorem rowT_zero (place : Nat → Nat) (s : Nat) (n : Int) : rowT place s n 0 = List.replicate s (Value.int .u8 0) := by
  apply List.ext_getElem?
  intro j
  by_cases hj : j < s
  · simp [rowT, hj]
  · simp [rowT, hj]

theorem rowT_step (place : Nat → Nat) (s : Nat) (n : Int) (k : Nat) (hi : ∀ j, j < s → place (place j) = j) (hl : ∀ j, j < s → place j < s) (hk : k < s) :
    (rowT place s n k).set (place k) (Value.int .u8 (n / 2 ^ (8 * k) % 256)) = rowT place s n (k + 1) := by
  apply List.ext_getElem?
  intro j
  rw [List.getElem?_set]
  by_cases hj : j < s
  · by_cases hjk : place k = j
    · subst hjk
      simp [rowT, hi k hk, hl k hk]
    · have : place j ≠ k := by intro h; subst h; exact hjk (hi j hj)
      simp only [rowT, List.getElem?_map, List.getElem?_range hj, Option.map_some, List.length_map, List.length_range, if_neg hjk]
      congr 1
      by_cases h : place j < k
      · rw [if_pos h, if_pos (by omega)]
      · rw [if_neg h, if_neg (by omega)]
  · have hpk : place k ≠ j := by have := hl k hk; omega
    simp [rowT, hj, hpk]

theorem rowT_done (place : Nat → Nat) (s : Nat) (n : Int) (hl : ∀ j, j < s → place j < s) : rowT place s n s = ((List.range s).map fun j => byt n (place j)).map fun b => Value.int .u8 b.toNat := by
  unfold rowT
  rw [List.map_map]
  apply List.map_congr_left
  intro j hj
  rw [if_pos (hl j (List.mem_range.1 hj))]
  simp only [Function.comp, byt_toNat]

theorem turnedL (s : Nat) (n : Int) : ((List.range s).map fun j => byt n (s - 1 - j)) = beL s n := by
  unfold beL leL
  apply List.ext_getElem?
  intro j
  by_cases hj : j < s
  · rw [List.getElem?_reverse (by simpa using hj)]
    simp [hj, show s - 1 - j < s by omega]
  · rw [List.getElem?_eq_none (by simpa using hj), List.getElem?_eq_none (by simpa using hj)]


set_option maxHeartbeats 1000000 in
theorem write_turned (s : Nat) (n : Int) (c : Addr) (w : World) (h0 : 1 ≤ s) (h4 : s ≤ 4) (hs : sizeB s = true) (hn0 : 0 ≤ n) (hf : fitsB s n = true)
    (hc : w.cell? c = some (.int .i64 s)) (hb : c.block < w.heap.size) :
    Calls Try.prog 84 #[.int .i64 s, .int .i64 n, .func (.func 94) #[] #[.pointer (some c)]] w fun e w' => e = .returned (.tuple #[.string ⟨(beL s n).toArray⟩, .int .i64 0]) ∧ Below w.heap.size w w' := by
  obtain ⟨i0, hi, hz0, hz1, hz2⟩ := info_parts info5
  go_enter Try.func84, Try.ntmps84
  go_wp2_with (first
    | (go_at_call 91; refine (isSize_any _ _).mono ?_; rintro e w' ⟨rfl, rfl⟩)
    | (go_at_call 100; refine (fits_any _ _ _ (by omega) (by omega)).mono ?_; rintro e w' ⟨rfl, rfl⟩)
    | (at_make; refine wpList_make_full _ rfl _ _ 61 rfl w.heap.size 5 i0 (.int .u8 0) 1 Try.underlying61 hi hz0 hz1 .i64 .i64 _ _ s rfl rfl rfl rfl (by rw [hz2]; omega) (by unfold maxLen; omega) (Nat.le_refl _) ?_; intro w1 hown hgrow))
  go_loopw [26] (fun i wr => ∃ k : Nat, k ≤ s ∧ i = .int .i64 k ∧ wr.ownsRow w.heap.size 5 1 (.slice (some ⟨w.heap.size, 0, none⟩) s s) s (rowT (fun j => s - 1 - j) s n k) ∧ Below w.heap.size w wr) (fun i _ => s - (intOf i).toNat)
  case atStart =>
    refine ⟨0, Nat.zero_le _, rfl, ?_, (Below.refl _ _).grown hgrow (Nat.le_refl _) (fun j hj => by cases hj)⟩
    rw [rowT_zero]
    rw [show (Value.int IntKind.u8 0).cells = #[Value.int .u8 0] from rfl, toList_madeCells_one, Nat.mul_one] at hown
    exact hown
  case round =>
    obtain ⟨k, hk, rfl, hown1, hbel⟩ := hrel
    by_cases hlt : k < s
    · have hc1 : wr.cell? c = some (.int .i64 s) := by rw [hbel.cell hb]; exact hc
      have fz := hown1.frozenAt (s - 1 - k)
      have cz : wr.cell? ⟨w.heap.size, s - 1 - k, none⟩ = some (.int .u8 0) := by
        rw [hown1.cellAt _ (by omega)]
        simp [rowT, show s - 1 - k < s by omega, show s - 1 - (s - 1 - k) = k by omega]
      have hst := hown1.stored (s - 1 - k) (Value.int .u8 (n / 2 ^ (8 * k) % 256))
      rw [show ((rowT (fun j => s - 1 - j) s n k).set (s - 1 - k) _ = _) from rowT_step (fun j => s - 1 - j) s n k (by intro j hj; show s - 1 - (s - 1 - j) = j; omega) (by intro j hj; show s - 1 - j < s; omega) hlt] at hst
      have HST := Lib.hid hst
      have HBEL := Lib.hid hbel
      clear hown hgrow hown1 hst hbel
      have e1 : IntKind.i64.wrap (8 * (k : Int)) = 8 * k := IntWalk.i64_in _ (by omega)
      have e2 : 0 ≤ 8 * (k : Int) := by omega
      have e3 : 8 * (k : Int) ≤ 64 := by omega
      have e4 : 0 ≤ (s : Int) - 1 - k := by omega
      have e5 : (s : Int) - 1 - k < s := by omega
      have e6 : ((s : Int) - 1 - k).toNat = s - 1 - k := by omega
      go_wp2_with fail
      go_region_with (go_at_call 94; refine (turned1_any _ s _ _ ?_ (by omega) (by omega) (by omega) (by omega)).mono ?_; exact hc1; rintro e w' ⟨rfl, rfl⟩)
      go_wp2_with fail
      refine ⟨⟨k + 1, by omega, by go_num, HST.out.1.drew, (HBEL.out.setCell (Nat.le_refl _) _).drew⟩, ?_⟩
      simp [intOf]; omega
    · obtain rfl : k = s := by omega
      have hcv := fun W (hW : ∀ j, j < k → W.cell? ((⟨w.heap.size, 0, none⟩ : Addr).add j) = ((beL k n).map fun b => Value.int .u8 b.toNat)[j]?) => run_string_of (P := Try.prog) W 61 9 5 ⟨w.heap.size, 0, none⟩ k (beL k n) k (beL_length k n) Try.underlying61 Try.underlying5 Try.underlying9 hW
      have hcv1 := hcv wr (fun j hj => by
        have := hown1.cellAt j (by omega)
        rw [rowT_done _ _ _ (by intro j hj; omega), turnedL] at this
        rw [addr_add]; exact this)
      have HBEL := Lib.hid hbel
      clear hcv hown hgrow hown1 hbel
      go_wp2
      go_ret2
      exact ⟨rfl, HBEL.out⟩

set_option maxHeartbeats 1000000 in
theorem write_straight (s : Nat) (n : Int) (w : World) (h0 : 1 ≤ s) (h4 : s ≤ 4) (hs : sizeB s = true) (hn0 : 0 ≤ n) (hf : fitsB s n = true) :
    Calls Try.prog 84 #[.int .i64 s, .int .i64 n, .func (.func 105) #[] #[]] w fun e w' => e = .returned (.tuple #[.string ⟨(leL s n).toArray⟩, .int .i64 0]) ∧ Below w.heap.size w w' := by
  obtain ⟨i0, hi, hz0, hz1, hz2⟩ := info_parts info5
  go_enter Try.func84, Try.ntmps84
  go_wp2_with (first
    | (go_at_call 91; refine (isSize_any _ _).mono ?_; rintro e w' ⟨rfl, rfl⟩)
    | (go_at_call 100; refine (fits_any _ _ _ (by omega) (by omega)).mono ?_; rintro e w' ⟨rfl, rfl⟩)
    | (at_make; refine wpList_make_full _ rfl _ _ 61 rfl w.heap.size 5 i0 (.int .u8 0) 1 Try.underlying61 hi hz0 hz1 .i64 .i64 _ _ s rfl rfl rfl rfl (by rw [hz2]; omega) (by unfold maxLen; omega) (Nat.le_refl _) ?_; intro w1 hown hgrow))
  go_loopw [26] (fun i wr => ∃ k : Nat, k ≤ s ∧ i = .int .i64 k ∧ wr.ownsRow w.heap.size 5 1 (.slice (some ⟨w.heap.size, 0, none⟩) s s) s (rowT (fun j => j) s n k) ∧ Below w.heap.size w wr) (fun i _ => s - (intOf i).toNat)
  case atStart =>
    refine ⟨0, Nat.zero_le _, rfl, ?_, (Below.refl _ _).grown hgrow (Nat.le_refl _) (fun j hj => by cases hj)⟩
    rw [rowT_zero]
    rw [show (Value.int IntKind.u8 0).cells = #[Value.int .u8 0] from rfl, toList_madeCells_one, Nat.mul_one] at hown
    exact hown
  case round =>
    obtain ⟨k, hk, rfl, hown1, hbel⟩ := hrel
    by_cases hlt : k < s
    · have fz := hown1.frozenAt (k)
      have cz : wr.cell? ⟨w.heap.size, k, none⟩ = some (.int .u8 0) := by
        rw [hown1.cellAt _ (by omega)]
        simp [rowT, hlt]
      have hst := hown1.stored (k) (Value.int .u8 (n / 2 ^ (8 * k) % 256))
      rw [show ((rowT (fun j => j) s n k).set k _ = _) from rowT_step (fun j => j) s n k (by intro j hj; rfl) (by intro j hj; exact hj) hlt] at hst
      have HST := Lib.hid hst
      have HBEL := Lib.hid hbel
      clear hown hgrow hown1 hst hbel
      have e1 : IntKind.i64.wrap (8 * (k : Int)) = 8 * k := IntWalk.i64_in _ (by omega)
      have e2 : 0 ≤ 8 * (k : Int) := by omega
      have e3 : 8 * (k : Int) ≤ 64 := by omega
      have e4 : 0 ≤ (k : Int) := by omega
      have e5 : (k : Int) < s := by omega
      go_wp2_with fail
      go_region_with (go_at_call 105; refine (straight1_any _ _).mono ?_; rintro e w' ⟨rfl, rfl⟩)
      go_wp2_with fail
      refine ⟨⟨k + 1, by omega, by go_num, HST.out.1.drew, (HBEL.out.setCell (Nat.le_refl _) _).drew⟩, ?_⟩
      simp [intOf]; omega
    · obtain rfl : k = s := by omega
      have hcv := fun W (hW : ∀ j, j < k → W.cell? ((⟨w.heap.size, 0, none⟩ : Addr).add j) = ((leL k n).map fun b => Value.int .u8 b.toNat)[j]?) => run_string_of (P := Try.prog) W 61 9 5 ⟨w.heap.size, 0, none⟩ k (leL k n) k (leL_length k n) Try.underlying61 Try.underlying5 Try.underlying9 hW
      have hcv1 := hcv wr (fun j hj => by
        have := hown1.cellAt j (by omega)
        rw [rowT_done _ _ _ (by intro j hj; omega), show ((List.range k).map fun j => byt n j) = leL k n from rfl] at this
        rw [addr_add]; exact this)
      have HBEL := Lib.hid hbel
      clear hcv hown hgrow hown1 hbel
      go_wp2
      go_ret2
      exact ⟨rfl, HBEL.out⟩

end Go.Proofs.Ytmjjbapahgejmaa.Oct
namespace Go.Proofs.Ytmjjbapahgejmaa.Oct
open Go.ChangeShapes Go.WideShapes Go.ChangeAt Go.RowKit
set_option linter.unusedVariables false
set_option maxRecDepth 100000

/-- May n be written in s bytes? -/
def okB (s n : Int) : Bool := sizeB s && decide (0 ≤ n) && fitsB s n
def putS (s n : Int) : ByteArray := ⟨(if okB s n then beL s.toNat n else []).toArray⟩
def litS (s n : Int) : ByteArray := ⟨(if okB s n then leL s.toNat n else []).toArray⟩
def putE (s n : Int) : Int := if okB s n then 0 else 1
def revS (s : ByteArray) : ByteArray := ⟨s.data.toList.reverse.toArray⟩

theorem revS_putS (s n : Int) : revS (putS s n) = litS s n := by
  unfold revS putS litS beL
  by_cases h : okB s n <;> simp [h]

theorem sizeB_cases {s : Int} (h : sizeB s = true) : s = 1 ∨ s = 2 ∨ s = 4 := by simpa [sizeB] using h

theorem write_no (s n : Int) (pl : Value) (w : World) (h : okB s n = false) :
    Calls Try.prog 84 #[.int .i64 s, .int .i64 n, pl] w fun e w' => e = .returned (.tuple #[.string ⟨#[]⟩, .int .i64 1]) ∧ w = w' := by
  by_cases hs : sizeB s = true
  · have hb := sizeB_cases hs
    have b0 : 0 ≤ s := by omega
    have b4 : s ≤ 4 := by omega
    by_cases hn : 0 ≤ n
    · have hf : fitsB s n = false := by simpa [okB, hs, hn] using h
      clear h hb
      go_enter Try.func84, Try.ntmps84
      go_wp2_with (first
        | (go_at_call 91; refine (isSize_any _ _).mono ?_; rintro e w' ⟨rfl, rfl⟩)
        | (go_at_call 100; refine (fits_any _ _ _ (by omega) (by omega)).mono ?_; rintro e w' ⟨rfl, rfl⟩))
      go_ret2
      exact ⟨rfl, rfl⟩
    · have hn' : n < 0 := by omega
      clear h hb hn
      go_enter Try.func84, Try.ntmps84
      go_wp2_with (go_at_call 91; refine (isSize_any _ _).mono ?_; rintro e w' ⟨rfl, rfl⟩)
      go_ret2
      exact ⟨rfl, rfl⟩
  · have hs' : sizeB s = false := by simpa using hs
    clear hs h
    go_enter Try.func84, Try.ntmps84
    go_wp2_with (go_at_call 91; refine (isSize_any _ _).mono ?_; rintro e w' ⟨rfl, rfl⟩)
    go_ret2
    exact ⟨rfl, rfl⟩

theorem okB_parts {s n : Int} (h : okB s n = true) : sizeB s = true ∧ 0 ≤ n ∧ fitsB s n = true := by
  simp [okB] at h
  exact ⟨h.1.1, h.1.2, h.2⟩

theorem write_t (s n : Int) (c : Addr) (w : World) (hc : w.cell? c = some (.int .i64 s)) (hb : c.block < w.heap.size) :
    Calls Try.prog 84 #[.int .i64 s, .int .i64 n, .func (.func 94) #[] #[.pointer (some c)]] w fun e w' => e = .returned (.tuple #[.string (putS s n), .int .i64 (putE s n)]) ∧ Below w.heap.size w w' := by
  by_cases h : okB s n = true
  · obtain ⟨h1, h2, h3⟩ := okB_parts h
    have hb' := sizeB_cases h1
    obtain ⟨k, rfl⟩ : ∃ k : Nat, s = k := ⟨s.toNat, by omega⟩
    refine (write_turned k n c w (by omega) (by omega) h1 h2 h3 hc hb).mono ?_
    rintro e w' ⟨rfl, hbel⟩
    exact ⟨by simp [putS, putE, h], hbel⟩
  · refine (write_no s n _ w (by simpa using h)).mono ?_
    rintro e w' ⟨rfl, rfl⟩
    exact ⟨by simp [putS, putE, h], Below.refl _ _⟩

theorem write_s (s n : Int) (w : World) :
    Calls Try.prog 84 #[.int .i64 s, .int .i64 n, .func (.func 105) #[] #[]] w fun e w' => e = .returned (.tuple #[.string (litS s n), .int .i64 (putE s n)]) ∧ Below w.heap.size w w' := by
  by_cases h : okB s n = true
  · obtain ⟨h1, h2, h3⟩ := okB_parts h
    have hb' := sizeB_cases h1
    obtain ⟨k, rfl⟩ : ∃ k : Nat, s = k := ⟨s.toNat, by omega⟩
    refine (write_straight k n w (by omega) (by omega) h1 h2 h3).mono ?_
    rintro e w' ⟨rfl, hbel⟩
    exact ⟨by simp [litS, putE, h], hbel⟩
  · refine (write_no s n _ w (by simpa using h)).mono ?_
    rintro e w' ⟨rfl, rfl⟩
    exact ⟨by simp [litS, putE, h], Below.refl _ _⟩

theorem put_any (s n : Int) (w : World) :
    Calls Try.prog 61 #[.int .i64 s, .int .i64 n] w fun e w' => e = .returned (.tuple #[.string (putS s n), .int .i64 (putE s n)]) ∧ Below w.heap.size w w' := by
  go_enter Try.func61, Try.ntmps61
  go_wp2_with (first
    | (go_at_call 69; refine (turned_any _ _).mono ?_; rintro e w' ⟨rfl, rfl⟩)
    | (go_at_call 84; refine (write_t _ _ _ _ (by simp) (by simp)).mono ?_; rintro e w' ⟨rfl, hbel⟩))
  go_ret2
  exact ⟨rfl, ((Below.refl _ _).alloc (Nat.le_refl _) _).trans (hbel.mono (by simp))⟩

theorem little_any (s n : Int) (w : World) :
    Calls Try.prog 85 #[.int .i64 s, .int .i64 n] w fun e w' => e = .returned (.tuple #[.string (litS s n), .int .i64 (putE s n)]) ∧ Below w.heap.size w w' := by
  go_enter Try.func85, Try.ntmps85
  go_wp2_with (first
    | (go_at_call 101; refine (straight_any _).mono ?_; rintro e w' ⟨rfl, rfl⟩)
    | (go_at_call 84; refine (write_s _ _ _).mono ?_; rintro e w' ⟨rfl, hbel⟩))
  go_ret2
  exact ⟨rfl, hbel⟩

end Go.Proofs.Ytmjjbapahgejmaa.Oct
namespace Go.Proofs.Ytmjjbapahgejmaa.Oct
open Go.ChangeShapes Go.WideShapes Go.ChangeAt Go.RowKit
set_option linter.unusedVariables false
set_option maxRecDepth 100000

theorem refSize_any (n : Int) (w : World) :
    Calls Try.prog 87 #[.int .i64 n] w fun e w' => e = .returned (.bool (sizeB n)) ∧ w = w' := by
  by_cases h1 : n = 1
  · subst h1
    go_enter Try.func87, Try.ntmps87
    go_wp2
    go_ret
    exact ⟨rfl, rfl⟩
  by_cases h2 : n = 2
  · subst h2
    go_enter Try.func87, Try.ntmps87
    go_wp2
    go_ret
    exact ⟨rfl, rfl⟩
  by_cases h4 : n = 4
  · subst h4
    go_enter Try.func87, Try.ntmps87
    go_wp2
    go_ret
    exact ⟨rfl, rfl⟩
  have e : sizeB n = false := by simp [sizeB, h1, h2, h4]
  have e1 : (n == 1) = false := by simp [h1]
  have e2 : (n == 2) = false := by simp [h2]
  have e4 : (n == 4) = false := by simp [h4]
  clear h1 h2 h4
  go_enter Try.func87, Try.ntmps87
  go_wp2
  go_ret
  exact ⟨by rw [e]; rfl, rfl⟩

def mostI (s : Int) : Int := if s = 1 then 255 else if s = 2 then 65535 else 4294967295

theorem most_any (s : Int) (w : World) :
    Calls Try.prog 88 #[.int .i64 s] w fun e w' => e = .returned (.int .i64 (mostI s)) ∧ w = w' := by
  by_cases h1 : s = 1
  · subst h1
    go_enter Try.func88, Try.ntmps88
    go_wp2
    go_ret
    exact ⟨rfl, rfl⟩
  by_cases h2 : s = 2
  · subst h2
    go_enter Try.func88, Try.ntmps88
    go_wp2
    go_ret
    exact ⟨rfl, rfl⟩
  have e : mostI s = 4294967295 := by simp [mostI, h1, h2]
  have e1 : (s == 1) = false := by simp [h1]
  have e2 : (s == 2) = false := by simp [h2]
  rw [e]
  clear h1 h2 e
  go_enter Try.func88, Try.ntmps88
  go_wp2
  go_ret
  exact ⟨rfl, rfl⟩

theorem fits_most {s n : Int} (hs : sizeB s = true) (hn : 0 ≤ n) : fitsB s n = true ↔ n ≤ mostI s := by
  rcases sizeB_cases hs with rfl | rfl | rfl <;> simp [fitsB, mostI] <;> omega

theorem most_lt {s : Int} (hs : sizeB s = true) : 0 ≤ mostI s ∧ mostI s ≤ 4294967295 := by
  rcases sizeB_cases hs with rfl | rfl | rfl <;> simp [mostI]

theorem beL_succ (k : Nat) (n : Int) : beL (k + 1) n = byt n k :: beL k n := by
  simp [beL, leL, List.range_succ]

theorem beL_cons_arr (k : Nat) (n : Int) : (⟨#[byt n k]⟩ : ByteArray) ++ ⟨(beL k n).toArray⟩ = ⟨(beL (k + 1) n).toArray⟩ := by
  rw [beL_succ, ByteArray.mk_append_mk]
  simp

theorem div_step (n : Int) (k : Nat) : n / 2 ^ (8 * k) / 256 = n / 2 ^ (8 * (k + 1)) := by
  rw [Int.ediv_ediv_of_nonneg (Int.le_of_lt (Int.pow_pos (by decide))), show (8 * (k + 1)) = 8 * k + 8 by omega, Int.pow_add]
  rfl

set_option maxHeartbeats 1000000 in
theorem refPut_yes (s : Nat) (n : Int) (w : World) (h0 : 1 ≤ s) (h4 : s ≤ 4) (hs : sizeB s = true) (hn : 0 ≤ n) (hm : n ≤ mostI s) :
    Calls Try.prog 64 #[.int .i64 s, .int .i64 n] w fun e w' => e = .returned (.tuple #[.string ⟨(beL s n).toArray⟩, .int .i64 0]) ∧ Below w.heap.size w w' := by
  have hmb := most_lt hs
  have hd : decide (mostI s < n) = false := by simp; omega
  go_enter Try.func64, Try.ntmps64
  go_wp2_with (first
    | (go_at_call 87; refine (refSize_any _ _).mono ?_; rintro e w' ⟨rfl, rfl⟩)
    | (go_at_call 88; refine (most_any _ _).mono ?_; rintro e w' ⟨rfl, rfl⟩))
  go_loopw [1, 6, 7] (fun m t i wr => ∃ k : Nat, k ≤ s ∧ i = .int .i64 k ∧ m = .int .i64 (n / 2 ^ (8 * k)) ∧ t = .string ⟨(beL k n).toArray⟩ ∧ Below w.heap.size w wr) (fun _ _ i _ => s - (intOf i).toNat)
  case atStart => exact ⟨0, Nat.zero_le _, rfl, by simp, rfl, Below.refl _ _⟩
  case round =>
    obtain ⟨k, hk, rfl, rfl, rfl, hbel⟩ := hrel
    have q0 : 0 ≤ n / 2 ^ (8 * k) := Int.ediv_nonneg hn (Int.le_of_lt (Int.pow_pos (by decide)))
    have q1 : n / 2 ^ (8 * k) ≤ n := Int.ediv_le_self _ hn
    by_cases hlt : k < s
    · have hadd : ∀ W : World, (Op.stringOp .add ⟨#[byt n k]⟩ ⟨(beL k n).toArray⟩).run Try.prog W = .ok (.string ⟨(beL (k + 1) n).toArray⟩) W := fun W => by
        rw [run_string_add_sum W _ _ (by
          have h1 : (ByteArray.mk #[byt n k]).size = 1 := rfl
          have h2 : (ByteArray.mk (beL k n).toArray).size = k := by show (beL k n).toArray.size = _; simp [beL_length]
          rw [h1, h2]; omega), beL_cons_arr]
      have hby := byt_toNat n k
      have hconv : (convert 61 9 (.slice (some ⟨wr.heap.size, 0, none⟩) 1 1)).run Try.prog (wr.alloc (.cells #[.int .u8 (n / 2 ^ (8 * k) % 256)] 5)) = .ok (.string ⟨#[byt n k]⟩) (wr.alloc (.cells #[.int .u8 (n / 2 ^ (8 * k) % 256)] 5)) :=
        run_string_of _ 61 9 5 ⟨wr.heap.size, 0, none⟩ 1 [byt n k] 1 rfl Try.underlying61 Try.underlying5 Try.underlying9 (by
          intro j hj
          obtain rfl : j = 0 := by omega
          rw [addr_add]
          simp [hby])
      have HBEL := Lib.hid hbel
      have HD := Lib.hid (div_step n k)
      clear hbel hby
      generalize hq : n / 2 ^ (8 * k) = q at *
      clear hq
      go_wp2
      refine ⟨⟨k + 1, by omega, by go_num, by rw [HD.out], rfl, HBEL.out.alloc (by have := HBEL.out.size; omega) _⟩, ?_⟩
      simp [intOf]; omega
    · obtain rfl : k = s := by omega
      have HBEL := Lib.hid hbel
      clear hbel
      go_wp2
      go_ret2
      exact ⟨rfl, HBEL.out⟩

theorem refPut_no (s n : Int) (w : World) (h : okB s n = false) :
    Calls Try.prog 64 #[.int .i64 s, .int .i64 n] w fun e w' => e = .returned (.tuple #[.string ⟨#[]⟩, .int .i64 1]) ∧ w = w' := by
  by_cases hs : sizeB s = true
  · by_cases hn : 0 ≤ n
    · have hf : fitsB s n = false := by simpa [okB, hs, hn] using h
      have hd : decide (mostI s < n) = true := by
        have := fits_most hs hn
        simp [hf] at this
        simpa using this
      clear h hf
      go_enter Try.func64, Try.ntmps64
      go_wp2_with (first
        | (go_at_call 87; refine (refSize_any _ _).mono ?_; rintro e w' ⟨rfl, rfl⟩)
        | (go_at_call 88; refine (most_any _ _).mono ?_; rintro e w' ⟨rfl, rfl⟩))
      go_ret2
      exact ⟨rfl, rfl⟩
    · have hn' : n < 0 := by omega
      clear h hn
      go_enter Try.func64, Try.ntmps64
      go_wp2_with (go_at_call 87; refine (refSize_any _ _).mono ?_; rintro e w' ⟨rfl, rfl⟩)
      go_ret2
      exact ⟨rfl, rfl⟩
  · have hs' : sizeB s = false := by simpa using hs
    clear hs h
    go_enter Try.func64, Try.ntmps64
    go_wp2_with (go_at_call 87; refine (refSize_any _ _).mono ?_; rintro e w' ⟨rfl, rfl⟩)
    go_ret2
    exact ⟨rfl, rfl⟩

theorem refPut_any (s n : Int) (w : World) :
    Calls Try.prog 64 #[.int .i64 s, .int .i64 n] w fun e w' => e = .returned (.tuple #[.string (putS s n), .int .i64 (putE s n)]) ∧ Below w.heap.size w w' := by
  by_cases h : okB s n = true
  · obtain ⟨h1, h2, h3⟩ := okB_parts h
    have hb' := sizeB_cases h1
    obtain ⟨k, rfl⟩ : ∃ k : Nat, s = k := ⟨s.toNat, by omega⟩
    refine (refPut_yes k n w (by omega) (by omega) h1 h2 ((fits_most h1 h2).1 h3)).mono ?_
    rintro e w' ⟨rfl, hbel⟩
    exact ⟨by simp [putS, putE, h], hbel⟩
  · refine (refPut_no s n w (by simpa using h)).mono ?_
    rintro e w' ⟨rfl, rfl⟩
    exact ⟨by simp [putS, putE, h], Below.refl _ _⟩

theorem extract_one (t : ByteArray) (k : Nat) (h : k < t.data.toList.length) : t.extract k (k + 1) = ⟨#[t.data.toList[k]]⟩ := by
  apply ByteArray.ext
  rw [ByteArray.data_extract]
  apply Array.ext'
  rw [Array.toList_extract, List.extract_eq_take_drop]
  rw [List.drop_eq_getElem_cons h]
  simp

theorem rev_step (t : ByteArray) (k : Nat) (h : k < t.size) : t.extract k (k + 1) ++ ⟨(t.data.toList.take k).reverse.toArray⟩ = ⟨(t.data.toList.take (k + 1)).reverse.toArray⟩ := by
  have h' : k < t.data.toList.length := by simpa using h
  rw [extract_one t k h', ByteArray.mk_append_mk, List.take_succ_eq_append_getElem h']
  simp

/-- A text the other way round. -/
theorem refTurned_any (t : ByteArray) (w : World) (ht : t.size ≤ 1000000) :
    Calls Try.prog 89 #[.string t] w fun e w' => e = .returned (.string (revS t)) ∧ w = w' := by
  go_enter Try.func89, Try.ntmps89
  go_wp2
  go_loop [3, 4] (fun o i => ∃ k : Nat, k ≤ t.size ∧ i = .int .i64 k ∧ o = .string ⟨(t.data.toList.take k).reverse.toArray⟩) (fun _ i => t.size - (intOf i).toNat)
  case atStart => exact ⟨0, Nat.zero_le _, rfl, by simp⟩
  case round =>
    obtain ⟨k, hk, rfl, rfl⟩ := hrel
    by_cases hlt : k < t.size
    · go_wp2
      refine ⟨⟨k + 1, by omega, by go_num, by rw [rev_step t k hlt]⟩, ?_⟩
      simp [intOf]; omega
    · obtain rfl : k = t.size := by omega
      go_wp2
      go_ret
      exact ⟨by simp [revS, List.take_of_length_le], rfl⟩

def sgnI (n : Int) : Int := if n < 0 then n + 4294967296 else n
def sgnS (n : Int) : ByteArray := if n < -2147483648 ∨ 2147483647 < n then ⟨#[]⟩ else putS 4 (sgnI n)

end Go.Proofs.Ytmjjbapahgejmaa.Oct
namespace Go.Proofs.Ytmjjbapahgejmaa.Oct
open Go.ChangeShapes Go.WideShapes Go.ChangeAt Go.RowKit
set_option linter.unusedVariables false
set_option maxRecDepth 100000

/-- Block b holds a cursor (of type T) over the text t, i bytes passed, error e. -/
def CurAt (T : TypeId) (w : World) (b : Nat) (t : ByteArray) (i e : Int) : Prop := w.heap[b]? = some (.cells #[.string t, .int .i64 i, .int .i64 e] T (0, 0))

theorem CurAt.lt {T : TypeId} {w : World} {b : Nat} {t : ByteArray} {i e : Int} (h : CurAt T w b t i e) : b < w.heap.size := (Array.getElem?_eq_some_iff.1 h).1

theorem CurAt.cells {T : TypeId} {w : World} {b : Nat} {t : ByteArray} {i e : Int} (h : CurAt T w b t i e) :
    w.cell? ⟨b, 0, none⟩ = some (.string t) ∧ w.cell? ⟨b, 1, none⟩ = some (.int .i64 i) ∧ w.cell? ⟨b, 2, none⟩ = some (.int .i64 e) ∧ w.frozen? ⟨b, 1, none⟩ = false ∧ w.frozen? ⟨b, 2, none⟩ = false := by
  unfold CurAt at h
  refine ⟨?_, ?_, ?_, ?_, ?_⟩
  · rw [cell_of_row w b 0 _ _ _ h]; rfl
  · rw [cell_of_row w b 1 _ _ _ h]; rfl
  · rw [cell_of_row w b 2 _ _ _ h]; rfl
  · exact frozen_of_row w b 1 _ _ h
  · exact frozen_of_row w b 2 _ _ h

theorem CurAt.set1 {T : TypeId} {w : World} {b : Nat} {t : ByteArray} {i e : Int} (h : CurAt T w b t i e) (j : Int) : CurAt T (w.setCell ⟨b, 1, none⟩ (.int .i64 j)) b t j e := by
  unfold CurAt at *
  rw [heap_setCell_same w b 1 _ T _ h]; rfl
theorem CurAt.set2 {T : TypeId} {w : World} {b : Nat} {t : ByteArray} {i e : Int} (h : CurAt T w b t i e) (j : Int) : CurAt T (w.setCell ⟨b, 2, none⟩ (.int .i64 j)) b t i j := by
  unfold CurAt at *
  rw [heap_setCell_same w b 2 _ T _ h]; rfl
theorem CurAt.drew {T : TypeId} {w : World} {b : Nat} {t : ByteArray} {i e : Int} (h : CurAt T w b t i e) : CurAt T w.drew b t i e := h
theorem CurAt.kept {T : TypeId} {w w' : World} {b : Nat} {t : ByteArray} {i e : Int} {row : Option Nat} (h : CurAt T w b t i e) (hg : w.grownBy w' row) (hr : some b ≠ row) : CurAt T w' b t i e := by
  unfold CurAt at *
  rw [hg.block b (CurAt.lt h) hr]; exact h
theorem CurAt.below {T : TypeId} {w w' : World} {b B : Nat} {t : ByteArray} {i e : Int} (h : CurAt T w b t i e) (hg : Below B w w') (hb : b < B) : CurAt T w' b t i e := by
  unfold CurAt at *
  rw [hg.block b hb]; exact h

theorem grown_set (w : World) (b o : Nat) (v : Value) : w.grownBy (w.setCell ⟨b, o, none⟩ v) (some b) :=
  ⟨rfl, rfl, rfl, by simp, fun k _ hk => heap_setCell_other w ⟨b, o, none⟩ k v (fun e => hk (by simp [e]))⟩
theorem grown_set_drewN (w : World) (n b o : Nat) (v : Value) : w.grownBy ((w.drewN n).setCell ⟨b, o, none⟩ v) (some b) := by
  have hg := grown_set (w.drewN n) b o v
  exact ⟨hg.os, hg.tape, hg.output, hg.size, hg.block⟩
theorem grown_drewN {w w' : World} {row : Option Nat} (h : w.grownBy w' row) (n : Nat) : w.grownBy (w'.drewN n) row := ⟨h.os, h.tape, h.output, h.size, h.block⟩
theorem grown_drew {w w' : World} {row : Option Nat} (h : w.grownBy w' row) : w.grownBy w'.drew row := ⟨h.os, h.tape, h.output, h.size, h.block⟩
theorem grown_trans {a b c : World} {row : Option Nat} (h : a.grownBy b row) (k : b.grownBy c row) : a.grownBy c row :=
  ⟨k.os.trans h.os, k.tape.trans h.tape, k.output.trans h.output, Nat.le_trans h.size k.size, fun i hi hr => (k.block i (Nat.lt_of_lt_of_le hi h.size) hr).trans (h.block i hi hr)⟩
theorem grown_of_none {a b : World} (h : a.grownBy b none) (row : Option Nat) : a.grownBy b row := ⟨h.os, h.tape, h.output, h.size, fun i hi _ => h.block i hi (by simp)⟩
theorem grown_of_below {a b : World} (h : Below a.heap.size a b) (row : Option Nat) : a.grownBy b row := ⟨h.os, h.tape, h.output, h.size, fun i hi _ => h.block i hi⟩
theorem below_of_grown {a b : World} {B k : Nat} (h : a.grownBy b (some k)) (hk : B ≤ k) (hB : B ≤ a.heap.size) : Below B a b := ⟨h.os, h.tape, h.output, h.size, fun i hi => h.block i (by omega) (by simp; omega)⟩

theorem below_next {w a b : World} (h : Below w.heap.size w a) (k : Below a.heap.size a b) : Below w.heap.size w b := h.trans (k.mono h.size)
theorem below_grown {w a b : World} {k : Nat} (h : Below w.heap.size w a) (g : a.grownBy b (some k)) (hk : w.heap.size ≤ k) : Below w.heap.size w b := h.trans (below_of_grown g hk h.size)
theorem below_drewN {w a : World} {B : Nat} (h : Below B w a) (n : Nat) : Below B w (a.drewN n) := ⟨h.os, h.tape, h.output, h.size, h.block⟩

/-- The error that is kept. -/
def keepE (e x : Int) : Int := if e = 0 then x else e

theorem keep_any (b : Nat) (t : ByteArray) (i e x : Int) (w : World) (h : CurAt 99 w b t i e) :
    Calls Try.prog 92 #[.pointer (some ⟨b, 0, none⟩), .int .i64 x] w fun r w' => r = .returned (.tuple #[]) ∧ CurAt 99 w' b t i (keepE e x) ∧ w.grownBy w' (some b) := by
  obtain ⟨c0, c1, c2, f1, f2⟩ := h.cells
  have H := Lib.hid h
  clear h
  by_cases he : e = 0
  · subst he
    go_enter Try.func92, Try.ntmps92
    go_wp2
    go_end0
    exact ⟨rfl, H.out.set2 x, grown_set _ _ _ _⟩
  · have he' : (e == 0) = false := by simp [he]
    have hk : keepE e x = e := by simp [keepE, he]
    rw [hk]; clear hk he
    go_enter Try.func92, Try.ntmps92
    go_wp2
    go_end0
    exact ⟨rfl, H.out, World.grownBy.refl _ _⟩

theorem left_any (b : Nat) (t : ByteArray) (i e : Int) (w : World) (h : CurAt 99 w b t i e) (h0 : 0 ≤ i) (h1 : i ≤ t.size) (ht : t.size ≤ 9223372036854775807) :
    Calls Try.prog 96 #[.pointer (some ⟨b, 0, none⟩)] w fun r w' => r = .returned (.int .i64 (t.size - i)) ∧ ∃ n, w' = w.drewN n := by
  obtain ⟨c0, c1, c2, f1, f2⟩ := h.cells
  clear h
  go_enter Try.func96, Try.ntmps96
  go_wp2
  go_quiet (fail)
  go_wp2
  go_ret
  exact ⟨rfl, _, rfl⟩

theorem at_any (b : Nat) (t : ByteArray) (i e : Int) (w : World) (h : CurAt 99 w b t i e) :
    Calls Try.prog 49 #[.pointer (some ⟨b, 0, none⟩)] w fun r w' => r = .returned (.int .i64 i) ∧ w = w' := by
  obtain ⟨c0, c1, c2, f1, f2⟩ := h.cells
  clear h
  go_enter Try.func49, Try.ntmps49
  go_wp2
  go_ret
  exact ⟨rfl, rfl⟩

theorem err_any (b : Nat) (t : ByteArray) (i e : Int) (w : World) (h : CurAt 99 w b t i e) :
    Calls Try.prog 73 #[.pointer (some ⟨b, 0, none⟩)] w fun r w' => r = .returned (.int .i64 e) ∧ w = w' := by
  obtain ⟨c0, c1, c2, f1, f2⟩ := h.cells
  clear h
  go_enter Try.func73, Try.ntmps73
  go_wp2
  go_ret
  exact ⟨rfl, rfl⟩

/-- What 'End' tells. -/
def endE (t : ByteArray) (i e : Int) : Int := if e = 0 then (if i < t.size then 3 else 0) else e

theorem new_any (t : ByteArray) (w : World) :
    Calls Try.prog 43 #[.string t] w fun r w' => r = .returned (.pointer (some ⟨w.heap.size, 0, none⟩)) ∧ CurAt 99 w' w.heap.size t 0 0 ∧ Below w.heap.size w w' := by
  go_enter Try.func43, Try.ntmps43
  go_wp2
  go_ret
  refine ⟨rfl, ?_, (Below.refl _ _).alloc (Nat.le_refl _) _⟩
  unfold CurAt
  exact heap_alloc_new _ _

/-- What 'Bytes' does: the bytes, how far it came, the error. -/
def byE (t : ByteArray) (i e n : Int) : Int := if e = 0 then (if n < 0 then 1 else if t.size - i < n then 2 else 0) else e
def byS (t : ByteArray) (i e n : Int) : ByteArray := if byE t i e n = 0 then t.extract i.toNat (i + n).toNat else ⟨#[]⟩
def byI (t : ByteArray) (i e n : Int) : Int := if byE t i e n = 0 then i + n else i

theorem byE_err {t : ByteArray} {i e n : Int} (he : ¬ e = 0) : byE t i e n = e := by simp [byE, he]
theorem byS_err {t : ByteArray} {i e n : Int} (he : ¬ byE t i e n = 0) : byS t i e n = ⟨#[]⟩ := by simp [byS, he]
theorem byI_err {t : ByteArray} {i e n : Int} (he : ¬ byE t i e n = 0) : byI t i e n = i := by simp [byI, he]

set_option maxHeartbeats 1000000 in
theorem bytes_any (b : Nat) (t : ByteArray) (i e n : Int) (w : World) (h : CurAt 99 w b t i e) (h0 : 0 ≤ i) (h1 : i ≤ t.size) (ht : t.size ≤ 9223372036854775807) :
    Calls Try.prog 71 #[.pointer (some ⟨b, 0, none⟩), .int .i64 n] w fun r w' => r = .returned (.string (byS t i e n)) ∧ CurAt 99 w' b t (byI t i e n) (byE t i e n) ∧ w.grownBy w' (some b) := by
  by_cases he : e = 0
  · subst he
    by_cases hn : n < 0
    · have hk : byE t i 0 n = 1 := by simp [byE, hn]
      have hkk : keepE 0 1 = 1 := rfl
      rw [byS_err (by omega), byI_err (by omega), hk]; clear hk
      go_enter Try.func71, Try.ntmps71
      go_wp2_with fail
      refine (keep_any _ _ _ _ _ _ h).mono ?_
      rintro r w' ⟨rfl, hc, hg⟩
      rw [hkk] at hc
      obtain ⟨c0, c1, c2, f1, f2⟩ := hc.cells
      have HC := Lib.hid hc
      have HG := Lib.hid hg
      clear hc hg hkk h
      go_wp2_with fail
      go_ret
      exact ⟨rfl, HC.out, HG.out⟩
    · by_cases hl : t.size - i < n
      · have hk : byE t i 0 n = 2 := by simp [byE, hn, hl]
        have hkk : keepE 0 2 = 2 := rfl
        rw [byS_err (by omega), byI_err (by omega), hk]; clear hk
        go_enter Try.func71, Try.ntmps71
        go_wp2_with fail
        refine (left_any _ _ _ _ _ h h0 h1 ht).mono ?_
        rintro r w' ⟨rfl, nd, rfl⟩
        go_wp2_with fail
        refine (keep_any _ _ _ _ _ _ (show CurAt _ (w.drewN nd) b t i 0 from h)).mono ?_
        rintro r w' ⟨rfl, hc, hg⟩
        rw [hkk] at hc
        obtain ⟨c0, c1, c2, f1, f2⟩ := hc.cells
        have HC := Lib.hid hc
        have HG := Lib.hid hg
        clear hc hg hkk h
        go_wp2_with fail
        go_ret
        exact ⟨rfl, HC.out, HG.out.os, HG.out.tape, HG.out.output, HG.out.size, HG.out.block⟩
      · have hk : byE t i 0 n = 0 := by simp [byE, hn, hl]
        have hS : byS t i 0 n = t.extract i.toNat (i + n).toNat := by simp [byS, hk]
        have hI : byI t i 0 n = i + n := by simp [byI, hk]
        rw [hS, hI, hk]; clear hk hS hI
        obtain ⟨j, rfl⟩ : ∃ j : Nat, i = j := ⟨i.toNat, by omega⟩
        obtain ⟨m, rfl⟩ : ∃ m : Nat, n = m := ⟨n.toNat, by omega⟩
        have q1 : j + m ≤ t.size := by omega
        obtain ⟨c0, c1, c2, f1, f2⟩ := h.cells
        have e1 : IntKind.i64.wrap ((j : Int) + (m : Int)) = j + m := IntWalk.i64_in _ (by omega)
        go_enter Try.func71, Try.ntmps71
        go_wp2_with fail
        refine (left_any _ _ _ _ _ h h0 h1 ht).mono ?_
        rintro r w' ⟨rfl, nd, rfl⟩
        have H := Lib.hid h
        clear h
        go_wp2_with fail
        go_quiet (fail)
        go_wp2_with fail
        go_ret
        rw [show ((j : Int) + (m : Int)).toNat = j + m by omega]
        refine ⟨rfl, CurAt.set1 (show CurAt _ (w.drewN (nd + nq)) b t j 0 from H.out) _, ?_⟩
        exact grown_set_drewN _ _ _ _ _
  · have hne : ¬ byE t i e n = 0 := by rw [byE_err he]; exact he
    have hkk : ∀ x, keepE e x = e := by intro x; simp [keepE, he]
    rw [byS_err hne, byI_err hne, byE_err he]
    have he' : (e != 0) = true := by simp [he]
    clear hne
    by_cases hn : n < 0
    · go_enter Try.func71, Try.ntmps71
      go_wp2_with fail
      refine (keep_any _ _ _ _ _ _ h).mono ?_
      rintro r w' ⟨rfl, hc, hg⟩
      rw [hkk] at hc
      obtain ⟨c0, c1, c2, f1, f2⟩ := hc.cells
      have HC := Lib.hid hc
      have HG := Lib.hid hg
      clear hc hg hkk h
      go_wp2_with fail
      go_ret
      exact ⟨rfl, HC.out, HG.out⟩
    · by_cases hl : t.size - i < n
      · go_enter Try.func71, Try.ntmps71
        go_wp2_with fail
        refine (left_any _ _ _ _ _ h h0 h1 ht).mono ?_
        rintro r w' ⟨rfl, nd, rfl⟩
        go_wp2_with fail
        refine (keep_any _ _ _ _ _ _ (show CurAt _ (w.drewN nd) b t i e from h)).mono ?_
        rintro r w' ⟨rfl, hc, hg⟩
        rw [hkk] at hc
        obtain ⟨c0, c1, c2, f1, f2⟩ := hc.cells
        have HC := Lib.hid hc
        have HG := Lib.hid hg
        clear hc hg hkk h
        go_wp2_with fail
        go_ret
        exact ⟨rfl, HC.out, HG.out.os, HG.out.tape, HG.out.output, HG.out.size, HG.out.block⟩
      · go_enter Try.func71, Try.ntmps71
        go_wp2_with fail
        refine (left_any _ _ _ _ _ h h0 h1 ht).mono ?_
        rintro r w' ⟨rfl, nd, rfl⟩
        obtain ⟨c0, c1, c2, f1, f2⟩ := h.cells
        have H := Lib.hid h
        clear h hkk
        go_wp2_with fail
        go_ret
        exact ⟨rfl, H.out, rfl, rfl, rfl, Nat.le_refl _, fun _ _ _ => rfl⟩

theorem intsz (t : ByteArray) (i e n : Int) (h0 : 0 ≤ i) (h1 : i ≤ t.size) : 0 ≤ byI t i e n ∧ byI t i e n ≤ t.size ∧ ((byS t i e n).size = if byE t i e n = 0 then n.toNat else 0) := by
  by_cases he : byE t i e n = 0
  · have h2 : 0 ≤ n ∧ n ≤ t.size - i := by
      unfold byE at he
      by_cases h : e = 0
      · by_cases hn : n < 0
        · simp [h, hn] at he
        · by_cases hl : t.size - i < n
          · simp [h, hn, hl] at he
          · omega
      · simp [h] at he
    simp only [byI, byS, he, if_true]
    refine ⟨by omega, by omega, ?_⟩
    rw [ByteArray.size_extract]
    omega
  · simp only [byI, byS, he, if_false]
    exact ⟨h0, h1, rfl⟩

end Go.Proofs.Ytmjjbapahgejmaa.Oct
namespace Go.Proofs.Ytmjjbapahgejmaa.Oct
open Go.ChangeShapes Go.WideShapes Go.ChangeAt Go.RowKit
set_option linter.unusedVariables false
set_option maxRecDepth 100000

/-- The number of bytes, the least one first. -/
def valL : List UInt8 → Int
  | [] => 0
  | b :: r => b.toNat + 256 * valL r

theorem valL_bd (l : List UInt8) : 0 ≤ valL l ∧ valL l < 2 ^ (8 * l.length) := by
  induction l with
  | nil => simp [valL]
  | cons b r ih =>
    have hb := b.toNat_lt
    have e : (2 : Int) ^ (8 * (r.length + 1)) = 2 ^ (8 * r.length) * 256 := by rw [show 8 * (r.length + 1) = 8 * r.length + 8 by omega, Int.pow_add]; rfl
    simp only [valL, List.length_cons]
    rw [e]
    omega

theorem valL_snoc (l : List UInt8) (b : UInt8) : valL (l ++ [b]) = valL l + b.toNat * 2 ^ (8 * l.length) := by
  induction l with
  | nil => simp [valL]
  | cons c r ih =>
    have e : (2 : Int) ^ (8 * (r.length + 1)) = 2 ^ (8 * r.length) * 256 := by rw [show 8 * (r.length + 1) = 8 * r.length + 8 by omega, Int.pow_add]; rfl
    simp only [List.cons_append, valL, List.length_cons]
    rw [ih, e, Int.mul_add, ← Int.mul_assoc, Int.add_assoc, Int.mul_comm 256 (b.toNat : Int), Int.mul_assoc, Int.mul_comm 256 (2 ^ _)]

theorem bits_or_comm (k : IntKind) (a b : Int) : bits .or k a b = bits .or k b a := by simp [bits, BitVec.or_comm]

theorem or_step (k : Nat) (hk : k < 4) (a : Int) (b : UInt8) (h0 : 0 ≤ a) (h1 : a < 2 ^ (8 * k)) : bits .or .i64 a (wrap64 (wrap64 b.toNat * 2 ^ (8 * k))) = a + b.toNat * 2 ^ (8 * k) := by
  have hb := b.toNat_lt
  generalize b.toNat = c at *
  have e : wrap64 (wrap64 (c : Int) * 2 ^ (8 * k)) = c * 2 ^ (8 * k) := by
    rw [IntWalk.wrap64_in (c : Int) (by omega)]
    rcases (show k = 0 ∨ k = 1 ∨ k = 2 ∨ k = 3 by omega) with rfl | rfl | rfl | rfl <;> rw [IntWalk.wrap64_in _ (by simp; omega)]
  rw [e, bits_or_comm, Int.add_comm]
  have w63 : ∀ n : Int, 0 ≤ n → n < 2 ^ 63 → IntKind.i64.wrap n = n := fun n h0 h1 => IntWalk.i64_in n (by omega)
  refine bits_join .i64 63 (by decide) w63 (8 * k) _ _ ?_ ?_ ?_ h0 h1 ?_
  · exact Int.mul_nonneg (by omega) (Int.le_of_lt (Int.pow_pos (by decide)))
  · exact Int.mul_emod_left _ _
  · rcases (show k = 0 ∨ k = 1 ∨ k = 2 ∨ k = 3 by omega) with rfl | rfl | rfl | rfl <;> simp <;> omega
  · rcases (show k = 0 ∨ k = 1 ∨ k = 2 ∨ k = 3 by omega) with rfl | rfl | rfl | rfl <;> simp at * <;> omega

theorem val_step (l : List UInt8) (k : Nat) (h : k < l.length) (hk : k < 4) (b : UInt8) (hb : l[k] = b) :
    bits .or .i64 (valL (l.take k)) (wrap64 (wrap64 b.toNat * 2 ^ (8 * k))) = valL (l.take (k + 1)) := by
  have hl : (l.take k).length = k := by simp; omega
  have hv := valL_bd (l.take k)
  rw [hl] at hv
  rw [or_step k hk _ b hv.1 hv.2, List.take_succ_eq_append_getElem h, hb, valL_snoc, hl]

set_option maxHeartbeats 1000000 in
theorem read_turned (t : ByteArray) (c : Addr) (w : World) (ht : t.size ≤ 4) (hc : t.size ≠ 0 → w.cell? c = some (.int .i64 t.size)) :
    Calls Try.prog 93 #[.string t, .func (.func 94) #[] #[.pointer (some c)]] w fun e w' => e = .returned (.int .i64 (valL t.data.toList.reverse)) ∧ w = w' := by
  go_enter Try.func93, Try.ntmps93
  go_wp2
  go_loop [5, 9] (fun n i => ∃ k : Nat, k ≤ t.size ∧ i = .int .i64 k ∧ n = .int .i64 (valL (t.data.toList.reverse.take k))) (fun _ i => t.size - (intOf i).toNat)
  case atStart => exact ⟨0, Nat.zero_le _, rfl, by simp [valL]⟩
  case round =>
    obtain ⟨k, hk, rfl, rfl⟩ := hrel
    by_cases hlt : k < t.size
    · have hc' := hc (by omega)
      go_wp2_with (go_at_call 94; refine (turned1_any _ t.size _ _ ?_ (by omega) (by omega) (by omega) (by omega)).mono ?_; exact hc'; rintro e w' ⟨rfl, rfl⟩)
      refine ⟨⟨k + 1, by omega, by go_num, ?_⟩, ?_⟩
      · rw [val_step t.data.toList.reverse k (by simpa using hlt) (by omega) t[t.size - 1 - k] (by simp; rfl)]
      · simp [intOf]; omega
    · obtain rfl : k = t.size := by omega
      go_wp2
      go_ret
      exact ⟨by rw [List.take_of_length_le (by simp)]; rfl, rfl⟩

set_option maxHeartbeats 1000000 in
theorem read_straight (t : ByteArray) (w : World) (ht : t.size ≤ 4) :
    Calls Try.prog 93 #[.string t, .func (.func 105) #[] #[]] w fun e w' => e = .returned (.int .i64 (valL t.data.toList)) ∧ w = w' := by
  go_enter Try.func93, Try.ntmps93
  go_wp2
  go_loop [5, 9] (fun n i => ∃ k : Nat, k ≤ t.size ∧ i = .int .i64 k ∧ n = .int .i64 (valL (t.data.toList.take k))) (fun _ i => t.size - (intOf i).toNat)
  case atStart => exact ⟨0, Nat.zero_le _, rfl, by simp [valL]⟩
  case round =>
    obtain ⟨k, hk, rfl, rfl⟩ := hrel
    by_cases hlt : k < t.size
    · go_wp2_with (go_at_call 105; refine (straight1_any _ _).mono ?_; rintro e w' ⟨rfl, rfl⟩)
      refine ⟨⟨k + 1, by omega, by go_num, ?_⟩, ?_⟩
      · rw [val_step t.data.toList k (by simpa using hlt) (by omega) t[k] (by simp; rfl)]
      · simp [intOf]; omega
    · obtain rfl : k = t.size := by omega
      go_wp2
      go_ret
      exact ⟨by rw [List.take_of_length_le (by simp)]; rfl, rfl⟩

def numE (t : ByteArray) (i e n : Int) : Int := if sizeB n then byE t i e n else keepE e 1
def numI (t : ByteArray) (i e n : Int) : Int := if sizeB n then byI t i e n else i
def intV (t : ByteArray) (i e n : Int) : Int := if sizeB n then valL (byS t i e n).data.toList.reverse else 0
def litV (t : ByteArray) (i e n : Int) : Int := if sizeB n then valL (byS t i e n).data.toList else 0

theorem byS_size4 {t : ByteArray} {i e n : Int} (hs : sizeB n = true) (h0 : 0 ≤ i) (h1 : i ≤ t.size) : (byS t i e n).size ≤ 4 ∧ ((byS t i e n).size ≠ 0 → ((byS t i e n).size : Int) = n) := by
  have := (intsz t i e n h0 h1).2.2
  have hn := sizeB_cases hs
  rw [this]
  split <;> omega

theorem CurAt.alloc {T : TypeId} {w : World} {b : Nat} {t : ByteArray} {i e : Int} (h : CurAt T w b t i e) (o : Obj) : CurAt T (w.alloc o) b t i e := by
  unfold CurAt at *
  rw [Below.heap_alloc _ _ _ (CurAt.lt h)]; exact h

theorem number_t (b : Nat) (t : ByteArray) (i e n : Int) (c : Addr) (w : World) (h : CurAt 99 w b t i e) (h0 : 0 ≤ i) (h1 : i ≤ t.size) (ht : t.size ≤ 9223372036854775807)
    (hc : w.cell? c = some (.int .i64 n)) (hcb : c.block < w.heap.size) (hne : c.block ≠ b) :
    Calls Try.prog 68 #[.pointer (some ⟨b, 0, none⟩), .int .i64 n, .func (.func 94) #[] #[.pointer (some c)]] w fun r w' => r = .returned (.int .i64 (intV t i e n)) ∧ CurAt 99 w' b t (numI t i e n) (numE t i e n) ∧ w.grownBy w' (some b) := by
  by_cases hs : sizeB n = true
  · have hz := byS_size4 (e := e) hs h0 h1
    have e1 : intV t i e n = valL (byS t i e n).data.toList.reverse := by simp [intV, hs]
    have e2 : numI t i e n = byI t i e n := by simp [numI, hs]
    have e3 : numE t i e n = byE t i e n := by simp [numE, hs]
    rw [e1, e2, e3]; clear e1 e2 e3
    go_enter Try.func68, Try.ntmps68
    go_wp2_with fail
    refine (isSize_any _ _).mono ?_
    rintro r w' ⟨rfl, rfl⟩
    go_wp2_with fail
    refine (bytes_any _ _ _ _ _ _ h h0 h1 ht).mono ?_
    rintro r w' ⟨rfl, hc', hg⟩
    have hcc : w'.cell? c = some (.int .i64 n) := by
      rw [World.cell?_of_block (w := w) (hg.block c.block hcb (by simp; omega))]; exact hc
    have HC := Lib.hid hc'
    have HG := Lib.hid hg
    clear hc' hg hc
    go_wp2_with fail
    refine (read_turned _ _ _ hz.1 (fun hne => by rw [hz.2 hne]; exact hcc)).mono ?_
    rintro r w'' ⟨rfl, rfl⟩
    go_wp2_with fail
    go_ret
    exact ⟨rfl, HC.out, HG.out⟩
  · have e1 : intV t i e n = 0 := by simp [intV, hs]
    have e2 : numI t i e n = i := by simp [numI, hs]
    have e3 : numE t i e n = keepE e 1 := by simp [numE, hs]
    rw [e1, e2, e3]; clear e1 e2 e3
    have hs' : sizeB n = false := by simpa using hs
    clear hs
    go_enter Try.func68, Try.ntmps68
    go_wp2_with fail
    refine (isSize_any _ _).mono ?_
    rintro r w' ⟨rfl, rfl⟩
    go_wp2_with fail
    refine (keep_any _ _ _ _ _ _ h).mono ?_
    rintro r w' ⟨rfl, hc', hg⟩
    have HC := Lib.hid hc'
    have HG := Lib.hid hg
    clear hc' hg hc
    go_wp2_with fail
    go_ret
    exact ⟨rfl, HC.out, HG.out⟩

theorem number_s (b : Nat) (t : ByteArray) (i e n : Int) (w : World) (h : CurAt 99 w b t i e) (h0 : 0 ≤ i) (h1 : i ≤ t.size) (ht : t.size ≤ 9223372036854775807) :
    Calls Try.prog 68 #[.pointer (some ⟨b, 0, none⟩), .int .i64 n, .func (.func 105) #[] #[]] w fun r w' => r = .returned (.int .i64 (litV t i e n)) ∧ CurAt 99 w' b t (numI t i e n) (numE t i e n) ∧ w.grownBy w' (some b) := by
  by_cases hs : sizeB n = true
  · have hz := byS_size4 (e := e) hs h0 h1
    have e1 : litV t i e n = valL (byS t i e n).data.toList := by simp [litV, hs]
    have e2 : numI t i e n = byI t i e n := by simp [numI, hs]
    have e3 : numE t i e n = byE t i e n := by simp [numE, hs]
    rw [e1, e2, e3]; clear e1 e2 e3
    go_enter Try.func68, Try.ntmps68
    go_wp2_with fail
    refine (isSize_any _ _).mono ?_
    rintro r w' ⟨rfl, rfl⟩
    go_wp2_with fail
    refine (bytes_any _ _ _ _ _ _ h h0 h1 ht).mono ?_
    rintro r w' ⟨rfl, hc', hg⟩
    have HC := Lib.hid hc'
    have HG := Lib.hid hg
    clear hc' hg
    go_wp2_with fail
    refine (read_straight _ _ hz.1).mono ?_
    rintro r w'' ⟨rfl, rfl⟩
    go_wp2_with fail
    go_ret
    exact ⟨rfl, HC.out, HG.out⟩
  · have e1 : litV t i e n = 0 := by simp [litV, hs]
    have e2 : numI t i e n = i := by simp [numI, hs]
    have e3 : numE t i e n = keepE e 1 := by simp [numE, hs]
    rw [e1, e2, e3]; clear e1 e2 e3
    have hs' : sizeB n = false := by simpa using hs
    clear hs
    go_enter Try.func68, Try.ntmps68
    go_wp2_with fail
    refine (isSize_any _ _).mono ?_
    rintro r w' ⟨rfl, rfl⟩
    go_wp2_with fail
    refine (keep_any _ _ _ _ _ _ h).mono ?_
    rintro r w' ⟨rfl, hc', hg⟩
    have HC := Lib.hid hc'
    have HG := Lib.hid hg
    clear hc' hg
    go_wp2_with fail
    go_ret
    exact ⟨rfl, HC.out, HG.out⟩

theorem int_any (b : Nat) (t : ByteArray) (i e n : Int) (w : World) (h : CurAt 99 w b t i e) (h0 : 0 ≤ i) (h1 : i ≤ t.size) (ht : t.size ≤ 9223372036854775807) :
    Calls Try.prog 44 #[.pointer (some ⟨b, 0, none⟩), .int .i64 n] w fun r w' => r = .returned (.int .i64 (intV t i e n)) ∧ CurAt 99 w' b t (numI t i e n) (numE t i e n) ∧ w.grownBy w' (some b) := by
  have hlt := h.lt
  go_enter Try.func44, Try.ntmps44
  go_wp2_with fail
  refine (turned_any _ _).mono ?_
  rintro r w' ⟨rfl, rfl⟩
  go_wp2_with fail
  refine (number_t _ _ _ _ _ _ _ (h.alloc _) h0 h1 ht (by simp) (by simp) (by simp; omega)).mono ?_
  rintro r w' ⟨rfl, hc', hg⟩
  have HC := Lib.hid hc'
  have HG := Lib.hid hg
  clear hc' hg
  go_wp2_with fail
  go_ret
  exact ⟨rfl, HC.out, grown_trans (World.grownBy_alloc w _ _) HG.out⟩

theorem lit_any (b : Nat) (t : ByteArray) (i e n : Int) (w : World) (h : CurAt 99 w b t i e) (h0 : 0 ≤ i) (h1 : i ≤ t.size) (ht : t.size ≤ 9223372036854775807) :
    Calls Try.prog 102 #[.pointer (some ⟨b, 0, none⟩), .int .i64 n] w fun r w' => r = .returned (.int .i64 (litV t i e n)) ∧ CurAt 99 w' b t (numI t i e n) (numE t i e n) ∧ w.grownBy w' (some b) := by
  go_enter Try.func102, Try.ntmps102
  go_wp2_with fail
  refine (straight_any _).mono ?_
  rintro r w' ⟨rfl, rfl⟩
  go_wp2_with fail
  refine (number_s _ _ _ _ _ _ h h0 h1 ht).mono ?_
  rintro r w' ⟨rfl, hc', hg⟩
  have HC := Lib.hid hc'
  have HG := Lib.hid hg
  clear hc' hg
  go_wp2_with fail
  go_ret
  exact ⟨rfl, HC.out, HG.out⟩

/-- A number of four bytes, perhaps below 0. -/
def minI (n : Int) : Int := if 2147483647 < n then n - 4294967296 else n

theorem minI_wrap (v : Int) (h0 : 0 ≤ v) (h1 : v < 4294967296) : wrap64 (wrap32 v) = minI v := by
  unfold wrap64 wrap32 minI
  split <;> omega

theorem intV_bd {t : ByteArray} {i e n : Int} (h0 : 0 ≤ i) (h1 : i ≤ t.size) : 0 ≤ intV t i e n ∧ intV t i e n < 4294967296 := by
  unfold intV
  by_cases hs : sizeB n = true
  · rw [if_pos hs]
    have hz := byS_size4 (e := e) hs h0 h1
    have hv := valL_bd (byS t i e n).data.toList.reverse
    have hl : (byS t i e n).data.toList.reverse.length = (byS t i e n).size := by simp
    rw [hl] at hv
    refine ⟨hv.1, Int.lt_of_lt_of_le hv.2 ?_⟩
    have : (2 : Int) ^ (8 * (byS t i e n).size) ≤ 2 ^ 32 := by
      have := Nat.pow_le_pow_right (n := 2) (by decide) (show 8 * (byS t i e n).size ≤ 32 by omega)
      exact_mod_cast this
    simpa using this
  · rw [if_neg hs]; decide

end Go.Proofs.Ytmjjbapahgejmaa.Oct
namespace Go.Proofs.Ytmjjbapahgejmaa.Oct
open Go.ChangeShapes Go.WideShapes Go.ChangeAt Go.RowKit
set_option linter.unusedVariables false
set_option maxRecDepth 100000

def valB (l : List UInt8) : Int := l.foldl (fun n b => n * 256 + b.toNat) 0

theorem foldl_val (l : List UInt8) : ∀ n : Int, l.foldl (fun n b => n * 256 + (b.toNat : Int)) n = n * 2 ^ (8 * l.length) + valL l.reverse := by
  induction l with
  | nil => intro n; simp [valL]
  | cons b r ih =>
    intro n
    have e : (2 : Int) ^ (8 * (r.length + 1)) = 256 * 2 ^ (8 * r.length) := by rw [show 8 * (r.length + 1) = 8 + 8 * r.length by omega, Int.pow_add]; rfl
    simp only [List.foldl_cons, List.reverse_cons, List.length_cons]
    rw [ih, valL_snoc, e, List.length_reverse, Int.add_mul, Int.mul_assoc]
    omega

theorem valB_eq (l : List UInt8) : valB l = valL l.reverse := by unfold valB; rw [foldl_val]; simp

theorem valB_snoc (l : List UInt8) (b : UInt8) : valB (l ++ [b]) = valB l * 256 + b.toNat := by simp [valB]

set_option maxHeartbeats 1000000 in
theorem refInt_any (t : ByteArray) (w : World) (ht : t.size ≤ 4) :
    Calls Try.prog 50 #[.string t] w fun e w' => e = .returned (.int .i64 (valL t.data.toList.reverse)) ∧ w = w' := by
  go_enter Try.func50, Try.ntmps50
  go_wp2
  go_loop [3, 4] (fun n i => ∃ k : Nat, k ≤ t.size ∧ i = .int .i64 k ∧ n = .int .i64 (valB (t.data.toList.take k))) (fun _ i => t.size - (intOf i).toNat)
  case atStart => exact ⟨0, Nat.zero_le _, rfl, by simp [valB]⟩
  case round =>
    obtain ⟨k, hk, rfl, rfl⟩ := hrel
    by_cases hlt : k < t.size
    · have hl : (t.data.toList.take k).length = k := by simp; omega
      have hv : 0 ≤ valB (t.data.toList.take k) ∧ valB (t.data.toList.take k) ≤ 16777215 := by
        rw [valB_eq]
        have hv := valL_bd (t.data.toList.take k).reverse
        rw [List.length_reverse, hl] at hv
        refine ⟨hv.1, ?_⟩
        have : (2 : Int) ^ (8 * k) ≤ 2 ^ 24 := by
          have := Nat.pow_le_pow_right (n := 2) (by decide) (show 8 * k ≤ 24 by omega)
          exact_mod_cast this
        have h24 : (2 : Int) ^ 24 = 16777216 := by decide
        omega
      have hs : valB (t.data.toList.take (k + 1)) = valB (t.data.toList.take k) * 256 + t[k].toNat := by
        rw [List.take_succ_eq_append_getElem (by simpa using hlt), valB_snoc]; rfl
      have hb := t[k].toNat_lt
      have HS := Lib.hid hs
      clear hs hl
      obtain ⟨v0, v1⟩ := hv
      go_wp2
      refine ⟨⟨k + 1, by omega, by go_num, ?_⟩, ?_⟩
      · rw [HS.out]
      · simp [intOf]; omega
    · obtain rfl : k = t.size := by omega
      go_wp2
      go_ret
      exact ⟨by rw [List.take_of_length_le (by simp), valB_eq]; rfl, rfl⟩

theorem byE_keep (t : ByteArray) (i e n : Int) : byE t i (keepE e 1) n = keepE e 1 ∧ ¬ keepE e 1 = 0 := by
  have h : ¬ keepE e 1 = 0 := by unfold keepE; split <;> omega
  exact ⟨byE_err h, h⟩

theorem revS_data (t : ByteArray) : (revS t).data.toList = t.data.toList.reverse := by simp [revS]
theorem revS_size (t : ByteArray) : (revS t).size = t.size := by show (t.data.toList.reverse.toArray).size = _; simp

end Go.Proofs.Ytmjjbapahgejmaa.Oct
namespace Go.Proofs.Ytmjjbapahgejmaa.Oct
open Go.ChangeShapes Go.WideShapes Go.ChangeAt Go.RowKit
set_option linter.unusedVariables false

theorem v_put : putS 2 258 = ⟨#[1, 2]⟩ := by decide +kernel
theorem v_lit : litS 2 258 = ⟨#[2, 1]⟩ := by decide +kernel
theorem v_pe : putE 2 258 = 0 := by decide +kernel
theorem v_no : putE 3 1 = 1 := by decide +kernel
theorem v_sgn : sgnS (-1) = ⟨#[255, 255, 255, 255]⟩ := by decide +kernel
theorem v_int : intV ⟨#[1, 2, 3]⟩ 0 0 2 = 258 := by decide +kernel
theorem v_i : numI ⟨#[1, 2, 3]⟩ 0 0 2 = 2 := by decide +kernel
theorem v_e : numE ⟨#[1, 2, 3]⟩ 0 0 2 = 0 := by decide +kernel
theorem v_end : endE ⟨#[1, 2, 3]⟩ 2 0 = 3 := by decide +kernel

end Go.Proofs.Ytmjjbapahgejmaa.Oct
namespace Go.Proofs.Ytmjjbapahgejmaa.Oct
open Go.RowKit
set_option linter.unusedVariables false

theorem leL_succ (s : Nat) (n : Int) : leL (s + 1) n = leL s n ++ [byt n s] := by simp [leL, List.range_succ]

theorem valL_leL (s : Nat) (n : Nat) : valL (leL s n) = ((n % 2 ^ (8 * s) : Nat) : Int) := by
  induction s with
  | zero => simp [leL, valL, Nat.mod_one]
  | succ s ih =>
    have hb := byt_toNat n s
    rw [leL_succ, valL_snoc, ih, leL_length, hb, show 8 * (s + 1) = 8 * s + 8 by omega, Nat.pow_add, Nat.mod_mul]
    simp only [Int.natCast_add, Int.natCast_mul, Int.natCast_emod, Int.natCast_ediv, Int.natCast_pow]
    rw [Int.mul_comm]
    rfl

theorem val_ok {s n : Int} (h : okB s n = true) : valL (leL s.toNat n) = n := by
  obtain ⟨h1, h2, h3⟩ := okB_parts h
  obtain ⟨k, rfl⟩ : ∃ k : Nat, n = k := ⟨n.toNat, by omega⟩
  rw [valL_leL]
  have h4 : k < 2 ^ (8 * s.toNat) := by
    rcases sizeB_cases h1 with rfl | rfl | rfl <;> simp [fitsB] at h3 ⊢ <;> omega
  rw [Nat.mod_eq_of_lt h4]

theorem ext_mid (x y z : ByteArray) : (x ++ y ++ z).extract x.size (x.size + y.size) = y := by
  apply ByteArray.ext
  rw [ByteArray.data_extract, ByteArray.data_append, ByteArray.data_append]
  apply Array.ext'
  have hx : x.size = x.data.toList.length := by simp
  have hy : y.size = y.data.toList.length := by simp
  rw [Array.toList_extract, List.extract_eq_take_drop, Array.toList_append, Array.toList_append, hx, hy, List.append_assoc, List.drop_left, Nat.add_sub_cancel_left, List.take_left]

/-- What 'Bytes' gives of a text, at the place where y stands. -/
theorem by_mid (x y z : ByteArray) : byE (x ++ y ++ z) x.size 0 y.size = 0 ∧ byS (x ++ y ++ z) x.size 0 y.size = y ∧ byI (x ++ y ++ z) x.size 0 y.size = x.size + y.size := by
  have hs : (x ++ y ++ z).size = x.size + y.size + z.size := by simp
  have h : byE (x ++ y ++ z) x.size 0 y.size = 0 := by
    simp only [byE, if_true, if_neg (show ¬ ((y.size : Int) < 0) by omega)]
    rw [hs, if_neg (by push_cast; omega)]
  refine ⟨h, ?_, by simp [byI, h]⟩
  simp only [byS, h, if_true]
  rw [show ((x.size : Int) + (y.size : Int)).toNat = x.size + y.size by omega, Int.toNat_natCast, ext_mid]

theorem num_mid {x y z : ByteArray} {n : Int} (hs : sizeB n = true) (hy : (y.size : Int) = n) :
    numE (x ++ y ++ z) x.size 0 n = 0 ∧ numI (x ++ y ++ z) x.size 0 n = x.size + y.size ∧ intV (x ++ y ++ z) x.size 0 n = valL y.data.toList.reverse ∧ litV (x ++ y ++ z) x.size 0 n = valL y.data.toList := by
  subst hy
  obtain ⟨h1, h2, h3⟩ := by_mid x y z
  simp [numE, numI, intV, litV, hs, h1, h2, h3]

theorem putS_ok {s n : Int} (h : okB s n = true) : ((putS s n).size : Int) = s ∧ valL (putS s n).data.toList.reverse = n ∧ ((litS s n).size : Int) = s ∧ valL (litS s n).data.toList = n ∧ putE s n = 0 := by
  have hs := sizeB_cases (okB_parts h).1
  have hv := val_ok h
  refine ⟨?_, ?_, ?_, ?_, by simp [putE, h]⟩
  · show (((putS s n).data.size : Nat) : Int) = s
    simp [putS, h, beL_length]; omega
  · simp [putS, h, beL, hv]
  · show (((litS s n).data.size : Nat) : Int) = s
    simp [litS, h, leL_length]; omega
  · simp [litS, h, hv]

theorem putS_bad {s n : Int} (h : okB s n = false) : putS s n = ⟨#[]⟩ ∧ litS s n = ⟨#[]⟩ ∧ putE s n = 1 := by simp [putS, litS, putE, h]

theorem ok4 {v : Int} (h0 : 0 ≤ v) (h1 : v < 4294967296) : okB 4 v = true := by
  have h2 : fitsB 4 v = true := by simp [fitsB]; omega
  have h3 : sizeB 4 = true := by decide
  simp [okB, h2, h3, h0]

theorem sgn_ok {m : Int} (h : ¬ (m < -2147483648 ∨ 2147483647 < m)) : (sgnS m).size = 4 ∧ minI (valL (sgnS m).data.toList.reverse) = m := by
  have e : sgnS m = putS 4 (sgnI m) := by simp only [sgnS, if_neg h]
  have hk : okB 4 (sgnI m) = true := by
    apply ok4 <;> (unfold sgnI; split <;> omega)
  obtain ⟨h1, h2, _⟩ := putS_ok hk
  rw [e]
  refine ⟨by omega, ?_⟩
  rw [h2]
  unfold sgnI minI
  split <;> split <;> omega

theorem sgn_bad {m : Int} (h : m < -2147483648 ∨ 2147483647 < m) : sgnS m = ⟨#[]⟩ := by simp only [sgnS, if_pos h]

theorem emp_append (x : ByteArray) : (⟨#[]⟩ : ByteArray) ++ x = x := by apply ByteArray.ext; simp

/-- All that is asked of the text of OctetsBack. -/
theorem back_facts {s n : Int} (hok : okB s n = true) (m : Int) (tail T : ByteArray) (hT : putS s n ++ litS s n ++ sgnS m ++ tail = T) :
    (intV T 0 0 s = n ∧ numI T 0 0 s = s ∧ numE T 0 0 s = 0) ∧ (litV T s 0 s = n ∧ numI T s 0 s = s + s ∧ numE T s 0 s = 0) ∧ (T.size : Int) = s + s + (sgnS m).size + tail.size ∧
    (¬ (m < -2147483648 ∨ 2147483647 < m) → minI (intV T (s + s) 0 4) = m ∧ numI T (s + s) 0 4 = s + s + 4 ∧ numE T (s + s) 0 4 = 0 ∧ byS T (s + s + 4) 0 tail.size = tail ∧ byI T (s + s + 4) 0 tail.size = s + s + 4 + tail.size ∧ byE T (s + s + 4) 0 tail.size = 0 ∧ endE T (s + s + 4 + tail.size) 0 = 0) := by
  obtain ⟨p1, p2, p3, p4, p5⟩ := putS_ok hok
  have hsz := (okB_parts hok).1
  have hs : (T.size : Int) = s + s + (sgnS m).size + tail.size := by rw [← hT]; simp; omega
  have h1 := num_mid (x := ⟨#[]⟩) (y := putS s n) (z := litS s n ++ sgnS m ++ tail) hsz p1
  have e1 : (⟨#[]⟩ : ByteArray) ++ putS s n ++ (litS s n ++ sgnS m ++ tail) = T := by rw [emp_append, ← ByteArray.append_assoc, ← ByteArray.append_assoc]; exact hT
  rw [e1, p2] at h1
  have h2 := num_mid (x := putS s n) (y := litS s n) (z := sgnS m ++ tail) hsz p3
  rw [← ByteArray.append_assoc, hT, p4, p1, p3] at h2
  refine ⟨⟨h1.2.2.1, ?_, h1.1⟩, ⟨h2.2.2.2, h2.2.1, h2.1⟩, hs, fun hm => ?_⟩
  · have := h1.2.1
    rw [p1, show (((ByteArray.mk #[]).size : Nat) : Int) = 0 from rfl, Int.zero_add] at this
    exact this
  · obtain ⟨g1, g2⟩ := sgn_ok hm
    have h3 := num_mid (x := putS s n ++ litS s n) (y := sgnS m) (z := tail) (n := 4) (by decide) (by rw [g1]; rfl)
    have e2 : ((putS s n ++ litS s n).size : Int) = s + s := by simp; omega
    rw [hT, e2, g1] at h3
    have h4 := by_mid (putS s n ++ litS s n ++ sgnS m) tail ⟨#[]⟩
    have e3 : ((putS s n ++ litS s n ++ sgnS m).size : Int) = s + s + 4 := by simp; omega
    have e4 : putS s n ++ litS s n ++ sgnS m ++ tail ++ ⟨#[]⟩ = T := by rw [← hT]; apply ByteArray.ext; simp
    rw [e4, e3] at h4
    refine ⟨by rw [h3.2.2.1]; exact g2, h3.2.1, h3.1, h4.2.1, h4.2.2, h4.1, ?_⟩
    simp only [endE, if_true]
    rw [if_neg (by omega)]

theorem quiet_w {P : Program} {f : FuncId} {args : Array Value} {w : World} {n : Nat} {v : Value}
    (h : Calls P f args (w.drewN n) fun e w' => e = .returned v ∧ w.drewN n = w') : Calls P f args (w.drewN n) fun e w'' => e = .returned v ∧ ∃ m, w'' = w.drewN m :=
  h.mono fun _ _ ⟨he, hm⟩ => ⟨he, n, hm.symm⟩

theorem by_more {t u : ByteArray} {i v : Int} (h0 : 0 ≤ i) (h1 : i ≤ t.size) (h : byE t i 0 v = 0) :
    byE (t ++ u) i 0 v = 0 ∧ byS (t ++ u) i 0 v = byS t i 0 v ∧ byI (t ++ u) i 0 v = i + v ∧ byI t i 0 v = i + v ∧ ((byS t i 0 v).size : Int) = v ∧ 0 ≤ v ∧ i + v ≤ t.size := by
  have h2 : 0 ≤ v ∧ v ≤ t.size - i := by
    simp only [byE, if_true] at h
    by_cases hn : v < 0
    · simp [hn] at h
    · by_cases hl : t.size - i < v
      · simp [hn, hl] at h
      · omega
  have hz : (t ++ u).size = t.size + u.size := by simp
  have h3 : byE (t ++ u) i 0 v = 0 := by
    simp only [byE, if_true, if_neg (show ¬ v < 0 by omega)]
    rw [hz, if_neg (by push_cast; omega)]
  have hsz := (intsz t i 0 v h0 h1).2.2
  rw [if_pos h] at hsz
  refine ⟨h3, ?_, by simp [byI, h3], by simp [byI, h], by omega, h2.1, by omega⟩
  simp only [byS, h, h3, if_true]
  apply ByteArray.ext
  rw [ByteArray.data_extract, ByteArray.data_extract, ByteArray.data_append]
  apply Array.ext'
  rw [Array.toList_extract, Array.toList_extract, List.extract_eq_take_drop, List.extract_eq_take_drop, Array.toList_append, List.drop_append_of_le_length (by simp; omega), List.take_append_of_le_length (by simp; omega)]

theorem by_stop {t : ByteArray} {i e v : Int} (he : ¬ e = 0) : byS t i e v = ⟨#[]⟩ ∧ byI t i e v = i ∧ byE t i e v = e ∧ intV t i e 1 = 0 ∧ numI t i e 1 = i ∧ numE t i e 1 = e ∧ minI (intV t i e 4) = 0 ∧ numI t i e 4 = i ∧ numE t i e 4 = e := by
  have h : ∀ v, ¬ byE t i e v = 0 := fun v => by rw [byE_err he]; exact he
  have z : valL (ByteArray.mk #[]).data.toList.reverse = 0 := rfl
  have y1 : sizeB 1 = true := by decide
  have y4 : sizeB 4 = true := by decide
  have m0 : minI 0 = 0 := by decide
  simp only [intV, numI, numE, y1, y4, if_true]
  rw [byS_err (h v), byI_err (h v), byS_err (h 1), byI_err (h 1), byE_err he, byS_err (h 4), byI_err (h 4), byE_err he, byE_err he, z]
  exact ⟨rfl, rfl, rfl, rfl, rfl, rfl, m0, rfl, rfl⟩

end Go.Proofs.Ytmjjbapahgejmaa.Oct
