/-
  Contracts of package crcs (layer 4), over this seat's translation: steps, Make, whole.
-/
import Derived.Test.YtkpnpldjhgpaiaaRows
import Derived.WalkKit
import Derived.ProofKit
import Derived.OpenShut
import Derived.ShutString
import Derived.ChangeOld
import Derived.Below
import Derived.WalkSpells
import Derived.WalkLawsBesides
import Derived.Deep.QuietTactic
import Derived.BigQuiet
import Derived.BigGuardPart
import Derived.StillTailTactics
import Derived.Deep.RegionHeld3
import Derived.Deep.RegionWith
import Derived.Outline
import Derived.IntWalk
import Derived.Lib.Hide
import Derived.Test.YtkpnpldjhgpaiaaCrcMath
import Derived.Test.YtkpnpldjhgpaiaaBitMath
import Derived.Test.YtkpnpldjhgpaiaaOctMath
namespace Go.Proofs.Ytkpnpldjhgpaiaa.Crc
open Go.ChangeShapes Go.WideShapes Go.ChangeAt Go.RowKit
set_option linter.unusedVariables false

theorem ofInt_nat (n m : Nat) (h : m < 2 ^ n) : (BitVec.ofInt n (m : Int)).toNat = m := by
  rw [BitVec.ofInt_natCast, BitVec.toNat_ofNat, Nat.mod_eq_of_lt h]

theorem u32_xor (a b : Nat) (ha : a < 4294967296) (hb : b < 4294967296) : bits .xor .u32 (a : Int) (b : Int) = ((a ^^^ b : Nat) : Int) := by
  show IntKind.u32.wrap ((BitVec.ofInt 32 (a : Int) ^^^ BitVec.ofInt 32 (b : Int)).toNat : Int) = _
  rw [BitVec.toNat_xor, ofInt_nat _ _ ha, ofInt_nat _ _ hb]
  have := xor_lt a b ha hb
  generalize a ^^^ b = x at *
  show (x : Int) % 4294967296 = x
  omega
theorem u8_xor (a b : Nat) (ha : a < 256) (hb : b < 256) : bits .xor .u8 (a : Int) (b : Int) = ((a ^^^ b : Nat) : Int) := by
  show IntKind.u8.wrap ((BitVec.ofInt 8 (a : Int) ^^^ BitVec.ofInt 8 (b : Int)).toNat : Int) = _
  rw [BitVec.toNat_xor, ofInt_nat _ _ ha, ofInt_nat _ _ hb]
  have : a ^^^ b < 2 ^ 8 := Nat.xor_lt_two_pow ha hb
  generalize a ^^^ b = x at *
  show (x : Int) % 256 = x
  omega
theorem i64_xor (a b : Nat) (ha : a < 4294967296) (hb : b < 4294967296) : bits .xor .i64 (a : Int) (b : Int) = ((a ^^^ b : Nat) : Int) := by
  show IntKind.i64.wrap ((BitVec.ofInt 64 (a : Int) ^^^ BitVec.ofInt 64 (b : Int)).toNat : Int) = _
  rw [BitVec.toNat_xor, ofInt_nat _ _ (by omega), ofInt_nat _ _ (by omega)]
  have := xor_lt a b ha hb
  generalize a ^^^ b = x at *
  exact IntWalk.i64_in _ (by omega)
theorem u32_and1 (x : Nat) (h : x < 4294967296) : bits .and .u32 (x : Int) 1 = ((x % 2 : Nat) : Int) := by
  show IntKind.u32.wrap ((BitVec.ofInt 32 (x : Int) &&& BitVec.ofInt 32 1).toNat : Int) = _
  rw [BitVec.toNat_and, ofInt_nat _ _ h, show (BitVec.ofInt 32 1).toNat = 1 from rfl, Nat.and_one_is_mod]
  generalize hx : x % 2 = y
  show (y : Int) % 4294967296 = y
  omega

theorem ret_int {k : IntKind} {a b : Int} (h : a = b) : Ending.returned (Value.int k a) = Ending.returned (.int k b) := by rw [h]
theorem val_int {k : IntKind} {a b : Int} (h : a = b) : Value.int k a = .int k b := by rw [h]

theorem st_odd (x : Nat) (h : x % 2 = 1) : st x = x / 2 ^^^ 3988292384 := by unfold st; rw [if_pos h]
theorem st_even (x : Nat) (h : x % 2 ≠ 1) : st x = x / 2 := by unfold st; rw [if_neg h]

set_option maxHeartbeats 1000000 in
theorem steps_any (n : Nat) (w : World) (hn : n < 4294967296) :
    Calls Try.prog 15 #[.int .u32 n] w fun e w' => e = .returned (.int .u32 (sts 8 n : Nat)) ∧ w = w' := by
  go_enter Try.func15, Try.ntmps15
  go_wp2_with fail
  go_loop [0, 3] (fun x i => ∃ k : Nat, k ≤ 8 ∧ i = .int .i64 k ∧ x = .int .u32 (sts k n : Nat)) (fun _ i => 8 - (intOf i).toNat)
  case atStart => exact ⟨0, Nat.zero_le _, rfl, rfl⟩
  case round =>
    obtain ⟨k, hk, rfl, rfl⟩ := hrel
    have hb := sts_lt k n hn
    have hs : sts (k + 1) n = st (sts k n) := rfl
    have HS := Lib.hid hs
    clear hs
    by_cases hlt : k < 8
    · generalize sts k n = x at *
      have ha := u32_and1 x hb
      by_cases ho : x % 2 = 1
      · rw [ho] at ha
        have hx := u32_xor (x / 2) 3988292384 (by omega) (by omega)
        go_wp2_with fail
        refine ⟨⟨k + 1, by omega, by go_num, ?_⟩, ?_⟩
        · rw [HS.out, st_odd x ho, ← hx]; rfl
        · simp [intOf]; omega
      · have ho2 : x % 2 = 0 := by omega
        rw [ho2] at ha
        go_wp2_with fail
        refine ⟨⟨k + 1, by omega, by go_num, ?_⟩, ?_⟩
        · rw [HS.out, st_even x ho]; rfl
        · simp [intOf]; omega
    · obtain rfl : k = 8 := by omega
      go_wp2_with fail
      go_ret
      exact ⟨rfl, rfl⟩

theorem info_parts {P : Program} {t : TypeId} {z : Value} {n m : Nat} (h : (P.info? t).map (fun i => (i.zero, i.size, i.bytes)) = some (some z, n, m)) :
    ∃ i, P.info? t = some i ∧ i.zero = some z ∧ i.size = n ∧ i.bytes = m := by
  cases hi : P.info? t with
  | none => rw [hi] at h; simp at h
  | some i =>
    rw [hi] at h
    simp only [Option.map_some, Option.some.injEq, Prod.mk.injEq] at h
    exact ⟨i, rfl, h.1, h.2.1, h.2.2⟩

theorem info_int : (Try.prog.info? 3).map (fun i => (i.zero, i.size, i.bytes)) = some (some (.int .i64 0), 1, 8) := by kernel_rfl

/-- The table behind k rounds. -/
def rowK (s k : Nat) : List Value := (List.range s).map fun j => if j < k then Value.int .i64 (sts 8 j : Nat) else Value.int .i64 0

theorem rowK_zero (s : Nat) : rowK s 0 = List.replicate s (Value.int .i64 0) := by
  apply List.ext_getElem?
  intro j
  by_cases hj : j < s
  · simp [rowK, hj]
  · simp [rowK, hj]

theorem rowK_step (s k : Nat) (hk : k < s) : (rowK s k).set k (Value.int .i64 (sts 8 k : Nat)) = rowK s (k + 1) := by
  apply List.ext_getElem?
  intro j
  rw [List.getElem?_set]
  by_cases hj : j < s
  · by_cases hjk : k = j
    · subst hjk
      simp [rowK, hj]
    · simp only [rowK, List.getElem?_map, List.getElem?_range hj, Option.map_some, List.length_map, List.length_range, if_neg hjk]
      congr 1
      by_cases h : j < k
      · rw [if_pos h, if_pos (by omega)]
      · rw [if_neg h, if_neg (by omega)]
  · simp [rowK, hj]; omega

theorem rowK_get (s k j : Nat) (hj : j < s) : (rowK s k)[j]? = some (if j < k then Value.int .i64 (sts 8 j : Nat) else Value.int .i64 0) := by
  simp [rowK, hj]

/-- Block b holds the table. -/
def TabAt (w : World) (b : Nat) : Prop := ∀ j, j < 256 → w.cell? ⟨b, j, none⟩ = some (.int .i64 (sts 8 j : Nat))

theorem TabAt.below {w w' : World} {b n : Nat} (h : TabAt w b) (hb : Below n w w') (hn : b < n) : TabAt w' b := by
  intro j hj
  rw [hb.cell hn]
  exact h j hj

set_option maxRecDepth 10000 in
set_option maxHeartbeats 1000000 in
theorem make_any (w : World) :
    Calls Try.prog 9 #[] w fun e w' => e = .returned (.slice (some ⟨w.heap.size, 0, none⟩) 256 256) ∧ Below w.heap.size w w' ∧ TabAt w' w.heap.size ∧ w.heap.size < w'.heap.size := by
  obtain ⟨i0, hi, hz0, hz1, hz2⟩ := info_parts info_int
  go_enter Try.func9, Try.ntmps9
  go_wp2_with (at_make; refine wpList_make_full _ rfl _ _ 24 rfl w.heap.size 3 i0 (.int .i64 0) 1 Try.underlying24 hi hz0 hz1 .i64 .i64 _ _ 256 rfl rfl rfl rfl (by rw [hz2]; omega) (by unfold maxLen; omega) (Nat.le_refl _) ?_; intro w1 hown hgrow)
  go_loopw [4] (fun i wr => ∃ k : Nat, k ≤ 256 ∧ i = .int .i64 k ∧ wr.ownsRow w.heap.size 3 1 (.slice (some ⟨w.heap.size, 0, none⟩) 256 256) 256 (rowK 256 k) ∧ Below w.heap.size w wr) (fun i _ => 256 - (intOf i).toNat)
  case atStart =>
    refine ⟨0, Nat.zero_le _, rfl, ?_, (Below.refl _ _).grown hgrow (Nat.le_refl _) (fun j hj => by cases hj)⟩
    rw [rowK_zero]
    rw [show (Value.int IntKind.i64 0).cells = #[Value.int .i64 0] from rfl, toList_madeCells_one, Nat.mul_one] at hown
    exact hown
  case round =>
    obtain ⟨k, hk, rfl, hown1, hbel⟩ := hrel
    by_cases hlt : k < 256
    · have fz := hown1.frozenAt k
      have cz : wr.cell? ⟨w.heap.size, k, none⟩ = some (.int .i64 0) := by
        rw [hown1.cellAt _ (by omega), rowK_get _ _ _ hlt, if_neg (Nat.lt_irrefl k)]
      have hst := hown1.stored k (Value.int .i64 (sts 8 k : Nat))
      rw [rowK_step 256 k hlt] at hst
      have HST := Lib.hid hst
      have HBEL := Lib.hid hbel
      clear hown hgrow hown1 hst hbel
      have sl := sts_lt 8 k (by omega)
      have C1 := Lib.hid (steps_any k wr (by omega))
      generalize sts 8 k = x at *
      go_wp2_with fail
      refine C1.out.mono ?_
      rintro r w' ⟨rfl, rfl⟩
      go_wp2_with fail
      refine ⟨⟨k + 1, by omega, by go_num, HST.out.1, HBEL.out.setCell (Nat.le_refl _) _⟩, ?_⟩
      simp [intOf]; omega
    · obtain rfl : k = 256 := by omega
      have ht : TabAt wr w.heap.size := by
        intro j hj
        rw [hown1.cellAt _ (by omega), rowK_get _ _ _ hj, if_pos hj]
      have HBEL := Lib.hid hbel
      have HT := Lib.hid ht
      have hz : w.heap.size < wr.heap.size := by
        have := ht 0 (by omega)
        apply Classical.byContradiction
        intro hn
        unfold World.cell? at this
        rw [Array.getElem?_eq_none (Nat.le_of_not_lt hn)] at this
        cases this
      clear hown hgrow hown1 hbel ht
      go_wp2_with fail
      go_ret
      exact ⟨rfl, HBEL.out, HT.out, hz⟩

end Go.Proofs.Ytkpnpldjhgpaiaa.Crc
