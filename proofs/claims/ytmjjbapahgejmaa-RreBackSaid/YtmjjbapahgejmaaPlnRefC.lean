/-
  Contracts of the reference of layer 13 that layer 16 (plain) reaches: a value's bytes.
-/
import Derived.Test.YtmjjbapahgejmaaPlnRefB
import Derived.Test.YtmjjbapahgejmaaAllOct17
namespace Go.Proofs.Ytmjjbapahgejmaa.Pln
open Go.ChangeShapes Go.WideShapes Go.ChangeAt Go.RowKit Lz RowG RegVal Fmt Oct
set_option linter.unusedVariables false
set_option maxRecDepth 100000

theorem leL_succ (k : Nat) (n : Int) : leL (k + 1) n = leL k n ++ [byt n k] := by
  simp [leL, List.range_succ]
theorem leL_snoc_arr (k : Nat) (n : Int) : (⟨(leL k n).toArray⟩ : ByteArray) ++ ⟨#[byt n k]⟩ = ⟨(leL (k + 1) n).toArray⟩ := by
  rw [leL_succ, ByteArray.mk_append_mk]
/-- A number as bytes in one of two orders. -/
def ordL (big : Bool) (s : Nat) (n : Int) : List UInt8 := if big then beL s n else leL s n
theorem and255 {n : Int} (h : 0 ≤ n) (h2 : n < 4294967296) : bits .and .i64 n 255 = n % 256 := by
  obtain ⟨m, rfl⟩ : ∃ m : Nat, n = m := ⟨n.toNat, by omega⟩
  have := i64_and m 255 (by omega) (by decide)
  rw [show ((255 : Nat) : Int) = 255 from rfl] at this
  rw [this, show (255 : Nat) = 2 ^ 8 - 1 from rfl, Nat.and_two_pow_sub_one_eq_mod]
  omega
set_option maxHeartbeats 1000000 in
theorem refput_any (big : Bool) (s : Nat) (n : Int) (w : World) (h4 : s ≤ 4) (hn : 0 ≤ n) (hm : n < 4294967296) :
    Calls Try.prog 65 #[.bool big, .int .i64 s, .int .i64 n] w fun e w' => e = .returned (.string ⟨(ordL big s n).toArray⟩) ∧ Below w.heap.size w w' := by
  go_enter Try.func65, Try.ntmps65
  go_wp2_with fail
  go_loopw [2, 7, 8] (fun m t i wr => ∃ k : Nat, k ≤ s ∧ i = .int .i64 k ∧ m = .int .i64 (n / 2 ^ (8 * k)) ∧ t = .string ⟨(leL k n).toArray⟩ ∧ Below w.heap.size w wr) (fun _ _ i _ => s - (intOf i).toNat)
  case atStart => exact ⟨0, Nat.zero_le _, rfl, by simp, rfl, Below.refl _ _⟩
  case round =>
    obtain ⟨k, hk, rfl, rfl, rfl, hbel⟩ := hrel
    have q0 : 0 ≤ n / 2 ^ (8 * k) := Int.ediv_nonneg hn (Int.le_of_lt (Int.pow_pos (by decide)))
    have q1 : n / 2 ^ (8 * k) ≤ n := Int.ediv_le_self _ hn
    by_cases hlt : k < s
    · have hadd : ∀ W : World, (Op.stringOp .add ⟨(leL k n).toArray⟩ ⟨#[byt n k]⟩).run Try.prog W = .ok (.string ⟨(leL (k + 1) n).toArray⟩) W := fun W => by
        rw [run_string_add_sum W _ _ (by
          have h1 : (ByteArray.mk #[byt n k]).size = 1 := rfl
          have h2 : (ByteArray.mk (leL k n).toArray).size = k := by show (leL k n).toArray.size = _; simp [leL_length]
          rw [h1, h2]; omega), leL_snoc_arr]
      have hby := byt_toNat n k
      have hconv : (convert 61 9 (.slice (some ⟨wr.heap.size, 0, none⟩) 1 1)).run Try.prog (wr.alloc (.cells #[.int .u8 (n / 2 ^ (8 * k) % 256)] 5)) = .ok (.string ⟨#[byt n k]⟩) (wr.alloc (.cells #[.int .u8 (n / 2 ^ (8 * k) % 256)] 5)) :=
        run_string_of _ 61 9 5 ⟨wr.heap.size, 0, none⟩ 1 [byt n k] 1 rfl Try.underlying61 Try.underlying5 Try.underlying9 (by
          intro j hj
          obtain rfl : j = 0 := by omega
          rw [addr_add]
          simp [hby])
      have HBEL := Lib.hid hbel
      have HD := Lib.hid (div_step n k)
      clear hbel hby
      generalize hq : n / 2 ^ (8 * k) = q at *
      clear hq
      have ha : bits .and .i64 q 255 = q % 256 := and255 q0 (by omega)
      have hz0 := Int.emod_nonneg q (show (256 : Int) ≠ 0 by decide)
      have hz1 := Int.emod_lt_of_pos q (show (0 : Int) < 256 by decide)
      have hsh : q / 2 ^ 8 = q / 256 := rfl
      generalize q % 256 = z at *
      have hzw : IntKind.u8.wrap z = z := by
        simp only [IntKind.wrap, IntKind.bits, IntKind.signed]
        simp
        omega
      go_wp2
      refine ⟨⟨k + 1, by omega, by go_num, by rw [← HD.out], rfl, HBEL.out.alloc (by have := HBEL.out.size; omega) _⟩, ?_⟩
      simp [intOf]; omega
    · obtain rfl : k = s := by omega
      have HBEL := Lib.hid hbel
      clear hbel
      have hsz : (ByteArray.mk (leL k n).toArray).size = k := by show (leL k n).toArray.size = _; simp [leL_length]
      have TU := Lib.hid (fun w => refTurned_any ⟨(leL k n).toArray⟩ w (by rw [hsz]; omega))
      have hrv : RowKit.Hid (revS ⟨(leL k n).toArray⟩ = ⟨(beL k n).toArray⟩) := Lib.hid (by unfold revS beL; simp)
      cases big with
      | true =>
        go_wp2_with fail
        refine (TU.out _).mono ?_
        rintro r w2 ⟨rfl, rfl⟩
        go_wp2_with fail
        go_ret
        rw [hrv.out]
        exact ⟨rfl, HBEL.out⟩
      | false =>
        go_wp2_with fail
        go_ret
        exact ⟨rfl, HBEL.out⟩
/-- How many bytes a value has. -/
def Fm.sz (f : Fm) : Nat := (f.B / 8).toNat
theorem fm_sz {f : Fm} (h : f.ok = true) : f.B / 8 = (Fm.sz f : Nat) ∧ Fm.sz f ≤ 4 ∧ 1 ≤ Fm.sz f := by
  have hB : f.B = 8 ∨ f.B = 16 ∨ f.B = 32 := by
    unfold Fm.ok Fm.head at h
    simp at h
    omega
  unfold Fm.sz
  omega
theorem refPutV_any (f : Fm) (hf : f.ok = true) (n : Int) (hn : 0 ≤ n) (hm : n < 4294967296) (w : World) :
    Calls Try.prog 40 #[f.v, .int .i64 n] w fun e w' => e = .returned (.string ⟨(ordL f.big (Fm.sz f) n).toArray⟩) ∧ Below w.heap.size w w' := by
  obtain ⟨s1, s2, _⟩ := fm_sz hf
  have V := Lib.hid (fun w => refput_any f.big (Fm.sz f) n w s2 hn hm)
  have AT := FmAt.box f w 37
  have bel := (Below.refl w.heap.size w).alloc (Nat.le_refl _) (.cells #[.int .i64 f.B, .int .i64 f.D, .bool f.big, .bool f.tr, .int .i64 f.rm, .int .i64 f.gm, .int .i64 f.bm, .int .i64 f.rs, .int .i64 f.gs, .int .i64 f.bs] 37)
  obtain ⟨w1, hw1⟩ : ∃ w1, w.alloc (.cells #[.int .i64 f.B, .int .i64 f.D, .bool f.big, .bool f.tr, .int .i64 f.rm, .int .i64 f.gm, .int .i64 f.bm, .int .i64 f.rs, .int .i64 f.gs, .int .i64 f.bs] 37) = w1 := ⟨_, rfl⟩
  rw [hw1] at AT bel
  have HF : f.v = .agg #[.int .i64 f.B, .int .i64 f.D, .bool f.big, .bool f.tr, .int .i64 f.rm, .int .i64 f.gm, .int .i64 f.bm, .int .i64 f.rs, .int .i64 f.gs, .int .i64 f.bs] := rfl
  rw [HF]
  have BEL := Lib.hid bel
  clear hf HF bel
  generalize Fm.sz f = s at *
  obtain ⟨B, D, big, tr, rm, gm, bm, rs, gs, bs⟩ := f
  simp only at *
  obtain ⟨d0, d1, d2, d3, d4, d5, d6, d7, d8, d9⟩ := AT
  dsimp only at d0 d1 d2 d3 d4 d5 d6 d7 d8 d9
  have hB : B.tdiv 8 = (s : Nat) := by
    have : 0 ≤ B := by omega
    rw [Int.tdiv_eq_ediv_of_nonneg this]
    exact s1
  go_enter Try.func40, Try.ntmps40
  go_wp2_with fail
  refine (V.out _).mono ?_
  rintro r w2 ⟨rfl, b⟩
  go_wp2_with fail
  go_ret
  exact ⟨rfl, BEL.out.trans (b.mono BEL.out.size)⟩
end Go.Proofs.Ytmjjbapahgejmaa.Pln
