/-
  Proved: a code turned twice by bitio.Reverse is as it was, and bits of one are those of the other one from the other end (statement BitioReverse). Conditions: none.
-/
import Derived.Test.YtdgoaccnjlkdcaaRows
import Derived.Test.YtdgoaccnjlkdcaaBitTwo
import Derived.WalkKit
import Derived.ProofKit
import Derived.OpenShut
import Derived.ShutString
import Derived.ChangeOld
import Derived.Below
import Derived.Lib.SmallJoins
import Derived.Deep.Slices
namespace Go.Proofs.Ytdgoaccnjlkdcaa.bitioReverse
open Go.Proofs.Ytdgoaccnjlkdcaa.Bit
open Go.ChangeShapes Go.WideShapes Go.ChangeAt Go.RowKit
open Go.ChangeMaps (open_string shut_string)
set_option linter.unusedVariables false

theorem own : ownKnob Try.prog.godebug = none := by kernel_rfl
theorem laidOut : laidOutB Try.prog = true := by kernel_rfl

theorem rev_rev (bt len : Int) : ((revV (revV bt len : Nat) len : Nat) : Int) = bt % 2 ^ cnt len := by
  have h : revV (revV bt len : Nat) len = num (bitsOf (cnt len) bt) := by
    unfold revV
    rw [show bitsOf (cnt len) ((num (bitsOf (cnt len) bt).reverse : Nat) : Int) = codeBits bt len from bits_rev bt len]
    unfold codeBits
    rw [List.reverse_reverse]
  rw [h, num_bitsOf]

theorem rev_lt (bt len : Int) : ((revV bt len : Nat) : Int) < 2 ^ cnt len := by
  have h := num_lt (codeBits bt len)
  rw [codeBits_length] at h
  have e : revV bt len = num (codeBits bt len) := rfl
  have h3 : ((2 ^ cnt len : Nat) : Int) = (2 : Int) ^ cnt len := Int.natCast_pow 2 _
  rw [e, ← h3]
  exact Int.ofNat_lt.2 h

theorem rev_bit (bt len : Int) (k : Nat) (hk : k < cnt len) : ((revV bt len : Nat) : Int) / 2 ^ k % 2 = bt / 2 ^ (cnt len - 1 - k) % 2 := by
  rw [← ibit_int, ← ibit_int]
  have h : (bitsOf (cnt len) (revV bt len : Nat))[k]? = (codeBits bt len)[k]? := by rw [bits_rev]
  have h1 : (bitsOf (cnt len) (revV bt len : Nat))[k]? = some (ibit (revV bt len : Nat) k) := by simp [bitsOf, hk]
  have h2 : (codeBits bt len)[k]? = some (ibit bt (cnt len - 1 - k)) := by
    unfold codeBits
    rw [rev_bits]
    simp [hk]
  rw [h1, h2] at h
  rw [Option.some.inj h]

set_option maxRecDepth 100000 in
set_option maxHeartbeats 4000000 in
theorem walk (bt len i : Int) (w : World) :
    Calls Try.prog 6 #[.agg #[.int .i64 bt, .int .i64 len], .int .i64 i] w fun e w' => e = .returned (.bool true) ∧ Below w.heap.size w w' := by
  have hB := Nat.le_refl w.heap.size
  by_cases hneg : len < 0
  · have hn : cnt len = 0 := by unfold cnt; omega
    have r0 : ∀ x : Int, revV x len = 0 := by intro x; unfold revV; rw [hn]; rfl
    have R0 := Lib.hid r0
    have k3 : bits .and .i64 bt 0 = 0 := by have := i64_mask bt 0 (by decide); rw [show (2 : Int) ^ 0 - 1 = 0 from rfl] at this; rw [this]; omega
    clear hn r0
    go_enter Try.func6, Try.ntmps6
    go_wp2_with fail
    refine (works_any _).mono ?_
    rintro r w1 ⟨rfl, b1⟩
    have bl1 := below_more ((Below.refl w.heap.size w).alloc hB (.cells #[.int .i64 bt, .int .i64 len] 35)) hB b1
    have blk1 : w1.heap[w.heap.size]? = some (.cells #[.int .i64 bt, .int .i64 len] 35 (0, 0)) := by
      rw [b1.block _ (by simp)]; exact heap_alloc_new _ _
    have c0 : w1.cell? ⟨w.heap.size, 0, none⟩ = some (.int .i64 bt) := by rw [cell_of_row w1 _ 0 _ _ _ blk1]; rfl
    have c1 : w1.cell? ⟨w.heap.size, 1, none⟩ = some (.int .i64 len) := by rw [cell_of_row w1 _ 1 _ _ _ blk1]; rfl
    clear b1
    go_wp2_with fail
    refine (reverse_any _ _ _).mono ?_
    rintro r w2 ⟨rfl, b2⟩
    rw [R0.out]
    have lt1 : w.heap.size < w1.heap.size := (Array.getElem?_eq_some_iff.1 blk1).1
    have c2 : w2.cell? ⟨w.heap.size, 0, none⟩ = some (.int .i64 bt) := (World.cell?_of_block (a := ⟨w.heap.size, 0, none⟩) (b2.block _ lt1)).trans c0
    have c3 : w2.cell? ⟨w.heap.size, 1, none⟩ = some (.int .i64 len) := (World.cell?_of_block (a := ⟨w.heap.size, 1, none⟩) (b2.block _ lt1)).trans c1
    have lt2 : w.heap.size < w2.heap.size := Nat.lt_of_lt_of_le lt1 b2.size
    have bl2 := below_more bl1 hB b2
    clear c0 c1 blk1 b2 bl1
    go_wp2_with fail
    refine (reverse_any _ _ _).mono ?_
    rintro r w3 ⟨rfl, b3⟩
    rw [R0.out]
    have c4 : w3.cell? ⟨w.heap.size, 0, none⟩ = some (.int .i64 bt) := (World.cell?_of_block (a := ⟨w.heap.size, 0, none⟩) (b3.block _ lt2)).trans c2
    have BL := Lib.hid (below_more bl2 hB b3)
    clear c2 c3 b3 bl2
    go_wp2_with fail
    go_quiet (fail)
    have BL2 := Lib.hid (below_draws BL.out nq)
    generalize w3.drewN nq = w4 at *
    by_cases hi0 : i < 0
    · go_wp2_with fail
      go_ret
      exact ⟨rfl, BL2.out⟩
    · go_wp2_with fail
      go_ret
      exact ⟨rfl, BL2.out⟩
  obtain ⟨n, hn, hn2⟩ : ∃ n : Nat, cnt len = n ∧ n ≤ 32 := ⟨_, rfl, cnt_le _⟩
  have A1 := rev_rev bt len
  have A2 := rev_lt bt len
  have A3 := rev_bit bt len
  rw [hn] at A1 A2 A3
  have hc := hn
  have HN := Lib.hid hn
  obtain ⟨P, hP⟩ : ∃ P : Int, (2 : Int) ^ n = P := ⟨_, rfl⟩
  have hp := pow_in n hn2
  have k3 := i64_mask bt n (by omega)
  rw [hP] at A1 A2 hp k3
  have k1 : IntKind.i64.wrap P = P := IntWalk.i64_in _ (by omega)
  have k2 : IntKind.i64.wrap (P - 1) = P - 1 := IntWalk.i64_in _ (by omega)
  go_enter Try.func6, Try.ntmps6
  go_wp2_with fail
  refine (works_any _).mono ?_
  rintro r w1 ⟨rfl, b1⟩
  have bl1 := below_more ((Below.refl w.heap.size w).alloc hB (.cells #[.int .i64 bt, .int .i64 len] 35)) hB b1
  have blk1 : w1.heap[w.heap.size]? = some (.cells #[.int .i64 bt, .int .i64 len] 35 (0, 0)) := by
    rw [b1.block _ (by simp)]; exact heap_alloc_new _ _
  have c0 : w1.cell? ⟨w.heap.size, 0, none⟩ = some (.int .i64 bt) := by rw [cell_of_row w1 _ 0 _ _ _ blk1]; rfl
  have c1 : w1.cell? ⟨w.heap.size, 1, none⟩ = some (.int .i64 len) := by rw [cell_of_row w1 _ 1 _ _ _ blk1]; rfl
  clear b1
  have C0 := Lib.hid (And.intro blk1 (And.intro c0 c1))
  rcases (show len ≤ 32 ∨ 32 < len by omega) with hle | hgt
  · obtain rfl : len = n := by have := HN.out; unfold cnt at this; omega
    clear hneg hle hc hn
    go_wp2_with fail
    refine (reverse_any _ _ _).mono ?_
    rintro r w2 ⟨rfl, b2⟩
    generalize revV bt (n : Int) = a at *
    have lt1 : w.heap.size < w1.heap.size := (Array.getElem?_eq_some_iff.1 blk1).1
    have c2 : w2.cell? ⟨w.heap.size, 0, none⟩ = some (.int .i64 bt) := (World.cell?_of_block (a := ⟨w.heap.size, 0, none⟩) (b2.block _ lt1)).trans c0
    have c3 : w2.cell? ⟨w.heap.size, 1, none⟩ = some (.int .i64 (n : Int)) := (World.cell?_of_block (a := ⟨w.heap.size, 1, none⟩) (b2.block _ lt1)).trans c1
    have lt2 : w.heap.size < w2.heap.size := Nat.lt_of_lt_of_le lt1 b2.size
    have bl2 := below_more bl1 hB b2
    clear c0 c1 blk1 C0 b2 bl1
    go_wp2_with fail
    refine (reverse_any _ _ _).mono ?_
    rintro r w3 ⟨rfl, b3⟩
    rw [A1]
    have c4 : w3.cell? ⟨w.heap.size, 0, none⟩ = some (.int .i64 bt) := (World.cell?_of_block (a := ⟨w.heap.size, 0, none⟩) (b3.block _ lt2)).trans c2
    have bl3 := below_more bl2 hB b3
    clear c2 c3 b3 bl2
    generalize bt % P = q at *
    have BL := Lib.hid bl3
    have d1 : decide (P ≤ (a : Int)) = false := by simp; omega
    have d2 : decide ((a : Int) < 0) = false := by simp
    clear bl3 A1
    go_wp2_with fail
    go_quiet (fail)
    clear k1 k2 k3 d1 d2
    have BL2 := Lib.hid (below_draws BL.out nq)
    have c5 : (w3.drewN nq).cell? ⟨w.heap.size, 0, none⟩ = some (.int .i64 bt) := c4
    generalize w3.drewN nq = w4 at *
    by_cases hi : 0 ≤ i ∧ i < n
    · obtain ⟨k, rfl⟩ : ∃ k : Nat, i = k := ⟨i.toNat, by omega⟩
      obtain ⟨z, hz⟩ : ∃ z : Int, bt / 2 ^ (n - 1 - k) % 2 = z := ⟨_, rfl⟩
      have g1 : bits .and .i64 ((a : Int) / 2 ^ k) 1 = z := by rw [i64_and1, A3 k (by omega), hz]
      have g2 : bits .and .i64 (bt / 2 ^ (n - 1 - k)) 1 = z := by rw [i64_and1, hz]
      have k1 : IntKind.i64.wrap ((n : Int) - 1) = n - 1 := IntWalk.i64_in _ (by omega)
      have k2 : IntKind.i64.wrap ((n : Int) - 1 - k) = ((n - 1 - k : Nat) : Int) := by rw [show (n : Int) - 1 - k = ((n - 1 - k : Nat) : Int) by omega]; exact IntWalk.i64_in _ (by omega)
      have k3 : (0 : Int) ≤ ((n - 1 - k : Nat) : Int) := by omega
      have k4 : (0 : Int) ≤ (k : Int) := by omega
      clear A3 hz c4
      go_wp2_with fail
      go_quiet (fail)
      go_wp2_with fail
      go_ret
      exact ⟨rfl, below_draws BL2.out _⟩
    · rcases (show i < 0 ∨ (n : Int) ≤ i by omega) with hi1 | hi1
      · go_wp2_with fail
        go_ret
        exact ⟨rfl, BL2.out⟩
      · by_cases hi0 : i < 0
        · omega
        go_wp2_with fail
        go_ret
        exact ⟨rfl, BL2.out⟩
  · have N32 : Hid ((32 : Int) = (n : Int)) := by have := HN.out; unfold cnt at this; rw [Hid]; omega
    clear hneg hc hn
    go_wp2_with fail
    rw [N32.out]
    clear hgt
    refine (reverse_any _ _ _).mono ?_
    rintro r w2 ⟨rfl, b2⟩
    generalize revV bt len = a at *
    have lt1 : w.heap.size < w1.heap.size := (Array.getElem?_eq_some_iff.1 blk1).1
    have c2 : w2.cell? ⟨w.heap.size, 0, none⟩ = some (.int .i64 bt) := (World.cell?_of_block (a := ⟨w.heap.size, 0, none⟩) (b2.block _ lt1)).trans c0
    have c3 : w2.cell? ⟨w.heap.size, 1, none⟩ = some (.int .i64 len) := (World.cell?_of_block (a := ⟨w.heap.size, 1, none⟩) (b2.block _ lt1)).trans c1
    have lt2 : w.heap.size < w2.heap.size := Nat.lt_of_lt_of_le lt1 b2.size
    have bl2 := below_more bl1 hB b2
    clear c0 c1 blk1 C0 b2 bl1
    go_wp2_with fail
    refine (reverse_any _ _ _).mono ?_
    rintro r w3 ⟨rfl, b3⟩
    rw [A1]
    have c4 : w3.cell? ⟨w.heap.size, 0, none⟩ = some (.int .i64 bt) := (World.cell?_of_block (a := ⟨w.heap.size, 0, none⟩) (b3.block _ lt2)).trans c2
    have bl3 := below_more bl2 hB b3
    clear c2 c3 b3 bl2
    generalize bt % P = q at *
    have BL := Lib.hid bl3
    have d1 : decide (P ≤ (a : Int)) = false := by simp; omega
    have d2 : decide ((a : Int) < 0) = false := by simp
    clear bl3 A1
    go_wp2_with fail
    go_quiet (fail)
    clear k1 k2 k3 d1 d2
    have BL2 := Lib.hid (below_draws BL.out nq)
    have c5 : (w3.drewN nq).cell? ⟨w.heap.size, 0, none⟩ = some (.int .i64 bt) := c4
    generalize w3.drewN nq = w4 at *
    by_cases hi : 0 ≤ i ∧ i < n
    · obtain ⟨k, rfl⟩ : ∃ k : Nat, i = k := ⟨i.toNat, by omega⟩
      obtain ⟨z, hz⟩ : ∃ z : Int, bt / 2 ^ (n - 1 - k) % 2 = z := ⟨_, rfl⟩
      have g1 : bits .and .i64 ((a : Int) / 2 ^ k) 1 = z := by rw [i64_and1, A3 k (by omega), hz]
      have g2 : bits .and .i64 (bt / 2 ^ (n - 1 - k)) 1 = z := by rw [i64_and1, hz]
      have k1 : IntKind.i64.wrap ((n : Int) - 1) = n - 1 := IntWalk.i64_in _ (by omega)
      have k2 : IntKind.i64.wrap ((n : Int) - 1 - k) = ((n - 1 - k : Nat) : Int) := by rw [show (n : Int) - 1 - k = ((n - 1 - k : Nat) : Int) by omega]; exact IntWalk.i64_in _ (by omega)
      have k3 : (0 : Int) ≤ ((n - 1 - k : Nat) : Int) := by omega
      have k4 : (0 : Int) ≤ (k : Int) := by omega
      clear A3 hz c4
      go_wp2_with fail
      go_quiet (fail)
      go_wp2_with fail
      go_ret
      exact ⟨rfl, below_draws BL2.out _⟩
    · rcases (show i < 0 ∨ (n : Int) ≤ i by omega) with hi1 | hi1
      · go_wp2_with fail
        go_ret
        exact ⟨rfl, BL2.out⟩
      · by_cases hi0 : i < 0
        · omega
        go_wp2_with fail
        go_ret
        exact ⟨rfl, BL2.out⟩

set_option maxRecDepth 100000 in
theorem lifted (os : Os) (started : os.Started) (H : Type) (enc : TypeId × Value → H) :
    ReturnsInHanded {} Try.checked os 6 .any (Rows.bitioReverseSpec.pre6 enc Try.prog Try.f6 Rows.bitioReverseRow.domain false) (Rows.bitioReverseSpec.post enc Try.prog Try.f6 false true false false) := by
  refine returnsInHanded_of_change (C := Try.checked) own started (by kernel_rfl) Try.func6
    (ChangeSpec.witness6 (enc := enc) (C := Try.checked) false ⟨#[], #[.agg #[.int .i64 0, .int .i64 0], .int .i64 0], []⟩ 8 (by kernel_rfl) (by kernel_rfl) (by kernel_rfl) (by kernel_rfl)) ?_
  intro W base args ds gs before hval0 hW hcnd _
  have hval : ∀ (j : Nat) t v, Try.f6.params[j]? = some t → args[j]? = some v → Value.okWide Try.prog W .any base t v := hval0
  have hW' := hW
  obtain ⟨p, q, hA0, hV, rfl, hfz, hnd⟩ := hW
  have hA : DataW.TrodAll enc Try.prog W 0 (fun _ => true) true Try.f6.params.toList args.toList ds p := hA0
  rw [Try.params6] at hA hval
  obtain ⟨v0, vs0, d0, ds0, p0, q0, hargs, rfl, rfl, h0, r0⟩ := trodAll_cons hA
  obtain ⟨v1, vs1, d1, ds1, p1, q1, rfl, rfl, rfl, h1, r1⟩ := trodAll_cons r0
  obtain ⟨rfl, rfl, rfl⟩ := trodAll_nil r1
  obtain rfl : args = #[v0, v1] := by cases args; simp_all
  obtain ⟨rfl, rfl⟩ := trodVars_none hV
  have k0 := h0
  have lt0 : ∀ x ∈ p0, x.block < W.heap.size := by obtain ⟨m, hm⟩ := k0; exact DataW.trod_lt m _ _ _ hm
  obtain ⟨x0, y0, rfl⟩ : ∃ x y : Int, v0 = .agg #[.int .i64 x, .int .i64 y] := by
    obtain ⟨c0, c1, z0, z1, m, e, _, _, hy0, hy1⟩ := Go.Joins.open_agg2 Try.underlying35 (by kernel_rfl) (by kernel_rfl) (hval 0 35 v0 rfl rfl) h0
    obtain ⟨x, e0, _, _⟩ := DataW.trod_int Try.underlying3 hy0
    obtain ⟨y, e1, _, _⟩ := DataW.trod_int Try.underlying3 hy1
    simp at e0 e1
    exact ⟨x, y, by rw [e, e0, e1]⟩
  have k1 := h1
  have lt1 : ∀ x ∈ p1, x.block < W.heap.size := by obtain ⟨m, hm⟩ := k1; exact DataW.trod_lt m _ _ _ hm
  obtain ⟨a1, rfl, rfl, rfl, w1⟩ := open_int Try.underlying3 (hval 1 3 v1 rfl rfl) h1
  clear hA0 hval0
  refine (walk x0 y0 a1 W).mono fun e W' ⟨he, bel⟩ => ?_
  subst he
  exact ⟨_, rfl, _, _, _, [], _, [], hW', trodAll_mk1 (shut_bool Try.underlying4 _), (trodAll_cons_mk (Below.trod laidOut (by kernel_rfl) (of_decide_eq_true (by kernel_rfl)) k0 bel lt0) (trodAll_cons_mk (Below.trod laidOut (by kernel_rfl) (of_decide_eq_true (by kernel_rfl)) k1 bel lt1) trodAll_mk0)), rfl, bel.frame _, fun h => by cases h⟩

theorem over : Rows.bitioReverseRow.holds Try.pinned (OpenSpec.ofChange Rows.bitioReverseSpec) :=
  OpenClaim.holds_of_wide 6 Try.f6 rfl rfl rfl rfl rfl rfl rfl ⟨rfl, rfl, rfl, rfl, rfl⟩ rfl rfl rfl rfl rfl (by kernel_rfl) Try.func6 (by kernel_rfl)
    (of_decide_eq_true (by kernel_rfl)) (by unfold Func.isWrapper; first | (rw [if_pos (by decide +kernel)]; kernel_rfl) | (rw [if_neg (by decide +kernel)]; exact ⟨rfl, rfl⟩))
    (fun os started H enc _ => lifted os started H enc)

theorem proved : Rows.BitioReverseSaid := over
end Go.Proofs.Ytdgoaccnjlkdcaa.bitioReverse
