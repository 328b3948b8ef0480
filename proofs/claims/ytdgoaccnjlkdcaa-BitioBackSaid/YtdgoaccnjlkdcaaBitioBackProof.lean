/-
  Proved: what bitio.Writer writes, bitio.Reader reads again, in the same order, with nothing of what stands behind it (statement BitioBack). Conditions: none.
-/
import Derived.Test.YtdgoaccnjlkdcaaRows
import Derived.Test.YtdgoaccnjlkdcaaBitBackM
import Derived.WalkKit
import Derived.ProofKit
import Derived.OpenShut
import Derived.ShutString
import Derived.ChangeOld
import Derived.Below
import Derived.Lib.SmallJoins
import Derived.Deep.Slices
namespace Go.Proofs.Ytdgoaccnjlkdcaa.bitioBack
open Go.Proofs.Ytdgoaccnjlkdcaa.Bit
open Go.ChangeShapes Go.WideShapes Go.ChangeAt Go.RowKit
open Go.ChangeMaps (open_string shut_string)
set_option linter.unusedVariables false

theorem own : ownKnob Try.prog.godebug = none := by kernel_rfl
theorem laidOut : laidOutB Try.prog = true := by kernel_rfl

theorem grown_alloc (w : World) (o : Obj) : w.grownBy (w.alloc o) none := ⟨rfl, rfl, rfl, by simp, fun k hk _ => Below.heap_alloc w o k hk⟩

theorem early (a : Option Addr) (len cap : Nat) (A : Nat → Act4) (tail : ByteArray) (w : World) (hA : IsActs w a len A) (ht : tail.size ≤ maxLen) (hg : overB len A = true ∨ 60 < tail.size) :
    Calls Try.prog 5 #[.slice a len cap, .string tail] w fun e w' => e = .returned (.bool true) ∧ Below w.heap.size w w' := by
  unfold maxLen at ht
  have HA := Lib.hid hA
  cases ho : overB len A with
  | true =>
    have HO := Lib.hid ho
    clear hA ho hg
    go_enter Try.func5, Try.ntmps5
    go_wp2_with fail
    refine (works_any _).mono ?_
    rintro r w1 ⟨rfl, b1⟩
    go_wp2_with fail
    refine (over_any _ _ _ A _ (HA.out.below b1)).mono ?_
    rintro r w2 ⟨rfl, rfl⟩
    rw [HO.out]
    go_wp2_with fail
    go_ret
    exact ⟨rfl, b1⟩
  | false =>
    have h60 : 60 < tail.size := by
      rcases hg with h | h
      · rw [ho] at h; cases h
      · exact h
    have HO := Lib.hid ho
    clear hA ho hg
    go_enter Try.func5, Try.ntmps5
    go_wp2_with fail
    refine (works_any _).mono ?_
    rintro r w1 ⟨rfl, b1⟩
    go_wp2_with fail
    refine (over_any _ _ _ A _ (HA.out.below b1)).mono ?_
    rintro r w2 ⟨rfl, rfl⟩
    rw [HO.out]
    go_wp2_with fail
    go_ret
    exact ⟨rfl, b1⟩

set_option maxRecDepth 100000 in
set_option maxHeartbeats 4000000 in
theorem main (a : Option Addr) (len cap : Nat) (A : Nat → Act4) (tail : ByteArray) (w : World) (hA : IsActs w a len A)
    (ho : overB len A = false) (ht : tail.size ≤ 60) :
    Calls Try.prog 5 #[.slice a len cap, .string tail] w fun e w' => e = .returned (.bool true) ∧ Below w.heap.size w w' := by
  have hB := Nat.le_refl w.heap.size
  obtain ⟨hlen, hS⟩ := overB_yes ho
  have hW := wl_len A len hS
  have HS := Lib.hid hS
  have HW := Lib.hid hW
  have HO := Lib.hid ho
  have HA := Lib.hid hA
  clear hS hW ho hA
  go_enter Try.func5, Try.ntmps5
  go_wp2_with fail
  refine (works_any _).mono ?_
  rintro r w1 ⟨rfl, b1⟩
  go_wp2_with fail
  have hA1 := HA.out.below b1
  refine (over_any _ _ _ A _ hA1).mono ?_
  rintro r w2 ⟨rfl, rfl⟩
  rw [HO.out]
  clear hA1
  have h1 := WrAt.new w1
  have bl1 := below_alloc b1 hB (.cells #[.slice none 0 0, .int .i64 0] 28)
  have z1 := b1.size
  clear b1
  go_wp2_with fail
  generalize w1.alloc (.cells #[.slice none 0 0, .int .i64 0] 28) = w2 at *
  generalize w1.heap.size = B at *
  go_loopw [8] (fun i wr => ∃ (k : Nat) (u : Value), k ≤ len ∧ i = .int .i64 k ∧ WrAt wr B u (wl A k) ∧ Below w.heap.size w wr ∧ From w.heap.size u) (fun i _ => len - (intOf i).toNat)
  case atStart => exact ⟨0, _, Nat.zero_le _, rfl, h1, bl1, From.nil _⟩
  case round =>
    clear h1 bl1
    obtain ⟨k, u, hk, rfl, h3, bl3, f3⟩ := hrel
    by_cases hlt : k < len
    · obtain ⟨b, off, rfl, hb, hcc⟩ := HA.out.2.1 (by omega)
      obtain ⟨c0, c1, c2, c3⟩ := hcc k hlt
      clear hcc
      have d0 := (bl3.cell (p := ⟨b, off + k * 4, none⟩) hb).trans c0
      have d1 := (bl3.cell (p := ⟨b, off + k * 4 + 1, none⟩) hb).trans c1
      have d2 := (bl3.cell (p := ⟨b, off + k * 4 + 2, none⟩) hb).trans c2
      have d3 := (bl3.cell (p := ⟨b, off + k * 4 + 3, none⟩) hb).trans c3
      clear c0 c1 c2 c3
      have hs60 := HS.out k hlt
      have hstep : wl A (k + 1) = wAct (wl A k) (A k) := rfl
      have hl3 := HW.out k hk
      obtain ⟨c, hcA⟩ : ∃ c, A k = c := ⟨_, rfl⟩
      rw [hcA] at d0 d1 d2 d3 hs60 hstep
      clear hcA
      obtain ⟨K, N, V, S⟩ := c
      simp only at d0 d1 d2 d3 hs60
      have i0 : (0 : Int) ≤ k := by omega
      have i1 : (k : Int) < len := by omega
      obtain ⟨n, hn, hn2⟩ : ∃ n : Nat, cnt N = n ∧ n ≤ 32 := ⟨_, rfl, cnt_le _⟩
      obtain ⟨x1, hmx⟩ : ∃ x1 : Int, (if N < 0 then (0 : Int) else N) = x1 := ⟨_, rfl⟩
      have hmn : (if 32 < x1 then (32 : Int) else x1) = n := by rw [← hn, ← hmx]; unfold cnt; split <;> split <;> omega
      have HN := Lib.hid hn
      have ST := Lib.hid hstep
      have hz3 := bl3.size
      clear hn hstep
      by_cases t0 : K.tmod 3 = 0
      · have T0 : (K.tmod 3 == 0) = true := by simp [t0]
        have S1 : Hid (wl A (k + 1) = wl A k ++ bitsOf (cnt N) V) := by rw [Hid, ST.out]; unfold wAct; rw [if_pos t0]
        clear t0
        have h4 := WrRaw.alloc h3 (.cells #[.int .i64 K, .int .i64 N, .int .i64 V, .string S] 31)
        have bl4 := below_alloc bl3 hB (.cells #[.int .i64 K, .int .i64 N, .int .i64 V, .string S] 31)
        clear h3 bl3
        go_wp2_with fail
        refine (wbits_any _ _ (wl A k) _ _ _ h4 (by omega)).mono ?_
        rintro r w5 ⟨rfl, u5, h5, b5, n5⟩
        rw [cnt_nat n hn2, ← HN.out] at h5
        rw [← S1.out] at h5
        have bl5 := below_but bl4 hB b5 z1 f3
        have f5 := f3.near n5 bl4.size
        have HH := Lib.hid (And.intro h5 (And.intro bl5 f5))
        clear h4 bl4 b5 n5 h5 bl5 f5 f3 d0 d1 d2 d3 hmx hmn
        go_wp2_with fail
        refine ⟨⟨k + 1, u5, by omega, by go_num, HH.out.1, HH.out.2.1, HH.out.2.2⟩, ?_⟩
        simp [intOf]; omega
      by_cases t1 : K.tmod 3 = 1
      · have T0 : (K.tmod 3 == 0) = false := by simp [t0]
        have T1 : (K.tmod 3 == 1) = true := by simp [t1]
        have S1 : Hid (wl A (k + 1) = wl A k ++ (bitsOf (cnt N) V).reverse) := by rw [Hid, ST.out]; unfold wAct; rw [if_neg t0, if_pos t1]
        clear t0 t1
        have h4 := WrRaw.alloc h3 (.cells #[.int .i64 K, .int .i64 N, .int .i64 V, .string S] 31)
        have bl4 := below_alloc bl3 hB (.cells #[.int .i64 K, .int .i64 N, .int .i64 V, .string S] 31)
        clear h3 bl3
        go_wp2_with fail
        refine (wcode_any _ _ (wl A k) _ _ _ h4 (by omega)).mono ?_
        rintro r w5 ⟨rfl, u5, h5, b5, n5⟩
        unfold codeBits at h5; rw [cnt_nat n hn2, ← HN.out] at h5
        rw [← S1.out] at h5
        have bl5 := below_but bl4 hB b5 z1 f3
        have f5 := f3.near n5 bl4.size
        have HH := Lib.hid (And.intro h5 (And.intro bl5 f5))
        clear h4 bl4 b5 n5 h5 bl5 f5 f3 d0 d1 d2 d3 hmx hmn
        go_wp2_with fail
        refine ⟨⟨k + 1, u5, by omega, by go_num, HH.out.1, HH.out.2.1, HH.out.2.2⟩, ?_⟩
        simp [intOf]; omega
      by_cases t2 : K.tmod 3 = 2
      · have T0 : (K.tmod 3 == 0) = false := by simp [t0]
        have T1 : (K.tmod 3 == 1) = false := by simp [t1]
        have T2 : (K.tmod 3 == 2) = true := by simp [t2]
        have S1 : Hid (wl A (k + 1) = pad (wl A k) ++ tbits S.data.toList) := by rw [Hid, ST.out]; unfold wAct; rw [if_neg t0, if_neg t1, if_pos t2]
        clear t0 t1 t2
        have h4 := WrRaw.alloc h3 (.cells #[.int .i64 K, .int .i64 N, .int .i64 V, .string S] 31)
        have bl4 := below_alloc bl3 hB (.cells #[.int .i64 K, .int .i64 N, .int .i64 V, .string S] 31)
        clear h3 bl3
        go_wp2_with fail
        refine (wbytes_any _ _ (wl A k) _ _ h4 (by omega) (by omega)).mono ?_
        rintro r w5 ⟨rfl, u5, h5, b5, n5⟩
        skip
        rw [← S1.out] at h5
        have bl5 := below_but bl4 hB b5 z1 f3
        have f5 := f3.near n5 bl4.size
        have HH := Lib.hid (And.intro h5 (And.intro bl5 f5))
        clear h4 bl4 b5 n5 h5 bl5 f5 f3 d0 d1 d2 d3 hmx hmn
        go_wp2_with fail
        refine ⟨⟨k + 1, u5, by omega, by go_num, HH.out.1, HH.out.2.1, HH.out.2.2⟩, ?_⟩
        simp [intOf]; omega
      · have T0 : (K.tmod 3 == 0) = false := by simp [t0]
        have T1 : (K.tmod 3 == 1) = false := by simp [t1]
        have T2 : (K.tmod 3 == 2) = false := by simp [t2]
        have S1 : Hid (wl A (k + 1) = wl A k) := by rw [Hid, ST.out]; unfold wAct; rw [if_neg t0, if_neg t1, if_neg t2]
        clear t0 t1 t2
        have h4 := WrRaw.alloc h3 (.cells #[.int .i64 K, .int .i64 N, .int .i64 V, .string S] 31)
        have bl4 := below_alloc bl3 hB (.cells #[.int .i64 K, .int .i64 N, .int .i64 V, .string S] 31)
        clear h3 bl3
        have HH := Lib.hid (And.intro h4 (And.intro bl4 f3))
        clear h4 bl4 f3
        go_wp2_with fail
        refine ⟨⟨k + 1, u, by omega, by go_num, ?_, HH.out.2.1, HH.out.2.2⟩, ?_⟩
        · rw [S1.out]; exact HH.out.1
        · simp [intOf]; omega
    · obtain rfl : k = len := by omega
      have hl3 := HW.out k (Nat.le_refl _)
      obtain ⟨s0, hs0⟩ : ∃ s0, (⟨(pack (wl A k)).toArray⟩ : ByteArray) = s0 := ⟨_, rfl⟩
      have hz0 : s0.size ≤ 4000 := by rw [← hs0, size_text]; omega
      have S0 := Lib.hid hs0
      obtain ⟨t, htx⟩ : ∃ t, s0 ++ tail = t := ⟨_, rfl⟩
      have htt : txt (wl A k) tail = t := by unfold txt; rw [hs0, htx]
      have TX := Lib.hid htx
      have TT := Lib.hid htt
      have hzt : t.size ≤ 4060 := by rw [← htx, ByteArray.size_append]; omega
      have htl : (wl A k).length ≤ (tb t).length := by rw [tb_length, ← htt, txt_size]; omega
      clear hs0 htx htt hlt hk
      go_wp2_with fail
      refine (wstring_any _ _ (wl A k) _ h3).mono ?_
      rintro r w3 ⟨rfl, rfl⟩
      rw [S0.out]
      go_wp2_with fail
      rw [TX.out]
      refine (rnew_any _ _).mono ?_
      rintro r w4 ⟨rfl, r4, b4⟩
      have h4 := WrRaw.below h3 b4
      have bl4 := below_more bl3 hB b4
      have z4 : w.heap.size ≤ wr.heap.size := bl3.size
      have l4 : B ≠ wr.heap.size := by have := WrRaw.lt h3; omega
      have o4 : u.ownBlock ≠ some wr.heap.size := fun e => by have := (h3.own.lt _ e).2; omega
      clear h3 bl3 b4
      generalize wr.heap.size = B4 at *
      go_wp2_with fail
      go_loopw [12] (fun i wr2 => ∃ j : Nat, j ≤ k ∧ i = .int .i64 j ∧ RdAt 62 wr2 B4 t (wl A j).length false ∧ WrAt wr2 B u (wl A k) ∧ Below w.heap.size w wr2) (fun i _ => k - (intOf i).toNat)
      case atStart => exact ⟨0, Nat.zero_le _, rfl, r4, h4, bl4⟩
      case round =>
        clear r4 h4 bl4
        obtain ⟨j, hj, rfl, r5, h5, bl5⟩ := hrel
        by_cases hlt : j < k
        · obtain ⟨b, off, rfl, hb, hcc⟩ := HA.out.2.1 (by omega)
          obtain ⟨c0, c1, c2, c3⟩ := hcc j hlt
          clear hcc
          have d0 := (bl5.cell (p := ⟨b, off + j * 4, none⟩) hb).trans c0
          have d1 := (bl5.cell (p := ⟨b, off + j * 4 + 1, none⟩) hb).trans c1
          have d2 := (bl5.cell (p := ⟨b, off + j * 4 + 2, none⟩) hb).trans c2
          have d3 := (bl5.cell (p := ⟨b, off + j * 4 + 3, none⟩) hb).trans c3
          clear c0 c1 c2 c3
          have hs60 := HS.out j hlt
          have hstep : wl A (j + 1) = wAct (wl A j) (A j) := rfl
          obtain ⟨rr, hrr⟩ := wl_to A (show j + 1 ≤ k by omega)
          have hlj := HW.out j hj
          obtain ⟨c, hcA⟩ : ∃ c, A j = c := ⟨_, rfl⟩
          rw [hcA] at d0 d1 d2 d3 hs60 hstep
          clear hcA
          obtain ⟨K, N, V, S⟩ := c
          simp only at d0 d1 d2 d3 hs60
          have i0 : (0 : Int) ≤ j := by omega
          have i1 : (j : Int) < k := by omega
          obtain ⟨n, hn, hn2⟩ : ∃ n : Nat, cnt N = n ∧ n ≤ 32 := ⟨_, rfl, cnt_le _⟩
          obtain ⟨x1, hmx⟩ : ∃ x1 : Int, (if N < 0 then (0 : Int) else N) = x1 := ⟨_, rfl⟩
          have hmn : (if 32 < x1 then (32 : Int) else x1) = n := by rw [← hn, ← hmx]; unfold cnt; split <;> split <;> omega
          have HN := Lib.hid hn
          have ST := Lib.hid hstep
          have RR := Lib.hid hrr
          have hz5 := bl5.size
          have hpi : (wl A j).length ≤ (tb t).length := by
            obtain ⟨r2, hr2⟩ := wl_to A (show j ≤ k by omega)
            have := congrArg List.length hr2
            rw [List.length_append] at this
            omega
          have r6 := r5.kept (grown_alloc wr (.cells #[.int .i64 K, .int .i64 N, .int .i64 V, .string S] 31)) (by simp)
          have h6 := WrRaw.alloc h5 (.cells #[.int .i64 K, .int .i64 N, .int .i64 V, .string S] 31)
          have bl6 := below_alloc bl5 hB (.cells #[.int .i64 K, .int .i64 N, .int .i64 V, .string S] 31)
          have lb : B4 < wr.heap.size := r5.lt
          have a6 : (wr.alloc (.cells #[.int .i64 K, .int .i64 N, .int .i64 V, .string S] 31)).heap[wr.heap.size]? = some (.cells #[.int .i64 K, .int .i64 N, .int .i64 V, .string S] 31 (0, 0)) := heap_alloc_new _ _
          have e0 : wr.heap.size < (wr.alloc (.cells #[.int .i64 K, .int .i64 N, .int .i64 V, .string S] 31)).heap.size := by simp
          clear hn hstep hrr r5 h5 bl5
          by_cases t0 : K.tmod 3 = 0
          · have T0 : (K.tmod 3 == 0) = true := by simp [t0]
            have S1 : Hid (wl A (j + 1) = wl A j ++ bitsOf (cnt N) V) := by rw [Hid, ST.out]; unfold wAct; rw [if_pos t0]
            have hp := txt_part (wl A j) (bitsOf (cnt N) V) rr tail
            rw [← S1.out, ← RR.out, TT.out, bitsOf_length, HN.out] at hp
            have PP := Lib.hid hp
            obtain ⟨P, hP⟩ : ∃ P : Int, (2 : Int) ^ n = P := ⟨_, rfl⟩
            have pw := pow_in n hn2
            have m1 := i64_mask V n (by omega)
            have m0 := num_bitsOf n V
            rw [hP] at pw m1 m0
            obtain ⟨M, hM⟩ : ∃ M, V % P = M := ⟨_, rfl⟩
            rw [hM] at m1 m0
            have M0 := Lib.hid m0
            have k1 : IntKind.i64.wrap P = P := IntWalk.i64_in _ (by omega)
            have k2 : IntKind.i64.wrap (P - 1) = P - 1 := IntWalk.i64_in _ (by omega)
            clear t0 hp m0 hM
            go_wp2_with fail
            clear d0 d1 d2 d3 hmx hmn
            generalize wr.alloc (.cells #[.int .i64 K, .int .i64 N, .int .i64 V, .string S] 31) = w6 at *
            have e2 : w6.cell? ⟨wr.heap.size, 2, none⟩ = some (.int .i64 V) := by rw [cell_of_row w6 _ 2 _ _ _ a6]; rfl
            generalize wr.heap.size = Bl at *
            go_region_held3 (fun w' => w'.cell? ⟨Bl, 2, none⟩ = some (.int .i64 V)) (first | exact e2 | exact hk7)
              (first
                | (go_at_call 23; refine (rbits_any B4 t (wl A j).length false _ _ (show RdAt _ w6.drew _ _ _ _ from r6) hpi (by omega)).mono ?_; rintro r w7 ⟨rfl, r7, g7⟩; rw [cnt_nat n hn2] at r7 ⊢; rw [PP.out.2.1, ← HN.out, HN.out, M0.out]; rw [PP.out.1, PP.out.2.2] at r7; have g7' : w6.grownBy w7 (some B4) := ⟨g7.os, g7.tape, g7.output, g7.size, g7.block⟩; have hk7 : w7.cell? ⟨Bl, 2, none⟩ = some (.int .i64 V) := (World.cell?_of_block (w := w6) (w' := w7) (a := ⟨Bl, 2, none⟩) (g7'.block Bl e0 (by simp; omega))).trans e2))
            have h7 := WrRaw.underGrow h6 g7' l4 o4
            have bl7 := below_grow bl6 hB g7' z4
            have HH := Lib.hid (And.intro (show RdAt _ w7 B4 t (wl A (j + 1)).length false from by rw [S1.out]; rw [List.length_append, bitsOf_length, HN.out]; exact r7) (And.intro h7 bl7))
            clear r6 h6 bl6 r7 g7 g7' hk7 h7 bl7 a6 e2 k1 k2 m1
            go_wp2_with fail
            refine ⟨⟨j + 1, by omega, by go_num, HH.out.1, HH.out.2.1, HH.out.2.2⟩, ?_⟩
            simp [intOf]; omega
          by_cases t1 : K.tmod 3 = 1
          · have T0 : (K.tmod 3 == 0) = false := by simp [t0]
            have T1 : (K.tmod 3 == 1) = true := by simp [t1]
            have S1 : Hid (wl A (j + 1) = wl A j ++ (bitsOf (cnt N) V).reverse) := by rw [Hid, ST.out]; unfold wAct; rw [if_neg t0, if_pos t1]
            clear t0 t1
            obtain ⟨P, hP⟩ : ∃ P : Int, (2 : Int) ^ n = P := ⟨_, rfl⟩
            have pw := pow_in n hn2
            have m1 := i64_mask V n (by omega)
            have m0 := num_bitsOf n V
            rw [hP] at pw m1 m0
            obtain ⟨M, hM⟩ : ∃ M, V % P = M := ⟨_, rfl⟩
            rw [hM] at m1 m0
            have M0 := Lib.hid m0
            have k1 : IntKind.i64.wrap P = P := IntWalk.i64_in _ (by omega)
            have k2 : IntKind.i64.wrap (P - 1) = P - 1 := IntWalk.i64_in _ (by omega)
            clear m0 hM
            obtain ⟨y, hy⟩ : ∃ y, (bitsOf (cnt N) V).reverse = y := ⟨_, rfl⟩
            have hyl : y.length = n := by rw [← hy, List.length_reverse, bitsOf_length, HN.out]
            have hyb : (big y : Int) = M := by rw [← hy]; unfold big; rw [List.reverse_reverse, HN.out]; exact M0.out
            rw [hy] at S1
            have YB := Lib.hid hyb
            have YL := Lib.hid hyl
            clear hy hyb hyl
            go_wp2_with fail
            clear d0 d1 d2 d3 hmx hmn
            generalize wr.alloc (.cells #[.int .i64 K, .int .i64 N, .int .i64 V, .string S] 31) = w6 at *
            generalize wr.heap.size = Bl at *
            go_loopw [15, 16] (fun cd i ws => ∃ q : Nat, q ≤ n ∧ i = .int .i64 q ∧ cd = .int .i64 (big (y.take q) : Nat) ∧ RdAt 62 ws B4 t ((wl A j).length + q) false ∧ ws.heap[Bl]? = some (.cells #[.int .i64 K, .int .i64 N, .int .i64 V, .string S] 31 (0, 0)) ∧ WrAt ws B u (wl A k) ∧ Below w.heap.size w ws) (fun _ i _ => n - (intOf i).toNat)
            case atStart => exact ⟨0, Nat.zero_le _, rfl, rfl, r6, a6, h6, bl6⟩
            case round =>
              clear r6 a6 h6 bl6
              obtain ⟨q, hq, rfl, rfl, r7, a7, h7, bl7⟩ := hrel
              have hlq : (y.take q).length = q := by rw [List.length_take, YL.out]; omega
              have hbq := big_lt (y.take q)
              rw [hlq] at hbq
              have hbq2 : (2 : Nat) ^ q ≤ 2 ^ 32 := Nat.pow_le_pow_right (by decide) (by omega)
              by_cases hltq : q < n
              · obtain ⟨bb, hbb⟩ : ∃ bb, y[q]'(by rw [YL.out]; exact hltq) = bb := ⟨_, rfl⟩
                have hsn : y.take (q + 1) = y.take q ++ [bb] := by rw [List.take_succ_eq_append_getElem (by rw [YL.out]; exact hltq), hbb]
                have hbs : big (y.take (q + 1)) = big (y.take q) * 2 + bb.toNat := by rw [hsn, big_snoc]
                have hsplit : wl A k = (wl A j ++ y.take q) ++ [bb] ++ (y.drop (q + 1) ++ rr) := by
                  rw [RR.out, S1.out]
                  have : y = y.take q ++ [bb] ++ y.drop (q + 1) := by rw [← hsn, List.take_append_drop]
                  conv => lhs; rw [this]
                  simp [List.append_assoc]
                have hp := txt_part (wl A j ++ y.take q) [bb] (y.drop (q + 1) ++ rr) tail
                rw [← hsplit, TT.out, List.length_append, hlq] at hp
                have hpl : (wl A j).length + q ≤ (tb t).length := by
                  have := congrArg List.length hsplit
                  simp only [List.length_append, hlq, List.length_singleton] at this
                  omega
                have hb1 : num [bb] = bb.toNat := by simp [num]
                have hcn : cnt 1 = [bb].length := rfl
                have PP := Lib.hid hp
                have HBS := Lib.hid hbs
                have HB1 := Lib.hid hb1
                have HCN := Lib.hid hcn
                clear hbb hsn hbs hsplit hp hb1 hcn hlq
                generalize big (y.take q) = g at *
                have b1 : (bb.toNat : Int) ≤ 1 := by cases bb <;> simp
                have b0 : (0 : Int) ≤ (bb.toNat : Int) := by omega
                have g1 : (g : Int) ≤ 4294967296 := by omega
                go_wp2_with fail
                refine (rbits_any B4 t _ false _ _ r7 hpl (by omega)).mono ?_
                rintro r w8 ⟨rfl, r8, g8⟩
                rw [HCN.out] at r8 ⊢
                rw [PP.out.2.1, HB1.out]
                rw [PP.out.1, PP.out.2.2] at r8
                have h8 := WrRaw.underGrow h7 g8 l4 o4
                have bl8 := below_grow bl7 hB g8 z4
                have a8 : w8.heap[Bl]? = some (.cells #[.int .i64 K, .int .i64 N, .int .i64 V, .string S] 31 (0, 0)) := by
                  rw [g8.block Bl (Array.getElem?_eq_some_iff.1 a7).1 (by simp; omega)]; exact a7
                have HH := Lib.hid (And.intro (show RdAt _ w8 B4 t ((wl A j).length + (q + 1)) false from r8) (And.intro a8 (And.intro h8 bl8)))
                clear r7 a7 h7 bl7 r8 g8 h8 bl8 a8 k1 k2 m1
                go_wp2_with fail
                refine ⟨⟨q + 1, by omega, by go_num, ?_, HH.out.1, HH.out.2.1, HH.out.2.2.1, HH.out.2.2.2⟩, ?_⟩
                · rw [HBS.out]; go_num
                · simp [intOf]; omega
              · obtain rfl : q = n := by omega
                have hfull : y.take q = y := List.take_of_length_le (by rw [YL.out]; omega)
                rw [hfull, YB.out]
                have e2 : wr.cell? ⟨Bl, 2, none⟩ = some (.int .i64 V) := by rw [cell_of_row wr _ 2 _ _ _ a7]; rfl
                have HH := Lib.hid (And.intro (show RdAt _ wr B4 t (wl A (j + 1)).length false from by rw [S1.out, List.length_append, YL.out]; exact r7) (And.intro h7 bl7))
                clear r7 h7 bl7 a7 hlq hbq hbq2 hfull
                go_wp2_with fail
                go_quiet (fail)
                have HH2 := Lib.hid (And.intro (show RdAt _ (wr.drewN nq) B4 t (wl A (j + 1)).length false from HH.out.1) (And.intro (HH.out.2.1.draws nq) (below_draws HH.out.2.2 nq)))
                generalize wr.drewN nq = w9 at *
                clear HH e2 k1 k2 m1
                go_wp2_with fail
                refine ⟨⟨j + 1, by omega, by go_num, HH2.out.1, HH2.out.2.1, HH2.out.2.2⟩, ?_⟩
                simp [intOf]; omega
          by_cases t2 : K.tmod 3 = 2
          · have T0 : (K.tmod 3 == 0) = false := by simp [t0]
            have T1 : (K.tmod 3 == 1) = false := by simp [t1]
            have T2 : (K.tmod 3 == 2) = true := by simp [t2]
            have S1 : Hid (wl A (j + 1) = pad (wl A j) ++ tbits S.data.toList) := by rw [Hid, ST.out]; unfold wAct; rw [if_neg t0, if_neg t1, if_pos t2]
            clear t0 t1 t2
            have hd : t.data.toList = pack (wl A j) ++ (S.data.toList ++ (pack rr ++ tail.data.toList)) := by
              rw [← TT.out, txt_data, RR.out, S1.out]
              rw [pack_append ((pad (wl A j) ++ tbits S.data.toList).length / 8) _ _ (by rw [List.length_append, tbits_length]; have := pad_mod (wl A j); omega)]
              rw [pack_append ((pad (wl A j)).length / 8) _ _ (by have := pad_mod (wl A j); omega), pack_pad, pack_tbits]
              simp [List.append_assoc]
            have hp := txt_bytes (wl A j) S t _ hd
            have PP := Lib.hid hp
            clear hp hd
            go_wp2_with fail
            clear d0 d1 d2 d3 hmx hmn
            generalize wr.alloc (.cells #[.int .i64 K, .int .i64 N, .int .i64 V, .string S] 31) = w6 at *
            have e2 : w6.cell? ⟨wr.heap.size, 3, none⟩ = some (.string S) := by rw [cell_of_row w6 _ 3 _ _ _ a6]; rfl
            generalize wr.heap.size = Bl at *
            go_region_held3 (fun w' => w'.cell? ⟨Bl, 3, none⟩ = some (.string S)) (first | exact e2 | exact hk7)
              (first
                | (go_at_call 27; refine (rbytes_any B4 t (wl A j).length false _ _ (show RdAt _ w6.drew _ _ _ _ from r6) hpi (by omega)).mono ?_; rintro r w7 ⟨rfl, r7, g7⟩; rw [PP.out.2.1]; rw [PP.out.1, PP.out.2.2] at r7; have g7' : w6.grownBy w7 (some B4) := ⟨g7.os, g7.tape, g7.output, g7.size, g7.block⟩; have hk7 : w7.cell? ⟨Bl, 3, none⟩ = some (.string S) := (World.cell?_of_block (w := w6) (w' := w7) (a := ⟨Bl, 3, none⟩) (g7'.block Bl e0 (by simp; omega))).trans e2))
            have h7 := WrRaw.underGrow h6 g7' l4 o4
            have bl7 := below_grow bl6 hB g7' z4
            have HH := Lib.hid (And.intro (show RdAt _ w7 B4 t (wl A (j + 1)).length false from by rw [S1.out]; rw [List.length_append, tbits_length]; simpa using r7) (And.intro h7 bl7))
            clear r6 h6 bl6 r7 g7 g7' hk7 h7 bl7 a6 e2
            go_wp2_with fail
            refine ⟨⟨j + 1, by omega, by go_num, HH.out.1, HH.out.2.1, HH.out.2.2⟩, ?_⟩
            simp [intOf]; omega
          · have T0 : (K.tmod 3 == 0) = false := by simp [t0]
            have T1 : (K.tmod 3 == 1) = false := by simp [t1]
            have T2 : (K.tmod 3 == 2) = false := by simp [t2]
            have S1 : Hid (wl A (j + 1) = wl A j) := by rw [Hid, ST.out]; unfold wAct; rw [if_neg t0, if_neg t1, if_neg t2]
            clear t0 t1 t2
            have HH := Lib.hid (And.intro (show RdAt _ _ B4 t (wl A (j + 1)).length false from by rw [S1.out]; exact r6) (And.intro h6 bl6))
            clear r6 h6 bl6 a6 e0
            go_wp2_with fail
            refine ⟨⟨j + 1, by omega, by go_num, HH.out.1, HH.out.2.1, HH.out.2.2⟩, ?_⟩
            simp [intOf]; omega
        · obtain rfl : j = k := by omega
          have hd : t.data.toList = pack (wl A j) ++ (tail.data.toList ++ []) := by rw [← TT.out, txt_data]; simp
          have hp := txt_bytes (wl A j) tail t _ hd
          have hfin : (tb t).length - ((pad (wl A j)).length + 8 * tail.size) = 0 := by rw [tb_length, ← TT.out, txt_size, pad_length]; unfold fre; omega
          have hle : (pad (wl A j)).length + 8 * tail.size ≤ (tb t).length := by rw [tb_length, ← TT.out, txt_size, pad_length]; unfold fre; omega
          have PP := Lib.hid hp
          have HF := Lib.hid hfin
          clear hd hp hfin hlt hj
          go_wp2_with fail
          refine (rat_any _ _ _ _ _ r5).mono ?_
          rintro r w6 ⟨rfl, rfl⟩
          go_wp2_with fail
          refine (wlen_any _ _ (wl A j) _ h5 (by omega)).mono ?_
          rintro r w6 ⟨rfl, nd, rfl⟩
          have bl6 := below_draws bl5 nd
          have r6 : RdAt 62 (wr.drewN nd) B4 t (wl A j).length false := r5
          clear h5 bl5 r5
          generalize wr.drewN nd = w6 at *
          go_wp2_with fail
          refine (rerr_any _ _ _ _ _ r6).mono ?_
          rintro r w7 ⟨rfl, rfl⟩
          go_wp2_with fail
          refine (rbytes_any B4 t _ false _ _ r6 htl (by omega)).mono ?_
          rintro r w7 ⟨rfl, r7, g7⟩
          rw [PP.out.2.1]
          rw [PP.out.1, PP.out.2.2] at r7
          have bl7 := below_grow bl6 hB g7 z4
          clear r6 bl6 g7
          go_wp2_with fail
          refine (rleft_any _ _ _ _ _ (show RdAt _ w7 _ _ _ false from r7) hle (by omega)).mono ?_
          rintro r w8 ⟨rfl, n8, rfl⟩
          rw [HF.out]
          have BL := Lib.hid (below_draws bl7 n8)
          clear bl7 r7
          go_wp2_with fail
          go_ret
          exact ⟨rfl, BL.out⟩

theorem walk (a : Option Addr) (len cap : Nat) (A : Nat → Act4) (tail : ByteArray) (w : World) (hA : IsActs w a len A) (ht : tail.size ≤ maxLen) :
    Calls Try.prog 5 #[.slice a len cap, .string tail] w fun e w' => e = .returned (.bool true) ∧ Below w.heap.size w w' := by
  by_cases hg : overB len A = true ∨ 60 < tail.size
  · exact early a len cap A tail w hA ht hg
  · exact main a len cap A tail w hA (by cases ho : overB len A with | true => exact absurd (.inl ho) hg | false => rfl) (by omega)

set_option maxRecDepth 100000 in
theorem lifted (os : Os) (started : os.Started) (H : Type) (enc : TypeId × Value → H) :
    ReturnsInHanded {} Try.checked os 5 .any (Rows.bitioBackSpec.pre6 enc Try.prog Try.f5 Rows.bitioBackRow.domain false) (Rows.bitioBackSpec.post enc Try.prog Try.f5 false true false false) := by
  refine returnsInHanded_of_change (C := Try.checked) own started (by kernel_rfl) Try.func5
    (ChangeSpec.witness6 (enc := enc) (C := Try.checked) false ⟨#[], #[.slice none 0 0, .string ByteArray.empty], []⟩ 8 (by kernel_rfl) (by kernel_rfl) (by kernel_rfl) (by kernel_rfl)) ?_
  intro W base args ds gs before hval0 hW hcnd _
  have hval : ∀ (j : Nat) t v, Try.f5.params[j]? = some t → args[j]? = some v → Value.okWide Try.prog W .any base t v := hval0
  have hW' := hW
  obtain ⟨p, q, hA0, hV, rfl, hfz, hnd⟩ := hW
  have hA : DataW.TrodAll enc Try.prog W 0 (fun _ => true) true Try.f5.params.toList args.toList ds p := hA0
  rw [Try.params5] at hA hval
  obtain ⟨v0, vs0, d0, ds0, p0, q0, hargs, rfl, rfl, h0, r0⟩ := trodAll_cons hA
  obtain ⟨v1, vs1, d1, ds1, p1, q1, rfl, rfl, rfl, h1, r1⟩ := trodAll_cons r0
  obtain ⟨rfl, rfl, rfl⟩ := trodAll_nil r1
  obtain rfl : args = #[v0, v1] := by cases args; simp_all
  obtain ⟨rfl, rfl⟩ := trodVars_none hV
  have k0 := h0
  have lt0 : ∀ x ∈ p0, x.block < W.heap.size := by obtain ⟨m, hm⟩ := k0; exact DataW.trod_lt m _ _ _ hm
  obtain ⟨a0, len0, cap0, rfl⟩ := okWide_slice Try.underlying22 (hval 0 22 v0 rfl rfl)
  obtain ⟨A0, w0⟩ := acts_view h0
  have k1 := h1
  have lt1 : ∀ x ∈ p1, x.block < W.heap.size := by obtain ⟨m, hm⟩ := k1; exact DataW.trod_lt m _ _ _ hm
  obtain ⟨a1, rfl, rfl, rfl, w1⟩ := open_string Try.underlying9 (hval 1 9 v1 rfl rfl) h1
  clear hA0 hval0
  refine (walk a0 len0 cap0 A0 a1 W w0 w1).mono fun e W' ⟨he, bel⟩ => ?_
  subst he
  exact ⟨_, rfl, _, _, _, [], _, [], hW', trodAll_mk1 (shut_bool Try.underlying4 _), (trodAll_cons_mk (Below.trod laidOut (by kernel_rfl) (of_decide_eq_true (by kernel_rfl)) k0 bel lt0) (trodAll_cons_mk (Below.trod laidOut (by kernel_rfl) (of_decide_eq_true (by kernel_rfl)) k1 bel lt1) trodAll_mk0)), rfl, bel.frame _, fun h => by cases h⟩

theorem over : Rows.bitioBackRow.holds Try.pinned (OpenSpec.ofChange Rows.bitioBackSpec) :=
  OpenClaim.holds_of_wide 5 Try.f5 rfl rfl rfl rfl rfl rfl rfl ⟨rfl, rfl, rfl, rfl, rfl⟩ rfl rfl rfl rfl rfl (by kernel_rfl) Try.func5 (by kernel_rfl)
    (of_decide_eq_true (by kernel_rfl)) (by unfold Func.isWrapper; first | (rw [if_pos (by decide +kernel)]; kernel_rfl) | (rw [if_neg (by decide +kernel)]; exact ⟨rfl, rfl⟩))
    (fun os started H enc _ => lifted os started H enc)

theorem proved : Rows.BitioBackSaid := over
end Go.Proofs.Ytdgoaccnjlkdcaa.bitioBack
