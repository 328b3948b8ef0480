/-
  RreOne (layer 17): of one value there is no piece; with one place of another value there is one, of that place.
-/
import Derived.Test.YtmjjbapahgejmaaRows
import Derived.Test.YtmjjbapahgejmaaRreProg
import Derived.Test.YtmjjbapahgejmaaRreWks
import Derived.Test.YtmjjbapahgejmaaRreRefF
import Derived.Test.YtmjjbapahgejmaaRreFew
import Derived.WalkKit
import Derived.ProofKit
import Derived.OpenShut
import Derived.ShutString
import Derived.ChangeOld
import Derived.Below
import Derived.Lib.SmallJoins
import Derived.Deep.Slices
namespace Go.Proofs.Ytmjjbapahgejmaa.rreOne
open Go.Proofs.Ytmjjbapahgejmaa.Rre
open Go.ChangeShapes Go.WideShapes Go.ChangeAt Go.RowKit
open Go.ChangeMaps (open_string shut_string)
set_option linter.unusedVariables false

theorem own : ownKnob Try.prog.godebug = none := by kernel_rfl
theorem laidOut : laidOutB Try.prog = true := by kernel_rfl

open Go.Proofs.Ytmjjbapahgejmaa.RowG Go.Proofs.Ytmjjbapahgejmaa.RegVal Go.Proofs.Ytmjjbapahgejmaa.Lz Go.Proofs.Ytmjjbapahgejmaa.Pln
set_option maxRecDepth 100000
theorem px_put {l : List Int} {k j : Nat} {v : Int} (h : k < l.length) : px (l.set k v) j = if k = j then v else px l j := by
  unfold px
  rw [List.getD_eq_getElem?_getD, List.getElem?_set]
  split
  · first | rfl | (rw [if_pos (by omega)]; rfl)
  · rw [List.getD_eq_getElem?_getD]
theorem fits_pl {A B : Nat} {L : List Int} {g : Int} (hA : A ≤ 4096) (hB : B ≤ 4096) (h : L.length = A * B) : piecesL A B L g = piecesN A B L g := by
  unfold piecesL
  have h9 : ((A * B : Nat) : Int) = (L.length : Int) := by rw [h]
  rw [Int.natCast_mul] at h9
  rw [if_neg (by omega)]
  rfl
/-- The row, and the row with one other value. -/
theorem one_facts {A B X Y N : Nat} {a b : Int} (hN : A * B = N) (h3 : 3 ≤ N) (hA : A ≤ 4096) (hB : B ≤ 4096) (hX : X < A) (hY : Y < B) :
    groundL (gen N (fun _ => a)) = a ∧ piecesL A B (gen N (fun _ => a)) a = [] ∧ groundL ((gen N (fun _ => a)).set (Y * A + X) b) = a ∧ piecesL A B ((gen N (fun _ => a)).set (Y * A + X) b) a = if a = b then [] else [⟨b, X, Y, 1, 1⟩] := by
  have hl : (gen N (fun _ => a)).length = N := gen_length _ _
  have hall : ∀ i, i < (gen N (fun _ => a)).length → px (gen N (fun _ => a)) i = a := fun i hi => px_gen (by rwa [hl] at hi)
  have hq : Y * A + X < N := by rw [← hN]; exact at_lt hX hY
  have hl2 : ((gen N (fun _ => a)).set (Y * A + X) b).length = N := by rw [List.length_set, hl]
  have e1 := ground_all (by omega) hall
  have e2 := pieces_none (w := A) (h := B) (by rw [hl, hN]) hall
  refine ⟨e1, by rw [fits_pl hA hB (by rw [hl, hN])]; exact e2, ?_⟩
  rw [fits_pl hA hB (by rw [hl2, hN])]
  have hb : px ((gen N (fun _ => a)).set (Y * A + X) b) (Y * A + X) = b := by rw [px_put (by omega), if_pos rfl]
  have ho : ∀ i, i < ((gen N (fun _ => a)).set (Y * A + X) b).length → i ≠ Y * A + X → px ((gen N (fun _ => a)).set (Y * A + X) b) i = a := fun i hi hne => by
    rw [px_put (by omega), if_neg (Ne.symm hne)]
    exact hall i (by omega)
  refine ⟨ground_but (by omega) (by omega) hb ho, ?_⟩
  by_cases hab : a = b
  · rw [if_pos hab]
    refine pieces_none (by rw [hl2, hN]) (fun i hi => ?_)
    by_cases hi2 : i = Y * A + X
    · rw [hi2, hb, hab]
    · exact ho i hi hi2
  · rw [if_neg hab]
    exact pieces_one (by rw [hl2, hN]) (Ne.symm hab) hX hY hb ho
set_option maxHeartbeats 4000000 in
theorem walk (D : Says) (a0 a1 a b a4 a5 : Int) (W : World) (w0 : (Lit.int .i64 a0).wf = true) (w1 : (Lit.int .i64 a1).wf = true) (w2 : (Lit.int .i64 a).wf = true) (w3 : (Lit.int .i64 b).wf = true) (w4 : (Lit.int .i64 a4).wf = true) (w5 : (Lit.int .i64 a5).wf = true) :
    Calls Try.prog 8 #[.int .i64 a0, .int .i64 a1, .int .i64 a, .int .i64 b, .int .i64 a4, .int .i64 a5] W fun e w' => e = .returned (.bool true) ∧ Below W.heap.size W w' := by
  have V0 := Lib.hid (works_any D W)
  have hs0 : Side a0 := wf_bd w0
  have hs1 : Side a1 := wf_bd w1
  have hsa : Side a := wf_bd w2
  have hs4 : Side a4 := wf_bd w4
  have hs5 : Side a5 := wf_bd w5
  have FW := Lib.hid (fun w => few_any a0 a1 w)
  have WA := Lib.hid w2
  have WB := Lib.hid w3
  have VP := Lib.hid (fun L v w (hw : Wfs L) (hl : L.length ≤ 1000) (h : SW w v L) => D.pieces a0 a1 L v a hs0 hs1 hsa hw hl w h)
  have VG := Lib.hid (fun L v w (hw : Wfs L) (hl : L.length ≤ 1000) (h : SW w v L) => D.ground L v hw hl w h)
  clear w0 w1 w2 w3 w4 w5 hsa
  go_enter Try.func8, Try.ntmps8
  go_wp2_with fail
  refine V0.out.mono ?_
  rintro r w1 ⟨rfl, b1⟩
  have HB1 := Lib.hid b1
  clear b1
  unfold Side at hs0 hs1 hs4 hs5
  by_cases h0 : a0 < 1
  case pos =>
    have d1 : decide (a0 < 1) = true := decide_eq_true h0
    clear V0
    go_wp2_with fail
    go_ret
    exact ⟨rfl, HB1.out⟩
  have e0 : decide (a0 < 1) = false := decide_eq_false h0
  by_cases h1 : a1 < 1
  case pos =>
    have d1 : decide (a1 < 1) = true := decide_eq_true h1
    clear V0
    go_wp2_with fail
    go_ret
    exact ⟨rfl, HB1.out⟩
  have e1 : decide (a1 < 1) = false := decide_eq_false h1
  clear V0
  cases hfew : fewB a0 a1 with
  | false =>
    rw [hfew] at FW
    go_wp2_with fail
    refine (FW.out _).mono ?_
    rintro r w2 ⟨rfl, rfl⟩
    go_wp2_with fail
    go_ret
    exact ⟨rfl, HB1.out⟩
  | true =>
  rw [hfew] at FW
  obtain ⟨f0, f1, f2, f3, f4⟩ := few_iff.1 hfew
  obtain ⟨A, rfl⟩ : ∃ A : Nat, a0 = A := ⟨a0.toNat, by omega⟩
  obtain ⟨B, rfl⟩ : ∃ B : Nat, a1 = B := ⟨a1.toNat, by omega⟩
  obtain ⟨N, hN⟩ : ∃ N, A * B = N := ⟨_, rfl⟩
  have hN' : (A : Int) * B = (N : Int) := by rw [← hN, Int.natCast_mul]
  rw [hN'] at f4
  have t0 : IntKind.i64.wrap ((A : Int) * B) = (N : Int) := by rw [hN']; exact IntWalk.i64_in _ (by omega)
  have HN := Lib.hid hN
  clear hN hN'
  by_cases h2 : N < 3
  case pos =>
    have d1 : decide ((N : Int) < 3) = true := decide_eq_true (by omega)
    have d2 : decide (N < 3) = true := decide_eq_true h2
    go_wp2_with fail
    refine (FW.out _).mono ?_
    rintro r w2 ⟨rfl, rfl⟩
    go_wp2_with fail
    go_ret
    exact ⟨rfl, HB1.out⟩
  have e2 : decide ((N : Int) < 3) = false := decide_eq_false (by omega)
  have e22 : decide (N < 3) = false := decide_eq_false h2
  by_cases h4 : a4 < 0
  case pos =>
    have d1 : decide (a4 < 0) = true := decide_eq_true h4
    go_wp2_with fail
    refine (FW.out _).mono ?_
    rintro r w2 ⟨rfl, rfl⟩
    go_wp2_with fail
    go_ret
    exact ⟨rfl, HB1.out⟩
  have e3 : decide (a4 < 0) = false := decide_eq_false h4
  by_cases h5 : a5 < 0
  case pos =>
    have d1 : decide (a5 < 0) = true := decide_eq_true h5
    go_wp2_with fail
    refine (FW.out _).mono ?_
    rintro r w2 ⟨rfl, rfl⟩
    go_wp2_with fail
    go_ret
    exact ⟨rfl, HB1.out⟩
  have e4 : decide (a5 < 0) = false := decide_eq_false h5
  obtain ⟨X, rfl⟩ : ∃ X : Nat, a4 = X := ⟨a4.toNat, by omega⟩
  obtain ⟨Y, rfl⟩ : ∃ Y : Nat, a5 = Y := ⟨a5.toNat, by omega⟩
  by_cases h6 : A ≤ X
  case pos =>
    have d1 : decide ((A : Int) ≤ (X : Int)) = true := decide_eq_true (by omega)
    have d2 : decide (A ≤ X) = true := decide_eq_true h6
    go_wp2_with fail
    refine (FW.out _).mono ?_
    rintro r w2 ⟨rfl, rfl⟩
    go_wp2_with fail
    go_ret
    exact ⟨rfl, HB1.out⟩
  have e5 : decide ((A : Int) ≤ (X : Int)) = false := decide_eq_false (by omega)
  have e6 : decide (A ≤ X) = false := decide_eq_false h6
  by_cases h7 : B ≤ Y
  case pos =>
    have d1 : decide ((B : Int) ≤ (Y : Int)) = true := decide_eq_true (by omega)
    have d2 : decide (B ≤ Y) = true := decide_eq_true h7
    go_wp2_with fail
    refine (FW.out _).mono ?_
    rintro r w2 ⟨rfl, rfl⟩
    go_wp2_with fail
    go_ret
    exact ⟨rfl, HB1.out⟩
  have e7 : decide ((B : Int) ≤ (Y : Int)) = false := decide_eq_false (by omega)
  have e8 : decide (B ≤ Y) = false := decide_eq_false h7
  have hX : X < A := by omega
  have hY : Y < B := by omega
  obtain ⟨g1, g2, g3, g4⟩ := one_facts (a := a) (b := b) HN.out (by omega) (by omega) (by omega) hX hY
  have hq : Y * A + X < N := by rw [← HN.out]; exact at_lt hX hY
  obtain ⟨M, hM⟩ : ∃ M, Y * A = M := ⟨_, rfl⟩
  obtain ⟨Q, hQ⟩ : ∃ Q, M + X = Q := ⟨_, rfl⟩
  rw [hM, hQ] at hq g3 g4
  have t1 : IntKind.i64.wrap ((Y : Int) * A) = (M : Nat) := by rw [← Int.natCast_mul, hM]; exact IntWalk.i64_in _ (by omega)
  have t2 : IntKind.i64.wrap ((M : Int) + (X : Int)) = (Q : Nat) := by rw [← Int.natCast_add, hQ]; exact IntWalk.i64_in _ (by omega)
  have hl0 : (gen N (fun _ => a)).length = N := gen_length _ _
  have hwf0 : Wfs (gen N (fun _ => a)) := fun c hc => by
    unfold gen at hc
    obtain ⟨_, _, rfl⟩ := List.mem_map.1 hc
    exact WA.out
  have hwf1 : Wfs ((gen N (fun _ => a)).set Q b) := fun c hc => by
    rcases List.mem_or_eq_of_mem_set hc with h | h
    · exact hwf0 c h
    · rw [h]; exact WB.out
  have VP0 := Lib.hid (fun v w h => VP.out (gen N (fun _ => a)) v w hwf0 (by omega) h)
  have VG0 := Lib.hid (fun v w h => VG.out (gen N (fun _ => a)) v w hwf0 (by omega) h)
  have VP1 := Lib.hid (fun v w h => VP.out ((gen N (fun _ => a)).set Q b) v w hwf1 (by rw [List.length_set]; omega) h)
  have VG1 := Lib.hid (fun v w h => VG.out ((gen N (fun _ => a)).set Q b) v w hwf1 (by rw [List.length_set]; omega) h)
  rw [g2] at VP0
  rw [g1] at VG0
  rw [g4] at VP1
  rw [g3] at VG1
  have HL0 := Lib.hid hl0
  have HGS : RowKit.Hid (∀ k, gen (k + 1) (fun _ => a) = gen k (fun _ => a) ++ [a]) := Lib.hid (fun k => gen_succ k _)
  have HGL : RowKit.Hid (∀ k, (gen k (fun _ => a)).length = k) := Lib.hid (fun k => gen_length k _)
  have hX200 : X ≤ 200 := by omega
  have hY200 : Y ≤ 200 := by omega
  have hN200 : N ≤ 200 := by omega
  have HQ1 := Lib.hid hq
  clear VP VG g1 g2 g3 g4 hM hQ hfew hwf0 hwf1 hl0 hs0 hs1 hs4 hs5 h0 h1 WA WB
  go_wp2_with fail
  refine (FW.out _).mono ?_
  rintro r w2 ⟨rfl, rfl⟩
  go_wp2_with fail
  obtain ⟨C, hC⟩ : ∃ C, w1.heap.size = C := ⟨_, rfl⟩
  have HCC := Lib.hid hC
  clear hC FW
  go_loopw [14, 15] (fun vv vi wr => ∃ k : Nat, k ≤ N ∧ vi = .int .i64 k ∧ IntsAt C wr vv (gen k (fun _ => a)) ∧ Below C w1 wr) (fun _ vi _ => N - (intOf vi).toNat)
  case atStart => exact ⟨0, Nat.zero_le _, rfl, RowAt.nil _ _ _ _, Below.refl _ _⟩
  case round =>
    obtain ⟨k, hk, rfl, hI, hbr⟩ := hrel
    have HI := Lib.hid hI
    have HBR := Lib.hid hbr
    have hCr : C ≤ wr.heap.size := by have := hbr.size; rw [HCC.out] at this; exact this
    by_cases hlk : k < N
    · have dk : decide ((k : Int) < (N : Int)) = true := decide_eq_true (by omega)
      obtain ⟨va, vc, rfl⟩ := RowAt.shape hI
      have hgl := HGL.out k
      have HGSK := Lib.hid (HGS.out k)
      obtain ⟨L0, hL0⟩ : ∃ L0, gen k (fun _ => a) = L0 := ⟨_, rfl⟩
      rw [hL0] at HI hgl HGSK ⊢
      have hIL : IntsAt C wr (.slice va k vc) L0 := by have h := HI.out; rw [hgl] at h; exact h
      have HIL := Lib.hid hIL
      have HLL : RowKit.Hid (L0.length ≤ 1000000000) := Lib.hid (by omega)
      rw [hgl]
      clear hI hbr hIL hgl hL0
      go_wp2_with (at_builtin; refine wpl_int rfl _ _ rfl (.slice va k vc) C L0 rfl HIL.out hCr HLL.out a _ rfl ?_; intro vz wz hz1 hz2; have HZ1 := Lib.hid hz1; have HZ2 := Lib.hid hz2; clear hz1 hz2)
      exact ⟨⟨k + 1, by omega, by go_num, by rw [HGSK.out]; exact HZ1.out, HBR.out.trans HZ2.out⟩, by simp [intOf]; omega⟩
    · obtain rfl : k = N := by omega
      have dk : decide ((k : Int) < (k : Int)) = false := decide_eq_false (by omega)
      obtain ⟨va, vc, rfl⟩ := RowAt.shape hI
      have hI0 := hI
      have hgl := HGL.out k
      obtain ⟨va0, hva0, _⟩ := intsR_some (B := C) (w := wr) (a := va) (cap := vc) hgl (by have h := HI.out; rw [hgl] at h; exact h) (by omega)
      subst hva0
      have HI0 : RowKit.Hid (IntsAt C wr (.slice (some ⟨va0, 0, none⟩) k vc) (gen k (fun _ => a))) := Lib.hid (by have h := HI.out; rw [hgl] at h; exact h)
      rw [hgl]
      clear hI hI0 hbr HI HGS
      go_wp2_with fail
      refine (VP0.out _ _ (IntsAt.si HI0.out).sw).mono ?_
      rintro r w3 ⟨u, rfl, hu, b3⟩
      obtain ⟨ua, uc, rfl, _⟩ := SP.cells hu
      have HI3 := Lib.hid (RowAt.below HI0.out b3)
      have HB3 := Lib.hid (HBR.out.trans (b3.mono hCr))
      have hC3 : C ≤ w3.heap.size := by have := HB3.out.size; rw [HCC.out] at this; exact this
      clear hu b3 HI0 VP0
      dsimp only [List.length_nil]
      have z1 : decide (a = a) = true := decide_eq_true rfl
      have z2 : (a != a) = false := by simp
      go_wp2_with fail
      refine (VG0.out _ _ (IntsAt.si HI3.out).sw).mono ?_
      rintro r w4 ⟨rfl, b4⟩
      have hI4 := RowAt.below HI3.out b4
      have HB4 := Lib.hid (HB3.out.trans (b4.mono hC3))
      have hC4 : C ≤ w4.heap.size := by have := HB4.out.size; rw [HCC.out] at this; exact this
      obtain ⟨gg, hgg, hCg, _, hcl, hfr⟩ := intsR_some hgl hI4 (by omega)
      simp only [Option.some.injEq, Addr.mk.injEq, and_true] at hgg
      obtain rfl := hgg
      have q0 := hcl Q HQ1.out
      have f0 := hfr Q
      have HI5 := Lib.hid (intsR_put hgl hI4 HQ1.out b)
      have HB5 := Lib.hid (belowR_set HB4.out hCg Q (.int .i64 b))
      have hqi : (Q : Int) < (k : Int) := by have := HQ1.out; omega
      have hqn : Q < k := HQ1.out
      generalize px (gen k (fun _ => a)) Q = u0 at *
      clear hI4 b4 hcl hfr HI3 HB3 VG0 HB4
      go_upto_region 15 with fail
      have hC5 : C ≤ (w4.setCell ⟨va0, Q, none⟩ (.int .i64 b)).heap.size := by have := HB5.out.size; rw [HCC.out] at this; exact this
      generalize w4.setCell ⟨va0, Q, none⟩ (.int .i64 b) = w5 at *
      have hgl5 : ((gen k (fun _ => a)).set Q b).length = k := by rw [List.length_set]; exact hgl
      generalize (gen k (fun _ => a)).set Q b = L5 at *
      have HI6 : RowKit.Hid (IntsAt C w5 (.slice (some ⟨va0, 0, none⟩) k vc) L5) := HI5
      clear q0 f0 HI5
      go_wp2_with fail
      refine (VG1.out _ _ (IntsAt.si HI6.out).sw).mono ?_
      rintro r w6 ⟨rfl, b6⟩
      have HI7 := Lib.hid (RowAt.below HI6.out b6)
      have HB6 := Lib.hid (HB5.out.trans (b6.mono hC5))
      have hC6 : C ≤ w6.heap.size := by have := HB6.out.size; rw [HCC.out] at this; exact this
      clear b6 HI6 HB5
      go_wp2_with fail
      refine (VP1.out _ _ (IntsAt.si HI7.out).sw).mono ?_
      rintro r w7 ⟨u, rfl, hu, b7⟩
      have HI8 := Lib.hid (RowAt.below HI7.out b7)
      have HB7 := Lib.hid (HB6.out.trans (b7.mono hC6))
      have hC7 : C ≤ w7.heap.size := by have := HB7.out.size; rw [HCC.out] at this; exact this
      clear b7 HI7 HB6 VP1
      by_cases hab : a = b
      · rw [if_pos hab] at hu
        obtain ⟨ua, uc, rfl, _⟩ := SP.cells hu
        have y1 : decide (a = b) = true := decide_eq_true hab
        clear hu VG1
        dsimp only [List.length_nil]
        go_wp2_with fail
        go_ret
        exact ⟨rfl, HB1.out.trans (HB7.out.mono (by rw [← HCC.out]; exact HB1.out.size))⟩
      · rw [if_neg hab] at hu
        obtain ⟨ua, uc, rfl, huc⟩ := SP.cells hu
        obtain ⟨g, off, rfl, hgl7, hc⟩ := huc (Nat.zero_lt_one)
        have hpc := hc 0 (Nat.zero_lt_one)
        have y1 : decide (a = b) = false := decide_eq_false hab
        have y2 : decide (b = b) = true := decide_eq_true rfl
        have HPC := Lib.hid hpc
        clear hu huc hc hpc
        dsimp only [List.length_cons, List.length_nil]
        go_wp2_with fail
        refine (VG1.out _ _ (IntsAt.si HI8.out).sw).mono ?_
        rintro r w8 ⟨rfl, b8⟩
        have HB8 := Lib.hid (HB7.out.trans (b8.mono hC7))
        obtain ⟨c0, c1, c2, c3, c4⟩ := PcAt.below HPC.out b8 hgl7
        have k0 : w8.cell? ⟨g, off, none⟩ = some (.int .i64 b) := c0
        have k1 : w8.cell? ⟨g, off + 1, none⟩ = some (.int .i64 X) := c1
        have k2 : w8.cell? ⟨g, off + 2, none⟩ = some (.int .i64 Y) := c2
        have k3 : w8.cell? ⟨g, off + 3, none⟩ = some (.int .i64 1) := c3
        have k4 : w8.cell? ⟨g, off + 4, none⟩ = some (.int .i64 1) := c4
        clear b8 c0 c1 c2 c3 c4
        go_wp2_with fail
        go_ret
        exact ⟨rfl, HB1.out.trans (HB8.out.mono (by rw [← HCC.out]; exact HB1.out.size))⟩

set_option maxRecDepth 100000 in
theorem lifted (os : Os) (started : os.Started) (H : Type) (enc : TypeId × Value → H) :
    ReturnsInHanded {} Try.checked os 8 .any (Rows.rreOneSpec.pre6 enc Try.prog Try.f8 Rows.rreOneRow.domain false) (Rows.rreOneSpec.post enc Try.prog Try.f8 false true false false) := by
  refine returnsInHanded_of_change (C := Try.checked) own started (by kernel_rfl) Try.func8
    (ChangeSpec.witness6 (enc := enc) (C := Try.checked) false ⟨#[], #[.int .i64 0, .int .i64 0, .int .i64 0, .int .i64 0, .int .i64 0, .int .i64 0], []⟩ 8 (by kernel_rfl) (by kernel_rfl) (by kernel_rfl) (by kernel_rfl)) ?_
  intro W base args ds gs before hval0 hW hcnd _
  have hval : ∀ (j : Nat) t v, Try.f8.params[j]? = some t → args[j]? = some v → Value.okWide Try.prog W .any base t v := hval0
  have hW' := hW
  obtain ⟨p, q, hA0, hV, rfl, hfz, hnd⟩ := hW
  have hA : DataW.TrodAll enc Try.prog W 0 (fun _ => true) true Try.f8.params.toList args.toList ds p := hA0
  rw [Try.params8] at hA hval
  obtain ⟨v0, vs0, d0, ds0, p0, q0, hargs, rfl, rfl, h0, r0⟩ := trodAll_cons hA
  obtain ⟨v1, vs1, d1, ds1, p1, q1, rfl, rfl, rfl, h1, r1⟩ := trodAll_cons r0
  obtain ⟨v2, vs2, d2, ds2, p2, q2, rfl, rfl, rfl, h2, r2⟩ := trodAll_cons r1
  obtain ⟨v3, vs3, d3, ds3, p3, q3, rfl, rfl, rfl, h3, r3⟩ := trodAll_cons r2
  obtain ⟨v4, vs4, d4, ds4, p4, q4, rfl, rfl, rfl, h4, r4⟩ := trodAll_cons r3
  obtain ⟨v5, vs5, d5, ds5, p5, q5, rfl, rfl, rfl, h5, r5⟩ := trodAll_cons r4
  obtain ⟨rfl, rfl, rfl⟩ := trodAll_nil r5
  obtain rfl : args = #[v0, v1, v2, v3, v4, v5] := by cases args; simp_all
  obtain ⟨rfl, rfl⟩ := trodVars_none hV
  have k0 := h0
  have lt0 : ∀ x ∈ p0, x.block < W.heap.size := by obtain ⟨m, hm⟩ := k0; exact DataW.trod_lt m _ _ _ hm
  obtain ⟨a0, rfl, rfl, rfl, w0⟩ := open_int Try.underlying3 (hval 0 3 v0 rfl rfl) h0
  have k1 := h1
  have lt1 : ∀ x ∈ p1, x.block < W.heap.size := by obtain ⟨m, hm⟩ := k1; exact DataW.trod_lt m _ _ _ hm
  obtain ⟨a1, rfl, rfl, rfl, w1⟩ := open_int Try.underlying3 (hval 1 3 v1 rfl rfl) h1
  have k2 := h2
  have lt2 : ∀ x ∈ p2, x.block < W.heap.size := by obtain ⟨m, hm⟩ := k2; exact DataW.trod_lt m _ _ _ hm
  obtain ⟨a2, rfl, rfl, rfl, w2⟩ := open_int Try.underlying3 (hval 2 3 v2 rfl rfl) h2
  have k3 := h3
  have lt3 : ∀ x ∈ p3, x.block < W.heap.size := by obtain ⟨m, hm⟩ := k3; exact DataW.trod_lt m _ _ _ hm
  obtain ⟨a3, rfl, rfl, rfl, w3⟩ := open_int Try.underlying3 (hval 3 3 v3 rfl rfl) h3
  have k4 := h4
  have lt4 : ∀ x ∈ p4, x.block < W.heap.size := by obtain ⟨m, hm⟩ := k4; exact DataW.trod_lt m _ _ _ hm
  obtain ⟨a4, rfl, rfl, rfl, w4⟩ := open_int Try.underlying3 (hval 4 3 v4 rfl rfl) h4
  have k5 := h5
  have lt5 : ∀ x ∈ p5, x.block < W.heap.size := by obtain ⟨m, hm⟩ := k5; exact DataW.trod_lt m _ _ _ hm
  obtain ⟨a5, rfl, rfl, rfl, w5⟩ := open_int Try.underlying3 (hval 5 3 v5 rfl rfl) h5
  clear hA0 hval0
  refine (walk says a0 a1 a2 a3 a4 a5 W w0 w1 w2 w3 w4 w5).mono fun e W' ⟨he, bel⟩ => ?_
  subst he
  exact ⟨_, rfl, _, _, _, [], _, [], hW', trodAll_mk1 (shut_bool Try.underlying4 _), (trodAll_cons_mk (Below.trod laidOut (by kernel_rfl) (of_decide_eq_true (by kernel_rfl)) k0 bel lt0) (trodAll_cons_mk (Below.trod laidOut (by kernel_rfl) (of_decide_eq_true (by kernel_rfl)) k1 bel lt1) (trodAll_cons_mk (Below.trod laidOut (by kernel_rfl) (of_decide_eq_true (by kernel_rfl)) k2 bel lt2) (trodAll_cons_mk (Below.trod laidOut (by kernel_rfl) (of_decide_eq_true (by kernel_rfl)) k3 bel lt3) (trodAll_cons_mk (Below.trod laidOut (by kernel_rfl) (of_decide_eq_true (by kernel_rfl)) k4 bel lt4) (trodAll_cons_mk (Below.trod laidOut (by kernel_rfl) (of_decide_eq_true (by kernel_rfl)) k5 bel lt5) trodAll_mk0)))))), rfl, bel.frame _, fun h => by cases h⟩

theorem over : Rows.rreOneRow.holds Try.pinned (OpenSpec.ofChange Rows.rreOneSpec) :=
  OpenClaim.holds_of_wide 8 Try.f8 rfl rfl rfl rfl rfl rfl rfl ⟨rfl, rfl, rfl, rfl, rfl⟩ rfl rfl rfl rfl rfl (by kernel_rfl) Try.func8 (by kernel_rfl)
    (of_decide_eq_true (by kernel_rfl)) (by unfold Func.isWrapper; first | (rw [if_pos (by decide +kernel)]; kernel_rfl) | (rw [if_neg (by decide +kernel)]; exact ⟨rfl, rfl⟩))
    (fun os started H enc _ => lifted os started H enc)

theorem proved : Rows.RreOneSaid := over
end Go.Proofs.Ytmjjbapahgejmaa.rreOne
