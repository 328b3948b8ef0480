/-
  DeflateLengths (layer 9): a header of any lengths is read as these lengths by the document's reader, whatever stands ahead; or it is told that there is none, and nothing is written.
-/
import Derived.Test.YtkpieakgpnnonaaGreatRows
import Derived.Test.YtkpieakgpnnonaaGreatDefWorks
import Derived.Test.YtkpieakgpnnonaaGreatDflWhole
import Derived.WalkKit
import Derived.ProofKit
import Derived.OpenShut
import Derived.ShutString
import Derived.ChangeOld
import Derived.Below
import Derived.Lib.SmallJoins
import Derived.Deep.Slices
namespace Go.Proofs.YtkpieakgpnnonaaGreat.deflateLengths
open Go.Proofs.YtkpieakgpnnonaaGreat.Def
open Go.Proofs.YtkpieakgpnnonaaGreat.Dfl
open Go.ChangeShapes Go.WideShapes Go.ChangeAt Go.RowKit
open Go.ChangeMaps (open_string shut_string)
set_option linter.unusedVariables false

theorem own : ownKnob Tryz.prog.godebug = none := by kernel_rfl
theorem laidOut : laidOutB Tryz.prog = true := by kernel_rfl

open Go.Proofs.YtkpieakgpnnonaaGreat.Bit (BlAt From Near But WrAt RfAt wbits_any wlen_any wstring_any text_any of_any all_any rfbits_any rgrown_trans rgrown_drewN bitsOf bitsOf_length cnt cnt_le pack SeesV tb tb_length quiet_w rI rV rOk)
open Go.Proofs.YtkpieakgpnnonaaGreat.Huf (IsInts ints_see nats nats_cast nats_length allIn allIn_iff)
open Go.Proofs.YtkpieakgpnnonaaGreat.Sym
theorem quiet_len {P : Program} {f : FuncId} {args : Array Value} {w : World} {n : Nat} {v : Value} (h : Calls P f args (w.drewN n) fun e w' => e = .returned v ∧ ∃ k, w' = (w.drewN n).drewN k) :
    Calls P f args (w.drewN n) fun e w'' => e = .returned v ∧ ∃ m, w'' = w.drewN m :=
  h.mono fun _ _ ⟨he, k, hk⟩ => ⟨he, n + k, by rw [hk, World.drewN_drewN]⟩
theorem flag_zero (o : Bool) (L : List Int) : (o || !allIn 15 (L.take 0)) = o := by simp [allIn]
theorem all_succ {L : List Int} {j : Nat} (h : j < L.length) : allIn 15 (L.take (j + 1)) = (allIn 15 (L.take j) && (decide (0 ≤ L[j]) && decide (L[j] ≤ 15))) := by
  rw [List.take_succ_eq_append_getElem h]
  unfold allIn
  rw [List.all_append]
  simp
theorem flag_true {o : Bool} {L : List Int} {j : Nat} (h : (o || !allIn 15 (L.take j)) = true) : (o || !allIn 15 (L.take (j + 1))) = true := by
  rcases Nat.lt_or_ge j L.length with hj | hj
  · rw [all_succ hj]
    cases o <;> simp at h ⊢
    rw [h]; simp
  · rw [List.take_of_length_le (by omega)] at h ⊢
    exact h
theorem flag_bad {o : Bool} {L : List Int} {j : Nat} (hj : j < L.length) (h : L[j] < 0 ∨ 15 < L[j]) : (o || !allIn 15 (L.take (j + 1))) = true := by
  rw [all_succ hj]
  have : (decide (0 ≤ L[j]) && decide (L[j] ≤ 15)) = false := by
    rcases h with h | h
    · rw [decide_eq_false (by omega)]; rfl
    · rw [decide_eq_false (p := L[j] ≤ 15) (by omega), Bool.and_false]
  rw [this]; simp
theorem flag_ok {o : Bool} {L : List Int} {j : Nat} (hj : j < L.length) (h : (o || !allIn 15 (L.take j)) = false) (h0 : 0 ≤ L[j]) (h1 : L[j] ≤ 15) : (o || !allIn 15 (L.take (j + 1))) = false := by
  rw [all_succ hj, decide_eq_true h0, decide_eq_true h1]
  simpa using h
def odd0 (n m : Nat) : Bool := (decide (n < 257) || decide (286 < n)) || (decide (m < 1) || decide (30 < m))
theorem odd0_cases (n m : Nat) : (n < 257 ∧ odd0 n m = true) ∨ (257 ≤ n ∧ 286 < n ∧ odd0 n m = true) ∨ (257 ≤ n ∧ n ≤ 286 ∧ m < 1 ∧ odd0 n m = true) ∨ (257 ≤ n ∧ n ≤ 286 ∧ 1 ≤ m ∧ 30 < m ∧ odd0 n m = true) ∨ (257 ≤ n ∧ n ≤ 286 ∧ 1 ≤ m ∧ m ≤ 30 ∧ odd0 n m = false) := by
  unfold odd0
  by_cases h1 : n < 257
  · left; simp [h1]
  by_cases h2 : 286 < n
  · right; left; simp [h2]; omega
  by_cases h3 : m < 1
  · right; right; left; simp [h3]; omega
  by_cases h4 : 30 < m
  · right; right; right; left; simp [h4]; omega
  · right; right; right; right; simp; omega

set_option maxRecDepth 100000 in
set_option maxHeartbeats 8000000 in
theorem early (D : Says) (x : Int) (a1 a2 : Option Addr) (n c1 m c2 : Nat) (W : World) (h : 300 < n ∨ 40 < m) :
    Calls Tryz.prog 4 #[.int .i64 x, .slice a1 n c1, .slice a2 m c2] W fun e w' => e = .returned (.bool true) ∧ Below W.heap.size W w' := by
  by_cases h1 : 300 < n
  · clear h
    have d1 : decide ((300 : Int) < (n : Int)) = true := by simp; omega
    have p1 : (300 : Int) < n := by omega
    go_enter Tryz.func4, Tryz.ntmps4
    go_wp2_with fail
    refine (works_any D _).mono ?_
    rintro r w1 ⟨rfl, b1⟩
    go_wp2_with fail
    all_goals (go_ret; exact ⟨rfl, b1⟩)
  have d1 : decide ((300 : Int) < (n : Int)) = false := by simp; omega
  have p1 : ¬ ((300 : Int) < n) := by omega
  have d2 : decide ((40 : Int) < (m : Int)) = true := by simp; omega
  have p2 : (40 : Int) < m := by omega
  clear h
  go_enter Tryz.func4, Tryz.ntmps4
  go_wp2_with fail
  refine (works_any D _).mono ?_
  rintro r w1 ⟨rfl, b1⟩
  go_wp2_with fail
  all_goals (go_ret; exact ⟨rfl, b1⟩)

set_option maxRecDepth 100000 in
set_option maxHeartbeats 16000000 in
theorem walk (D : Says) (x : Int) (a1 a2 : Option Addr) (n c1 m c2 : Nat) (L M : List Int) (W : World)
    (v0 : L.length = n ∧ n ≤ maxLen ∧ IsInts W a1 L ∧ ∀ x ∈ L, (Lit.int .i64 x).wf = true) (v1 : M.length = m ∧ m ≤ maxLen ∧ IsInts W a2 M ∧ ∀ x ∈ M, (Lit.int .i64 x).wf = true) :
    Calls Tryz.prog 4 #[.int .i64 x, .slice a1 n c1, .slice a2 m c2] W fun e w' => e = .returned (.bool true) ∧ Below W.heap.size W w' := by
  by_cases hg : 300 < n ∨ 40 < m
  · exact early D x a1 a2 n c1 m c2 W hg
  obtain ⟨hL, _, iL, wL⟩ := v0
  obtain ⟨hM, _, iM, wM⟩ := v1
  have d1 : decide ((300 : Int) < (n : Int)) = false := by simp; omega
  have p1 : ¬ ((300 : Int) < n) := by omega
  have d2 : decide ((40 : Int) < (m : Int)) = false := by simp; omega
  have p2 : ¬ ((40 : Int) < m) := by omega
  have hn : n ≤ 300 := by omega
  have hm : m ≤ 40 := by omega
  have HW := Lib.hid (works_any D W)
  have AP : Hid (∀ y, (0 < n ∧ a1 = some y ∨ 0 < m ∧ a2 = some y) → y.block < W.heap.size) := Lib.hid fun y h => by
    rcases h with ⟨h0, hy⟩ | ⟨h0, hy⟩
    · obtain ⟨bb, off, e, hlt, _⟩ := iL (by omega)
      rw [hy] at e; cases e; exact hlt
    · obtain ⟨bb, off, e, hlt, _⟩ := iM (by omega)
      rw [hy] at e; cases e; exact hlt
  have HI1 : Hid (L.length = n ∧ (∀ x ∈ L, (Lit.int .i64 x).wf = true) ∧ IsInts W a1 L) := Lib.hid ⟨hL, wL, iL⟩
  have HI2 : Hid (M.length = m ∧ (∀ x ∈ M, (Lit.int .i64 x).wf = true) ∧ IsInts W a2 M) := Lib.hid ⟨hM, wM, iM⟩
  obtain ⟨A, hA⟩ : ∃ A, bitsOf (cnt x) (-1) = A := ⟨_, rfl⟩
  have hAl : A.length ≤ 32 := by rw [← hA, bitsOf_length]; exact cnt_le x
  have HAC : Hid (cnt x = A.length) := Lib.hid (by rw [← hA, bitsOf_length])
  have CB := Lib.hid (fun b v w h => wbits_any b v [] x (-1) w h (by decide))
  rw [hA] at CB
  have CL := Lib.hid (fun b v w h iL iM ap => D.lengths b v A a1 a2 n c1 m c2 L M w h (by omega) hL hM iL iM ap (by omega) (by omega))
  clear hA hg D iL wL iM wM hL hM
  go_enter Tryz.func4, Tryz.ntmps4
  go_wp2_with fail
  refine HW.out.mono ?_
  rintro r w1 ⟨rfl, b1⟩
  have HB1 := Lib.hid b1
  clear b1 HW
  go_wp2_with fail
  have hwr := wr_new w1
  have bX : Below w1.heap.size w1 (w1.alloc (.cells #[.slice none 0 0, .int .i64 0] 26)) := (Below.refl _ _).alloc (Nat.le_refl _) _
  generalize (w1.alloc (.cells #[.slice none 0 0, .int .i64 0] 26)) = w2 at *
  have HB2 := Lib.hid (HB1.out.trans (bX.mono HB1.out.size))
  have hge : W.heap.size ≤ w1.heap.size := HB1.out.size
  generalize w1.heap.size = b at *
  clear bX HB1
  refine (CB.out b (.slice none 0 0) w2 hwr).mono ?_
  rintro r w3 ⟨rfl, v3, h3, k3, n3⟩
  have HW3 : Hid (WrAt w3 b v3 A) := Lib.hid h3
  have HF3 : Hid (∀ i, v3.ownBlock = some i → W.heap.size ≤ i) := Lib.hid fun i hi => by
    rcases n3 i hi with h | h
    · cases h
    · exact Nat.le_trans HB2.out.size h
  have HB3 := Lib.hid (Sym.below_but HB2.out (Nat.le_refl _) k3 hge (fun i h => by cases h))
  clear h3 k3 n3 hwr HB2 CB
  go_wp2_with fail
  refine (wlen_any b v3 A w3 HW3.out (by omega)).mono ?_
  rintro r w4 ⟨rfl, q4, rfl⟩
  have HW4 : Hid (WrAt (w3.drewN q4) b v3 A) := Lib.hid (wr_below HW3.out ⟨rfl, rfl, rfl, Nat.le_refl _, fun _ _ => rfl⟩)
  have HB4 : Hid (Below W.heap.size W (w3.drewN q4)) := Lib.hid ⟨HB3.out.os, HB3.out.tape, HB3.out.output, HB3.out.size, HB3.out.block⟩
  clear HW3 HB3
  generalize w3.drewN q4 = w4 at *
  obtain ⟨k0, hk0⟩ : ∃ k0, A.length = k0 := ⟨_, rfl⟩
  have HK0 := Lib.hid hk0
  rw [hk0] at hAl ⊢
  clear hk0
  go_wp2_with fail
  refine (CL.out b v3 w4 HW4.out (HI1.out.2.2.below HB4.out (Nat.le_refl _)) (HI2.out.2.2.below HB4.out (Nat.le_refl _)) (fun y hy => by
    have h1 := AP.out y hy
    exact ⟨by omega, fun e => by have := HF3.out _ e; omega⟩)).mono ?_
  rintro r w5 ⟨e, l1, rfl, hout, hl1, v5, h5, k5, n5⟩
  have HOUT := Lib.hid hout
  have HW5 := Lib.hid h5
  have HB5 := Lib.hid (Sym.below_but HB4.out (Nat.le_refl _) k5 hge HF3.out)
  have HI1 : Hid (L.length = n ∧ (∀ x ∈ L, (Lit.int .i64 x).wf = true) ∧ IsInts w5 a1 L) := Lib.hid ⟨HI1.out.1, HI1.out.2.1, HI1.out.2.2.below HB5.out (Nat.le_refl _)⟩
  have HI2 : Hid (M.length = m ∧ (∀ x ∈ M, (Lit.int .i64 x).wf = true) ∧ IsInts w5 a2 M) := Lib.hid ⟨HI2.out.1, HI2.out.2.1, HI2.out.2.2.below HB5.out (Nat.le_refl _)⟩
  clear hout h5 k5 n5 HW4 HB4 HF3 CL AP
  go_upto_region 10 with fail
  go_cut [11] (fun o wx => w5 = wx ∧ o = .bool (odd0 n m))
  case first =>
    rcases odd0_cases n m with ⟨q1, qe⟩ | ⟨q1, q2, qe⟩ | ⟨q1, q2, q3, qe⟩ | ⟨q1, q2, q3, q4, qe⟩ | ⟨q1, q2, q3, q4, qe⟩
    all_goals have HQE := Lib.hid qe
    all_goals clear qe
    · have q1' : (n : Int) < 257 := by omega
      go_wp2_with fail
      go_meet
      exact ⟨rfl, by rw [HQE.out]⟩
    · have q1' : ¬ ((n : Int) < 257) := by omega
      have q2' : (286 : Int) < (n : Int) := by omega
      go_wp2_with fail
      go_meet
      exact ⟨rfl, by rw [HQE.out]⟩
    · have q1' : ¬ ((n : Int) < 257) := by omega
      have q2' : ¬ ((286 : Int) < (n : Int)) := by omega
      have q3' : (m : Int) < 1 := by omega
      go_wp2_with fail
      go_meet
      exact ⟨rfl, by rw [HQE.out]⟩
    · have q1' : ¬ ((n : Int) < 257) := by omega
      have q2' : ¬ ((286 : Int) < (n : Int)) := by omega
      have q3' : ¬ ((m : Int) < 1) := by omega
      have q4' : (30 : Int) < (m : Int) := by omega
      go_wp2_with fail
      go_meet
      exact ⟨rfl, by rw [HQE.out]⟩
    · have q1' : ¬ ((n : Int) < 257) := by omega
      have q2' : ¬ ((286 : Int) < (n : Int)) := by omega
      have q3' : ¬ ((m : Int) < 1) := by omega
      have q4' : ¬ ((30 : Int) < (m : Int)) := by omega
      go_wp2_with fail
      go_meet
      exact ⟨rfl, by rw [HQE.out]⟩
  case rest =>
  obtain ⟨hwc, rfl⟩ := hcut
  subst hwc
  obtain ⟨o0, ho0⟩ : ∃ o0, odd0 n m = o0 := ⟨_, rfl⟩
  rw [ho0]
  have HO0 := Lib.hid ho0
  clear ho0
  go_wp2_with fail
  go_loop [11, 12] (fun o i => ∃ j : Nat, j ≤ n ∧ i = .int .i64 j ∧ o = .bool (o0 || !allIn 15 (L.take j))) (fun _ i => n - (intOf i).toNat)
  case atStart => exact ⟨0, Nat.zero_le _, rfl, by rw [flag_zero]⟩
  case round =>
    obtain ⟨j, hj, rfl, rfl⟩ := hrel
    by_cases hlt : j < n
    · have HJ := Lib.hid (show j + 1 ≤ n ∧ n - (j + 1) < n - j by omega)
      have hjl : j < L.length := by rw [HI1.out.1]; exact hlt
      obtain ⟨g, off, rfl, hg, hc⟩ := HI1.out.2.2 (by omega)
      have cx := hc j hjl
      have F1 := Lib.hid (flag_true (o := o0) (L := L) (j := j))
      have F2 := Lib.hid (flag_bad (o := o0) (L := L) hjl)
      have F3 := Lib.hid (flag_ok (o := o0) (L := L) hjl)
      obtain ⟨x, hx⟩ : ∃ x, L[j] = x := ⟨_, rfl⟩
      rw [hx] at cx F2 F3
      obtain ⟨B, hB⟩ : ∃ B, (o0 || !allIn 15 (L.take j)) = B := ⟨_, rfl⟩
      rw [hB] at F1 F3 ⊢
      have wx := HI1.out.2.1 _ (List.getElem_mem hjl)
      rw [hx] at wx
      have xw : -9223372036854775808 ≤ x ∧ x ≤ 9223372036854775807 := by
        have e0 : IntKind.i64.min = -9223372036854775808 := rfl
        have e1 : IntKind.i64.max = 9223372036854775807 := rfl
        simp [Lit.wf] at wx; omega
      obtain ⟨xw1, xw2⟩ := xw
      clear hc hx hB wx hjl hj
      cases B with
      | true =>
        clear F2 F3
        go_wp2_with fail
        refine ⟨⟨j + 1, HJ.out.1, by go_num, by rw [F1.out rfl]⟩, ?_⟩
        have := HJ.out.2
        simp [intOf]; omega
      | false =>
        by_cases x1 : x < 0
        · have e := F2.out (.inl x1)
          clear F1 F2 F3
          have He := Lib.hid e
          clear e
          go_wp2_with fail
          refine ⟨⟨j + 1, HJ.out.1, by go_num, by rw [He.out]⟩, ?_⟩
          have := HJ.out.2
          simp [intOf]; omega
        · by_cases x2 : 15 < x
          · have He := Lib.hid (F2.out (.inr x2))
            clear F1 F2 F3
            go_wp2_with fail
            refine ⟨⟨j + 1, HJ.out.1, by go_num, by rw [He.out]⟩, ?_⟩
            have := HJ.out.2
            simp [intOf]; omega
          · have He := Lib.hid (F3.out rfl (by omega) (by omega))
            have x3 : x ≤ 15 := by omega
            clear F1 F2 F3
            go_wp2_with fail
            refine ⟨⟨j + 1, HJ.out.1, by go_num, by rw [He.out]⟩, ?_⟩
            have := HJ.out.2
            simp [intOf]; omega
    · obtain rfl : n = j := by omega
      have e1 : (o0 || !allIn 15 (L.take n)) = (o0 || !allIn 15 L) := by rw [List.take_of_length_le (by rw [HI1.out.1]; exact Nat.le_refl _)]
      rw [e1]
      obtain ⟨o1, ho1⟩ : ∃ o1, (o0 || !allIn 15 L) = o1 := ⟨_, rfl⟩
      rw [ho1]
      have HO1 := Lib.hid ho1
      clear e1 ho1 hlt hj
      go_wp2_with fail
      go_loop [11, 13] (fun o i => ∃ j : Nat, j ≤ m ∧ i = .int .i64 j ∧ o = .bool (o1 || !allIn 15 (M.take j))) (fun _ i => m - (intOf i).toNat)
      case atStart => exact ⟨0, Nat.zero_le _, rfl, by rw [flag_zero]⟩
      case round =>
        obtain ⟨j, hj, rfl, rfl⟩ := hrel
        by_cases hlt : j < m
        · have HJ := Lib.hid (show j + 1 ≤ m ∧ m - (j + 1) < m - j by omega)
          have hjl : j < M.length := by rw [HI2.out.1]; exact hlt
          obtain ⟨g, off, rfl, hg, hc⟩ := HI2.out.2.2 (by omega)
          have cx := hc j hjl
          have F1 := Lib.hid (flag_true (o := o1) (L := M) (j := j))
          have F2 := Lib.hid (flag_bad (o := o1) (L := M) hjl)
          have F3 := Lib.hid (flag_ok (o := o1) (L := M) hjl)
          obtain ⟨x, hx⟩ : ∃ x, M[j] = x := ⟨_, rfl⟩
          rw [hx] at cx F2 F3
          obtain ⟨B, hB⟩ : ∃ B, (o1 || !allIn 15 (M.take j)) = B := ⟨_, rfl⟩
          rw [hB] at F1 F3 ⊢
          have wx := HI2.out.2.1 _ (List.getElem_mem hjl)
          rw [hx] at wx
          have xw : -9223372036854775808 ≤ x ∧ x ≤ 9223372036854775807 := by
            have e0 : IntKind.i64.min = -9223372036854775808 := rfl
            have e1 : IntKind.i64.max = 9223372036854775807 := rfl
            simp [Lit.wf] at wx; omega
          obtain ⟨xw1, xw2⟩ := xw
          clear hc hx hB wx hjl hj
          cases B with
          | true =>
            clear F2 F3
            go_wp2_with fail
            refine ⟨⟨j + 1, HJ.out.1, by go_num, by rw [F1.out rfl]⟩, ?_⟩
            have := HJ.out.2
            simp [intOf]; omega
          | false =>
            by_cases x1 : x < 0
            · have e := F2.out (.inl x1)
              clear F1 F2 F3
              have He := Lib.hid e
              clear e
              go_wp2_with fail
              refine ⟨⟨j + 1, HJ.out.1, by go_num, by rw [He.out]⟩, ?_⟩
              have := HJ.out.2
              simp [intOf]; omega
            · by_cases x2 : 15 < x
              · have He := Lib.hid (F2.out (.inr x2))
                clear F1 F2 F3
                go_wp2_with fail
                refine ⟨⟨j + 1, HJ.out.1, by go_num, by rw [He.out]⟩, ?_⟩
                have := HJ.out.2
                simp [intOf]; omega
              · have He := Lib.hid (F3.out rfl (by omega) (by omega))
                have x3 : x ≤ 15 := by omega
                clear F1 F2 F3
                go_wp2_with fail
                refine ⟨⟨j + 1, HJ.out.1, by go_num, by rw [He.out]⟩, ?_⟩
                have := HJ.out.2
                simp [intOf]; omega
        · obtain rfl : m = j := by omega
          have e2 : (o1 || !allIn 15 (M.take m)) = oddH L M := by
            rw [List.take_of_length_le (by rw [HI2.out.1]; exact Nat.le_refl _), ← HO1.out, ← HO0.out]
            unfold oddH odd0
            rw [HI1.out.1, HI2.out.1]
          rw [e2]
          clear e2 HO1 HO0 hlt hj
          rcases HOUT.out with ⟨h1, rfl, rfl⟩ | ⟨h1, rfl, k, O, Y, hH, rfl⟩
          · rw [h1]
            have CLN := wlen_any b v5 (A ++ []) w5 HW5.out (by rw [List.append_nil, HK0.out]; omega)
            rw [show (A ++ ([] : List Bool)).length = k0 by rw [List.append_nil]; exact HK0.out] at CLN
            have HLN := Lib.hid CLN
            clear CLN h1
            go_wp2_with fail
            refine HLN.out.mono ?_
            rintro r w6 ⟨rfl, q6, rfl⟩
            go_wp2_with fail
            go_ret
            exact ⟨rfl, below_drew HB5.out q6⟩
          · rw [h1]
            have hp : (257 ≤ n ∧ n ≤ 286) ∧ (1 ≤ m ∧ m ≤ 30) ∧ allIn 15 L = true ∧ allIn 15 M = true := by
              unfold oddH at h1
              rw [HI1.out.1, HI2.out.1] at h1
              simp only [Bool.or_eq_false_iff, decide_eq_false_iff_not, Bool.not_eq_false'] at h1
              exact ⟨by omega, by omega, h1.1.2, h1.2⟩
            obtain ⟨hp1, hp2, hp3, hp4⟩ := hp
            have hLN : ints (nats L) = L := (nats_cast hp3).symm
            have hMN : ints (nats M) = M := (nats_cast hp4).symm
            obtain ⟨N, hN⟩ : ∃ N, nats L = N := ⟨_, rfl⟩
            obtain ⟨M2, hM2⟩ : ∃ M2, nats M = M2 := ⟨_, rfl⟩
            have hNl : N.length = n := by rw [← hN, nats_length]; exact HI1.out.1
            have hMl : M2.length = m := by rw [← hM2, nats_length]; exact HI2.out.1
            rw [hN] at hH hLN HW5 hl1
            rw [hM2] at hH hMN HW5 hl1
            have I1 : Hid (IsInts w5 a1 (ints N)) := Lib.hid (by rw [hLN]; exact HI1.out.2.2)
            have I2 : Hid (IsInts w5 a2 (ints M2)) := Lib.hid (by rw [hMN]; exact HI2.out.2.2)
            obtain ⟨X, hX⟩ : ∃ X, hdrB N M2 k O Y = X := ⟨_, rfl⟩
            rw [hX] at HW5 hl1
            obtain ⟨S, hS⟩ : ∃ S : ByteArray, ⟨(pack (A ++ X)).toArray⟩ = S := ⟨_, rfl⟩
            have hSz : S.size ≤ 20000 := by
              rw [← hS, pack_size, List.length_append, HK0.out]; omega
            have hHas : Hid (Has (tb S) k0 (hdrB N M2 k O Y)) := Lib.hid (by rw [← hS, hX, ← HK0.out]; exact has_pack A X)
            have CST := wstring_any b v5 (A ++ X) w5 HW5.out
            rw [hS] at CST
            have HST := Lib.hid CST
            have HXL := Lib.hid hX
            have HP := Lib.hid (And.intro hNl hMl)
            have HH := Lib.hid hH
            have hT : (tb S).length ≤ 160000 := by rw [tb_length]; omega
            have HT := Lib.hid hT
            clear h1 hp1 hp2 hp3 hp4 hLN hMN hN hM2 hNl hMl hH hX hS CST HOUT HI1 HI2 hT hl1
            go_wp2_with fail
            refine HST.out.mono ?_
            rintro r w6 ⟨rfl, rfl⟩
            clear HST
            go_wp2_with fail
            refine (all_any S w5 (by omega)).mono ?_
            rintro r w6 ⟨u, rfl, hu, b6, fu⟩
            obtain ⟨ua, uc, rfl, _⟩ := hu.shape
            obtain ⟨NT, hNT⟩ : ∃ NT, (tb S).length = NT := ⟨_, rfl⟩
            rw [hNT] at hu fu ⊢
            have R7 : Hid (RfAt (w6.alloc (.cells #[.slice ua NT uc, .int .i64 0, .int .i64 0] 42)) w6.heap.size (.slice ua NT uc) (tb S) 0 false) := Lib.hid ⟨heap_alloc_new _ _, hu.alloc _⟩
            have b7 : Below w5.heap.size w5 (w6.alloc (.cells #[.slice ua NT uc, .int .i64 0, .int .i64 0] 42)) := b6.alloc b6.size _
            have S7 := Lib.hid b6.size
            have HNT := Lib.hid hNT
            clear hu b6 fu hNT
            go_wp2_with fail
            generalize w6.alloc (.cells #[.slice ua NT uc, .int .i64 0, .int .i64 0] 42) = w7 at *
            generalize w6.heap.size = rb at *
            have B7 := Lib.hid b7
            clear b7
            refine (rfbits_any rb _ (tb S) 0 false x w7 R7.out (Nat.zero_le _) (by have := HT.out; omega)).mono ?_
            rintro r w8 ⟨rfl, r8, g8⟩
            have hok : rOk (tb S) 0 false (cnt x) = true := by
              unfold rOk
              have := hHas.out.1
              rw [HAC.out, HK0.out]
              simp; omega
            have hri : rI (tb S) 0 false (cnt x) = k0 := by
              unfold rI
              rw [if_pos hok, HAC.out, HK0.out, Nat.zero_add]
            rw [hok, hri] at r8
            have R8 : Hid (RfAt w8 rb (.slice ua NT uc) (tb S) k0 false) := Lib.hid r8
            have B8 := Lib.hid (below_row2 B7.out (Nat.le_refl _) g8 S7.out)
            clear r8 g8 hok hri B7 R7
            generalize rV (tb S) 0 false (cnt x) = rv at *
            go_wp2_with fail
            refine (refHeader_any rb k0 n m k _ (tb S) N M2 O Y w8 HP.out.1 HP.out.2 HH.out R8.out (by have := HT.out; omega) hHas.out).mono ?_
            rintro r w9 ⟨g, d1, d2, rfl, iN, iM, r9, g9⟩
            have B9 := Lib.hid (below_row2 B8.out (Nat.le_refl _) g9 S7.out)
            have J1 := Lib.hid (I1.out.below B9.out (Nat.le_refl _))
            have J2 := Lib.hid (I2.out.below B9.out (Nat.le_refl _))
            have K1 := Lib.hid iN
            have K2 := Lib.hid iM
            have R9 := Lib.hid r9
            clear iN iM r9 g9 B8 R8 I1 I2
            go_wp2_with fail
            refine (sameRow_any _ _ n d1 c1 N w9 HP.out.1 K1.out J1.out (by omega)).mono ?_
            rintro r w10 ⟨rfl, q10, rfl⟩
            go_wp2_with fail
            refine (sameRow_any _ _ m d2 c2 M2 (w9.drewN q10) HP.out.2 (K2.out.below (below_of_drewN _ _) (Nat.le_refl _)) (J2.out.below (below_of_drewN _ _) (Nat.le_refl _)) (by omega)).mono ?_
            rintro r w11 ⟨rfl, q11, rfl⟩
            have B11 : Hid (Below w5.heap.size w5 ((w9.drewN q10).drewN q11)) := Lib.hid (below_drew (below_drew B9.out q10) q11)
            have W11 := Lib.hid (wr_below HW5.out B11.out)
            have R11 := Lib.hid ((R9.out.draws q10).draws q11)
            clear B9 J1 J2 K1 K2 R9
            generalize (w9.drewN q10).drewN q11 = w11 at *
            obtain ⟨E, hE⟩ : ∃ E, k0 + X.length = E := ⟨_, rfl⟩
            have c1' : w11.cell? ⟨rb, 1, none⟩ = some (.int .i64 (E : Nat)) := by
              have := R11.out.cells.2.1
              rw [HXL.out, hE] at this
              exact this
            have CAT := Lib.hid (fun q => wlen_any b v5 (A ++ X) (w11.drewN q) (wr_below W11.out (below_of_drewN _ _)) (by rw [List.length_append, HK0.out]; have h1 := hHas.out.1; rw [HXL.out] at h1; have := HT.out; omega))
            rw [show (A ++ X).length = E by rw [List.length_append, HK0.out]; exact hE] at CAT
            have BF := Lib.hid (HB5.out.trans (B11.out.mono HB5.out.size))
            clear hE R11 W11 B11
            go_wp2_with fail
            go_quiet ((go_at_call 14; exact quiet_len (CAT.out _)))
            go_wp2_with fail
            go_ret
            exact ⟨rfl, below_drew BF.out nq⟩

set_option maxRecDepth 100000 in
theorem lifted (os : Os) (started : os.Started) (H : Type) (enc : TypeId × Value → H) :
    ReturnsInHanded {} Tryz.checked os 4 .any (Rows.deflateLengthsSpec.pre6 enc Tryz.prog Tryz.f4 Rows.deflateLengthsRow.domain false) (Rows.deflateLengthsSpec.post enc Tryz.prog Tryz.f4 false true false false) := by
  refine returnsInHanded_of_change (C := Tryz.checked) own started (by kernel_rfl) Tryz.func4
    (ChangeSpec.witness6 (enc := enc) (C := Tryz.checked) false ⟨#[], #[.int .i64 0, .slice none 0 0, .slice none 0 0], []⟩ 8 (by kernel_rfl) (by kernel_rfl) (by kernel_rfl) (by kernel_rfl)) ?_
  intro W base args ds gs before hval0 hW hcnd _
  have hval : ∀ (j : Nat) t v, Tryz.f4.params[j]? = some t → args[j]? = some v → Value.okWide Tryz.prog W .any base t v := hval0
  have hW' := hW
  obtain ⟨p, q, hA0, hV, rfl, hfz, hnd⟩ := hW
  have hA : DataW.TrodAll enc Tryz.prog W 0 (fun _ => true) true Tryz.f4.params.toList args.toList ds p := hA0
  rw [Tryz.params4] at hA hval
  obtain ⟨v0, vs0, d0, ds0, p0, q0, hargs, rfl, rfl, h0, r0⟩ := trodAll_cons hA
  obtain ⟨v1, vs1, d1, ds1, p1, q1, rfl, rfl, rfl, h1, r1⟩ := trodAll_cons r0
  obtain ⟨v2, vs2, d2, ds2, p2, q2, rfl, rfl, rfl, h2, r2⟩ := trodAll_cons r1
  obtain ⟨rfl, rfl, rfl⟩ := trodAll_nil r2
  obtain rfl : args = #[v0, v1, v2] := by cases args; simp_all
  obtain ⟨rfl, rfl⟩ := trodVars_none hV
  have k0 := h0
  have lt0 : ∀ x ∈ p0, x.block < W.heap.size := by obtain ⟨m, hm⟩ := k0; exact DataW.trod_lt m _ _ _ hm
  obtain ⟨a0, rfl, rfl, rfl, w0⟩ := open_int Tryz.underlying3 (hval 0 3 v0 rfl rfl) h0
  have k1 := h1
  have lt1 : ∀ x ∈ p1, x.block < W.heap.size := by obtain ⟨m, hm⟩ := k1; exact DataW.trod_lt m _ _ _ hm
  obtain ⟨a1, len1, cap1, rfl⟩ := okWide_slice Tryz.underlying36 (hval 1 36 v1 rfl rfl)
  obtain ⟨A1, w1⟩ := ints_see h1
  have k2 := h2
  have lt2 : ∀ x ∈ p2, x.block < W.heap.size := by obtain ⟨m, hm⟩ := k2; exact DataW.trod_lt m _ _ _ hm
  obtain ⟨a2, len2, cap2, rfl⟩ := okWide_slice Tryz.underlying36 (hval 2 36 v2 rfl rfl)
  obtain ⟨A2, w2⟩ := ints_see h2
  clear hA0 hval0
  refine (walk says a0 a1 a2 len1 cap1 len2 cap2 A1 A2 W w1 w2).mono fun e W' ⟨he, bel⟩ => ?_
  subst he
  exact ⟨_, rfl, _, _, _, [], _, [], hW', trodAll_mk1 (shut_bool Tryz.underlying4 _), (trodAll_cons_mk (Below.trod laidOut (by kernel_rfl) (of_decide_eq_true (by kernel_rfl)) k0 bel lt0) (trodAll_cons_mk (Below.trod laidOut (by kernel_rfl) (of_decide_eq_true (by kernel_rfl)) k1 bel lt1) (trodAll_cons_mk (Below.trod laidOut (by kernel_rfl) (of_decide_eq_true (by kernel_rfl)) k2 bel lt2) trodAll_mk0))), rfl, bel.frame _, fun h => by cases h⟩

theorem over : Rows.deflateLengthsRow.holds Tryz.pinned (OpenSpec.ofChange Rows.deflateLengthsSpec) :=
  OpenClaim.holds_of_wide 4 Tryz.f4 rfl rfl rfl rfl rfl rfl rfl ⟨rfl, rfl, rfl, rfl, rfl⟩ rfl rfl rfl rfl rfl (by kernel_rfl) Tryz.func4 (by kernel_rfl)
    (of_decide_eq_true (by kernel_rfl)) (by unfold Func.isWrapper; first | (rw [if_pos (by decide +kernel)]; kernel_rfl) | (rw [if_neg (by decide +kernel)]; exact ⟨rfl, rfl⟩))
    (fun os started H enc _ => lifted os started H enc)

theorem proved : Rows.DeflateLengthsSaid := over
end Go.Proofs.YtkpieakgpnnonaaGreat.deflateLengths
