/-
  DeflateRuns (layer 9): one byte that comes again and again makes few bytes, as a whole and as a segment, and the document's reader inflates them again.
-/
import Derived.Test.YtkpieakgpnnonaaGreatRows
import Derived.Test.YtkpieakgpnnonaaGreatDefWorks
import Derived.Test.YtkpieakgpnnonaaGreatDflWhole
import Derived.WalkKit
import Derived.ProofKit
import Derived.OpenShut
import Derived.ShutString
import Derived.ChangeOld
import Derived.Below
import Derived.Lib.SmallJoins
import Derived.Deep.Slices
namespace Go.Proofs.YtkpieakgpnnonaaGreat.deflateRuns
open Go.Proofs.YtkpieakgpnnonaaGreat.Def
open Go.Proofs.YtkpieakgpnnonaaGreat.Dfl
open Go.ChangeShapes Go.WideShapes Go.ChangeAt Go.RowKit
open Go.ChangeMaps (open_string shut_string)
set_option linter.unusedVariables false

theorem own : ownKnob Tryz.prog.godebug = none := by kernel_rfl
theorem laidOut : laidOutB Tryz.prog = true := by kernel_rfl

open Go.Proofs.YtkpieakgpnnonaaGreat.Huf (info_parts)
open Go.Proofs.YtkpieakgpnnonaaGreat.Lz (info_u8)
theorem early (D : Says) (c n : Int) (w : World) (hg : n < 0 ∨ 5000 < n) :
    Calls Tryz.prog 8 #[.int .u8 c, .int .i64 n] w fun e w' => e = .returned (.bool true) ∧ Below w.heap.size w w' := by
  by_cases h1 : n < 0
  · clear hg
    go_enter Tryz.func8, Tryz.ntmps8
    go_wp2_with fail
    refine (works_any D _).mono ?_
    rintro r w1 ⟨rfl, b1⟩
    go_wp2_with fail
    all_goals (go_ret; exact ⟨rfl, b1⟩)
  have h3 : 5000 < n := by omega
  clear hg
  go_enter Tryz.func8, Tryz.ntmps8
  go_wp2_with fail
  refine (works_any D _).mono ?_
  rintro r w1 ⟨rfl, b1⟩
  go_wp2_with fail
  all_goals (go_ret; exact ⟨rfl, b1⟩)

/-- The first k of m bytes filled. -/
def fillB (x : UInt8) (m k : Nat) : List Value := (List.range m).map fun j => if j < k then Value.int .u8 (x.toNat : Nat) else Value.int .u8 0
theorem fillB_get (x : UInt8) (m k j : Nat) (h : j < m) : (fillB x m k)[j]? = some (if j < k then Value.int .u8 (x.toNat : Nat) else Value.int .u8 0) := by
  unfold fillB
  simp [h]
theorem fillB_set (x : UInt8) (m k : Nat) (h : k < m) : (fillB x m k).toArray.setIfInBounds k (.int .u8 (x.toNat : Nat)) = (fillB x m (k + 1)).toArray := by
  rw [List.setIfInBounds_toArray]
  congr 1
  apply List.ext_getElem?
  intro j
  rw [List.getElem?_set]
  have hl : (fillB x m k).length = m := by simp [fillB]
  rw [hl]
  by_cases hj : j < m
  · rw [fillB_get _ _ _ _ hj, fillB_get _ _ _ _ hj]
    by_cases hk : k = j
    · subst hk; rw [if_pos rfl, if_pos h, if_pos (by omega)]
    · rw [if_neg hk]
      congr 1
      by_cases h1 : j < k
      · rw [if_pos h1, if_pos (by omega)]
      · rw [if_neg h1, if_neg (by omega)]
  · rw [if_neg (by omega)]
    rw [List.getElem?_eq_none (by omega), List.getElem?_eq_none (by simp [fillB]; omega)]

set_option maxRecDepth 10000 in
set_option maxHeartbeats 2000000 in
theorem walk (D : Says) (c n : Int) (w : World) (wc : (Lit.int .u8 c).wf = true) :
    Calls Tryz.prog 8 #[.int .u8 c, .int .i64 n] w fun e w' => e = .returned (.bool true) ∧ Below w.heap.size w w' := by
  by_cases hg : n < 0 ∨ 5000 < n
  · exact early D c n w hg
  obtain ⟨m, rfl⟩ : ∃ m : Nat, n = m := ⟨n.toNat, by omega⟩
  have hm : m ≤ 5000 := by omega
  have c0 : 0 ≤ c ∧ c < 256 := by
    have e0 : IntKind.u8.min = 0 := rfl
    have e1 : IntKind.u8.max = 255 := rfl
    simp [Lit.wf] at wc; omega
  obtain ⟨x, rfl⟩ : ∃ x : UInt8, c = x.toNat := ⟨UInt8.ofNat c.toNat, by rw [UInt8.toNat_ofNat']; omega⟩
  clear c0 wc hg
  have d1 : decide ((m : Int) < 0) = false := decide_eq_false (by omega)
  have d2 : decide ((5000 : Int) < m) = false := decide_eq_false (by omega)
  obtain ⟨i0, hi, hz0, hz1, hz2⟩ := info_parts info_u8
  obtain ⟨z, hz⟩ : ∃ z : ByteArray, ⟨(List.replicate m x).toArray⟩ = z := ⟨_, rfl⟩
  have hzl : z.data.toList = List.replicate m x := by rw [← hz]
  have hzz : z.size = m := by rw [← hz]; exact Array.size_replicate ..
  have HD := Lib.hid (fun w => D.whole ⟨#[]⟩ z w (by decide) (by omega))
  have HE := Lib.hid (fun w => D.segment ⟨#[]⟩ z w (by decide) (by omega))
  have CV : Hid (∀ (W : World) (B : Nat), W.heap[B]? = some (.cells (fillB x m m).toArray 5 (0, 0)) → (convert 24 9 (.slice (some ⟨B, 0, none⟩) m m)).run Tryz.prog W = .ok (.string z) W) := Lib.hid fun W B hB => by
    rw [← hz]
    refine Oct.run_string_of _ _ _ 5 _ _ (List.replicate m x) m (by simp) (by kernel_rfl) (by kernel_rfl) (by kernel_rfl) (fun j hj => ?_)
    rw [Oct.addr_add, cell_of_row _ _ _ _ _ _ hB, List.getElem?_toArray, fillB_get _ _ _ _ hj, if_pos hj]
    simp [hj]
  have HZL := Lib.hid (And.intro hzl hzz)
  have HW := Lib.hid (works_any D w)
  have zz : z.size ≤ 5000 := by omega
  clear hz hzl hzz D
  go_enter Tryz.func8, Tryz.ntmps8
  go_wp2_with fail
  refine HW.out.mono ?_
  rintro r w1 ⟨rfl, b1⟩
  have hmk : (Instr.makeSlice 24 (.int .i64 m) (.int .i64 m)).run Tryz.prog w1 = .ok (.slice (some ⟨w1.heap.size, 0, none⟩) m m) (w1.alloc (.cells (fillB x m 0).toArray 5)) := by
    have := run_make (P := Tryz.prog) w1 24 5 i0 (.int .u8 0) Tryz.underlying24 hi hz0 .i64 .i64 m m (by omega) (by omega) (by rw [hz2]; omega) (by omega)
    rw [this, hz1]
    have e : (madeCells (Value.int .u8 0).cells (((m : Nat) : Int).toNat * 1)) = (fillB x m 0).toArray := by
      apply Array.toList_inj.1
      rw [show (Value.int IntKind.u8 0).cells = #[Value.int .u8 0] from rfl, toList_madeCells_one]
      simp [fillB, List.map_const']
    rw [e]
    simp
  obtain ⟨B, hB⟩ : ∃ B, w1.heap.size = B := ⟨_, rfl⟩
  have hH := heap_alloc_new w1 (.cells (fillB x m 0).toArray 5)
  have hL := b1.alloc b1.size (.cells (fillB x m 0).toArray 5)
  have hwB : w.heap.size ≤ B := by rw [← hB]; exact b1.size
  rw [hB] at hH hmk
  generalize w1.alloc (.cells (fillB x m 0).toArray 5) = w2 at *
  have HH := Lib.hid hH
  have HL := Lib.hid hL
  clear hH hL hB b1
  go_wp2_with fail
  clear hmk
  go_loopw [7] (fun i wr => ∃ k : Nat, k ≤ m ∧ i = .int .i64 k ∧ wr.heap[B]? = some (.cells (fillB x m k).toArray 5 (0, 0)) ∧ Below w.heap.size w wr) (fun i _ => m - (intOf i).toNat)
  case atStart => exact ⟨0, Nat.zero_le _, rfl, HH.out, HL.out⟩
  case round =>
    obtain ⟨k, hk, rfl, hh, hb⟩ := hrel
    clear HH HL
    have HH := Lib.hid hh
    have HL := Lib.hid hb
    clear hh hb
    by_cases hlt : k < m
    · have cz : wr.cell? ⟨B, k, none⟩ = some (.int .u8 0) := by
        rw [cell_of_row _ _ _ _ _ _ HH.out, List.getElem?_toArray, fillB_get _ _ _ _ hlt, if_neg (by omega)]
      have fz : wr.frozen? ⟨B, k, none⟩ = false := frozen_of_row _ _ _ _ _ HH.out
      have h2 : (wr.setCell ⟨B, k, none⟩ (.int .u8 (x.toNat : Nat))).heap[B]? = some (.cells (fillB x m (k + 1)).toArray 5 (0, 0)) := by
        rw [heap_setCell_same wr B k _ _ _ HH.out, fillB_set _ _ _ hlt]
      have H2 := Lib.hid h2
      clear h2 HD HE CV
      go_wp2_with fail
      exact ⟨⟨k + 1, by omega, by go_num, H2.out, HL.out.setCell (p := ⟨B, k, none⟩) hwB _⟩, by simp [intOf]; omega⟩
    · obtain rfl : k = m := by omega
      have hcv := CV.out wr B HH.out
      have hBl : B < wr.heap.size := (Array.getElem?_eq_some_iff.1 HH.out).1
      clear CV
      obtain ⟨q, hq⟩ : ∃ q : Nat, k / 100 = q := ⟨_, rfl⟩
      have f1 : ((k : Int).tdiv 100) = (q : Int) := by rw [Int.tdiv_eq_ediv_of_nonneg (by omega)]; omega
      have f2 : ((k : Int) / 100) = (q : Int) := by omega
      have hq50 : (q : Int) ≤ 50 := by omega
      have HQ := Lib.hid hq
      clear hq
      go_wp2_with fail
      refine (HD.out wr).mono ?_
      rintro r w3 ⟨t, rfl, ⟨⟨e, he, he2⟩, hsz, hrun⟩, b3⟩
      have e5 : t.size ≤ 20 + q := by rw [← HQ.out]; exact hrun rfl x k HZL.out.1
      have CW := Lib.hid (fun w => refWhole_any ⟨#[]⟩ t z (k : Int) e w (by decide) (by omega) (by omega) (by rw [HZL.out.2]; exact Int.le_refl _) (by omega) he)
      have HL3 := Lib.hid (HL.out.trans (b3.mono HL.out.size))
      have e6 : (t.size : Int) ≤ 20 + (q : Int) := by omega
      have e7 : decide (t.size ≤ 20 + q) = true := decide_eq_true e5
      generalize (e + 7) / 8 = Q at *
      clear b3 he hsz hrun HD HL HH hcv
      go_wp2_with fail
      refine (HE.out w3).mono ?_
      rintro r w4 ⟨u, rfl, ⟨hsg, hsz, hrun⟩, b4⟩
      have g5 : u.size ≤ 20 + q := by rw [← HQ.out]; exact hrun rfl x k HZL.out.1
      have CS := Lib.hid (fun w => refSegment_any ⟨#[]⟩ u z (k : Int) w (by decide) (by omega) (by omega) (by rw [HZL.out.2]; exact Int.le_refl _) (by omega) hsg)
      have HL4 := Lib.hid (HL3.out.trans (b4.mono HL3.out.size))
      have g6 : (u.size : Int) ≤ 20 + (q : Int) := by omega
      have g7 : decide (u.size ≤ 20 + q) = true := decide_eq_true g5
      clear b4 hsg hsz hrun HE HL3
      go_wp2_with fail
      refine (CW.out w4).mono ?_
      rintro r w5 ⟨rfl, b5⟩
      have HL5 := Lib.hid (HL4.out.trans (b5.mono HL4.out.size))
      clear b5 HL4 CW
      go_wp2_with fail
      refine (CS.out w5).mono ?_
      rintro r w6 ⟨rfl, b6⟩
      have HL6 := Lib.hid (HL5.out.trans (b6.mono HL5.out.size))
      clear b6 HL5 CS
      go_wp2_with fail
      go_ret
      exact ⟨rfl, HL6.out⟩

set_option maxRecDepth 100000 in
theorem lifted (os : Os) (started : os.Started) (H : Type) (enc : TypeId × Value → H) :
    ReturnsInHanded {} Tryz.checked os 8 .any (Rows.deflateRunsSpec.pre6 enc Tryz.prog Tryz.f8 Rows.deflateRunsRow.domain false) (Rows.deflateRunsSpec.post enc Tryz.prog Tryz.f8 false true false false) := by
  refine returnsInHanded_of_change (C := Tryz.checked) own started (by kernel_rfl) Tryz.func8
    (ChangeSpec.witness6 (enc := enc) (C := Tryz.checked) false ⟨#[], #[.int .u8 0, .int .i64 0], []⟩ 8 (by kernel_rfl) (by kernel_rfl) (by kernel_rfl) (by kernel_rfl)) ?_
  intro W base args ds gs before hval0 hW hcnd _
  have hval : ∀ (j : Nat) t v, Tryz.f8.params[j]? = some t → args[j]? = some v → Value.okWide Tryz.prog W .any base t v := hval0
  have hW' := hW
  obtain ⟨p, q, hA0, hV, rfl, hfz, hnd⟩ := hW
  have hA : DataW.TrodAll enc Tryz.prog W 0 (fun _ => true) true Tryz.f8.params.toList args.toList ds p := hA0
  rw [Tryz.params8] at hA hval
  obtain ⟨v0, vs0, d0, ds0, p0, q0, hargs, rfl, rfl, h0, r0⟩ := trodAll_cons hA
  obtain ⟨v1, vs1, d1, ds1, p1, q1, rfl, rfl, rfl, h1, r1⟩ := trodAll_cons r0
  obtain ⟨rfl, rfl, rfl⟩ := trodAll_nil r1
  obtain rfl : args = #[v0, v1] := by cases args; simp_all
  obtain ⟨rfl, rfl⟩ := trodVars_none hV
  have k0 := h0
  have lt0 : ∀ x ∈ p0, x.block < W.heap.size := by obtain ⟨m, hm⟩ := k0; exact DataW.trod_lt m _ _ _ hm
  obtain ⟨a0, rfl, rfl, rfl, w0⟩ := open_int Tryz.underlying5 (hval 0 5 v0 rfl rfl) h0
  have k1 := h1
  have lt1 : ∀ x ∈ p1, x.block < W.heap.size := by obtain ⟨m, hm⟩ := k1; exact DataW.trod_lt m _ _ _ hm
  obtain ⟨a1, rfl, rfl, rfl, w1⟩ := open_int Tryz.underlying3 (hval 1 3 v1 rfl rfl) h1
  clear hA0 hval0
  refine (walk says a0 a1 W w0).mono fun e W' ⟨he, bel⟩ => ?_
  subst he
  exact ⟨_, rfl, _, _, _, [], _, [], hW', trodAll_mk1 (shut_bool Tryz.underlying4 _), (trodAll_cons_mk (Below.trod laidOut (by kernel_rfl) (of_decide_eq_true (by kernel_rfl)) k0 bel lt0) (trodAll_cons_mk (Below.trod laidOut (by kernel_rfl) (of_decide_eq_true (by kernel_rfl)) k1 bel lt1) trodAll_mk0)), rfl, bel.frame _, fun h => by cases h⟩

theorem over : Rows.deflateRunsRow.holds Tryz.pinned (OpenSpec.ofChange Rows.deflateRunsSpec) :=
  OpenClaim.holds_of_wide 8 Tryz.f8 rfl rfl rfl rfl rfl rfl rfl ⟨rfl, rfl, rfl, rfl, rfl⟩ rfl rfl rfl rfl rfl (by kernel_rfl) Tryz.func8 (by kernel_rfl)
    (of_decide_eq_true (by kernel_rfl)) (by unfold Func.isWrapper; first | (rw [if_pos (by decide +kernel)]; kernel_rfl) | (rw [if_neg (by decide +kernel)]; exact ⟨rfl, rfl⟩))
    (fun os started H enc _ => lifted os started H enc)

theorem proved : Rows.DeflateRunsSaid := over
end Go.Proofs.YtkpieakgpnnonaaGreat.deflateRuns
