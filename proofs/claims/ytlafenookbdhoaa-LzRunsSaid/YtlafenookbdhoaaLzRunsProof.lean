/-
  LzRuns (layer 6): one byte that comes again and again makes few tokens.
-/
import Derived.Test.YtlafenookbdhoaaRows
import Derived.Test.YtlafenookbdhoaaLzBackI
import Derived.WalkKit
import Derived.ProofKit
import Derived.OpenShut
import Derived.ShutString
import Derived.ChangeOld
import Derived.Below
import Derived.Lib.SmallJoins
import Derived.Deep.Slices
namespace Go.Proofs.Ytlafenookbdhoaa.lzRuns
open Go.Proofs.Ytlafenookbdhoaa.Lz
open Go.ChangeShapes Go.WideShapes Go.ChangeAt Go.RowKit
open Go.ChangeMaps (open_string shut_string)
set_option linter.unusedVariables false

theorem own : ownKnob Try.prog.godebug = none := by kernel_rfl
theorem laidOut : laidOutB Try.prog = true := by kernel_rfl

theorem mono {T : List UInt8} {P Q : Nat → Tok → Prop} {s p : Nat} {l : List Tok} (hPQ : ∀ p t, P p t → Q p t) (h : Chain T P s l p) : Chain T Q s l p := by
  induction h with
  | nil => exact .nil
  | snoc h1 h2 h3 h4 ih => exact .snoc ih h2 h3 (hPQ _ _ h4)

theorem early (c n : Int) (w : World) (hg : n < 0 ∨ 5000 < n) :
    Calls Try.prog 6 #[.int .u8 c, .int .i64 n] w fun e w' => e = .returned (.bool true) ∧ Below w.heap.size w w' := by
  by_cases h1 : n < 0
  · clear hg
    go_enter Try.func6, Try.ntmps6
    go_wp2_with fail
    refine (works_any _).mono ?_
    rintro r w1 ⟨rfl, b1⟩
    go_wp2_with fail
    all_goals (go_ret; exact ⟨rfl, b1⟩)
  have h3 : 5000 < n := by omega
  clear hg
  go_enter Try.func6, Try.ntmps6
  go_wp2_with fail
  refine (works_any _).mono ?_
  rintro r w1 ⟨rfl, b1⟩
  go_wp2_with fail
  all_goals (go_ret; exact ⟨rfl, b1⟩)

/-- The first k of m bytes filled. -/
def fillB (x : UInt8) (m k : Nat) : List Value := (List.range m).map fun j => if j < k then Value.int .u8 (x.toNat : Nat) else Value.int .u8 0
theorem fillB_get (x : UInt8) (m k j : Nat) (h : j < m) : (fillB x m k)[j]? = some (if j < k then Value.int .u8 (x.toNat : Nat) else Value.int .u8 0) := by
  unfold fillB
  simp [h]
theorem fillB_set (x : UInt8) (m k : Nat) (h : k < m) : (fillB x m k).toArray.setIfInBounds k (.int .u8 (x.toNat : Nat)) = (fillB x m (k + 1)).toArray := by
  rw [List.setIfInBounds_toArray]
  congr 1
  apply List.ext_getElem?
  intro j
  rw [List.getElem?_set]
  have hl : (fillB x m k).length = m := by simp [fillB]
  rw [hl]
  by_cases hj : j < m
  · rw [fillB_get _ _ _ _ hj, fillB_get _ _ _ _ hj]
    by_cases hk : k = j
    · subst hk; rw [if_pos rfl, if_pos h, if_pos (by omega)]
    · rw [if_neg hk]
      congr 1
      by_cases h1 : j < k
      · rw [if_pos h1, if_pos (by omega)]
      · rw [if_neg h1, if_neg (by omega)]
  · rw [if_neg (by omega)]
    rw [List.getElem?_eq_none (by omega), List.getElem?_eq_none (by simp [fillB]; omega)]

set_option maxRecDepth 10000 in
set_option maxHeartbeats 2000000 in
theorem walk (c n : Int) (w : World) (wc : (Lit.int .u8 c).wf = true) :
    Calls Try.prog 6 #[.int .u8 c, .int .i64 n] w fun e w' => e = .returned (.bool true) ∧ Below w.heap.size w w' := by
  by_cases hg : n < 0 ∨ 5000 < n
  · exact early c n w hg
  obtain ⟨m, rfl⟩ : ∃ m : Nat, n = m := ⟨n.toNat, by omega⟩
  have hm : m ≤ 5000 := by omega
  have c0 : 0 ≤ c ∧ c < 256 := by
    have e0 : IntKind.u8.min = 0 := rfl
    have e1 : IntKind.u8.max = 255 := rfl
    simp [Lit.wf] at wc; omega
  obtain ⟨x, rfl⟩ : ∃ x : UInt8, c = x.toNat := ⟨UInt8.ofNat c.toNat, by rw [UInt8.toNat_ofNat']; omega⟩
  clear c0 wc hg
  have d1 : decide ((m : Int) < 0) = false := decide_eq_false (by omega)
  have d2 : decide ((5000 : Int) < m) = false := decide_eq_false (by omega)
  obtain ⟨i0, hi, hz0, hz1, hz2⟩ := info_parts info_u8
  obtain ⟨z, hz⟩ : ∃ z : ByteArray, ⟨(List.replicate m x).toArray⟩ = z := ⟨_, rfl⟩
  have hzl : z.data.toList = List.replicate m x := by rw [← hz]
  have hzz : z.size = m := by rw [← hz]; exact Array.size_replicate ..
  have CP := fun w' => Lib.hid (pack_any ⟨#[]⟩ z w' (by decide) (by omega))
  have CX := fun w' a l cap (h : IsToks w' a l) (hl : l.length ≤ 1000000) => Lib.hid (refExpand_any ⟨#[]⟩ a l l.length cap w' rfl h (by decide) (by omega))
  have CV : Hid (∀ (W : World) (B : Nat), W.heap[B]? = some (.cells (fillB x m m).toArray 5 (0, 0)) → (convert 36 9 (.slice (some ⟨B, 0, none⟩) m m)).run Try.prog W = .ok (.string z) W) := Lib.hid fun W B hB => by
    rw [← hz]
    refine Oct.run_string_of _ _ _ 5 _ _ (List.replicate m x) m (by simp) (by kernel_rfl) (by kernel_rfl) (by kernel_rfl) (fun j hj => ?_)
    rw [Oct.addr_add, cell_of_row _ _ _ _ _ _ hB, List.getElem?_toArray, fillB_get _ _ _ _ hj, if_pos hj]
    simp [hj]
  have HZL := Lib.hid hzl
  clear hz hzl hzz
  go_enter Try.func6, Try.ntmps6
  go_wp2_with fail
  refine (works_any _).mono ?_
  rintro r w1 ⟨rfl, b1⟩
  have hmk : (Instr.makeSlice 36 (.int .i64 m) (.int .i64 m)).run Try.prog w1 = .ok (.slice (some ⟨w1.heap.size, 0, none⟩) m m) (w1.alloc (.cells (fillB x m 0).toArray 5)) := by
    have := run_make (P := Try.prog) w1 36 5 i0 (.int .u8 0) Try.underlying36 hi hz0 .i64 .i64 m m (by omega) (by omega) (by rw [hz2]; omega) (by omega)
    rw [this, hz1]
    have e : (madeCells (Value.int .u8 0).cells (((m : Nat) : Int).toNat * 1)) = (fillB x m 0).toArray := by
      apply Array.toList_inj.1
      rw [show (Value.int IntKind.u8 0).cells = #[Value.int .u8 0] from rfl, toList_madeCells_one]
      simp [fillB, List.map_const']
    rw [e]
    simp
  obtain ⟨B, hB⟩ : ∃ B, w1.heap.size = B := ⟨_, rfl⟩
  have hH := heap_alloc_new w1 (.cells (fillB x m 0).toArray 5)
  have hL := b1.alloc b1.size (.cells (fillB x m 0).toArray 5)
  have hwB : w.heap.size ≤ B := by rw [← hB]; exact b1.size
  rw [hB] at hH hmk
  generalize w1.alloc (.cells (fillB x m 0).toArray 5) = w2 at *
  have HH := Lib.hid hH
  have HL := Lib.hid hL
  clear hH hL hB b1
  go_wp2_with fail
  clear hmk
  go_loopw [7] (fun i wr => ∃ k : Nat, k ≤ m ∧ i = .int .i64 k ∧ wr.heap[B]? = some (.cells (fillB x m k).toArray 5 (0, 0)) ∧ Below w.heap.size w wr) (fun i _ => m - (intOf i).toNat)
  case atStart => exact ⟨0, Nat.zero_le _, rfl, HH.out, HL.out⟩
  case round =>
    obtain ⟨k, hk, rfl, hh, hb⟩ := hrel
    clear HH HL
    have HH := Lib.hid hh
    have HL := Lib.hid hb
    clear hh hb
    by_cases hlt : k < m
    · have cz : wr.cell? ⟨B, k, none⟩ = some (.int .u8 0) := by
        rw [cell_of_row _ _ _ _ _ _ HH.out, List.getElem?_toArray, fillB_get _ _ _ _ hlt, if_neg (by omega)]
      have fz : wr.frozen? ⟨B, k, none⟩ = false := frozen_of_row _ _ _ _ _ HH.out
      have h2 : (wr.setCell ⟨B, k, none⟩ (.int .u8 (x.toNat : Nat))).heap[B]? = some (.cells (fillB x m (k + 1)).toArray 5 (0, 0)) := by
        rw [heap_setCell_same wr B k _ _ _ HH.out, fillB_set _ _ _ hlt]
      have H2 := Lib.hid h2
      clear h2 CP CX CV
      go_wp2_with fail
      exact ⟨⟨k + 1, by omega, by go_num, H2.out, HL.out.setCell (p := ⟨B, k, none⟩) hwB _⟩, by simp [intOf]; omega⟩
    · obtain rfl : k = m := by omega
      have hcv := CV.out wr B HH.out
      have C4 := CP wr
      have hBl : B < wr.heap.size := (Array.getElem?_eq_some_iff.1 HH.out).1
      clear CP
      go_wp2_with fail
      refine C4.out.mono ?_
      rintro r w3 ⟨a, cap, l, rfl, ht, b3, hl, hch⟩
      obtain ⟨e1, e2, _⟩ := hch.back
      have C3 := CX w3 a l cap ht hl
      rw [e1, e2, show (⟨z.data.toList.toArray⟩ : ByteArray) = z from by cases z; simp] at C3
      obtain ⟨q, hq⟩ : ∃ q : Nat, k / 258 = q := ⟨_, rfl⟩
      have e4 : l.length ≤ 4 + q := by
        have h0 : tailL (ByteArray.mk #[]).data.toList = [] := rfl
        rw [h0, List.nil_append, HZL.out, List.length_replicate] at hch
        have := (mono (Q := fun p t => Full (List.replicate k x) p t) (fun p t h => h rfl) hch).runs
        omega
      have h3 := (b3.block B hBl).trans HH.out
      have H3 := Lib.hid h3
      have B3 := Lib.hid (HL.out.trans (b3.mono HL.out.size))
      have hB3 : B < w3.heap.size := Nat.lt_of_lt_of_le hBl b3.size
      clear b3 h3 ht C4 CX hch e1 e2 HH HL hcv
      obtain ⟨N, hN⟩ : ∃ N, l.length = N := ⟨_, rfl⟩
      rw [hN] at C3 e4 hl ⊢
      clear hN
      have f1 : ((k : Int).tdiv 258) = (q : Int) := by rw [Int.tdiv_eq_ediv_of_nonneg (by omega)]; omega
      have f2 : ((k : Int) / 258) = (q : Int) := by omega
      have e5 : decide ((N : Int) ≤ 4 + q) = true := decide_eq_true (by omega)
      have e6 : decide (N ≤ 4 + q) = true := decide_eq_true e4
      have hq2 : q ≤ 20 := by omega
      clear hq
      go_wp2_with fail
      refine C3.out.mono ?_
      rintro r w4 ⟨rfl, b4⟩
      have hcv := CV.out w4 B ((b4.block B hB3).trans H3.out)
      have B4 := Lib.hid (B3.out.trans (b4.mono B3.out.size))
      clear B3 b4 C3 H3
      go_wp2_with fail
      go_ret
      exact ⟨rfl, B4.out⟩

set_option maxRecDepth 100000 in
theorem lifted (os : Os) (started : os.Started) (H : Type) (enc : TypeId × Value → H) :
    ReturnsInHanded {} Try.checked os 6 .any (Rows.lzRunsSpec.pre6 enc Try.prog Try.f6 Rows.lzRunsRow.domain false) (Rows.lzRunsSpec.post enc Try.prog Try.f6 false true false false) := by
  refine returnsInHanded_of_change (C := Try.checked) own started (by kernel_rfl) Try.func6
    (ChangeSpec.witness6 (enc := enc) (C := Try.checked) false ⟨#[], #[.int .u8 0, .int .i64 0], []⟩ 8 (by kernel_rfl) (by kernel_rfl) (by kernel_rfl) (by kernel_rfl)) ?_
  intro W base args ds gs before hval0 hW hcnd _
  have hval : ∀ (j : Nat) t v, Try.f6.params[j]? = some t → args[j]? = some v → Value.okWide Try.prog W .any base t v := hval0
  have hW' := hW
  obtain ⟨p, q, hA0, hV, rfl, hfz, hnd⟩ := hW
  have hA : DataW.TrodAll enc Try.prog W 0 (fun _ => true) true Try.f6.params.toList args.toList ds p := hA0
  rw [Try.params6] at hA hval
  obtain ⟨v0, vs0, d0, ds0, p0, q0, hargs, rfl, rfl, h0, r0⟩ := trodAll_cons hA
  obtain ⟨v1, vs1, d1, ds1, p1, q1, rfl, rfl, rfl, h1, r1⟩ := trodAll_cons r0
  obtain ⟨rfl, rfl, rfl⟩ := trodAll_nil r1
  obtain rfl : args = #[v0, v1] := by cases args; simp_all
  obtain ⟨rfl, rfl⟩ := trodVars_none hV
  have k0 := h0
  have lt0 : ∀ x ∈ p0, x.block < W.heap.size := by obtain ⟨m, hm⟩ := k0; exact DataW.trod_lt m _ _ _ hm
  obtain ⟨a0, rfl, rfl, rfl, w0⟩ := open_int Try.underlying5 (hval 0 5 v0 rfl rfl) h0
  have k1 := h1
  have lt1 : ∀ x ∈ p1, x.block < W.heap.size := by obtain ⟨m, hm⟩ := k1; exact DataW.trod_lt m _ _ _ hm
  obtain ⟨a1, rfl, rfl, rfl, w1⟩ := open_int Try.underlying3 (hval 1 3 v1 rfl rfl) h1
  clear hA0 hval0
  refine (walk a0 a1 W w0).mono fun e W' ⟨he, bel⟩ => ?_
  subst he
  exact ⟨_, rfl, _, _, _, [], _, [], hW', trodAll_mk1 (shut_bool Try.underlying4 _), (trodAll_cons_mk (Below.trod laidOut (by kernel_rfl) (of_decide_eq_true (by kernel_rfl)) k0 bel lt0) (trodAll_cons_mk (Below.trod laidOut (by kernel_rfl) (of_decide_eq_true (by kernel_rfl)) k1 bel lt1) trodAll_mk0)), rfl, bel.frame _, fun h => by cases h⟩

theorem over : Rows.lzRunsRow.holds Try.pinned (OpenSpec.ofChange Rows.lzRunsSpec) :=
  OpenClaim.holds_of_wide 6 Try.f6 rfl rfl rfl rfl rfl rfl rfl ⟨rfl, rfl, rfl, rfl, rfl⟩ rfl rfl rfl rfl rfl (by kernel_rfl) Try.func6 (by kernel_rfl)
    (of_decide_eq_true (by kernel_rfl)) (by unfold Func.isWrapper; first | (rw [if_pos (by decide +kernel)]; kernel_rfl) | (rw [if_neg (by decide +kernel)]; exact ⟨rfl, rfl⟩))
    (fun os started H enc _ => lifted os started H enc)

theorem proved : Rows.LzRunsSaid := over
end Go.Proofs.Ytlafenookbdhoaa.lzRuns
