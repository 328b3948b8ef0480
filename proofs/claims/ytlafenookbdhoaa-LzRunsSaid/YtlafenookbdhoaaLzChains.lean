/-
  Contract of lz.chains.
-/
import Derived.Test.YtlafenookbdhoaaLzRep
import Derived.Test.YtlafenookbdhoaaLzChain
import Derived.Maps.OwnSet
import Derived.Maps.OwnOps
import Derived.Maps.Views
namespace Go.Proofs.Ytlafenookbdhoaa.Lz
open Go.ChangeShapes Go.WideShapes Go.ChangeAt Go.RowKit Go.Maps
set_option linter.unusedVariables false

theorem kint : Keyed Try.prog 3 := int_keyed Try.underlying3
theorem zeroI (w : World) : (zeroValue 3).run Try.prog w = .ok (.int .i64 0) w := by kernel_rfl

/-- The map reads as F. -/
def MapIs (D : DataW Unit) (F : Nat → Option Nat) : Prop :=
  (∀ x : Nat, Maps.has D (.int .i64 x) = (F x).isSome) ∧ ∀ (x v : Nat), F x = some v → D.atKey (.int .i64 x) (.lit (.int .i64 0)) = .lit (.int .i64 v)

theorem MapIs.start : MapIs (.map []) (fun _ => none) := ⟨fun x => rfl, fun x v h => nomatch h⟩
theorem lit_ne {x y : Nat} (h : x ≠ y) : (Lit.int .i64 (x : Nat)) ≠ Lit.int .i64 (y : Nat) := fun e => h (by
  simp only [Lit.int.injEq, true_and] at e
  omega)
theorem key_lit (x : Nat) : WideAt.IsKeyLit (Lit.int .i64 (x : Nat)) := trivial
theorem MapIs.upd {D : DataW Unit} {F : Nat → Option Nat} (h : MapIs D F) (hD : IsMap D) (x p : Nat) : MapIs (D.put (.int .i64 x) (.lit (.int .i64 p))) (upd F x p) := by
  refine ⟨fun y => ?_, fun y v hy => ?_⟩
  · unfold Lz.upd
    by_cases hyx : y = x
    · subst hyx
      rw [has_put_same hD (key_lit _), if_pos rfl]; rfl
    · rw [has_put_other (lit_ne hyx), if_neg hyx]; exact h.1 y
  · unfold Lz.upd at hy
    by_cases hyx : y = x
    · subst hyx
      rw [if_pos rfl] at hy
      simp only [Option.some.injEq] at hy
      subst hy
      rw [atKey_put_same hD (key_lit _)]
    · rw [if_neg hyx] at hy
      rw [atKey_put_other (lit_ne hyx)]; exact h.2 y v hy

theorem drop_beg (s : ByteArray) (p : Nat) : beg (s.extract p s.size).data.toList 0 = beg s.data.toList p := by
  have e : (s.extract p s.size).data.toList = s.data.toList.drop p := by
    simp [ByteArray.data_extract]
    apply List.take_of_length_le
    simp
  rw [e]
  unfold beg
  simp only [drop_getD, Nat.add_zero, Nat.zero_add]

/-- Numbers as cells. -/
def cellsI (A : List Int) : List Value := A.map fun x => Value.int .i64 x
theorem cellsI_fill (m : Nat) : fill m m = cellsI (List.replicate m (-1)) := by simp [fill, cellsI]
theorem cellsI_set (A : List Int) (v : Nat) (x : Int) : (cellsI A).toArray.setIfInBounds v (.int .i64 x) = (cellsI (A.set v x)).toArray := by
  unfold cellsI
  rw [List.setIfInBounds_toArray, List.map_set]
theorem cellsI_get (A : List Int) (v : Nat) (h : v < A.length) : (cellsI A).toArray[v]? = some (.int .i64 A[v]) := by
  simp [cellsI, h]

set_option maxRecDepth 10000 in
set_option maxHeartbeats 2000000 in
theorem chains_any (s : ByteArray) (start : Nat) (w : World) (hs : s.size ≤ 1000000) (hst : start ≤ 1000000) :
    Calls Try.prog 22 #[.string s, .int .i64 start] w fun e w' => ∃ b A, e = .returned (.slice (some ⟨b, 0, none⟩) s.size s.size) ∧ w.heap.size ≤ b ∧
      w'.heap[b]? = some (.cells (cellsI A).toArray 3 (0, 0)) ∧ Below w.heap.size w w' ∧ Links s.data.toList (start = 0) A := by
  have hmm := @run_makeMap Try.prog
  have hSL : s.data.toList.length = s.size := by simp
  have C1 := Lib.hid (repeat_any w.heap.size s.size (w.alloc (.cells #[.int .i64 (-1)] 3)) (by rw [cell_of_row _ _ 0 _ _ _ (heap_alloc_new _ _)]; rfl) (by simp) hs)
  go_enter Try.func22, Try.ntmps22
  go_wp2_with fail
  refine C1.out.mono ?_
  rintro r w1 ⟨rfl, hB1, hb1⟩
  clear C1
  have hb0 : Below w.heap.size w w1 := ((Below.refl _ _).alloc (Nat.le_refl _) _).trans (hb1.mono (by simp))
  have hB0 : w.heap.size ≤ (w.alloc (.cells #[.int .i64 (-1)] 3)).heap.size := by simp
  clear hb1
  generalize (w.alloc (.cells #[.int .i64 (-1)] 3)).heap.size = B at *
  go_wp2_with fail
  have hBM : B < w1.heap.size := (Array.getElem?_eq_some_iff.1 hB1).1
  have hB2 : (w1.alloc (.map #[] 0)).heap[B]? = some (.cells (cellsI (List.replicate s.size (-1))).toArray 3 (0, 0)) := by
    rw [Below.heap_alloc _ _ _ hBM, ← cellsI_fill]; exact hB1
  have hO : (w1.alloc (.map #[] 0)).ownsMap Try.prog 3 (plainElem (H := Unit) Try.prog 3) w1.heap.size 0 (.map []) := World.ownsMap_made _ _ _ _
  have hb2 : Below w.heap.size w (w1.alloc (.map #[] 0)) := hb0.alloc hb0.size _
  have hU := Upto.start s.data.toList start
  rw [hSL] at hU
  have HB2 := Lib.hid hB2
  have HO := Lib.hid hO
  have HL := Lib.hid hb2
  have HU := Lib.hid hU
  have hwM : w.heap.size ≤ w1.heap.size := hb0.size
  clear hB1 hB2 hO hb0 hb2 hU hmm
  generalize w1.alloc (.map #[] 0) = w2 at *
  generalize w1.heap.size = M at *
  have hz3 : (((s.size : Int) - 3) + 1).toNat = s.size - 2 := by omega
  go_loopw [7] (fun i wr => ∃ (z : Int) (A : List Int) (F : Nat → Option Nat) (D : DataW Unit) (k : Nat), i = .int .i64 z ∧ -3 ≤ z ∧ z + 3 ≤ s.size ∧ Upto s.data.toList start (z + 1).toNat A F ∧ wr.heap[B]? = some (.cells (cellsI A).toArray 3 (0, 0)) ∧
      wr.ownsMap Try.prog 3 (plainElem (H := Unit) Try.prog 3) M k D ∧ MapIs D F ∧ k + (z + 1).toNat ≤ s.size ∧ Below w.heap.size w wr) (fun i _ => (intOf i + 1).toNat)
  case atStart => exact ⟨(s.size : Int) - 3, _, _, _, 0, rfl, by omega, by omega, by rw [hz3]; exact HU.out, HB2.out, HO.out, MapIs.start, by omega, HL.out⟩
  case round =>
    obtain ⟨z, A, F, D, k, rfl, hz1, hz2, hU, hB, hO, hD, hk, hb⟩ := hrel
    clear HB2 HO HL HU hz3
    have HL := Lib.hid hb
    have HO := Lib.hid hO
    have HB := Lib.hid hB
    clear hb hO hB
    by_cases hlt : z < 0
    · have e0 : (z + 1).toNat = 0 := by omega
      rw [e0] at hU
      have hL := Lib.hid hU.links
      clear hU hD
      go_wp2_with fail
      go_ret
      exact ⟨B, A, rfl, hB0, HB.out, HL.out, hL.out⟩
    · obtain ⟨p, rfl⟩ : ∃ p : Nat, z = p := ⟨z.toNat, by omega⟩
      have e1 : ((p : Int) + 1).toNat = p + 1 := by omega
      rw [e1] at hU hk
      have hp3 : p + 3 ≤ s.size := by omega
      have CB := Lib.hid (beginning_any (s.extract p s.size) wr (by simp; omega) (by simp; omega))
      rw [drop_beg] at CB
      have hD1 := hD.1 (beg s.data.toList p)
      have hD2 := hD.2 (beg s.data.toList p)
      have HUP := Lib.hid (hD.upd HO.out.isMap (beg s.data.toList p) p)
      have HD := Lib.hid hD
      have hbl : beg s.data.toList p < 16777216 := begK_lt s.data.toList p 3
      have hfst := hU.first (beg s.data.toList p)
      have hAl := hU.len
      rw [hSL] at hAl
      have HIT := Lib.hid (fun v => hU.hit (v := v) (by rw [hSL]; exact hp3))
      have MISS := Lib.hid (hU.miss (by rw [hSL]; exact hp3))
      have PASS := Lib.hid (fun h => hU.pass h)
      rw [hSL] at hfst
      generalize beg s.data.toList p = x at *
      have HKX : Hid (keyOf Try.prog 3 (.int .i64 (x : Nat)) = some (.int .i64 (x : Nat))) := Lib.hid (keyOf_int_mk Try.underlying3 (WalkArith.wf_i64 (by omega)))
      have HMB := Lib.hid (show M ≠ B by omega)
      have hp1 : (((p : Int) - 1) + 1).toNat = p := by omega
      have WFP : Hid ((Lit.int .i64 (p : Nat)).wf = true) := Lib.hid (WalkArith.wf_i64 (by omega))
      clear hU hD hSL
      cases hF : F x with
      | some v =>
        obtain ⟨v1, v2, _⟩ := hfst v hF
        rw [hF] at hD1
        have HD1 := Lib.hid (show Maps.has D (.int .i64 (x : Nat)) = true from hD1)
        have HC : Hid (∀ c : Int, D.atKey (.int .i64 (x : Nat)) (.lit (.int .i64 0)) = .lit (.int .i64 c) → c = v) := Lib.hid fun c hc => by
          have := hc.symm.trans (hD2 v hF)
          simpa using this
        have HNX := Lib.hid (HIT.out v hF)
        have cz : wr.cell? ⟨B, v, none⟩ = some (.int .i64 (A[v]'(by omega))) := by rw [cell_of_row _ _ _ _ _ _ HB.out, cellsI_get]
        have fz : wr.frozen? ⟨B, v, none⟩ = false := frozen_of_row _ _ _ _ _ HB.out
        have hB3 : (wr.setCell ⟨B, v, none⟩ (.int .i64 (p : Nat))).heap[B]? = some (.cells (cellsI (A.set v p)).toArray 3 (0, 0)) := by
          rw [heap_setCell_same wr B v _ _ _ HB.out, cellsI_set]
        have HB3 := Lib.hid hB3
        have HO3 := Lib.hid (HO.out.setCell (a := ⟨B, v, none⟩) HMB.out (.int .i64 (p : Nat)))
        have HL3 := Lib.hid (HL.out.setCell (p := ⟨B, v, none⟩) hB0 (.int .i64 (p : Nat)))
        generalize A[v]'(by omega) = y at *
        clear hfst hD1 hD2 hF HIT MISS PASS HD hB3 HB HL
        go_wp2_with fail
        refine CB.out.mono ?_
        rintro r w3 ⟨rfl, rfl⟩
        clear CB
        go_wp2_with (first
          | (at_lookup; refine wpList_lookup_own_ok_int _ rfl _ _ 47 rfl 3 3 .i64 kint Try.underlying47 Try.underlying3 (zeroI _) M k D rfl HO.out _ (.int .i64 (x : Nat)) rfl HKX.out ?_; intro c hat hwc; have hcv := HC.out c hat; subst hcv; rw [HD1.out]; clear hat hwc)
          | (at_mapUpdate; refine wpList_mapUpdate_own _ rfl _ _ _ 47 rfl 3 3 kint Try.underlying47 (plainElem Try.prog 3) M k D rfl HO3.out (by unfold maxLen; omega) _ _ (.int .i64 (x : Nat)) rfl rfl HKX.out _ [] (plainElem_int Try.underlying3 WFP.out) ?_; intro w4 ho4 hg4))
        have hB4 : w4.heap[B]? = some (.cells (cellsI (A.set v p)).toArray 3 (0, 0)) := by
          rw [hg4.block B (Array.getElem?_eq_some_iff.1 HB3.out).1 (fun e => HMB.out (by simpa using e.symm))]; exact HB3.out
        have hL4 := HL3.out.grown hg4 HL3.out.size (fun j hj => by simp at hj; omega)
        exact ⟨⟨(p : Int) - 1, A.set v p, upd F x p, _, k + 1, rfl, by omega, by omega, by rw [hp1]; exact HNX.out, hB4, ho4, HUP.out, by rw [hp1]; omega, hL4⟩, by simp [intOf]⟩
      | none =>
        rw [hF] at hD1
        have HD1 := Lib.hid (show Maps.has D (.int .i64 (x : Nat)) = false from hD1)
        by_cases hps : start ≤ p
        · have HNX := Lib.hid (MISS.out hF)
          have hps2 : decide ((start : Int) ≤ (p : Int)) = true := decide_eq_true (by omega)
          have hps3 : decide (start ≤ p) = true := decide_eq_true hps
          clear hfst hD1 hD2 hF HIT MISS PASS HD
          go_wp2_with fail
          refine CB.out.mono ?_
          rintro r w3 ⟨rfl, rfl⟩
          clear CB
          go_wp2_with (first
            | (at_lookup; refine wpList_lookup_own_ok_int _ rfl _ _ 47 rfl 3 3 .i64 kint Try.underlying47 Try.underlying3 (zeroI _) M k D rfl HO.out _ (.int .i64 (x : Nat)) rfl HKX.out ?_; intro c hat hwc; rw [HD1.out]; clear hat hwc)
            | (at_mapUpdate; refine wpList_mapUpdate_own _ rfl _ _ _ 47 rfl 3 3 kint Try.underlying47 (plainElem Try.prog 3) M k D rfl HO.out (by unfold maxLen; omega) _ _ (.int .i64 (x : Nat)) rfl rfl HKX.out _ [] (plainElem_int Try.underlying3 WFP.out) ?_; intro w4 ho4 hg4))
          have hB4 : w4.heap[B]? = some (.cells (cellsI A).toArray 3 (0, 0)) := by
            rw [hg4.block B (Array.getElem?_eq_some_iff.1 HB.out).1 (fun e => HMB.out (by simpa using e.symm))]; exact HB.out
          have hL4 := HL.out.grown hg4 HL.out.size (fun j hj => by simp at hj; omega)
          exact ⟨⟨(p : Int) - 1, A, upd F x p, _, k + 1, rfl, by omega, by omega, by rw [hp1]; exact HNX.out, hB4, ho4, HUP.out, by rw [hp1]; omega, hL4⟩, by simp [intOf]⟩
        · have HNX := Lib.hid (PASS.out (by omega))
          have hps2 : decide ((start : Int) ≤ (p : Int)) = false := decide_eq_false (by omega)
          have hps3 : decide (start ≤ p) = false := decide_eq_false hps
          clear hfst hD1 hD2 hF HIT MISS PASS
          go_wp2_with fail
          refine CB.out.mono ?_
          rintro r w3 ⟨rfl, rfl⟩
          clear CB
          go_wp2_with (at_lookup; refine wpList_lookup_own_ok_int _ rfl _ _ 47 rfl 3 3 .i64 kint Try.underlying47 Try.underlying3 (zeroI _) M k D rfl HO.out _ (.int .i64 (x : Nat)) rfl HKX.out ?_; intro c hat hwc; rw [HD1.out]; clear hat hwc)
          exact ⟨⟨(p : Int) - 1, A, F, D, k, rfl, by omega, by omega, by rw [hp1]; exact HNX.out, HB.out, HO.out, HD.out, by rw [hp1]; omega, HL.out⟩, by simp [intOf]⟩

end Go.Proofs.Ytlafenookbdhoaa.Lz
