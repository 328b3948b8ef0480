/-
  The program of layer 17 (rre): the ground, counted by a map and ranged over in any order.
-/
import Derived.Test.YtmjjbapahgejmaaRreSays
import Derived.Maps.OwnSet
import Derived.Maps.OwnOps
import Derived.Maps.Views
import Derived.Maps.RangeWalk
namespace Go.Proofs.Ytmjjbapahgejmaa.Rre
open Go.ChangeShapes Go.WideShapes Go.ChangeAt Go.RowKit Go.Maps Lz RowG RegVal Pln
set_option linter.unusedVariables false
set_option maxRecDepth 100000

theorem kint : Keyed Try.prog 3 := int_keyed Try.underlying3
theorem zeroI (w : World) : (zeroValue 3).run Try.prog w = .ok (.int .i64 0) w := by kernel_rfl
/-- The map counts a row. -/
def MapC (D : DataW Unit) (l : List Int) : Prop := (∀ x, Maps.has D (.int .i64 x) = decide (x ∈ l)) ∧ ∀ x, D.atKey (.int .i64 x) (.lit (.int .i64 0)) = .lit (.int .i64 (l.count x))
theorem MapC.start : MapC (.map []) [] := ⟨fun x => by simp [Maps.has], fun x => by simp [DataW.atKey]⟩
theorem lit_neI {x y : Int} (h : x ≠ y) : (Lit.int .i64 x) ≠ Lit.int .i64 y := fun e => h (by simpa using e)
theorem key_litI (x : Int) : WideAt.IsKeyLit (Lit.int .i64 x) := trivial
theorem MapC.upd {D : DataW Unit} {l : List Int} (h : MapC D l) (hD : IsMap D) (x : Int) : MapC (D.put (.int .i64 x) (.lit (.int .i64 ((l.count x : Nat) + 1 : Int)))) (l ++ [x]) := by
  refine ⟨fun y => ?_, fun y => ?_⟩
  · by_cases hyx : y = x
    · subst hyx
      rw [has_put_same hD (key_litI y)]
      simp
    · rw [has_put_other (lit_neI hyx), h.1 y]
      simp [hyx]
  · by_cases hyx : y = x
    · subst hyx
      rw [atKey_put_same hD (key_litI y)]
      simp [List.count_append]
    · rw [atKey_put_other (lit_neI hyx), h.2 y, List.count_append, List.count_singleton]
      simp [Ne.symm hyx]
/-- The best of those that came. -/
def BestOf (vals : List Int) (left : Lit → Bool) (g : Int) (m : Nat) : Prop :=
  ((g = 0 ∧ m = 0) ∨ (g ∈ vals ∧ vals.count g = m ∧ 0 < m)) ∧ ∀ x, x ∈ vals → left (.int .i64 x) = false → vals.count x < m ∨ (vals.count x = m ∧ g ≤ x)
theorem BestOf.done {vals : List Int} {left : Lit → Bool} {g : Int} {m : Nat} (h : BestOf vals left g m) (hl : ∀ k, left k = false) : groundL vals = g := by
  by_cases h0 : vals = []
  · subst h0
    rcases h.1 with ⟨rfl, _⟩ | ⟨h1, _⟩
    · rfl
    · simp at h1
  · obtain ⟨y, hy⟩ := List.exists_mem_of_ne_nil _ h0
    have hc : 0 < vals.count y := List.count_pos_iff.2 hy
    rcases h.1 with ⟨rfl, rfl⟩ | ⟨h1, h2, h3⟩
    · have := h.2 y hy (hl _)
      omega
    · obtain ⟨i, hi, e⟩ := List.getElem_of_mem h1
      refine ground_eq ⟨⟨i, hi, by rw [px_get hi]; exact e⟩, fun j hj => ?_⟩
      rw [h2]
      have := h.2 (px vals j) (by rw [px_get hj]; exact List.getElem_mem _) (hl _)
      omega
theorem sameKey_int {x y : Int} : (Lit.int .i64 x).sameKey (.int .i64 y) = decide (x = y) := by
  by_cases h : x = y
  · subst h; simp [Lit.sameKey]
  · rw [sameKey_ne (lit_neI h)]; simp [h]
theorem BestOf.keep {vals : List Int} {left : Lit → Bool} {g x : Int} {m : Nat} (h : BestOf vals left g m) (hx : vals.count x < m ∨ (vals.count x = m ∧ g ≤ x)) : BestOf vals (fun z => left z && !z.sameKey (.int .i64 x)) g m := by
  refine ⟨h.1, fun y hy hl => ?_⟩
  simp only [sameKey_int] at hl
  by_cases e : y = x
  · subst e; exact hx
  · refine h.2 y hy ?_
    simpa [e] using hl
theorem BestOf.take {vals : List Int} {left : Lit → Bool} {g x : Int} {m : Nat} (h : BestOf vals left g m) (hm : x ∈ vals) (hx : m < vals.count x ∨ (vals.count x = m ∧ x < g)) : BestOf vals (fun z => left z && !z.sameKey (.int .i64 x)) x (vals.count x) := by
  refine ⟨.inr ⟨hm, rfl, List.count_pos_iff.2 hm⟩, fun y hy hl => ?_⟩
  simp only [sameKey_int] at hl
  by_cases e : y = x
  · subst e; exact .inr ⟨rfl, Int.le_refl _⟩
  · have := h.2 y hy (by simpa [e] using hl)
    omega
set_option maxHeartbeats 4000000 in
theorem ground_any (vals : List Int) (vv : Value) (w : World) (hv : SW w vv vals) (hm : vals.length ≤ 100000000) (hwf : Wfs vals) :
    Calls Try.prog 12 #[vv] w fun e w' => e = .returned (.int .i64 (groundL vals)) ∧ Below w.heap.size w w' := by
  obtain ⟨va, n, vcap, rfl, hvl, hvr⟩ := hv.read
  have hmm := @run_makeMap Try.prog
  have HV := Lib.hid hvr
  have HWF : RowKit.Hid (∀ i, i < n → (Lit.int .i64 (px vals i)).wf = true) := Lib.hid (fun i hi => by rw [px_get (by omega)]; exact hwf _ (List.getElem_mem _))
  have HT : RowKit.Hid (∀ k, k < n → vals.take (k + 1) = vals.take k ++ [px vals k]) := Lib.hid (fun k hk => by rw [List.take_succ_eq_append_getElem (by omega), ← px_get (by omega)])
  have HTC : RowKit.Hid (∀ k x, (vals.take k).count x ≤ n) := Lib.hid (fun k x => by have := count_le (vals := vals) (k := k) (v := x); omega)
  have HTE : RowKit.Hid (vals.take n = vals) := Lib.hid (List.take_of_length_le (by omega))
  have HT0 : RowKit.Hid (vals.take 0 = []) := Lib.hid rfl
  have HCN : RowKit.Hid (∀ x, vals.count x ≤ n) := Lib.hid (fun x => by rw [← hvl]; exact List.count_le_length)
  rw [hvl] at hm
  clear hv hvr hvl
  go_enter Try.func12, Try.ntmps12
  go_wp2_with fail
  have hO : (w.alloc (.map #[] 0)).ownsMap Try.prog 3 (plainElem (H := Unit) Try.prog 3) w.heap.size 0 (.map []) := World.ownsMap_made _ _ _ _
  have hb2 : Below w.heap.size w (w.alloc (.map #[] 0)) := (Below.refl _ _).alloc (Nat.le_refl _) _
  have HO := Lib.hid hO
  have HL := Lib.hid hb2
  clear hO hb2 hmm
  generalize w.alloc (.map #[] 0) = w2 at *
  go_loopw [13] (fun i wr => ∃ (k q : Nat) (D : DataW Unit), i = .int .i64 k ∧ k ≤ n ∧ wr.ownsMap Try.prog 3 (plainElem (H := Unit) Try.prog 3) w.heap.size q D ∧ MapC D (vals.take k) ∧ q ≤ k ∧ Below w.heap.size w wr) (fun i _ => n - (intOf i).toNat)
  case atStart => exact ⟨0, 0, _, rfl, Nat.zero_le _, HO.out, by rw [HT0.out]; exact MapC.start, Nat.le_refl _, HL.out⟩
  case round =>
    obtain ⟨k, q, D, rfl, hk, hO, hD, hq, hb⟩ := hrel
    clear HO HL
    have HO := Lib.hid hO
    have HL := Lib.hid hb
    have HD := Lib.hid hD
    by_cases hlt : k < n
    · have dk : decide ((k : Int) < (n : Int)) = true := decide_eq_true (by omega)
      obtain ⟨g, off, rfl, hc⟩ := HV.out _ hb (by omega)
      have q0 := hc k hlt
      have HX := Lib.hid (HT.out k hlt)
      have hW := HWF.out k hlt
      have hcn := HTC.out k (px vals k)
      have HUP := Lib.hid (hD.upd HO.out.isMap (px vals k))
      have HAT := Lib.hid (hD.2 (px vals k))
      have HKX : Hid (keyOf Try.prog 3 (.int .i64 (px vals k)) = some (.int .i64 (px vals k))) := Lib.hid (keyOf_int_mk Try.underlying3 hW)
      generalize (vals.take k).count (px vals k) = N at *
      generalize px vals k = v at *
      have WFN : Hid ((Lit.int .i64 ((N : Nat) + 1 : Int)).wf = true) := Lib.hid (WalkArith.wf_i64 (by omega))
      have HC : Hid (∀ c : Int, D.atKey (.int .i64 v) (.lit (.int .i64 0)) = .lit (.int .i64 c) → c = N) := Lib.hid fun c hc => by
        have := hc.symm.trans HAT.out
        simpa using this
      clear hO hb hD hc hW HAT
      go_wp2_with (first
        | (at_lookup; refine wpList_lookup_own_int _ rfl _ _ 59 rfl 3 3 .i64 kint Try.underlying59 Try.underlying3 (zeroI _) w.heap.size q D rfl HO.out _ (.int .i64 v) rfl HKX.out ?_; intro c hat hwc; have hcv := HC.out c hat; subst hcv; clear hat hwc)
        | (at_mapUpdate; refine wpList_mapUpdate_own _ rfl _ _ _ 59 rfl 3 3 kint Try.underlying59 (plainElem Try.prog 3) w.heap.size q D rfl HO.out (by unfold maxLen; omega) _ _ (.int .i64 v) rfl rfl HKX.out _ [] (plainElem_int Try.underlying3 WFN.out) ?_; intro w4 ho4 hg4))
      have hL4 := HL.out.grown hg4 HL.out.size (fun j hj => by simp at hj; omega)
      exact ⟨⟨k + 1, q + 1, _, by go_num, by omega, ho4, by rw [HX.out]; exact HUP.out, by omega, hL4⟩, by simp [intOf]; omega⟩
    · obtain rfl : k = n := by omega
      have dk : decide ((k : Int) < (k : Int)) = false := decide_eq_false (by omega)
      have hD2 := HD.out
      rw [HTE.out] at hD2
      have HD2 := Lib.hid hD2
      clear hO hb hD hD2 HD
      go_wp2_with (at_range; refine wpList_range_own _ rfl _ 59 rfl 3 3 kint Try.underlying59 _ w.heap.size q D rfl HO.out ?_; intro w0 hrg0 hg0 hs0)
      have hsz0 : w.heap.size ≤ wr.heap.size := HL.out.size
      have hb0 := Lib.hid (HL.out.grown hg0 hsz0 (fun j hj => by simp at hj))
      generalize hRR : wr.heap.size = R at *
      clear HL hg0 hs0
      go_frame
      go_loopw [6, 7] (fun vg vm wq => ∃ (left : Lit → Bool) (cnt : Nat) (g : Int) (m : Nat), vg = .int .i64 g ∧ vm = .int .i64 m ∧ m ≤ k ∧ wq.ranges Try.prog 3 (plainElem (H := Unit) Try.prog 3) w.heap.size R q D left cnt ∧ (∀ z, left z = true → Maps.has D z = true) ∧ BestOf vals left g m ∧ Below w.heap.size w wq) (fun _ _ wq => wq.rangeLeft w.heap.size R)
      case atStart => exact ⟨_, _, 0, 0, rfl, rfl, Nat.zero_le _, hrg0, fun z h => h, ⟨.inl ⟨rfl, rfl⟩, fun x hx hl => by rw [HD2.out.1] at hl; simp [hx] at hl⟩, hb0.out⟩
      case round =>
        obtain ⟨left, cnt, g, m, rfl, rfl, hmk, hrg, hlh, hB, hbq⟩ := hrel
        have HB := Lib.hid hB
        have HBQ := Lib.hid hbq
        have HRG := Lib.hid hrg
        have HLH := Lib.hid hlh
        have HME := Lib.hid hrg.left_eq
        clear hB hbq hrg hrg0 hb0 hlh
        go_wp2_with (at_next; refine wpList_next_ranges_ii _ rfl _ rfl 3 3 .i64 .i64 kint Try.underlying3 Try.underlying3 w.heap.size R q D left cnt rfl HRG.out ?_ ?_)
        · intro _ hl0
          have HE := Lib.hid (HB.out.done hl0)
          clear hl0
          go_wp2_with fail
          go_ret
          exact ⟨retI HE.out.symm, HBQ.out⟩
        · intro x c w1 cnt1 hwx hwc hlx hat hrg1 hlt1 hg1 hs1 hen
          have hcv : c = (vals.count x : Nat) := by
            have := (hat (.lit (.int .i64 0))).symm.trans (HD2.out.2 x)
            simpa using this
          subst hcv
          have hmem : x ∈ vals := by
            have := HLH.out _ hlx
            rw [HD2.out.1] at this
            simpa using this
          have HLH2 : RowKit.Hid (∀ z, (left z && !z.sameKey (.int .i64 x)) = true → Maps.has D z = true) := Lib.hid (fun z h => HLH.out z (by simp only [Bool.and_eq_true] at h; exact h.1))
          have HB1 := Lib.hid (HBQ.out.grown hg1 HBQ.out.size (fun j hj => by cases hj; exact hsz0))
          have HRG1 := Lib.hid hrg1
          have HME1 := Lib.hid hrg1.left_eq
          have HLT1 := Lib.hid hlt1
          have hcx := HCN.out x
          have KEEP := Lib.hid (fun h => HB.out.keep (x := x) h)
          have TAKE := Lib.hid (fun h => HB.out.take (x := x) hmem h)
          clear hat hrg1 hlt1 hg1 hs1 hlx hwc HB hmem HLH
          generalize vals.count x = c at *
          have fin : ∀ {a : Prop}, a → a := fun h => h
          by_cases h1 : m < c
          · have d1 : decide ((m : Int) < (c : Int)) = true := decide_eq_true (by omega)
            have d1' : decide (m < c) = true := decide_eq_true h1
            have HN := Lib.hid (TAKE.out (.inl h1))
            clear KEEP TAKE
            go_wp2_with fail
            exact ⟨⟨_, cnt1, x, c, rfl, rfl, by omega, HRG1.out, HLH2.out, HN.out, HB1.out⟩, by rw [HME1.out, HME.out]; exact HLT1.out⟩
          · have d1 : decide ((m : Int) < (c : Int)) = false := decide_eq_false (by omega)
            have d1' : decide (m < c) = false := decide_eq_false h1
            by_cases h2 : c = m
            · subst h2
              have d2 : decide ((c : Int) = (c : Int)) = true := decide_eq_true rfl
              by_cases h3 : x < g
              · have d3 : decide (x < g) = true := decide_eq_true h3
                have HN := Lib.hid (TAKE.out (.inr ⟨rfl, h3⟩))
                clear KEEP TAKE
                go_wp2_with fail
                exact ⟨⟨_, cnt1, x, c, rfl, rfl, by omega, HRG1.out, HLH2.out, HN.out, HB1.out⟩, by rw [HME1.out, HME.out]; exact HLT1.out⟩
              · have d3 : decide (x < g) = false := decide_eq_false h3
                have HN := Lib.hid (KEEP.out (.inr ⟨rfl, by omega⟩))
                clear KEEP TAKE
                go_wp2_with fail
                exact ⟨⟨_, cnt1, g, c, rfl, rfl, by omega, HRG1.out, HLH2.out, HN.out, HB1.out⟩, by rw [HME1.out, HME.out]; exact HLT1.out⟩
            · have d2 : decide ((c : Int) = (m : Int)) = false := decide_eq_false (by omega)
              have HN := Lib.hid (KEEP.out (.inl (by omega)))
              clear KEEP TAKE
              go_wp2_with fail
              exact ⟨⟨_, cnt1, g, m, rfl, rfl, hmk, HRG1.out, HLH2.out, HN.out, HB1.out⟩, by rw [HME1.out, HME.out]; exact HLT1.out⟩
end Go.Proofs.Ytmjjbapahgejmaa.Rre
