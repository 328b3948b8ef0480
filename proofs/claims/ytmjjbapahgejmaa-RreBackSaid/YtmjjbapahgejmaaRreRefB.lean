/-
  The reference of layer 17 (rre): the ground.
-/
import Derived.Test.YtmjjbapahgejmaaRreRow
namespace Go.Proofs.Ytmjjbapahgejmaa.Rre
open Go.ChangeShapes Go.WideShapes Go.ChangeAt Go.RowKit Lz RowG RegVal Pln
set_option linter.unusedVariables false
set_option maxRecDepth 100000

/-- What comes most often: best so far, and how often. -/
def gstep (vals : List Int) (s : Int × Nat) (v : Int) : Int × Nat := if s.2 < vals.count v ∨ (vals.count v = s.2 ∧ v < s.1) then (v, vals.count v) else s
def grd (vals : List Int) : Nat → Int × Nat
  | 0 => (0, 0)
  | k + 1 => gstep vals (grd vals k) (px vals k)
def groundL (vals : List Int) : Int := (grd vals vals.length).1
theorem count_take {vals : List Int} {k : Nat} {v : Int} (h : k < vals.length) : (vals.take (k + 1)).count v = (vals.take k).count v + if px vals k = v then 1 else 0 := by
  rw [List.take_succ_eq_append_getElem h, List.count_append, ← px_get h, List.count_singleton]
  simp
theorem count_le {vals : List Int} {k : Nat} {v : Int} : (vals.take k).count v ≤ vals.length := Nat.le_trans List.count_le_length (by simp [List.length_take]; omega)
theorem grd_le (vals : List Int) : ∀ k, (grd vals k).2 ≤ vals.length
  | 0 => Nat.zero_le _
  | k + 1 => by
    simp only [grd, gstep]
    split
    · exact List.count_le_length
    · exact grd_le vals k
set_option maxHeartbeats 4000000 in
theorem refGround_any (vals : List Int) (vv : Value) (w : World) (hv : SW w vv vals) (hm : vals.length ≤ 100000000) :
    Calls Try.prog 13 #[vv] w fun e w' => e = .returned (.int .i64 (groundL vals)) ∧ Below w.heap.size w w' := by
  obtain ⟨va, n, vcap, rfl, hvl, hvr⟩ := hv.read
  have HG : RowKit.Hid (∀ k, grd vals (k + 1) = gstep vals (grd vals k) (px vals k)) := Lib.hid (fun k => rfl)
  have HGL : RowKit.Hid (∀ k, (grd vals k).2 ≤ n) := Lib.hid (fun k => by have := grd_le vals k; omega)
  have HG0 : RowKit.Hid (grd vals 0 = (0, 0)) := Lib.hid rfl
  have HGE : RowKit.Hid (groundL vals = (grd vals n).1) := Lib.hid (by unfold groundL; rw [hvl])
  have HC : RowKit.Hid (∀ k v, k < n → (vals.take (k + 1)).count v = (vals.take k).count v + if px vals k = v then 1 else 0) := Lib.hid (fun k v h => count_take (by omega))
  have HCL : RowKit.Hid (∀ k v, (vals.take k).count v ≤ n) := Lib.hid (fun k v => by have := count_le (vals := vals) (k := k) (v := v); omega)
  have HCE : RowKit.Hid (∀ v, (vals.take n).count v = vals.count v) := Lib.hid (fun v => by rw [List.take_of_length_le (by omega)])
  have HC0 : RowKit.Hid (∀ v, (vals.take 0).count v = 0) := Lib.hid (fun v => by simp)
  have HV := Lib.hid hvr
  rw [hvl] at hm
  unfold gstep at HG
  clear hv hvr hvl
  generalize groundL vals = RES at *
  generalize grd vals = G at *
  generalize hCF : (fun k v => (vals.take k).count v) = CF at *
  have hCF' : ∀ k v, (vals.take k).count v = CF k v := fun k v => congrFun (congrFun hCF k) v
  simp only [hCF'] at HC HCL HCE HC0
  generalize hCA : (fun v => vals.count v) = CA at *
  have hCA' : ∀ v, vals.count v = CA v := fun v => congrFun hCA v
  simp only [hCA'] at HG HCE
  generalize px vals = PX at *
  clear hCF hCF' hCA hCA'
  go_enter Try.func13, Try.ntmps13
  go_wp2_with fail
  go_loopw [3, 4, 5] (fun vb vm i wr => ∃ k : Nat, k ≤ n ∧ i = .int .i64 k ∧ vb = .int .i64 (G k).1 ∧ vm = .int .i64 (G k).2 ∧ Below w.heap.size w wr) (fun _ _ i _ => n - (intOf i).toNat)
  case atStart => exact ⟨0, Nat.zero_le _, rfl, by rw [HG0.out], by rw [HG0.out]; rfl, Below.refl _ _⟩
  case round =>
    obtain ⟨k, hk, rfl, rfl, rfl, hbr⟩ := hrel
    have HB := Lib.hid hbr
    have hGk := HGL.out k
    have HGK := Lib.hid (HG.out k)
    generalize hBG : G k = BG at *
    obtain ⟨gb, gm⟩ := BG
    simp only at hGk HGK ⊢
    by_cases hlt : k < n
    · have dk : decide ((k : Int) < (n : Int)) = true := decide_eq_true (by omega)
      generalize hv : PX k = v at *
      clear hbr
      go_wp2_with fail
      go_loopw [6, 7] (fun vc i wq => ∃ q : Nat, q ≤ n ∧ i = .int .i64 q ∧ vc = .int .i64 (CF q v) ∧ Below w.heap.size w wq) (fun _ i _ => n - (intOf i).toNat)
      case atStart => exact ⟨0, Nat.zero_le _, rfl, by rw [HC0.out]; rfl, HB.out⟩
      case round =>
        obtain ⟨q, hq, rfl, rfl, hbq⟩ := hrel
        have HBQ := Lib.hid hbq
        obtain ⟨g, off, rfl, hc⟩ := HV.out _ hbq (by omega)
        have q0 := hc k hlt
        rw [hv] at q0
        by_cases hlq : q < n
        · have q1 := hc q hlq
          have dq : decide ((q : Int) < (n : Int)) = true := decide_eq_true (by omega)
          have HS := Lib.hid (HC.out q v hlq)
          have hcl := HCL.out q v
          clear hc hbq
          generalize PX q = u at *
          generalize CF q v = c at *
          by_cases hu : u = v
          · subst hu
            have du : decide (u = u) = true := decide_eq_true rfl
            go_wp2_with fail
            go_quiet (fail)
            go_wp2_with fail
            exact ⟨⟨q + 1, by omega, by go_num, by rw [HS.out]; simp, below_q HBQ.out _⟩, by simp [intOf]; omega⟩
          · have du : decide (u = v) = false := decide_eq_false hu
            go_wp2_with fail
            go_quiet (fail)
            go_wp2_with fail
            exact ⟨⟨q + 1, by omega, by go_num, by rw [HS.out]; simp [hu], below_q HBQ.out _⟩, by simp [intOf]; omega⟩
        · obtain rfl : q = n := by omega
          have dq : decide ((q : Int) < (q : Int)) = false := decide_eq_false (by omega)
          have hcl := HCL.out q v
          have HE := Lib.hid (HCE.out v)
          clear hc hbq
          generalize CF q v = c at *
          rw [← HE.out] at HGK
          by_cases h1 : gm < c
          · have d1 : decide ((gm : Int) < (c : Int)) = true := decide_eq_true (by omega)
            have HK := HGK.out
            rw [if_pos (.inl h1)] at HK
            have HKK := Lib.hid HK
            clear HK HGK HE HC HCL HCE HC0
            go_wp2_with fail
            exact ⟨⟨k + 1, by omega, by go_num, by rw [HKK.out], by rw [HKK.out], HBQ.out⟩, by simp [intOf]; omega⟩
          · have d1 : decide ((gm : Int) < (c : Int)) = false := decide_eq_false (by omega)
            by_cases h2 : c = gm
            · subst h2
              have d2 : decide ((c : Int) = (c : Int)) = true := decide_eq_true rfl
              by_cases h3 : v < gb
              · have d3 : decide (v < gb) = true := decide_eq_true h3
                have HK := HGK.out
                rw [if_pos (.inr ⟨rfl, h3⟩)] at HK
                have HKK := Lib.hid HK
                clear HK HGK HE HC HCL HCE HC0
                go_wp2_with fail
                exact ⟨⟨k + 1, by omega, by go_num, by rw [HKK.out], by rw [HKK.out], HBQ.out⟩, by simp [intOf]; omega⟩
              · have d3 : decide (v < gb) = false := decide_eq_false h3
                have HK := HGK.out
                rw [if_neg (fun h => h.elim h1 (fun h => h3 h.2))] at HK
                have HKK := Lib.hid HK
                clear HK HGK HE HC HCL HCE HC0
                go_wp2_with fail
                exact ⟨⟨k + 1, by omega, by go_num, by rw [HKK.out], by rw [HKK.out], HBQ.out⟩, by simp [intOf]; omega⟩
            · have d2 : decide ((c : Int) = (gm : Int)) = false := decide_eq_false (by omega)
              have HK := HGK.out
              rw [if_neg (fun h => h.elim h1 (fun h => h2 h.1))] at HK
              have HKK := Lib.hid HK
              clear HK HGK HE HC HCL HCE HC0
              go_wp2_with fail
              exact ⟨⟨k + 1, by omega, by go_num, by rw [HKK.out], by rw [HKK.out], HBQ.out⟩, by simp [intOf]; omega⟩
    · obtain rfl : k = n := by omega
      have dk : decide ((k : Int) < (k : Int)) = false := decide_eq_false (by omega)
      have HR : RowKit.Hid (RES = gb) := Lib.hid (by rw [HGE.out, hBG])
      clear hbr HGK
      go_wp2_with fail
      go_ret
      exact ⟨retI HR.out.symm, HB.out⟩
end Go.Proofs.Ytmjjbapahgejmaa.Rre
