/-
  Contract of miradorref05.Least.
-/
import Derived.Test.YtildikdoimobhaaHufCost
import Derived.Test.YtildikdoimobhaaHufLeast
namespace Go.Proofs.Ytildikdoimobhaa.Huf
open Go.ChangeShapes Go.WideShapes Go.ChangeAt Go.RowKit
set_option linter.unusedVariables false

theorem tries_le (g c : Nat → Int) (U : Int) (hU : -1 ≤ U) : ∀ k, (∀ j, j < k → g j + c j ≤ U) → tries g c k ≤ U
  | 0, _ => hU
  | k + 1, h => by
    have ih := tries_le g c U hU k (fun j hj => h j (by omega))
    show better (tries g c k) (g k) (c k) ≤ U
    unfold better
    split
    · exact h k (by omega)
    · exact ih
theorem leastV_le (most : Nat) (hm : most ≤ 15) : ∀ (fs : List Nat) (room : Int), (∀ f ∈ fs, f ≤ 1073741824) → leastV most fs room ≤ fs.length * 16106127360
  | [], room, _ => by simp [leastV]
  | f :: r, room, h => by
    have hf := h f (by simp)
    unfold leastV
    refine tries_le _ _ _ (by omega) most fun j hj => ?_
    have h2 : (f : Int) * ((j + 1 : Nat) : Int) ≤ 16106127360 := by
      have : f * (j + 1) ≤ 1073741824 * 15 := Nat.mul_le_mul hf (by omega)
      have e : (f : Int) * ((j + 1 : Nat) : Int) = ((f * (j + 1) : Nat) : Int) := by simp
      rw [e]; omega
    have ih := leastV_le most hm r (room - ((2 ^ (15 - (j + 1)) : Nat) : Int)) (fun x hx => h x (by simp [hx]))
    simp only [List.length_cons]
    split
    · have : (0 : Int) ≤ (r.length : Int) * 16106127360 := by omega
      omega
    · omega

set_option maxRecDepth 10000 in
set_option maxHeartbeats 4000000 in
theorem least_any (most : Nat) (hm1 : 1 ≤ most) (hm : most ≤ 15) (a : Option Addr) (n cap : Nat) (F : List Nat) (hF : F.length = n) (hn : n ≤ 1000) (hf : ∀ f ∈ F, f ≤ 1073741824) :
    ∀ (fs : List Nat) (j R : Nat) (w : World), IsInts w a (F.map fun (x : Nat) => (x : Int)) → F.drop j = fs → j + fs.length = n → R ≤ 32768 →
    Calls Try.prog 27 #[.slice a n cap, .int .i64 j, .int .i64 most, .int .i64 R] w fun e w' => e = .returned (.int .i64 (leastV most fs R)) ∧ w = w' := by
  intro fs
  induction fs with
  | nil =>
    intro j R w hI hd hj hR
    have hj' : (j : Int) = n := by simp at hj; omega
    have hjn : j = n := by simpa using hj
    subst hjn
    go_enter Try.func27, Try.ntmps27
    go_wp2_with fail
    go_ret
    exact ⟨rfl, rfl⟩
  | cons f r ih =>
    intro j R w hI hd hj hR
    have hjn : j < n := by simp at hj; omega
    have hjn' : (j : Int) < n := by omega
    have hne : ((j : Int) == n) = false := by simp; omega
    have hne2 : ¬ ((j : Int) = n) := by omega
    obtain ⟨b, off, rfl, hbl, hcs⟩ := getD_cell hI (by omega)
    have hgd : F.getD j 0 = f := by
      have h1 : (F.drop j)[0]? = some f := by rw [hd]; rfl
      rw [List.getElem?_drop] at h1
      rw [List.getD_eq_getElem?_getD]
      rw [Nat.add_zero] at h1
      rw [h1]; rfl
    have hcell := hcs j (by omega)
    rw [hgd] at hcell
    have hd2 : F.drop (j + 1) = r := by rw [← List.drop_drop, hd]; rfl
    have hfb : f ≤ 1073741824 := by
      apply hf
      have h1 : f ∈ F.drop j := by rw [hd]; simp
      exact List.mem_of_mem_drop h1
    have hrb : ∀ x ∈ r, x ≤ 1073741824 := fun x hx => hf x (by
      have h1 : x ∈ F.drop j := by rw [hd]; simp [hx]
      exact List.mem_of_mem_drop h1)
    have hrl : r.length ≤ 1000 := by simp at hj; omega
    have IH := Lib.hid (fun (R' : Nat) (hR' : R' ≤ 32768) => ih (j + 1) R' w hI hd2 (by simp at hj ⊢; omega) hR')
    have e1 : ((j + 1 : Nat) : Int) = (j : Int) + 1 := by omega
    rw [e1] at IH
    have LB := Lib.hid (fun room : Int => leastV_le most hm r room hrb)
    have LS := Lib.hid (fun (room : Int) (h : 0 ≤ room) => (leastV_spec most r room h).1)
    generalize hres : leastV most (f :: r) R = res
    have HR := Lib.hid hres
    unfold leastV at HR
    clear hres hcs hI hd hgd hd2 ih hf hrb hj
    generalize hg : (fun l => if (R : Int) < ((2 ^ (15 - (l + 1)) : Nat) : Int) then (-1 : Int) else leastV most r ((R : Int) - ((2 ^ (15 - (l + 1)) : Nat) : Int))) = g at HR
    generalize hc : (fun l => (f : Int) * ((l + 1 : Nat) : Int)) = c at HR
    have HG := Lib.hid hg
    have HC := Lib.hid hc
    clear hg hc
    go_enter Try.func27, Try.ntmps27
    go_wp2_with fail
    go_loop [9, 10] (fun v i => ∃ t : Nat, ∃ B : Int, t ≤ most ∧ i = .int .i64 ((t + 1 : Nat) : Int) ∧ v = .int .i64 B ∧ tries g c t = B ∧ -1 ≤ B ∧ B ≤ 16122233487360) (fun _ i => most + 1 - (intOf i).toNat)
    case atStart => exact ⟨0, -1, Nat.zero_le _, rfl, rfl, rfl, by decide, by decide⟩
    case round =>
      obtain ⟨t, B, ht, rfl, rfl, hB, hb1, hb2⟩ := hrel
      have et : ((t + 1 : Nat) : Int) = (t : Int) + 1 := by omega
      by_cases hlt : t < most
      · have hlt' : (t : Int) + 1 ≤ most := by omega
        obtain ⟨ex, hex⟩ : ∃ ex, 15 - (t + 1) = ex := ⟨_, rfl⟩
        have hexI : 15 - ((t : Int) + 1) = ex := by omega
        obtain ⟨P, hP⟩ : ∃ P, 2 ^ ex = P := ⟨_, rfl⟩
        have hPb : 1 ≤ P ∧ P ≤ 32768 := by
          rw [← hP]; exact ⟨Nat.pow_pos (by decide), Nat.le_trans (Nat.pow_le_pow_right (by decide) (show ex ≤ 15 by omega)) (by decide)⟩
        have CP := Lib.hid (power_any ex P w hP (by omega))
        obtain ⟨z, hz⟩ : ∃ z, f * (t + 1) = z := ⟨_, rfl⟩
        have hzb : z ≤ 16106127360 := by rw [← hz]; exact Nat.mul_le_mul hfb (show t + 1 ≤ 15 by omega)
        have hzI : (f : Int) * ((t : Int) + 1) = z := by rw [← hz]; simp
        have HCt : Hid (c t = z) := Lib.hid (by rw [← HC.out]; show (f : Int) * ((t + 1 : Nat) : Int) = z; rw [et, hzI])
        have HGt : Hid (g t = if (R : Int) < P then -1 else leastV most r ((R : Int) - P)) := Lib.hid (by rw [← HG.out, ← hP, ← hex])
        have HST : Hid (tries g c (t + 1) = better B (g t) (c t)) := Lib.hid (by show better (tries g c t) (g t) (c t) = _; rw [hB])
        have e2 : ((t + 1 + 1 : Nat) : Int) = (t : Int) + 1 + 1 := by omega
        rw [et]
        clear hz hP hex hB et
        by_cases hPR : R < P
        · have hPR' : (R : Int) < P := by omega
          have HN : Hid (tries g c (t + 1) = B) := Lib.hid (by
            rw [HST.out, HGt.out, if_pos hPR']; unfold better; rw [if_neg (by omega)])
          clear HST HGt HCt
          go_wp2_with fail
          refine CP.out.mono ?_
          rintro q w1 ⟨rfl, rfl⟩
          go_wp2_with fail
          refine ⟨⟨t + 1, B, by omega, by rw [e2], rfl, HN.out, hb1, hb2⟩, ?_⟩
          simp [intOf]; omega
        · have hPR' : ¬ ((R : Int) < P) := by omega
          obtain ⟨R', hR'⟩ : ∃ R', R - P = R' := ⟨_, rfl⟩
          have hRI : (R : Int) - P = R' := by omega
          have CI := Lib.hid (IH.out R' (by omega))
          have l1 := LB.out (R' : Int)
          have l2 := LS.out (R' : Int) (by omega)
          rw [if_neg hPR', hRI] at HGt
          obtain ⟨rest, hrest⟩ : ∃ rest, leastV most r (R' : Int) = rest := ⟨_, rfl⟩
          rw [hrest] at CI HGt l1 l2
          have l3 : rest ≤ 16106127360000 := by
            have : (r.length : Int) * 16106127360 ≤ 1000 * 16106127360 := by omega
            omega
          have HST2 : Hid (tries g c (t + 1) = if 0 ≤ rest ∧ (B < 0 ∨ rest + z < B) then rest + z else B) := Lib.hid (by
            rw [HST.out, HGt.out, HCt.out]; rfl)
          clear hrest HST HGt HCt l1
          by_cases q1 : rest < 0
          · have q1' : ¬ (0 ≤ rest) := by omega
            have d1 : decide (0 ≤ rest) = false := by simp; omega
            have HN : Hid (tries g c (t + 1) = B) := Lib.hid (by rw [HST2.out, if_neg (fun h => q1' h.1)])
            clear HST2
            go_wp2_with fail
            refine CP.out.mono ?_
            rintro q w1 ⟨rfl, rfl⟩
            go_wp2_with fail
            refine CI.out.mono ?_
            rintro q w1 ⟨rfl, rfl⟩
            go_wp2_with fail
            refine ⟨⟨t + 1, B, by omega, by rw [e2], rfl, HN.out, hb1, hb2⟩, ?_⟩
            simp [intOf]; omega
          · have q1' : 0 ≤ rest := by omega
            have d1 : decide (0 ≤ rest) = true := by simp; omega
            by_cases q2 : B < 0
            · have d2 : decide (B < 0) = true := by simp; omega
              have HN : Hid (tries g c (t + 1) = rest + z) := Lib.hid (by rw [HST2.out, if_pos ⟨q1', .inl q2⟩])
              clear HST2
              go_wp2_with fail
              refine CP.out.mono ?_
              rintro q w1 ⟨rfl, rfl⟩
              go_wp2_with fail
              refine CI.out.mono ?_
              rintro q w1 ⟨rfl, rfl⟩
              go_wp2_with fail
              refine ⟨⟨t + 1, rest + z, by omega, by rw [e2], by first | rfl | go_num, HN.out, by omega, by omega⟩, ?_⟩
              simp [intOf]; omega
            · have d2 : decide (B < 0) = false := by simp; omega
              by_cases q3 : rest + z < B
              · have d3 : decide (rest + (z : Int) < B) = true := by simp; omega
                have HN : Hid (tries g c (t + 1) = rest + z) := Lib.hid (by rw [HST2.out, if_pos ⟨q1', .inr q3⟩])
                clear HST2
                go_wp2_with fail
                refine CP.out.mono ?_
                rintro q w1 ⟨rfl, rfl⟩
                go_wp2_with fail
                refine CI.out.mono ?_
                rintro q w1 ⟨rfl, rfl⟩
                go_wp2_with fail
                refine ⟨⟨t + 1, rest + z, by omega, by rw [e2], by first | rfl | go_num, HN.out, by omega, by omega⟩, ?_⟩
                simp [intOf]; omega
              · have d3 : decide (rest + (z : Int) < B) = false := by simp; omega
                have HN : Hid (tries g c (t + 1) = B) := Lib.hid (by rw [HST2.out, if_neg (fun h => by rcases h.2 with h | h; exact q2 h; exact q3 h)])
                clear HST2
                go_wp2_with fail
                refine CP.out.mono ?_
                rintro q w1 ⟨rfl, rfl⟩
                go_wp2_with fail
                refine CI.out.mono ?_
                rintro q w1 ⟨rfl, rfl⟩
                go_wp2_with fail
                refine ⟨⟨t + 1, B, by omega, by rw [e2], rfl, HN.out, hb1, hb2⟩, ?_⟩
                simp [intOf]; omega
      · obtain rfl : t = most := by omega
        obtain rfl : B = res := hB.symm.trans HR.out
        rw [et]
        clear hB HR
        go_wp2_with fail
        go_ret
        exact ⟨rfl, rfl⟩

end Go.Proofs.Ytildikdoimobhaa.Huf
