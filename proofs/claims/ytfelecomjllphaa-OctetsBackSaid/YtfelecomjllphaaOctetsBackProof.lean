/-
  Proved: what octets.Put, Little and Signed write, octets.Cursor reads again, and nothing of what stands behind it (statement OctetsBack). Conditions: none.
-/
import Derived.Test.YtfelecomjllphaaRows
import Derived.Test.YtfelecomjllphaaOctBack
import Derived.WalkKit
import Derived.ProofKit
import Derived.OpenShut
import Derived.ShutString
import Derived.ChangeOld
import Derived.Below
namespace Go.Proofs.Ytfelecomjllphaa.octetsBack
open Go.Proofs.Ytfelecomjllphaa.Oct
open Go.ChangeShapes Go.WideShapes Go.ChangeAt Go.RowKit
open Go.ChangeMaps (open_string shut_string)
set_option linter.unusedVariables false    
theorem own : ownKnob Try.prog.godebug = none := by kernel_rfl

theorem walk (a0 : Int) (a1 : Int) (a2 : Int) (a3 : ByteArray) (w0 : (Lit.int .i64 a0).wf = true) (w1 : (Lit.int .i64 a1).wf = true) (w2 : (Lit.int .i64 a2).wf = true) (w3 : a3.size ≤ maxLen) (w : World) :
    Calls Try.prog 5 #[.int .i64 a0, .int .i64 a1, .int .i64 a2, .string a3] w fun e w' => e = .returned (.bool true) ∧ Below w.heap.size w w' := by
  unfold maxLen at w3
  by_cases h1 : 300 < a3.size
  · clear w0 w1 w2
    go_enter Try.func5, Try.ntmps5
    go_wp2_with fail
    refine (works_any _).mono ?_
    rintro r w1 ⟨rfl, b1⟩
    go_wp2_with fail
    go_ret
    exact ⟨rfl, b1⟩
  have q3 : a3.size ≤ 300 := by omega
  clear w0 w1 w2 w3 h1
  by_cases hno : okB a0 a1 = false
  · obtain ⟨e1, e2, e3⟩ := putS_bad hno
    have E := Lib.hid (And.intro e1 (And.intro e2 e3))
    clear e1 e2 e3 hno
    go_enter Try.func5, Try.ntmps5
    go_wp2_with fail
    refine (works_any _).mono ?_
    rintro r w1 ⟨rfl, b1⟩
    go_wp2_with fail
    refine (put_any _ _ _).mono ?_
    rintro r w2 ⟨rfl, b2⟩
    rw [E.out.1, E.out.2.2]
    go_wp2_with fail
    refine (little_any _ _ _).mono ?_
    rintro r w3 ⟨rfl, b3⟩
    rw [E.out.2.1, E.out.2.2]
    go_wp2_with fail
    go_ret
    exact ⟨rfl, below_next (below_next b1 b2) b3⟩
  have hok : okB a0 a1 = true := by simpa using hno
  obtain ⟨p1, p2, p3, p4, p5⟩ := putS_ok hok
  have hz4 := sizeB_cases (okB_parts hok).1
  have b0 : 1 ≤ a0 := by omega
  have b4 : a0 ≤ 4 := by omega
  obtain ⟨T, hT⟩ : ∃ T, putS a0 a1 ++ litS a0 a1 ++ sgnS a2 ++ a3 = T := ⟨_, rfl⟩
  obtain ⟨M1, M2, hts, M3⟩ := back_facts hok a2 a3 T hT
  obtain ⟨sa, hsa⟩ : ∃ s, putS a0 a1 = s := ⟨_, rfl⟩
  obtain ⟨sb, hsb⟩ : ∃ s, litS a0 a1 = s := ⟨_, rfl⟩
  obtain ⟨ss, hss⟩ : ∃ s, sgnS a2 = s := ⟨_, rfl⟩
  have hs4 : ss.size ≤ 4 := by
    by_cases hm : a2 < -2147483648 ∨ 2147483647 < a2
    · rw [← hss, sgn_bad hm]; decide
    · rw [← hss, (sgn_ok hm).1]; decide
  rw [hsa, hsb, hss] at hT
  rw [hsa] at p1
  rw [hsb] at p3
  rw [hss] at hts
  have ha4 : sa.size ≤ 4 := by omega
  have hb4 : sb.size ≤ 4 := by omega
  have ht : T.size ≤ 1000000 := by omega
  have t1 : a0 ≤ T.size := by omega
  have t2 : a0 + a0 ≤ T.size := by omega
  have n1 : (((sa.size : Nat) : Int) != a0) = false := by simp [p1]
  have n2 : (((sb.size : Nat) : Int) != a0) = false := by simp [p3]
  have E := Lib.hid (And.intro hsa (And.intro hsb p5))
  have HT := Lib.hid hT
  have HS := Lib.hid hss
  have HTS := Lib.hid hts
  have HM1 := Lib.hid M1
  have HM2 := Lib.hid M2
  have HM3 := Lib.hid M3
  have P1 := Lib.hid p1
  have P3 := Lib.hid p3
  clear hsa hsb p5 hT hss hts M1 M2 M3 p1 p2 p3 p4 hz4 hok hno
  by_cases hm : a2 < -2147483648 ∨ 2147483647 < a2
  · have S : Hid (ss = ⟨#[]⟩) := by rw [Hid, ← HS.out]; exact sgn_bad hm
    have g1 : (T.size : Int) - (a0 + a0) = a3.size := by
      have := HTS.out
      rw [S.out] at this
      have hz : (ByteArray.mk #[]).size = 0 := rfl
      omega
    have G := Lib.hid g1
    clear g1 hm
    go_enter Try.func5, Try.ntmps5
    go_wp2_with fail
    refine (works_any _).mono ?_
    rintro r w1 ⟨rfl, b1⟩
    go_wp2_with fail
    refine (put_any _ _ _).mono ?_
    rintro r w2 ⟨rfl, b2⟩
    rw [E.out.1, E.out.2.2]
    go_wp2_with fail
    refine (little_any _ _ _).mono ?_
    rintro r w3 ⟨rfl, b3⟩
    rw [E.out.2.1, E.out.2.2]
    go_wp2_with fail
    refine (signed_any _ _).mono ?_
    rintro r w4 ⟨rfl, b4'⟩
    rw [HS.out]
    go_wp2_with fail
    rw [HT.out]
    rw [S.out]
    refine (new_any _ _).mono ?_
    rintro r w5 ⟨rfl, c5, b5⟩
    go_wp2_with fail
    refine (int_any _ _ _ _ _ _ c5 (by omega) (by omega) ht).mono ?_
    rintro r w6 ⟨rfl, c6, g6⟩
    rw [HM1.out.1]
    rw [HM1.out.2.1, HM1.out.2.2] at c6
    go_wp2_with fail
    refine (lit_any _ _ _ _ _ _ c6 (by omega) (by omega) ht).mono ?_
    rintro r w7 ⟨rfl, c7, g7⟩
    rw [HM2.out.1]
    rw [HM2.out.2.1, HM2.out.2.2] at c7
    go_wp2_with fail
    refine (left_any _ _ _ _ _ c7 (by omega) (by omega) ht).mono ?_
    rintro r w8 ⟨rfl, n8, rfl⟩
    rw [G.out]
    go_wp2_with fail
    refine (err_any _ _ _ _ _ (show CurAt _ (w7.drewN n8) _ _ _ _ from c7)).mono ?_
    rintro r w9 ⟨rfl, rfl⟩
    go_wp2_with fail
    go_ret
    have bb := below_next (below_next (below_next b1 b2) b3) b4'
    have kk := bb.size
    exact ⟨rfl, below_drewN (below_grown (below_grown (below_next bb b5) g6 (by omega)) g7 (by omega)) _⟩
  · have hgood := HM3.out hm
    have hsz := (sgn_ok hm).1
    rw [HS.out] at hsz
    have ht3 : a0 + a0 + 4 + a3.size ≤ T.size := by have := HTS.out; omega
    have x1 : ss.toList.isEmpty = false := by
      rw [Bool.eq_false_iff]
      intro h
      have : ss.toList.length = 0 := by rw [List.isEmpty_iff.1 h]; rfl
      rw [Go.ByteArray.toList_eq] at this
      have h2 : ss.data.toList.length = ss.size := by simp
      omega
    have x2 : (((ss.size : Nat) : Int) == 4) = true := by rw [hsz]; rfl
    have x3 : ¬ ss.toList = [] := by
      intro h
      rw [h] at x1
      cases x1
    have G := Lib.hid hgood
    clear hgood hsz hm
    go_enter Try.func5, Try.ntmps5
    go_wp2_with fail
    refine (works_any _).mono ?_
    rintro r w1 ⟨rfl, b1⟩
    go_wp2_with fail
    refine (put_any _ _ _).mono ?_
    rintro r w2 ⟨rfl, b2⟩
    rw [E.out.1, E.out.2.2]
    go_wp2_with fail
    refine (little_any _ _ _).mono ?_
    rintro r w3 ⟨rfl, b3⟩
    rw [E.out.2.1, E.out.2.2]
    go_wp2_with fail
    refine (signed_any _ _).mono ?_
    rintro r w4 ⟨rfl, b4'⟩
    rw [HS.out]
    go_wp2_with fail
    rw [HT.out]
    refine (new_any _ _).mono ?_
    rintro r w5 ⟨rfl, c5, b5⟩
    go_wp2_with fail
    refine (int_any _ _ _ _ _ _ c5 (by omega) (by omega) ht).mono ?_
    rintro r w6 ⟨rfl, c6, g6⟩
    rw [HM1.out.1]
    rw [HM1.out.2.1, HM1.out.2.2] at c6
    go_wp2_with fail
    refine (lit_any _ _ _ _ _ _ c6 (by omega) (by omega) ht).mono ?_
    rintro r w7 ⟨rfl, c7, g7⟩
    rw [HM2.out.1]
    rw [HM2.out.2.1, HM2.out.2.2] at c7
    go_wp2_with fail
    refine (csigned_any _ _ _ _ _ c7 (by omega) (by omega) ht).mono ?_
    rintro r w8 ⟨rfl, c8, g8⟩
    rw [G.out.1]
    rw [G.out.2.1, G.out.2.2.1] at c8
    go_wp2_with fail
    refine (bytes_any _ _ _ _ _ _ c8 (by omega) (by omega) ht).mono ?_
    rintro r w9 ⟨rfl, c9, g9⟩
    rw [G.out.2.2.2.1]
    rw [G.out.2.2.2.2.1, G.out.2.2.2.2.2.1] at c9
    go_wp2_with fail
    refine (end_any _ _ _ _ _ c9 (by omega) (by omega) ht).mono ?_
    rintro r w10 ⟨rfl, n10, rfl⟩
    rw [G.out.2.2.2.2.2.2]
    go_wp2_with fail
    go_ret
    have bb := below_next (below_next (below_next b1 b2) b3) b4'
    have kk := bb.size
    exact ⟨rfl, below_drewN (below_grown (below_grown (below_grown (below_grown (below_next bb b5) g6 (by omega)) g7 (by omega)) g8 (by omega)) g9 (by omega)) _⟩
set_option maxRecDepth 100000 in
theorem lifted (os : Os) (started : os.Started) (H : Type) (enc : TypeId × Value → H) :
    ReturnsInHanded {} Try.checked os 5 .any (Rows.octetsBackSpec.pre6 enc Try.prog Try.f5 Rows.octetsBackRow.domain false) (Rows.octetsBackSpec.post enc Try.prog Try.f5 false true false false) := by
  refine returnsInHanded_of_change (C := Try.checked) own started (by kernel_rfl) Try.func5
    (ChangeSpec.witness6 (enc := enc) (C := Try.checked) false ⟨#[], #[.int .i64 0, .int .i64 0, .int .i64 0, .string ByteArray.empty], []⟩ 8 (by kernel_rfl) (by kernel_rfl) (by kernel_rfl) (by kernel_rfl)) ?_
  intro W base args ds gs before hval0 hW hcnd _
  have hval : ∀ (j : Nat) t v, Try.f5.params[j]? = some t → args[j]? = some v → Value.okWide Try.prog W .any base t v := hval0
  have hW' := hW
  obtain ⟨p, q, hA0, hV, rfl, hfz, hnd⟩ := hW
  have hA : DataW.TrodAll enc Try.prog W 0 (fun _ => true) true Try.f5.params.toList args.toList ds p := hA0
  rw [Try.params5] at hA hval
  obtain ⟨v0, vs0, d0, ds0, p0, q0, hargs, rfl, rfl, h0, r0⟩ := trodAll_cons hA
  obtain ⟨v1, vs1, d1, ds1, p1, q1, rfl, rfl, rfl, h1, r1⟩ := trodAll_cons r0
  obtain ⟨v2, vs2, d2, ds2, p2, q2, rfl, rfl, rfl, h2, r2⟩ := trodAll_cons r1
  obtain ⟨v3, vs3, d3, ds3, p3, q3, rfl, rfl, rfl, h3, r3⟩ := trodAll_cons r2
  obtain ⟨rfl, rfl, rfl⟩ := trodAll_nil r3
  obtain rfl : args = #[v0, v1, v2, v3] := by cases args; simp_all
  obtain ⟨rfl, rfl⟩ := trodVars_none hV
  obtain ⟨a0, rfl, rfl, rfl, w0⟩ := open_int Try.underlying3 (hval 0 3 v0 rfl rfl) h0
  obtain ⟨a1, rfl, rfl, rfl, w1⟩ := open_int Try.underlying3 (hval 1 3 v1 rfl rfl) h1
  obtain ⟨a2, rfl, rfl, rfl, w2⟩ := open_int Try.underlying3 (hval 2 3 v2 rfl rfl) h2
  obtain ⟨a3, rfl, rfl, rfl, w3⟩ := open_string Try.underlying9 (hval 3 9 v3 rfl rfl) h3
  clear hA0 hval0
  simp only [List.append_nil] at hW'
  refine (walk a0 a1 a2 a3 w0 w1 w2 w3 W).mono fun e W' ⟨he, hg⟩ => ?_
  subst he
  exact ⟨_, rfl, _, _, _, [], [], [], hW', trodAll_mk1 (shut_bool Try.underlying4 _), (trodAll_cons_mk (shut_int Try.underlying3 w0) (trodAll_cons_mk (shut_int Try.underlying3 w1) (trodAll_cons_mk (shut_int Try.underlying3 w2) (trodAll_cons_mk (shut_string Try.underlying9 w3) trodAll_mk0)))), rfl, hg.frame _, fun h => by cases h⟩

theorem over : Rows.octetsBackRow.holds Try.pinned (OpenSpec.ofChange Rows.octetsBackSpec) :=
  OpenClaim.holds_of_wide 5 Try.f5 rfl rfl rfl rfl rfl rfl rfl ⟨rfl, rfl, rfl, rfl, rfl⟩ rfl rfl rfl rfl rfl (by kernel_rfl) Try.func5 (by kernel_rfl)
    (of_decide_eq_true (by kernel_rfl)) (by unfold Func.isWrapper; first | (rw [if_pos (by decide +kernel)]; kernel_rfl) | (rw [if_neg (by decide +kernel)]; exact ⟨rfl, rfl⟩))
    (fun os started H enc _ => lifted os started H enc)

theorem proved : Rows.OctetsBackSaid :=
  over
end Go.Proofs.Ytfelecomjllphaa.octetsBack
