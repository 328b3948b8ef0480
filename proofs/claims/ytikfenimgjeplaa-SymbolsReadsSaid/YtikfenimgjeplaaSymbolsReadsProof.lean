/-
  SymbolsReads (layer 7): the tokens of any bits by any codes, or what is wrong, and how far it was read, are the document's.
-/
import Derived.Test.YtikfenimgjeplaaRows
import Derived.Test.YtikfenimgjeplaaSymReads
import Derived.WalkKit
import Derived.ProofKit
import Derived.OpenShut
import Derived.ShutString
import Derived.ChangeOld
import Derived.Below
import Derived.Lib.SmallJoins
import Derived.Deep.Slices
namespace Go.Proofs.Ytikfenimgjeplaa.symbolsReads
open Go.Proofs.Ytikfenimgjeplaa.Sym
open Go.ChangeShapes Go.WideShapes Go.ChangeAt Go.RowKit
open Go.ChangeMaps (open_string shut_string)
set_option linter.unusedVariables false

theorem own : ownKnob Try.prog.godebug = none := by kernel_rfl
theorem laidOut : laidOutB Try.prog = true := by kernel_rfl

open Go.Proofs.Ytikfenimgjeplaa.Lz (Tok IsToks cellsT)
open Go.Proofs.Ytikfenimgjeplaa.Huf (IsInts ints_see nats quiet_w)
open Go.Proofs.Ytikfenimgjeplaa.Bit (BlAt RfAt RdAt tb tb_length rnew_any rat_any all_any rgrown_trans)
set_option maxRecDepth 100000 in
set_option maxHeartbeats 8000000 in
theorem early (t : ByteArray) (a1 a2 : Option Addr) (n c1 m c2 : Nat) (x : Int) (W : World) (ht : t.size ≤ maxLen) (h : 330 < n ∨ 330 < m ∨ 60 < t.size) :
    Calls Try.prog 6 #[.string t, .slice a1 n c1, .slice a2 m c2, .int .i64 x] W fun e w' => e = .returned (.bool true) ∧ Below W.heap.size W w' := by
  unfold maxLen at ht
  by_cases h1 : 330 < n
  · clear h
    have d1 : decide ((330 : Int) < (n : Int)) = true := by simp; omega
    have p1 : (330 : Int) < n := by omega
    go_enter Try.func6, Try.ntmps6
    go_wp2_with fail
    refine (works_any _).mono ?_
    rintro r w1 ⟨rfl, b1⟩
    go_wp2_with fail
    all_goals (go_ret; exact ⟨rfl, b1⟩)
  have d1 : decide ((330 : Int) < (n : Int)) = false := by simp; omega
  have p1 : ¬ ((330 : Int) < n) := by omega
  by_cases h2 : 330 < m
  · clear h
    have d2 : decide ((330 : Int) < (m : Int)) = true := by simp; omega
    have p2 : (330 : Int) < m := by omega
    go_enter Try.func6, Try.ntmps6
    go_wp2_with fail
    refine (works_any _).mono ?_
    rintro r w1 ⟨rfl, b1⟩
    go_wp2_with fail
    all_goals (go_ret; exact ⟨rfl, b1⟩)
  have d2 : decide ((330 : Int) < (m : Int)) = false := by simp; omega
  have p2 : ¬ ((330 : Int) < m) := by omega
  have h3 : 60 < t.size := by omega
  clear h
  have d3 : decide ((60 : Int) < (t.size : Int)) = true := by simp; omega
  have p3 : (60 : Int) < t.size := by omega
  go_enter Try.func6, Try.ntmps6
  go_wp2_with fail
  refine (works_any _).mono ?_
  rintro r w1 ⟨rfl, b1⟩
  go_wp2_with fail
  all_goals (go_ret; exact ⟨rfl, b1⟩)

set_option maxRecDepth 100000 in
set_option maxHeartbeats 8000000 in
theorem walk (t : ByteArray) (a1 a2 : Option Addr) (n c1 m c2 : Nat) (L M : List Int) (most : Int) (W : World) (ws : t.size ≤ maxLen)
    (v0 : L.length = n ∧ n ≤ maxLen ∧ IsInts W a1 L ∧ ∀ x ∈ L, (Lit.int .i64 x).wf = true) (v1 : M.length = m ∧ m ≤ maxLen ∧ IsInts W a2 M ∧ ∀ x ∈ M, (Lit.int .i64 x).wf = true) :
    Calls Try.prog 6 #[.string t, .slice a1 n c1, .slice a2 m c2, .int .i64 most] W fun e w' => e = .returned (.bool true) ∧ Below W.heap.size W w' := by
  by_cases hg : 330 < n ∨ 330 < m ∨ 60 < t.size
  · exact early t a1 a2 n c1 m c2 most W ws hg
  obtain ⟨hL, _, iL, _⟩ := v0
  obtain ⟨hM, _, iM, _⟩ := v1
  have d1 : decide ((330 : Int) < (n : Int)) = false := by simp; omega
  have p1 : ¬ ((330 : Int) < n) := by omega
  have d2 : decide ((330 : Int) < (m : Int)) = false := by simp; omega
  have p2 : ¬ ((330 : Int) < m) := by omega
  have d3 : decide ((60 : Int) < (t.size : Int)) = false := by simp; omega
  have p3 : ¬ ((60 : Int) < t.size) := by omega
  have hn : n ≤ 1000000 := by omega
  have hm : m ≤ 1000000 := by omega
  have ht60 : t.size ≤ 60 := by omega
  have IL := Lib.hid iL
  have IM := Lib.hid iM
  have CR := Lib.hid (fun b w h iL iM => read_any b t 0 a1 a2 n c1 m c2 L M most w h (Nat.zero_le _) (by omega) hL hM iL iM hn hm)
  have CF := Lib.hid (fun b v w h iL iM => refRead_any b v (tb t) 0 a1 a2 n c1 m c2 L M most w h (Nat.zero_le _) (by rw [tb_length]; omega) hL hM iL iM hn hm)
  have CA := Lib.hid (fun w => all_any t w (by omega))
  have hlen : (rdG L M (tb t) 0 most).1.length ≤ 100000000 ∨ True := .inr trivial
  obtain ⟨⟨rl, re, rj, rb⟩, hres⟩ : ∃ res, rdG L M (tb t) 0 most = res := ⟨_, rfl⟩
  rw [hres] at CR CF
  simp only at CR CF
  clear iL iM hg hres hlen hn hm hL hM ws
  go_enter Try.func6, Try.ntmps6
  go_wp2_with fail
  refine (works_any _).mono ?_
  rintro r w1 ⟨rfl, b1⟩
  have HB1 := Lib.hid b1
  clear b1
  go_wp2_with fail
  refine (rnew_any t w1).mono ?_
  rintro r w2 ⟨rfl, r2, b2⟩
  have HB2 := Lib.hid (HB1.out.trans (b2.mono HB1.out.size))
  have hge : W.heap.size ≤ w1.heap.size := HB1.out.size
  have HR2 := Lib.hid r2
  clear b2 r2 HB1
  generalize w1.heap.size = b at *
  go_wp2_with fail
  refine (CR.out b w2 HR2.out (IL.out.below HB2.out (Nat.le_refl _)) (IM.out.below HB2.out (Nat.le_refl _))).mono ?_
  rintro r w3 ⟨v3, rfl, o3, r3, g3⟩
  have HB3 := Lib.hid (below_grow HB2.out (Nat.le_refl _) g3 hge)
  have HO3 := Lib.hid o3
  have HR3 := Lib.hid r3
  clear o3 r3 g3 HR2 HB2 CR
  go_wp2_with fail
  refine (CA.out w3).mono ?_
  rintro r w4 ⟨u4, rfl, bl4, b4, f4⟩
  obtain ⟨ua, uc, rfl, _⟩ := bl4.shape
  have HB4 := Lib.hid (HB3.out.trans (b4.mono HB3.out.size))
  have HO4 := Lib.hid (rowK HO3.out fun k hk => b4.block k (HO3.out.lt k hk).2)
  have HR4 := Lib.hid (rd_below HR3.out b4)
  have HU4 := Lib.hid bl4
  clear b4 bl4 f4 HB3 HO3 HR3 CA
  go_wp2_with fail
  have HRF5 : Hid (RfAt (w4.alloc (.cells #[.slice ua (tb t).length uc, .int .i64 0, .int .i64 0] 58)) w4.heap.size (.slice ua (tb t).length uc) (tb t) 0 false) := Lib.hid ⟨heap_alloc_new _ _, HU4.out.alloc _⟩
  have bX : Below w4.heap.size w4 (w4.alloc (.cells #[.slice ua (tb t).length uc, .int .i64 0, .int .i64 0] 58)) := (Below.refl _ _).alloc (Nat.le_refl _) _
  have HR5 := Lib.hid (rd_below HR4.out bX)
  have HO5 := Lib.hid (HO4.out.alloc (.cells #[.slice ua (tb t).length uc, .int .i64 0, .int .i64 0] 58))
  have HB5 := Lib.hid (HB4.out.trans (bX.mono HB4.out.size))
  have HNE : Hid ((∀ k, v3.ownBlock = some k → k ≠ w4.heap.size) ∧ b ≠ w4.heap.size ∧ W.heap.size ≤ w4.heap.size) := Lib.hid ⟨fun k hk => by have := (HO4.out.lt k hk).2; omega, by have := rd_lt HR4.out; omega, HB4.out.size⟩
  clear bX HO4 HR4 HB4 HU4
  generalize (w4.alloc (.cells #[.slice ua (tb t).length uc, .int .i64 0, .int .i64 0] 58)) = w5 at *
  generalize w4.heap.size = b2 at *
  refine (CF.out b2 _ w5 HRF5.out (IL.out.below HB5.out (Nat.le_refl _)) (IM.out.below HB5.out (Nat.le_refl _))).mono ?_
  rintro r w6 ⟨u6, rfl, o6, g6, j6, bad6, r6, ok6⟩
  have HB6 := Lib.hid (below_grow HB5.out (Nat.le_refl _) g6 HNE.out.2.2)
  have HO6 := Lib.hid (rowK HO5.out fun k hk => g6.block k (HO5.out.lt k hk).2 (by simp; exact HNE.out.1 k hk))
  have HR6 : Hid (RdAt 91 w6 b t rj rb) := Lib.hid (HR5.out.kept g6 (by simp; exact HNE.out.2.1))
  have HRF6 := Lib.hid r6
  have HOK := Lib.hid ok6
  obtain ⟨av, cv, rfl, tv, nv⟩ := row_toks HO6.out rfl
  obtain ⟨au, cu, rfl, tu, _⟩ := row_toks o6 rfl
  have CS := Lib.hid (same_any av au rl.length cv cu rl w6 rfl tv tu nv)
  obtain ⟨n6, hn6⟩ : ∃ n6, rl.length = n6 := ⟨_, rfl⟩
  rw [hn6] at CS ⊢
  clear r6 ok6 g6 o6 tv tu hn6 HO5 HR5 HRF5 HB5 CF HO6 HNE nv
  go_wp2_with fail
  refine CS.out.mono ?_
  rintro r w7 ⟨rfl, q7, rfl⟩
  have HR7 : Hid (∀ n, RdAt 91 ((w6.drewN q7).drewN n) b t rj rb) := Lib.hid fun n => rd_below (rd_below HR6.out (below_of_drewN _ _)) (below_of_drewN _ _)
  have HRF7 := Lib.hid (HRF6.out.draws q7)
  have HB7 : Hid (Below W.heap.size W (w6.drewN q7)) := Lib.hid (below_drew HB6.out q7)
  clear CS HR6 HRF6 HB6
  generalize w6.drewN q7 = w7 at *
  by_cases hre : re = 0
  · subst hre
    obtain ⟨rfl, rfl⟩ := HOK.out rfl
    have c1 : w7.cell? ⟨b2, 1, none⟩ = some (.int .i64 j6) := HRF7.out.cells.2.1
    have CAT := Lib.hid (fun n => rat_any b t j6 rb (w7.drewN n) (HR7.out n))
    clear HOK
    go_wp2_with fail
    go_quiet ((go_at_call 36; exact quiet_w (CAT.out _)))
    have HBF := Lib.hid (below_drew HB7.out nq)
    clear HB7
    go_wp2_with fail
    go_ret
    exact ⟨rfl, HBF.out⟩
  · have hre2 : (re == 0) = false := by simpa using hre
    clear HOK
    go_wp2_with fail
    go_quiet (fail)
    have HBF := Lib.hid (below_drew HB7.out nq)
    clear HB7
    go_wp2_with fail
    go_ret
    exact ⟨rfl, HBF.out⟩

set_option maxRecDepth 100000 in
theorem lifted (os : Os) (started : os.Started) (H : Type) (enc : TypeId × Value → H) :
    ReturnsInHanded {} Try.checked os 6 .any (Rows.symbolsReadsSpec.pre6 enc Try.prog Try.f6 Rows.symbolsReadsRow.domain false) (Rows.symbolsReadsSpec.post enc Try.prog Try.f6 false true false false) := by
  refine returnsInHanded_of_change (C := Try.checked) own started (by kernel_rfl) Try.func6
    (ChangeSpec.witness6 (enc := enc) (C := Try.checked) false ⟨#[], #[.string ByteArray.empty, .slice none 0 0, .slice none 0 0, .int .i64 0], []⟩ 8 (by kernel_rfl) (by kernel_rfl) (by kernel_rfl) (by kernel_rfl)) ?_
  intro W base args ds gs before hval0 hW hcnd _
  have hval : ∀ (j : Nat) t v, Try.f6.params[j]? = some t → args[j]? = some v → Value.okWide Try.prog W .any base t v := hval0
  have hW' := hW
  obtain ⟨p, q, hA0, hV, rfl, hfz, hnd⟩ := hW
  have hA : DataW.TrodAll enc Try.prog W 0 (fun _ => true) true Try.f6.params.toList args.toList ds p := hA0
  rw [Try.params6] at hA hval
  obtain ⟨v0, vs0, d0, ds0, p0, q0, hargs, rfl, rfl, h0, r0⟩ := trodAll_cons hA
  obtain ⟨v1, vs1, d1, ds1, p1, q1, rfl, rfl, rfl, h1, r1⟩ := trodAll_cons r0
  obtain ⟨v2, vs2, d2, ds2, p2, q2, rfl, rfl, rfl, h2, r2⟩ := trodAll_cons r1
  obtain ⟨v3, vs3, d3, ds3, p3, q3, rfl, rfl, rfl, h3, r3⟩ := trodAll_cons r2
  obtain ⟨rfl, rfl, rfl⟩ := trodAll_nil r3
  obtain rfl : args = #[v0, v1, v2, v3] := by cases args; simp_all
  obtain ⟨rfl, rfl⟩ := trodVars_none hV
  have k0 := h0
  have lt0 : ∀ x ∈ p0, x.block < W.heap.size := by obtain ⟨m, hm⟩ := k0; exact DataW.trod_lt m _ _ _ hm
  obtain ⟨a0, rfl, rfl, rfl, w0⟩ := open_string Try.underlying9 (hval 0 9 v0 rfl rfl) h0
  have k1 := h1
  have lt1 : ∀ x ∈ p1, x.block < W.heap.size := by obtain ⟨m, hm⟩ := k1; exact DataW.trod_lt m _ _ _ hm
  obtain ⟨a1, len1, cap1, rfl⟩ := okWide_slice Try.underlying25 (hval 1 25 v1 rfl rfl)
  obtain ⟨A1, w1⟩ := ints_see h1
  have k2 := h2
  have lt2 : ∀ x ∈ p2, x.block < W.heap.size := by obtain ⟨m, hm⟩ := k2; exact DataW.trod_lt m _ _ _ hm
  obtain ⟨a2, len2, cap2, rfl⟩ := okWide_slice Try.underlying25 (hval 2 25 v2 rfl rfl)
  obtain ⟨A2, w2⟩ := ints_see h2
  have k3 := h3
  have lt3 : ∀ x ∈ p3, x.block < W.heap.size := by obtain ⟨m, hm⟩ := k3; exact DataW.trod_lt m _ _ _ hm
  obtain ⟨a3, rfl, rfl, rfl, w3⟩ := open_int Try.underlying3 (hval 3 3 v3 rfl rfl) h3
  clear hA0 hval0
  refine (walk a0 a1 a2 len1 cap1 len2 cap2 A1 A2 a3 W w0 w1 w2).mono fun e W' ⟨he, bel⟩ => ?_
  subst he
  exact ⟨_, rfl, _, _, _, [], _, [], hW', trodAll_mk1 (shut_bool Try.underlying4 _), (trodAll_cons_mk (Below.trod laidOut (by kernel_rfl) (of_decide_eq_true (by kernel_rfl)) k0 bel lt0) (trodAll_cons_mk (Below.trod laidOut (by kernel_rfl) (of_decide_eq_true (by kernel_rfl)) k1 bel lt1) (trodAll_cons_mk (Below.trod laidOut (by kernel_rfl) (of_decide_eq_true (by kernel_rfl)) k2 bel lt2) (trodAll_cons_mk (Below.trod laidOut (by kernel_rfl) (of_decide_eq_true (by kernel_rfl)) k3 bel lt3) trodAll_mk0)))), rfl, bel.frame _, fun h => by cases h⟩

theorem over : Rows.symbolsReadsRow.holds Try.pinned (OpenSpec.ofChange Rows.symbolsReadsSpec) :=
  OpenClaim.holds_of_wide 6 Try.f6 rfl rfl rfl rfl rfl rfl rfl ⟨rfl, rfl, rfl, rfl, rfl⟩ rfl rfl rfl rfl rfl (by kernel_rfl) Try.func6 (by kernel_rfl)
    (of_decide_eq_true (by kernel_rfl)) (by unfold Func.isWrapper; first | (rw [if_pos (by decide +kernel)]; kernel_rfl) | (rw [if_neg (by decide +kernel)]; exact ⟨rfl, rfl⟩))
    (fun os started H enc _ => lifted os started H enc)

theorem proved : Rows.SymbolsReadsSaid := over
end Go.Proofs.Ytikfenimgjeplaa.symbolsReads
