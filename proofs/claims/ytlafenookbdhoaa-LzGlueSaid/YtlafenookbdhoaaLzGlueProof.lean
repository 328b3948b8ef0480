/-
  LzGlue (layer 6): what is expanded in two steps, with what came ahead as the window, is what is expanded at once.
-/
import Derived.Test.YtlafenookbdhoaaRows
import Derived.Test.YtlafenookbdhoaaLzGlueM
import Derived.WalkKit
import Derived.ProofKit
import Derived.OpenShut
import Derived.ShutString
import Derived.ChangeOld
import Derived.Below
import Derived.Lib.SmallJoins
import Derived.Deep.Slices
namespace Go.Proofs.Ytlafenookbdhoaa.lzGlue
open Go.Proofs.Ytlafenookbdhoaa.Lz
open Go.ChangeShapes Go.WideShapes Go.ChangeAt Go.RowKit
open Go.ChangeMaps (open_string shut_string)
set_option linter.unusedVariables false

theorem own : ownKnob Try.prog.godebug = none := by kernel_rfl
theorem laidOut : laidOutB Try.prog = true := by kernel_rfl

theorem early (win : ByteArray) (a b : Option Addr) (len cap len2 cap2 : Nat) (w : World) (ws : win.size ≤ maxLen) (hn : len ≤ maxLen) (hn2 : len2 ≤ maxLen) (hg : 60 < len ∨ 60 < len2 ∨ 1000 < win.size) :
    Calls Try.prog 8 #[.string win, .slice a len cap, .slice b len2 cap2] w fun e w' => e = .returned (.bool true) ∧ Below w.heap.size w w' := by
  unfold maxLen at ws
  have CO := fun w' => Lib.hid (over_any a len cap w' hn)
  have CQ := fun w' => Lib.hid (over_any b len2 cap2 w' hn2)
  obtain ⟨x, hx⟩ : ∃ x, decide (60 < len) = x := ⟨_, rfl⟩
  obtain ⟨y, hy⟩ : ∃ y, decide (60 < len2) = y := ⟨_, rfl⟩
  have hxy : x = true ∨ (x = false ∧ y = true) ∨ (x = false ∧ y = false ∧ 1000 < win.size) := by
    subst hx hy
    rcases hg with h | h | h
    · left; simpa using h
    · by_cases h1 : 60 < len
      · left; simpa using h1
      · right; left; exact ⟨by simpa using h1, by simpa using h⟩
    · by_cases h1 : 60 < len
      · left; simpa using h1
      · by_cases h2 : 60 < len2
        · right; left; exact ⟨by simpa using h1, by simpa using h2⟩
        · right; right; exact ⟨by simpa using h1, by simpa using h2, h⟩
  rw [hx] at CO
  rw [hy] at CQ
  clear hx hy hg hn hn2
  rcases hxy with rfl | ⟨rfl, rfl⟩ | ⟨rfl, rfl, h3⟩
  · go_enter Try.func8, Try.ntmps8
    go_wp2_with fail
    refine (works_any _).mono ?_
    rintro r w1 ⟨rfl, b1⟩
    go_wp2_with fail
    refine (CO _).out.mono ?_
    rintro r w2 ⟨rfl, rfl⟩
    go_wp2_with fail
    refine (CQ _).out.mono ?_
    rintro r w2 ⟨rfl, rfl⟩
    go_wp2_with fail
    all_goals (go_ret; exact ⟨rfl, b1⟩)
  · go_enter Try.func8, Try.ntmps8
    go_wp2_with fail
    refine (works_any _).mono ?_
    rintro r w1 ⟨rfl, b1⟩
    go_wp2_with fail
    refine (CO _).out.mono ?_
    rintro r w2 ⟨rfl, rfl⟩
    go_wp2_with fail
    refine (CQ _).out.mono ?_
    rintro r w2 ⟨rfl, rfl⟩
    go_wp2_with fail
    all_goals (go_ret; exact ⟨rfl, b1⟩)
  · go_enter Try.func8, Try.ntmps8
    go_wp2_with fail
    refine (works_any _).mono ?_
    rintro r w1 ⟨rfl, b1⟩
    go_wp2_with fail
    refine (CO _).out.mono ?_
    rintro r w2 ⟨rfl, rfl⟩
    go_wp2_with fail
    refine (CQ _).out.mono ?_
    rintro r w2 ⟨rfl, rfl⟩
    go_wp2_with fail
    all_goals (go_ret; exact ⟨rfl, b1⟩)

set_option maxRecDepth 100000 in
set_option maxHeartbeats 2000000 in
theorem walk (win : ByteArray) (a b : Option Addr) (len cap len2 cap2 : Nat) (la lb : List Tok) (w : World) (ws : win.size ≤ maxLen) (hv : la.length = len ∧ len ≤ maxLen ∧ IsToks w a la ∧ (a = none → len = 0 ∧ cap = 0))
    (hv2 : lb.length = len2 ∧ len2 ≤ maxLen ∧ IsToks w b lb ∧ (b = none → len2 = 0 ∧ cap2 = 0)) :
    Calls Try.prog 8 #[.string win, .slice a len cap, .slice b len2 cap2] w fun e w' => e = .returned (.bool true) ∧ Below w.heap.size w w' := by
  obtain ⟨hn, hm, ht, ha⟩ := hv
  obtain ⟨hn2, hm2, ht2, ha2⟩ := hv2
  by_cases hg : 60 < len ∨ 60 < len2 ∨ 1000 < win.size
  · exact early win a b len cap len2 cap2 w ws hm hm2 hg
  have h1 : ¬ 60 < len := by omega
  have h2 : ¬ 60 < len2 := by omega
  have h3 : win.size ≤ 1000 := by omega
  have CO := fun w' => Lib.hid (over_any a len cap w' hm)
  rw [decide_eq_false h1] at CO
  have CQ := fun w' => Lib.hid (over_any b len2 cap2 w' hm2)
  rw [decide_eq_false h2] at CQ
  have d3 : decide (1000 < win.size) = false := decide_eq_false (by omega)
  have d4 : decide ((1000 : Int) < win.size) = false := decide_eq_false (by omega)
  have HT := Lib.hid ht
  have HT2 := Lib.hid ht2
  have HA := Lib.hid ha
  have HA2 := Lib.hid ha2
  have HN := Lib.hid hn
  have HN2 := Lib.hid hn2
  have CX := fun w' (h : IsToks w' a la) => Lib.hid (expand_any win a la len cap w' hn h ws (by omega))
  have hcs := exp_cases win.data.toList la
  have hgl := exp_glue win.data.toList la lb (by simpa using h3) (by omega)
  obtain ⟨xs, hxs⟩ : ∃ xs, (⟨(expL win.data.toList la).toArray⟩ : ByteArray) = xs := ⟨_, rfl⟩
  have hxl : expL win.data.toList la = xs.data.toList := by rw [← hxs]
  have hws : (win ++ xs).data.toList = win.data.toList ++ xs.data.toList := by simp
  have hzs : xs.size ≤ 15480 := by
    have e : xs.data.toList.length = xs.size := by simp
    rcases hcs with ⟨_, h⟩ | ⟨_, _, h⟩
    · rw [hxl] at h; rw [h, List.length_nil] at e; omega
    · rw [hxl] at h; omega
  have CY := fun w' (h : IsToks w' b lb) => Lib.hid (expand_any (win ++ xs) b lb len2 cap2 w' hn2 h (by simp; unfold maxLen; omega) (by omega))
  have CZ := fun w' v n2 c2 (h : w'.ownsRow 0 30 3 (.slice v n2 c2) n2 (cellsT (la ++ lb))) (hl : (la ++ lb).length = n2) => Lib.hid (expand_any win v (la ++ lb) n2 c2 w' hl (toks_of_row hl h) ws (by rw [← hl, List.length_append]; omega))
  rw [hxl] at hgl
  rw [hxs] at CX
  rw [hws] at CY
  obtain ⟨ys, hys⟩ : ∃ ys, (⟨(expL (win.data.toList ++ xs.data.toList) lb).toArray⟩ : ByteArray) = ys := ⟨_, rfl⟩
  obtain ⟨zs, hzs2⟩ : ∃ zs, (⟨(expL win.data.toList (la ++ lb)).toArray⟩ : ByteArray) = zs := ⟨_, rfl⟩
  have hyz : ys.size ≤ 15480 := by
    have e : (expL (win.data.toList ++ xs.data.toList) lb).length = ys.size := by rw [← hys]; exact List.size_toArray.symm
    rcases exp_cases (win.data.toList ++ xs.data.toList) lb with ⟨_, h⟩ | ⟨_, _, h⟩
    · rw [h, List.length_nil] at e; omega
    · omega
  rw [hys] at CY
  rw [hzs2] at CZ
  have hbad : expE win.data.toList la ≠ 0 → xs = ⟨#[]⟩ := fun h => by
    rcases hcs with ⟨_, h5⟩ | ⟨h4, _⟩
    · rw [← hxs, h5]
    · exact absurd h4 h
  have hgood : expE win.data.toList la = 0 → expE (win.data.toList ++ xs.data.toList) lb = expE win.data.toList (la ++ lb) ∧ (expE win.data.toList (la ++ lb) ≠ 0 → zs = ⟨#[]⟩) ∧ (expE win.data.toList (la ++ lb) = 0 → zs = xs ++ ys) := fun h => by
    obtain ⟨q1, q2, q3⟩ := hgl h
    refine ⟨q1, fun h => ?_, fun h => ?_⟩
    · rw [← hzs2, q2 h]
    · rw [← hzs2, q3 h, ← hys, ← hxs]
      apply bytes_ext
      simp [hxl]
  obtain ⟨e, he⟩ : ∃ e, expE win.data.toList la = e := ⟨_, rfl⟩
  obtain ⟨f, hf⟩ : ∃ f, expE (win.data.toList ++ xs.data.toList) lb = f := ⟨_, rfl⟩
  obtain ⟨g, hg⟩ : ∃ g, expE win.data.toList (la ++ lb) = g := ⟨_, rfl⟩
  rw [he] at CX hbad hgood
  rw [hf] at CY hgood
  rw [hg] at CZ hgood
  have HBAD := Lib.hid hbad
  have HGOOD := Lib.hid hgood
  obtain ⟨i0, hi, hz0, hz1, hz2⟩ := info_parts info_tok
  clear hg hgl hcs hxs hxl hws hys hzs2 hbad hgood he hf ws hm hm2 ht ht2 ha ha2 hn hn2
  go_enter Try.func8, Try.ntmps8
  go_wp2_with fail
  refine (works_any _).mono ?_
  rintro r w1 ⟨rfl, b1⟩
  have B1 := Lib.hid b1
  clear b1
  go_wp2_with fail
  refine (CO _).out.mono ?_
  rintro r w2 ⟨rfl, rfl⟩
  go_wp2_with fail
  refine (CQ _).out.mono ?_
  rintro r w2 ⟨rfl, rfl⟩
  clear CO CQ
  go_wp2_with fail
  refine (CX _ (HT.out.below B1.out (Nat.le_refl _))).out.mono ?_
  rintro r w3 ⟨rfl, b3⟩
  have B3 := Lib.hid (B1.out.trans (b3.mono B1.out.size))
  clear b3 CX B1
  by_cases he : e = 0
  · obtain ⟨q1, q2, q3⟩ := HGOOD.out he
    have Q2 := Lib.hid q2
    have Q3 := Lib.hid q3
    subst he
    subst q1
    clear q2 q3 HBAD HGOOD
    go_wp2_with fail
    refine (CY _ (HT2.out.below B3.out (Nat.le_refl _))).out.mono ?_
    rintro r w4 ⟨rfl, b4⟩
    have B4 := Lib.hid (B3.out.trans (b4.mono B3.out.size))
    clear b4 CY B3
    have t4 := Lib.hid (HT.out.below B4.out (Nat.le_refl _))
    have bb : ∀ w5 v5, w4.grownBy w5 (Value.slice none 0 0).ownBlock → Near w4 (.slice none 0 0) v5 → Below w.heap.size w w5 ∧ ∀ j, v5.ownBlock = some j → w.heap.size ≤ j := fun w5 v5 g5 n5 =>
      ⟨B4.out.grown g5 B4.out.size (fun j hj => by simp [Value.ownBlock] at hj), fun j hj => by
        rcases n5 j hj with h | h
        · simp [Value.ownBlock] at h
        · have := B4.out.size; omega⟩
    have BB := Lib.hid bb
    clear bb
    have TB : ∀ w5, Below w.heap.size w w5 → IsToks w5 b lb := fun w5 h => HT2.out.below h (Nat.le_refl _)
    have TB := Lib.hid TB
    go_wp2_with (first
      | (at_builtin; refine wpl_append_toks _ rfl (.tmp 55) (.tmp 56) rfl i0 hi hz0 hz1 hz2 (.slice none 0 0) 0 [] rfl (World.ownsRow_nil _ _ _ _) a len cap la rfl HN.out t4.out HA.out (by omega) ?_; intro v5 w5 o5 g5 n5; have B5 := Lib.hid (BB.out w5 v5 g5 n5); clear g5 n5)
      | (at_builtin; refine wpl_append_toks _ rfl (.tmp 58) (.tmp 59) rfl i0 hi hz0 hz1 hz2 v5 (0 + len) ([] ++ la) rfl o5 b len2 cap2 lb rfl HN2.out (TB.out _ B5.out.1) HA2.out (by omega) ?_; intro v6 w6 o6 g6 n6; obtain ⟨va, vc, rfl⟩ := own_slice o6; have B6 := Lib.hid (B5.out.1.grown g6 B5.out.1.size B5.out.2); clear g6 n6))
    rw [Nat.zero_add, List.nil_append] at o6
    have hl : (la ++ lb).length = len + len2 := by rw [List.length_append, HN.out, HN2.out]
    have C7 := CZ _ _ _ _ o6 hl
    clear CZ o6 o5 B5 BB TB t4
    refine C7.out.mono ?_
    rintro r w7 ⟨rfl, b7⟩
    have B7 := Lib.hid (B6.out.trans (b7.mono B6.out.size))
    clear b7 B6 C7 B4
    by_cases hf : f = 0
    · have HZ := Q3.out hf
      subst hf
      subst HZ
      clear Q2 Q3
      go_wp2_with fail
      go_ret
      exact ⟨rfl, B7.out⟩
    · have HZ := Q2.out hf
      subst HZ
      have hf2 : (f == 0) = false := by simpa using hf
      clear Q2 Q3
      go_wp2_with fail
      go_ret
      exact ⟨rfl, B7.out⟩
  · have HX := HBAD.out he
    subst HX
    have he2 : (e == 0) = false := by simpa using he
    clear HBAD HGOOD
    go_wp2_with fail
    go_ret
    exact ⟨rfl, B3.out⟩

set_option maxRecDepth 100000 in
theorem lifted (os : Os) (started : os.Started) (H : Type) (enc : TypeId × Value → H) :
    ReturnsInHanded {} Try.checked os 8 .any (Rows.lzGlueSpec.pre6 enc Try.prog Try.f8 Rows.lzGlueRow.domain false) (Rows.lzGlueSpec.post enc Try.prog Try.f8 false true false false) := by
  refine returnsInHanded_of_change (C := Try.checked) own started (by kernel_rfl) Try.func8
    (ChangeSpec.witness6 (enc := enc) (C := Try.checked) false ⟨#[], #[.string ByteArray.empty, .slice none 0 0, .slice none 0 0], []⟩ 8 (by kernel_rfl) (by kernel_rfl) (by kernel_rfl) (by kernel_rfl)) ?_
  intro W base args ds gs before hval0 hW hcnd _
  have hval : ∀ (j : Nat) t v, Try.f8.params[j]? = some t → args[j]? = some v → Value.okWide Try.prog W .any base t v := hval0
  have hW' := hW
  obtain ⟨p, q, hA0, hV, rfl, hfz, hnd⟩ := hW
  have hA : DataW.TrodAll enc Try.prog W 0 (fun _ => true) true Try.f8.params.toList args.toList ds p := hA0
  rw [Try.params8] at hA hval
  obtain ⟨v0, vs0, d0, ds0, p0, q0, hargs, rfl, rfl, h0, r0⟩ := trodAll_cons hA
  obtain ⟨v1, vs1, d1, ds1, p1, q1, rfl, rfl, rfl, h1, r1⟩ := trodAll_cons r0
  obtain ⟨v2, vs2, d2, ds2, p2, q2, rfl, rfl, rfl, h2, r2⟩ := trodAll_cons r1
  obtain ⟨rfl, rfl, rfl⟩ := trodAll_nil r2
  obtain rfl : args = #[v0, v1, v2] := by cases args; simp_all
  obtain ⟨rfl, rfl⟩ := trodVars_none hV
  have k0 := h0
  have lt0 : ∀ x ∈ p0, x.block < W.heap.size := by obtain ⟨m, hm⟩ := k0; exact DataW.trod_lt m _ _ _ hm
  obtain ⟨a0, rfl, rfl, rfl, w0⟩ := open_string Try.underlying9 (hval 0 9 v0 rfl rfl) h0
  have k1 := h1
  have lt1 : ∀ x ∈ p1, x.block < W.heap.size := by obtain ⟨m, hm⟩ := k1; exact DataW.trod_lt m _ _ _ hm
  obtain ⟨a1, len1, cap1, rfl⟩ := okWide_slice Try.underlying22 (hval 1 22 v1 rfl rfl)
  obtain ⟨A1, w1⟩ := toks_see h1
  have k2 := h2
  have lt2 : ∀ x ∈ p2, x.block < W.heap.size := by obtain ⟨m, hm⟩ := k2; exact DataW.trod_lt m _ _ _ hm
  obtain ⟨a2, len2, cap2, rfl⟩ := okWide_slice Try.underlying22 (hval 2 22 v2 rfl rfl)
  obtain ⟨A2, w2⟩ := toks_see h2
  clear hA0 hval0
  refine (walk a0 a1 a2 len1 cap1 len2 cap2 A1 A2 W w0 w1 w2).mono fun e W' ⟨he, bel⟩ => ?_
  subst he
  exact ⟨_, rfl, _, _, _, [], _, [], hW', trodAll_mk1 (shut_bool Try.underlying4 _), (trodAll_cons_mk (Below.trod laidOut (by kernel_rfl) (of_decide_eq_true (by kernel_rfl)) k0 bel lt0) (trodAll_cons_mk (Below.trod laidOut (by kernel_rfl) (of_decide_eq_true (by kernel_rfl)) k1 bel lt1) (trodAll_cons_mk (Below.trod laidOut (by kernel_rfl) (of_decide_eq_true (by kernel_rfl)) k2 bel lt2) trodAll_mk0))), rfl, bel.frame _, fun h => by cases h⟩

theorem over : Rows.lzGlueRow.holds Try.pinned (OpenSpec.ofChange Rows.lzGlueSpec) :=
  OpenClaim.holds_of_wide 8 Try.f8 rfl rfl rfl rfl rfl rfl rfl ⟨rfl, rfl, rfl, rfl, rfl⟩ rfl rfl rfl rfl rfl (by kernel_rfl) Try.func8 (by kernel_rfl)
    (of_decide_eq_true (by kernel_rfl)) (by unfold Func.isWrapper; first | (rw [if_pos (by decide +kernel)]; kernel_rfl) | (rw [if_neg (by decide +kernel)]; exact ⟨rfl, rfl⟩))
    (fun os started H enc _ => lifted os started H enc)

theorem proved : Rows.LzGlueSaid := over
end Go.Proofs.Ytlafenookbdhoaa.lzGlue
