/-
  LzTails (layer 6): what is ahead of a window's last 32768 bytes does not matter; the end of an end is that end.
-/
import Derived.Test.YtlafenookbdhoaaRows
import Derived.Test.YtlafenookbdhoaaLzView
import Derived.WalkKit
import Derived.ProofKit
import Derived.OpenShut
import Derived.ShutString
import Derived.ChangeOld
import Derived.Below
import Derived.Lib.SmallJoins
import Derived.Deep.Slices
namespace Go.Proofs.Ytlafenookbdhoaa.lzTails
open Go.Proofs.Ytlafenookbdhoaa.Lz
open Go.ChangeShapes Go.WideShapes Go.ChangeAt Go.RowKit
open Go.ChangeMaps (open_string shut_string)
set_option linter.unusedVariables false

theorem own : ownKnob Try.prog.godebug = none := by kernel_rfl
theorem laidOut : laidOutB Try.prog = true := by kernel_rfl

theorem early (ahead win : ByteArray) (a : Option Addr) (len cap : Nat) (w : World) (wa : ahead.size ≤ maxLen) (ws : win.size ≤ maxLen) (hn : len ≤ maxLen) (hg : 60 < len ∨ 2000 < ahead.size ∨ 70000 < win.size) :
    Calls Try.prog 9 #[.string ahead, .string win, .slice a len cap] w fun e w' => e = .returned (.bool true) ∧ Below w.heap.size w w' := by
  unfold maxLen at ws wa
  have CO := fun w' => Lib.hid (over_any a len cap w' hn)
  unfold maxLen at hn
  by_cases h1 : 60 < len
  · clear hg
    rw [decide_eq_true h1] at CO
    go_enter Try.func9, Try.ntmps9
    go_wp2_with fail
    refine (works_any _).mono ?_
    rintro r w1 ⟨rfl, b1⟩
    go_wp2_with fail
    refine (CO _).out.mono ?_
    rintro r w2 ⟨rfl, rfl⟩
    go_wp2_with fail
    all_goals (go_ret; exact ⟨rfl, b1⟩)
  rw [decide_eq_false h1] at CO
  by_cases h2 : 2000 < ahead.size
  · clear hg
    go_enter Try.func9, Try.ntmps9
    go_wp2_with fail
    refine (works_any _).mono ?_
    rintro r w1 ⟨rfl, b1⟩
    go_wp2_with fail
    refine (CO _).out.mono ?_
    rintro r w2 ⟨rfl, rfl⟩
    go_wp2_with fail
    all_goals (go_ret; exact ⟨rfl, b1⟩)
  have h3 : 70000 < win.size := by omega
  clear hg
  go_enter Try.func9, Try.ntmps9
  go_wp2_with fail
  refine (works_any _).mono ?_
  rintro r w1 ⟨rfl, b1⟩
  go_wp2_with fail
  refine (CO _).out.mono ?_
  rintro r w2 ⟨rfl, rfl⟩
  go_wp2_with fail
  all_goals (go_ret; exact ⟨rfl, b1⟩)

set_option maxRecDepth 100000 in
set_option maxHeartbeats 2000000 in
theorem walk (ahead win : ByteArray) (a : Option Addr) (len cap : Nat) (l : List Tok) (w : World) (wa : ahead.size ≤ maxLen) (ws : win.size ≤ maxLen) (hv : l.length = len ∧ len ≤ maxLen ∧ IsToks w a l ∧ (a = none → len = 0 ∧ cap = 0)) :
    Calls Try.prog 9 #[.string ahead, .string win, .slice a len cap] w fun e w' => e = .returned (.bool true) ∧ Below w.heap.size w w' := by
  obtain ⟨hn, hm, ht, _⟩ := hv
  by_cases hg : 60 < len ∨ 2000 < ahead.size ∨ 70000 < win.size
  · exact early ahead win a len cap w wa ws hm hg
  have h1 : ¬ 60 < len := by omega
  have h2 : ahead.size ≤ 2000 := by omega
  have h3 : win.size ≤ 70000 := by omega
  have CO := fun w' => Lib.hid (over_any a len cap w' hm)
  rw [decide_eq_false h1] at CO
  have d2 : decide (2000 < ahead.size) = false := decide_eq_false (by omega)
  have d3 : decide (70000 < win.size) = false := decide_eq_false (by omega)
  have d4 : decide ((2000 : Int) < ahead.size) = false := decide_eq_false (by omega)
  have d5 : decide ((70000 : Int) < win.size) = false := decide_eq_false (by omega)
  have HT := Lib.hid ht
  have CX := fun w' (h : IsToks w' a l) => Lib.hid (expand_any win a l len cap w' hn h ws (by omega))
  have T1 := fun w' => Lib.hid (tail_any win w' ws)
  have tz : (tailB win).size = min win.size 32768 := tailB_size win
  have CT := fun w' (h : IsToks w' a l) => Lib.hid (expand_any (tailB win) a l len cap w' hn h (by unfold maxLen; omega) (by omega))
  have T2 := fun w' => Lib.hid (tail_any (tailB win) w' (by unfold maxLen; omega))
  rw [tailB_small (tailB win) (by omega)] at T2
  obtain ⟨x1, x2⟩ := exp_tail win.data.toList l
  rw [tailB_list, x1, x2] at CT
  clear x1 x2
  have hs2 : (ahead ++ win).size = ahead.size + win.size := by simp
  have CA : 32768 ≤ win.size → ∀ w' (h : IsToks w' a l), Hid (Calls Try.prog 12 #[.string (ahead ++ win), .slice a len cap] w' fun e w'' => e = .returned (.tuple #[.string ⟨(expL win.data.toList l).toArray⟩, .int .i64 (expE win.data.toList l)]) ∧ Below w'.heap.size w' w'') := fun hz w' h => by
    have := expand_any (ahead ++ win) a l len cap w' hn h (by unfold maxLen; omega) (by omega)
    have e : (ahead ++ win).data.toList = ahead.data.toList ++ win.data.toList := by simp
    obtain ⟨x1, x2⟩ := exp_ahead ahead.data.toList win.data.toList l (by simpa using hz)
    rw [e, x1, x2] at this
    exact Lib.hid this
  have TA : 32768 ≤ win.size → ∀ w', Hid (Calls Try.prog 16 #[.string (ahead ++ win)] w' fun e w'' => e = .returned (.string (tailB win)) ∧ w' = w'') := fun hz w' => by
    have := tail_any (ahead ++ win) w' (by unfold maxLen; omega)
    have e : tailB (ahead ++ win) = tailB win := bytes_ext (by
      rw [tailB_list, tailB_list, show (ahead ++ win).data.toList = ahead.data.toList ++ win.data.toList by simp, tailL_ahead _ _ (by simpa using hz)])
    rw [e] at this
    exact Lib.hid this
  generalize (⟨(expL win.data.toList l).toArray⟩ : ByteArray) = rs at *
  generalize expE win.data.toList l = re at *
  generalize tailB win = tl at *
  clear hg ws wa hm ht
  go_enter Try.func9, Try.ntmps9
  go_wp2_with fail
  refine (works_any _).mono ?_
  rintro r w1 ⟨rfl, b1⟩
  have B1 := Lib.hid b1
  clear b1
  go_wp2_with fail
  refine (CO _).out.mono ?_
  rintro r w2 ⟨rfl, rfl⟩
  go_wp2_with fail
  refine (T1 _).out.mono ?_
  rintro r w2 ⟨rfl, rfl⟩
  go_wp2_with fail
  refine (CX _ (HT.out.below B1.out (Nat.le_refl _))).out.mono ?_
  rintro r w3 ⟨rfl, b3⟩
  have B3 := Lib.hid (B1.out.trans (b3.mono B1.out.size))
  clear b3 CX B1 T1
  go_wp2_with fail
  refine (CT _ (HT.out.below B3.out (Nat.le_refl _))).out.mono ?_
  rintro r w4 ⟨rfl, b4⟩
  have B4 := Lib.hid (B3.out.trans (b4.mono B3.out.size))
  clear b4 CT B3 CO
  obtain ⟨M, hM⟩ : ∃ M, tl.size = M := ⟨_, rfl⟩
  have hmin : min (win.size : Int) 32768 = (M : Int) := by omega
  have hM1 : decide ((M : Int) ≤ 32768) = true := decide_eq_true (by omega)
  have hM2 : decide (M ≤ 32768) = true := decide_eq_true (by omega)
  by_cases hz : 32768 ≤ win.size
  · have CA := CA hz
    have TA := TA hz
    have hz2 : ¬ ((win.size : Int) < 32768) := by omega
    have HME := Lib.hid (show ((M : Int) == 32768) = true by simp; omega)
    clear tz hs2 hz
    go_wp2_with fail
    refine (CA _ (HT.out.below B4.out (Nat.le_refl _))).out.mono ?_
    rintro r w5 ⟨rfl, b5⟩
    have B5 := Lib.hid (B4.out.trans (b5.mono B4.out.size))
    clear b5 CA B4
    go_wp2_with fail
    refine (TA _).out.mono ?_
    rintro r w6 ⟨rfl, rfl⟩
    clear TA
    go_wp2_with fail
    refine (T2 _).out.mono ?_
    rintro r w6 ⟨rfl, rfl⟩
    go_wp2_with fail
    all_goals (go_ret; refine ⟨ret_bool ?_, B5.out⟩; simp; omega)
  · have hz2 : decide ((32768 : Int) ≤ win.size) = false := decide_eq_false (by omega)
    clear tz hs2 hz CA TA
    go_wp2_with fail
    refine (T2 _).out.mono ?_
    rintro r w6 ⟨rfl, rfl⟩
    go_wp2_with fail
    all_goals (go_ret; refine ⟨ret_bool ?_, B4.out⟩; have hq := of_decide_eq_false hz2; simp; omega)

set_option maxRecDepth 100000 in
theorem lifted (os : Os) (started : os.Started) (H : Type) (enc : TypeId × Value → H) :
    ReturnsInHanded {} Try.checked os 9 .any (Rows.lzTailsSpec.pre6 enc Try.prog Try.f9 Rows.lzTailsRow.domain false) (Rows.lzTailsSpec.post enc Try.prog Try.f9 false true false false) := by
  refine returnsInHanded_of_change (C := Try.checked) own started (by kernel_rfl) Try.func9
    (ChangeSpec.witness6 (enc := enc) (C := Try.checked) false ⟨#[], #[.string ByteArray.empty, .string ByteArray.empty, .slice none 0 0], []⟩ 8 (by kernel_rfl) (by kernel_rfl) (by kernel_rfl) (by kernel_rfl)) ?_
  intro W base args ds gs before hval0 hW hcnd _
  have hval : ∀ (j : Nat) t v, Try.f9.params[j]? = some t → args[j]? = some v → Value.okWide Try.prog W .any base t v := hval0
  have hW' := hW
  obtain ⟨p, q, hA0, hV, rfl, hfz, hnd⟩ := hW
  have hA : DataW.TrodAll enc Try.prog W 0 (fun _ => true) true Try.f9.params.toList args.toList ds p := hA0
  rw [Try.params9] at hA hval
  obtain ⟨v0, vs0, d0, ds0, p0, q0, hargs, rfl, rfl, h0, r0⟩ := trodAll_cons hA
  obtain ⟨v1, vs1, d1, ds1, p1, q1, rfl, rfl, rfl, h1, r1⟩ := trodAll_cons r0
  obtain ⟨v2, vs2, d2, ds2, p2, q2, rfl, rfl, rfl, h2, r2⟩ := trodAll_cons r1
  obtain ⟨rfl, rfl, rfl⟩ := trodAll_nil r2
  obtain rfl : args = #[v0, v1, v2] := by cases args; simp_all
  obtain ⟨rfl, rfl⟩ := trodVars_none hV
  have k0 := h0
  have lt0 : ∀ x ∈ p0, x.block < W.heap.size := by obtain ⟨m, hm⟩ := k0; exact DataW.trod_lt m _ _ _ hm
  obtain ⟨a0, rfl, rfl, rfl, w0⟩ := open_string Try.underlying9 (hval 0 9 v0 rfl rfl) h0
  have k1 := h1
  have lt1 : ∀ x ∈ p1, x.block < W.heap.size := by obtain ⟨m, hm⟩ := k1; exact DataW.trod_lt m _ _ _ hm
  obtain ⟨a1, rfl, rfl, rfl, w1⟩ := open_string Try.underlying9 (hval 1 9 v1 rfl rfl) h1
  have k2 := h2
  have lt2 : ∀ x ∈ p2, x.block < W.heap.size := by obtain ⟨m, hm⟩ := k2; exact DataW.trod_lt m _ _ _ hm
  obtain ⟨a2, len2, cap2, rfl⟩ := okWide_slice Try.underlying22 (hval 2 22 v2 rfl rfl)
  obtain ⟨A2, w2⟩ := toks_see h2
  clear hA0 hval0
  refine (walk a0 a1 a2 len2 cap2 A2 W w0 w1 w2).mono fun e W' ⟨he, bel⟩ => ?_
  subst he
  exact ⟨_, rfl, _, _, _, [], _, [], hW', trodAll_mk1 (shut_bool Try.underlying4 _), (trodAll_cons_mk (Below.trod laidOut (by kernel_rfl) (of_decide_eq_true (by kernel_rfl)) k0 bel lt0) (trodAll_cons_mk (Below.trod laidOut (by kernel_rfl) (of_decide_eq_true (by kernel_rfl)) k1 bel lt1) (trodAll_cons_mk (Below.trod laidOut (by kernel_rfl) (of_decide_eq_true (by kernel_rfl)) k2 bel lt2) trodAll_mk0))), rfl, bel.frame _, fun h => by cases h⟩

theorem over : Rows.lzTailsRow.holds Try.pinned (OpenSpec.ofChange Rows.lzTailsSpec) :=
  OpenClaim.holds_of_wide 9 Try.f9 rfl rfl rfl rfl rfl rfl rfl ⟨rfl, rfl, rfl, rfl, rfl⟩ rfl rfl rfl rfl rfl (by kernel_rfl) Try.func9 (by kernel_rfl)
    (of_decide_eq_true (by kernel_rfl)) (by unfold Func.isWrapper; first | (rw [if_pos (by decide +kernel)]; kernel_rfl) | (rw [if_neg (by decide +kernel)]; exact ⟨rfl, rfl⟩))
    (fun os started H enc _ => lifted os started H enc)

theorem proved : Rows.LzTailsSaid := over
end Go.Proofs.Ytlafenookbdhoaa.lzTails
