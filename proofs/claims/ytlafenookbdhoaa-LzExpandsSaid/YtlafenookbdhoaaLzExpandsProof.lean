/-
  LzExpands (layer 6): what any tokens make, with any window, or what is wrong, is what the document says.
-/
import Derived.Test.YtlafenookbdhoaaRows
import Derived.Test.YtlafenookbdhoaaLzView
import Derived.WalkKit
import Derived.ProofKit
import Derived.OpenShut
import Derived.ShutString
import Derived.ChangeOld
import Derived.Below
import Derived.Lib.SmallJoins
import Derived.Deep.Slices
namespace Go.Proofs.Ytlafenookbdhoaa.lzExpands
open Go.Proofs.Ytlafenookbdhoaa.Lz
open Go.ChangeShapes Go.WideShapes Go.ChangeAt Go.RowKit
open Go.ChangeMaps (open_string shut_string)
set_option linter.unusedVariables false

theorem own : ownKnob Try.prog.godebug = none := by kernel_rfl
theorem laidOut : laidOutB Try.prog = true := by kernel_rfl

theorem early (win : ByteArray) (a : Option Addr) (len cap : Nat) (w : World) (ws : win.size ≤ maxLen) (hn : len ≤ maxLen) (hg : 60 < len ∨ 100000 < win.size) :
    Calls Try.prog 3 #[.string win, .slice a len cap] w fun e w' => e = .returned (.bool true) ∧ Below w.heap.size w w' := by
  unfold maxLen at ws
  have CO := fun w' => Lib.hid (over_any a len cap w' hn)
  unfold maxLen at hn
  by_cases h1 : 60 < len
  · clear hg
    rw [decide_eq_true h1] at CO
    go_enter Try.func3, Try.ntmps3
    go_wp2_with fail
    refine (works_any _).mono ?_
    rintro r w1 ⟨rfl, b1⟩
    go_wp2_with fail
    refine (CO _).out.mono ?_
    rintro r w2 ⟨rfl, rfl⟩
    go_wp2_with fail
    all_goals (go_ret; exact ⟨rfl, b1⟩)
  have h3 : 100000 < win.size := by omega
  clear hg
  rw [decide_eq_false h1] at CO
  go_enter Try.func3, Try.ntmps3
  go_wp2_with fail
  refine (works_any _).mono ?_
  rintro r w1 ⟨rfl, b1⟩
  go_wp2_with fail
  refine (CO _).out.mono ?_
  rintro r w2 ⟨rfl, rfl⟩
  go_wp2_with fail
  all_goals (go_ret; exact ⟨rfl, b1⟩)

set_option maxRecDepth 10000 in
set_option maxHeartbeats 2000000 in
theorem walk (win : ByteArray) (a : Option Addr) (len cap : Nat) (l : List Tok) (w : World) (ws : win.size ≤ maxLen) (hv : l.length = len ∧ len ≤ maxLen ∧ IsToks w a l ∧ (a = none → len = 0 ∧ cap = 0)) :
    Calls Try.prog 3 #[.string win, .slice a len cap] w fun e w' => e = .returned (.bool true) ∧ Below w.heap.size w w' := by
  obtain ⟨hn, hm, ht, _⟩ := hv
  by_cases hg : 60 < len ∨ 100000 < win.size
  · exact early win a len cap w ws hm hg
  have h1 : ¬ 60 < len := by omega
  have h2 : win.size ≤ 100000 := by omega
  have CO := fun w' => Lib.hid (over_any a len cap w' hm)
  rw [decide_eq_false h1] at CO
  have d2 : decide (100000 < win.size) = false := decide_eq_false (by omega)
  have HT := Lib.hid ht
  have CX := fun w' (h : IsToks w' a l) => Lib.hid (expand_any win a l len cap w' hn h ws (by omega))
  have CR := fun w' (h : IsToks w' a l) => Lib.hid (refExpand_any win a l len cap w' hn h ws (by omega))
  generalize (⟨(expL win.data.toList l).toArray⟩ : ByteArray) = rs at *
  generalize expE win.data.toList l = re at *
  have T1 := fun w' => Lib.hid (tail_any win w' ws)
  have T2 := fun w' => Lib.hid (refTail_any win w' ws)
  generalize tailB win = tl at *
  clear hg ws hm ht
  go_enter Try.func3, Try.ntmps3
  go_wp2_with fail
  refine (works_any _).mono ?_
  rintro r w1 ⟨rfl, b1⟩
  have B1 := Lib.hid b1
  clear b1
  go_wp2_with fail
  refine (CO _).out.mono ?_
  rintro r w2 ⟨rfl, rfl⟩
  go_wp2_with fail
  refine (CX _ (HT.out.below B1.out (Nat.le_refl _))).out.mono ?_
  rintro r w3 ⟨rfl, b3⟩
  have B3 := Lib.hid (B1.out.trans (b3.mono B1.out.size))
  clear b3 CX
  go_wp2_with fail
  refine (CR _ (HT.out.below B3.out (Nat.le_refl _))).out.mono ?_
  rintro r w4 ⟨rfl, b4⟩
  have B4 := Lib.hid (B3.out.trans (b4.mono B3.out.size))
  clear b4 CR B3 B1
  go_wp2_with fail
  go_loopw [11] (fun i wr => ∃ k : Nat, k ≤ len ∧ i = .int .i64 k ∧ Below w.heap.size w wr) (fun i _ => len - (intOf i).toNat)
  case atStart => exact ⟨0, Nat.zero_le _, rfl, B4.out⟩
  case round =>
    obtain ⟨k, hk, rfl, hb⟩ := hrel
    clear B4
    have HB := Lib.hid hb
    clear hb
    by_cases hlt : k < len
    · obtain ⟨g, off, rfl, hgb, hc⟩ := HT.out (by omega)
      obtain ⟨q1, q2, q3⟩ := hc k (by omega)
      have c1 := (HB.out.cell hgb).trans q1
      have c2 := (HB.out.cell hgb).trans q2
      have c3 := (HB.out.cell hgb).trans q3
      have GB := Lib.hid (Nat.lt_of_lt_of_le hgb HB.out.size)
      clear q1 q2 q3 hc hgb
      generalize l[k] = t at *
      generalize hv : okT t = v at *
      have V1 := fun w' => Lib.hid (valid_any t w')
      have V2 := fun w' => Lib.hid (refValid_any t w')
      rw [hv] at V1 V2
      clear HT CO T1 T2 hv
      have GBW : ∀ w', Below wr.heap.size wr w' → w'.cell? ⟨g, off + k * 3, none⟩ = some (.int .i64 t.B) ∧ w'.cell? ⟨g, off + k * 3 + 1, none⟩ = some (.int .i64 t.L) ∧ w'.cell? ⟨g, off + k * 3 + 2, none⟩ = some (.int .i64 t.D) :=
        fun w' b => ⟨(b.cell (p := ⟨g, off + k * 3, none⟩) GB.out).trans c1, (b.cell (p := ⟨g, off + k * 3 + 1, none⟩) GB.out).trans c2, (b.cell (p := ⟨g, off + k * 3 + 2, none⟩) GB.out).trans c3⟩
      have GK := Lib.hid GBW
      clear GBW
      go_wp2_with fail
      go_region_held3 (fun w' => w'.cell? ⟨g, off + k * 3, none⟩ = some (.int .i64 t.B) ∧ w'.cell? ⟨g, off + k * 3 + 1, none⟩ = some (.int .i64 t.L) ∧ w'.cell? ⟨g, off + k * 3 + 2, none⟩ = some (.int .i64 t.D)) (first | exact ⟨c1, c2, c3⟩ | exact hk2 | exact hk3)
        (first
          | (go_at_call 14; refine (V1 _).out.mono ?_; rintro r w5 ⟨rfl, hw5⟩; have b5 : Below wr.heap.size wr w5 := (by rw [hw5]; exact (Below.refl _ wr).drew.alloc (Nat.le_refl _) _); have hk2 := GK.out w5 b5; clear hw5)
          | (go_at_call 15; refine (V2 _).out.mono ?_; rintro r w6 ⟨rfl, hw6⟩; have b6 : Below wr.heap.size wr w6 := (by rw [hw6]; exact b5.alloc b5.size _); have hk3 := GK.out w6 b6; clear hw6))
      have b7 := HB.out.trans (b6.mono HB.out.size)
      have B7 := Lib.hid b7
      clear b5 b6 b7 hk2 hk3 GK V1 V2 c1 c2 c3
      go_wp2_with fail
      exact ⟨⟨k + 1, by omega, by go_num, B7.out⟩, by simp [intOf]; omega⟩
    · obtain rfl : k = len := by omega
      clear CO
      go_wp2_with fail
      refine (T1 _).out.mono ?_
      rintro r w5 ⟨rfl, rfl⟩
      go_wp2_with fail
      refine (T2 _).out.mono ?_
      rintro r w5 ⟨rfl, rfl⟩
      go_wp2_with fail
      go_ret
      exact ⟨rfl, HB.out⟩

set_option maxRecDepth 100000 in
theorem lifted (os : Os) (started : os.Started) (H : Type) (enc : TypeId × Value → H) :
    ReturnsInHanded {} Try.checked os 3 .any (Rows.lzExpandsSpec.pre6 enc Try.prog Try.f3 Rows.lzExpandsRow.domain false) (Rows.lzExpandsSpec.post enc Try.prog Try.f3 false true false false) := by
  refine returnsInHanded_of_change (C := Try.checked) own started (by kernel_rfl) Try.func3
    (ChangeSpec.witness6 (enc := enc) (C := Try.checked) false ⟨#[], #[.string ByteArray.empty, .slice none 0 0], []⟩ 8 (by kernel_rfl) (by kernel_rfl) (by kernel_rfl) (by kernel_rfl)) ?_
  intro W base args ds gs before hval0 hW hcnd _
  have hval : ∀ (j : Nat) t v, Try.f3.params[j]? = some t → args[j]? = some v → Value.okWide Try.prog W .any base t v := hval0
  have hW' := hW
  obtain ⟨p, q, hA0, hV, rfl, hfz, hnd⟩ := hW
  have hA : DataW.TrodAll enc Try.prog W 0 (fun _ => true) true Try.f3.params.toList args.toList ds p := hA0
  rw [Try.params3] at hA hval
  obtain ⟨v0, vs0, d0, ds0, p0, q0, hargs, rfl, rfl, h0, r0⟩ := trodAll_cons hA
  obtain ⟨v1, vs1, d1, ds1, p1, q1, rfl, rfl, rfl, h1, r1⟩ := trodAll_cons r0
  obtain ⟨rfl, rfl, rfl⟩ := trodAll_nil r1
  obtain rfl : args = #[v0, v1] := by cases args; simp_all
  obtain ⟨rfl, rfl⟩ := trodVars_none hV
  have k0 := h0
  have lt0 : ∀ x ∈ p0, x.block < W.heap.size := by obtain ⟨m, hm⟩ := k0; exact DataW.trod_lt m _ _ _ hm
  obtain ⟨a0, rfl, rfl, rfl, w0⟩ := open_string Try.underlying9 (hval 0 9 v0 rfl rfl) h0
  have k1 := h1
  have lt1 : ∀ x ∈ p1, x.block < W.heap.size := by obtain ⟨m, hm⟩ := k1; exact DataW.trod_lt m _ _ _ hm
  obtain ⟨a1, len1, cap1, rfl⟩ := okWide_slice Try.underlying22 (hval 1 22 v1 rfl rfl)
  obtain ⟨A1, w1⟩ := toks_see h1
  clear hA0 hval0
  refine (walk a0 a1 len1 cap1 A1 W w0 w1).mono fun e W' ⟨he, bel⟩ => ?_
  subst he
  exact ⟨_, rfl, _, _, _, [], _, [], hW', trodAll_mk1 (shut_bool Try.underlying4 _), (trodAll_cons_mk (Below.trod laidOut (by kernel_rfl) (of_decide_eq_true (by kernel_rfl)) k0 bel lt0) (trodAll_cons_mk (Below.trod laidOut (by kernel_rfl) (of_decide_eq_true (by kernel_rfl)) k1 bel lt1) trodAll_mk0)), rfl, bel.frame _, fun h => by cases h⟩

theorem over : Rows.lzExpandsRow.holds Try.pinned (OpenSpec.ofChange Rows.lzExpandsSpec) :=
  OpenClaim.holds_of_wide 3 Try.f3 rfl rfl rfl rfl rfl rfl rfl ⟨rfl, rfl, rfl, rfl, rfl⟩ rfl rfl rfl rfl rfl (by kernel_rfl) Try.func3 (by kernel_rfl)
    (of_decide_eq_true (by kernel_rfl)) (by unfold Func.isWrapper; first | (rw [if_pos (by decide +kernel)]; kernel_rfl) | (rw [if_neg (by decide +kernel)]; exact ⟨rfl, rfl⟩))
    (fun os started H enc _ => lifted os started H enc)

theorem proved : Rows.LzExpandsSaid := over
end Go.Proofs.Ytlafenookbdhoaa.lzExpands
