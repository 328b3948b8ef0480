/-
  LzTwice (layer 6): what comes a second time, right behind itself, makes two tokens more at most than it has bytes; of 3 to 30 bytes.
-/
import Derived.Test.YtlafenookbdhoaaRows
import Derived.Test.YtlafenookbdhoaaLzBackI
import Derived.WalkKit
import Derived.ProofKit
import Derived.OpenShut
import Derived.ShutString
import Derived.ChangeOld
import Derived.Below
import Derived.Lib.SmallJoins
import Derived.Deep.Slices
namespace Go.Proofs.Ytlafenookbdhoaa.lzTwice
open Go.Proofs.Ytlafenookbdhoaa.Lz
open Go.ChangeShapes Go.WideShapes Go.ChangeAt Go.RowKit
open Go.ChangeMaps (open_string shut_string)
set_option linter.unusedVariables false

theorem own : ownKnob Try.prog.godebug = none := by kernel_rfl
theorem laidOut : laidOutB Try.prog = true := by kernel_rfl

theorem mono {T : List UInt8} {P Q : Nat → Tok → Prop} {s p : Nat} {l : List Tok} (hPQ : ∀ p t, P p t → Q p t) (h : Chain T P s l p) : Chain T Q s l p := by
  induction h with
  | nil => exact .nil
  | snoc h1 h2 h3 h4 ih => exact .snoc ih h2 h3 (hPQ _ _ h4)

theorem early (s : ByteArray) (w : World) (hn : s.size ≤ maxLen) (hg : s.size < 3 ∨ 30 < s.size) :
    Calls Try.prog 7 #[.string s] w fun e w' => e = .returned (.bool true) ∧ Below w.heap.size w w' := by
  unfold maxLen at hn
  by_cases h1 : s.size < 3
  · clear hg
    go_enter Try.func7, Try.ntmps7
    go_wp2_with fail
    refine (works_any _).mono ?_
    rintro r w1 ⟨rfl, b1⟩
    go_wp2_with fail
    all_goals (go_ret; exact ⟨rfl, b1⟩)
  have h3 : 30 < s.size := by omega
  clear hg
  go_enter Try.func7, Try.ntmps7
  go_wp2_with fail
  refine (works_any _).mono ?_
  rintro r w1 ⟨rfl, b1⟩
  go_wp2_with fail
  all_goals (go_ret; exact ⟨rfl, b1⟩)

set_option maxRecDepth 10000 in
set_option maxHeartbeats 2000000 in
theorem walk (s : ByteArray) (w : World) (hm : s.size ≤ maxLen) :
    Calls Try.prog 7 #[.string s] w fun e w' => e = .returned (.bool true) ∧ Below w.heap.size w w' := by
  by_cases hg : s.size < 3 ∨ 30 < s.size
  · exact early s w hm hg
  have h1 : 3 ≤ s.size := by omega
  have h2 : s.size ≤ 30 := by omega
  obtain ⟨u, hu⟩ : ∃ u, s ++ s = u := ⟨_, rfl⟩
  have hul : u.data.toList = s.data.toList ++ s.data.toList := by rw [← hu]; simp
  have huz : u.size = s.size + s.size := by rw [← hu]; simp
  have d1 : decide ((s.size : Int) < 3) = false := decide_eq_false (by omega)
  have d2 : decide ((30 : Int) < s.size) = false := decide_eq_false (by omega)
  have d3 : decide (s.size < 3) = false := decide_eq_false (by omega)
  have d4 : decide (30 < s.size) = false := decide_eq_false (by omega)
  have CP := fun w' => Lib.hid (pack_any ⟨#[]⟩ u w' (by decide) (by omega))
  have CX := fun w' a l cap (h : IsToks w' a l) (hl : l.length ≤ 1000000) => Lib.hid (refExpand_any ⟨#[]⟩ a l l.length cap w' rfl h (by decide) (by omega))
  have HUL := Lib.hid hul
  have HUZ := Lib.hid huz
  have hub : u.size ≤ 60 := by omega
  clear hg hm hul huz
  go_enter Try.func7, Try.ntmps7
  go_wp2_with fail
  refine (works_any _).mono ?_
  rintro r w1 ⟨rfl, b1⟩
  go_wp2_with fail
  refine (CP _).out.mono ?_
  rintro r w2 ⟨a, cap, l, rfl, ht, b2, hl, hch⟩
  obtain ⟨e1, e2, _⟩ := hch.back
  have C3 := CX w2 a l cap ht hl
  rw [e1, e2, show (⟨u.data.toList.toArray⟩ : ByteArray) = u from by cases u; simp] at C3
  have B2 := Lib.hid (b1.trans (b2.mono b1.size))
  have e4 : l.length ≤ 2 + s.size := by
    have h0 : tailL (ByteArray.mk #[]).data.toList = [] := rfl
    rw [h0, List.nil_append, HUL.out] at hch
    have hlen : (s.data.toList ++ s.data.toList).length = 2 * s.data.toList.length := by simp; omega
    rw [hlen] at hch
    have := (mono (Q := fun p t => Full (s.data.toList ++ s.data.toList) p t) (fun p t h => h rfl) hch).twice (by simpa using h1) (by simpa using h2)
    simpa using this
  clear b1 b2 ht CP CX hch e1 e2
  obtain ⟨N, hN⟩ : ∃ N, l.length = N := ⟨_, rfl⟩
  rw [hN] at C3 e4 hl ⊢
  have e5 : decide ((N : Int) ≤ 2 + s.size) = true := decide_eq_true (by omega)
  have e6 : decide (N ≤ 2 + s.size) = true := decide_eq_true e4
  clear hN
  go_wp2_with fail
  refine C3.out.mono ?_
  rintro r w3 ⟨rfl, b3⟩
  have B3 := Lib.hid (B2.out.trans (b3.mono B2.out.size))
  clear B2 b3 C3
  go_wp2_with fail
  go_ret
  exact ⟨rfl, B3.out⟩

set_option maxRecDepth 100000 in
theorem lifted (os : Os) (started : os.Started) (H : Type) (enc : TypeId × Value → H) :
    ReturnsInHanded {} Try.checked os 7 .any (Rows.lzTwiceSpec.pre6 enc Try.prog Try.f7 Rows.lzTwiceRow.domain false) (Rows.lzTwiceSpec.post enc Try.prog Try.f7 false true false false) := by
  refine returnsInHanded_of_change (C := Try.checked) own started (by kernel_rfl) Try.func7
    (ChangeSpec.witness6 (enc := enc) (C := Try.checked) false ⟨#[], #[.string ByteArray.empty], []⟩ 8 (by kernel_rfl) (by kernel_rfl) (by kernel_rfl) (by kernel_rfl)) ?_
  intro W base args ds gs before hval0 hW hcnd _
  have hval : ∀ (j : Nat) t v, Try.f7.params[j]? = some t → args[j]? = some v → Value.okWide Try.prog W .any base t v := hval0
  have hW' := hW
  obtain ⟨p, q, hA0, hV, rfl, hfz, hnd⟩ := hW
  have hA : DataW.TrodAll enc Try.prog W 0 (fun _ => true) true Try.f7.params.toList args.toList ds p := hA0
  rw [Try.params7] at hA hval
  obtain ⟨v0, vs0, d0, ds0, p0, q0, hargs, rfl, rfl, h0, r0⟩ := trodAll_cons hA
  obtain ⟨rfl, rfl, rfl⟩ := trodAll_nil r0
  obtain rfl : args = #[v0] := by cases args; simp_all
  obtain ⟨rfl, rfl⟩ := trodVars_none hV
  have k0 := h0
  have lt0 : ∀ x ∈ p0, x.block < W.heap.size := by obtain ⟨m, hm⟩ := k0; exact DataW.trod_lt m _ _ _ hm
  obtain ⟨a0, rfl, rfl, rfl, w0⟩ := open_string Try.underlying9 (hval 0 9 v0 rfl rfl) h0
  clear hA0 hval0
  refine (walk a0 W w0).mono fun e W' ⟨he, bel⟩ => ?_
  subst he
  exact ⟨_, rfl, _, _, _, [], _, [], hW', trodAll_mk1 (shut_bool Try.underlying4 _), (trodAll_cons_mk (Below.trod laidOut (by kernel_rfl) (of_decide_eq_true (by kernel_rfl)) k0 bel lt0) trodAll_mk0), rfl, bel.frame _, fun h => by cases h⟩

theorem over : Rows.lzTwiceRow.holds Try.pinned (OpenSpec.ofChange Rows.lzTwiceSpec) :=
  OpenClaim.holds_of_wide 7 Try.f7 rfl rfl rfl rfl rfl rfl rfl ⟨rfl, rfl, rfl, rfl, rfl⟩ rfl rfl rfl rfl rfl (by kernel_rfl) Try.func7 (by kernel_rfl)
    (of_decide_eq_true (by kernel_rfl)) (by unfold Func.isWrapper; first | (rw [if_pos (by decide +kernel)]; kernel_rfl) | (rw [if_neg (by decide +kernel)]; exact ⟨rfl, rfl⟩))
    (fun os started H enc _ => lifted os started H enc)

theorem proved : Rows.LzTwiceSaid := over
end Go.Proofs.Ytlafenookbdhoaa.lzTwice
