/-
  HuffmanCodes (layer 5): whether lengths may be, how much room is left, and which codes they make, is what the document says.
-/
import Derived.Test.YtildikdoimobhaaRows
import Derived.Test.YtildikdoimobhaaHufView
import Derived.WalkKit
import Derived.ProofKit
import Derived.OpenShut
import Derived.ShutString
import Derived.ChangeOld
import Derived.Below
import Derived.Lib.SmallJoins
import Derived.Deep.Slices
namespace Go.Proofs.Ytildikdoimobhaa.huffmanCodes
open Go.Proofs.Ytildikdoimobhaa.Huf
open Go.ChangeShapes Go.WideShapes Go.ChangeAt Go.RowKit
open Go.ChangeMaps (open_string shut_string)
set_option linter.unusedVariables false

theorem own : ownKnob Try.prog.godebug = none := by kernel_rfl
theorem laidOut : laidOutB Try.prog = true := by kernel_rfl

set_option maxRecDepth 10000 in
set_option maxHeartbeats 2000000 in
theorem walk (a : Option Addr) (n cap : Nat) (L : List Int) (W : World) (h : L.length = n ∧ n ≤ maxLen ∧ IsInts W a L ∧ ∀ x ∈ L, (Lit.int .i64 x).wf = true) :
    Calls Try.prog 3 #[.slice a n cap] W fun e w' => e = .returned (.bool true) ∧ Below W.heap.size W w' := by
  obtain ⟨hn, hmax, hI, _⟩ := h
  unfold maxLen at hmax
  by_cases hb : 340 < n
  · have hb' : (340 : Int) < n := by omega
    clear hI
    go_enter Try.func3, Try.ntmps3
    go_wp2_with fail
    refine (works_any _).mono ?_
    rintro r w1 ⟨rfl, b1⟩
    go_wp2_with fail
    go_ret
    exact ⟨rfl, b1⟩
  have hb' : ¬ ((340 : Int) < n) := by omega
  have HI := Lib.hid hI
  clear hI hmax
  by_cases hf : fine L = true
  · obtain ⟨f1, f2, f3⟩ := fine_parts hf
    have hchk : chk L = .tuple #[.int .i64 (32768 - used (nats L) 15 : Nat), .int .i64 0] := by unfold chk; rw [hf, if_pos rfl]
    have C1 := fun w h => Lib.hid (check_any a n cap L w hn h (by omega))
    have C2 := fun w h => Lib.hid (refCheck_any a n cap L w hn h (by omega))
    have C3 := fun w h => Lib.hid (codes_good a n cap L w hn h hf)
    have C4 := fun w (h : IsInts w a L) => Lib.hid (refCodes_any a n cap (nats L) w (by rw [nats_length]; exact hn) (by rw [← nats_cast f2]; exact h) (by omega) (nats_le f2))
    rw [hchk] at C1 C2
    generalize 32768 - used (nats L) 15 = left at *
    clear hchk f1 f2 f3 hf
    go_enter Try.func3, Try.ntmps3
    go_wp2_with fail
    refine (works_any _).mono ?_
    rintro r w1 ⟨rfl, b1⟩
    have B1 := Lib.hid b1
    clear b1
    go_wp2_with fail
    refine (C1 _ (HI.out.below B1.out (Nat.le_refl _))).out.mono ?_
    rintro r w2 ⟨rfl, b2⟩
    have B2 := Lib.hid (B1.out.trans (b2.mono B1.out.size))
    clear b2 B1
    go_wp2_with fail
    refine (C2 _ (HI.out.below B2.out (Nat.le_refl _))).out.mono ?_
    rintro r w2 ⟨rfl, rfl⟩
    go_wp2_with fail
    refine (C3 _ (HI.out.below B2.out (Nat.le_refl _))).out.mono ?_
    rintro r w3 ⟨bc, rfl, b3, o3⟩
    have B3 := Lib.hid (B2.out.trans (b3.mono B2.out.size))
    have O3 := Lib.hid (row0 o3)
    clear b3 o3 B2
    go_wp2_with fail
    refine (C4 _ (HI.out.below B3.out (Nat.le_refl _))).out.mono ?_
    rintro r w4 ⟨bd, rfl, b4, o4⟩
    have B4 := Lib.hid (B3.out.trans (b4.mono B3.out.size))
    have O4 := Lib.hid (row0 o4)
    have O5 := Lib.hid (ownsRow_blockK O3.out (fun j hj => b4.block j (O3.out.lt j hj).2))
    clear b4 o4 B3 O3 C1 C2 C3 C4
    go_wp2_with fail
    refine (same_any bc bd n _ _ _ O5.out O4.out (by omega)).mono ?_
    rintro r w5 ⟨rfl, b5⟩
    have B5 := Lib.hid (B4.out.trans (b5.mono B4.out.size))
    clear b5 B4 O4 O5
    go_wp2_with fail
    go_ret
    exact ⟨rfl, B5.out⟩
  · have hf' : fine L = false := by simpa using hf
    have hchk : chk L = .tuple #[.int .i64 0, .int .i64 50] := by unfold chk; rw [hf']; rfl
    have C1 := fun w h => Lib.hid (check_any a n cap L w hn h (by omega))
    have C2 := fun w h => Lib.hid (refCheck_any a n cap L w hn h (by omega))
    have C3 := fun w h => Lib.hid (codes_bad a n cap L w hn h (by omega) hf')
    rw [hchk] at C1 C2
    clear hchk hf hf'
    go_enter Try.func3, Try.ntmps3
    go_wp2_with fail
    refine (works_any _).mono ?_
    rintro r w1 ⟨rfl, b1⟩
    have B1 := Lib.hid b1
    clear b1
    go_wp2_with fail
    refine (C1 _ (HI.out.below B1.out (Nat.le_refl _))).out.mono ?_
    rintro r w2 ⟨rfl, b2⟩
    have B2 := Lib.hid (B1.out.trans (b2.mono B1.out.size))
    clear b2 B1
    go_wp2_with fail
    refine (C2 _ (HI.out.below B2.out (Nat.le_refl _))).out.mono ?_
    rintro r w2 ⟨rfl, rfl⟩
    go_wp2_with fail
    refine (C3 _ (HI.out.below B2.out (Nat.le_refl _))).out.mono ?_
    rintro r w3 ⟨rfl, b3⟩
    have B3 := Lib.hid (B2.out.trans (b3.mono B2.out.size))
    clear b3 B2 C1 C2 C3
    go_wp2_with fail
    go_ret
    exact ⟨rfl, B3.out⟩

set_option maxRecDepth 100000 in
theorem lifted (os : Os) (started : os.Started) (H : Type) (enc : TypeId × Value → H) :
    ReturnsInHanded {} Try.checked os 3 .any (Rows.huffmanCodesSpec.pre6 enc Try.prog Try.f3 Rows.huffmanCodesRow.domain false) (Rows.huffmanCodesSpec.post enc Try.prog Try.f3 false true false false) := by
  refine returnsInHanded_of_change (C := Try.checked) own started (by kernel_rfl) Try.func3
    (ChangeSpec.witness6 (enc := enc) (C := Try.checked) false ⟨#[], #[.slice none 0 0], []⟩ 8 (by kernel_rfl) (by kernel_rfl) (by kernel_rfl) (by kernel_rfl)) ?_
  intro W base args ds gs before hval0 hW hcnd _
  have hval : ∀ (j : Nat) t v, Try.f3.params[j]? = some t → args[j]? = some v → Value.okWide Try.prog W .any base t v := hval0
  have hW' := hW
  obtain ⟨p, q, hA0, hV, rfl, hfz, hnd⟩ := hW
  have hA : DataW.TrodAll enc Try.prog W 0 (fun _ => true) true Try.f3.params.toList args.toList ds p := hA0
  rw [Try.params3] at hA hval
  obtain ⟨v0, vs0, d0, ds0, p0, q0, hargs, rfl, rfl, h0, r0⟩ := trodAll_cons hA
  obtain ⟨rfl, rfl, rfl⟩ := trodAll_nil r0
  obtain rfl : args = #[v0] := by cases args; simp_all
  obtain ⟨rfl, rfl⟩ := trodVars_none hV
  have k0 := h0
  have lt0 : ∀ x ∈ p0, x.block < W.heap.size := by obtain ⟨m, hm⟩ := k0; exact DataW.trod_lt m _ _ _ hm
  obtain ⟨a0, len0, cap0, rfl⟩ := okWide_slice Try.underlying22 (hval 0 22 v0 rfl rfl)
  obtain ⟨A0, w0⟩ := ints_see h0
  clear hA0 hval0
  refine (walk a0 len0 cap0 A0 W w0).mono fun e W' ⟨he, bel⟩ => ?_
  subst he
  exact ⟨_, rfl, _, _, _, [], _, [], hW', trodAll_mk1 (shut_bool Try.underlying4 _), (trodAll_cons_mk (Below.trod laidOut (by kernel_rfl) (of_decide_eq_true (by kernel_rfl)) k0 bel lt0) trodAll_mk0), rfl, bel.frame _, fun h => by cases h⟩

theorem over : Rows.huffmanCodesRow.holds Try.pinned (OpenSpec.ofChange Rows.huffmanCodesSpec) :=
  OpenClaim.holds_of_wide 3 Try.f3 rfl rfl rfl rfl rfl rfl rfl ⟨rfl, rfl, rfl, rfl, rfl⟩ rfl rfl rfl rfl rfl (by kernel_rfl) Try.func3 (by kernel_rfl)
    (of_decide_eq_true (by kernel_rfl)) (by unfold Func.isWrapper; first | (rw [if_pos (by decide +kernel)]; kernel_rfl) | (rw [if_neg (by decide +kernel)]; exact ⟨rfl, rfl⟩))
    (fun os started H enc _ => lifted os started H enc)

theorem proved : Rows.HuffmanCodesSaid := over
end Go.Proofs.Ytildikdoimobhaa.huffmanCodes
