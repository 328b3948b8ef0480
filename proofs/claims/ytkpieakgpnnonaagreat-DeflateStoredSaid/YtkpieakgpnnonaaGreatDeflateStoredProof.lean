/-
  DeflateStored (layer 9): blocks of bytes are just the document's, whatever stands ahead of them.
-/
import Derived.Test.YtkpieakgpnnonaaGreatRows
import Derived.Test.YtkpieakgpnnonaaGreatDefWorks
import Derived.Test.YtkpieakgpnnonaaGreatDflWhole
import Derived.WalkKit
import Derived.ProofKit
import Derived.OpenShut
import Derived.ShutString
import Derived.ChangeOld
import Derived.Below
import Derived.Lib.SmallJoins
import Derived.Deep.Slices
namespace Go.Proofs.YtkpieakgpnnonaaGreat.deflateStored
open Go.Proofs.YtkpieakgpnnonaaGreat.Def
open Go.Proofs.YtkpieakgpnnonaaGreat.Dfl
open Go.ChangeShapes Go.WideShapes Go.ChangeAt Go.RowKit
open Go.ChangeMaps (open_string shut_string)
set_option linter.unusedVariables false

theorem own : ownKnob Tryz.prog.godebug = none := by kernel_rfl
theorem laidOut : laidOutB Tryz.prog = true := by kernel_rfl

open Go.Proofs.YtkpieakgpnnonaaGreat.Bit (BlAt From Near But WrAt wbits_any wlen_any wstring_any text_any of_any bitsOf bitsOf_length cnt cnt_le pack SeesV)
open Go.Proofs.YtkpieakgpnnonaaGreat.Sym
theorem stB_short (last : Bool) (l : List Bool) (s : List UInt8) (h : s.length ≤ 70000) : (stB last l s).length ≤ l.length + 84 + 8 * s.length := by
  rcases Nat.lt_or_ge 65535 s.length with h1 | h1
  · rw [stB_more last l s h1, stB_last _ _ _ (by rw [List.length_drop]; omega)]
    have e1 := stOne_length last (stOne false l (s.take 65535)) (s.drop 65535)
    have e2 := stOne_length false l (s.take 65535)
    rw [List.length_drop] at e1
    rw [List.length_take] at e2
    omega
  · rw [stB_last last l s h1]
    have := stOne_length last l s
    omega

set_option maxRecDepth 100000 in
set_option maxHeartbeats 8000000 in
theorem early (D : Says) (x : Int) (s : ByteArray) (last : Bool) (W : World) (h : 70000 < s.size) (w1 : s.size ≤ maxLen) :
    Calls Tryz.prog 3 #[.int .i64 x, .string s, .bool last] W fun e w' => e = .returned (.bool true) ∧ Below W.heap.size W w' := by
  unfold maxLen at w1
  have d1 : decide ((70000 : Int) < (s.size : Int)) = true := by simp; omega
  have p1 : (70000 : Int) < s.size := by omega
  clear h
  go_enter Tryz.func3, Tryz.ntmps3
  go_wp2_with fail
  refine (works_any D _).mono ?_
  rintro r w1 ⟨rfl, b1⟩
  go_wp2_with fail
  all_goals (go_ret; exact ⟨rfl, b1⟩)

set_option maxRecDepth 100000 in
set_option maxHeartbeats 8000000 in
theorem walk (D : Says) (x : Int) (s : ByteArray) (last : Bool) (W : World) (w1 : s.size ≤ maxLen) :
    Calls Tryz.prog 3 #[.int .i64 x, .string s, .bool last] W fun e w' => e = .returned (.bool true) ∧ Below W.heap.size W w' := by
  by_cases hg : 70000 < s.size
  · exact early D x s last W hg w1
  have d1 : decide ((70000 : Int) < (s.size : Int)) = false := by simp; omega
  have p1 : ¬ ((70000 : Int) < s.size) := by omega
  have hs : s.size ≤ 70000 := by omega
  have HW := Lib.hid (works_any D W)
  obtain ⟨A, hA⟩ : ∃ A, bitsOf (cnt x) (-1) = A := ⟨_, rfl⟩
  have hAl : A.length ≤ 32 := by rw [← hA, bitsOf_length]; exact cnt_le x
  have CB := Lib.hid (fun b v w h => wbits_any b v [] x (-1) w h (by decide))
  have CO := Lib.hid (fun w => of_any x (-1) w)
  rw [hA] at CB CO
  have CD := Lib.hid (fun b v w h => D.stored b v A s last w h (by omega) hs)
  have CR := Lib.hid (fun B v w0 w h => refStored_any B v A s last w0 w h (by omega) hs)
  obtain ⟨X, hX⟩ : ∃ X, stB last A s.data.toList = X := ⟨_, rfl⟩
  rw [hX] at CD CR
  have hXl : X.length ≤ 900000 := by
    have := stB_short last A s.data.toList (by rw [Dfl.size_list]; exact hs)
    rw [hX, Dfl.size_list] at this
    omega
  clear hA hX hg w1 D
  go_enter Tryz.func3, Tryz.ntmps3
  go_wp2_with fail
  refine HW.out.mono ?_
  rintro r w1 ⟨rfl, b1⟩
  have HB1 := Lib.hid b1
  clear b1 HW
  go_wp2_with fail
  have hwr := wr_new w1
  have bX : Below w1.heap.size w1 (w1.alloc (.cells #[.slice none 0 0, .int .i64 0] 26)) := (Below.refl _ _).alloc (Nat.le_refl _) _
  generalize (w1.alloc (.cells #[.slice none 0 0, .int .i64 0] 26)) = w2 at *
  have HB2 := Lib.hid (HB1.out.trans (bX.mono HB1.out.size))
  have hge : W.heap.size ≤ w1.heap.size := HB1.out.size
  generalize w1.heap.size = b at *
  clear bX HB1
  refine (CB.out b (.slice none 0 0) w2 hwr).mono ?_
  rintro r w3 ⟨rfl, v3, h3, k3, n3⟩
  have HW3 : Hid (WrAt w3 b v3 A) := Lib.hid h3
  have HF3 : Hid (∀ i, v3.ownBlock = some i → W.heap.size ≤ i) := Lib.hid fun i hi => by
    rcases n3 i hi with h | h
    · cases h
    · exact Nat.le_trans HB2.out.size h
  have HB3 := Lib.hid (Sym.below_but HB2.out (Nat.le_refl _) k3 hge (fun i h => by cases h))
  clear h3 k3 n3 hwr HB2 CB
  go_wp2_with fail
  refine (CD.out b v3 w3 HW3.out).mono ?_
  rintro r w4 ⟨rfl, v4, h4, k4, n4⟩
  have HW4 : Hid (WrAt w4 b v4 X) := Lib.hid h4
  have HB4 := Lib.hid (Sym.below_but HB3.out (Nat.le_refl _) k4 hge HF3.out)
  clear h4 k4 n4 HW3 HB3 HF3 CD
  go_wp2_with fail
  refine (CO.out w4).mono ?_
  rintro r w5 ⟨u5, rfl, bl5, b5, f5⟩
  have R5 : Hid (Row2 w4.heap.size w4 w5 u5 A) := Lib.hid ⟨bl5, b5, f5, Nat.le_refl _⟩
  clear bl5 b5 f5 CO
  go_wp2_with fail
  refine (CR.out w4.heap.size u5 w4 w5 R5.out).mono ?_
  rintro r w6 ⟨u6, rfl, R6⟩
  obtain ⟨sa, sc, rfl, _⟩ := R6.bl.shape
  have HR6 := Lib.hid R6.bl
  have HW6 := Lib.hid (wr_below HW4.out R6.be)
  have HB6 := Lib.hid (HB4.out.trans (R6.be.mono HB4.out.size))
  clear R6 R5 HW4 HB4 CR
  go_wp2_with fail
  refine (wlen_any b v4 X w6 HW6.out (by omega)).mono ?_
  rintro r w7 ⟨rfl, q7, rfl⟩
  have HW7 : Hid (WrAt (w6.drewN q7) b v4 X) := Lib.hid (wr_below HW6.out ⟨rfl, rfl, rfl, Nat.le_refl _, fun _ _ => rfl⟩)
  have HR7 := Lib.hid (HR6.out.draws q7)
  have HB7 : Hid (Below W.heap.size W (w6.drewN q7)) := Lib.hid ⟨HB6.out.os, HB6.out.tape, HB6.out.output, HB6.out.size, HB6.out.block⟩
  clear HW6 HR6 HB6
  generalize w6.drewN q7 = w7 at *
  go_wp2_with fail
  refine (wstring_any b v4 X w7 HW7.out).mono ?_
  rintro r w8 ⟨rfl, rfl⟩
  have CT := Lib.hid (text_any _ X w7 (by omega) HR7.out.seesV)
  go_wp2_with fail
  refine CT.out.mono ?_
  rintro r w9 ⟨rfl, b9⟩
  have HB9 := Lib.hid (HB7.out.trans (b9.mono HB7.out.size))
  clear b9 CT HB7 HW7 HR7
  go_wp2_with fail
  go_ret
  exact ⟨rfl, HB9.out⟩

set_option maxRecDepth 100000 in
theorem lifted (os : Os) (started : os.Started) (H : Type) (enc : TypeId × Value → H) :
    ReturnsInHanded {} Tryz.checked os 3 .any (Rows.deflateStoredSpec.pre6 enc Tryz.prog Tryz.f3 Rows.deflateStoredRow.domain false) (Rows.deflateStoredSpec.post enc Tryz.prog Tryz.f3 false true false false) := by
  refine returnsInHanded_of_change (C := Tryz.checked) own started (by kernel_rfl) Tryz.func3
    (ChangeSpec.witness6 (enc := enc) (C := Tryz.checked) false ⟨#[], #[.int .i64 0, .string ByteArray.empty, .bool false], []⟩ 8 (by kernel_rfl) (by kernel_rfl) (by kernel_rfl) (by kernel_rfl)) ?_
  intro W base args ds gs before hval0 hW hcnd _
  have hval : ∀ (j : Nat) t v, Tryz.f3.params[j]? = some t → args[j]? = some v → Value.okWide Tryz.prog W .any base t v := hval0
  have hW' := hW
  obtain ⟨p, q, hA0, hV, rfl, hfz, hnd⟩ := hW
  have hA : DataW.TrodAll enc Tryz.prog W 0 (fun _ => true) true Tryz.f3.params.toList args.toList ds p := hA0
  rw [Tryz.params3] at hA hval
  obtain ⟨v0, vs0, d0, ds0, p0, q0, hargs, rfl, rfl, h0, r0⟩ := trodAll_cons hA
  obtain ⟨v1, vs1, d1, ds1, p1, q1, rfl, rfl, rfl, h1, r1⟩ := trodAll_cons r0
  obtain ⟨v2, vs2, d2, ds2, p2, q2, rfl, rfl, rfl, h2, r2⟩ := trodAll_cons r1
  obtain ⟨rfl, rfl, rfl⟩ := trodAll_nil r2
  obtain rfl : args = #[v0, v1, v2] := by cases args; simp_all
  obtain ⟨rfl, rfl⟩ := trodVars_none hV
  have k0 := h0
  have lt0 : ∀ x ∈ p0, x.block < W.heap.size := by obtain ⟨m, hm⟩ := k0; exact DataW.trod_lt m _ _ _ hm
  obtain ⟨a0, rfl, rfl, rfl, w0⟩ := open_int Tryz.underlying3 (hval 0 3 v0 rfl rfl) h0
  have k1 := h1
  have lt1 : ∀ x ∈ p1, x.block < W.heap.size := by obtain ⟨m, hm⟩ := k1; exact DataW.trod_lt m _ _ _ hm
  obtain ⟨a1, rfl, rfl, rfl, w1⟩ := open_string Tryz.underlying9 (hval 1 9 v1 rfl rfl) h1
  have k2 := h2
  have lt2 : ∀ x ∈ p2, x.block < W.heap.size := by obtain ⟨m, hm⟩ := k2; exact DataW.trod_lt m _ _ _ hm
  obtain ⟨a2, rfl, rfl, rfl⟩ := open_bool Tryz.underlying4 (hval 2 4 v2 rfl rfl) h2
  clear hA0 hval0
  refine (walk says a0 a1 a2 W w1).mono fun e W' ⟨he, bel⟩ => ?_
  subst he
  exact ⟨_, rfl, _, _, _, [], _, [], hW', trodAll_mk1 (shut_bool Tryz.underlying4 _), (trodAll_cons_mk (Below.trod laidOut (by kernel_rfl) (of_decide_eq_true (by kernel_rfl)) k0 bel lt0) (trodAll_cons_mk (Below.trod laidOut (by kernel_rfl) (of_decide_eq_true (by kernel_rfl)) k1 bel lt1) (trodAll_cons_mk (Below.trod laidOut (by kernel_rfl) (of_decide_eq_true (by kernel_rfl)) k2 bel lt2) trodAll_mk0))), rfl, bel.frame _, fun h => by cases h⟩

theorem over : Rows.deflateStoredRow.holds Tryz.pinned (OpenSpec.ofChange Rows.deflateStoredSpec) :=
  OpenClaim.holds_of_wide 3 Tryz.f3 rfl rfl rfl rfl rfl rfl rfl ⟨rfl, rfl, rfl, rfl, rfl⟩ rfl rfl rfl rfl rfl (by kernel_rfl) Tryz.func3 (by kernel_rfl)
    (of_decide_eq_true (by kernel_rfl)) (by unfold Func.isWrapper; first | (rw [if_pos (by decide +kernel)]; kernel_rfl) | (rw [if_neg (by decide +kernel)]; exact ⟨rfl, rfl⟩))
    (fun os started H enc _ => lifted os started H enc)

theorem proved : Rows.DeflateStoredSaid := over
end Go.Proofs.YtkpieakgpnnonaaGreat.deflateStored
