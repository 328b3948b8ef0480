/-
  SymbolsWrites (layer 7): the bits of any tokens by any codes, or that they can't be written, are the document's; then nothing is.
-/
import Derived.Test.YtikfenimgjeplaaRows
import Derived.Test.YtikfenimgjeplaaSymWrites
import Derived.WalkKit
import Derived.ProofKit
import Derived.OpenShut
import Derived.ShutString
import Derived.ChangeOld
import Derived.Below
import Derived.Lib.SmallJoins
import Derived.Deep.Slices
namespace Go.Proofs.Ytikfenimgjeplaa.symbolsWrites
open Go.Proofs.Ytikfenimgjeplaa.Sym
open Go.ChangeShapes Go.WideShapes Go.ChangeAt Go.RowKit
open Go.ChangeMaps (open_string shut_string)
set_option linter.unusedVariables false

theorem own : ownKnob Try.prog.godebug = none := by kernel_rfl
theorem laidOut : laidOutB Try.prog = true := by kernel_rfl

open Go.Proofs.Ytikfenimgjeplaa.Lz (Tok IsToks toks_see)
open Go.Proofs.Ytikfenimgjeplaa.Huf (IsInts ints_see nats)
open Go.Proofs.Ytikfenimgjeplaa.Bit (BlAt From Near But WrAt WrRaw SeesV wbits_any wlen_any wstring_any text_any wpList_append_sees bitsOf bitsOf_length cnt cnt_le pack)
set_option maxRecDepth 100000 in
set_option maxHeartbeats 8000000 in
theorem early (a1 a2 a3 : Option Addr) (n c1 m c2 q c3 : Nat) (x : Int) (W : World) (h : 330 < n ∨ 330 < m ∨ 60 < q) :
    Calls Try.prog 5 #[.slice a1 n c1, .slice a2 m c2, .slice a3 q c3, .int .i64 x] W fun e w' => e = .returned (.bool true) ∧ Below W.heap.size W w' := by
  by_cases h1 : 330 < n
  · clear h
    have d1 : decide ((330 : Int) < (n : Int)) = true := by simp; omega
    have p1 : (330 : Int) < n := by omega
    go_enter Try.func5, Try.ntmps5
    go_wp2_with fail
    refine (works_any _).mono ?_
    rintro r w1 ⟨rfl, b1⟩
    go_wp2_with fail
    all_goals (go_ret; exact ⟨rfl, b1⟩)
  have d1 : decide ((330 : Int) < (n : Int)) = false := by simp; omega
  have p1 : ¬ ((330 : Int) < n) := by omega
  by_cases h2 : 330 < m
  · clear h
    have d2 : decide ((330 : Int) < (m : Int)) = true := by simp; omega
    have p2 : (330 : Int) < m := by omega
    go_enter Try.func5, Try.ntmps5
    go_wp2_with fail
    refine (works_any _).mono ?_
    rintro r w1 ⟨rfl, b1⟩
    go_wp2_with fail
    all_goals (go_ret; exact ⟨rfl, b1⟩)
  have d2 : decide ((330 : Int) < (m : Int)) = false := by simp; omega
  have p2 : ¬ ((330 : Int) < m) := by omega
  have h3 : 60 < q := by omega
  clear h
  have d3 : decide ((60 : Int) < (q : Int)) = true := by simp; omega
  have p3 : (60 : Int) < q := by omega
  go_enter Try.func5, Try.ntmps5
  go_wp2_with fail
  refine (works_any _).mono ?_
  rintro r w1 ⟨rfl, b1⟩
  go_wp2_with fail
  all_goals (go_ret; exact ⟨rfl, b1⟩)

set_option maxRecDepth 100000 in
set_option maxHeartbeats 8000000 in
theorem walk (a1 a2 a3 : Option Addr) (n c1 m c2 q c3 : Nat) (L M : List Int) (l : List Tok) (x : Int) (W : World)
    (v0 : L.length = n ∧ n ≤ maxLen ∧ IsInts W a1 L ∧ ∀ x ∈ L, (Lit.int .i64 x).wf = true) (v1 : M.length = m ∧ m ≤ maxLen ∧ IsInts W a2 M ∧ ∀ x ∈ M, (Lit.int .i64 x).wf = true)
    (v2 : l.length = q ∧ q ≤ maxLen ∧ IsToks W a3 l ∧ (a3 = none → q = 0 ∧ c3 = 0)) :
    Calls Try.prog 5 #[.slice a1 n c1, .slice a2 m c2, .slice a3 q c3, .int .i64 x] W fun e w' => e = .returned (.bool true) ∧ Below W.heap.size W w' := by
  by_cases hg : 330 < n ∨ 330 < m ∨ 60 < q
  · exact early a1 a2 a3 n c1 m c2 q c3 x W hg
  obtain ⟨hL, _, iL, _⟩ := v0
  obtain ⟨hM, _, iM, _⟩ := v1
  obtain ⟨hl, _, iT, _⟩ := v2
  have d1 : decide ((330 : Int) < (n : Int)) = false := by simp; omega
  have p1 : ¬ ((330 : Int) < n) := by omega
  have d2 : decide ((330 : Int) < (m : Int)) = false := by simp; omega
  have p2 : ¬ ((330 : Int) < m) := by omega
  have d3 : decide ((60 : Int) < (q : Int)) = false := by simp; omega
  have p3 : ¬ ((60 : Int) < q) := by omega
  have hn : n ≤ 1000000 := by omega
  have hm : m ≤ 1000000 := by omega
  have hq : q ≤ 1000000 := by omega
  have hq60 : q ≤ 60 := by omega
  have IL := Lib.hid iL
  have IM := Lib.hid iM
  have IT := Lib.hid iT
  have AP : Hid (0 < q → ∀ y, a3 = some y → y.block < W.heap.size) := Lib.hid fun h0 y hy => by
    obtain ⟨bb, off, e, hlt, _⟩ := iT (by omega)
    rw [hy] at e; cases e; exact hlt
  clear iL iM iT hg
  obtain ⟨E, hE⟩ : ∃ E, wrE L M l = E := ⟨_, rfl⟩
  obtain ⟨X, hX⟩ : ∃ X, (if E = 0 then wrBits (nats L) (nats M) l else []) = X := ⟨_, rfl⟩
  have hXl : X.length ≤ 6000 := by
    rw [← hX]
    split
    · unfold wrBits
      have h1 := toksW_length (nats L) (nats M) l
      have h2 := cd_length (nats L) 256
      rw [List.length_append]; omega
    · simp
  have CW := Lib.hid (fun b v l0 w hw iL iM iT ap h0 => write_any b v l0 a1 a2 a3 n c1 m c2 q c3 L M l w hw hL hM hl iL iM iT ap hn hm hq h0)
  have CR := Lib.hid (fun w iL iM iT => refWrite_any a1 a2 a3 n c1 m c2 q c3 L M l w hL hM hl iL iM iT hn hm hq)
  rw [hE, hX] at CW CR
  obtain ⟨A, hA⟩ : ∃ A, bitsOf (cnt x) (-1) = A := ⟨_, rfl⟩
  have hAl : A.length ≤ 32 := by rw [← hA, bitsOf_length]; exact cnt_le x
  have CB := Lib.hid (fun b v w h => wbits_any b v [] x (-1) w h (by decide))
  have CO := Lib.hid (fun w => Bit.of_any x (-1) w)
  rw [hA] at CB CO
  clear hE hX hA hn hm hq hL hM hl
  go_enter Try.func5, Try.ntmps5
  go_wp2_with fail
  refine (works_any _).mono ?_
  rintro r w1 ⟨rfl, b1⟩
  have HB1 := Lib.hid b1
  clear b1
  go_wp2_with fail
  have hwr := wr_new w1
  have bX : Below w1.heap.size w1 (w1.alloc (.cells #[.slice none 0 0, .int .i64 0] 39)) := (Below.refl _ _).alloc (Nat.le_refl _) _
  generalize (w1.alloc (.cells #[.slice none 0 0, .int .i64 0] 39)) = w2 at *
  have HB2 := Lib.hid (HB1.out.trans (bX.mono HB1.out.size))
  have hge : W.heap.size ≤ w1.heap.size := HB1.out.size
  generalize w1.heap.size = b at *
  clear bX HB1
  refine (CB.out b (.slice none 0 0) w2 hwr).mono ?_
  rintro r w3 ⟨rfl, v3, h3, k3, n3⟩
  have HW3 : Hid (WrAt w3 b v3 A) := Lib.hid h3
  have HF3 : Hid (∀ i, v3.ownBlock = some i → W.heap.size ≤ i) := Lib.hid fun i hi => by
    rcases n3 i hi with h | h
    · cases h
    · exact Nat.le_trans HB2.out.size h
  have HB3 := Lib.hid (below_but HB2.out (Nat.le_refl _) k3 hge (fun i h => by cases h))
  clear h3 k3 n3 hwr HB2 CB
  go_wp2_with fail
  refine (CO.out _).mono ?_
  rintro r w4 ⟨u4, rfl, bl4, b4, f4⟩
  have HW4 := Lib.hid (wr_below HW3.out b4)
  have HB4 := Lib.hid (HB3.out.trans (b4.mono HB3.out.size))
  have HS4 := Lib.hid bl4.seesV
  clear bl4 b4 f4 HW3 HB3 CO
  go_wp2_with (at_builtin; refine wpList_append_sees _ rfl _ _ rfl (.slice none 0 0) u4 [] A rfl rfl (BlAt.nil _) HS4.out (by simp; omega) ?_; intro v5 w5 o5 g5 n5)
  have H5 := app_row (Nat.le_refl _) HB4.out (From.nil _) g5 n5
  have HW5 : Hid (WrAt w5 b v3 A) := Lib.hid (WrRaw.underRow HW4.out (BlAt.nil _) g5)
  have HB5 := Lib.hid H5.1
  have HF5 := Lib.hid H5.2
  have HM5 : Hid (BlAt w5 v5 A) := Lib.hid o5
  clear o5 g5 n5 H5 HW4 HB4 HS4
  refine (CW.out b v3 A w5 HW5.out (IL.out.below HB5.out (Nat.le_refl _)) (IM.out.below HB5.out (Nat.le_refl _)) (IT.out.below HB5.out (Nat.le_refl _)) (fun h0 y hy => by
    have h1 := AP.out h0 y hy
    exact ⟨by omega, fun e => by have := HF3.out _ e; omega⟩) (by omega)).mono ?_
  rintro r w6 ⟨rfl, v6, h6, k6, n6⟩
  have HM6 := Lib.hid (HM5.out.underBut HW5.out k6)
  have HB6 := Lib.hid (below_but HB5.out (Nat.le_refl _) k6 hge HF3.out)
  have HW6 := Lib.hid h6
  clear h6 k6 n6 HM5 HW5 HB5 HF3 CW
  go_wp2_with fail
  refine (CR.out w6 (IL.out.below HB6.out (Nat.le_refl _)) (IM.out.below HB6.out (Nat.le_refl _)) (IT.out.below HB6.out (Nat.le_refl _))).mono ?_
  rintro r w7 ⟨u7, rfl, bl7, b7, f7⟩
  have HM7 := Lib.hid (bl_below HM6.out b7)
  have HW7 := Lib.hid (wr_below HW6.out b7)
  have HB7 := Lib.hid (HB6.out.trans (b7.mono HB6.out.size))
  have HS7 := Lib.hid bl7.seesV
  clear bl7 b7 f7 HM6 HW6 HB6 CR IL IM IT AP
  go_wp2_with (at_builtin; refine wpList_append_sees _ rfl _ _ rfl v5 u7 A X rfl rfl HM7.out HS7.out (by omega) ?_; intro v8 w8 o8 g8 n8; have HW8 : Hid (WrAt w8 b v6 (A ++ X)) := Lib.hid (WrRaw.underRow HW7.out HM7.out g8); have H8 := app_row (Nat.le_refl _) HB7.out HF5.out g8 n8; have HB8 := Lib.hid H8.1; obtain ⟨sa, sc, hsh, _⟩ := BlAt.shape o8; subst hsh; have HM8 := Lib.hid o8; clear o8 g8 n8 H8)
  have CLEN := Lib.hid (wlen_any b v6 (A ++ X) w8 HW8.out (by rw [List.length_append]; omega))
  rw [List.length_append, Int.natCast_add] at CLEN
  refine CLEN.out.mono ?_
  rintro r w9 ⟨rfl, q9, rfl⟩
  have HW9 : Hid (WrAt (w8.drewN q9) b v6 (A ++ X)) := Lib.hid (wr_below HW8.out ⟨rfl, rfl, rfl, Nat.le_refl _, fun _ _ => rfl⟩)
  have HM9 : Hid (BlAt (w8.drewN q9) (.slice sa (A.length + X.length) sc) (A ++ X)) := Lib.hid (by
    have := (HM8.out.draws q9)
    rw [List.length_append] at this; exact this)
  have HB9 : Hid (Below W.heap.size W (w8.drewN q9)) := Lib.hid ⟨HB8.out.os, HB8.out.tape, HB8.out.output, HB8.out.size, HB8.out.block⟩
  clear CLEN HW8 HM8 HB8
  generalize w8.drewN q9 = w9 at *
  go_wp2_with fail
  refine (wstring_any b v6 (A ++ X) w9 HW9.out).mono ?_
  rintro r w10 ⟨rfl, rfl⟩
  have CT := Lib.hid (text_any _ (A ++ X) w9 (by rw [List.length_append]; omega) HM9.out.seesV)
  go_wp2_with fail
  refine CT.out.mono ?_
  rintro r w10 ⟨rfl, b10⟩
  have HB10 := Lib.hid (HB9.out.trans (b10.mono HB9.out.size))
  clear b10 CT HB9 HW9 HM9
  go_wp2_with fail
  go_ret
  exact ⟨rfl, HB10.out⟩

set_option maxRecDepth 100000 in
theorem lifted (os : Os) (started : os.Started) (H : Type) (enc : TypeId × Value → H) :
    ReturnsInHanded {} Try.checked os 5 .any (Rows.symbolsWritesSpec.pre6 enc Try.prog Try.f5 Rows.symbolsWritesRow.domain false) (Rows.symbolsWritesSpec.post enc Try.prog Try.f5 false true false false) := by
  refine returnsInHanded_of_change (C := Try.checked) own started (by kernel_rfl) Try.func5
    (ChangeSpec.witness6 (enc := enc) (C := Try.checked) false ⟨#[], #[.slice none 0 0, .slice none 0 0, .slice none 0 0, .int .i64 0], []⟩ 8 (by kernel_rfl) (by kernel_rfl) (by kernel_rfl) (by kernel_rfl)) ?_
  intro W base args ds gs before hval0 hW hcnd _
  have hval : ∀ (j : Nat) t v, Try.f5.params[j]? = some t → args[j]? = some v → Value.okWide Try.prog W .any base t v := hval0
  have hW' := hW
  obtain ⟨p, q, hA0, hV, rfl, hfz, hnd⟩ := hW
  have hA : DataW.TrodAll enc Try.prog W 0 (fun _ => true) true Try.f5.params.toList args.toList ds p := hA0
  rw [Try.params5] at hA hval
  obtain ⟨v0, vs0, d0, ds0, p0, q0, hargs, rfl, rfl, h0, r0⟩ := trodAll_cons hA
  obtain ⟨v1, vs1, d1, ds1, p1, q1, rfl, rfl, rfl, h1, r1⟩ := trodAll_cons r0
  obtain ⟨v2, vs2, d2, ds2, p2, q2, rfl, rfl, rfl, h2, r2⟩ := trodAll_cons r1
  obtain ⟨v3, vs3, d3, ds3, p3, q3, rfl, rfl, rfl, h3, r3⟩ := trodAll_cons r2
  obtain ⟨rfl, rfl, rfl⟩ := trodAll_nil r3
  obtain rfl : args = #[v0, v1, v2, v3] := by cases args; simp_all
  obtain ⟨rfl, rfl⟩ := trodVars_none hV
  have k0 := h0
  have lt0 : ∀ x ∈ p0, x.block < W.heap.size := by obtain ⟨m, hm⟩ := k0; exact DataW.trod_lt m _ _ _ hm
  obtain ⟨a0, len0, cap0, rfl⟩ := okWide_slice Try.underlying25 (hval 0 25 v0 rfl rfl)
  obtain ⟨A0, w0⟩ := ints_see h0
  have k1 := h1
  have lt1 : ∀ x ∈ p1, x.block < W.heap.size := by obtain ⟨m, hm⟩ := k1; exact DataW.trod_lt m _ _ _ hm
  obtain ⟨a1, len1, cap1, rfl⟩ := okWide_slice Try.underlying25 (hval 1 25 v1 rfl rfl)
  obtain ⟨A1, w1⟩ := ints_see h1
  have k2 := h2
  have lt2 : ∀ x ∈ p2, x.block < W.heap.size := by obtain ⟨m, hm⟩ := k2; exact DataW.trod_lt m _ _ _ hm
  obtain ⟨a2, len2, cap2, rfl⟩ := okWide_slice Try.underlying32 (hval 2 32 v2 rfl rfl)
  obtain ⟨A2, w2⟩ := toks_see h2
  have k3 := h3
  have lt3 : ∀ x ∈ p3, x.block < W.heap.size := by obtain ⟨m, hm⟩ := k3; exact DataW.trod_lt m _ _ _ hm
  obtain ⟨a3, rfl, rfl, rfl, w3⟩ := open_int Try.underlying3 (hval 3 3 v3 rfl rfl) h3
  clear hA0 hval0
  refine (walk a0 a1 a2 len0 cap0 len1 cap1 len2 cap2 A0 A1 A2 a3 W w0 w1 w2).mono fun e W' ⟨he, bel⟩ => ?_
  subst he
  exact ⟨_, rfl, _, _, _, [], _, [], hW', trodAll_mk1 (shut_bool Try.underlying4 _), (trodAll_cons_mk (Below.trod laidOut (by kernel_rfl) (of_decide_eq_true (by kernel_rfl)) k0 bel lt0) (trodAll_cons_mk (Below.trod laidOut (by kernel_rfl) (of_decide_eq_true (by kernel_rfl)) k1 bel lt1) (trodAll_cons_mk (Below.trod laidOut (by kernel_rfl) (of_decide_eq_true (by kernel_rfl)) k2 bel lt2) (trodAll_cons_mk (Below.trod laidOut (by kernel_rfl) (of_decide_eq_true (by kernel_rfl)) k3 bel lt3) trodAll_mk0)))), rfl, bel.frame _, fun h => by cases h⟩

theorem over : Rows.symbolsWritesRow.holds Try.pinned (OpenSpec.ofChange Rows.symbolsWritesSpec) :=
  OpenClaim.holds_of_wide 5 Try.f5 rfl rfl rfl rfl rfl rfl rfl ⟨rfl, rfl, rfl, rfl, rfl⟩ rfl rfl rfl rfl rfl (by kernel_rfl) Try.func5 (by kernel_rfl)
    (of_decide_eq_true (by kernel_rfl)) (by unfold Func.isWrapper; first | (rw [if_pos (by decide +kernel)]; kernel_rfl) | (rw [if_neg (by decide +kernel)]; exact ⟨rfl, rfl⟩))
    (fun os started H enc _ => lifted os started H enc)

theorem proved : Rows.SymbolsWritesSaid := over
end Go.Proofs.Ytikfenimgjeplaa.symbolsWrites
