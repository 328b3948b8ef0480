/-
  DeflateCoded (layer 9): a block of tokens makes what they make, by the fixed codes or by its own, to the document's reader, and tells whether it is the last one; or a token is not valid, and nothing is written.
-/
import Derived.Test.YtkpieakgpnnonaaGreatRows
import Derived.Test.YtkpieakgpnnonaaGreatDefWorks
import Derived.Test.YtkpieakgpnnonaaGreatDflWhole
import Derived.WalkKit
import Derived.ProofKit
import Derived.OpenShut
import Derived.ShutString
import Derived.ChangeOld
import Derived.Below
import Derived.Lib.SmallJoins
import Derived.Deep.Slices
namespace Go.Proofs.YtkpieakgpnnonaaGreat.deflateCoded
open Go.Proofs.YtkpieakgpnnonaaGreat.Def
open Go.Proofs.YtkpieakgpnnonaaGreat.Dfl
open Go.ChangeShapes Go.WideShapes Go.ChangeAt Go.RowKit
open Go.ChangeMaps (open_string shut_string)
set_option linter.unusedVariables false

theorem own : ownKnob Tryz.prog.godebug = none := by kernel_rfl
theorem laidOut : laidOutB Tryz.prog = true := by kernel_rfl

open Go.Proofs.YtkpieakgpnnonaaGreat.Bit (BlAt From Near But WrAt RfAt wbits_any wlen_any wstring_any text_any of_any all_any rfbits_any rgrown_trans rgrown_drewN bitsOf bitsOf_length cnt cnt_le pack SeesV tb tb_length quiet_w rI rV rOk)
open Go.Proofs.YtkpieakgpnnonaaGreat.Lz (Tok okT tokC IsToks toks_see valid_any expL expE refExpand_any)
open Go.Proofs.YtkpieakgpnnonaaGreat.Sym
theorem quiet_len {P : Program} {f : FuncId} {args : Array Value} {w : World} {n : Nat} {v : Value} (h : Calls P f args (w.drewN n) fun e w' => e = .returned v ∧ ∃ k, w' = (w.drewN n).drewN k) :
    Calls P f args (w.drewN n) fun e w'' => e = .returned v ∧ ∃ m, w'' = w.drewN m :=
  h.mono fun _ _ ⟨he, k, hk⟩ => ⟨he, n + k, by rw [hk, World.drewN_drewN]⟩

theorem coded_here {l : List Tok} {own last : Bool} {e : Int} {X : List Bool} (A : List Bool) (h : codedOut l own last e X) (hv : l.all okT = true) :
    e = 0 ∧ ∃ K, Coded (tb ⟨(pack (A ++ X)).toArray⟩) A.length last K l (A.length + X.length) ∧ ((K = 2 ∧ own = true) ∨ (K = 1 ∧ own = false)) := by
  rcases h with ⟨h1, _⟩ | ⟨_, rfl, h⟩
  · rw [h1] at hv; cases hv
  refine ⟨rfl, ?_⟩
  have hh := has_pack A X
  generalize tb ⟨(pack (A ++ X)).toArray⟩ = T at *
  rcases h with ⟨rfl, hF, rfl⟩ | ⟨rfl, N, M, k, O, Y, hH, hF, rfl⟩
  · refine ⟨1, ?_, .inr ⟨rfl, rfl⟩⟩
    have := Coded.fixed (last := last) l hF hh
    rw [List.length_append]
    simp only [List.length_cons, List.length_nil]
    rw [show A.length + (0 + 1 + 1 + 1 + (wrBits fxL fxD l).length) = A.length + 3 + (wrBits fxL fxD l).length by omega]
    exact this
  · refine ⟨2, ?_, .inl ⟨rfl, rfl⟩⟩
    have := Coded.own (last := last) N M k O Y l hH hF hh
    rw [List.length_append, List.length_append]
    simp only [List.length_cons, List.length_nil]
    rw [show A.length + (0 + 1 + 1 + 1 + ((hdrB N M k O Y).length + (wrBits N M l).length)) = A.length + 3 + (hdrB N M k O Y).length + (wrBits N M l).length by omega]
    exact this

set_option maxRecDepth 100000 in
set_option maxHeartbeats 8000000 in
theorem early (D : Says) (win : ByteArray) (a : Option Addr) (n c : Nat) (own last : Bool) (x : Int) (W : World) (h : 60 < n ∨ 2000 < win.size) (w0 : win.size ≤ maxLen) :
    Calls Tryz.prog 5 #[.string win, .slice a n c, .bool own, .bool last, .int .i64 x] W fun e w' => e = .returned (.bool true) ∧ Below W.heap.size W w' := by
  unfold maxLen at w0
  by_cases h1 : 60 < n
  · clear h
    have d1 : decide ((60 : Int) < (n : Int)) = true := by simp; omega
    have p1 : (60 : Int) < n := by omega
    go_enter Tryz.func5, Tryz.ntmps5
    go_wp2_with fail
    refine (works_any D _).mono ?_
    rintro r w1 ⟨rfl, b1⟩
    go_wp2_with fail
    all_goals (go_ret; exact ⟨rfl, b1⟩)
  have d1 : decide ((60 : Int) < (n : Int)) = false := by simp; omega
  have p1 : ¬ ((60 : Int) < n) := by omega
  have d2 : decide ((2000 : Int) < (win.size : Int)) = true := by simp; omega
  have p2 : (2000 : Int) < win.size := by omega
  clear h
  go_enter Tryz.func5, Tryz.ntmps5
  go_wp2_with fail
  refine (works_any D _).mono ?_
  rintro r w1 ⟨rfl, b1⟩
  go_wp2_with fail
  all_goals (go_ret; exact ⟨rfl, b1⟩)

set_option maxRecDepth 100000 in
set_option maxHeartbeats 16000000 in
theorem walk (D : Says) (win : ByteArray) (a : Option Addr) (n c : Nat) (l : List Tok) (own last : Bool) (x : Int) (W : World) (w0 : win.size ≤ maxLen)
    (v1 : l.length = n ∧ n ≤ maxLen ∧ IsToks W a l ∧ (a = none → n = 0 ∧ c = 0)) :
    Calls Tryz.prog 5 #[.string win, .slice a n c, .bool own, .bool last, .int .i64 x] W fun e w' => e = .returned (.bool true) ∧ Below W.heap.size W w' := by
  by_cases hg : 60 < n ∨ 2000 < win.size
  · exact early D win a n c own last x W hg w0
  obtain ⟨hl, _, hT, _⟩ := v1
  have d1 : decide ((60 : Int) < (n : Int)) = false := by simp; omega
  have p1 : ¬ ((60 : Int) < n) := by omega
  have d2 : decide ((2000 : Int) < (win.size : Int)) = false := by simp; omega
  have p2 : ¬ ((2000 : Int) < win.size) := by omega
  have hn : n ≤ 60 := by omega
  have hwz : win.size ≤ 2000 := by omega
  have HW := Lib.hid (works_any D W)
  have AP : Hid (∀ y, 0 < n → a = some y → y.block < W.heap.size) := Lib.hid fun y h0 hy => by
    obtain ⟨bb, off, e, hlt, _⟩ := hT (by omega)
    rw [hy] at e; cases e; exact hlt
  have HT := Lib.hid hT
  have HL := Lib.hid hl
  obtain ⟨A, hA⟩ : ∃ A, bitsOf (cnt x) (-1) = A := ⟨_, rfl⟩
  have hAl : A.length ≤ 32 := by rw [← hA, bitsOf_length]; exact cnt_le x
  have HAC : Hid (cnt x = A.length) := Lib.hid (by rw [← hA, bitsOf_length])
  have CB := Lib.hid (fun b v w h => wbits_any b v [] x (-1) w h (by decide))
  rw [hA] at CB
  have CL := Lib.hid (fun b v w h iT ap => D.coded b v A a n c l own last w h (by omega) hl iT ap (by omega))
  clear hA hg D hT hl w0
  go_enter Tryz.func5, Tryz.ntmps5
  go_wp2_with fail
  refine HW.out.mono ?_
  rintro r w1 ⟨rfl, b1⟩
  have HB1 := Lib.hid b1
  clear b1 HW
  go_wp2_with fail
  have hwr := wr_new w1
  have bX : Below w1.heap.size w1 (w1.alloc (.cells #[.slice none 0 0, .int .i64 0] 26)) := (Below.refl _ _).alloc (Nat.le_refl _) _
  generalize (w1.alloc (.cells #[.slice none 0 0, .int .i64 0] 26)) = w2 at *
  have HB2 := Lib.hid (HB1.out.trans (bX.mono HB1.out.size))
  have hge : W.heap.size ≤ w1.heap.size := HB1.out.size
  generalize w1.heap.size = b at *
  clear bX HB1
  refine (CB.out b (.slice none 0 0) w2 hwr).mono ?_
  rintro r w3 ⟨rfl, v3, h3, k3, n3⟩
  have HW3 : Hid (WrAt w3 b v3 A) := Lib.hid h3
  have HF3 : Hid (∀ i, v3.ownBlock = some i → W.heap.size ≤ i) := Lib.hid fun i hi => by
    rcases n3 i hi with h | h
    · cases h
    · exact Nat.le_trans HB2.out.size h
  have HB3 := Lib.hid (Sym.below_but HB2.out (Nat.le_refl _) k3 hge (fun i h => by cases h))
  clear h3 k3 n3 hwr HB2 CB
  go_wp2_with fail
  refine (wlen_any b v3 A w3 HW3.out (by omega)).mono ?_
  rintro r w4 ⟨rfl, q4, rfl⟩
  have HW4 : Hid (WrAt (w3.drewN q4) b v3 A) := Lib.hid (wr_below HW3.out ⟨rfl, rfl, rfl, Nat.le_refl _, fun _ _ => rfl⟩)
  have HB4 : Hid (Below W.heap.size W (w3.drewN q4)) := Lib.hid ⟨HB3.out.os, HB3.out.tape, HB3.out.output, HB3.out.size, HB3.out.block⟩
  clear HW3 HB3
  generalize w3.drewN q4 = w4 at *
  obtain ⟨k0, hk0⟩ : ∃ k0, A.length = k0 := ⟨_, rfl⟩
  have HK0 := Lib.hid hk0
  rw [hk0] at hAl ⊢
  clear hk0
  go_wp2_with fail
  refine (CL.out b v3 w4 HW4.out (HT.out.below HB4.out (Nat.le_refl _)) (fun y h0 hy => by
    have h1 := AP.out y h0 hy
    exact ⟨by omega, fun e => by have := HF3.out _ e; omega⟩)).mono ?_
  rintro r w5 ⟨e, X, rfl, hout, hX, v5, h5, k5, n5⟩
  have HOUT := Lib.hid hout
  have HW5 := Lib.hid h5
  have HB5 := Lib.hid (Sym.below_but HB4.out (Nat.le_refl _) k5 hge HF3.out)
  have HT5 := Lib.hid (HT.out.below HB5.out (Nat.le_refl _))
  have HXL := Lib.hid hX
  clear hout h5 k5 n5 HW4 HB4 HF3 CL AP HT hX
  go_wp2_with fail
  go_loopw [15] (fun i wr => ∃ k : Nat, k ≤ n ∧ i = .int .i64 k ∧ (l.take k).all okT = true ∧ Below w5.heap.size w5 wr) (fun i _ => n - (intOf i).toNat)
  case atStart => exact ⟨0, Nat.zero_le _, rfl, rfl, Below.refl _ _⟩
  case round =>
    obtain ⟨k, hk, rfl, hall, hb⟩ := hrel
    by_cases hlt : k < n
    · obtain ⟨bb, off, rfl, hbb, hc⟩ := HT5.out (by rw [HL.out]; omega)
      have hkl : k < l.length := by rw [HL.out]; omega
      obtain ⟨q1, q2, q3⟩ := hc k hkl
      have c1 := (hb.cell (p := ⟨bb, off + k * 3, none⟩) hbb).trans q1
      have c2 := (hb.cell (p := ⟨bb, off + k * 3 + 1, none⟩) hbb).trans q2
      have c3 := (hb.cell (p := ⟨bb, off + k * 3 + 2, none⟩) hbb).trans q3
      have AN := Lib.hid (fun (h : okT l[k] = true) => all_take_succ hkl hall h)
      have BAD : Hid (okT l[k] = false → l.all okT = true → False) := Lib.hid fun h h2 => by
        have := (List.all_eq_true.1 h2) _ (List.getElem_mem hkl)
        rw [h] at this
        cases this
      clear hc hbb q1 q2 q3 hall
      generalize l[k] = t at *
      have HB := Lib.hid hb
      clear hb
      go_wp2_with fail
      refine (valid_any t _).mono ?_
      rintro r w' ⟨rfl, rfl⟩
      have b2 : Below wr.heap.size wr (wr.alloc (.cells (tokC t) 52)) := (Below.refl _ _).alloc (Nat.le_refl _) _
      generalize (wr.alloc (.cells (tokC t) 52)) = w6 at *
      have HB6 := Lib.hid (HB.out.trans (b2.mono HB.out.size))
      clear b2 HB c1 c2 c3
      cases hv : okT t with
      | false =>
        have hbad := BAD.out hv
        have HC : Hid (e = 1 ∧ X = []) := Lib.hid (by
          rcases HOUT.out with ⟨_, h2, h3⟩ | ⟨h1, _⟩
          · exact ⟨h2, h3⟩
          · exact absurd h1 (fun h => hbad h))
        have hw6 := wr_below HW5.out HB6.out
        rw [HC.out.2] at hw6
        have CLN := wlen_any b v5 (A ++ []) w6 hw6 (by rw [List.append_nil, HK0.out]; omega)
        rw [show (A ++ ([] : List Bool)).length = k0 by rw [List.append_nil]; exact HK0.out] at CLN
        have HLN := Lib.hid CLN
        rw [HC.out.1]
        clear hv hbad CLN hw6
        go_wp2_with fail
        refine HLN.out.mono ?_
        rintro r w7 ⟨rfl, q7, rfl⟩
        go_wp2_with fail
        go_ret
        exact ⟨rfl, below_drew (HB5.out.trans (HB6.out.mono HB5.out.size)) q7⟩
      | true =>
        have HA := Lib.hid (AN.out hv)
        clear hv
        go_wp2_with fail
        refine ⟨⟨k + 1, by omega, by go_num, HA.out, HB6.out⟩, ?_⟩
        simp [intOf]; omega
    · obtain rfl : n = k := by omega
      rw [List.take_of_length_le (by rw [HL.out]; exact Nat.le_refl _)] at hall
      obtain ⟨rfl, K, hcd, hK⟩ := coded_here A HOUT.out hall
      obtain ⟨S, hS⟩ : ∃ S : ByteArray, ⟨(pack (A ++ X)).toArray⟩ = S := ⟨_, rfl⟩
      have hSz : S.size ≤ 130000 := by
        rw [← hS, pack_size, List.length_append, HK0.out]; have := HXL.out; omega
      rw [hS, HK0.out] at hcd
      have HCD := Lib.hid hcd
      have HSUM : Hid (((sumT l : Nat) : Int) ≤ 1073741824) := Lib.hid (by have := sumT_le hall; rw [HL.out] at this; omega)
      have HB6 := Lib.hid hb
      have HW6 := Lib.hid (wr_below HW5.out hb)
      have HT6 := Lib.hid (HT5.out.below hb (Nat.le_refl _))
      have hSX := Lib.hid hS
      obtain ⟨NT, hNT⟩ : ∃ NT, (tb S).length = NT := ⟨_, rfl⟩
      have hNT2 : NT ≤ 1040000 := by rw [← hNT, tb_length]; omega
      have HNT := Lib.hid hNT
      have hE0 : k0 + X.length ≤ NT := by
        have := (has_pack A X).1
        rw [hS, hNT, HK0.out] at this
        exact this
      have HE0 := Lib.hid hE0
      clear hall hb hS hcd hlt hk HOUT HW5 HT5 hNT hE0
      go_wp2_with fail
      refine (refExpand_any win a l n c wr HL.out HT6.out (by unfold maxLen; omega) (by omega)).mono ?_
      rintro r w7 ⟨rfl, b7⟩
      have HB7 := Lib.hid (HB6.out.trans (b7.mono HB6.out.size))
      have HW7 := Lib.hid (wr_below HW6.out b7)
      obtain ⟨xs, hxs⟩ : ∃ xs, expL win.data.toList l = xs := ⟨_, rfl⟩
      obtain ⟨xe, hxe⟩ : ∃ xe, expE win.data.toList l = xe := ⟨_, rfl⟩
      rw [hxs, hxe]
      have HV := Lib.hid (And.intro hxs hxe)
      clear b7 hxs hxe HB6 HW6 HT6
      go_wp2_with fail
      refine (wstring_any b v5 (A ++ X) w7 HW7.out).mono ?_
      rintro r w8 ⟨rfl, rfl⟩
      rw [hSX.out]
      go_wp2_with fail
      refine (all_any S w7 (by omega)).mono ?_
      rintro r w8 ⟨u, rfl, hu, b8, fu⟩
      obtain ⟨ua, uc, rfl, _⟩ := hu.shape
      rw [HNT.out] at hu fu ⊢
      have R9 : Hid (RfAt (w8.alloc (.cells #[.slice ua NT uc, .int .i64 0, .int .i64 0] 42)) w8.heap.size (.slice ua NT uc) (tb S) 0 false) := Lib.hid ⟨heap_alloc_new _ _, by have := hu.alloc (.cells #[.slice ua NT uc, .int .i64 0, .int .i64 0] 42); exact this⟩
      have b9 : Below w7.heap.size w7 (w8.alloc (.cells #[.slice ua NT uc, .int .i64 0, .int .i64 0] 42)) := b8.alloc b8.size _
      have S9 := Lib.hid b8.size
      clear hu b8 fu
      go_wp2_with fail
      generalize w8.alloc (.cells #[.slice ua NT uc, .int .i64 0, .int .i64 0] 42) = w9 at *
      generalize w8.heap.size = rb at *
      have B9 := Lib.hid b9
      clear b9
      refine (rfbits_any rb _ (tb S) 0 false x w9 R9.out (Nat.zero_le _) (by rw [HNT.out]; omega)).mono ?_
      rintro r w10 ⟨rfl, r10, g10⟩
      have hok : rOk (tb S) 0 false (cnt x) = true := by
        unfold rOk
        rw [HAC.out, HK0.out, HNT.out]
        have := HE0.out
        simp; omega
      have hri : rI (tb S) 0 false (cnt x) = k0 := by
        unfold rI
        rw [if_pos hok, HAC.out, HK0.out, Nat.zero_add]
      rw [hok, hri] at r10
      have R10 : Hid (RfAt w10 rb (.slice ua NT uc) (tb S) k0 false) := Lib.hid r10
      have B10 := Lib.hid (below_row2 B9.out (Nat.le_refl _) g10 S9.out)
      clear r10 g10 hok hri B9 R9
      generalize rV (tb S) 0 false (cnt x) = rv at *
      obtain ⟨E, hE⟩ : ∃ E, k0 + X.length = E := ⟨_, rfl⟩
      rw [hE] at HCD
      have CBK := Lib.hid (refBlock_code rb k0 E K last l 1073741824 _ (tb S) win w10 R10.out (by rw [HNT.out]; omega) (by unfold maxLen; omega) (by rw [HL.out]; omega) HSUM.out HCD.out)
      rw [blkV_eq HV.out.1 HV.out.2] at CBK
      have HE := Lib.hid hE
      clear hE
      go_wp2_with fail
      refine CBK.out.mono ?_
      rintro r w11 ⟨rfl, r11, g11⟩
      have B11 := Lib.hid (below_row2 B10.out (Nat.le_refl _) g11 S9.out)
      have W11 := Lib.hid (wr_below HW7.out B11.out)
      have c1' : w11.cell? ⟨rb, 1, none⟩ = some (.int .i64 (E : Nat)) := r11.cells.2.1
      have CAT := Lib.hid (fun q => wlen_any b v5 (A ++ X) (w11.drewN q) (wr_below W11.out (below_of_drewN _ _)) (by rw [List.length_append, HK0.out]; have := HE0.out; omega))
      rw [show (A ++ X).length = E by rw [List.length_append, HK0.out]; exact HE.out] at CAT
      have BF := Lib.hid (HB5.out.trans ((HB7.out.trans (B11.out.mono HB7.out.size)).mono HB5.out.size))
      clear r11 g11 CBK B10 R10 B11 W11 HW7 HB7
      by_cases hx0 : xe = 0
      · rw [if_pos hx0]
        subst hx0
        rcases hK with ⟨rfl, rfl⟩ | ⟨rfl, rfl⟩
        all_goals (
          go_wp2_with fail
          go_quiet ((go_at_call 14; exact quiet_len (CAT.out _)))
          go_wp2_with fail
          go_ret
          exact ⟨rfl, below_drew BF.out nq⟩)
      · rw [if_neg hx0]
        have hx1 : (xe == 0) = false := by simpa using hx0
        go_wp2_with fail
        go_ret
        exact ⟨rfl, BF.out⟩

set_option maxRecDepth 100000 in
theorem lifted (os : Os) (started : os.Started) (H : Type) (enc : TypeId × Value → H) :
    ReturnsInHanded {} Tryz.checked os 5 .any (Rows.deflateCodedSpec.pre6 enc Tryz.prog Tryz.f5 Rows.deflateCodedRow.domain false) (Rows.deflateCodedSpec.post enc Tryz.prog Tryz.f5 false true false false) := by
  refine returnsInHanded_of_change (C := Tryz.checked) own started (by kernel_rfl) Tryz.func5
    (ChangeSpec.witness6 (enc := enc) (C := Tryz.checked) false ⟨#[], #[.string ByteArray.empty, .slice none 0 0, .bool false, .bool false, .int .i64 0], []⟩ 8 (by kernel_rfl) (by kernel_rfl) (by kernel_rfl) (by kernel_rfl)) ?_
  intro W base args ds gs before hval0 hW hcnd _
  have hval : ∀ (j : Nat) t v, Tryz.f5.params[j]? = some t → args[j]? = some v → Value.okWide Tryz.prog W .any base t v := hval0
  have hW' := hW
  obtain ⟨p, q, hA0, hV, rfl, hfz, hnd⟩ := hW
  have hA : DataW.TrodAll enc Tryz.prog W 0 (fun _ => true) true Tryz.f5.params.toList args.toList ds p := hA0
  rw [Tryz.params5] at hA hval
  obtain ⟨v0, vs0, d0, ds0, p0, q0, hargs, rfl, rfl, h0, r0⟩ := trodAll_cons hA
  obtain ⟨v1, vs1, d1, ds1, p1, q1, rfl, rfl, rfl, h1, r1⟩ := trodAll_cons r0
  obtain ⟨v2, vs2, d2, ds2, p2, q2, rfl, rfl, rfl, h2, r2⟩ := trodAll_cons r1
  obtain ⟨v3, vs3, d3, ds3, p3, q3, rfl, rfl, rfl, h3, r3⟩ := trodAll_cons r2
  obtain ⟨v4, vs4, d4, ds4, p4, q4, rfl, rfl, rfl, h4, r4⟩ := trodAll_cons r3
  obtain ⟨rfl, rfl, rfl⟩ := trodAll_nil r4
  obtain rfl : args = #[v0, v1, v2, v3, v4] := by cases args; simp_all
  obtain ⟨rfl, rfl⟩ := trodVars_none hV
  have k0 := h0
  have lt0 : ∀ x ∈ p0, x.block < W.heap.size := by obtain ⟨m, hm⟩ := k0; exact DataW.trod_lt m _ _ _ hm
  obtain ⟨a0, rfl, rfl, rfl, w0⟩ := open_string Tryz.underlying9 (hval 0 9 v0 rfl rfl) h0
  have k1 := h1
  have lt1 : ∀ x ∈ p1, x.block < W.heap.size := by obtain ⟨m, hm⟩ := k1; exact DataW.trod_lt m _ _ _ hm
  obtain ⟨a1, len1, cap1, rfl⟩ := okWide_slice Tryz.underlying48 (hval 1 48 v1 rfl rfl)
  obtain ⟨A1, w1⟩ := toks_see h1
  have k2 := h2
  have lt2 : ∀ x ∈ p2, x.block < W.heap.size := by obtain ⟨m, hm⟩ := k2; exact DataW.trod_lt m _ _ _ hm
  obtain ⟨a2, rfl, rfl, rfl⟩ := open_bool Tryz.underlying4 (hval 2 4 v2 rfl rfl) h2
  have k3 := h3
  have lt3 : ∀ x ∈ p3, x.block < W.heap.size := by obtain ⟨m, hm⟩ := k3; exact DataW.trod_lt m _ _ _ hm
  obtain ⟨a3, rfl, rfl, rfl⟩ := open_bool Tryz.underlying4 (hval 3 4 v3 rfl rfl) h3
  have k4 := h4
  have lt4 : ∀ x ∈ p4, x.block < W.heap.size := by obtain ⟨m, hm⟩ := k4; exact DataW.trod_lt m _ _ _ hm
  obtain ⟨a4, rfl, rfl, rfl, w4⟩ := open_int Tryz.underlying3 (hval 4 3 v4 rfl rfl) h4
  clear hA0 hval0
  refine (walk says a0 a1 len1 cap1 A1 a2 a3 a4 W w0 w1).mono fun e W' ⟨he, bel⟩ => ?_
  subst he
  exact ⟨_, rfl, _, _, _, [], _, [], hW', trodAll_mk1 (shut_bool Tryz.underlying4 _), (trodAll_cons_mk (Below.trod laidOut (by kernel_rfl) (of_decide_eq_true (by kernel_rfl)) k0 bel lt0) (trodAll_cons_mk (Below.trod laidOut (by kernel_rfl) (of_decide_eq_true (by kernel_rfl)) k1 bel lt1) (trodAll_cons_mk (Below.trod laidOut (by kernel_rfl) (of_decide_eq_true (by kernel_rfl)) k2 bel lt2) (trodAll_cons_mk (Below.trod laidOut (by kernel_rfl) (of_decide_eq_true (by kernel_rfl)) k3 bel lt3) (trodAll_cons_mk (Below.trod laidOut (by kernel_rfl) (of_decide_eq_true (by kernel_rfl)) k4 bel lt4) trodAll_mk0))))), rfl, bel.frame _, fun h => by cases h⟩

theorem over : Rows.deflateCodedRow.holds Tryz.pinned (OpenSpec.ofChange Rows.deflateCodedSpec) :=
  OpenClaim.holds_of_wide 5 Tryz.f5 rfl rfl rfl rfl rfl rfl rfl ⟨rfl, rfl, rfl, rfl, rfl⟩ rfl rfl rfl rfl rfl (by kernel_rfl) Tryz.func5 (by kernel_rfl)
    (of_decide_eq_true (by kernel_rfl)) (by unfold Func.isWrapper; first | (rw [if_pos (by decide +kernel)]; kernel_rfl) | (rw [if_neg (by decide +kernel)]; exact ⟨rfl, rfl⟩))
    (fun os started H enc _ => lifted os started H enc)

theorem proved : Rows.DeflateCodedSaid := over
end Go.Proofs.YtkpieakgpnnonaaGreat.deflateCoded
