/-
  The document's example of layer 9.
-/
import Derived.Test.YtkpieakgpnnonaaGreatDefProg
import Derived.Test.YtkpieakgpnnonaaGreatAllSym
namespace Go.Proofs.YtkpieakgpnnonaaGreat.Def
open Go.ChangeShapes Go.WideShapes Go.ChangeAt Go.RowKit
open Go.Proofs.YtkpieakgpnnonaaGreat.Bit (WrAt But Near From tb tb_length pack wstring_any)
open Go.Proofs.YtkpieakgpnnonaaGreat.Lz (Tok okT IsToks)
open Go.Proofs.YtkpieakgpnnonaaGreat.Sym
set_option linter.unusedVariables false
set_option maxRecDepth 100000

theorem ex_stored : (⟨(pack (stB true [] [97, 98])).toArray⟩ : ByteArray) = ⟨#[1, 2, 0, 253, 255, 97, 98]⟩ := by
  have : pack (stB true [] [97, 98]) = [1, 2, 0, 253, 255, 97, 98] := by decide +kernel
  rw [this]

theorem Wh.end {T : List Bool} {win out tot : List UInt8} {p q : Nat} (h : Wh T win p out tot q) : 3 ≤ q ∧ q ≤ T.length := by
  induction h with
  | last p out s K q hb => have := hb.far; omega
  | more p out s tot K q q' hb _ ih => exact ih

set_option maxHeartbeats 4000000 in
theorem works_any (D : Says) (W : World) : Calls Tryz.prog 9 #[] W fun r w' => r = .returned (.bool true) ∧ Below W.heap.size W w' := by
  have HS := Lib.hid D.stored
  have HD := Lib.hid D.whole
  have HE := Lib.hid D.segment
  clear D
  go_enter Tryz.func9, Tryz.ntmps9
  go_wp2_with fail
  have hwr := wr_new W
  have bX : Below W.heap.size W (W.alloc (.cells #[.slice none 0 0, .int .i64 0] 26)) := (Below.refl _ _).alloc (Nat.le_refl _) _
  have hge : W.heap.size ≤ W.heap.size := Nat.le_refl _
  generalize (W.alloc (.cells #[.slice none 0 0, .int .i64 0] 26)) = w2 at *
  have HB2 := Lib.hid bX
  clear bX
  obtain ⟨b, hb⟩ : ∃ b, W.heap.size = b := ⟨_, rfl⟩
  rw [hb] at hwr ⊢
  refine (HS.out b (.slice none 0 0) [] ⟨#[97, 98]⟩ true w2 hwr (by simp) (by decide)).mono ?_
  rintro r w3 ⟨rfl, v3, h3, k3, n3⟩
  have HW3 := Lib.hid h3
  have HB3 := Lib.hid (below_but HB2.out (Nat.le_refl _) k3 (by omega) (fun i h => by cases h))
  clear h3 k3 n3 hwr HB2 HS
  go_wp2_with fail
  refine (HD.out ⟨#[]⟩ ⟨#[97, 98, 99]⟩ w3 (by decide) (by decide)).mono ?_
  rintro r w4 ⟨t, rfl, ⟨⟨q, hq, hq2⟩, hsz, _⟩, b4⟩
  have HW4 := Lib.hid (wr_below HW3.out b4)
  have HB4 := Lib.hid (HB3.out.trans (b4.mono HB3.out.size))
  have hz : t.size ≤ 23 := hsz
  have CW := Lib.hid (fun w => refWhole_any ⟨#[]⟩ t ⟨#[97, 98, 99]⟩ 9 q w (by decide) (by omega) (by decide) (by decide) (by decide) hq)
  obtain ⟨Q, hQ⟩ : ∃ Q, (q + 7) / 8 = Q := ⟨_, rfl⟩
  rw [hQ] at CW
  have hQ1 : (0 : Int) < (Q : Int) := by have := hq.end; omega
  have hQ2 : 0 < Q := by omega
  have hQ3 : decide (0 < Q) = true := by simp; omega
  clear b4 hq hq2 hsz hz hQ HW3 HB3 HD
  go_wp2_with fail
  refine (CW.out w4).mono ?_
  rintro r w5 ⟨rfl, b5⟩
  have HW5 := Lib.hid (wr_below HW4.out b5)
  have HB5 := Lib.hid (HB4.out.trans (b5.mono HB4.out.size))
  clear b5 HW4 HB4 CW
  go_wp2_with fail
  refine (HE.out ⟨#[99]⟩ ⟨#[97, 98, 99]⟩ w5 (by decide) (by decide)).mono ?_
  rintro r w6 ⟨u, rfl, ⟨hs6, hsz, _⟩, b6⟩
  have HW6 := Lib.hid (wr_below HW5.out b6)
  have HB6 := Lib.hid (HB5.out.trans (b6.mono HB5.out.size))
  have hz : u.size ≤ 23 := hsz
  have CS := Lib.hid (fun w => refSegment_any ⟨#[99]⟩ u ⟨#[97, 98, 99]⟩ 9 w (by decide) (by omega) (by decide) (by decide) (by decide) hs6)
  clear b6 hs6 hsz hz HW5 HB5 HE
  go_wp2_with fail
  refine (CS.out w6).mono ?_
  rintro r w7 ⟨rfl, b7⟩
  have HW7 := Lib.hid (wr_below HW6.out b7)
  have HB7 := Lib.hid (HB6.out.trans (b7.mono HB6.out.size))
  clear b7 HW6 HB6 CS
  go_wp2_with fail
  have CT := wstring_any b v3 _ w7 HW7.out
  rw [ex_stored] at CT
  refine CT.mono ?_
  rintro r w8 ⟨rfl, rfl⟩
  clear CT
  go_wp2_with fail
  go_ret
  exact ⟨rfl, HB7.out⟩
end Go.Proofs.YtkpieakgpnnonaaGreat.Def
