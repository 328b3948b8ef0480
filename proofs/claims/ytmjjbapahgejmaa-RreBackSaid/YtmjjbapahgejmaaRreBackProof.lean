/-
  RreBack (layer 17): what is encoded is decoded again, what is left of the colours, whatever stands behind; with a byte less more is needed; there are no more pieces than places.
-/
import Derived.Test.YtmjjbapahgejmaaRows
import Derived.Test.YtmjjbapahgejmaaRreProg
import Derived.Test.YtmjjbapahgejmaaRreWks
import Derived.Test.YtmjjbapahgejmaaRreRefF
import Derived.Test.YtmjjbapahgejmaaRreFew
import Derived.Test.YtmjjbapahgejmaaRreBackN
import Derived.Test.YtmjjbapahgejmaaPlnRefF
import Derived.Test.YtmjjbapahgejmaaAllFmtM
import Derived.WalkKit
import Derived.ProofKit
import Derived.OpenShut
import Derived.ShutString
import Derived.ChangeOld
import Derived.Below
import Derived.Lib.SmallJoins
import Derived.Deep.Slices
namespace Go.Proofs.Ytmjjbapahgejmaa.rreBack
open Go.Proofs.Ytmjjbapahgejmaa.Fmt
open Go.Proofs.Ytmjjbapahgejmaa.Pln
open Go.Proofs.Ytmjjbapahgejmaa.Rre
open Go.ChangeShapes Go.WideShapes Go.ChangeAt Go.RowKit
open Go.ChangeMaps (open_string shut_string)
set_option linter.unusedVariables false

theorem own : ownKnob Try.prog.godebug = none := by kernel_rfl
theorem laidOut : laidOutB Try.prog = true := by kernel_rfl

open Go.Proofs.Ytmjjbapahgejmaa.RowG Go.Proofs.Ytmjjbapahgejmaa.RegVal Go.Proofs.Ytmjjbapahgejmaa.Lz Go.Proofs.Ytmjjbapahgejmaa.Pln
open Go.Proofs.Ytmjjbapahgejmaa.Fmt (Fm FmAt fmt_see size_any)
set_option maxRecDepth 100000
def pkB (F x y s t : Value) (n m : Int) : Nat → Option Value
  | 0 => some F
  | 1 => some x
  | 2 => some y
  | 3 => some s
  | 4 => some (.int .i64 n)
  | 5 => some (.int .i64 m)
  | 6 => some t
  | 10 => some (.int .i64 0)
  | 11 => some (.int .i64 2)
  | 13 => some (.int .i64 0)
  | 14 => some (.int .i64 2)
  | _ => none
def pkR (i : Nat) (v : Value) (w : World) : Prop := i = 7 ∨ i = 8 → ∃ u, v = .tuple #[u, .int .i64 0, .int .i64 2]
def finV (F l : Value) (A B N n z q1 q2 q3 p : Int) : Nat → Value
  | 2 => .int .i64 0
  | 6 => .int .i64 2
  | 10 => l
  | 11 => .int .i64 p
  | 12 => .int .i64 A
  | 13 => .int .i64 B
  | 14 => .int .i64 N
  | 18 => .int .i64 n
  | 19 => F
  | 20 => .int .i64 z
  | 21 => .int .i64 q1
  | 22 => l
  | 23 => .int .i64 p
  | 24 => F
  | 25 => .int .i64 z
  | 26 => .int .i64 q3
  | 27 => .int .i64 q2
  | 28 => .int .i64 n
  | _ => .bool true
set_option maxHeartbeats 8000000 in
theorem walk (D : Says) (f : Fm) (x y : Int) (a : Option Addr) (n cap : Nat) (L : List Int) (s : ByteArray) (W : World) (hf : f.Wf) (hx : (Lit.int .i64 x).wf = true) (hy : (Lit.int .i64 y).wf = true) (hL : SW W (.slice a n cap) L ∧ L.length ≤ maxLen ∧ L.length = n ∧ (∀ x ∈ L, (Lit.int .i64 x).wf = true) ∧ Room (.slice a n cap)) (hs : s.size ≤ maxLen) :
    Calls Try.prog 6 #[f.v, .int .i64 x, .int .i64 y, .slice a n cap, .string s] W fun e w' => e = .returned (.bool true) ∧ Below W.heap.size W w' := by
  unfold maxLen at hs
  obtain ⟨hsw, _, hn, hwf, _⟩ := hL
  have V0 := Lib.hid (fun w => works_any D w)
  have hsx : Side x := wf_bd hx
  have hsy : Side y := wf_bd hy
  have AT := FmAt.box f W 37
  have bel := (Below.refl W.heap.size W).alloc (Nat.le_refl _) (.cells #[.int .i64 f.B, .int .i64 f.D, .bool f.big, .bool f.tr, .int .i64 f.rm, .int .i64 f.gm, .int .i64 f.bm, .int .i64 f.rs, .int .i64 f.gs, .int .i64 f.bs] 37)
  have hsz := Pln.alloc_size W (.cells #[.int .i64 f.B, .int .i64 f.D, .bool f.big, .bool f.tr, .int .i64 f.rm, .int .i64 f.gm, .int .i64 f.bm, .int .i64 f.rs, .int .i64 f.gs, .int .i64 f.bs] 37)
  obtain ⟨w1, hw1⟩ : ∃ w1, W.alloc (.cells #[.int .i64 f.B, .int .i64 f.D, .bool f.big, .bool f.tr, .int .i64 f.rm, .int .i64 f.gm, .int .i64 f.bm, .int .i64 f.rs, .int .i64 f.gs, .int .i64 f.bs] 37) = w1 := ⟨_, rfl⟩
  rw [hw1] at AT bel hsz
  have HA := Lib.hid (fun W' (hW : Below w1.heap.size w1 W') => AT.below hW (by omega))
  have BEL := Lib.hid bel
  have hle : W.heap.size ≤ w1.heap.size := bel.size
  have HS := Lib.hid (fun W' (hW : Below w1.heap.size w1 W') => hsw.below (bel.trans (hW.mono hle)))
  have HF : f.v = .agg #[.int .i64 f.B, .int .i64 f.D, .bool f.big, .bool f.tr, .int .i64 f.rm, .int .i64 f.gm, .int .i64 f.bm, .int .i64 f.rs, .int .i64 f.gs, .int .i64 f.bs] := rfl
  have FT := Lib.hid (fun w => fits_any f hf x y w)
  have FW := Lib.hid (fun w => few_any x y w)
  have VE := Lib.hid (fun (hb : n ≤ 200) w h => D.encode f hf x y L (.slice a n cap) hsx hsy hwf (by omega) w h)
  have VD := Lib.hid (fun (hq : fewB x y = true) (t : ByteArray) (ht : t.size ≤ 100000) w => D.decode f hf x y t hsx hsy (fun h => by have := few_iff.1 hq; omega) ht w)
  have VQ := Lib.hid (fun (hok : f.ok = true) (hb : n ≤ 200) w h => refQuants_any f hok (.slice a n cap) L w h (by omega))
  have VV := Lib.hid (fun (hb : n ≤ 200) w h => values_any f hf (.slice a n cap) L w h hwf (by omega))
  have VS := Lib.hid (fun w => size_any f hf w)
  have VG := Lib.hid (fun L v w (hw : Wfs L) (hl : L.length ≤ 1000) (h : SW w v L) => D.ground L v hw hl w h)
  have VP := Lib.hid (fun L v g w (hg : Side g) (hw : Wfs L) (hl : L.length ≤ 1000) (h : SW w v L) => D.pieces x y L v g hsx hsy hg hw hl w h)
  rw [HF] at FT VE VD VQ VV VS ⊢
  clear AT bel hsz hsw HF hwf hf hx hy
  go_enter Try.func6, Try.ntmps6
  go_wp2_with fail
  refine (V0.out _).mono ?_
  rintro r w2 ⟨rfl, bb⟩
  have HB2 := Lib.hid bb
  clear bb V0
  by_cases hbig : 200 < s.size
  · have e1 : decide ((200 : Int) < (s.size : Int)) = true := decide_eq_true (by omega)
    have e2 : decide (200 < s.size) = true := decide_eq_true hbig
    clear VE VD VQ VV VG VP
    go_wp2_with fail
    go_ret
    exact ⟨rfl, BEL.out.trans (HB2.out.mono hle)⟩
  have e1 : decide ((200 : Int) < (s.size : Int)) = false := decide_eq_false (by omega)
  have e2 : decide (200 < s.size) = false := decide_eq_false hbig
  obtain ⟨d0, d1, d2, d3, d4, d5, d6, d7, d8, d9⟩ := HA.out w2 HB2.out
  go_wp2_with fail
  refine (FT.out w2).mono ?_
  rintro r w3 ⟨rfl, bb⟩
  have HB3 := Lib.hid (HB2.out.trans (bb.mono HB2.out.size))
  clear bb FT d0 d1 d2 d3 d4 d5 d6 d7 d8 d9
  cases hfit : fitsB f x y with
  | false =>
    clear VE VD VQ VV VG VP
    go_wp2_with fail
    go_ret
    exact ⟨rfl, BEL.out.trans (HB3.out.mono hle)⟩
  | true =>
  cases hfew : fewB x y with
  | false =>
    rw [hfew] at FW
    clear VE VD VQ VV VG VP
    go_wp2_with fail
    refine (FW.out w3).mono ?_
    rintro r w4 ⟨rfl, rfl⟩
    go_wp2_with fail
    go_ret
    exact ⟨rfl, BEL.out.trans (HB3.out.mono hle)⟩
  | true =>
  rw [hfew] at FW
  have VD2 := Lib.hid (VD.out hfew)
  obtain ⟨f0, f1, f2, f3, f4⟩ := few_iff.1 hfew
  obtain ⟨A, rfl⟩ : ∃ A : Nat, x = A := ⟨x.toNat, by omega⟩
  obtain ⟨B, rfl⟩ : ∃ B : Nat, y = B := ⟨y.toNat, by omega⟩
  obtain ⟨N, hN⟩ : ∃ N, A * B = N := ⟨_, rfl⟩
  have hN' : (A : Int) * B = (N : Int) := by rw [← hN, Int.natCast_mul]
  rw [hN'] at f4
  have t0 : IntKind.i64.wrap ((A : Int) * B) = (N : Int) := by rw [hN']; exact IntWalk.i64_in _ (by omega)
  have HN := Lib.hid hN
  have HN2 := Lib.hid hN'
  clear hN hN' VD
  go_wp2_with fail
  refine (FW.out w3).mono ?_
  rintro r w4 ⟨rfl, rfl⟩
  by_cases hn2 : n = N
  case neg =>
    have g1 : decide ((n : Int) = (N : Int)) = false := decide_eq_false (by omega)
    have g2 : ((n : Int) == (N : Int)) = false := by simp; omega
    have g3 : ((n : Int) != (N : Int)) = true := by simp; omega
    have g4 : decide (n = N) = false := decide_eq_false hn2
    clear VE VQ VV VG VP
    go_wp2_with fail
    go_ret
    exact ⟨rfl, BEL.out.trans (HB3.out.mono hle)⟩
  subst hn2
  have g1 : decide ((n : Int) = (n : Int)) = true := decide_eq_true rfl
  have g2 : ((n : Int) != (n : Int)) = false := by simp
  obtain ⟨hok, _⟩ := fits_parts hfit
  have hlen : L.length = A * B := by rw [hn, HN.out]
  have hen : encOk f A B L = true := encOk_iff.2 ⟨hfit, by rw [hn, HN2.out]⟩
  have hsz := enc_size hok (W := A) (H := B) (by omega) (by omega) L
  have hpl := pieces_length A B (valsL f L) (groundL (valsL f L))
  rw [HN.out] at hpl
  have hzz : f.size = (f.B / 8).toNat := if_pos hok
  have hz4 := (Fmt.size_le4 f).1
  rw [← hzz] at hsz
  have hvi : L.map f.valI = valsL f L := by unfold valsL; refine List.map_congr_left (fun c _ => ?_); unfold Fm.valI; rw [if_pos hok]
  have hvl : (valsL f L).length = n := by unfold valsL; rw [List.length_map, hn]
  have hwv : Wfs (valsL f L) := fun c hc => by
    obtain ⟨i, hi, rfl⟩ := List.getElem_of_mem hc
    have := small_vals hok L i
    rw [px_get hi] at this
    exact small_wf this
  have hsg : Side (groundL (valsL f L)) := by have := small_ground (small_vals hok L); unfold Small at this; unfold Side; omega
  have hpp : piecesL A B (valsL f L) (groundL (valsL f L)) = piecesN A B (valsL f L) (groundL (valsL f L)) := by
    unfold piecesL
    have h9 : ((A * B : Nat) : Int) = (n : Int) := by rw [HN.out]
    rw [Int.natCast_mul] at h9
    rw [hvl, if_neg (by omega)]
    rfl
  obtain ⟨m, hm⟩ : ∃ m, (encB f A B L).size = m := ⟨_, rfl⟩
  have hm5 : 5 ≤ m := by have := (Fmt.size_le4 f).2.1 hok; omega
  have hpz : (piecesN A B (valsL f L) (groundL (valsL f L))).length * (f.size + 8) ≤ 200 * 12 := Nat.mul_le_mul (by omega) (by omega)
  have hmb : m ≤ 3000 := by omega
  have VE2 := Lib.hid (VE.out (by omega))
  rw [show encS f A B L = encB f A B L by unfold encS; rw [if_pos hen, Int.toNat_natCast, Int.toNat_natCast], show encE f A B L = 0 by unfold encE; rw [if_pos hen]] at VE2
  have VDA := Lib.hid (fun w => VD2.out (encB f A B L ++ s) (by rw [ByteArray.size_append]; omega) w)
  rw [back_all hok (by omega) (by omega) hlen s, hm] at VDA
  have VDB := Lib.hid (fun w => VD2.out ((encB f A B L).extract 0 (m - 1)) (by rw [ByteArray.size_extract]; omega) w)
  rw [back_less hok (by omega) (by omega) hlen (n := m - 1) (by omega)] at VDB
  dsimp only at VDA VDB
  have VQ2 := Lib.hid (VQ.out hok (by omega))
  have VV2 := Lib.hid (VV.out (by omega))
  rw [hvi] at VV2
  have VG2 := Lib.hid (fun v w h => VG.out (valsL f L) v w hwv (by omega) h)
  have VP2 := Lib.hid (fun v w h => VP.out (valsL f L) v (groundL (valsL f L)) w hsg hwv (by omega) h)
  rw [hpp] at VP2
  have RW := Lib.hid (fun u v w (hu : SI w u (L.map (fun c => ((f.left c : Nat) : Int)))) (hv : SI w v (L.map (fun c => ((f.left c : Nat) : Int)))) => refRow_any u v _ _ w hu.sw hv.sw (by rw [List.length_map]; omega) (by rw [List.length_map]; omega))
  rw [show decide (L.map (fun c => ((f.left c : Nat) : Int)) = L.map (fun c => ((f.left c : Nat) : Int))) = true from decide_eq_true rfl] at RW
  have hql : (L.map (fun c => ((f.left c : Nat) : Int))).length = n := by rw [List.length_map, hn]
  obtain ⟨QL, hQL⟩ : ∃ QL, L.map (fun c => ((f.left c : Nat) : Int)) = QL := ⟨_, rfl⟩
  rw [hQL] at VDA VQ2 RW hql
  generalize groundL (valsL f L) = G at *
  generalize piecesN A B (valsL f L) G = PS at *
  generalize valsL f L = VS' at *
  obtain ⟨S, hS⟩ : ∃ S, encB f A B L = S := ⟨_, rfl⟩
  rw [hS] at VE2 VDA VDB hm
  obtain ⟨ST, hST⟩ : ∃ ST, S ++ s = ST := ⟨_, rfl⟩
  rw [hST] at VDA
  obtain ⟨m', hm'⟩ : ∃ m', m - 1 = m' := ⟨_, rfl⟩
  rw [hm'] at VDB
  obtain ⟨SH, hSH⟩ : ∃ SH, S.extract 0 m' = SH := ⟨_, rfl⟩
  rw [hSH] at VDB
  have wm1 : IntKind.i64.wrap ((m : Int) - 1) = (m' : Int) := (IntWalk.i64_in _ (by omega)).trans (by omega)
  obtain ⟨z, hz⟩ : ∃ z, f.size = z := ⟨_, rfl⟩
  rw [hz] at hsz hpz hz4 VS
  rw [hS, hm] at hsz
  obtain ⟨q1, hq1⟩ : ∃ q1, 4 + z = q1 := ⟨_, rfl⟩
  obtain ⟨q3, hq3⟩ : ∃ q3, 8 + z = q3 := ⟨_, rfl⟩
  obtain ⟨q2, hq2⟩ : ∃ q2, PS.length * q3 = q2 := ⟨_, rfl⟩
  have hq22 : PS.length * (z + 8) = q2 := by rw [← hq2, ← hq3, Nat.add_comm z 8]
  rw [hq22] at hsz hpz
  have u1 : IntKind.i64.wrap ((4 : Int) + (z : Nat)) = (q1 : Nat) := (IntWalk.i64_in _ (by omega)).trans (by omega)
  have u3 : IntKind.i64.wrap ((8 : Int) + (z : Nat)) = (q3 : Nat) := (IntWalk.i64_in _ (by omega)).trans (by omega)
  have u2 : IntKind.i64.wrap ((PS.length : Int) * (q3 : Nat)) = (q2 : Nat) := by rw [← Int.natCast_mul, hq2]; exact IntWalk.i64_in _ (by omega)
  have u4 : IntKind.i64.wrap ((q1 : Int) + (q2 : Nat)) = (m : Nat) := (IntWalk.i64_in _ (by omega)).trans (by omega)
  have HU := Lib.hid (And.intro u1 (And.intro u2 (And.intro u3 u4)))
  have HM4 : RowKit.Hid (¬ (m : Int) < 4) := Lib.hid (by omega)
  have HPL := Lib.hid hpl
  have le1 : (m' : Int) ≤ S.size := by omega
  have le2 : m' ≤ S.size := by omega
  have HLE := Lib.hid (And.intro le1 le2)
  have HT0 := Lib.hid t0
  have HSS : RowKit.Hid (S.size + s.size ≤ 100000) := Lib.hid (by omega)
  have HL34 : RowKit.Hid ((m' : Int) ≤ (m : Int) ∧ m' ≤ m) := Lib.hid ⟨by omega, by omega⟩
  clear VE VQ VV VG VP VD2 hen hvi hwv hsg hpp hQL hS hm5 hpz hmb hzz hz4 hz hsz hq1 hq2 hq3 hq22 u1 u2 u3 u4 FW le1 le2 hfit hfew hlen hsx hsy hpl
  obtain ⟨d0, d1, d2, d3, d4, d5, d6, d7, d8, d9⟩ := HA.out w3 HB3.out
  go_wp2_with fail
  refine (VE2.out _ (HS.out w3 HB3.out)).mono ?_
  rintro r w4 ⟨rfl, bb⟩
  have HB4 := Lib.hid (HB3.out.trans (bb.mono HB3.out.size))
  clear bb VE2 d0 d1 d2 d3 d4 d5 d6 d7 d8 d9
  obtain ⟨d0, d1, d2, d3, d4, d5, d6, d7, d8, d9⟩ := HA.out w4 HB4.out
  have hss := HSS.out
  go_wp2_with fail
  refine (VDA.out w4).mono ?_
  rintro r w5 ⟨u, rfl, hu, bb⟩
  have HB5 := Lib.hid (HB4.out.trans (bb.mono HB4.out.size))
  have HU5 := Lib.hid hu
  obtain ⟨ua, uc, rfl⟩ := SI.form hu
  rw [hql] at HU5 ⊢
  clear bb hu VDA d0 d1 d2 d3 d4 d5 d6 d7 d8 d9 hST hss
  obtain ⟨d0, d1, d2, d3, d4, d5, d6, d7, d8, d9⟩ := HA.out w5 HB5.out
  go_wp2_with fail
  refine (VQ2.out _ (HS.out w5 HB5.out)).mono ?_
  rintro r w6 ⟨v, rfl, hv, bb⟩
  have HB6 := Lib.hid (HB5.out.trans (bb.mono HB5.out.size))
  have HU6 := Lib.hid (HU5.out.below bb)
  have HV6 := Lib.hid (IntsAt.si hv)
  obtain ⟨va, vc, rfl⟩ := RowAt.shape hv
  rw [hql] at HV6 ⊢
  clear bb hv VQ2 HU5 d0 d1 d2 d3 d4 d5 d6 d7 d8 d9
  go_wp2_with fail
  refine (RW.out _ _ w6 HU6.out HV6.out).mono ?_
  rintro r w7 ⟨rfl, q, rfl⟩
  have HB7 := Lib.hid (Pln.below_q HB6.out q)
  clear RW HU6 HV6 HB6
  generalize w6.drewN q = w7 at *
  have y1 : decide ((m : Int) < 4) = false := decide_eq_false (by have := HM4.out; omega)
  have y2 : decide (m < 4) = false := decide_eq_false (by have := HM4.out; omega)
  have y3 : ((m : Int) != (m : Int)) = false := by simp
  have y4 : decide ((m : Int) = (m : Int)) = true := decide_eq_true rfl
  have hmS := Lib.hid hm
  go_wp2_with fail
  have q7s := HB7.out.size
  obtain ⟨le1, le2⟩ := HLE.out
  obtain ⟨le4, le3⟩ := HL34.out
  refine region_preds (by kernel_rfl) (pkB (.agg #[.int .i64 f.B, .int .i64 f.D, .bool f.big, .bool f.tr, .int .i64 f.rm, .int .i64 f.gm, .int .i64 f.bm, .int .i64 f.rs, .int .i64 f.gs, .int .i64 f.bs]) (.int .i64 A) (.int .i64 B) (.string S) (.string SH) m m') (fun i v w => pkR i v w) (fun _ W' => Below w7.heap.size w7 W') [1, 2, 5, 12, 15] [none, none, none, none, none, none, none, none, none, none, none, none, none, none, none, none, none, none, some 12, some 13, some 14, none, none, none, none, none, none, none, none, none, none, none, none, none, none, none, none, none, none, none, none, none, none, none, none, none, none, none, none, none, none, none, none, none, none, none, none, none, none, none, none, none, none, none, none, none, none, none, none, none, none, none, none, none, none, none, none, none, none, none, none, none, none, none, none, none, none, none, none, none, none, none, none, none, none, some 8, some 0, some 1, some 2, some 3, some 4, some 5, some 6, some 7, some 9, some 10, some 11, none, none, none, none, none, none, none, none, none, none, none, none, none, none, none, none, none, none, none, none, none, none, none, none, none, none, none, none, none, none, none, none, none, none, none, none, none, none, none, none] (by kernel_rfl) (by kernel_rfl) (by rfl) (by kernel_rfl) (by kernel_rfl) (by kernel_rfl) ((Below.refl _ _).drew) ⟨?_, ?_, ?_, ?_, ?_, ?_, ?_, ?_, ?_, ?_, ?_, ?_, ?_, ?_, ?_, trivial⟩ ?_
  case refine_16 =>
    intro vs ℓ w8 hl hS hR
    have HB8 := Lib.hid (HB7.out.trans (hS.mono q7s))
    clear hR hl hS VDB
    simp only [zipF, pkB, Option.getD_some, Option.getD_none]
    generalize vs 7 = u7 at *
    generalize vs 8 = u8 at *
    generalize vs 9 = u9 at *
    generalize vs 12 = u12 at *
    obtain ⟨d0, d1, d2, d3, d4, d5, d6, d7, d8, d9⟩ := HA.out w8 HB8.out
    go_wp2_with fail
    refine (VV2.out _ (HS.out w8 HB8.out)).mono ?_
    rintro r w9 ⟨v9, rfl, hv9, bb⟩
    have HB9 := Lib.hid (HB8.out.trans (bb.mono HB8.out.size))
    have HV9 := Lib.hid (IntsAt.si hv9)
    obtain ⟨xa, xc, rfl⟩ := RowAt.shape hv9
    rw [hvl] at HV9 ⊢
    clear bb hv9 VV2 d0 d1 d2 d3 d4 d5 d6 d7 d8 d9
    go_wp2_with fail
    refine (VG2.out _ _ HV9.out.sw).mono ?_
    rintro r w10 ⟨rfl, bb⟩
    have HB10 := Lib.hid (HB9.out.trans (bb.mono HB9.out.size))
    have HV10 := Lib.hid (HV9.out.below bb)
    clear bb VG2 HV9
    go_wp2_with fail
    refine (VP2.out _ _ HV10.out.sw).mono ?_
    rintro r w11 ⟨v11, rfl, hv11, bb⟩
    have HB11 := Lib.hid (HB10.out.trans (bb.mono HB10.out.size))
    obtain ⟨pa, pc, rfl, _⟩ := SP.cells hv11
    clear bb hv11 VP2 HV10
    go_wp2_with fail
    have q11 := HB11.out.size
    refine region_all (by kernel_rfl) (finV (.agg #[.int .i64 f.B, .int .i64 f.D, .bool f.big, .bool f.tr, .int .i64 f.rm, .int .i64 f.gm, .int .i64 f.bm, .int .i64 f.rs, .int .i64 f.gs, .int .i64 f.bs]) (.slice pa PS.length pc) A B n m z q1 q2 q3 PS.length) (fun W' => Below w11.heap.size w11 W') [1, 2, 5, 11, 15, 19, 20, 22] [none, none, none, none, none, none, none, none, none, none, some 31, none, none, none, none, none, none, none, none, none, none, none, none, none, none, none, none, none, none, none, none, none, none, none, none, none, none, none, none, none, none, none, none, none, none, none, none, none, none, none, none, none, none, none, none, none, none, none, none, none, none, none, none, none, none, none, none, none, none, none, none, none, none, none, none, none, none, none, none, none, none, none, none, none, none, none, none, none, none, none, none, none, none, none, none, none, none, none, none, none, none, none, none, none, none, none, none, none, none, none, none, none, none, none, none, none, some 0, some 1, some 2, some 3, some 4, some 5, some 6, some 7, some 8, some 9, some 10, some 11, some 12, some 13, some 14, some 15, some 16, some 17, some 18, some 19, some 20, some 21, some 22, some 23, some 24, some 25, some 26, some 27, some 28, some 29, some 30] (by kernel_rfl) (by kernel_rfl) (by rfl) (by kernel_rfl) (by kernel_rfl) (by kernel_rfl) ((Below.refl _ _).drew) ⟨?_, ?_, ?_, ?_, ?_, ?_, ?_, ?_, ?_, ?_, ?_, ?_, ?_, ?_, ?_, ?_, ?_, ?_, ?_, ?_, ?_, ?_, ?_, ?_, ?_, ?_, ?_, ?_, ?_, ?_, ?_, ?_, trivial⟩ ?_
    case refine_33 =>
      intro w12 hS
      have HB12 := Lib.hid (HB11.out.trans (hS.mono q11))
      clear hS
      simp only [zipF, finV]
      go_wp2_with fail
      go_ret
      exact ⟨rfl, BEL.out.trans (HB12.out.mono hle)⟩
    all_goals
      intro ℓ act Wd hl hS hw hr hd
      obtain ⟨d0, d1, d2, d3, d4, d5, d6, d7, d8, d9⟩ := HA.out Wd (HB11.out.trans (hS.mono q11))
      obtain ⟨u1, u2, u3, u4⟩ := HU.out
      have t0 := HT0.out
      have hplI : (PS.length : Int) ≤ (n : Int) := by have := HPL.out; omega
      have hp1 : decide ((PS.length : Int) ≤ (n : Int)) = true := decide_eq_true hplI
      have hp2 : decide (PS.length ≤ n) = true := decide_eq_true (by omega)
      clear hw
      simp [readFacts, depFacts, dstOf, Region.binds, finV] at hr hd
      refine ⟨by first | exact wanted_none (by rfl) | exact wanted_guard (by rfl) (by rfl) (by simp only [*]), fun K hK => ?_⟩
      go_simp
      first
        | exact hK _ hS
        | (rw [u1]; exact hK _ hS)
        | (rw [u2]; exact hK _ hS)
        | (rw [u3]; exact hK _ hS)
        | (rw [u4]; exact hK _ hS)
        | (rw [t0]; exact hK _ hS)
        | (with_reducible refine (VS.out _).mono ?_
           rintro r w' ⟨rfl, bb⟩
           exact hK _ (hS.trans (bb.mono hS.size)))
  case refine_8 =>
    intro ℓ act W9 hl hS hw hx hr hd
    clear hw hx
    simp [readFacts, depFactsP, dstOf, Region.binds, pkB] at hr hd
    refine ⟨wanted_none (by rfl), fun K hK => ?_⟩
    go_simp
    refine (VDB.out _).mono ?_
    rintro r w' ⟨u, rfl, _, b⟩
    exact hK _ _ (show pkR 7 _ w' from fun _ => ⟨u, rfl⟩) (hS.trans (b.mono hS.size)) (fun _ _ _ _ h => h)
  case refine_9 =>
    intro ℓ act W9 hl hS hw hx hr hd
    clear hw hx
    simp [readFacts, depFactsP, dstOf, Region.binds, pkB] at hr hd
    refine ⟨wanted_none (by rfl), fun K hK => ?_⟩
    obtain ⟨v, e1, y1⟩ := hd
    obtain ⟨u, rfl⟩ := y1 (.inl rfl)
    go_simp
    exact hK _ _ (show pkR 8 _ W9 from fun _ => ⟨u, rfl⟩) hS (fun _ _ _ _ h => h)
  case refine_10 =>
    intro ℓ act W9 hl hS hw hx hr hd
    clear hw hx
    simp [readFacts, depFactsP, dstOf, Region.binds, pkB] at hr hd
    refine ⟨wanted_none (by rfl), fun K hK => ?_⟩
    obtain ⟨v, e1, y1⟩ := hd
    obtain ⟨u, rfl⟩ := y1 (.inr rfl)
    go_simp
    exact hK _ _ (show pkR 9 _ W9 from fun h => by omega) hS (fun _ _ _ _ h => h)
  case refine_11 =>
    intro ℓ act W9 hl hS hw hx hr hd
    clear hw hx
    simp [readFacts, depFactsP, dstOf, Region.binds, pkB] at hr hd
    refine ⟨wanted_none (by rfl), fun K hK => ?_⟩
    obtain ⟨v, e1, y1⟩ := hd
    obtain ⟨u, rfl⟩ := y1 (.inr rfl)
    go_simp
    exact hK _ _ rfl hS (fun _ _ _ _ h => h)
  case refine_12 =>
    intro ℓ act W9 hl hS hw hx hr hd
    clear hw hx
    simp [readFacts, depFactsP, dstOf, Region.binds, pkB] at hr hd
    refine ⟨wanted_none (by rfl), fun K hK => ?_⟩
    obtain ⟨v, e1, y1⟩ := hd
    obtain ⟨u, rfl⟩ := y1 (.inr rfl)
    go_simp
    exact hK _ _ rfl hS (fun _ _ _ _ h => h)
  case refine_13 =>
    intro ℓ act W9 hl hS hw hx hr hd
    clear hw hx
    simp [readFacts, depFactsP, dstOf, Region.binds, pkB] at hr hd
    refine ⟨wanted_none (by rfl), fun K hK => ?_⟩
    obtain ⟨⟨v, e1, y1⟩, hd2⟩ := hd
    clear hd2 y1
    go_simp
    exact hK _ _ (show pkR 12 _ W9 from fun h => by omega) hS (fun _ _ _ _ h => h)
  all_goals
    intro ℓ act W9 hl hS hw hx hr hd
    clear hw hx
    obtain ⟨d0, d1, d2, d3, d4, d5, d6, d7, d8, d9⟩ := HA.out _ (HB7.out.trans (hS.mono q7s))
    simp [readFacts, depFactsP, dstOf, Region.binds, pkB] at hr hd
    refine ⟨wanted_none (by rfl), fun K hK => ?_⟩
    go_simp
    exact hK _ _ rfl hS (fun _ _ _ _ h => h)

set_option maxRecDepth 100000 in
theorem lifted (os : Os) (started : os.Started) (H : Type) (enc : TypeId × Value → H) :
    ReturnsInHanded {} Try.checked os 6 .any (Rows.rreBackSpec.pre6 enc Try.prog Try.f6 Rows.rreBackRow.domain false) (Rows.rreBackSpec.post enc Try.prog Try.f6 false true false false) := by
  refine returnsInHanded_of_change (C := Try.checked) own started (by kernel_rfl) Try.func6
    (ChangeSpec.witness6 (enc := enc) (C := Try.checked) false ⟨#[], #[.agg #[.int .i64 0, .int .i64 0, .bool false, .bool false, .int .i64 0, .int .i64 0, .int .i64 0, .int .i64 0, .int .i64 0, .int .i64 0], .int .i64 0, .int .i64 0, .slice none 0 0, .string ByteArray.empty], []⟩ 8 (by kernel_rfl) (by kernel_rfl) (by kernel_rfl) (by kernel_rfl)) ?_
  intro W base args ds gs before hval0 hW hcnd _
  have hval : ∀ (j : Nat) t v, Try.f6.params[j]? = some t → args[j]? = some v → Value.okWide Try.prog W .any base t v := hval0
  have hW' := hW
  obtain ⟨p, q, hA0, hV, rfl, hfz, hnd⟩ := hW
  have hA : DataW.TrodAll enc Try.prog W 0 (fun _ => true) true Try.f6.params.toList args.toList ds p := hA0
  rw [Try.params6] at hA hval
  obtain ⟨v0, vs0, d0, ds0, p0, q0, hargs, rfl, rfl, h0, r0⟩ := trodAll_cons hA
  obtain ⟨v1, vs1, d1, ds1, p1, q1, rfl, rfl, rfl, h1, r1⟩ := trodAll_cons r0
  obtain ⟨v2, vs2, d2, ds2, p2, q2, rfl, rfl, rfl, h2, r2⟩ := trodAll_cons r1
  obtain ⟨v3, vs3, d3, ds3, p3, q3, rfl, rfl, rfl, h3, r3⟩ := trodAll_cons r2
  obtain ⟨v4, vs4, d4, ds4, p4, q4, rfl, rfl, rfl, h4, r4⟩ := trodAll_cons r3
  obtain ⟨rfl, rfl, rfl⟩ := trodAll_nil r4
  obtain rfl : args = #[v0, v1, v2, v3, v4] := by cases args; simp_all
  obtain ⟨rfl, rfl⟩ := trodVars_none hV
  have k0 := h0
  have lt0 : ∀ x ∈ p0, x.block < W.heap.size := by obtain ⟨m, hm⟩ := k0; exact DataW.trod_lt m _ _ _ hm
  obtain ⟨a0, rfl, w0⟩ := fmt_see (hval 0 37 v0 rfl rfl) h0
  have k1 := h1
  have lt1 : ∀ x ∈ p1, x.block < W.heap.size := by obtain ⟨m, hm⟩ := k1; exact DataW.trod_lt m _ _ _ hm
  obtain ⟨a1, rfl, rfl, rfl, w1⟩ := open_int Try.underlying3 (hval 1 3 v1 rfl rfl) h1
  have k2 := h2
  have lt2 : ∀ x ∈ p2, x.block < W.heap.size := by obtain ⟨m, hm⟩ := k2; exact DataW.trod_lt m _ _ _ hm
  obtain ⟨a2, rfl, rfl, rfl, w2⟩ := open_int Try.underlying3 (hval 2 3 v2 rfl rfl) h2
  have k3 := h3
  have lt3 : ∀ x ∈ p3, x.block < W.heap.size := by obtain ⟨m, hm⟩ := k3; exact DataW.trod_lt m _ _ _ hm
  obtain ⟨a3, len3, cap3, rfl⟩ := okWide_slice Try.underlying22 (hval 3 22 v3 rfl rfl)
  obtain ⟨A3, w3⟩ := ints_si h3
  have k4 := h4
  have lt4 : ∀ x ∈ p4, x.block < W.heap.size := by obtain ⟨m, hm⟩ := k4; exact DataW.trod_lt m _ _ _ hm
  obtain ⟨a4, rfl, rfl, rfl, w4⟩ := open_string Try.underlying9 (hval 4 9 v4 rfl rfl) h4
  clear hA0 hval0
  refine (walk says a0 a1 a2 a3 len3 cap3 A3 a4 W w0 w1 w2 w3 w4).mono fun e W' ⟨he, bel⟩ => ?_
  subst he
  exact ⟨_, rfl, _, _, _, [], _, [], hW', trodAll_mk1 (shut_bool Try.underlying4 _), (trodAll_cons_mk (Below.trod laidOut (by kernel_rfl) (of_decide_eq_true (by kernel_rfl)) k0 bel lt0) (trodAll_cons_mk (Below.trod laidOut (by kernel_rfl) (of_decide_eq_true (by kernel_rfl)) k1 bel lt1) (trodAll_cons_mk (Below.trod laidOut (by kernel_rfl) (of_decide_eq_true (by kernel_rfl)) k2 bel lt2) (trodAll_cons_mk (Below.trod laidOut (by kernel_rfl) (of_decide_eq_true (by kernel_rfl)) k3 bel lt3) (trodAll_cons_mk (Below.trod laidOut (by kernel_rfl) (of_decide_eq_true (by kernel_rfl)) k4 bel lt4) trodAll_mk0))))), rfl, bel.frame _, fun h => by cases h⟩

theorem over : Rows.rreBackRow.holds Try.pinned (OpenSpec.ofChange Rows.rreBackSpec) :=
  OpenClaim.holds_of_wide 6 Try.f6 rfl rfl rfl rfl rfl rfl rfl ⟨rfl, rfl, rfl, rfl, rfl⟩ rfl rfl rfl rfl rfl (by kernel_rfl) Try.func6 (by kernel_rfl)
    (of_decide_eq_true (by kernel_rfl)) (by unfold Func.isWrapper; first | (rw [if_pos (by decide +kernel)]; kernel_rfl) | (rw [if_neg (by decide +kernel)]; exact ⟨rfl, rfl⟩))
    (fun os started H enc _ => lifted os started H enc)

theorem proved : Rows.RreBackSaid := over
end Go.Proofs.Ytmjjbapahgejmaa.rreBack
