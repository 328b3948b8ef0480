/-
  RreCovers (layer 17): each place that is not the ground is in just one piece, of its value; no other is in one.
-/
import Derived.Test.YtmjjbapahgejmaaRows
import Derived.Test.YtmjjbapahgejmaaRreProg
import Derived.Test.YtmjjbapahgejmaaRreWks
import Derived.Test.YtmjjbapahgejmaaRreRefF
import Derived.Test.YtmjjbapahgejmaaRreFew
import Derived.WalkKit
import Derived.ProofKit
import Derived.OpenShut
import Derived.ShutString
import Derived.ChangeOld
import Derived.Below
import Derived.Lib.SmallJoins
import Derived.Deep.Slices
namespace Go.Proofs.Ytmjjbapahgejmaa.rreCovers
open Go.Proofs.Ytmjjbapahgejmaa.Rre
open Go.ChangeShapes Go.WideShapes Go.ChangeAt Go.RowKit
open Go.ChangeMaps (open_string shut_string)
set_option linter.unusedVariables false

theorem own : ownKnob Try.prog.godebug = none := by kernel_rfl
theorem laidOut : laidOutB Try.prog = true := by kernel_rfl

open Go.Proofs.Ytmjjbapahgejmaa.RowG Go.Proofs.Ytmjjbapahgejmaa.RegVal Go.Proofs.Ytmjjbapahgejmaa.Lz Go.Proofs.Ytmjjbapahgejmaa.Pln
set_option maxRecDepth 100000
theorem take_filter {l : List Pc} {k : Nat} {p : Pc} (h : l[k]? = some p) (q : Pc → Bool) : ((l.take (k + 1)).filter q).length = ((l.take k).filter q).length + if q p = true then 1 else 0 := by
  obtain ⟨hk, rfl⟩ := List.getElem?_eq_some_iff.1 h
  rw [List.take_succ_eq_append_getElem hk, List.filter_append, List.length_append]
  congr 1
  by_cases hq : q l[k] = true
  · simp [hq]
  · simp [hq]
set_option maxHeartbeats 4000000 in
theorem walk (D : Says) (a0 a1 : Int) (a : Option Addr) (n cap : Nat) (L : List Int) (g a4 a5 : Int) (W : World) (w0 : (Lit.int .i64 a0).wf = true) (w1 : (Lit.int .i64 a1).wf = true) (hL : SW W (.slice a n cap) L ∧ L.length ≤ maxLen ∧ L.length = n ∧ (∀ x ∈ L, (Lit.int .i64 x).wf = true) ∧ Room (.slice a n cap)) (w3 : (Lit.int .i64 g).wf = true) (w4 : (Lit.int .i64 a4).wf = true) (w5 : (Lit.int .i64 a5).wf = true) :
    Calls Try.prog 7 #[.int .i64 a0, .int .i64 a1, .slice a n cap, .int .i64 g, .int .i64 a4, .int .i64 a5] W fun e w' => e = .returned (.bool true) ∧ Below W.heap.size W w' := by
  obtain ⟨hsw, _, hn, hwf, _⟩ := hL
  have V0 := Lib.hid (works_any D W)
  have HSW := Lib.hid hsw
  have hs0 : Side a0 := wf_bd w0
  have hs1 : Side a1 := wf_bd w1
  have hsg : Side g := wf_bd w3
  have hs4 : Side a4 := wf_bd w4
  have hs5 : Side a5 := wf_bd w5
  have FW := Lib.hid (fun w => few_any a0 a1 w)
  have V1 := Lib.hid (fun (hb : n ≤ 200) w h => D.pieces a0 a1 L (.slice a n cap) g hs0 hs1 hsg hwf (by omega) w h)
  clear hsw w0 w1 w3 w4 w5
  go_enter Try.func7, Try.ntmps7
  go_wp2_with fail
  refine V0.out.mono ?_
  rintro r w1 ⟨rfl, b1⟩
  have HB1 := Lib.hid b1
  have HS1 := Lib.hid (HSW.out.below b1)
  clear b1 V0
  unfold Side at hs0 hs1 hs4 hs5
  cases hfew : fewB a0 a1 with
  | false =>
    rw [hfew] at FW
    clear V1 HSW
    go_wp2_with fail
    refine (FW.out _).mono ?_
    rintro r w2 ⟨rfl, rfl⟩
    go_wp2_with fail
    go_ret
    exact ⟨rfl, HB1.out⟩
  | true =>
  rw [hfew] at FW
  obtain ⟨f0, f1, f2, f3, f4⟩ := few_iff.1 hfew
  obtain ⟨A, rfl⟩ : ∃ A : Nat, a0 = A := ⟨a0.toNat, by omega⟩
  obtain ⟨B, rfl⟩ : ∃ B : Nat, a1 = B := ⟨a1.toNat, by omega⟩
  obtain ⟨N, hN⟩ : ∃ N, A * B = N := ⟨_, rfl⟩
  have hN' : (A : Int) * B = (N : Int) := by rw [← hN, Int.natCast_mul]
  rw [hN'] at f4
  have t0 : IntKind.i64.wrap ((A : Int) * B) = (N : Int) := by rw [hN']; exact IntWalk.i64_in _ (by omega)
  have HN := Lib.hid hN
  clear hN hN'
  by_cases hn2 : n = N
  case neg =>
    have d1 : decide ((n : Int) = (N : Int)) = false := decide_eq_false (by omega)
    have d2 : ((n : Int) == (N : Int)) = false := by simp; omega
    have d3 : ((n : Int) != (N : Int)) = true := by simp; omega
    have d4 : decide (n = N) = false := decide_eq_false hn2
    clear V1 HSW
    go_wp2_with fail
    refine (FW.out _).mono ?_
    rintro r w2 ⟨rfl, rfl⟩
    go_wp2_with fail
    go_ret
    exact ⟨rfl, HB1.out⟩
  subst hn2
  have e1 : decide ((n : Int) = (n : Int)) = true := decide_eq_true rfl
  have e2 : ((n : Int) != (n : Int)) = false := by simp
  by_cases h4 : a4 < 0
  case pos =>
    have d1 : decide (a4 < 0) = true := decide_eq_true h4
    clear V1 HSW
    go_wp2_with fail
    refine (FW.out _).mono ?_
    rintro r w2 ⟨rfl, rfl⟩
    go_wp2_with fail
    go_ret
    exact ⟨rfl, HB1.out⟩
  have e3 : decide (a4 < 0) = false := decide_eq_false h4
  by_cases h5 : a5 < 0
  case pos =>
    have d1 : decide (a5 < 0) = true := decide_eq_true h5
    clear V1 HSW
    go_wp2_with fail
    refine (FW.out _).mono ?_
    rintro r w2 ⟨rfl, rfl⟩
    go_wp2_with fail
    go_ret
    exact ⟨rfl, HB1.out⟩
  have e4 : decide (a5 < 0) = false := decide_eq_false h5
  obtain ⟨X, rfl⟩ : ∃ X : Nat, a4 = X := ⟨a4.toNat, by omega⟩
  obtain ⟨Y, rfl⟩ : ∃ Y : Nat, a5 = Y := ⟨a5.toNat, by omega⟩
  by_cases h6 : A ≤ X
  case pos =>
    have d1 : decide ((A : Int) ≤ (X : Int)) = true := decide_eq_true (by omega)
    have d2 : decide (A ≤ X) = true := decide_eq_true h6
    clear V1 HSW
    go_wp2_with fail
    refine (FW.out _).mono ?_
    rintro r w2 ⟨rfl, rfl⟩
    go_wp2_with fail
    go_ret
    exact ⟨rfl, HB1.out⟩
  have e5 : decide ((A : Int) ≤ (X : Int)) = false := decide_eq_false (by omega)
  have e6 : decide (A ≤ X) = false := decide_eq_false h6
  by_cases h7 : B ≤ Y
  case pos =>
    have d1 : decide ((B : Int) ≤ (Y : Int)) = true := decide_eq_true (by omega)
    have d2 : decide (B ≤ Y) = true := decide_eq_true h7
    clear V1 HSW
    go_wp2_with fail
    refine (FW.out _).mono ?_
    rintro r w2 ⟨rfl, rfl⟩
    go_wp2_with fail
    go_ret
    exact ⟨rfl, HB1.out⟩
  have e7 : decide ((B : Int) ≤ (Y : Int)) = false := decide_eq_false (by omega)
  have e8 : decide (B ≤ Y) = false := decide_eq_false h7
  have hX : X < A := by omega
  have hY : Y < B := by omega
  have V2 := Lib.hid (V1.out (by omega))
  have hpl : piecesL A B L g = piecesN A B L g := by
    unfold piecesL
    have h9 : ((A * B : Nat) : Int) = (n : Int) := by rw [HN.out]
    rw [Int.natCast_mul] at h9
    rw [if_neg (by omega)]
    rfl
  rw [hpl] at V2
  have HIN := Lib.hid (pieces_inv A B L g).inside
  obtain ⟨hc1, hc2⟩ := pieces_count (vals := L) (g := g) hX hY
  have hPS : (piecesN A B L g).length ≤ 200 := by have := pieces_length A B L g; rw [HN.out] at this; omega
  have hq : Y * A + X < n := by rw [← HN.out]; exact at_lt hX hY
  obtain ⟨M, hM⟩ : ∃ M, Y * A = M := ⟨_, rfl⟩
  obtain ⟨Q, hQ⟩ : ∃ Q, M + X = Q := ⟨_, rfl⟩
  rw [hM, hQ] at hq hc1 hc2
  have t1 : IntKind.i64.wrap ((Y : Int) * A) = (M : Nat) := by rw [← Int.natCast_mul, hM]; exact IntWalk.i64_in _ (by omega)
  have t2 : IntKind.i64.wrap ((M : Int) + (X : Int)) = (Q : Nat) := by rw [← Int.natCast_add, hQ]; exact IntWalk.i64_in _ (by omega)
  have HC1 := Lib.hid hc1
  have HC2 := Lib.hid hc2
  have HHN := Lib.hid hn
  have hX200 : X ≤ 200 := by omega
  have hY200 : Y ≤ 200 := by omega
  clear V1 hpl hc1 hc2 hfew hM hQ hs0 hs1 hs4 hs5 hsg
  generalize piecesN A B L g = PS at *
  go_wp2_with fail
  refine (FW.out _).mono ?_
  rintro r w2 ⟨rfl, rfl⟩
  go_wp2_with fail
  refine (V2.out _ HS1.out).mono ?_
  rintro r w2 ⟨u, rfl, hu, b2⟩
  have HB2 := Lib.hid (HB1.out.trans (b2.mono HB1.out.size))
  have HS2 := Lib.hid (HS1.out.below b2)
  obtain ⟨ua, un, ucap, rfl, hul, hurd⟩ := hu.read
  subst hul
  have HRU := Lib.hid hurd
  clear b2 hu hurd V2 HB1 HS1 FW
  go_wp2_with fail
  go_loopw [15, 16] (fun vn vi wr => ∃ (k c : Nat), k ≤ PS.length ∧ vi = .int .i64 k ∧ vn = .int .i64 c ∧ c ≤ k ∧ RowKit.Hid (((PS.take k).filter (fun p => p.has X Y)).length = c) ∧ Below w2.heap.size w2 wr) (fun _ vi _ => PS.length - (intOf vi).toNat)
  case atStart => exact ⟨0, 0, Nat.zero_le _, rfl, rfl, Nat.le_refl _, Lib.hid rfl, Below.refl _ _⟩
  case round =>
    obtain ⟨k, c, hk, rfl, rfl, hck, HCK, hbr⟩ := hrel
    have HBR := Lib.hid hbr
    obtain ⟨va, vn, vc, e', hvl, hvrd⟩ := HS2.out.read
    simp only [Value.slice.injEq] at e'
    obtain ⟨rfl, rfl, rfl⟩ := e'
    obtain ⟨gv, ov, rfl, hvc⟩ := hvrd _ hbr (by omega)
    have q0 := hvc Q hq
    have HVC := Lib.hid hvrd
    clear hvrd hvc
    by_cases hlk : k < PS.length
    · have dk : decide ((k : Int) < (PS.length : Int)) = true := decide_eq_true (by omega)
      obtain ⟨p, hp⟩ : ∃ p, PS[k]? = some p := ⟨PS[k], List.getElem?_eq_getElem hlk⟩
      have hmem : p ∈ PS := List.mem_of_getElem? hp
      obtain ⟨i1, i2, i3, i4⟩ := HIN.out p hmem
      obtain ⟨g1, o1, rfl, hcel⟩ := HRU.out _ hbr (by omega)
      obtain ⟨c0, c1, c2, c3, c4⟩ := hcel k p hp
      have HTK := Lib.hid (take_filter hp (fun p => p.has X Y))
      have HVP := Lib.hid (HC2.out p hmem)
      obtain ⟨XN, hXN⟩ : ∃ XN, p.x + p.n = XN := ⟨_, rfl⟩
      obtain ⟨YM, hYM⟩ : ∃ YM, p.y + p.m = YM := ⟨_, rfl⟩
      have x1 : IntKind.i64.wrap ((p.x : Int) + (p.n : Int)) = (XN : Nat) := by rw [← Int.natCast_add, hXN]; exact IntWalk.i64_in _ (by omega)
      have x2 : IntKind.i64.wrap ((p.y : Int) + (p.m : Int)) = (YM : Nat) := by rw [← Int.natCast_add, hYM]; exact IntWalk.i64_in _ (by omega)
      have x3 : (p.x : Int) + (p.n : Int) = (XN : Nat) := by omega
      have x4 : (p.y : Int) + (p.m : Int) = (YM : Nat) := by omega
      have s1 : decide ((p.n : Int) < 1) = false := decide_eq_false (by omega)
      have s2 : decide ((p.m : Int) < 1) = false := decide_eq_false (by omega)
      have s3 : decide ((p.x : Int) < 0) = false := decide_eq_false (by omega)
      have s4 : decide ((p.y : Int) < 0) = false := decide_eq_false (by omega)
      have s5 : decide ((A : Int) < (XN : Int)) = false := decide_eq_false (by omega)
      have s6 : decide ((B : Int) < (YM : Int)) = false := decide_eq_false (by omega)
      have s7 : decide (A < XN) = false := decide_eq_false (by omega)
      have s8 : decide (B < YM) = false := decide_eq_false (by omega)
      have s9 : decide (p.n < 1) = false := decide_eq_false (by omega)
      have s10 : decide (p.m < 1) = false := decide_eq_false (by omega)
      have n9 := heap_alloc_new wr (.cells #[.int .i64 p.x, .int .i64 p.y, .int .i64 p.n, .int .i64 p.m] 29)
      have b9 := hbr.alloc hbr.size (.cells #[.int .i64 p.x, .int .i64 p.y, .int .i64 p.n, .int .i64 p.m] 29)
      have k0 := cellAt (o := 0) n9 rfl
      have k1 := cellAt (o := 1) n9 rfl
      have k2 := cellAt (o := 2) n9 rfl
      have k3 := cellAt (o := 3) n9 rfl
      have j0 : (wr.alloc (.cells #[.int .i64 p.x, .int .i64 p.y, .int .i64 p.n, .int .i64 p.m] 29)).cell? ⟨g1, o1 + k * 5, none⟩ = some (.int .i64 p.v) := ((Below.refl wr.heap.size wr).alloc (Nat.le_refl _) _).cell (World.block_lt_of_cell? wr _ c0) |>.trans c0
      have q1 : (wr.alloc (.cells #[.int .i64 p.x, .int .i64 p.y, .int .i64 p.n, .int .i64 p.m] 29)).cell? ⟨gv, ov + Q, none⟩ = some (.int .i64 (px L Q)) := ((Below.refl wr.heap.size wr).alloc (Nat.le_refl _) _).cell (World.block_lt_of_cell? wr _ q0) |>.trans q0
      have HB9 := Lib.hid b9
      have hki : (k : Int) < (PS.length : Int) := by omega
      have hqi : (Q : Int) < (n : Int) := by omega
      have hdone : ∀ c', RowKit.Hid (((PS.take (k + 1)).filter (fun p => p.has X Y)).length = c') → True := fun _ _ => trivial
      clear n9 b9 hcel hbr hmem hdone HRU HIN
      cases hh : p.has X Y with
      | true =>
        have hv := HVP.out hh
        have HCN : RowKit.Hid (((PS.take (k + 1)).filter (fun p => p.has X Y)).length = c + 1) := Lib.hid (by rw [HTK.out, HCK.out, if_pos hh])
        obtain ⟨b1, b2, b3, b4⟩ := has_iff.1 hh
        rw [hXN] at b2
        rw [hYM] at b4
        have y1 : decide ((p.x : Int) ≤ (X : Int)) = true := decide_eq_true (by omega)
        have y2 : decide ((X : Int) < (XN : Int)) = true := decide_eq_true (by omega)
        have y3 : decide ((p.y : Int) ≤ (Y : Int)) = true := decide_eq_true (by omega)
        have y4 : decide ((Y : Int) < (YM : Int)) = true := decide_eq_true (by omega)
        have y5 : decide (p.x ≤ X) = true := decide_eq_true b1
        have y6 : decide (X < XN) = true := decide_eq_true b2
        have y7 : decide (p.y ≤ Y) = true := decide_eq_true b3
        have y8 : decide (Y < YM) = true := decide_eq_true b4
        rw [← hv] at q0 q1
        clear hv HVP HTK
        obtain ⟨pv, hpv⟩ : ∃ pv, p.v = pv := ⟨_, rfl⟩
        rw [hpv] at j0 q1 c0 q0
        have z1 : decide (pv = pv) = true := decide_eq_true rfl
        have z2 : (pv != pv) = false := by simp
        clear hpv
        go_wp2_with fail
        generalize wr.alloc (.cells #[.int .i64 p.x, .int .i64 p.y, .int .i64 p.n, .int .i64 p.m] 29) = w9 at *
        go_quiet (fail)
        go_wp2_with fail
        exact ⟨⟨k + 1, c + 1, by omega, by go_num, by go_num, by omega, HCN, below_q HB9.out _⟩, by simp [intOf]; omega⟩
      | false =>
        have HCN : RowKit.Hid (((PS.take (k + 1)).filter (fun p => p.has X Y)).length = c) := Lib.hid (by rw [HTK.out, HCK.out, if_neg (by rw [hh]; decide)]; rfl)
        have hno : ¬ (p.x ≤ X ∧ X < XN ∧ p.y ≤ Y ∧ Y < YM) := fun e => by
          have : p.has X Y = true := has_iff.2 (by rw [hXN, hYM]; exact e)
          rw [hh] at this
          cases this
        clear HVP HTK hh
        by_cases b1 : p.x ≤ X
        case neg =>
          have y1 : decide ((p.x : Int) ≤ (X : Int)) = false := decide_eq_false (by omega)
          have y5 : decide (p.x ≤ X) = false := decide_eq_false b1
          go_wp2_with fail
          exact ⟨⟨k + 1, c, by omega, by go_num, rfl, by omega, HCN, HB9.out⟩, by simp [intOf]; omega⟩
        have y1 : decide ((p.x : Int) ≤ (X : Int)) = true := decide_eq_true (by omega)
        have y5 : decide (p.x ≤ X) = true := decide_eq_true b1
        by_cases b2 : X < XN
        case neg =>
          have y2 : decide ((X : Int) < (XN : Int)) = false := decide_eq_false (by omega)
          have y6 : decide (X < XN) = false := decide_eq_false b2
          go_wp2_with fail
          exact ⟨⟨k + 1, c, by omega, by go_num, rfl, by omega, HCN, HB9.out⟩, by simp [intOf]; omega⟩
        have y2 : decide ((X : Int) < (XN : Int)) = true := decide_eq_true (by omega)
        have y6 : decide (X < XN) = true := decide_eq_true b2
        by_cases b3 : p.y ≤ Y
        case neg =>
          have y3 : decide ((p.y : Int) ≤ (Y : Int)) = false := decide_eq_false (by omega)
          have y7 : decide (p.y ≤ Y) = false := decide_eq_false b3
          go_wp2_with fail
          exact ⟨⟨k + 1, c, by omega, by go_num, rfl, by omega, HCN, HB9.out⟩, by simp [intOf]; omega⟩
        have y3 : decide ((p.y : Int) ≤ (Y : Int)) = true := decide_eq_true (by omega)
        have y7 : decide (p.y ≤ Y) = true := decide_eq_true b3
        have b4 : ¬ Y < YM := fun e => hno ⟨b1, b2, b3, e⟩
        have y4 : decide ((Y : Int) < (YM : Int)) = false := decide_eq_false (by omega)
        have y8 : decide (Y < YM) = false := decide_eq_false b4
        go_wp2_with fail
        exact ⟨⟨k + 1, c, by omega, by go_num, rfl, by omega, HCN, HB9.out⟩, by simp [intOf]; omega⟩
    · obtain rfl : k = PS.length := by omega
      have dk : decide ((PS.length : Int) < (PS.length : Int)) = false := decide_eq_false (by omega)
      have hcc := HCK.out
      rw [List.take_length, HC1.out] at hcc
      have HQ := Lib.hid (HB2.out.trans (hbr.mono HB2.out.size))
      have hqi : (Q : Int) < (n : Int) := by omega
      obtain ⟨v, hv⟩ : ∃ v, px L Q = v := ⟨_, rfl⟩
      rw [hv] at hcc q0
      clear hbr HCK hv
      by_cases hvg : v = g
      · rw [if_pos hvg] at hcc
        subst hcc
        have z1 : decide (v = g) = true := decide_eq_true hvg
        have z2 : (v != g) = false := by simp [hvg]
        have z3 : (v == g) = true := by simp [hvg]
        go_wp2_with fail
        go_ret
        exact ⟨rfl, HQ.out⟩
      · rw [if_neg hvg] at hcc
        subst hcc
        have z1 : decide (v = g) = false := decide_eq_false hvg
        have z2 : (v != g) = true := by simp [hvg]
        have z3 : (v == g) = false := by simp [hvg]
        go_wp2_with fail
        go_ret
        exact ⟨rfl, HQ.out⟩

set_option maxRecDepth 100000 in
theorem lifted (os : Os) (started : os.Started) (H : Type) (enc : TypeId × Value → H) :
    ReturnsInHanded {} Try.checked os 7 .any (Rows.rreCoversSpec.pre6 enc Try.prog Try.f7 Rows.rreCoversRow.domain false) (Rows.rreCoversSpec.post enc Try.prog Try.f7 false true false false) := by
  refine returnsInHanded_of_change (C := Try.checked) own started (by kernel_rfl) Try.func7
    (ChangeSpec.witness6 (enc := enc) (C := Try.checked) false ⟨#[], #[.int .i64 0, .int .i64 0, .slice none 0 0, .int .i64 0, .int .i64 0, .int .i64 0], []⟩ 8 (by kernel_rfl) (by kernel_rfl) (by kernel_rfl) (by kernel_rfl)) ?_
  intro W base args ds gs before hval0 hW hcnd _
  have hval : ∀ (j : Nat) t v, Try.f7.params[j]? = some t → args[j]? = some v → Value.okWide Try.prog W .any base t v := hval0
  have hW' := hW
  obtain ⟨p, q, hA0, hV, rfl, hfz, hnd⟩ := hW
  have hA : DataW.TrodAll enc Try.prog W 0 (fun _ => true) true Try.f7.params.toList args.toList ds p := hA0
  rw [Try.params7] at hA hval
  obtain ⟨v0, vs0, d0, ds0, p0, q0, hargs, rfl, rfl, h0, r0⟩ := trodAll_cons hA
  obtain ⟨v1, vs1, d1, ds1, p1, q1, rfl, rfl, rfl, h1, r1⟩ := trodAll_cons r0
  obtain ⟨v2, vs2, d2, ds2, p2, q2, rfl, rfl, rfl, h2, r2⟩ := trodAll_cons r1
  obtain ⟨v3, vs3, d3, ds3, p3, q3, rfl, rfl, rfl, h3, r3⟩ := trodAll_cons r2
  obtain ⟨v4, vs4, d4, ds4, p4, q4, rfl, rfl, rfl, h4, r4⟩ := trodAll_cons r3
  obtain ⟨v5, vs5, d5, ds5, p5, q5, rfl, rfl, rfl, h5, r5⟩ := trodAll_cons r4
  obtain ⟨rfl, rfl, rfl⟩ := trodAll_nil r5
  obtain rfl : args = #[v0, v1, v2, v3, v4, v5] := by cases args; simp_all
  obtain ⟨rfl, rfl⟩ := trodVars_none hV
  have k0 := h0
  have lt0 : ∀ x ∈ p0, x.block < W.heap.size := by obtain ⟨m, hm⟩ := k0; exact DataW.trod_lt m _ _ _ hm
  obtain ⟨a0, rfl, rfl, rfl, w0⟩ := open_int Try.underlying3 (hval 0 3 v0 rfl rfl) h0
  have k1 := h1
  have lt1 : ∀ x ∈ p1, x.block < W.heap.size := by obtain ⟨m, hm⟩ := k1; exact DataW.trod_lt m _ _ _ hm
  obtain ⟨a1, rfl, rfl, rfl, w1⟩ := open_int Try.underlying3 (hval 1 3 v1 rfl rfl) h1
  have k2 := h2
  have lt2 : ∀ x ∈ p2, x.block < W.heap.size := by obtain ⟨m, hm⟩ := k2; exact DataW.trod_lt m _ _ _ hm
  obtain ⟨a2, len2, cap2, rfl⟩ := okWide_slice Try.underlying22 (hval 2 22 v2 rfl rfl)
  obtain ⟨A2, w2⟩ := ints_si h2
  have k3 := h3
  have lt3 : ∀ x ∈ p3, x.block < W.heap.size := by obtain ⟨m, hm⟩ := k3; exact DataW.trod_lt m _ _ _ hm
  obtain ⟨a3, rfl, rfl, rfl, w3⟩ := open_int Try.underlying3 (hval 3 3 v3 rfl rfl) h3
  have k4 := h4
  have lt4 : ∀ x ∈ p4, x.block < W.heap.size := by obtain ⟨m, hm⟩ := k4; exact DataW.trod_lt m _ _ _ hm
  obtain ⟨a4, rfl, rfl, rfl, w4⟩ := open_int Try.underlying3 (hval 4 3 v4 rfl rfl) h4
  have k5 := h5
  have lt5 : ∀ x ∈ p5, x.block < W.heap.size := by obtain ⟨m, hm⟩ := k5; exact DataW.trod_lt m _ _ _ hm
  obtain ⟨a5, rfl, rfl, rfl, w5⟩ := open_int Try.underlying3 (hval 5 3 v5 rfl rfl) h5
  clear hA0 hval0
  refine (walk says a0 a1 a2 len2 cap2 A2 a3 a4 a5 W w0 w1 w2 w3 w4 w5).mono fun e W' ⟨he, bel⟩ => ?_
  subst he
  exact ⟨_, rfl, _, _, _, [], _, [], hW', trodAll_mk1 (shut_bool Try.underlying4 _), (trodAll_cons_mk (Below.trod laidOut (by kernel_rfl) (of_decide_eq_true (by kernel_rfl)) k0 bel lt0) (trodAll_cons_mk (Below.trod laidOut (by kernel_rfl) (of_decide_eq_true (by kernel_rfl)) k1 bel lt1) (trodAll_cons_mk (Below.trod laidOut (by kernel_rfl) (of_decide_eq_true (by kernel_rfl)) k2 bel lt2) (trodAll_cons_mk (Below.trod laidOut (by kernel_rfl) (of_decide_eq_true (by kernel_rfl)) k3 bel lt3) (trodAll_cons_mk (Below.trod laidOut (by kernel_rfl) (of_decide_eq_true (by kernel_rfl)) k4 bel lt4) (trodAll_cons_mk (Below.trod laidOut (by kernel_rfl) (of_decide_eq_true (by kernel_rfl)) k5 bel lt5) trodAll_mk0)))))), rfl, bel.frame _, fun h => by cases h⟩

theorem over : Rows.rreCoversRow.holds Try.pinned (OpenSpec.ofChange Rows.rreCoversSpec) :=
  OpenClaim.holds_of_wide 7 Try.f7 rfl rfl rfl rfl rfl rfl rfl ⟨rfl, rfl, rfl, rfl, rfl⟩ rfl rfl rfl rfl rfl (by kernel_rfl) Try.func7 (by kernel_rfl)
    (of_decide_eq_true (by kernel_rfl)) (by unfold Func.isWrapper; first | (rw [if_pos (by decide +kernel)]; kernel_rfl) | (rw [if_neg (by decide +kernel)]; exact ⟨rfl, rfl⟩))
    (fun os started H enc _ => lifted os started H enc)

theorem proved : Rows.RreCoversSaid := over
end Go.Proofs.Ytmjjbapahgejmaa.rreCovers
