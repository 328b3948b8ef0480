/-
  PlainRaws (layer 16): colours' values, and their bytes, and the colours of any bytes, are just what the document says.
-/
import Derived.Test.YtbdlmcpdplmdnaaRows
import Derived.Test.YtbdlmcpdplmdnaaPlnWorks
import Derived.WalkKit
import Derived.ProofKit
import Derived.OpenShut
import Derived.ShutString
import Derived.ChangeOld
import Derived.Below
import Derived.Lib.SmallJoins
import Derived.Deep.Slices
namespace Go.Proofs.Ytbdlmcpdplmdnaa.plainRaws
open Go.Proofs.Ytbdlmcpdplmdnaa.Pln
open Go.ChangeShapes Go.WideShapes Go.ChangeAt Go.RowKit
open Go.ChangeMaps (open_string shut_string)
set_option linter.unusedVariables false

theorem own : ownKnob Try.prog.godebug = none := by kernel_rfl
theorem laidOut : laidOutB Try.prog = true := by kernel_rfl

open Go.Proofs.Ytbdlmcpdplmdnaa.Fmt Go.Proofs.Ytbdlmcpdplmdnaa.RowG Go.Proofs.Ytbdlmcpdplmdnaa.RegVal
set_option maxRecDepth 100000
theorem raw_none {f : Fm} (h : f.ok = false) (L : List Int) : rawB f L = [] := by
  apply List.length_eq_zero_iff.1
  rw [rawB_len]
  unfold Fm.size
  rw [h]
  simp
theorem raw_same {f : Fm} (h : f.ok = true) (L : List Int) : rawB f L = rawL f L := by
  unfold rawB rawL
  congr 1
  funext c
  unfold putB pixL Fm.put Fm.valI ordL Fm.sz putL
  rw [if_pos h, if_pos h]
theorem val_same {f : Fm} (h : f.ok = true) (L : List Int) : L.map f.valI = L.map (fun c => ((f.val c : Nat) : Int)) := by
  congr 1
  funext c
  unfold Fm.valI
  rw [if_pos h]
/-- What the regions' operations leave. -/
def prA (F x y N E : Value) (b : Bool) : Nat → Value
  | 0 => .bool true
  | 1 => .bool false
  | 2 => .bool false
  | 3 => N
  | 4 => N
  | 5 => .bool false
  | 6 => .bool false
  | 7 => .bool false
  | 8 => E
  | 9 => E
  | 10 => .bool false
  | 11 => .bool false
  | 12 => .bool false
  | 13 => F
  | 14 => x
  | 15 => y
  | 16 => .bool b
  | 17 => F
  | 18 => x
  | 19 => y
  | 20 => .bool b
  | 21 => .bool false
  | 22 => .bool false
  | _ => undef
def prB (F p : Value) : Nat → Option Value
  | 0 => some F
  | 1 => some p
  | 3 => some F
  | 4 => some p
  | 6 => some (.bool true)
  | 7 => some (.bool true)
  | _ => none
def prR (l : List Int) (i : Nat) (v : Value) (w : World) : Prop := i = 2 ∨ i = 5 → SW w v l
theorem prR_below {l : List Int} {i : Nat} {v : Value} {w w' : World} (h : prR l i v w) (k : Below w.heap.size w w') : prR l i v w' := fun e => (h e).below k
def prC (F p s : Value) : Nat → Value
  | 0 => .bool true
  | 1 => .bool true
  | 2 => .bool true
  | 3 => .bool true
  | 4 => .bool true
  | 5 => F
  | 6 => p
  | 7 => s
  | 8 => F
  | 9 => p
  | 10 => s
  | 11 => .bool true
  | 12 => .bool true
  | 13 => .bool true
  | _ => undef
set_option maxHeartbeats 8000000 in
theorem walk (f : Fm) (a : Option Addr) (n cap : Nat) (L : List Int) (x y : Int) (s : ByteArray) (W : World) (hf : f.Wf) (hL : SW W (.slice a n cap) L ∧ L.length ≤ maxLen ∧ L.length = n ∧ (∀ x ∈ L, (Lit.int .i64 x).wf = true) ∧ Room (.slice a n cap)) (hx : (Lit.int .i64 x).wf = true) (hy : (Lit.int .i64 y).wf = true) (hs : s.size ≤ maxLen) :
    Calls Try.prog 3 #[f.v, .slice a n cap, .int .i64 x, .int .i64 y, .string s] W fun e w' => e = .returned (.bool true) ∧ Below W.heap.size W w' := by
  unfold maxLen at hs
  obtain ⟨hsw, hmx, hn, hwf, _⟩ := hL
  unfold maxLen at hmx
  have V0 := Lib.hid works_any
  have hv : f.v = .agg #[.int .i64 f.B, .int .i64 f.D, .bool f.big, .bool f.tr, .int .i64 f.rm, .int .i64 f.gm, .int .i64 f.bm, .int .i64 f.rs, .int .i64 f.gs, .int .i64 f.bs] := rfl
  have bel := (Below.refl W.heap.size W).alloc (Nat.le_refl _) (.cells #[.int .i64 f.B, .int .i64 f.D, .bool f.big, .bool f.tr, .int .i64 f.rm, .int .i64 f.gm, .int .i64 f.bm, .int .i64 f.rs, .int .i64 f.gs, .int .i64 f.bs] 23)
  have z0 := Pln.alloc_size W (.cells #[.int .i64 f.B, .int .i64 f.D, .bool f.big, .bool f.tr, .int .i64 f.rm, .int .i64 f.gm, .int .i64 f.bm, .int .i64 f.rs, .int .i64 f.gs, .int .i64 f.bs] 23)
  have AT := FmAt.box f W 23
  obtain ⟨n0, hn0⟩ : ∃ n0, W.heap.size = n0 := ⟨_, rfl⟩
  rw [hn0] at z0 AT bel
  obtain ⟨w0, hw0⟩ : ∃ w0, W.alloc (.cells #[.int .i64 f.B, .int .i64 f.D, .bool f.big, .bool f.tr, .int .i64 f.rm, .int .i64 f.gm, .int .i64 f.bm, .int .i64 f.rs, .int .i64 f.gs, .int .i64 f.bs] 23) = w0 := ⟨_, rfl⟩
  rw [hw0] at bel z0 AT
  have HA := Lib.hid (fun W' (h : Below w0.heap.size w0 W') => AT.below h (by omega))
  have HS := Lib.hid (fun W' (h : Below w0.heap.size w0 W') => hsw.below (by rw [hn0]; exact bel.trans (h.mono (by omega))))
  have HB := Lib.hid (fun W' (h : Below w0.heap.size w0 W') => (bel.trans (h.mono (by omega)) : Below n0 W W'))
  rw [hn0]
  by_cases hg : 400 < n ∨ 1600 < s.size
  · have early : ∀ (w1 : World), Below w0.heap.size w0 w1 → True := fun _ _ => trivial
    rw [hv]
    by_cases h1 : 400 < n
    · have g1 : decide ((400 : Int) < n) = true := decide_eq_true (by omega)
      have g2 : decide (400 < n) = true := decide_eq_true h1
      go_enter Try.func3, Try.ntmps3
      go_wp2_with fail
      refine (V0.out _).mono ?_
      rintro r w1 ⟨rfl, b1⟩
      have B1 := Lib.hid (HB.out _ b1)
      clear b1
      go_wp2_with fail
      go_ret
      exact ⟨rfl, B1.out⟩
    · have h2 : 1600 < s.size := by omega
      have g1 : decide ((400 : Int) < n) = false := decide_eq_false (by omega)
      have g2 : decide (400 < n) = false := decide_eq_false h1
      have g3 : decide ((1600 : Int) < s.size) = true := decide_eq_true (by omega)
      have g4 : decide (1600 < s.size) = true := decide_eq_true h2
      go_enter Try.func3, Try.ntmps3
      go_wp2_with fail
      refine (V0.out _).mono ?_
      rintro r w1 ⟨rfl, b1⟩
      have B1 := Lib.hid (HB.out _ b1)
      clear b1
      go_wp2_with fail
      go_ret
      exact ⟨rfl, B1.out⟩
  have g1 : decide ((400 : Int) < n) = false := decide_eq_false (by omega)
  have g2 : decide (400 < n) = false := decide_eq_false (by omega)
  have g3 : decide ((1600 : Int) < s.size) = false := decide_eq_false (by omega)
  have g4 : decide (1600 < s.size) = false := decide_eq_false (by omega)
  have V1 := Lib.hid (fun w => rawOf_any f hf x y hx hy s (by omega) w)
  have V2 := Lib.hid (fun w => refRawOf_any f hf x y s (by omega) w)
  have hPl : (rawP f x y s).length ≤ 1000000000 := by
    unfold rawP
    split
    · rw [gen_length]
      rename_i h0
      unfold rawE at h0
      split at h0
      · split at h0
        · omega
        · rename_i hfit _
          have hok : f.ok = true := by
            unfold fitsB at hfit
            simp only [Bool.and_eq_true] at hfit
            exact hfit.1.1.1.1
          have h1 := ((size_le4 f).2.1 hok).1
          have h2 : (x * y).toNat * 1 ≤ (x * y).toNat * f.size := Nat.mul_le_mul_left _ h1
          omega
      · omega
    · simp
  have V3 := Lib.hid (fun u v w h1 h2 => refRow_any u v (rawP f x y s) (rawP f x y s) w h1 h2 hPl hPl)
  have V4 := Lib.hid (fun w => fits_any f hf x y w)
  have V5 := Lib.hid (fun w => refFits_any f hf x y w)
  have V6 := Lib.hid (fun w => valid_any f hf w)
  have V7 := Lib.hid (fun w h => raw_any f hf (.slice a n cap) L w h hwf (by omega))
  have V8 := Lib.hid (fun w h => values_any f hf (.slice a n cap) L w h hwf (by omega))
  rw [show decide (rawP f x y s = rawP f x y s) = true from decide_eq_true rfl] at V3
  have hRN := Lib.hid (fun h => raw_none (f := f) h L)
  have hRS := Lib.hid (fun h => raw_same (f := f) h L)
  have hVS := Lib.hid (fun h => val_same (f := f) h L)
  have V9 := Lib.hid (fun h w hw => refValues_any f h (.slice a n cap) L w hw (by omega))
  have V10 := Lib.hid (fun h w hw => refRaw_any f h (.slice a n cap) L w hw (by omega))
  have hll := hn
  rw [hv] at V1 V2 V4 V5 V6 V7 V8 V9 V10 ⊢
  generalize rawP f x y s = P at *
  generalize rawN f x y s = RN at *
  generalize rawE f x y s = RE at *
  generalize fitsB f x y = FB at *
  generalize rawB f L = RBy at *
  generalize rawL f L = RLy at *
  obtain ⟨VL, hVL⟩ : ∃ VL, L.map f.valI = VL := ⟨_, rfl⟩
  obtain ⟨VN, hVN⟩ : ∃ VN, L.map (fun c => ((f.val c : Nat) : Int)) = VN := ⟨_, rfl⟩
  rw [hVL] at V8 hVS
  rw [hVN] at V9 hVS
  have hVl : VL.length ≤ 1000000000 := by rw [← hVL, List.length_map]; omega
  generalize f.ok = OK at *
  have V11 := Lib.hid (fun u v w h1 h2 => refRow_any u v VL VL w h1 h2 hVl hVl)
  rw [show decide (VL = VL) = true from decide_eq_true rfl] at V11
  clear hf hx hy hv AT bel hsw hwf hPl hVl hVL hVN hll
  obtain ⟨B, D, big, tr, rm, gm, bm, rs, gs, bs⟩ := f
  simp only at *
  have q0 := Below.refl w0.heap.size w0
  go_enter Try.func3, Try.ntmps3
  go_wp2_with fail
  refine (V0.out _).mono ?_
  rintro r w1 ⟨rfl, b1⟩
  have q1 := q0.trans (b1.mono q0.size)
  clear b1 q0 V0
  obtain ⟨d0, d1, d2, d3, d4, d5, d6, d7, d8, d9⟩ := HA.out _ q1
  dsimp only at d0 d1 d2 d3 d4 d5 d6 d7 d8 d9
  have Q1 := Lib.hid q1
  clear q1
  go_wp2_with fail
  refine (V1.out _).mono ?_
  rintro r w2 ⟨u, rfl, h1, b2⟩
  have Q2 := Lib.hid (Q1.out.trans (b2.mono Q1.out.size))
  obtain ⟨pu, cu, hpu⟩ := RowAt.shape h1
  subst hpu
  have S2 := Lib.hid (IntsAt.si h1).sw
  clear b2 h1 Q1 V1 d0 d1 d2 d3 d4 d5 d6 d7 d8 d9
  obtain ⟨d0, d1, d2, d3, d4, d5, d6, d7, d8, d9⟩ := HA.out _ Q2.out
  dsimp only at d0 d1 d2 d3 d4 d5 d6 d7 d8 d9
  obtain ⟨k, hk⟩ : ∃ k, P.length = k := ⟨_, rfl⟩
  rw [hk] at S2 ⊢
  go_wp2_with fail
  refine (V2.out _).mono ?_
  rintro r w3 ⟨u, rfl, h1, b3⟩
  have Q3 := Lib.hid (Q2.out.trans (b3.mono Q2.out.size))
  have S3 := Lib.hid (S2.out.below b3)
  obtain ⟨pv, cv, hpv⟩ := RowAt.shape h1
  rw [hk] at hpv
  subst hpv
  have S4 := Lib.hid (IntsAt.si h1).sw
  clear b3 h1 Q2 S2 V2 d0 d1 d2 d3 d4 d5 d6 d7 d8 d9
  go_wp2_with fail
  refine (V3.out _ _ _ S3.out S4.out).mono ?_
  rintro r w4 ⟨rfl, q, rfl⟩
  have Q4 := Lib.hid (Pln.below_q Q3.out q)
  clear Q3 S3 S4 V3
  generalize w3.drewN q = w5 at *
  go_wp2_with fail
  refine region_all (by kernel_rfl) (prA (.agg #[.int .i64 B, .int .i64 D, .bool big, .bool tr, .int .i64 rm, .int .i64 gm, .int .i64 bm, .int .i64 rs, .int .i64 gs, .int .i64 bs]) (.int .i64 x) (.int .i64 y) (.int .i64 RN) (.int .i64 RE) FB) (fun W' => Below w0.heap.size w0 W') [2, 3, 5, 13, 14, 16, 17, 18] [none, none, none, none, none, none, none, none, none, none, none, none, none, none, none, none, none, none, none, none, none, none, none, none, none, none, none, none, none, none, none, none, none, none, none, none, none, none, none, none, none, none, none, none, none, none, none, none, none, none, none, none, none, some 0, some 1, some 2, some 3, some 4, some 5, some 6, some 7, some 8, some 9, some 10, some 11, some 12, some 13, some 14, some 15, some 16, some 17, some 18, some 19, some 20, some 21, some 22, none, none, none, none, none, none, none, none, none, none, none, none, none, none, none, none, none, none, none, none, none, none, none, none, none, none, none, none, none, none] (by kernel_rfl) (by kernel_rfl) (by rfl) (by kernel_rfl) (by kernel_rfl) (by kernel_rfl) (Q4.out.drew) ⟨?_, ?_, ?_, ?_, ?_, ?_, ?_, ?_, ?_, ?_, ?_, ?_, ?_, ?_, ?_, ?_, ?_, ?_, ?_, ?_, ?_, ?_, ?_, trivial⟩ ?_
  case refine_24 =>
    intro W5 hS
    have Q5 := Lib.hid hS
    obtain ⟨d0, d1, d2, d3, d4, d5, d6, d7, d8, d9⟩ := HA.out _ hS
    dsimp only at d0 d1 d2 d3 d4 d5 d6 d7 d8 d9
    clear hS
    simp only [zipF, prA]
    clear V4 V5 Q4
    go_wp2_with fail
    refine (V6.out _).mono ?_
    rintro r w6 ⟨rfl, b6⟩
    have q6 := Q5.out.trans (b6.mono Q5.out.size)
    have Q6 := Lib.hid q6
    clear b6 V6 Q5 d0 d1 d2 d3 d4 d5 d6 d7 d8 d9
    obtain ⟨d0, d1, d2, d3, d4, d5, d6, d7, d8, d9⟩ := HA.out _ q6
    dsimp only at d0 d1 d2 d3 d4 d5 d6 d7 d8 d9
    have S6 := Lib.hid (HS.out _ q6)
    clear q6
    cases OK with
    | false =>
      have hr0 := hRN.out rfl
      rw [hr0] at V7
      clear hRN hRS hVS V8 V9 V10 V11 hr0
      go_wp2_with fail
      refine (V7.out _ S6.out).mono ?_
      rintro r w7 ⟨rfl, b7⟩
      have B7 := Lib.hid (HB.out _ (Q6.out.trans (b7.mono Q6.out.size)))
      clear b7 d0 d1 d2 d3 d4 d5 d6 d7 d8 d9
      go_wp2_with fail
      go_ret
      exact ⟨rfl, B7.out⟩
    | true =>
      have hr0 := hRS.out rfl
      have hv0 := hVS.out rfl
      subst hr0 hv0
      have V9b := Lib.hid (fun w hw => V9.out rfl w hw)
      have V10b := Lib.hid (fun w hw => V10.out rfl w hw)
      clear V9 V10
      clear hRN hRS hVS d0 d1 d2 d3 d4 d5 d6 d7 d8 d9
      go_wp2_with fail
      refine region_preds (by kernel_rfl) (prB (.agg #[.int .i64 B, .int .i64 D, .bool big, .bool tr, .int .i64 rm, .int .i64 gm, .int .i64 bm, .int .i64 rs, .int .i64 gs, .int .i64 bs]) (.slice a n cap)) (prR VL) (fun _ W' => Below w0.heap.size w0 W') [1, 5] [none, none, none, none, none, none, none, none, none, none, none, none, none, none, none, none, none, none, none, some 7, none, none, none, none, none, none, none, none, none, none, none, none, none, none, none, none, none, none, none, none, none, none, none, none, none, none, none, none, none, none, none, none, none, none, none, none, none, none, none, none, none, none, none, none, none, none, none, none, none, none, none, none, none, none, none, none, none, none, none, none, none, none, none, none, none, none, some 0, some 1, some 2, some 3, some 4, some 5, some 6, none, none, none, none, none, none, none, none, none, none, none, none, none] (by kernel_rfl) (by kernel_rfl) (by rfl) (by kernel_rfl) (by kernel_rfl) (by kernel_rfl) (Q6.out.drew) ⟨?_, ?_, ?_, ?_, ?_, ?_, ?_, ?_, trivial⟩ ?_
      case refine_9 =>
        intro vs ℓ W7 hl hS hR
        have Q7 := Lib.hid hS
        clear hR hl hS V8 V9b V11 S6 Q6
        simp only [zipF, prB, Option.getD_some, Option.getD_none]
        generalize vs 2 = u2 at *
        generalize vs 5 = u5 at *
        go_wp2_with fail
        refine region_all (by kernel_rfl) (prC (.agg #[.int .i64 B, .int .i64 D, .bool big, .bool tr, .int .i64 rm, .int .i64 gm, .int .i64 bm, .int .i64 rs, .int .i64 gs, .int .i64 bs]) (.slice a n cap) (.string ⟨RBy.toArray⟩)) (fun W' => Below w0.heap.size w0 W') [1, 5, 11, 19] [none, none, none, none, none, none, none, none, none, none, some 13, none, none, none, none, none, none, none, none, none, none, none, none, none, none, none, none, none, none, none, none, none, none, none, none, none, none, none, none, none, none, none, none, none, none, none, none, none, none, none, none, none, none, none, none, none, none, none, none, none, none, none, none, none, none, none, none, none, none, none, none, none, none, none, none, none, none, none, none, none, none, none, none, none, none, none, none, none, none, none, none, none, none, some 0, some 1, some 2, some 3, some 4, some 5, some 6, some 7, some 8, some 9, some 10, some 11, some 12] (by kernel_rfl) (by kernel_rfl) (by rfl) (by kernel_rfl) (by kernel_rfl) (by kernel_rfl) (Q7.out.drew) ⟨?_, ?_, ?_, ?_, ?_, ?_, ?_, ?_, ?_, ?_, ?_, ?_, ?_, ?_, trivial⟩ ?_
        case refine_15 =>
          intro W8 hS
          have B8 := Lib.hid (HB.out _ hS)
          clear hS
          simp only [zipF, prC]
          go_wp2_with fail
          go_ret
          exact ⟨rfl, B8.out⟩
        all_goals
          intro ℓ act Wd hl hS hw hr hd
          obtain ⟨d0, d1, d2, d3, d4, d5, d6, d7, d8, d9⟩ := HA.out Wd hS
          dsimp only at d0 d1 d2 d3 d4 d5 d6 d7 d8 d9
          have hsw := HS.out Wd hS
          clear hw
          simp [readFacts, depFacts, dstOf, Region.binds, prC] at hr hd
          refine ⟨by first | exact wanted_none (by rfl) | exact wanted_guard (by rfl) (by rfl) (by simp only [*]), fun K hK => ?_⟩
          go_simp
          first
            | exact hK _ hS
            | (with_reducible refine (V7.out _ hsw).mono ?_
               rintro r w' ⟨rfl, b⟩
               exact hK _ (hS.trans (b.mono hS.size)))
            | (with_reducible refine (V10b.out _ hsw).mono ?_
               rintro r w' ⟨rfl, b⟩
               exact hK _ (hS.trans (b.mono hS.size)))
      case refine_3 =>
        intro ℓ act W9 hl hS hw hx hr hd
        clear hw hx
        simp [readFacts, depFactsP, dstOf, Region.binds, prB] at hr hd
        refine ⟨wanted_none (by rfl), fun K hK => ?_⟩
        have hsw := HS.out W9 hS
        go_simp
        refine (V8.out _ hsw).mono ?_
        rintro r w' ⟨u, rfl, h1, b⟩
        exact hK _ _ (show prR VL 2 u w' from fun _ => (IntsAt.si h1).sw) (hS.trans (b.mono hS.size)) (fun _ _ _ _ h => prR_below h b)
      case refine_6 =>
        intro ℓ act W9 hl hS hw hx hr hd
        clear hw hx
        simp [readFacts, depFactsP, dstOf, Region.binds, prB] at hr hd
        refine ⟨wanted_none (by rfl), fun K hK => ?_⟩
        have hsw := HS.out W9 hS
        go_simp
        refine (V9b.out _ hsw).mono ?_
        rintro r w' ⟨u, rfl, h1, b⟩
        exact hK _ _ (show prR VL 5 u w' from fun _ => (IntsAt.si h1).sw) (hS.trans (b.mono hS.size)) (fun _ _ _ _ h => prR_below h b)
      case refine_7 =>
        intro ℓ act W9 hl hS hw hx hr hd
        clear hw hx
        simp [readFacts, depFactsP, dstOf, Region.binds, prB] at hr hd
        refine ⟨wanted_none (by rfl), fun K hK => ?_⟩
        obtain ⟨⟨v2, e2, y2⟩, v5, e5, y5⟩ := hd
        go_simp
        refine (V11.out _ _ _ (y2 (.inl rfl)) (y5 (.inr rfl))).mono ?_
        rintro r w' ⟨rfl, q, rfl⟩
        have b : Below W9.heap.size W9 (W9.drewN q) := Pln.below_q (Below.refl _ _) q
        exact hK _ _ rfl (hS.trans (b.mono hS.size)) (fun _ _ _ _ h => prR_below h b)
      all_goals
        intro ℓ act W9 hl hS hw hx hr hd
        clear hw hx
        simp [readFacts, depFactsP, dstOf, Region.binds, prB] at hr hd
        obtain ⟨d0, d1, d2, d3, d4, d5, d6, d7, d8, d9⟩ := HA.out W9 hS
        dsimp only at d0 d1 d2 d3 d4 d5 d6 d7 d8 d9
        refine ⟨wanted_none (by rfl), fun K hK => ?_⟩
        go_simp
        exact hK _ _ rfl hS (fun _ _ _ _ h => h)
  all_goals
    intro ℓ act Wd hl hS hw hr hd
    obtain ⟨d0, d1, d2, d3, d4, d5, d6, d7, d8, d9⟩ := HA.out Wd hS
    dsimp only at d0 d1 d2 d3 d4 d5 d6 d7 d8 d9
    clear hw
    simp [readFacts, depFacts, dstOf, Region.binds, prA] at hr hd
    refine ⟨by first | exact wanted_none (by rfl) | exact wanted_guard (by rfl) (by rfl) (by simp only [*]), fun K hK => ?_⟩
    go_simp
    first
      | exact hK _ hS
      | (with_reducible refine (V4.out _).mono ?_
         rintro r w' ⟨rfl, b⟩
         exact hK _ (hS.trans (b.mono hS.size)))
      | (with_reducible refine (V5.out _).mono ?_
         rintro r w' ⟨rfl, b⟩
         exact hK _ (hS.trans (b.mono hS.size)))

set_option maxRecDepth 100000 in
theorem lifted (os : Os) (started : os.Started) (H : Type) (enc : TypeId × Value → H) :
    ReturnsInHanded {} Try.checked os 3 .any (Rows.plainRawsSpec.pre6 enc Try.prog Try.f3 Rows.plainRawsRow.domain false) (Rows.plainRawsSpec.post enc Try.prog Try.f3 false true false false) := by
  refine returnsInHanded_of_change (C := Try.checked) own started (by kernel_rfl) Try.func3
    (ChangeSpec.witness6 (enc := enc) (C := Try.checked) false ⟨#[], #[.agg #[.int .i64 0, .int .i64 0, .bool false, .bool false, .int .i64 0, .int .i64 0, .int .i64 0, .int .i64 0, .int .i64 0, .int .i64 0], .slice none 0 0, .int .i64 0, .int .i64 0, .string ByteArray.empty], []⟩ 8 (by kernel_rfl) (by kernel_rfl) (by kernel_rfl) (by kernel_rfl)) ?_
  intro W base args ds gs before hval0 hW hcnd _
  have hval : ∀ (j : Nat) t v, Try.f3.params[j]? = some t → args[j]? = some v → Value.okWide Try.prog W .any base t v := hval0
  have hW' := hW
  obtain ⟨p, q, hA0, hV, rfl, hfz, hnd⟩ := hW
  have hA : DataW.TrodAll enc Try.prog W 0 (fun _ => true) true Try.f3.params.toList args.toList ds p := hA0
  rw [Try.params3] at hA hval
  obtain ⟨v0, vs0, d0, ds0, p0, q0, hargs, rfl, rfl, h0, r0⟩ := trodAll_cons hA
  obtain ⟨v1, vs1, d1, ds1, p1, q1, rfl, rfl, rfl, h1, r1⟩ := trodAll_cons r0
  obtain ⟨v2, vs2, d2, ds2, p2, q2, rfl, rfl, rfl, h2, r2⟩ := trodAll_cons r1
  obtain ⟨v3, vs3, d3, ds3, p3, q3, rfl, rfl, rfl, h3, r3⟩ := trodAll_cons r2
  obtain ⟨v4, vs4, d4, ds4, p4, q4, rfl, rfl, rfl, h4, r4⟩ := trodAll_cons r3
  obtain ⟨rfl, rfl, rfl⟩ := trodAll_nil r4
  obtain rfl : args = #[v0, v1, v2, v3, v4] := by cases args; simp_all
  obtain ⟨rfl, rfl⟩ := trodVars_none hV
  have k0 := h0
  have lt0 : ∀ x ∈ p0, x.block < W.heap.size := by obtain ⟨m, hm⟩ := k0; exact DataW.trod_lt m _ _ _ hm
  obtain ⟨a0, rfl, w0⟩ := fmt_see (hval 0 23 v0 rfl rfl) h0
  have k1 := h1
  have lt1 : ∀ x ∈ p1, x.block < W.heap.size := by obtain ⟨m, hm⟩ := k1; exact DataW.trod_lt m _ _ _ hm
  obtain ⟨a1, len1, cap1, rfl⟩ := okWide_slice Try.underlying24 (hval 1 24 v1 rfl rfl)
  obtain ⟨A1, w1⟩ := ints_si h1
  have k2 := h2
  have lt2 : ∀ x ∈ p2, x.block < W.heap.size := by obtain ⟨m, hm⟩ := k2; exact DataW.trod_lt m _ _ _ hm
  obtain ⟨a2, rfl, rfl, rfl, w2⟩ := open_int Try.underlying3 (hval 2 3 v2 rfl rfl) h2
  have k3 := h3
  have lt3 : ∀ x ∈ p3, x.block < W.heap.size := by obtain ⟨m, hm⟩ := k3; exact DataW.trod_lt m _ _ _ hm
  obtain ⟨a3, rfl, rfl, rfl, w3⟩ := open_int Try.underlying3 (hval 3 3 v3 rfl rfl) h3
  have k4 := h4
  have lt4 : ∀ x ∈ p4, x.block < W.heap.size := by obtain ⟨m, hm⟩ := k4; exact DataW.trod_lt m _ _ _ hm
  obtain ⟨a4, rfl, rfl, rfl, w4⟩ := open_string Try.underlying9 (hval 4 9 v4 rfl rfl) h4
  clear hA0 hval0
  refine (walk a0 a1 len1 cap1 A1 a2 a3 a4 W w0 w1 w2 w3 w4).mono fun e W' ⟨he, bel⟩ => ?_
  subst he
  exact ⟨_, rfl, _, _, _, [], _, [], hW', trodAll_mk1 (shut_bool Try.underlying4 _), (trodAll_cons_mk (Below.trod laidOut (by kernel_rfl) (of_decide_eq_true (by kernel_rfl)) k0 bel lt0) (trodAll_cons_mk (Below.trod laidOut (by kernel_rfl) (of_decide_eq_true (by kernel_rfl)) k1 bel lt1) (trodAll_cons_mk (Below.trod laidOut (by kernel_rfl) (of_decide_eq_true (by kernel_rfl)) k2 bel lt2) (trodAll_cons_mk (Below.trod laidOut (by kernel_rfl) (of_decide_eq_true (by kernel_rfl)) k3 bel lt3) (trodAll_cons_mk (Below.trod laidOut (by kernel_rfl) (of_decide_eq_true (by kernel_rfl)) k4 bel lt4) trodAll_mk0))))), rfl, bel.frame _, fun h => by cases h⟩

theorem over : Rows.plainRawsRow.holds Try.pinned (OpenSpec.ofChange Rows.plainRawsSpec) :=
  OpenClaim.holds_of_wide 3 Try.f3 rfl rfl rfl rfl rfl rfl rfl ⟨rfl, rfl, rfl, rfl, rfl⟩ rfl rfl rfl rfl rfl (by kernel_rfl) Try.func3 (by kernel_rfl)
    (of_decide_eq_true (by kernel_rfl)) (by unfold Func.isWrapper; first | (rw [if_pos (by decide +kernel)]; kernel_rfl) | (rw [if_neg (by decide +kernel)]; exact ⟨rfl, rfl⟩))
    (fun os started H enc _ => lifted os started H enc)

theorem proved : Rows.PlainRawsSaid := over
end Go.Proofs.Ytbdlmcpdplmdnaa.plainRaws
