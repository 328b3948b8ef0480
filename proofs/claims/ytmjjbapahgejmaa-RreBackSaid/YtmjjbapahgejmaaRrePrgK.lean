/-
  The program of layer 17 (rre): Decode.
-/
import Derived.Test.YtmjjbapahgejmaaRrePrgJ
namespace Go.Proofs.Ytmjjbapahgejmaa.Rre
open Go.ChangeShapes Go.WideShapes Go.ChangeAt Go.RowKit Lz RowG RegVal Pln
open Go.Proofs.Ytmjjbapahgejmaa.Fmt (Fm FmAt size_any fget_any colour_any)
open Go.Proofs.Ytmjjbapahgejmaa.Oct (CurAt grown_trans grown_drew grown_of_below below_of_grown byS byI byE intV numI numE sizeB valL valL_bd keepE intV_bd int_any err_any new_any at_any)
set_option linter.unusedVariables false
set_option linter.unusedSimpArgs false
set_option maxRecDepth 100000

/-- What the first four bytes tell. -/
theorem head_is (t : ByteArray) : (t.size < 4 → intV t 0 0 4 = 0 ∧ numI t 0 0 4 = 0 ∧ numE t 0 0 4 = 2) ∧ (4 ≤ t.size → intV t 0 0 4 = (headN t : Nat) ∧ numI t 0 0 4 = 4 ∧ numE t 0 0 4 = 0) := by
  have hs : sizeB 4 = true := rfl
  have e1 : intV t 0 0 4 = valL (byS t 0 0 4).data.toList.reverse := by unfold intV; rw [hs]; rfl
  have e2 : numI t 0 0 4 = byI t 0 0 4 := by unfold numI; rw [hs]; rfl
  have e3 : numE t 0 0 4 = byE t 0 0 4 := by unfold numE; rw [hs]; rfl
  rw [e1, e2, e3]
  refine ⟨fun h => ?_, fun h => ?_⟩
  · have hE : byE t 0 0 4 = 2 := by unfold byE; rw [if_pos rfl, if_neg (by decide), if_pos (by omega)]
    have hI : byI t 0 0 4 = 0 := by unfold byI; rw [hE]; rfl
    have hS : byS t 0 0 4 = ⟨#[]⟩ := by unfold byS; rw [hE]; rfl
    rw [hE, hI, hS]
    exact ⟨rfl, rfl, rfl⟩
  · have hE : byE t 0 0 4 = 0 := by unfold byE; rw [if_pos rfl, if_neg (by decide), if_neg (by omega)]
    have hI : byI t 0 0 4 = 4 := by unfold byI; rw [hE]; rfl
    have hS : byS t 0 0 4 = t.extract 0 4 := by unfold byS; rw [if_pos hE]; rfl
    rw [hE, hI, hS]
    refine ⟨?_, rfl, rfl⟩
    unfold headN
    have := valL_bd (t.extract 0 4).data.toList.reverse
    omega
/-- What follows them. -/
theorem ground_at {f : Fm} (hok : f.ok = true) (t : ByteArray) (h4 : 4 ≤ t.size) : (t.size < posN f 0 → byE t 4 0 f.size = 2) ∧ (posN f 0 ≤ t.size → byE t 4 0 f.size = 0 ∧ byI t 4 0 f.size = (posN f 0 : Nat) ∧ f.get (byS t 4 0 f.size) = f.get (t.extract 4 t.size)) := by
  have hz : f.size = (f.B / 8).toNat := if_pos hok
  have hp : posN f 0 = 4 + f.size := by unfold posN; rw [← hz]; omega
  rw [hp]
  refine ⟨fun h => ?_, fun h => ?_⟩
  · unfold byE; rw [if_pos rfl, if_neg (by omega), if_pos (by omega)]
  · have hE : byE t 4 0 f.size = 0 := by unfold byE; rw [if_pos rfl, if_neg (by omega), if_neg (by omega)]
    refine ⟨hE, ?_, ?_⟩
    · unfold byI; rw [if_pos hE]; omega
    · have hS : byS t 4 0 f.size = t.extract 4 (4 + f.size) := by
        unfold byS
        rw [if_pos hE]
        congr 1
      rw [hS]
      exact get_cut h
set_option maxHeartbeats 8000000 in
theorem decode_any (f : Fm) (hf : f.Wf) (a b : Int) (t : ByteArray) (hab : fitsB f a b = true → a * b ≤ 100000) (ht : t.size ≤ 100000) (w : World) (ha : Side a) (hb : Side b) :
    Calls Try.prog 18 #[f.v, .int .i64 a, .int .i64 b, .string t] w fun e w' => ∃ u, e = .returned (.tuple #[u, .int .i64 (decOut f a b t).i, .int .i64 (decOut f a b t).e]) ∧ SI w' u (decOut f a b t).l ∧ Below w.heap.size w w' := by
  have FT := Lib.hid (fun w => fits_any f hf a b w)
  have HO : RowKit.Hid (decOut f a b t = if fitsB f a b then if (decL f a.toNat b.toNat t).e = 0 then ⟨(decL f a.toNat b.toNat t).l.map (fun c => ((f.col c : Nat) : Int)), (decL f a.toNat b.toNat t).i, 0⟩ else ⟨[], 0, (decL f a.toNat b.toNat t).e⟩ else ⟨[], 0, 1⟩) := Lib.hid rfl
  have FP : RowKit.Hid (fitsB f a b = true → _) := Lib.hid (fun h => fits_parts h)
  have HAB := Lib.hid hab
  have AT := FmAt.box f w 37
  have bel := (Below.refl w.heap.size w).alloc (Nat.le_refl _) (.cells #[.int .i64 f.B, .int .i64 f.D, .bool f.big, .bool f.tr, .int .i64 f.rm, .int .i64 f.gm, .int .i64 f.bm, .int .i64 f.rs, .int .i64 f.gs, .int .i64 f.bs] 37)
  have hsz : (w.alloc (.cells #[.int .i64 f.B, .int .i64 f.D, .bool f.big, .bool f.tr, .int .i64 f.rm, .int .i64 f.gm, .int .i64 f.bm, .int .i64 f.rs, .int .i64 f.gs, .int .i64 f.bs] 37)).heap.size = w.heap.size + 1 := Pln.alloc_size _ _
  obtain ⟨w1, hw1⟩ : ∃ w1, w.alloc (.cells #[.int .i64 f.B, .int .i64 f.D, .bool f.big, .bool f.tr, .int .i64 f.rm, .int .i64 f.gm, .int .i64 f.bm, .int .i64 f.rs, .int .i64 f.gs, .int .i64 f.bs] 37) = w1 := ⟨_, rfl⟩
  rw [hw1] at AT bel hsz
  have HA := Lib.hid (fun W (hW : Below w1.heap.size w1 W) => AT.below hW (by omega))
  have HF : f.v = .agg #[.int .i64 f.B, .int .i64 f.D, .bool f.big, .bool f.tr, .int .i64 f.rm, .int .i64 f.gm, .int .i64 f.bm, .int .i64 f.rs, .int .i64 f.gs, .int .i64 f.bs] := rfl
  have BEL := Lib.hid bel
  have hle : w.heap.size ≤ w1.heap.size := bel.size
  obtain ⟨d0, d1, d2, d3, d4, d5, d6, d7, d8, d9⟩ := AT
  clear bel hsz hab
  generalize hOUT : decOut f a b t = OUT at *
  clear hOUT
  have RV := Lib.hid (fun bb i e W (hc : CurAt 99 W bb t i e) h0 h1 => readValue_any f hf bb t i e W hc h0 h1 ht)
  have RB := Lib.hid (fun bb i (A B N : Nat) W (hc : CurAt 99 W bb t i 2) h0 h1 hA hB hN => readPieces_bad f hf bb t i A B N W hc h0 h1 ht hA hB hN)
  have RP := Lib.hid (fun hok bb (A B N : Nat) W (hc : CurAt 99 W bb t (posN f 0 : Nat) 0) h1 hA hB hN => readPieces_any f hf hok bb t A B N W hc h1 ht hA hB hN)
  have CG := Lib.hid (fun hok u w => col_get hf hok u w)
  rw [HF] at FT RV RB RP CG ⊢
  go_enter Try.func18, Try.ntmps18
  cases hfit : fitsB f a b with
  | false =>
    have hO := HO.out
    rw [hfit] at FT hO
    simp only [Bool.false_eq_true, if_false] at hO
    subst hO
    clear HO RV RB RP CG
    go_wp2_with fail
    refine (FT.out _).mono ?_
    rintro r w2 ⟨rfl, b2⟩
    have HB := Lib.hid (BEL.out.trans (b2.mono hle))
    clear b2 FT HA d0 d1 d2 d3 d4 d5 d6 d7 d8 d9
    go_wp2_with fail
    go_ret3
    exact ⟨_, rfl, SI.nil _, HB.out⟩
  | true =>
  rw [hfit] at FT
  obtain ⟨hok, a0, a1, b0, b1⟩ := FP.out hfit
  have hab := HAB.out hfit
  have hO := HO.out
  rw [hfit] at hO
  simp only [if_true] at hO
  obtain ⟨A, rfl⟩ : ∃ A : Nat, a = A := ⟨a.toNat, by omega⟩
  obtain ⟨B, rfl⟩ : ∃ B : Nat, b = B := ⟨b.toNat, by omega⟩
  simp only [Int.toNat_natCast] at hO
  have HO2 := Lib.hid hO
  clear HO FP HAB hfit hO
  obtain ⟨N, hN⟩ : ∃ N, A * B = N := ⟨_, rfl⟩
  have hN' : (A : Int) * B = (N : Int) := by rw [← hN, Int.natCast_mul]
  rw [hN'] at hab
  have t0 : IntKind.i64.wrap ((A : Int) * B) = (N : Int) := by rw [hN']; exact IntWalk.i64_in _ (by omega)
  have HN := Lib.hid hN
  obtain ⟨hd1, hd2⟩ := head_is t
  have HD1 := Lib.hid hd1
  have HD2 := Lib.hid hd2
  clear hd1 hd2 hN hN'
  go_wp2_with fail
  refine (FT.out _).mono ?_
  rintro r w2 ⟨rfl, b2⟩
  have HB2 := Lib.hid b2
  clear b2 FT d0 d1 d2 d3 d4 d5 d6 d7 d8 d9
  go_wp2_with fail
  refine (new_any t w2).mono ?_
  rintro r w3 ⟨rfl, hc3, b3⟩
  obtain ⟨c, hc⟩ : ∃ c, w2.heap.size = c := ⟨_, rfl⟩
  rw [hc] at hc3 ⊢
  have hcl : w1.heap.size ≤ c := by rw [← hc]; exact HB2.out.size
  have HB3 := Lib.hid (HB2.out.trans (b3.mono HB2.out.size))
  have IA := Lib.hid (int_any c t 0 0 4 w3 hc3 (by omega) (by omega) (by omega))
  have hs3 := HB3.out.size
  clear b3 hc3 hc HB2
  by_cases h4 : t.size < 4
  case pos =>
    obtain ⟨q1, q2, q3⟩ := HD1.out h4
    rw [q1, q2, q3] at IA
    have hO := HO2.out
    have hL : decL f A B t = ⟨2, [], 0⟩ := by unfold decL; rw [if_pos h4]
    rw [hL] at hO
    simp only [show ¬ ((2 : Int) = 0) by decide, if_false] at hO
    subst hO
    have hN0 : decide ((N : Int) < 0) = false := decide_eq_false (by omega)
    clear HO2 hL q1 q2 q3 HD1 HD2 RP CG
    go_wp2_with fail
    refine IA.out.mono ?_
    rintro r w4 ⟨rfl, hc4, hg4⟩
    have HB4 := Lib.hid (HB3.out.trans (below_of_grown hg4 hcl hs3))
    have hs4 := HB4.out.size
    obtain ⟨d0, d1, d2, d3, d4, d5, d6, d7, d8, d9⟩ := HA.out w4 HB4.out
    have RV1 := Lib.hid (RV.out c 0 2 w4 hc4 (by omega) (by omega))
    have hE : byE t 0 2 f.size = 2 := by unfold byE; rw [if_neg (by decide)]
    obtain ⟨z0, z1, _⟩ := Oct.intsz t 0 2 f.size (by omega) (by omega)
    rw [hE] at RV1
    have RB1 := Lib.hid (fun W (hW : CurAt 99 W c t (byI t 0 2 f.size) 2) => RB.out c _ A B 0 W hW z0 z1 (by omega) (by omega) (by omega))
    generalize byI t 0 2 f.size = i2 at *
    generalize f.get (byS t 0 2 f.size) = g at *
    clear hc4 hg4 IA HB3 hE z0 z1
    go_wp2_with fail
    refine RV1.out.mono ?_
    rintro r w5 ⟨rfl, hc5, hg5⟩
    have HB5 := Lib.hid (HB4.out.trans (below_of_grown hg5 hcl hs4))
    have hs5 := HB5.out.size
    have CW5 := hc5
    clear d0 d1 d2 d3 d4 d5 d6 d7 d8 d9 hg5
    obtain ⟨d0, d1, d2, d3, d4, d5, d6, d7, d8, d9⟩ := HA.out w5 HB5.out
    go_wp2_with fail
    refine (RB1.out _ CW5).mono ?_
    rintro r w6 ⟨u, rfl, hg6⟩
    have HB6 := Lib.hid (HB5.out.trans (below_of_grown hg6 hcl hs5))
    clear hg6 d0 d1 d2 d3 d4 d5 d6 d7 d8 d9
    go_wp2_with fail
    go_ret3
    exact ⟨_, rfl, SI.nil _, BEL.out.trans (HB6.out.mono hle)⟩
  have h4' : 4 ≤ t.size := by omega
  obtain ⟨q1, q2, q3⟩ := HD2.out h4'
  rw [q1, q2, q3] at IA
  obtain ⟨M, hM⟩ : ∃ M, headN t = M := ⟨_, rfl⟩
  rw [hM] at IA
  clear q1 q2 q3 HD1 HD2
  by_cases hMN : N < M
  case pos =>
    have hO := HO2.out
    have hL : decL f A B t = ⟨4, [], 0⟩ := by unfold decL; rw [if_neg h4, HN.out, hM, if_pos hMN]
    rw [hL] at hO
    simp only [show ¬ ((4 : Int) = 0) by decide, if_false] at hO
    subst hO
    have dN : decide ((N : Int) < (M : Int)) = true := decide_eq_true (by omega)
    clear HO2 hL RP RB CG RV
    go_wp2_with fail
    refine IA.out.mono ?_
    rintro r w4 ⟨rfl, hc4, hg4⟩
    have HB4 := Lib.hid (HB3.out.trans (below_of_grown hg4 hcl hs3))
    clear hc4 hg4 IA HB3
    go_wp2_with fail
    go_ret3
    exact ⟨_, rfl, SI.nil _, BEL.out.trans (HB4.out.mono hle)⟩
  have dN : decide ((N : Int) < (M : Int)) = false := decide_eq_false (by omega)
  obtain ⟨hg1, hg2⟩ := ground_at hok t h4'
  have HG1 := Lib.hid hg1
  have HG2 := Lib.hid hg2
  clear hg1 hg2
  go_wp2_with fail
  refine IA.out.mono ?_
  rintro r w4 ⟨rfl, hc4, hg4⟩
  have HB4 := Lib.hid (HB3.out.trans (below_of_grown hg4 hcl hs3))
  have hs4 := HB4.out.size
  obtain ⟨d0, d1, d2, d3, d4, d5, d6, d7, d8, d9⟩ := HA.out w4 HB4.out
  have RV1 := Lib.hid (RV.out c 4 0 w4 hc4 (by omega) (by omega))
  obtain ⟨z0, z1, _⟩ := Oct.intsz t 4 0 f.size (by omega) (by omega)
  clear hc4 hg4 IA HB3
  by_cases hp0 : t.size < posN f 0
  case pos =>
    have hO := HO2.out
    have hL : decL f A B t = ⟨2, [], 0⟩ := by
      unfold decL
      rw [if_neg h4, HN.out, hM, if_neg hMN, if_pos (by unfold posN at hp0; omega)]
    rw [hL] at hO
    simp only [show ¬ ((2 : Int) = 0) by decide, if_false] at hO
    subst hO
    have hE := HG1.out hp0
    rw [hE] at RV1
    have RB1 := Lib.hid (fun W (hW : CurAt 99 W c t (byI t 4 0 f.size) 2) => RB.out c _ A B M W hW z0 z1 (by omega) (by omega) (by omega))
    generalize byI t 4 0 f.size = i2 at *
    generalize f.get (byS t 4 0 f.size) = g at *
    clear hE z0 z1 HO2 hL RP CG HG1 HG2 RV
    go_wp2_with fail
    refine RV1.out.mono ?_
    rintro r w5 ⟨rfl, hc5, hg5⟩
    have HB5 := Lib.hid (HB4.out.trans (below_of_grown hg5 hcl hs4))
    have hs5 := HB5.out.size
    have CW5 := hc5
    clear d0 d1 d2 d3 d4 d5 d6 d7 d8 d9 hg5
    obtain ⟨d0, d1, d2, d3, d4, d5, d6, d7, d8, d9⟩ := HA.out w5 HB5.out
    go_wp2_with fail
    refine (RB1.out _ CW5).mono ?_
    rintro r w6 ⟨u, rfl, hg6⟩
    have HB6 := Lib.hid (HB5.out.trans (below_of_grown hg6 hcl hs5))
    clear hg6 d0 d1 d2 d3 d4 d5 d6 d7 d8 d9
    go_wp2_with fail
    go_ret3
    exact ⟨_, rfl, SI.nil _, BEL.out.trans (HB6.out.mono hle)⟩
  have hp0' : posN f 0 ≤ t.size := by omega
  obtain ⟨q1, q2, q3⟩ := HG2.out hp0'
  rw [q1, q2, q3] at RV1
  have hL : decL f A B t = decN f A B t M := by
    unfold decL
    rw [if_neg h4, HN.out, hM, if_neg hMN, if_neg (by unfold posN at hp0'; omega)]
  have hO := HO2.out
  rw [hL] at hO
  have HO3 := Lib.hid hO
  have CG1 := Lib.hid (CG.out hok (t.extract 4 t.size))
  have HDO := Lib.hid (fun h => dec_ok (f := f) (W := A) (H := B) (s := t) M h)
  clear q1 q2 q3 z0 z1 HO2 hL hO HG1 HG2
  obtain ⟨g, hg⟩ : ∃ g, f.get (t.extract 4 t.size) = g := ⟨_, rfl⟩
  rw [hg] at RV1 CG1 HDO
  clear hg
  go_wp2_with fail
  refine RV1.out.mono ?_
  rintro r w5 ⟨rfl, hc5, hg5⟩
  have HB5 := Lib.hid (HB4.out.trans (below_of_grown hg5 hcl hs4))
  have hs5 := HB5.out.size
  have RP1 := Lib.hid (RP.out hok c A B M w5 hc5 hp0' (by omega) (by omega) (by omega))
  clear d0 d1 d2 d3 d4 d5 d6 d7 d8 d9 hg5 hc5
  obtain ⟨d0, d1, d2, d3, d4, d5, d6, d7, d8, d9⟩ := HA.out w5 HB5.out
  go_wp2_with fail
  refine RP1.out.mono ?_
  rintro r w6 ⟨u, rfl, hu6, hg6⟩
  have HB6 := Lib.hid (HB5.out.trans (below_of_grown hg6 hcl hs5))
  have hs6 := HB6.out.size
  have HU6 := Lib.hid hu6
  clear hg6 hu6 d0 d1 d2 d3 d4 d5 d6 d7 d8 d9 RV1 RP1 RP RB RV HB5 HB4
  by_cases he : (decN f A B t M).e = 0
  case neg =>
    have hO := HO3.out
    rw [if_neg he] at hO
    subst hO
    have d1 : ((decN f A B t M).e == 0) = false := by simpa using he
    have d2 : ((decN f A B t M).e != 0) = true := by simpa using he
    have d3 : decide ((decN f A B t M).e = 0) = false := decide_eq_false he
    generalize hE : (decN f A B t M).e = E at *
    have HE := Lib.hid hE
    clear HO3 HU6 HDO CG CG1 hE
    go_wp2_with fail
    go_ret3
    exact ⟨_, by rw [← HE.out]; rfl, SI.nil _, BEL.out.trans (HB6.out.mono hle)⟩
  have hO := HO3.out
  rw [if_pos he] at hO
  obtain ⟨hi6, hl6, hpc⟩ := HDO.out he
  rw [hi6, hl6] at hO
  subst hO
  obtain ⟨hsp, hcu⟩ := HU6.out he
  rw [he]
  have HHE := Lib.hid he
  have HPC := Lib.hid hpc
  have HSP := Lib.hid hsp
  have HCU := Lib.hid hcu
  clear HDO HU6 HO3 hi6 hl6 hpc hsp hcu he
  obtain ⟨w7, hmk, HI7, hb7, hz7⟩ := make_ints N (by omega) w6
  obtain ⟨P, hP⟩ : ∃ P, w6.heap.size = P := ⟨_, rfl⟩
  rw [hP] at hmk HI7 hb7 hz7 hs6
  have HPP := Lib.hid hP
  have HB7 := Lib.hid hb7
  have HX7 := Lib.hid HI7
  obtain ⟨d0, d1, d2, d3, d4, d5, d6, d7, d8, d9⟩ := HA.out w7 (HB6.out.trans (hb7.mono hs6))
  clear hb7 HI7 hP
  go_wp2_with fail
  obtain ⟨COL, hCOL⟩ : ∃ COL : Int → Int, (fun c => ((f.col c : Nat) : Int)) = COL := ⟨_, rfl⟩
  have hcg : ((f.col g : Nat) : Int) = COL g := congrFun hCOL g
  have HCOL := Lib.hid (fun c => (congrFun hCOL c : ((f.col c : Nat) : Int) = COL c))
  rw [hcg] at CG1
  have HCF := Lib.hid hCOL
  have hAB4 : A ≤ 4096 ∧ B ≤ 4096 := ⟨by omega, by omega⟩
  have FW : RowKit.Hid (∀ W, IntsAt P W (.slice (some ⟨P, 0, none⟩) N N) (gen N (fun _ => 0)) → Calls Try.prog 29 #[.int .i64 A, .slice (some ⟨P, 0, none⟩) N N, .agg #[.int .i64 0, .int .i64 0, .int .i64 A, .int .i64 B], .int .i64 (COL g)] W fun e w' => e = .returned (.tuple #[]) ∧ IntsAt P w' (.slice (some ⟨P, 0, none⟩) N N) (gen N (fun _ => COL g)) ∧ Pln.Touch (fun k => k = P) W w') := Lib.hid (fun W hW => by
    have := fill_any A B (gen N (fun _ => 0)) ⟨COL g, 0, 0, A, B⟩ P P N N W HN.out (gen_length _ _) hAB4.1 hAB4.2 (by simp) (by simp) hW
    rw [paint_whole A B (COL g) _ (by rw [gen_length, HN.out]), HN.out] at this
    exact this)
  have WH := Lib.hid (fun w => whole_any A B w)
  have HFA := Lib.hid (fun W (h : Pln.Touch (fun k => k = P) w7 W) => HA.out W (HB6.out.trans ((HB7.out.trans (h.below (fun k hk => by rw [hk]; exact Nat.le_refl P) (by omega))).mono hs6)))
  clear d0 d1 d2 d3 d4 d5 d6 d7 d8 d9 hcg hCOL hmk
  refine region_alls (by kernel_rfl) (fwV (.agg #[.int .i64 f.B, .int .i64 f.D, .bool f.big, .bool f.tr, .int .i64 f.rm, .int .i64 f.gm, .int .i64 f.bm, .int .i64 f.rs, .int .i64 f.gs, .int .i64 f.bs]) (.slice (some ⟨P, 0, none⟩) N N) (.agg #[.int .i64 0, .int .i64 0, .int .i64 A, .int .i64 B]) A B g (COL g)) (fiS w7 P P N N (gen N (fun _ => 0)) (gen N (fun _ => COL g))) [1, 2, 4, 13, 16] [none, none, none, none, none, none, none, none, none, none, none, none, none, none, none, none, none, none, none, none, none, none, none, none, none, none, none, none, none, none, none, none, none, none, none, none, none, none, none, none, none, none, none, none, none, none, none, none, none, none, none, none, some 0, some 1, some 2, some 3, some 4, some 5, some 6, some 7, some 8, none, none, none, none, none, none, none, none, none, none, none, none, none, none, none, none, none, none, none] (by kernel_rfl) (by kernel_rfl) (by rfl) (by kernel_rfl) (by kernel_rfl) (by kernel_rfl) ⟨⟨rfl, rfl, rfl, Nat.le_refl _, fun _ _ _ => rfl⟩, fun _ => HX7.out, fun h => by cases h⟩ ⟨?_, ?_, ?_, ?_, ?_, ?_, ?_, ?_, ?_, trivial⟩ ?_
  case refine_10 =>
    intro ℓ W8 hl hS
    have HX8 := Lib.hid (hS.2.2 (hl 8 (by decide)))
    have HB8 := Lib.hid (HB7.out.trans (hS.1.below (fun k hk => by rw [hk]; exact Nat.le_refl P) (by omega)))
    clear hS hl HX7 FW WH CG1 HFA
    simp only [zipF, fwV]
    obtain ⟨ua, un, ucap, rfl, hun, hurd⟩ := HSP.out.read
    rw [pcsN_length] at hun
    subst hun
    have HRD : RowKit.Hid (∀ W', Below P w6 W' → 0 < M → ∃ g off, ua = some ⟨g, off, none⟩ ∧ ∀ i p, (pcsN f t M)[i]? = some p → PcAt W' g (off + i * 5) p) := Lib.hid (fun W' h => hurd W' (by rw [HPP.out]; exact h))
    have HST : RowKit.Hid (∀ k, paintL A (gen N (fun _ => g)) (pcsN f t (k + 1)) = paint1 A (paintL A (gen N (fun _ => g)) (pcsN f t k)) (pcAt f t (posN f k))) := Lib.hid (fun k => by rw [pcsN_succ, paintL_append]; rfl)
    have HL0 : RowKit.Hid (paintL A (gen N (fun _ => g)) (pcsN f t 0) = gen N (fun _ => g)) := Lib.hid rfl
    have HLN : RowKit.Hid (∀ k, (paintL A (gen N (fun _ => g)) (pcsN f t k)).length = N) := Lib.hid (fun k => by rw [paint_length, gen_length])
    have HCV := Lib.hid (fun k W => CG.out hok (t.extract (posN f k) t.size) W)
    have hP8 : P ≤ W8.heap.size := by have := HB8.out.size; rw [HPP.out] at this; exact this
    clear hurd HB7
    go_wp2_with fail
    go_loopw [63] (fun vi wr => ∃ k : Nat, k ≤ M ∧ vi = .int .i64 k ∧ IntsAt P wr (.slice (some ⟨P, 0, none⟩) N N) ((paintL A (gen N (fun _ => g)) (pcsN f t k)).map COL) ∧ Below P w6 wr) (fun vi _ => M - (intOf vi).toNat)
    case atStart => exact ⟨0, Nat.zero_le _, rfl, by rw [HL0.out, gen_map]; exact HX8.out, HB8.out⟩
    case round =>
      obtain ⟨k, hk, rfl, hI, hbr⟩ := hrel
      have HI := Lib.hid hI
      have HBR := Lib.hid hbr
      by_cases hlk : k < M
      · have dk : decide ((k : Int) < (M : Int)) = true := decide_eq_true (by omega)
        obtain ⟨gp, off, rfl, hcel⟩ := HRD.out _ hbr (by omega)
        obtain ⟨c0, c1, c2, c3, c4⟩ := hcel k _ (pcsN_get hlk)
        obtain ⟨_, hin⟩ := HPC.out k hlk
        have HC1 := Lib.hid (HCV.out k)
        have hpv : (pcAt f t (posN f k)).v = f.get (t.extract (posN f k) t.size) := by unfold pcAt; dsimp only
        rw [← hpv] at HC1
        have HSTK := Lib.hid (HST.out k)
        have HFI := Lib.hid (fill_any A B ((paintL A (gen N (fun _ => g)) (pcsN f t k)).map COL))
        obtain ⟨p, hp⟩ : ∃ p, pcAt f t (posN f k) = p := ⟨_, rfl⟩
        rw [hp] at c0 c1 c2 c3 c4 hin HC1 HSTK
        obtain ⟨L, hL⟩ : ∃ L, paintL A (gen N (fun _ => g)) (pcsN f t k) = L := ⟨_, rfl⟩
        have hLl := HLN.out k
        rw [hL] at HI HFI HSTK hLl
        have hcv : ((f.col p.v : Nat) : Int) = COL p.v := HCOL.out p.v
        rw [hcv] at HC1
        obtain ⟨i1, i2, i3, i4⟩ := of_decide_eq_true (show decide (p.n ≤ A ∧ p.x + p.n ≤ A ∧ p.m ≤ B ∧ p.y + p.m ≤ B) = true from hin)
        have n9 := heap_alloc_new wr (.cells #[.int .i64 p.v, .int .i64 p.x, .int .i64 p.y, .int .i64 p.n, .int .i64 p.m] 31)
        have z9 := Pln.alloc_size wr (.cells #[.int .i64 p.v, .int .i64 p.x, .int .i64 p.y, .int .i64 p.n, .int .i64 p.m] 31)
        have b9 := HBR.out.alloc (by have := HBR.out.size; rw [HPP.out] at this; exact this) (.cells #[.int .i64 p.v, .int .i64 p.x, .int .i64 p.y, .int .i64 p.n, .int .i64 p.m] 31)
        have i9 := RowAt.alloc HI.out (.cells #[.int .i64 p.v, .int .i64 p.x, .int .i64 p.y, .int .i64 p.n, .int .i64 p.m] 31)
        have HN9 := Lib.hid n9
        have HZ9 := Lib.hid z9
        have HB9 := Lib.hid b9
        have HI9 := Lib.hid i9
        obtain ⟨_, hPr, _⟩ := ints_cells ((List.length_map ..).trans hLl) HI.out
        clear n9 z9 b9 i9 hcel hI hbr hin hpv hcv
        go_wp2_with fail
        generalize wr.alloc (.cells #[.int .i64 p.v, .int .i64 p.x, .int .i64 p.y, .int .i64 p.n, .int .i64 p.m] 31) = w9 at *
        obtain ⟨D, hD⟩ : ∃ D, wr.heap.size = D := ⟨_, rfl⟩
        rw [hD] at HN9 HZ9 hPr ⊢
        have FW : RowKit.Hid (∀ W, IntsAt P W (.slice (some ⟨P, 0, none⟩) N N) (L.map COL) → Calls Try.prog 29 #[.int .i64 A, .slice (some ⟨P, 0, none⟩) N N, .agg #[.int .i64 p.x, .int .i64 p.y, .int .i64 p.n, .int .i64 p.m], .int .i64 (COL p.v)] W fun e w' => e = .returned (.tuple #[]) ∧ IntsAt P w' (.slice (some ⟨P, 0, none⟩) N N) ((paint1 A L p).map COL) ∧ Pln.Touch (fun k => k = P) W w') := Lib.hid (fun W hW => by
          have := HFI.out ⟨COL p.v, p.x, p.y, p.n, p.m⟩ P P N N W HN.out ((List.length_map ..).trans hLl) hAB4.1 hAB4.2 i2 i4 hW
          rw [paint_map A COL L p] at this
          exact this)
        have HFA := Lib.hid (fun W (h : Pln.Touch (fun k => k = P) w9 W) => And.intro (HA.out W (HB6.out.trans ((HB9.out.trans (h.below (fun k hk => by rw [hk]; exact Nat.le_refl P) (by have := HZ9.out; omega))).mono hs6))) (show W.heap[D]? = some (.cells #[.int .i64 p.v, .int .i64 p.x, .int .i64 p.y, .int .i64 p.n, .int .i64 p.m] 31 (0, 0)) from (h.block D (by have := HZ9.out; omega) (by omega)).trans HN9.out))
        clear HFI c0 c1 c2 c3 c4
        refine region_alls (by kernel_rfl) (fpV (.agg #[.int .i64 f.B, .int .i64 f.D, .bool f.big, .bool f.tr, .int .i64 f.rm, .int .i64 f.gm, .int .i64 f.bm, .int .i64 f.rs, .int .i64 f.gs, .int .i64 f.bs]) (.slice (some ⟨P, 0, none⟩) N N) (.pointer (some ⟨D, 1, none⟩)) (.agg #[.int .i64 p.x, .int .i64 p.y, .int .i64 p.n, .int .i64 p.m]) (.pointer (some ⟨D, 0, none⟩)) A p.v (COL p.v)) (fiS w9 P P N N (L.map COL) ((paint1 A L p).map COL)) [1, 4, 16, 18] [none, none, none, none, none, none, none, none, none, none, none, none, none, none, none, none, none, none, none, none, none, none, none, none, none, none, none, none, none, none, none, none, none, none, none, none, none, none, none, none, none, none, none, none, none, none, none, none, none, none, none, none, none, none, none, none, none, none, none, none, none, none, none, none, none, none, none, some 0, some 1, some 2, some 3, some 4, some 5, some 6, some 7, some 8, none, none, none, none] (by kernel_rfl) (by kernel_rfl) (by rfl) (by kernel_rfl) (by kernel_rfl) (by kernel_rfl) ⟨⟨rfl, rfl, rfl, Nat.le_refl _, fun _ _ _ => rfl⟩, fun _ => HI9.out, fun h => by cases h⟩ ⟨?_, ?_, ?_, ?_, ?_, ?_, ?_, ?_, ?_, trivial⟩ ?_
        case refine_10 =>
          intro ℓ W8 hl hS
          have HX8 := Lib.hid (hS.2.2 (hl 8 (by decide)))
          have HB8 := Lib.hid (HB9.out.trans (hS.1.below (fun k hk => by rw [hk]; exact Nat.le_refl P) (by have := HZ9.out; omega)))
          clear hS hl FW HFA HC1
          simp only [zipF, fpV]
          go_wp2_with fail
          exact ⟨⟨k + 1, by omega, by go_num, by rw [HSTK.out]; exact HX8.out, HB8.out⟩, by simp [intOf]; omega⟩
        case refine_9 =>
          intro ℓ act Wd hl hS hw hr hd
          clear hw
          simp [readFacts, depFacts, dstOf, Region.binds, fpV] at hr hd
          refine ⟨wanted_none (by rfl), fun K hK => ?_⟩
          go_simp
          refine (FW.out Wd (hS.2.1 hl)).mono ?_
          rintro r w' ⟨rfl, hc, hg⟩
          exact hK _ ⟨hS.1.trans hg, fun h => by simp at h, fun _ => hc⟩
        all_goals
          intro ℓ act Wd hl hS hw hr hd
          obtain ⟨⟨d0, d1, d2, d3, d4, d5, d6, d7, d8, d9⟩, hD9⟩ := HFA.out Wd hS.1
          have c0 := cellAt (o := 0) hD9 rfl
          have c1 := cellAt (o := 1) hD9 rfl
          have c2 := cellAt (o := 2) hD9 rfl
          have c3 := cellAt (o := 3) hD9 rfl
          have c4 := cellAt (o := 4) hD9 rfl
          clear hw hD9
          simp [readFacts, depFacts, dstOf, Region.binds, fpV] at hr hd
          refine ⟨wanted_none (by rfl), fun K hK => ?_⟩
          go_simp
          first
            | exact hK _ (fiS_keep hS (by decide))
            | (with_reducible refine (HC1.out _).mono ?_
               rintro r w' ⟨rfl, bb⟩
               exact hK _ (fiS_keep (fiS_below hS bb) (by decide)))
      · obtain rfl : k = M := by omega
        have dk : decide ((k : Int) < (k : Int)) = false := decide_eq_false (by omega)
        have HCUR := Lib.hid (CurAt.below HCU.out HBR.out (by have := CurAt.lt HCU.out; rw [HPP.out] at this; exact this))
        clear hI hbr
        go_wp2_with fail
        refine (at_any c t _ 0 wr HCUR.out).mono ?_
        rintro r w9 ⟨rfl, rfl⟩
        go_wp2_with fail
        go_ret3
        exact ⟨_, rfl, by rw [HCF.out, HN.out]; exact IntsAt.si HI.out, BEL.out.trans ((HB6.out.trans (HBR.out.mono hs6)).mono hle)⟩
  case refine_9 =>
    intro ℓ act Wd hl hS hw hr hd
    clear hw
    simp [readFacts, depFacts, dstOf, Region.binds, fwV] at hr hd
    refine ⟨wanted_none (by rfl), fun K hK => ?_⟩
    go_simp
    refine (FW.out Wd (hS.2.1 hl)).mono ?_
    rintro r w' ⟨rfl, hc, hg⟩
    exact hK _ ⟨hS.1.trans hg, fun h => by simp at h, fun _ => hc⟩
  all_goals
    intro ℓ act Wd hl hS hw hr hd
    obtain ⟨d0, d1, d2, d3, d4, d5, d6, d7, d8, d9⟩ := HFA.out Wd hS.1
    clear hw
    simp [readFacts, depFacts, dstOf, Region.binds, fwV] at hr hd
    refine ⟨wanted_none (by rfl), fun K hK => ?_⟩
    go_simp
    first
      | exact hK _ (fiS_keep hS (by decide))
      | (with_reducible refine (WH.out _).mono ?_
         rintro r w' ⟨rfl, bb⟩
         exact hK _ (fiS_keep (fiS_below hS bb) (by decide)))
      | (with_reducible refine (CG1.out _).mono ?_
         rintro r w' ⟨rfl, bb⟩
         exact hK _ (fiS_keep (fiS_below hS bb) (by decide)))
end Go.Proofs.Ytmjjbapahgejmaa.Rre
