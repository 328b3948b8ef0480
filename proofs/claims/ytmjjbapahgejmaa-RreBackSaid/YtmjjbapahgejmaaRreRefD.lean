/-
  The reference of layer 17 (rre): bytes.
-/
import Derived.Test.YtmjjbapahgejmaaRreRefB
import Derived.Test.YtmjjbapahgejmaaRreRefC
import Derived.Test.YtmjjbapahgejmaaPlnRefD
import Derived.Test.YtmjjbapahgejmaaAllRow17
import Derived.Test.YtmjjbapahgejmaaAllOct17
namespace Go.Proofs.Ytmjjbapahgejmaa.Rre
open Go.ChangeShapes Go.WideShapes Go.ChangeAt Go.RowKit Lz RowG RegVal Pln Fmt
open Go.Proofs.Ytmjjbapahgejmaa.Oct (putS putE okB)
set_option linter.unusedVariables false
set_option maxRecDepth 100000

theorem refFour_any (n : Int) (w : World) :
    Calls Try.prog 39 #[.int .i64 n] w fun e w' => e = .returned (.string (putS 4 n)) ∧ Below w.heap.size w w' := by
  have C := Lib.hid (fun w => Oct.refPut_any 4 n w)
  go_enter Try.func39, Try.ntmps39
  go_wp2_with fail
  refine (C.out _).mono ?_
  rintro r w' ⟨rfl, b⟩
  have B := Lib.hid b
  clear b C
  go_wp2_with fail
  go_ret
  exact ⟨rfl, B.out⟩
theorem refTwo_any (n : Int) (w : World) :
    Calls Try.prog 41 #[.int .i64 n] w fun e w' => e = .returned (.string (putS 2 n)) ∧ Below w.heap.size w w' := by
  have C := Lib.hid (fun w => Oct.refPut_any 2 n w)
  go_enter Try.func41, Try.ntmps41
  go_wp2_with fail
  refine (C.out _).mono ?_
  rintro r w' ⟨rfl, b⟩
  have B := Lib.hid b
  clear b C
  go_wp2_with fail
  go_ret
  exact ⟨rfl, B.out⟩
/-- The bytes. -/
def valS (f : Fm) (v : Int) : ByteArray := ⟨(ordL f.big (Fm.sz f) v).toArray⟩
def encN (f : Fm) (g : Int) (l : List Pc) : Nat → ByteArray
  | 0 => putS 4 l.length ++ valS f g
  | k + 1 => encN f g l k ++ valS f (l.getD k ⟨0, 0, 0, 0, 0⟩).v ++ putS 2 (l.getD k ⟨0, 0, 0, 0, 0⟩).x ++ putS 2 (l.getD k ⟨0, 0, 0, 0, 0⟩).y ++ putS 2 (l.getD k ⟨0, 0, 0, 0, 0⟩).n ++ putS 2 (l.getD k ⟨0, 0, 0, 0, 0⟩).m
theorem encN_step {f : Fm} {g : Int} {l : List Pc} {k : Nat} {p : Pc} (h : l[k]? = some p) : encN f g l (k + 1) = encN f g l k ++ valS f p.v ++ putS 2 p.x ++ putS 2 p.y ++ putS 2 p.n ++ putS 2 p.m := by
  have e : l.getD k ⟨0, 0, 0, 0, 0⟩ = p := by rw [List.getD_eq_getElem?_getD, h]; rfl
  simp only [encN, e]
def valsL (f : Fm) (pix : List Int) : List Int := pix.map (fun c => ((f.val c : Nat) : Int))
def encB (f : Fm) (w h : Nat) (pix : List Int) : ByteArray :=
  encN f (groundL (valsL f pix)) (piecesN w h (valsL f pix) (groundL (valsL f pix))) (piecesN w h (valsL f pix) (groundL (valsL f pix))).length
def encOk (f : Fm) (w h : Int) (pix : List Int) : Bool := fitsB f w h && decide ((pix.length : Int) = w * h)
def encS (f : Fm) (w h : Int) (pix : List Int) : ByteArray := if encOk f w h pix then encB f w.toNat h.toNat pix else ⟨#[]⟩
def encE (f : Fm) (w h : Int) (pix : List Int) : Int := if encOk f w h pix then 0 else 1
/-- What is a value of a format. -/
def Small (v : Int) : Prop := 0 ≤ v ∧ v < 4294967296
theorem small_vals {f : Fm} (hf : f.ok = true) (pix : List Int) (k : Nat) : Small (px (valsL f pix) k) := by
  unfold px valsL
  rw [List.getD_eq_getElem?_getD, List.getElem?_map]
  cases pix[k]? with
  | none => exact ⟨Int.le_refl 0, (by decide : (0 : Int) < 4294967296)⟩
  | some c => have := val_lt hf c; exact ⟨by simp, by simp; omega⟩
theorem small_ground {vals : List Int} (h : ∀ k, Small (px vals k)) : Small (groundL vals) := by
  have : ∀ k, Small (grd vals k).1 := by
    intro k
    induction k with
    | zero => exact ⟨Int.le_refl 0, (by decide : (0 : Int) < 4294967296)⟩
    | succ k ih =>
      simp only [grd, gstep]
      split
      · exact h k
      · exact ih
  exact this _
theorem small_piece {w h : Nat} {vals : List Int} {g : Int} (hs : ∀ k, Small (px vals k)) : ∀ p ∈ piecesN w h vals g, Small p.v := by
  intro p hp
  have I := pieces_inv w h vals g
  obtain ⟨n1, m1, _, _⟩ := I.inside p hp
  rw [← I.value p hp p.x p.y (has_iff.2 ⟨Nat.le_refl _, by omega, Nat.le_refl _, by omega⟩)]
  exact hs _
theorem encOk_iff {f : Fm} {w h : Int} {pix : List Int} : encOk f w h pix = true ↔ fitsB f w h = true ∧ (pix.length : Int) = w * h := by simp [encOk]
theorem fits_parts {f : Fm} {w h : Int} (h1 : fitsB f w h = true) : f.ok = true ∧ 0 ≤ w ∧ w ≤ 4096 ∧ 0 ≤ h ∧ h ≤ 4096 := by
  simp only [fitsB, Bool.and_eq_true, decide_eq_true_eq] at h1
  obtain ⟨⟨⟨⟨h2, h3⟩, h4⟩, h5⟩, h6⟩ := h1
  exact ⟨h2, h3, h4, h5, h6⟩
theorem putS_size (s n : Int) : (putS s n).size ≤ 4 := by
  cases hb : okB s n with
  | true =>
    have := (Oct.putS_ok hb).1
    obtain ⟨h1, _, _⟩ := Oct.okB_parts hb
    simp [Oct.sizeB] at h1
    omega
  | false => rw [(Oct.putS_bad hb).1]; decide
theorem valS_size {f : Fm} (hf : f.ok = true) (v : Int) : (valS f v).size ≤ 4 := by
  have : (valS f v).size = (ordL f.big (Fm.sz f) v).length := rfl
  rw [this, ordL_length]
  exact (fm_sz hf).2.1
theorem encN_size {f : Fm} (hf : f.ok = true) (g : Int) (l : List Pc) : ∀ k, (encN f g l k).size ≤ 8 + 20 * k
  | 0 => by
    simp only [encN, ByteArray.size_append]
    have := putS_size 4 l.length
    have := valS_size hf g
    omega
  | k + 1 => by
    simp only [encN, ByteArray.size_append]
    have := encN_size hf g l k
    have := valS_size hf (l.getD k ⟨0, 0, 0, 0, 0⟩).v
    have := putS_size 2 (l.getD k ⟨0, 0, 0, 0, 0⟩).x
    have := putS_size 2 (l.getD k ⟨0, 0, 0, 0, 0⟩).y
    have := putS_size 2 (l.getD k ⟨0, 0, 0, 0, 0⟩).n
    have := putS_size 2 (l.getD k ⟨0, 0, 0, 0, 0⟩).m
    omega
/-- What stands in a round of Encode's loop. -/
def heV (F lv : Value) (n g : Int) (s4 sg S : ByteArray) : Nat → Option Value
  | 0 => some lv
  | 1 => some (.int .i64 n)
  | 2 => some (.string s4)
  | 3 => some F
  | 4 => some (.int .i64 g)
  | 5 => some (.string sg)
  | _ => some (.string S)
def rdV (F lv p p1 r0 r1 r2 r3 : Value) (k v x y n m : Int) (S sv S1 sx S2 sy S3 sn S4 sm S5 : ByteArray) : Nat → Option Value
  | 0 => some (.string S)
  | 1 => some F
  | 2 => some lv
  | 3 => some (.int .i64 k)
  | 4 => some p
  | 5 => some p1
  | 6 => some (.int .i64 v)
  | 7 => some (.string sv)
  | 8 => some (.string S1)
  | 9 => some r0
  | 10 => some (.int .i64 x)
  | 11 => some (.string sx)
  | 12 => some (.string S2)
  | 13 => some r1
  | 14 => some (.int .i64 y)
  | 15 => some (.string sy)
  | 16 => some (.string S3)
  | 17 => some r2
  | 18 => some (.int .i64 n)
  | 19 => some (.string sn)
  | 20 => some (.string S4)
  | 21 => some r3
  | 22 => some (.int .i64 m)
  | 23 => some (.string sm)
  | _ => some (.string S5)
set_option maxHeartbeats 4000000 in
theorem refEncode_any (f : Fm) (hwf : f.Wf) (a b : Int) (vp : Value) (L : List Int) (w : World) (hL : SW w vp L) (hn : L.length ≤ 100000)
    (ha : -9223372036854775808 ≤ a ∧ a ≤ 9223372036854775807) (hb : -9223372036854775808 ≤ b ∧ b ≤ 9223372036854775807) :
    Calls Try.prog 15 #[f.v, .int .i64 a, .int .i64 b, vp] w fun e w' => e = .returned (.tuple #[.string (encS f a b L), .int .i64 (encE f a b L)]) ∧ Below w.heap.size w w' := by
  have FT := Lib.hid (fun w => refFits_any f hwf a b w)
  have HS : RowKit.Hid (encS f a b L = if encOk f a b L then encB f a.toNat b.toNat L else ⟨#[]⟩) := Lib.hid rfl
  have HE : RowKit.Hid (encE f a b L = if encOk f a b L then 0 else 1) := Lib.hid rfl
  have HOK : RowKit.Hid (encOk f a b L = (fitsB f a b && decide ((L.length : Int) = a * b))) := Lib.hid rfl
  have FP : RowKit.Hid (fitsB f a b = true → _) := Lib.hid (fun h => fits_parts h)
  have VL := Lib.hid (fun (h : f.ok = true) w u (k : SW w u L) => refValues_any f h u L w k (by omega))
  have PU := Lib.hid (fun (h : f.ok = true) v (s : Small v) w => refPutV_any f h v s.1 s.2 w)
  have SV := Lib.hid (fun (h : f.ok = true) => small_vals h L)
  have SG := Lib.hid (fun (h : f.ok = true) => small_ground (small_vals h L))
  have SPc := Lib.hid (fun (h : f.ok = true) => small_piece (w := a.toNat) (h := b.toNat) (g := groundL (valsL f L)) (small_vals h L))
  have ESZ := Lib.hid (fun (h : f.ok = true) k => encN_size h (groundL (valsL f L)) (piecesN a.toNat b.toNat (valsL f L) (groundL (valsL f L))) k)
  have EST := Lib.hid (fun k p h => encN_step (f := f) (g := groundL (valsL f L)) (l := piecesN a.toNat b.toNat (valsL f L) (groundL (valsL f L))) (k := k) (p := p) h)
  have AT := FmAt.box f w 37
  have bel := (Below.refl w.heap.size w).alloc (Nat.le_refl _) (.cells #[.int .i64 f.B, .int .i64 f.D, .bool f.big, .bool f.tr, .int .i64 f.rm, .int .i64 f.gm, .int .i64 f.bm, .int .i64 f.rs, .int .i64 f.gs, .int .i64 f.bs] 37)
  have hsz : (w.alloc (.cells #[.int .i64 f.B, .int .i64 f.D, .bool f.big, .bool f.tr, .int .i64 f.rm, .int .i64 f.gm, .int .i64 f.bm, .int .i64 f.rs, .int .i64 f.gs, .int .i64 f.bs] 37)).heap.size = w.heap.size + 1 := Pln.alloc_size _ _
  obtain ⟨w1, hw1⟩ : ∃ w1, w.alloc (.cells #[.int .i64 f.B, .int .i64 f.D, .bool f.big, .bool f.tr, .int .i64 f.rm, .int .i64 f.gm, .int .i64 f.bm, .int .i64 f.rs, .int .i64 f.gs, .int .i64 f.bs] 37) = w1 := ⟨_, rfl⟩
  rw [hw1] at AT bel hsz
  have HA := Lib.hid (fun W (hW : Below w1.heap.size w1 W) => AT.below hW (by omega))
  have HF : f.v = .agg #[.int .i64 f.B, .int .i64 f.D, .bool f.big, .bool f.tr, .int .i64 f.rm, .int .i64 f.gm, .int .i64 f.bm, .int .i64 f.rs, .int .i64 f.gs, .int .i64 f.bs] := rfl
  have HSW := Lib.hid (fun W (hW : Below w1.heap.size w1 W) => hL.below (bel.trans (hW.mono bel.size)))
  have BEL := Lib.hid bel
  have hle : w.heap.size ≤ w1.heap.size := bel.size
  have hLl : ∃ x n cap, vp = .slice x n cap ∧ L.length = n := by
    obtain ⟨x, n, cap, e, h, _⟩ := hL.read
    exact ⟨x, n, cap, e, h⟩
  obtain ⟨va, n, vcap, rfl, hLn⟩ := hLl
  obtain ⟨d0, d1, d2, d3, d4, d5, d6, d7, d8, d9⟩ := AT
  rw [HF] at FT VL PU ⊢
  have HVS : RowKit.Hid (∀ v, valS f v = ⟨(ordL f.big (Fm.sz f) v).toArray⟩) := Lib.hid (fun v => rfl)
  have HLn := Lib.hid hLn
  rw [hLn] at hn HOK
  clear hL bel hsz hLn hwf HF
  obtain ⟨ES, hES⟩ : ∃ ES, encS f a b L = ES := ⟨_, rfl⟩
  obtain ⟨EE, hEE⟩ : ∃ EE, encE f a b L = EE := ⟨_, rfl⟩
  rw [hES] at HS ⊢
  rw [hEE] at HE ⊢
  clear hES hEE
  go_enter Try.func15, Try.ntmps15
  cases hfit : fitsB f a b with
  | false =>
    rw [hfit] at HOK FT
    have e : encOk f a b L = false := by rw [HOK.out]; rfl
    have hS := HS.out
    have hE := HE.out
    rw [e] at hS hE
    simp only [Bool.false_eq_true, if_false] at hS hE
    subst hS hE
    clear HS HE HOK VL PU SV SG SPc ESZ EST HSW HVS FP
    go_wp2_with fail
    refine (FT.out _).mono ?_
    rintro r w2 ⟨rfl, b2⟩
    have HB := Lib.hid (BEL.out.trans (b2.mono hle))
    clear b2 FT HA d0 d1 d2 d3 d4 d5 d6 d7 d8 d9
    go_wp2_with fail
    go_ret2
    exact ⟨rfl, HB.out⟩
  | true =>
  rw [hfit] at HOK FT
  obtain ⟨hok, a0, a1, b0, b1⟩ := FP.out hfit
  clear FP hfit
  obtain ⟨A, rfl⟩ : ∃ A : Nat, a = A := ⟨a.toNat, by omega⟩
  obtain ⟨B, rfl⟩ : ∃ B : Nat, b = B := ⟨b.toNat, by omega⟩
  simp only [Int.toNat_natCast] at HS SPc ESZ EST
  have hAB : A * B ≤ 4096 * 4096 := Nat.mul_le_mul (by omega) (by omega)
  have t0 : IntKind.i64.wrap ((A : Int) * B) = ((A * B : Nat) : Int) := by
    rw [← Int.natCast_mul]
    exact IntWalk.i64_in _ (by omega)
  obtain ⟨N, hN⟩ : ∃ N, A * B = N := ⟨_, rfl⟩
  have hN' : (A : Int) * B = (N : Int) := by rw [← hN, Int.natCast_mul]
  rw [hN'] at HOK
  rw [hN] at t0 hAB
  by_cases hnN : n = N
  case neg =>
    have d : decide ((n : Int) = (N : Int)) = false := decide_eq_false (by omega)
    have e : encOk f A B L = false := by rw [HOK.out, d]; rfl
    have hS := HS.out
    have hE := HE.out
    rw [e] at hS hE
    simp only [Bool.false_eq_true, if_false] at hS hE
    subst hS hE
    clear HS HE HOK VL PU SV SG SPc ESZ EST HSW HVS e hN hN'
    go_wp2_with fail
    refine (FT.out _).mono ?_
    rintro r w2 ⟨rfl, b2⟩
    have HB := Lib.hid (BEL.out.trans (b2.mono hle))
    clear b2 FT HA d0 d1 d2 d3 d4 d5 d6 d7 d8 d9
    go_wp2_with fail
    go_ret2
    exact ⟨rfl, HB.out⟩
  subst hnN
  have dN : decide ((n : Int) = (n : Int)) = true := decide_eq_true rfl
  have e : encOk f A B L = true := by rw [HOK.out, dN]; rfl
  have hS := HS.out
  have hE := HE.out
  rw [e] at hS hE
  simp only [if_true] at hS hE
  subst hE
  clear HS HE HOK e
  unfold encB at hS
  have VL2 := Lib.hid (VL.out hok)
  have PU2 : RowKit.Hid (∀ v, Small v → ∀ w, Calls Try.prog 40 #[.agg #[.int .i64 f.B, .int .i64 f.D, .bool f.big, .bool f.tr, .int .i64 f.rm, .int .i64 f.gm, .int .i64 f.bm, .int .i64 f.rs, .int .i64 f.gs, .int .i64 f.bs], .int .i64 v] w fun e w' => e = .returned (.string (valS f v)) ∧ Below w.heap.size w w') := Lib.hid (fun v s w => by rw [HVS.out]; exact PU.out hok v s w)
  have SG2 := Lib.hid (SG.out hok)
  have SP2 := Lib.hid (SPc.out hok)
  have ESZ2 := Lib.hid (ESZ.out hok)
  have HVAL : (L.map (fun c => ((f.val c : Nat) : Int))) = valsL f L := rfl
  rw [HVAL] at VL2
  have HVN : RowKit.Hid ((valsL f L).length = n) := Lib.hid (by unfold valsL; rw [List.length_map]; exact HLn.out)
  clear VL PU SG SPc ESZ SV HVAL HVS
  generalize hVS : valsL f L = VS at *
  clear hVS
  generalize hG : groundL VS = G at *
  have PCL : RowKit.Hid (piecesL A B VS G = piecesN A B VS G) := Lib.hid (by
    unfold piecesL
    rw [if_neg (by rw [HVN.out, hN']; omega)]
    rfl)
  have PIN : RowKit.Hid (∀ p ∈ piecesN A B VS G, p.x + p.n ≤ 4096 ∧ p.y + p.m ≤ 4096) := Lib.hid (fun p hp => by
    have := (pieces_inv A B VS G).inside p hp
    omega)
  have PLN : RowKit.Hid ((piecesN A B VS G).length ≤ n) := Lib.hid (by rw [← hN]; exact pieces_length _ _ _ _)
  have HG := Lib.hid hG
  generalize hPS : piecesN A B VS G = PS at *
  clear hPS hN hN' hG
  go_wp2_with fail
  refine (FT.out _).mono ?_
  rintro r w2 ⟨rfl, b2⟩
  have HB2 := Lib.hid b2
  have FA2 := HA.out w2 b2
  have hs2 : w1.heap.size ≤ w2.heap.size := b2.size
  clear b2 FT d0 d1 d2 d3 d4 d5 d6 d7 d8 d9
  obtain ⟨d0, d1, d2, d3, d4, d5, d6, d7, d8, d9⟩ := FA2
  go_wp2_with fail
  refine (VL2.out _ _ (HSW.out w2 HB2.out)).mono ?_
  rintro r w3 ⟨u, rfl, hu, b3⟩
  have HB3 := Lib.hid (HB2.out.trans (b3.mono hs2))
  have HU := Lib.hid hu
  obtain ⟨ua, ucap, rfl⟩ := RowAt.shape hu
  have hs3 : w2.heap.size ≤ w3.heap.size := b3.size
  clear b3 hu d0 d1 d2 d3 d4 d5 d6 d7 d8 d9
  go_wp2_with fail
  refine (refGround_any VS _ w3 HU.out.si.sw (by rw [HVN.out]; omega)).mono ?_
  rintro r w4 ⟨rfl, b4⟩
  rw [HG.out]
  have HU4 := Lib.hid (RowAt.below HU.out b4)
  have HB4 := Lib.hid (HB3.out.trans (b4.mono HB3.out.size))
  clear b4 HU
  go_wp2_with fail
  refine (refPieces_any A B VS _ G w4 (IntsAt.si HU4.out).sw (by rw [HVN.out]; omega) (by omega) (by omega)).mono ?_
  rintro r w5 ⟨u, rfl, hp, b5⟩
  rw [PCL.out] at hp
  have HP5 := Lib.hid (PcsAt.sp hp)
  obtain ⟨pa, pcap, rfl⟩ := RowAt.shape hp
  have HB5 := Lib.hid (HB4.out.trans (b5.mono HB4.out.size))
  clear b5 hp HU4 PCL
  have FA5 := HA.out w5 HB5.out
  obtain ⟨d0, d1, d2, d3, d4, d5, d6, d7, d8, d9⟩ := FA5
  have hw5 : w.heap.size ≤ w5.heap.size := by have := HB5.out.size; omega
  go_wp2_with fail
  have FO := Lib.hid (fun w => refFour_any (PS.length : Nat) w)
  have PG := Lib.hid (PU2.out G SG2.out)
  have ESZ0 := ESZ2.out 0
  have E0 : encN f G PS 0 = putS 4 PS.length ++ valS f G := rfl
  have s4z := putS_size 4 PS.length
  have hsum := ESZ0
  rw [E0] at hsum
  simp only [ByteArray.size_append] at hsum
  have HE0 := Lib.hid E0
  clear E0 ESZ0
  obtain ⟨S0, hS0⟩ : ∃ S0, encN f G PS 0 = S0 := ⟨_, rfl⟩
  rw [hS0] at HE0
  have HS0 := Lib.hid hS0.symm
  clear hS0
  generalize putS 4 PS.length = s4 at *
  generalize valS f G = sg at *
  clear d0 d1 d2 d3 d4 d5 d6 d7 d8 d9
  refine region_preds (by kernel_rfl) (heV (.agg #[.int .i64 f.B, .int .i64 f.D, .bool f.big, .bool f.tr, .int .i64 f.rm, .int .i64 f.gm, .int .i64 f.bm, .int .i64 f.rs, .int .i64 f.gs, .int .i64 f.bs]) (.slice pa PS.length pcap) PS.length G s4 sg (s4 ++ sg)) (fun _ _ _ => True) (fun _ W => Below w5.heap.size w5 W) [12, 4, 11] [none, none, none, none, none, none, none, none, none, none, none, none, none, some 7, none, none, none, none, none, none, none, none, none, none, none, none, none, none, none, none, none, none, none, none, none, none, none, none, none, some 0, some 1, some 2, some 3, some 4, some 5, some 6, none, none, none, none, none, none, none, none, none, none, none, none, none, none, none, none, none, none, none, none, none, none, none, none, none, none, none, none, none, none, none, none, none, none, none, none, none] (by kernel_rfl) (by kernel_rfl) (by rfl) (by kernel_rfl) (by kernel_rfl) (by kernel_rfl) (Below.refl _ _).drew ⟨?_, ?_, ?_, ?_, ?_, ?_, ?_, ?_, trivial⟩ ?_
  case refine_9 =>
    intro vs ℓ W3 hl hS hR
    have HZ3 := Lib.hid hS
    clear hR hS hl
    simp only [zipF, heV, Option.getD_some]
    clear vs
    go_wp2_with fail
    go_loopw [13, 14] (fun vs vi wr => ∃ k : Nat, k ≤ PS.length ∧ vi = .int .i64 k ∧ vs = .string (encN f G PS k) ∧ Below w5.heap.size w5 wr) (fun _ vi _ => PS.length - (intOf vi).toNat)
    case atStart => exact ⟨0, Nat.zero_le _, rfl, by rw [← HS0.out, HE0.out], HZ3.out⟩
    case round =>
    obtain ⟨k, hk, rfl, rfl, hbr⟩ := hrel
    have HBR := Lib.hid hbr
    by_cases hlt : k < PS.length
    · have dk : decide ((k : Int) < (PS.length : Int)) = true := decide_eq_true (by omega)
      obtain ⟨p, hp⟩ : ∃ p, PS[k]? = some p := ⟨PS[k], List.getElem?_eq_getElem hlt⟩
      have hmem : p ∈ PS := List.mem_of_getElem? hp
      have EK := EST.out k p hp
      have PV := Lib.hid (PU2.out p.v (SP2.out p hmem))
      have TX := Lib.hid (fun w => refTwo_any (p.x : Nat) w)
      have TY := Lib.hid (fun w => refTwo_any (p.y : Nat) w)
      have TN := Lib.hid (fun w => refTwo_any (p.n : Nat) w)
      have TM := Lib.hid (fun w => refTwo_any (p.m : Nat) w)
      obtain ⟨pa', n', cap', e', hl', hrd⟩ := HP5.out.read
      simp only [Value.slice.injEq] at e'
      obtain ⟨rfl, rfl, rfl⟩ := e'
      obtain ⟨g, off, rfl, hcel⟩ := hrd _ hbr (by omega)
      obtain ⟨c0, c1, c2, c3, c4⟩ := hcel k p hp
      have HRD := Lib.hid hrd
      have z1 := ESZ2.out k
      have z2 := ESZ2.out (k + 1)
      have hpl := PLN.out
      rw [EK] at z2
      have EKH := Lib.hid EK
      clear EK hcel hrd hbr hmem
      have AT := (Pln.box1 wr #[.int .i64 (p.x : Nat), .int .i64 (p.y : Nat), .int .i64 (p.n : Nat), .int .i64 (p.m : Nat)] 29).2
      have HW6 : RowKit.Hid (∀ W, Below (wr.heap.size + 1) (wr.alloc (.cells #[.int .i64 (p.x : Nat), .int .i64 (p.y : Nat), .int .i64 (p.n : Nat), .int .i64 (p.m : Nat)] 29)) W →
          W.cell? ⟨wr.heap.size, 0, none⟩ = some (.int .i64 (p.x : Nat)) ∧ W.cell? ⟨wr.heap.size, 1, none⟩ = some (.int .i64 (p.y : Nat)) ∧ W.cell? ⟨wr.heap.size, 2, none⟩ = some (.int .i64 (p.n : Nat)) ∧ W.cell? ⟨wr.heap.size, 3, none⟩ = some (.int .i64 (p.m : Nat))) := Lib.hid (fun W k => by
        exact ⟨(k.cell (Nat.lt_succ_self _)).trans (AT 0 _ rfl), (k.cell (Nat.lt_succ_self _)).trans (AT 1 _ rfl), (k.cell (Nat.lt_succ_self _)).trans (AT 2 _ rfl), (k.cell (Nat.lt_succ_self _)).trans (AT 3 _ rfl)⟩)
      have HB6 : RowKit.Hid (Below w5.heap.size w5 (wr.alloc (.cells #[.int .i64 (p.x : Nat), .int .i64 (p.y : Nat), .int .i64 (p.n : Nat), .int .i64 (p.m : Nat)] 29))) := Lib.hid (HBR.out.alloc HBR.out.size _)
      have hz6 := Pln.alloc_size wr (.cells #[.int .i64 (p.x : Nat), .int .i64 (p.y : Nat), .int .i64 (p.n : Nat), .int .i64 (p.m : Nat)] 29)
      clear AT
      go_wp2_with fail
      generalize wr.alloc (.cells #[.int .i64 (p.x : Nat), .int .i64 (p.y : Nat), .int .i64 (p.n : Nat), .int .i64 (p.m : Nat)] 29) = w6 at *
      have HP6 : RowKit.Hid (∀ W, Below w6.heap.size w6 W → PcAt W g (off + k * 5) p ∧ FmAt W w.heap.size f) := Lib.hid (fun W k6 => by
        have k5 := HB6.out.trans (k6.mono HB6.out.size)
        refine ⟨?_, HA.out W (HB5.out.trans (k5.mono HB5.out.size))⟩
        obtain ⟨g', off', e', hcel⟩ := HRD.out W k5 (by omega)
        simp only [Option.some.injEq, Addr.mk.injEq, and_true] at e'
        obtain ⟨rfl, rfl⟩ := e'
        exact hcel k p hp)
      have HE2 := Lib.hid EKH.out
      simp only [ByteArray.size_append] at z2
      clear EKH c0 c1 c2 c3 c4
      generalize encN f G PS k = S at *
      generalize valS f p.v = sv at *
      generalize putS 2 p.x = sx at *
      generalize putS 2 p.y = sy at *
      generalize putS 2 p.n = sn at *
      generalize putS 2 p.m = sm at *
      refine region_preds (by kernel_rfl) (rdV (.agg #[.int .i64 f.B, .int .i64 f.D, .bool f.big, .bool f.tr, .int .i64 f.rm, .int .i64 f.gm, .int .i64 f.bm, .int .i64 f.rs, .int .i64 f.gs, .int .i64 f.bs]) (.slice (some ⟨g, off, none⟩) PS.length pcap) (.pointer (some ⟨g, off + k * 5, none⟩)) (.pointer (some ⟨g, off + k * 5, none⟩)) (.pointer (some ⟨wr.heap.size, 0, none⟩)) (.pointer (some ⟨wr.heap.size, 1, none⟩)) (.pointer (some ⟨wr.heap.size, 2, none⟩)) (.pointer (some ⟨wr.heap.size, 3, none⟩)) (k : Nat) p.v (p.x : Nat) (p.y : Nat) (p.n : Nat) (p.m : Nat) S sv (S ++ sv) sx ((S ++ sv) ++ sx) sy (((S ++ sv) ++ sx) ++ sy) sn ((((S ++ sv) ++ sx) ++ sy) ++ sn) sm (((((S ++ sv) ++ sx) ++ sy) ++ sn) ++ sm)) (fun _ _ _ => True) (fun _ W => Below w6.heap.size w6 W) [4, 12, 14, 15] [none, none, none, none, none, none, none, none, none, none, none, none, none, some 25, none, none, none, none, none, none, none, none, none, none, none, none, none, none, none, none, none, none, none, none, none, none, none, none, none, none, none, none, none, none, none, none, none, none, none, none, none, none, none, none, none, none, none, some 0, some 1, some 2, some 3, some 4, some 5, some 6, some 7, some 8, some 9, some 10, some 11, some 12, some 13, some 14, some 15, some 16, some 17, some 18, some 19, some 20, some 21, some 22, some 23, some 24, none] (by kernel_rfl) (by kernel_rfl) (by rfl) (by kernel_rfl) (by kernel_rfl) (by kernel_rfl) (Below.refl _ _).drew ⟨?_, ?_, ?_, ?_, ?_, ?_, ?_, ?_, ?_, ?_, ?_, ?_, ?_, ?_, ?_, ?_, ?_, ?_, ?_, ?_, ?_, ?_, ?_, ?_, ?_, ?_, trivial⟩ ?_
      case refine_27 =>
        intro vs ℓ W3 hl hS hR
        have HZ7 := Lib.hid (HB6.out.trans (hS.mono HB6.out.size))
        clear hR hS hl
        simp only [zipF, rdV, Option.getD_some]
        clear vs
        go_wp2_with fail
        exact ⟨⟨k + 1, by omega, by go_num, by rw [HE2.out], HZ7.out⟩, by simp [intOf]; omega⟩
      case refine_1 =>
        intro ℓ act W9 hl hS hw hx hr hd
        have e5 : act.tmps[13]? = some (.string S) := hx 13 25 (by rfl) (by kernel_rfl)
        clear hw hx hr hd
        refine ⟨wanted_none (by rfl), fun K hK => ?_⟩
        go_simp
        exact hK _ _ rfl hS (fun _ _ _ _ _ => trivial)
      case refine_8 =>
        intro ℓ act W9 hl hS hw hx hr hd
        clear hw hx
        simp [readFacts, depFactsP, dstOf, Region.binds, rdV] at hr hd
        refine ⟨wanted_none (by rfl), fun K hK => ?_⟩
        go_simp
        refine (PV.out _).mono ?_
        rintro r w' ⟨rfl, b⟩
        exact hK _ _ rfl (hS.trans (b.mono hS.size)) (fun _ _ _ _ _ => trivial)
      case refine_12 =>
        intro ℓ act W9 hl hS hw hx hr hd
        clear hw hx
        simp [readFacts, depFactsP, dstOf, Region.binds, rdV] at hr hd
        refine ⟨wanted_none (by rfl), fun K hK => ?_⟩
        go_simp
        refine (TX.out _).mono ?_
        rintro r w' ⟨rfl, b⟩
        exact hK _ _ rfl (hS.trans (b.mono hS.size)) (fun _ _ _ _ _ => trivial)
      case refine_16 =>
        intro ℓ act W9 hl hS hw hx hr hd
        clear hw hx
        simp [readFacts, depFactsP, dstOf, Region.binds, rdV] at hr hd
        refine ⟨wanted_none (by rfl), fun K hK => ?_⟩
        go_simp
        refine (TY.out _).mono ?_
        rintro r w' ⟨rfl, b⟩
        exact hK _ _ rfl (hS.trans (b.mono hS.size)) (fun _ _ _ _ _ => trivial)
      case refine_20 =>
        intro ℓ act W9 hl hS hw hx hr hd
        clear hw hx
        simp [readFacts, depFactsP, dstOf, Region.binds, rdV] at hr hd
        refine ⟨wanted_none (by rfl), fun K hK => ?_⟩
        go_simp
        refine (TN.out _).mono ?_
        rintro r w' ⟨rfl, b⟩
        exact hK _ _ rfl (hS.trans (b.mono hS.size)) (fun _ _ _ _ _ => trivial)
      case refine_24 =>
        intro ℓ act W9 hl hS hw hx hr hd
        clear hw hx
        simp [readFacts, depFactsP, dstOf, Region.binds, rdV] at hr hd
        refine ⟨wanted_none (by rfl), fun K hK => ?_⟩
        go_simp
        refine (TM.out _).mono ?_
        rintro r w' ⟨rfl, b⟩
        exact hK _ _ rfl (hS.trans (b.mono hS.size)) (fun _ _ _ _ _ => trivial)
      case refine_9 =>
        intro ℓ act W9 hl hS hw hx hr hd
        clear hw hx
        simp [readFacts, depFactsP, dstOf, Region.binds, rdV] at hr hd
        refine ⟨wanted_none (by rfl), fun K hK => ?_⟩
        go_simp
        rw [if_neg (by omega)]
        exact hK _ _ rfl hS (fun _ _ _ _ _ => trivial)
      case refine_13 =>
        intro ℓ act W9 hl hS hw hx hr hd
        clear hw hx
        simp [readFacts, depFactsP, dstOf, Region.binds, rdV] at hr hd
        refine ⟨wanted_none (by rfl), fun K hK => ?_⟩
        go_simp
        rw [if_neg (by omega)]
        exact hK _ _ rfl hS (fun _ _ _ _ _ => trivial)
      case refine_17 =>
        intro ℓ act W9 hl hS hw hx hr hd
        clear hw hx
        simp [readFacts, depFactsP, dstOf, Region.binds, rdV] at hr hd
        refine ⟨wanted_none (by rfl), fun K hK => ?_⟩
        go_simp
        rw [if_neg (by omega)]
        exact hK _ _ rfl hS (fun _ _ _ _ _ => trivial)
      case refine_21 =>
        intro ℓ act W9 hl hS hw hx hr hd
        clear hw hx
        simp [readFacts, depFactsP, dstOf, Region.binds, rdV] at hr hd
        refine ⟨wanted_none (by rfl), fun K hK => ?_⟩
        go_simp
        rw [if_neg (by omega)]
        exact hK _ _ rfl hS (fun _ _ _ _ _ => trivial)
      case refine_25 =>
        intro ℓ act W9 hl hS hw hx hr hd
        clear hw hx
        simp [readFacts, depFactsP, dstOf, Region.binds, rdV] at hr hd
        refine ⟨wanted_none (by rfl), fun K hK => ?_⟩
        go_simp
        rw [if_neg (by omega)]
        exact hK _ _ rfl hS (fun _ _ _ _ _ => trivial)
      all_goals
        intro ℓ act W9 hl hS hw hx hr hd
        clear hw hx
        simp [readFacts, depFactsP, dstOf, Region.binds, rdV] at hr hd
        refine ⟨wanted_none (by rfl), fun K hK => ?_⟩
        obtain ⟨⟨c0, c1, c2, c3, c4⟩, ⟨d0, d1, d2, d3, d4, d5, d6, d7, d8, d9⟩⟩ := HP6.out W9 hS
        obtain ⟨q0, q1, q2, q3⟩ := HW6.out W9 (by rw [← hz6]; exact hS)
        go_simp
        exact hK _ _ rfl hS (fun _ _ _ _ _ => trivial)
    · obtain rfl : k = PS.length := by omega
      have dk : decide ((PS.length : Int) < (PS.length : Int)) = false := decide_eq_false (by omega)
      have HQ := Lib.hid (BEL.out.trans ((HB5.out.trans (hbr.mono HB5.out.size)).mono hle))
      clear hbr
      go_wp2_with fail
      go_ret2
      exact ⟨by rw [hS]; rfl, HQ.out⟩
  case refine_3 =>
    intro ℓ act W9 hl hS hw hx hr hd
    clear hw hx
    simp [readFacts, depFactsP, dstOf, Region.binds, heV] at hr hd
    refine ⟨wanted_none (by rfl), fun K hK => ?_⟩
    go_simp
    refine (FO.out _).mono ?_
    rintro r w' ⟨rfl, b⟩
    exact hK _ _ rfl (hS.trans (b.mono hS.size)) (fun _ _ _ _ _ => trivial)
  case refine_6 =>
    intro ℓ act W9 hl hS hw hx hr hd
    clear hw hx
    simp [readFacts, depFactsP, dstOf, Region.binds, heV] at hr hd
    refine ⟨wanted_none (by rfl), fun K hK => ?_⟩
    go_simp
    refine (PG.out _).mono ?_
    rintro r w' ⟨rfl, b⟩
    exact hK _ _ rfl (hS.trans (b.mono hS.size)) (fun _ _ _ _ _ => trivial)
  case refine_7 =>
    intro ℓ act W9 hl hS hw hx hr hd
    clear hw hx
    simp [readFacts, depFactsP, dstOf, Region.binds, heV] at hr hd
    refine ⟨wanted_none (by rfl), fun K hK => ?_⟩
    go_simp
    rw [if_neg (by omega)]
    exact hK _ _ rfl hS (fun _ _ _ _ _ => trivial)
  all_goals
    intro ℓ act W9 hl hS hw hx hr hd
    clear hw hx
    simp [readFacts, depFactsP, dstOf, Region.binds, heV] at hr hd
    refine ⟨wanted_none (by rfl), fun K hK => ?_⟩
    obtain ⟨d0, d1, d2, d3, d4, d5, d6, d7, d8, d9⟩ := HA.out W9 (HB5.out.trans (hS.mono HB5.out.size))
    go_simp
    exact hK _ _ rfl hS (fun _ _ _ _ _ => trivial)
end Go.Proofs.Ytmjjbapahgejmaa.Rre
