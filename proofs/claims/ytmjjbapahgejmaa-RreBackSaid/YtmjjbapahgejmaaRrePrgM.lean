/-
  The program of layer 17 (rre): Encode.
-/
import Derived.Test.YtmjjbapahgejmaaRrePrgL
import Derived.Test.YtmjjbapahgejmaaRreVals
import Derived.Test.YtmjjbapahgejmaaPlnPrgC
namespace Go.Proofs.Ytmjjbapahgejmaa.Rre
open Go.ChangeShapes Go.WideShapes Go.ChangeAt Go.RowKit Lz RowG RegVal Pln
open Go.Proofs.Ytmjjbapahgejmaa.Fmt (Fm FmAt size_any fput_any)
open Go.Proofs.Ytmjjbapahgejmaa.Oct (putS putE okB)
set_option linter.unusedVariables false
set_option linter.unusedSimpArgs false
set_option maxRecDepth 100000

/-- So many numbers behind a text. -/
def catJ (S : ByteArray) (xs : List Int) : Nat → ByteArray
  | 0 => S
  | j + 1 => catJ S xs j ++ putS 2 (px xs j)
theorem catJ_size (S : ByteArray) (xs : List Int) : ∀ j, (catJ S xs j).size ≤ S.size + 4 * j
  | 0 => Nat.le_refl _
  | j + 1 => by
    have := catJ_size S xs j
    have := putS_size 2 (px xs j)
    simp only [catJ, ByteArray.size_append]
    omega
def roomV (F l : Value) (z n q1 q2 m p : Int) : Nat → Value
  | 0 => F
  | 1 => .int .i64 z
  | 2 => .int .i64 q1
  | 3 => l
  | 4 => .int .i64 n
  | 5 => F
  | 6 => .int .i64 p
  | 7 => .int .i64 q2
  | 8 => .int .i64 m
  | _ => .tuple #[]
def roomS (w5 : World) (c m : Nat) (ℓ : Nat → Bool) (W : World) : Prop :=
  Below c w5 W ∧ c ≤ W.heap.size ∧ (ℓ 9 = false → Bld.BdAt W c c (.pointer none) (.slice none 0 0) [] m) ∧ (ℓ 9 = true → EnJ w5 c m ⟨#[]⟩ W)
theorem roomS_keep {w5 W : World} {c m : Nat} {ℓ : Nat → Bool} {j : Nat} (h : roomS w5 c m ℓ W) (hj : j ≠ 9) : roomS w5 c m (fun q => if q = j then true else ℓ q) W :=
  ⟨h.1, h.2.1, fun hl => h.2.2.1 (by simpa [Ne.symm hj] using hl), fun hl => h.2.2.2 (by simpa [Ne.symm hj] using hl)⟩
theorem roomS_below {w5 W W' : World} {c m : Nat} {ℓ : Nat → Bool} (h : roomS w5 c m ℓ W) (k : Below W.heap.size W W') : roomS w5 c m ℓ W' :=
  ⟨h.1.trans (k.mono h.2.1), Nat.le_trans h.2.1 k.size, fun hl => (h.2.2.1 hl).below k, fun hl => (h.2.2.2 hl).below k⟩
theorem index4 (x y n m : Int) (w : World) :
    (Instr.index 71 (.agg #[.int .i64 x, .int .i64 y, .int .i64 n, .int .i64 m]) (.int .i64 0)).run Try.prog w = .ok (.int .i64 x) w ∧
    (Instr.index 71 (.agg #[.int .i64 x, .int .i64 y, .int .i64 n, .int .i64 m]) (.int .i64 1)).run Try.prog w = .ok (.int .i64 y) w ∧
    (Instr.index 71 (.agg #[.int .i64 x, .int .i64 y, .int .i64 n, .int .i64 m]) (.int .i64 2)).run Try.prog w = .ok (.int .i64 n) w ∧
    (Instr.index 71 (.agg #[.int .i64 x, .int .i64 y, .int .i64 n, .int .i64 m]) (.int .i64 3)).run Try.prog w = .ok (.int .i64 m) w := ⟨by kernel_rfl, by kernel_rfl, by kernel_rfl, by kernel_rfl⟩
set_option maxHeartbeats 4000000 in
theorem encode_any (f : Fm) (hwf : f.Wf) (a b : Int) (vp : Value) (L : List Int) (w : World) (hL : SW w vp L) (hn : L.length ≤ 100000) (hWL : Wfs L)
    (ha : -9223372036854775808 ≤ a ∧ a ≤ 9223372036854775807) (hb : -9223372036854775808 ≤ b ∧ b ≤ 9223372036854775807) :
    Calls Try.prog 14 #[f.v, .int .i64 a, .int .i64 b, vp] w fun e w' => e = .returned (.tuple #[.string (encS f a b L), .int .i64 (encE f a b L)]) ∧ Below w.heap.size w w' := by
  have FT := Lib.hid (fun w => fits_any f hwf a b w)
  have HS : RowKit.Hid (encS f a b L = if encOk f a b L then encB f a.toNat b.toNat L else ⟨#[]⟩) := Lib.hid rfl
  have HE : RowKit.Hid (encE f a b L = if encOk f a b L then 0 else 1) := Lib.hid rfl
  have HOK : RowKit.Hid (encOk f a b L = (fitsB f a b && decide ((L.length : Int) = a * b))) := Lib.hid rfl
  have FP : RowKit.Hid (fitsB f a b = true → _) := Lib.hid (fun h => fits_parts h)
  have PSZ := Lib.hid (fun w => pieceSize_any f hwf w)
  have SZA := Lib.hid (fun w => size_any f hwf w)
  have VL := Lib.hid (fun (h : f.ok = true) w u (k : SW w u L) => values_any f hwf u L w k hWL (by omega))
  have PU := Lib.hid (fun (h : f.ok = true) v (s : Small v) w => fput_any f hwf v (small_wf s) w)
  have SV := Lib.hid (fun (h : f.ok = true) => small_vals h L)
  have SG := Lib.hid (fun (h : f.ok = true) => small_ground (small_vals h L))
  have SPc := Lib.hid (fun (h : f.ok = true) => small_piece (w := a.toNat) (h := b.toNat) (g := groundL (valsL f L)) (small_vals h L))
  have ESZ := Lib.hid (fun (h : f.ok = true) k => encN_size h (groundL (valsL f L)) (piecesN a.toNat b.toNat (valsL f L) (groundL (valsL f L))) k)
  have EST := Lib.hid (fun k p h => encN_step (f := f) (g := groundL (valsL f L)) (l := piecesN a.toNat b.toNat (valsL f L) (groundL (valsL f L))) (k := k) (p := p) h)
  have AT := FmAt.box f w 37
  have bel := (Below.refl w.heap.size w).alloc (Nat.le_refl _) (.cells #[.int .i64 f.B, .int .i64 f.D, .bool f.big, .bool f.tr, .int .i64 f.rm, .int .i64 f.gm, .int .i64 f.bm, .int .i64 f.rs, .int .i64 f.gs, .int .i64 f.bs] 37)
  have hsz : (w.alloc (.cells #[.int .i64 f.B, .int .i64 f.D, .bool f.big, .bool f.tr, .int .i64 f.rm, .int .i64 f.gm, .int .i64 f.bm, .int .i64 f.rs, .int .i64 f.gs, .int .i64 f.bs] 37)).heap.size = w.heap.size + 1 := Pln.alloc_size _ _
  obtain ⟨w1, hw1⟩ : ∃ w1, w.alloc (.cells #[.int .i64 f.B, .int .i64 f.D, .bool f.big, .bool f.tr, .int .i64 f.rm, .int .i64 f.gm, .int .i64 f.bm, .int .i64 f.rs, .int .i64 f.gs, .int .i64 f.bs] 37) = w1 := ⟨_, rfl⟩
  rw [hw1] at AT bel hsz
  have HA := Lib.hid (fun W (hW : Below w1.heap.size w1 W) => AT.below hW (by omega))
  have HF : f.v = .agg #[.int .i64 f.B, .int .i64 f.D, .bool f.big, .bool f.tr, .int .i64 f.rm, .int .i64 f.gm, .int .i64 f.bm, .int .i64 f.rs, .int .i64 f.gs, .int .i64 f.bs] := rfl
  have HSW := Lib.hid (fun W (hW : Below w1.heap.size w1 W) => hL.below (bel.trans (hW.mono bel.size)))
  have BEL := Lib.hid bel
  have hle : w.heap.size ≤ w1.heap.size := bel.size
  have hLl : ∃ x n cap, vp = .slice x n cap ∧ L.length = n := by
    obtain ⟨x, n, cap, e, h, _⟩ := hL.read
    exact ⟨x, n, cap, e, h⟩
  obtain ⟨va, n, vcap, rfl, hLn⟩ := hLl
  obtain ⟨d0, d1, d2, d3, d4, d5, d6, d7, d8, d9⟩ := AT
  rw [HF] at FT VL PU PSZ SZA ⊢
  have HVS : RowKit.Hid (f.ok = true → ∀ v, valS f v = f.put v) := Lib.hid (fun h v => valS_put h v)
  have HVI : RowKit.Hid (f.ok = true → L.map f.valI = valsL f L) := Lib.hid (fun h => by unfold valsL; refine List.map_congr_left (fun c _ => ?_); unfold Fm.valI; rw [if_pos h])
  have HWS := Lib.hid (fun (h : f.ok = true) v (s : Small v) => small_wf s)
  have HLn := Lib.hid hLn
  rw [hLn] at hn HOK
  clear hL bel hsz hLn hwf HF
  obtain ⟨ES, hES⟩ : ∃ ES, encS f a b L = ES := ⟨_, rfl⟩
  obtain ⟨EE, hEE⟩ : ∃ EE, encE f a b L = EE := ⟨_, rfl⟩
  rw [hES] at HS ⊢
  rw [hEE] at HE ⊢
  clear hES hEE
  go_enter Try.func14, Try.ntmps14
  cases hfit : fitsB f a b with
  | false =>
    rw [hfit] at HOK FT
    have e : encOk f a b L = false := by rw [HOK.out]; rfl
    have hS := HS.out
    have hE := HE.out
    rw [e] at hS hE
    simp only [Bool.false_eq_true, if_false] at hS hE
    subst hS hE
    clear HS HE HOK VL PU SV SG SPc ESZ EST HSW HVS FP
    go_wp2_with fail
    refine (FT.out _).mono ?_
    rintro r w2 ⟨rfl, b2⟩
    have HB := Lib.hid (BEL.out.trans (b2.mono hle))
    clear b2 FT HA d0 d1 d2 d3 d4 d5 d6 d7 d8 d9
    go_wp2_with fail
    go_ret2
    exact ⟨rfl, HB.out⟩
  | true =>
  rw [hfit] at HOK FT
  obtain ⟨hok, a0, a1, b0, b1⟩ := FP.out hfit
  clear FP hfit
  obtain ⟨A, rfl⟩ : ∃ A : Nat, a = A := ⟨a.toNat, by omega⟩
  obtain ⟨B, rfl⟩ : ∃ B : Nat, b = B := ⟨b.toNat, by omega⟩
  simp only [Int.toNat_natCast] at HS SPc ESZ EST
  have hAB : A * B ≤ 4096 * 4096 := Nat.mul_le_mul (by omega) (by omega)
  have ETS := Lib.hid (fun (h : f.ok = true) => enc_size h (W := A) (H := B) (by omega) (by omega) L)
  have t0 : IntKind.i64.wrap ((A : Int) * B) = ((A * B : Nat) : Int) := by
    rw [← Int.natCast_mul]
    exact IntWalk.i64_in _ (by omega)
  obtain ⟨N, hN⟩ : ∃ N, A * B = N := ⟨_, rfl⟩
  have hN' : (A : Int) * B = (N : Int) := by rw [← hN, Int.natCast_mul]
  rw [hN'] at HOK
  rw [hN] at t0 hAB
  by_cases hnN : n = N
  case neg =>
    have d : decide ((n : Int) = (N : Int)) = false := decide_eq_false (by omega)
    have d6 : ((n : Int) == (N : Int)) = false := by simp; omega
    have d7 : ((n : Int) != (N : Int)) = true := by simp; omega
    have d8 : decide (n = N) = false := decide_eq_false hnN
    have e : encOk f A B L = false := by rw [HOK.out, d]; rfl
    have hS := HS.out
    have hE := HE.out
    rw [e] at hS hE
    simp only [Bool.false_eq_true, if_false] at hS hE
    subst hS hE
    clear HS HE HOK VL PU SV SG SPc ESZ EST HSW HVS e hN hN'
    go_wp2_with fail
    refine (FT.out _).mono ?_
    rintro r w2 ⟨rfl, b2⟩
    have HB := Lib.hid (BEL.out.trans (b2.mono hle))
    clear b2 FT HA d0 d1 d2 d3 d4 d5 d6 d7 d8 d9
    go_wp2_with fail
    go_ret2
    exact ⟨rfl, HB.out⟩
  subst hnN
  have dN : decide ((n : Int) = (n : Int)) = true := decide_eq_true rfl
  have e : encOk f A B L = true := by rw [HOK.out, dN]; rfl
  have hS := HS.out
  have hE := HE.out
  rw [e] at hS hE
  simp only [if_true] at hS hE
  subst hE
  clear HS HE HOK e
  have ETS2 := Lib.hid (ETS.out hok)
  rw [← hS] at ETS2
  unfold encB at hS
  have VL2 := Lib.hid (VL.out hok)
  have PU2 : RowKit.Hid (∀ v, Small v → ∀ w, Calls Try.prog 35 #[.agg #[.int .i64 f.B, .int .i64 f.D, .bool f.big, .bool f.tr, .int .i64 f.rm, .int .i64 f.gm, .int .i64 f.bm, .int .i64 f.rs, .int .i64 f.gs, .int .i64 f.bs], .int .i64 v] w fun e w' => e = .returned (.string (valS f v)) ∧ Below w.heap.size w w') := Lib.hid (fun v s w => by rw [HVS.out hok]; exact PU.out hok v s w)
  have SG2 := Lib.hid (SG.out hok)
  have SP2 := Lib.hid (SPc.out hok)
  have ESZ2 := Lib.hid (ESZ.out hok)
  have HVAL := HVI.out hok
  rw [HVAL] at VL2
  have SV2 := Lib.hid (SV.out hok)
  have HVN : RowKit.Hid ((valsL f L).length = n) := Lib.hid (by unfold valsL; rw [List.length_map]; exact HLn.out)
  clear VL PU SG SPc ESZ HVAL HVS HVI HWS
  generalize hVS : valsL f L = VS at *
  clear hVS
  generalize hG : groundL VS = G at *
  have PCL : RowKit.Hid (piecesL A B VS G = piecesN A B VS G) := Lib.hid (by
    unfold piecesL
    rw [if_neg (by rw [HVN.out, hN']; omega)]
    rfl)
  have PIN : RowKit.Hid (∀ p ∈ piecesN A B VS G, p.x + p.n ≤ 4096 ∧ p.y + p.m ≤ 4096) := Lib.hid (fun p hp => by
    have := (pieces_inv A B VS G).inside p hp
    omega)
  have PLN : RowKit.Hid ((piecesN A B VS G).length ≤ n) := Lib.hid (by rw [← hN]; exact pieces_length _ _ _ _)
  have HG := Lib.hid hG
  generalize hPS : piecesN A B VS G = PS at *
  clear hPS hN hN' hG
  go_wp2_with fail
  refine (FT.out _).mono ?_
  rintro r w2 ⟨rfl, b2⟩
  have HB2 := Lib.hid b2
  have FA2 := HA.out w2 b2
  have hs2 : w1.heap.size ≤ w2.heap.size := b2.size
  clear b2 FT d0 d1 d2 d3 d4 d5 d6 d7 d8 d9
  obtain ⟨d0, d1, d2, d3, d4, d5, d6, d7, d8, d9⟩ := FA2
  go_wp2_with fail
  refine (VL2.out _ _ (HSW.out w2 HB2.out)).mono ?_
  rintro r w3 ⟨u, rfl, hu, b3⟩
  have HB3 := Lib.hid (HB2.out.trans (b3.mono hs2))
  have HU := Lib.hid hu
  obtain ⟨ua, ucap, rfl⟩ := RowAt.shape hu
  have hs3 : w2.heap.size ≤ w3.heap.size := b3.size
  clear b3 hu d0 d1 d2 d3 d4 d5 d6 d7 d8 d9
  go_wp2_with fail
  refine (ground_any VS _ w3 (IntsAt.si HU.out).sw (by rw [HVN.out]; omega) (fun c hc => by
    obtain ⟨i, hi, rfl⟩ := List.getElem_of_mem hc
    have := SV2.out i
    rw [px_get hi] at this
    exact small_wf this)).mono ?_
  rintro r w4 ⟨rfl, b4⟩
  rw [HG.out]
  have HU4 := Lib.hid (RowAt.below HU.out b4)
  have HB4 := Lib.hid (HB3.out.trans (b4.mono HB3.out.size))
  clear b4 HU
  go_wp2_with fail
  refine (pieces_any A B VS _ G w4 (IntsAt.si HU4.out).sw (by rw [HVN.out]; omega) (by omega) (by omega)).mono ?_
  rintro r w5 ⟨u, rfl, hp, b5⟩
  rw [PCL.out] at hp
  have HP5 := Lib.hid (PcsAt.sp hp)
  obtain ⟨pa, pcap, rfl⟩ := RowAt.shape hp
  have HB5 := Lib.hid (HB4.out.trans (b5.mono HB4.out.size))
  clear b5 hp HU4 PCL
  have FA5 := HA.out w5 HB5.out
  obtain ⟨d0, d1, d2, d3, d4, d5, d6, d7, d8, d9⟩ := FA5
  have hw5 : w.heap.size ≤ w5.heap.size := by have := HB5.out.size; omega
  obtain ⟨c, hc⟩ : ∃ c, w5.heap.size = c := ⟨_, rfl⟩
  have n6 := heap_alloc_new w5 (.cells #[.pointer none, .slice none 0 0] 63)
  have z6 := Pln.alloc_size w5 (.cells #[.pointer none, .slice none 0 0] 63)
  have k6 := (Below.refl w5.heap.size w5).alloc (Nat.le_refl _) (.cells #[.pointer none, .slice none 0 0] 63)
  rw [hc] at n6 z6 k6
  have hsz : f.size = (f.B / 8).toNat := if_pos hok
  have hs4 := (Fmt.size_le4 f).1
  have hMS := ETS2.out
  rw [← hsz] at hMS
  obtain ⟨m, hm⟩ : ∃ m, 4 + f.size + PS.length * (f.size + 8) = m := ⟨_, rfl⟩
  rw [hm] at hMS
  have hpl := PLN.out
  have hpz : PS.length * (f.size + 8) ≤ 100000 * 12 := Nat.mul_le_mul (by omega) (by omega)
  have t1 : IntKind.i64.wrap ((4 : Int) + (f.size : Nat)) = ((4 + f.size : Nat) : Int) := by rw [IntWalk.i64_in _ (by omega)]; omega
  have t2 : IntKind.i64.wrap (((PS.length : Nat) : Int) * (((f.size : Nat) : Int) + 8)) = ((PS.length * (f.size + 8) : Nat) : Int) := by
    have : (((PS.length : Nat) : Int) * (((f.size : Nat) : Int) + 8)) = ((PS.length * (f.size + 8) : Nat) : Int) := by simp
    rw [this]; exact IntWalk.i64_in _ (by omega)
  obtain ⟨q1, hq1⟩ : ∃ q1, 4 + f.size = q1 := ⟨_, rfl⟩
  obtain ⟨q2, hq2⟩ : ∃ q2, PS.length * (f.size + 8) = q2 := ⟨_, rfl⟩
  rw [hq1] at t1 hm
  rw [hq2] at t2 hm hpz
  have t3 : IntKind.i64.wrap ((q1 : Int) + (q2 : Int)) = (m : Nat) := by rw [IntWalk.i64_in _ (by omega)]; omega
  have hm0 : 0 < m := by omega
  have hmb : m ≤ 10000000 := by omega
  have HMS := Lib.hid hMS
  clear hsz
  generalize f.size = z at *
  have RM := Lib.hid (fun W (h : Bld.BdAt W c c (.pointer none) (.slice none 0 0) [] m) (hB : c ≤ W.heap.size) => Bld.room_any c c m W h hB (by omega))
  have HA5 := Lib.hid (fun W (h : Below c w5 W) => HA.out W (HB5.out.trans (h.mono (by rw [← hc]; exact HB5.out.size))))
  obtain ⟨pa', n', cap', e', hl', hrd⟩ := HP5.out.read
  simp only [Value.slice.injEq] at e'
  obtain ⟨rfl, rfl, rfl⟩ := e'
  have HRD : RowKit.Hid (∀ W', Below c w5 W' → 0 < PS.length → ∃ g off, pa = some ⟨g, off, none⟩ ∧ ∀ i p, PS[i]? = some p → PcAt W' g (off + i * 5) p) := Lib.hid (fun W' h => hrd W' (by rw [hc]; exact h))
  have HT1 := Lib.hid (And.intro t1 (And.intro t2 t3))
  clear hrd hq1 hq2 hMS hpz hm t1 t2 t3
  go_wp2_with fail
  generalize w5.alloc (.cells #[.pointer none, .slice none 0 0] 63) = w6 at *
  have HS0 : RowKit.Hid (roomS w5 c m (fun _ => false) w6.drew) := Lib.hid ⟨k6.drew, by rw [show w6.drew.heap.size = w6.heap.size from rfl]; omega, fun _ => ⟨Nat.le_refl _, n6, ⟨rfl, .inl ⟨rfl, rfl⟩⟩, by simp [Value.ownBlock], .inl rfl⟩, fun h => by cases h⟩
  clear n6 z6 k6 d0 d1 d2 d3 d4 d5 d6 d7 d8 d9
  refine region_alls (by kernel_rfl) (roomV (.agg #[.int .i64 f.B, .int .i64 f.D, .bool f.big, .bool f.tr, .int .i64 f.rm, .int .i64 f.gm, .int .i64 f.bm, .int .i64 f.rs, .int .i64 f.gs, .int .i64 f.bs]) (.slice pa PS.length pcap) z PS.length q1 q2 m ((z : Nat) + 8 : Int)) (roomS w5 c m) [4, 12, 13] [none, none, none, none, none, none, none, none, none, none, none, none, none, none, none, none, none, none, none, none, none, none, none, none, none, none, none, none, none, none, none, none, none, none, none, none, none, none, none, none, none, some 0, some 1, some 2, some 3, some 4, some 5, some 6, some 7, some 8, some 9, none, none, none, none, none, none, none, none, none, none, none, none, none, none, none, none, none, none, none, none, none, none, none, none, none, none, none, none, none] (by kernel_rfl) (by kernel_rfl) (by rfl) (by kernel_rfl) (by kernel_rfl) (by kernel_rfl) HS0.out ⟨?_, ?_, ?_, ?_, ?_, ?_, ?_, ?_, ?_, ?_, trivial⟩ ?_
  case refine_11 =>
    intro ℓ W7 hl hS
    have HE7 := Lib.hid (hS.2.2.2 (hl 9 (by decide)))
    clear hS hl RM HS0 PSZ SZA HT1
    simp only [zipF, roomV]
    have hemp : ∀ s : ByteArray, (⟨#[]⟩ : ByteArray) ++ s = s := fun s => by apply ByteArray.ext; simp
    have s4z := putS_size 4 PS.length
    have WN := Lib.hid (writeNumber_any w5 c m ⟨#[]⟩ 4 (PS.length : Nat) W7 HE7.out (by rw [show (⟨#[]⟩ : ByteArray).size = 0 from rfl]; omega) hm0)
    rw [hemp] at WN
    have ESZ0 := ESZ2.out 0
    have E0 : encN f G PS 0 = putS 4 PS.length ++ valS f G := rfl
    have hsum := ESZ0
    rw [E0] at hsum
    simp only [ByteArray.size_append] at hsum
    have PG := Lib.hid (PU2.out G SG2.out)
    have HE0 := Lib.hid E0
    clear E0 ESZ0 hemp
    obtain ⟨S0, hS0⟩ : ∃ S0, encN f G PS 0 = S0 := ⟨_, rfl⟩
    rw [hS0] at HE0
    have HS0 := Lib.hid hS0
    clear hS0
    generalize putS 4 PS.length = s4 at *
    generalize valS f G = sg at *
    go_wp2_with fail
    refine WN.out.mono ?_
    rintro r w8 ⟨rfl, h8, _⟩
    have HE8 := Lib.hid h8
    obtain ⟨d0, d1, d2, d3, d4, d5, d6, d7, d8, d9⟩ := HA5.out w8 h8.low
    clear h8 WN HE7
    go_wp2_with fail
    refine (PG.out w8).mono ?_
    rintro r w9 ⟨rfl, b9⟩
    have WR := Lib.hid (write_en w5 c m s4 sg w9 (HE8.out.below b9) (by omega) hm0)
    clear b9 HE8 PG d0 d1 d2 d3 d4 d5 d6 d7 d8 d9
    go_wp2_with fail
    refine WR.out.mono ?_
    rintro r w10 ⟨rfl, h10, _⟩
    rw [← HE0.out, ← HS0.out] at h10
    have HE10 := Lib.hid h10
    clear h10 WR HE0 HS0
    go_wp2_with fail
    go_loopw [60] (fun vi wr => ∃ k : Nat, k ≤ PS.length ∧ vi = .int .i64 k ∧ EnJ w5 c m (encN f G PS k) wr) (fun vi _ => PS.length - (intOf vi).toNat)
    case atStart => exact ⟨0, Nat.zero_le _, rfl, HE10.out⟩
    case round =>
      obtain ⟨k, hk, rfl, hE⟩ := hrel
      have HEK := Lib.hid hE
      by_cases hlt : k < PS.length
      · have dk : decide ((k : Int) < (PS.length : Int)) = true := decide_eq_true (by omega)
        obtain ⟨p, hp⟩ : ∃ p, PS[k]? = some p := ⟨PS[k], List.getElem?_eq_getElem hlt⟩
        have hmem : p ∈ PS := List.mem_of_getElem? hp
        have HEQ := Lib.hid (EST.out k p hp)
        have PV := Lib.hid (PU2.out p.v (SP2.out p hmem))
        obtain ⟨g, off, rfl, hcel⟩ := HRD.out _ hE.low (by omega)
        obtain ⟨c0, c1, c2, c3, c4⟩ := hcel k p hp
        have z1 := ESZ2.out k
        have hvs := valS_size hok p.v
        have n11 := heap_alloc_new wr (.cells #[.int .i64 p.v, .int .i64 p.x, .int .i64 p.y, .int .i64 p.n, .int .i64 p.m] 31)
        have z11 := Pln.alloc_size wr (.cells #[.int .i64 p.v, .int .i64 p.x, .int .i64 p.y, .int .i64 p.n, .int .i64 p.m] 31)
        have e11 := hE.below ((Below.refl _ _).alloc (Nat.le_refl _) (.cells #[.int .i64 p.v, .int .i64 p.x, .int .i64 p.y, .int .i64 p.n, .int .i64 p.m] 31))
        have hcr := hE.sz
        have a0 := cellAt (o := 0) n11 rfl
        have a1 := cellAt (o := 1) n11 rfl
        have a2 := cellAt (o := 2) n11 rfl
        have a3 := cellAt (o := 3) n11 rfl
        have a4 := cellAt (o := 4) n11 rfl
        obtain ⟨d0, d1, d2, d3, d4, d5, d6, d7, d8, d9⟩ := HA5.out _ e11.low
        have HN11 := Lib.hid n11
        have HE11 := Lib.hid e11
        clear n11 e11 hcel hE hmem z11
        go_wp2_with fail
        generalize wr.alloc (.cells #[.int .i64 p.v, .int .i64 p.x, .int .i64 p.y, .int .i64 p.n, .int .i64 p.m] 31) = w11 at *
        obtain ⟨D, hD⟩ : ∃ D, wr.heap.size = D := ⟨_, rfl⟩
        rw [hD] at HN11 hcr ⊢
        refine (PV.out w11).mono ?_
        rintro r w12 ⟨rfl, b12⟩
        have WR := Lib.hid (write_en w5 c m (encN f G PS k) (valS f p.v) w12 (HE11.out.below b12) (by omega) hm0)
        have HN12 := Lib.hid ((KD.of_below (c := c) b12) D _ _ _ HN11.out (by decide) (by omega))
        have hSV : (encN f G PS k ++ valS f p.v).size ≤ 8 + 20 * k + 4 := by rw [ByteArray.size_append]; omega
        generalize encN f G PS k ++ valS f p.v = SV at *
        generalize valS f p.v = sv at *
        clear b12 HN11 HE11 PV d0 d1 d2 d3 d4 d5 d6 d7 d8 d9 a0 a1 a2 a3 a4 c0 c1 c2 c3 c4
        go_wp2_with fail
        refine WR.out.mono ?_
        rintro r w13 ⟨rfl, h13, k13⟩
        have n13 := k13 D _ _ _ HN12.out (by decide) (by omega)
        have HE13 := Lib.hid h13
        have a1 := cellAt (o := 1) n13 rfl
        have a2 := cellAt (o := 2) n13 rfl
        have a3 := cellAt (o := 3) n13 rfl
        have a4 := cellAt (o := 4) n13 rfl
        clear h13 k13 n13 WR HN12
        go_wp2_with fail
        refine (numbers_any p.x p.y p.n p.m w13).mono ?_
        rintro r w14 ⟨rfl, b14⟩
        have HE14 := Lib.hid (HE13.out.below b14)
        have HCJ := Lib.hid (catJ_size SV [(p.x : Int), p.y, p.n, p.m])
        have HCS : RowKit.Hid (∀ j, catJ SV [(p.x : Int), p.y, p.n, p.m] (j + 1) = catJ SV [(p.x : Int), p.y, p.n, p.m] j ++ putS 2 (px [(p.x : Int), p.y, p.n, p.m] j)) := Lib.hid (fun j => rfl)
        have HC4 : RowKit.Hid (encN f G PS (k + 1) = catJ SV [(p.x : Int), p.y, p.n, p.m] 4) := Lib.hid HEQ.out
        have HC0 : RowKit.Hid (catJ SV [(p.x : Int), p.y, p.n, p.m] 0 = SV) := Lib.hid rfl
        have hP0 : px [(p.x : Int), p.y, p.n, p.m] 0 = p.x := rfl
        have hP1 : px [(p.x : Int), p.y, p.n, p.m] 1 = p.y := rfl
        have hP2 : px [(p.x : Int), p.y, p.n, p.m] 2 = p.n := rfl
        have hP3 : px [(p.x : Int), p.y, p.n, p.m] 3 = p.m := rfl
        have HPX := Lib.hid (And.intro hP0 (And.intro hP1 (And.intro hP2 hP3)))
        generalize catJ SV [(p.x : Int), p.y, p.n, p.m] = CJ at *
        generalize px [(p.x : Int), p.y, p.n, p.m] = XJ at *
        clear b14 HE13 HEQ a1 a2 a3 a4 hP0 hP1 hP2 hP3
        go_wp2_with fail
        go_loopw [72] (fun vj wq => ∃ j : Nat, j ≤ 4 ∧ vj = .int .i64 j ∧ EnJ w5 c m (CJ j) wq) (fun vj _ => 4 - (intOf vj).toNat)
        case atStart => exact ⟨0, by decide, rfl, by rw [HC0.out]; exact HE14.out⟩
        case round =>
          obtain ⟨j, hj, rfl, hEj⟩ := hrel
          have HEJ := Lib.hid hEj
          have hcj := HCJ.out j
          have HCSJ := Lib.hid (HCS.out j)
          have WNJ := Lib.hid (fun n => writeNumber_any w5 c m (CJ j) 2 n wr hEj (by have := putS_size 2 n; omega) hm0)
          obtain ⟨hP0, hP1, hP2, hP3⟩ := HPX.out
          obtain ⟨x0, x1, x2, x3⟩ := index4 p.x p.y p.n p.m wr
          clear hEj
          by_cases hj4 : j < 4
          · obtain rfl | rfl | rfl | rfl : j = 0 ∨ j = 1 ∨ j = 2 ∨ j = 3 := by omega
            · rw [hP0] at HCSJ
              go_wp2_with fail
              refine (WNJ.out _).mono ?_
              rintro r w16 ⟨rfl, h16, _⟩
              rw [← HCSJ.out] at h16
              have HE16 := Lib.hid h16
              clear h16 WNJ
              go_wp2_with fail
              exact ⟨⟨1, by decide, by go_num, HE16.out⟩, by simp [intOf]⟩
            · rw [hP1] at HCSJ
              go_wp2_with fail
              refine (WNJ.out _).mono ?_
              rintro r w16 ⟨rfl, h16, _⟩
              rw [← HCSJ.out] at h16
              have HE16 := Lib.hid h16
              clear h16 WNJ
              go_wp2_with fail
              exact ⟨⟨2, by decide, by go_num, HE16.out⟩, by simp [intOf]⟩
            · rw [hP2] at HCSJ
              go_wp2_with fail
              refine (WNJ.out _).mono ?_
              rintro r w16 ⟨rfl, h16, _⟩
              rw [← HCSJ.out] at h16
              have HE16 := Lib.hid h16
              clear h16 WNJ
              go_wp2_with fail
              exact ⟨⟨3, by decide, by go_num, HE16.out⟩, by simp [intOf]⟩
            · rw [hP3] at HCSJ
              go_wp2_with fail
              refine (WNJ.out _).mono ?_
              rintro r w16 ⟨rfl, h16, _⟩
              rw [← HCSJ.out] at h16
              have HE16 := Lib.hid h16
              clear h16 WNJ
              go_wp2_with fail
              exact ⟨⟨4, by decide, by go_num, HE16.out⟩, by simp [intOf]⟩
          · obtain rfl : j = 4 := by omega
            have HE15 : RowKit.Hid (EnJ w5 c m (encN f G PS (k + 1)) wr) := Lib.hid (by rw [HC4.out]; exact HEJ.out)
            clear WNJ
            go_wp2_with fail
            exact ⟨⟨k + 1, by omega, by go_num, HE15.out⟩, by simp [intOf]; omega⟩
      · obtain rfl : k = PS.length := by omega
        have dk : decide ((PS.length : Int) < (PS.length : Int)) = false := decide_eq_false (by omega)
        rw [← hS] at hE
        obtain ⟨v, hv⟩ := hE.bd
        have hlen : ES.data.toList.length = m := by rw [show ES.data.toList.length = ES.size by simp]; exact HMS.out
        have ST := Lib.hid (Bld.string_any c c m _ v ES.data.toList wr hv (by rw [hlen]; omega) hlen (Nat.le_of_lt hv.lt))
        have HLO := Lib.hid hE.low
        have hle5 : w1.heap.size ≤ c := by rw [← hc]; exact HB5.out.size
        clear hE hv hlen
        go_wp2_with fail
        refine ST.out.mono ?_
        rintro r w15 ⟨rfl, b15, _⟩
        have HQ := Lib.hid (BEL.out.trans ((HB5.out.trans ((HLO.out.trans b15).mono hle5)).mono hle))
        clear b15
        go_wp2_with fail
        go_ret2
        exact ⟨by simp; rw [hS], HQ.out⟩
  case refine_10 =>
    intro ℓ act Wd hl hS hw hr hd
    clear hw
    simp [readFacts, depFacts, dstOf, Region.binds, roomV] at hr hd
    refine ⟨wanted_none (by rfl), fun K hK => ?_⟩
    go_simp
    refine (RM.out Wd (hS.2.2.1 hl) hS.2.1).mono ?_
    rintro r w' ⟨rfl, v', g1, g2, g3⟩
    exact hK _ ⟨hS.1.trans g2, Nat.le_trans hS.2.1 g2.size, fun h => by simp at h, fun _ => ⟨⟨v', g1⟩, hS.1.trans g2⟩⟩
  all_goals
    intro ℓ act Wd hl hS hw hr hd
    obtain ⟨d0, d1, d2, d3, d4, d5, d6, d7, d8, d9⟩ := HA5.out Wd hS.1
    obtain ⟨t1, t2, t3⟩ := HT1.out
    clear hw
    simp [readFacts, depFacts, dstOf, Region.binds, roomV] at hr hd
    refine ⟨wanted_none (by rfl), fun K hK => ?_⟩
    go_simp
    first
      | exact hK _ (roomS_keep hS (by decide))
      | (rw [t1]; exact hK _ (roomS_keep hS (by decide)))
      | (rw [t2]; exact hK _ (roomS_keep hS (by decide)))
      | (rw [t3]; exact hK _ (roomS_keep hS (by decide)))
      | (with_reducible refine (SZA.out _).mono ?_
         rintro r w' ⟨rfl, bb⟩
         exact hK _ (roomS_keep (roomS_below hS bb) (by decide)))
      | (with_reducible refine (PSZ.out _).mono ?_
         rintro r w' ⟨rfl, bb⟩
         exact hK _ (roomS_keep (roomS_below hS bb) (by decide)))
end Go.Proofs.Ytmjjbapahgejmaa.Rre
