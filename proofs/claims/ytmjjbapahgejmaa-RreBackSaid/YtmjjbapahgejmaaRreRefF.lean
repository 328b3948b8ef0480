/-
  The reference of layer 17 (rre): Decode.
-/
import Derived.Test.YtmjjbapahgejmaaRreSays
import Derived.Test.YtmjjbapahgejmaaPlnPrgB
namespace Go.Proofs.Ytmjjbapahgejmaa.Rre
open Go.ChangeShapes Go.WideShapes Go.ChangeAt Go.RowKit Lz RowG RegVal Pln
open Go.Proofs.Ytmjjbapahgejmaa.Fmt (Fm FmAt)
open Go.Proofs.Ytmjjbapahgejmaa.Oct (valL valL_bd refInt_any)
set_option linter.unusedVariables false
set_option linter.unusedSimpArgs false
set_option maxRecDepth 100000

/-- How far a piece is painted. -/
def mixR (W : Nat) (l : List Int) (p : Pc) (k : Nat) : List Int := gen l.length (fun i => if i < k ∧ p.has (i % W) (i / W) = true then p.v else px l i)
theorem mixR_length (W : Nat) (l : List Int) (p : Pc) (k : Nat) : (mixR W l p k).length = l.length := gen_length _ _
theorem mixR_start (W : Nat) (l : List Int) (p : Pc) : mixR W l p 0 = l :=
  row_ext (mixR_length _ _ _ _) (fun i hi => by
    rw [mixR_length] at hi
    unfold mixR
    rw [px_gen hi, if_neg (by omega)])
theorem mixR_end (W : Nat) (l : List Int) (p : Pc) : mixR W l p l.length = paint1 W l p := by
  unfold mixR paint1
  refine gen_congr (fun i hi => ?_)
  by_cases h : p.has (i % W) (i / W) = true
  · rw [if_pos h, if_pos ⟨hi, h⟩]
  · rw [if_neg h, if_neg (fun c => h c.2)]
theorem mixR_no {W : Nat} {l : List Int} {p : Pc} {k : Nat} (h : p.has (k % W) (k / W) = false) : mixR W l p (k + 1) = mixR W l p k := by
  unfold mixR
  refine gen_congr (fun i hi => ?_)
  by_cases e : i = k
  · subst e
    rw [if_neg (fun c => by rw [h] at c; exact absurd c.2 (by decide)), if_neg (fun c => by omega)]
  · congr 1
    rw [eq_iff_iff]
    constructor
    · rintro ⟨h1, h2⟩; exact ⟨by omega, h2⟩
    · rintro ⟨h1, h2⟩; exact ⟨by omega, h2⟩
theorem mixR_yes {W : Nat} {l : List Int} {p : Pc} {k : Nat} (hk : k < l.length) (h : p.has (k % W) (k / W) = true) : (mixR W l p k).set k p.v = mixR W l p (k + 1) := by
  refine row_ext (by rw [List.length_set, mixR_length, mixR_length]) (fun i hi => ?_)
  rw [List.length_set, mixR_length] at hi
  have e1 : px ((mixR W l p k).set k p.v) i = if k = i then p.v else px (mixR W l p k) i := by
    unfold px
    rw [List.getD_eq_getElem?_getD, List.getElem?_set]
    split
    · rw [if_pos (by rw [mixR_length]; omega)]; rfl
    · rw [List.getD_eq_getElem?_getD]
  rw [e1]
  unfold mixR
  rw [px_gen hi, px_gen hi]
  by_cases e : k = i
  · subst e
    rw [if_pos rfl, if_pos ⟨by omega, h⟩]
  · rw [if_neg e]
    congr 1
    rw [eq_iff_iff]
    constructor
    · rintro ⟨h1, h2⟩; exact ⟨by omega, h2⟩
    · rintro ⟨h1, h2⟩; exact ⟨by omega, h2⟩
theorem intsR_put {B g cap n : Nat} {w : World} {l : List Int} (hn : l.length = n) (h : IntsAt B w (.slice (some ⟨g, 0, none⟩) n cap) l) {j : Nat} (hj : j < n) (x : Int) :
    IntsAt B (w.setCell ⟨g, j, none⟩ (.int .i64 x)) (.slice (some ⟨g, 0, none⟩) n cap) (l.set j x) := by
  unfold IntsAt at *
  have e : ints (l.set j x) = (ints l).set j (.int .i64 x) := by unfold ints; rw [List.map_set]
  rw [List.length_set, e]
  rw [hn] at h ⊢
  exact RowAt.setCell h (by omega) rfl
theorem intsR_some {B n cap : Nat} {w : World} {a : Option Addr} {l : List Int} (hl : l.length = n) (h : IntsAt B w (.slice a n cap) l) (h0 : 0 < n) : ∃ g, a = some ⟨g, 0, none⟩ ∧ B ≤ g ∧ g < w.heap.size ∧ (∀ i, i < n → w.cell? ⟨g, i, none⟩ = some (.int .i64 (px l i))) ∧ ∀ i, w.frozen? ⟨g, i, none⟩ = false := by
  unfold IntsAt at h
  rw [hl] at h
  rcases h.1.2 with ⟨h5, _⟩ | ⟨g, cap', cur, h5, _⟩
  · simp only [Value.slice.injEq] at h5
    omega
  · simp only [Value.slice.injEq] at h5
    obtain ⟨rfl, _, rfl⟩ := h5
    obtain ⟨h1, h2, h3, h4⟩ := RowAt.block h
    exact ⟨g, rfl, h1, h2, fun i hi => by rw [px_get (show i < l.length by omega)]; exact h3 i _ (ints_get (by omega)), h4⟩
def rg1V (F : Value) (s t : ByteArray) (X E : Int) : Nat → Value
  | 0 => F
  | 1 => .string s
  | 2 => .string t
  | 3 => .tuple #[.int .i64 X, .int .i64 E]
  | 4 => .tuple #[.int .i64 X, .int .i64 E]
  | 5 => .int .i64 X
  | 6 => .int .i64 E
  | 7 => .int .i64 X
  | _ => .int .i64 E
def rg2V (F : Value) (s t : ByteArray) (i X E : Int) : Nat → Value
  | 0 => F
  | 1 => .string s
  | 2 => .int .i64 i
  | 3 => .string t
  | 4 => .tuple #[.int .i64 X, .int .i64 E]
  | 5 => .tuple #[.int .i64 X, .int .i64 E]
  | 6 => .int .i64 X
  | 7 => .int .i64 E
  | 8 => .int .i64 X
  | _ => .int .i64 E
def rg3V (s t0 t2 t4 t6 : ByteArray) (i i2 i4 i6 i8 x y n m : Int) (g : Nat) : Nat → Value
  | 0 => .string s
  | 1 => .int .i64 i
  | 2 => .int .i64 i
  | 3 => .int .i64 i2
  | 4 => .string t0
  | 5 => .int .i64 x
  | 6 => .string s
  | 7 => .int .i64 i
  | 8 => .int .i64 i2
  | 9 => .int .i64 i
  | 10 => .int .i64 i4
  | 11 => .string t2
  | 12 => .int .i64 y
  | 13 => .string s
  | 14 => .int .i64 i
  | 15 => .int .i64 i4
  | 16 => .int .i64 i
  | 17 => .int .i64 i6
  | 18 => .string t4
  | 19 => .int .i64 n
  | 20 => .string s
  | 21 => .int .i64 i
  | 22 => .int .i64 i6
  | 23 => .int .i64 i
  | 24 => .int .i64 i8
  | 25 => .string t6
  | 26 => .int .i64 m
  | 27 => .agg #[.int .i64 x, .int .i64 y, .int .i64 n, .int .i64 m]
  | 28 => .pointer (some ⟨g, 0, none⟩)
  | _ => undef
def rg3S (w1 : World) (x y n m : Int) (ℓ : Nat → Bool) (W : World) : Prop :=
  Below w1.heap.size w1 W ∧ (ℓ 28 = false → W.heap.size = w1.heap.size ∧ ℓ 29 = false) ∧ (ℓ 28 = true → ∃ z0 z1 z2 z3, W.heap[w1.heap.size]? = some (.cells #[z0, z1, z2, z3] 29 (0, 0)) ∧ (ℓ 29 = true → z0 = .int .i64 x ∧ z1 = .int .i64 y ∧ z2 = .int .i64 n ∧ z3 = .int .i64 m))
theorem rg3S_keep {w1 W : World} {x y n m : Int} {ℓ : Nat → Bool} {i : Nat} (h1 : i ≠ 28) (h2 : i ≠ 29) (h : rg3S w1 x y n m ℓ W) : rg3S w1 x y n m (fun j => if j = i then true else ℓ j) W := by
  unfold rg3S at h ⊢
  simp only [if_neg (Ne.symm h1), if_neg (Ne.symm h2)]
  exact h
def rg4V (R : Value) (k W a b : Int) (h : Bool) : Nat → Value
  | 0 => R
  | 1 => .int .i64 k
  | 2 => .int .i64 W
  | 3 => .int .i64 a
  | 4 => .int .i64 k
  | 5 => .int .i64 W
  | 6 => .int .i64 b
  | _ => .bool h
theorem belowR_set {B : Nat} {w w' : World} (h : Below B w w') {g : Nat} (hg : B ≤ g) (o : Nat) (v : Value) : Below B w (w'.setCell ⟨g, o, none⟩ v) := h.setCell (p := ⟨g, o, none⟩) hg v
theorem pcAt_g (f : Fm) (s : ByteArray) (i : Nat) : (pcAt f s i).v = f.get (s.extract i s.size) ∧ (pcAt f s i).x = twoN s (i + (f.B / 8).toNat) ∧ (pcAt f s i).y = twoN s (i + (f.B / 8).toNat + 2) ∧ (pcAt f s i).n = twoN s (i + (f.B / 8).toNat + 4) ∧ (pcAt f s i).m = twoN s (i + (f.B / 8).toNat + 6) := by
  unfold pcAt
  exact ⟨by dsimp only, by dsimp only, by dsimp only, by dsimp only, by dsimp only⟩
theorem two_val (s : ByteArray) (i : Nat) : valL (s.extract i (i + 2)).data.toList.reverse = (twoN s i : Nat) := by
  unfold twoN
  have := valL_bd (s.extract i (i + 2)).data.toList.reverse
  omega
def intV4 (t : ByteArray) : Int := valL (t.extract 0 4).data.toList.reverse
set_option maxHeartbeats 8000000 in
theorem refDecode_any (f : Fm) (hf : f.Wf) (a b : Int) (t : ByteArray) (hab : fitsB f a b = true → a * b ≤ 100000) (ht : t.size ≤ 100000) (w : World) (ha : Side a) (hb : Side b) :
    Calls Try.prog 19 #[f.v, .int .i64 a, .int .i64 b, .string t] w fun e w' => ∃ u, e = .returned (.tuple #[u, .int .i64 (decOut f a b t).i, .int .i64 (decOut f a b t).e]) ∧ SI w' u (decOut f a b t).l ∧ Below w.heap.size w w' := by
  have FT := Lib.hid (fun w => refFits_any f hf a b w)
  have HO : RowKit.Hid (decOut f a b t = if fitsB f a b then if (decL f a.toNat b.toNat t).e = 0 then ⟨(decL f a.toNat b.toNat t).l.map (fun c => ((f.col c : Nat) : Int)), (decL f a.toNat b.toNat t).i, 0⟩ else ⟨[], 0, (decL f a.toNat b.toNat t).e⟩ else ⟨[], 0, 1⟩) := Lib.hid rfl
  have FP : RowKit.Hid (fitsB f a b = true → _) := Lib.hid (fun h => fits_parts h)
  have HAB := Lib.hid hab
  have AT := FmAt.box f w 37
  have bel := (Below.refl w.heap.size w).alloc (Nat.le_refl _) (.cells #[.int .i64 f.B, .int .i64 f.D, .bool f.big, .bool f.tr, .int .i64 f.rm, .int .i64 f.gm, .int .i64 f.bm, .int .i64 f.rs, .int .i64 f.gs, .int .i64 f.bs] 37)
  have hsz : (w.alloc (.cells #[.int .i64 f.B, .int .i64 f.D, .bool f.big, .bool f.tr, .int .i64 f.rm, .int .i64 f.gm, .int .i64 f.bm, .int .i64 f.rs, .int .i64 f.gs, .int .i64 f.bs] 37)).heap.size = w.heap.size + 1 := Pln.alloc_size _ _
  obtain ⟨w1, hw1⟩ : ∃ w1, w.alloc (.cells #[.int .i64 f.B, .int .i64 f.D, .bool f.big, .bool f.tr, .int .i64 f.rm, .int .i64 f.gm, .int .i64 f.bm, .int .i64 f.rs, .int .i64 f.gs, .int .i64 f.bs] 37) = w1 := ⟨_, rfl⟩
  rw [hw1] at AT bel hsz
  have HA := Lib.hid (fun W (hW : Below w1.heap.size w1 W) => AT.below hW (by omega))
  have HF : f.v = .agg #[.int .i64 f.B, .int .i64 f.D, .bool f.big, .bool f.tr, .int .i64 f.rm, .int .i64 f.gm, .int .i64 f.bm, .int .i64 f.rs, .int .i64 f.gs, .int .i64 f.bs] := rfl
  have BEL := Lib.hid bel
  have hle : w.heap.size ≤ w1.heap.size := bel.size
  clear bel hsz hab
  generalize hOUT : decOut f a b t = OUT at *
  clear hOUT
  have GV := Lib.hid (fun (hok : f.ok = true) i w => refGetV_any f hok (t.extract i t.size) (by rw [ByteArray.size_extract]; omega) w)
  have CO := Lib.hid (fun (hok : f.ok = true) u L w (k : SW w u L) (hL : L.length ≤ 1000000) => refColours_any f hok u L w k hL)
  have IN := Lib.hid (fun i j (h : j ≤ i + 4) w => refInt_any (t.extract i j) w (by rw [ByteArray.size_extract]; omega))
  rw [HF] at FT GV CO ⊢
  go_enter Try.func19, Try.ntmps19
  cases hfit : fitsB f a b with
  | false =>
    have hO := HO.out
    rw [hfit] at FT hO
    simp only [Bool.false_eq_true, if_false] at hO
    subst hO
    obtain ⟨d0, d1, d2, d3, d4, d5, d6, d7, d8, d9⟩ := AT
    clear HO GV CO IN
    go_wp2_with fail
    refine (FT.out _).mono ?_
    rintro r w2 ⟨rfl, b2⟩
    have HB := Lib.hid (BEL.out.trans (b2.mono hle))
    clear b2 FT HA d0 d1 d2 d3 d4 d5 d6 d7 d8 d9
    go_wp2_with fail
    go_ret3
    exact ⟨_, rfl, SI.nil _, HB.out⟩
  | true =>
  rw [hfit] at FT
  obtain ⟨hok, a0, a1, b0, b1⟩ := FP.out hfit
  have hab := HAB.out hfit
  have hO := HO.out
  rw [hfit] at hO
  simp only [if_true] at hO
  obtain ⟨A, rfl⟩ : ∃ A : Nat, a = A := ⟨a.toNat, by omega⟩
  obtain ⟨B, rfl⟩ : ∃ B : Nat, b = B := ⟨b.toNat, by omega⟩
  simp only [Int.toNat_natCast] at hO
  have HO2 := Lib.hid hO
  clear HO FP HAB hfit hO
  obtain ⟨N, hN⟩ : ∃ N, A * B = N := ⟨_, rfl⟩
  have hN' : (A : Int) * B = (N : Int) := by rw [← hN, Int.natCast_mul]
  rw [hN'] at hab
  have t0 : IntKind.i64.wrap ((A : Int) * B) = (N : Int) := by rw [hN']; exact IntWalk.i64_in _ (by omega)
  have HN := Lib.hid hN
  obtain ⟨s1, s2, s3⟩ := fm_sz hok
  have hzz : f.B.tdiv 8 = ((Fm.sz f : Nat) : Int) := by
    have : 0 ≤ f.B := by omega
    rw [Int.tdiv_eq_ediv_of_nonneg this]
    exact s1
  have hz8 : (f.B / 8).toNat = Fm.sz f := by rw [s1]; exact Int.toNat_natCast _
  have wz : IntKind.i64.wrap ((Fm.sz f : Nat) : Int) = ((Fm.sz f : Nat) : Int) := IntWalk.i64_in _ (by omega)
  obtain ⟨z, hz⟩ : ∃ z, Fm.sz f = z := ⟨_, rfl⟩
  rw [hz] at s1 s2 s3 hzz hz8 wz
  have HZ8 := Lib.hid hz8
  have CO1 := Lib.hid (CO.out hok)
  have GV1 := Lib.hid (GV.out hok)
  have hvl0 : intV4 t = (headN t : Nat) := by unfold intV4 headN; have := valL_bd (t.extract 0 4).data.toList.reverse; omega
  have I4 : RowKit.Hid (∀ w, Calls Try.prog 50 #[.string (t.extract 0 4)] w fun e w' => e = .returned (.int .i64 (headN t : Nat)) ∧ w = w') := Lib.hid (fun w => by have := IN.out 0 4 (by omega) w; rw [show valL (t.extract 0 4).data.toList.reverse = (headN t : Nat) from hvl0] at this; exact this)
  obtain ⟨d0, d1, d2, d3, d4, d5, d6, d7, d8, d9⟩ := AT
  clear hN hN' hz CO GV hz8 s1 hvl0
  by_cases h4 : t.size < 4
  case pos =>
    have hO := HO2.out
    have hL : decL f A B t = ⟨2, [], 0⟩ := by unfold decL; rw [if_pos h4]
    rw [hL] at hO
    simp only [show ¬ ((2 : Int) = 0) by decide, if_false] at hO
    subst hO
    have k1 : decide ((t.size : Int) < 4) = true := decide_eq_true (by omega)
    have k2 : decide (t.size < 4) = true := decide_eq_true h4
    clear HO2 hL CO1 GV1 IN I4
    go_wp2_with fail
    refine (FT.out _).mono ?_
    rintro r w2 ⟨rfl, b2⟩
    obtain ⟨d0, d1, d2, d3, d4, d5, d6, d7, d8, d9⟩ := HA.out w2 b2
    have HB := Lib.hid (BEL.out.trans (b2.mono hle))
    clear b2 FT
    go_wp2_with fail
    go_ret3
    exact ⟨_, rfl, SI.nil _, HB.out⟩
  have k1 : decide ((t.size : Int) < 4) = false := decide_eq_false (by omega)
  have k2 : decide (t.size < 4) = false := decide_eq_false h4
  have h4' : 4 ≤ t.size := by omega
  have h4i : (4 : Int) ≤ (t.size : Int) := by omega
  obtain ⟨M, hM⟩ : ∃ M, headN t = M := ⟨_, rfl⟩
  rw [hM] at I4
  go_wp2_with fail
  refine (FT.out _).mono ?_
  rintro r w2 ⟨rfl, b2⟩
  have HB2 := Lib.hid b2
  clear b2 FT d0 d1 d2 d3 d4 d5 d6 d7 d8 d9
  obtain ⟨d0, d1, d2, d3, d4, d5, d6, d7, d8, d9⟩ := HA.out w2 HB2.out
  go_wp2_with fail
  refine (I4.out _).mono ?_
  rintro r w3 ⟨rfl, rfl⟩
  by_cases hMN : N < M
  case pos =>
    have hO := HO2.out
    have hL : decL f A B t = ⟨4, [], 0⟩ := by unfold decL; rw [if_neg h4, HN.out, hM, if_pos hMN]
    rw [hL] at hO
    simp only [show ¬ ((4 : Int) = 0) by decide, if_false] at hO
    subst hO
    have dN : decide ((N : Int) < (M : Int)) = true := decide_eq_true (by omega)
    clear HO2 hL CO1 GV1 IN I4
    go_wp2_with fail
    go_ret3
    exact ⟨_, rfl, SI.nil _, BEL.out.trans (HB2.out.mono hle)⟩
  have dN : decide ((N : Int) < (M : Int)) = false := decide_eq_false (by omega)
  obtain ⟨P0, hP0⟩ : ∃ P0, 4 + z = P0 := ⟨_, rfl⟩
  have wp : IntKind.i64.wrap ((4 : Int) + (z : Nat)) = (P0 : Nat) := by rw [IntWalk.i64_in _ (by omega)]; omega
  have wp' : (4 : Int) + (z : Nat) = (P0 : Nat) := by omega
  by_cases hp0 : t.size < P0
  case pos =>
    have hO := HO2.out
    have hL : decL f A B t = ⟨2, [], 0⟩ := by unfold decL; rw [if_neg h4, HN.out, hM, if_neg hMN, HZ8.out, if_pos (by omega)]
    rw [hL] at hO
    simp only [show ¬ ((2 : Int) = 0) by decide, if_false] at hO
    subst hO
    have k3 : decide ((t.size : Int) < (P0 : Int)) = true := decide_eq_true (by omega)
    have k4 : decide (t.size < P0) = true := decide_eq_true hp0
    clear HO2 hL CO1 GV1 IN I4
    go_wp2_with fail
    go_ret3
    exact ⟨_, rfl, SI.nil _, BEL.out.trans (HB2.out.mono hle)⟩
  have k3 : decide ((t.size : Int) < (P0 : Int)) = false := decide_eq_false (by omega)
  have k4 : decide (t.size < P0) = false := decide_eq_false hp0
  have hL : decL f A B t = decN f A B t M := by
    unfold decL
    rw [if_neg h4, HN.out, hM, if_neg hMN, HZ8.out, if_neg (by omega)]
  have hO := HO2.out
  rw [hL] at hO
  have HO3 := Lib.hid hO
  have G1 := Lib.hid (GV1.out 4)
  have HD0 : RowKit.Hid (decN f A B t 0 = ⟨0, gen N (fun _ => f.get (t.extract 4 t.size)), P0⟩) := Lib.hid (by show (⟨0, gen (A * B) _, 4 + (f.B / 8).toNat⟩ : Dec) = _; rw [HN.out, HZ8.out, hP0])
  obtain ⟨X, hX⟩ : ∃ X, f.get (t.extract 4 t.size) = X := ⟨_, rfl⟩
  obtain ⟨XE, hXE⟩ : ∃ XE, f.getE (t.extract 4 t.size) = XE := ⟨_, rfl⟩
  obtain ⟨T4, hT4⟩ : ∃ T4, t.extract 4 t.size = T4 := ⟨_, rfl⟩
  rw [hX] at HD0
  rw [hX, hXE, hT4] at G1
  have hsz1 : w1.heap.size ≤ w2.heap.size := HB2.out.size
  have HW2 : RowKit.Hid (∀ W, Below w2.heap.size w2.drew W → Below w1.heap.size w1 W) := Lib.hid (fun W h => HB2.out.drew.trans (h.mono hsz1))
  clear HO2 hL hO I4 hX hXE hP0 d0 d1 d2 d3 d4 d5 d6 d7 d8 d9
  go_wp2_with fail
  refine region_all (by kernel_rfl) (rg1V (.agg #[.int .i64 f.B, .int .i64 f.D, .bool f.big, .bool f.tr, .int .i64 f.rm, .int .i64 f.gm, .int .i64 f.bm, .int .i64 f.rs, .int .i64 f.gs, .int .i64 f.bs]) t T4 X XE) (fun W => Below w2.heap.size w2.drew W) [3, 4] [none, none, none, none, none, none, none, none, none, none, none, none, none, some 7, some 8, none, none, none, none, none, none, none, none, none, none, none, none, none, none, none, none, none, none, none, none, none, none, none, none, none, none, none, none, none, none, none, none, some 4, some 0, some 1, some 2, some 3, some 5, some 6, none, none, none, none, none, none, none, none, none, none, none, none, none, none, none, none, none, none, none, none, none, none, none, none, none, none, none, none, none, none, none, none, none, none, none, none, none, none, none, none, none, none, none, none, none, none, none, none, none, none, none, none, none, none, none, none, none, none, none, none, none, none, none, none, none, none, none, none, none, none, none, none, none, none, none, none, none, none, none, none, none, none, none, none, none, none, none, none, none, none, none, none, none] (by kernel_rfl) (by kernel_rfl) (by rfl) (by kernel_rfl) (by kernel_rfl) (by kernel_rfl) (Below.refl _ _) ⟨?_, ?_, ?_, ?_, ?_, ?_, ?_, ?_, ?_, trivial⟩ ?_
  case refine_10 =>
    intro W3 hS
    have HB3 := Lib.hid (HW2.out _ hS)
    clear hS HW2 HB2 G1
    simp only [zipF, rg1V]
    obtain ⟨C, hC⟩ : ∃ C, w1.heap.size = C := ⟨_, rfl⟩
    rw [hC] at HB3 HA hle
    have hCW : C ≤ W3.heap.size := by have := HB3.out.size; rw [hC] at this; exact this
    have HCC := Lib.hid hC
    have HGS : RowKit.Hid (∀ k, gen (k + 1) (fun _ => X) = gen k (fun _ => X) ++ [X]) := Lib.hid (fun k => gen_succ k _)
    have HGL : RowKit.Hid (∀ k, (gen k (fun _ => X)).length = k) := Lib.hid (fun k => gen_length k _)
    clear hC
    go_wp2_with fail
    go_loopw [15, 16] (fun vv vi wr => ∃ k : Nat, k ≤ N ∧ vi = .int .i64 k ∧ IntsAt C wr vv (gen k (fun _ => X)) ∧ Below C w1 wr) (fun _ vi _ => N - (intOf vi).toNat)
    case atStart => exact ⟨0, Nat.zero_le _, rfl, RowAt.nil _ _ _ _, HB3.out⟩
    case round =>
    obtain ⟨k, hk, rfl, hI, hbr⟩ := hrel
    have HI := Lib.hid hI
    have HBR := Lib.hid hbr
    have hCr : C ≤ wr.heap.size := by have := hbr.size; rw [HCC.out] at this; exact this
    by_cases hlk : k < N
    · have dk : decide ((k : Int) < (N : Int)) = true := decide_eq_true (by omega)
      obtain ⟨va, vc, rfl⟩ := RowAt.shape hI
      have hgl := HGL.out k
      have HGSK := Lib.hid (HGS.out k)
      obtain ⟨L0, hL0⟩ : ∃ L0, gen k (fun _ => X) = L0 := ⟨_, rfl⟩
      rw [hL0] at HI hgl HGSK ⊢
      have hIL : IntsAt C wr (.slice va k vc) L0 := by have h := HI.out; rw [hgl] at h; exact h
      have HIL := Lib.hid hIL
      have HLL : RowKit.Hid (L0.length ≤ 1000000000) := Lib.hid (by omega)
      rw [hgl]
      clear hI hbr hIL hgl hL0
      go_wp2_with (at_builtin; refine wpl_int rfl _ _ rfl (.slice va k vc) C L0 rfl HIL.out hCr HLL.out X _ rfl ?_; intro vz wz hz1 hz2; have HZ1 := Lib.hid hz1; have HZ2 := Lib.hid hz2; clear hz1 hz2)
      exact ⟨⟨k + 1, by omega, by go_num, by rw [HGSK.out]; exact HZ1.out, HBR.out.trans HZ2.out⟩, by simp [intOf]; omega⟩
    · obtain rfl : k = N := by omega
      have dk : decide ((k : Int) < (k : Int)) = false := decide_eq_false (by omega)
      obtain ⟨va, vc, rfl⟩ := RowAt.shape hI
      have hgl := HGL.out k
      rw [hgl] at HI ⊢
      have HDL := Lib.hid (fun q h => (decN_length (f := f) (W := A) (H := B) (s := t) q h).trans HN.out)
      have HDS : RowKit.Hid (∀ q, decN f A B t (q + 1) = decS f A B t (decN f A B t q)) := Lib.hid (fun q => rfl)
      have HDB := Lib.hid (fun q (h : (decN f A B t q).e ≠ 0) (hq : q ≤ M) => (by
        have := decN_bad (f := f) (W := A) (H := B) (s := t) (k := q) h (M - q)
        rwa [Nat.add_sub_cancel' hq] at this : decN f A B t M = decN f A B t q))
      clear hI hbr hgl HB3 HGS HGL
      go_wp2_with fail
      go_loopw [17, 18] (fun va2 vi wq => ∃ (j q : Nat) (L : List Int), j ≤ M ∧ vi = .int .i64 j ∧ va2 = .int .i64 q ∧ q ≤ t.size ∧ RowKit.Hid (decN f A B t j = ⟨0, L, q⟩) ∧ IntsAt C wq (.slice va k vc) L ∧ Below C w1 wq) (fun _ vi _ => M - (intOf vi).toNat)
      case atStart => exact ⟨0, P0, gen k (fun _ => X), Nat.zero_le _, rfl, rfl, by omega, HD0, HI.out, HBR.out⟩
      case round =>
      obtain ⟨j, q, L, hj, rfl, rfl, hqs, HDJ, hI, hbq⟩ := hrel
      have HI2 := Lib.hid hI
      have HBQ := Lib.hid hbq
      have hLk : L.length = k := by
        have := HDL.out j (by rw [HDJ.out])
        rw [HDJ.out] at this
        exact this
      have hCq : C ≤ wr.heap.size := by have := hbq.size; rw [HCC.out] at this; exact this
      obtain ⟨d0, d1, d2, d3, d4, d5, d6, d7, d8, d9⟩ := HA.out wr hbq
      by_cases hlj : j < M
      · have dj : decide ((j : Int) < (M : Int)) = true := decide_eq_true (by omega)
        obtain ⟨q1, hq1⟩ : ∃ q1, q + z = q1 := ⟨_, rfl⟩
        obtain ⟨q8, hq8⟩ : ∃ q8, q1 + 8 = q8 := ⟨_, rfl⟩
        have x1 : IntKind.i64.wrap ((q : Int) + (z : Int)) = (q1 : Nat) := by rw [IntWalk.i64_in _ (by omega)]; omega
        have x8 : IntKind.i64.wrap ((q1 : Int) + 8) = (q8 : Nat) := by rw [IntWalk.i64_in _ (by omega)]; omega
        have y1 : (q : Int) + (z : Int) = (q1 : Nat) := by omega
        have y8 : (q1 : Int) + 8 = (q8 : Nat) := by omega
        have HSJ : RowKit.Hid (decN f A B t (j + 1) = if t.size < q8 then ⟨2, [], 0⟩ else if insN (pcAt f t q) A B then ⟨0, paint1 A L (pcAt f t q), q8⟩ else ⟨140, [], 0⟩) := Lib.hid (by
          rw [HDS.out, HDJ.out]
          unfold decS
          rw [if_neg (fun h => h rfl), HZ8.out, hq1, hq8])
        clear hI hbq
        by_cases hs8 : t.size < q8
        · have g1 : decide ((t.size : Int) < (q8 : Int)) = true := decide_eq_true (by omega)
          have g2 : decide (t.size < q8) = true := decide_eq_true hs8
          have hE := HSJ.out
          rw [if_pos hs8] at hE
          have hM := HDB.out (j + 1) (by rw [hE]; decide) hlj
          rw [hE] at hM
          have hO := HO3.out
          rw [hM] at hO
          simp only [show ¬ ((2 : Int) = 0) by decide, if_false] at hO
          subst hO
          have HQ := Lib.hid (BEL.out.trans (HBQ.out.mono hle))
          clear HO3 hM hE
          go_wp2_with fail
          go_ret3
          exact ⟨_, rfl, SI.nil _, HQ.out⟩
        have g1 : decide ((t.size : Int) < (q8 : Int)) = false := decide_eq_false (by omega)
        have g2 : decide (t.size < q8) = false := decide_eq_false hs8
        have hSJ := HSJ.out
        rw [if_neg hs8] at hSJ
        have HSJ2 := Lib.hid hSJ
        have G2 := Lib.hid (GV1.out q)
        obtain ⟨p, hp⟩ : ∃ p, pcAt f t q = p := ⟨_, rfl⟩
        have hpf := pcAt_g f t q
        rw [HZ8.out, hq1, hp] at hpf
        obtain ⟨pf0, pf1, pf2, pf3, pf4⟩ := hpf
        rw [hp] at HSJ2
        rw [← pf0] at G2
        obtain ⟨YE, hYE⟩ : ∃ YE, f.getE (t.extract q t.size) = YE := ⟨_, rfl⟩
        obtain ⟨TQ, hTQ⟩ : ∃ TQ, t.extract q t.size = TQ := ⟨_, rfl⟩
        rw [hYE, hTQ] at G2
        have J0 : RowKit.Hid (∀ w, Calls Try.prog 50 #[.string (t.extract q1 (q1 + 2))] w fun e w' => e = .returned (.int .i64 (p.x : Nat)) ∧ w = w') := Lib.hid (fun w => by have := IN.out q1 (q1 + 2) (by omega) w; rw [two_val, ← pf1] at this; exact this)
        have J2 : RowKit.Hid (∀ w, Calls Try.prog 50 #[.string (t.extract (q1 + 2) (q1 + 4))] w fun e w' => e = .returned (.int .i64 (p.y : Nat)) ∧ w = w') := Lib.hid (fun w => by have := IN.out (q1 + 2) (q1 + 4) (by omega) w; rw [two_val, ← pf2] at this; exact this)
        have J4 : RowKit.Hid (∀ w, Calls Try.prog 50 #[.string (t.extract (q1 + 4) (q1 + 6))] w fun e w' => e = .returned (.int .i64 (p.n : Nat)) ∧ w = w') := Lib.hid (fun w => by have := IN.out (q1 + 4) (q1 + 6) (by omega) w; rw [two_val, ← pf3] at this; exact this)
        have J6 : RowKit.Hid (∀ w, Calls Try.prog 50 #[.string (t.extract (q1 + 6) (q1 + 8))] w fun e w' => e = .returned (.int .i64 (p.m : Nat)) ∧ w = w') := Lib.hid (fun w => by have := IN.out (q1 + 6) (q1 + 8) (by omega) w; rw [two_val, ← pf4] at this; exact this)
        have INS := Lib.hid (fun w => refInside_any p A B (by omega) (by omega) w)
        have hqi : (q : Int) ≤ (t.size : Int) := by omega
        have HWQ : RowKit.Hid (∀ W, Below wr.heap.size wr.drew W → Below C w1 W) := Lib.hid (fun W h => HBQ.out.drew.trans (h.mono hCq))
        have HHP := Lib.hid hp
        clear HSJ hSJ hYE hp pf0 pf1 pf2 pf3 pf4 d0 d1 d2 d3 d4 d5 d6 d7 d8 d9
        go_wp2_with fail
        refine region_all (by kernel_rfl) (rg2V (.agg #[.int .i64 f.B, .int .i64 f.D, .bool f.big, .bool f.tr, .int .i64 f.rm, .int .i64 f.gm, .int .i64 f.bm, .int .i64 f.rs, .int .i64 f.gs, .int .i64 f.bs]) t TQ q p.v YE) (fun W => Below wr.heap.size wr.drew W) [3, 4, 17] [none, none, none, none, none, none, none, none, none, none, none, none, none, none, none, none, none, none, none, some 8, some 9, none, none, none, none, none, none, none, none, none, none, none, none, none, none, none, none, none, none, none, none, none, none, none, none, none, none, none, none, none, none, none, none, none, none, none, none, none, none, none, none, none, none, none, none, none, none, none, none, none, none, none, none, none, none, none, none, none, none, some 5, some 0, some 1, some 2, some 3, some 4, some 6, some 7, none, none, none, none, none, none, none, none, none, none, none, none, none, none, none, none, none, none, none, none, none, none, none, none, none, none, none, none, none, none, none, none, none, none, none, none, none, none, none, none, none, none, none, none, none, none, none, none, none, none, none, none, none, none, none, none, none, none, none, none] (by kernel_rfl) (by kernel_rfl) (by rfl) (by kernel_rfl) (by kernel_rfl) (by kernel_rfl) (Below.refl _ _) ⟨?_, ?_, ?_, ?_, ?_, ?_, ?_, ?_, ?_, ?_, trivial⟩ ?_
        case refine_11 =>
          intro W4 hS
          have HB4 := Lib.hid (HWQ.out _ hS)
          have HI4 := Lib.hid (RowAt.below HI2.out (show Below wr.heap.size wr W4 from ⟨hS.os, hS.tape, hS.output, hS.size, hS.block⟩))
          clear hS HWQ G2 HI2 HBQ
          simp only [zipF, rg2V]
          obtain ⟨j2, hj2⟩ : ∃ j2, q1 + 2 = j2 := ⟨_, rfl⟩
          obtain ⟨j4, hj4⟩ : ∃ j4, q1 + 4 = j4 := ⟨_, rfl⟩
          obtain ⟨j6, hj6⟩ : ∃ j6, q1 + 6 = j6 := ⟨_, rfl⟩
          rw [hj2] at J0 J2
          rw [hj4] at J2 J4
          rw [hj6] at J4 J6
          rw [hq8] at J6
          have w8 : IntKind.i64.wrap (q8 : Int) = (q8 : Int) := IntWalk.i64_in _ (by omega)
          have x2 : IntKind.i64.wrap ((q1 : Int) + 2) = (j2 : Nat) := by rw [IntWalk.i64_in _ (by omega)]; omega
          have x4 : IntKind.i64.wrap ((q1 : Int) + 4) = (j4 : Nat) := by rw [IntWalk.i64_in _ (by omega)]; omega
          have x6 : IntKind.i64.wrap ((q1 : Int) + 6) = (j6 : Nat) := by rw [IntWalk.i64_in _ (by omega)]; omega
          obtain ⟨T0, hT0⟩ : ∃ T0, t.extract q1 j2 = T0 := ⟨_, rfl⟩
          obtain ⟨T2, hT2⟩ : ∃ T2, t.extract j2 j4 = T2 := ⟨_, rfl⟩
          obtain ⟨T44, hT44⟩ : ∃ T44, t.extract j4 j6 = T44 := ⟨_, rfl⟩
          obtain ⟨T6, hT6⟩ : ∃ T6, t.extract j6 q8 = T6 := ⟨_, rfl⟩
          rw [hT0] at J0
          rw [hT2] at J2
          rw [hT44] at J4
          rw [hT6] at J6
          have o1 : (q1 : Int) ≤ (j2 : Int) := by omega
          have o2 : (j2 : Int) ≤ (j4 : Int) := by omega
          have o3 : (j4 : Int) ≤ (j6 : Int) := by omega
          have o4 : (j6 : Int) ≤ (q8 : Int) := by omega
          have o5 : (j2 : Int) ≤ (t.size : Int) := by omega
          have o6 : (j4 : Int) ≤ (t.size : Int) := by omega
          have o7 : (j6 : Int) ≤ (t.size : Int) := by omega
          have o8 : (q8 : Int) ≤ (t.size : Int) := by omega
          have p1 : q1 ≤ j2 := by omega
          have p2 : j2 ≤ j4 := by omega
          have p3 : j4 ≤ j6 := by omega
          have p4 : j6 ≤ q8 := by omega
          have p5 : j2 ≤ t.size := by omega
          have p6 : j4 ≤ t.size := by omega
          have p7 : j6 ≤ t.size := by omega
          have p8 : q8 ≤ t.size := by omega
          obtain ⟨g, hg⟩ : ∃ g, W4.heap.size = g := ⟨_, rfl⟩
          have hCg : C ≤ g := by have := HB4.out.size; rw [HCC.out] at this; omega
          have HGG := Lib.hid hg
          clear hj2 hj4 hj6
          go_wp2_with fail
          refine region_alls (by kernel_rfl) (rg3V t T0 T2 T44 T6 q1 j2 j4 j6 q8 p.x p.y p.n p.m g) (rg3S W4 p.x p.y p.n p.m) [3, 17] [none, none, none, none, none, none, none, none, none, none, none, none, none, none, none, none, none, none, none, none, none, some 28, none, none, none, none, none, none, none, none, none, none, none, none, none, none, none, none, none, none, none, none, none, none, none, none, none, none, none, none, none, none, none, none, none, none, none, none, none, none, none, none, none, none, none, none, none, none, none, none, none, none, none, none, none, none, none, none, none, none, none, none, none, none, none, none, none, none, none, none, some 0, some 1, some 2, some 3, some 4, some 5, some 6, some 7, some 8, some 9, some 10, some 11, some 12, some 13, some 14, some 15, some 16, some 17, some 18, some 19, some 20, some 21, some 22, some 23, some 24, some 25, some 26, some 27, none, none, none, none, none, none, none, none, none, none, none, none, none, none, none, none, none, none, none, none, none, none, none, none, none, none, none, none, none] (by kernel_rfl) (by kernel_rfl) (by rfl) (by kernel_rfl) (by kernel_rfl) (by kernel_rfl) ⟨(Below.refl _ _).drew, fun _ => ⟨rfl, rfl⟩, fun h => by cases h⟩ ⟨?_, ?_, ?_, ?_, ?_, ?_, ?_, ?_, ?_, ?_, ?_, ?_, ?_, ?_, ?_, ?_, ?_, ?_, ?_, ?_, ?_, ?_, ?_, ?_, ?_, ?_, ?_, ?_, ?_, ?_, trivial⟩ ?_
          case refine_31 =>
            intro ℓ W5 hall hS
            obtain ⟨z0, z1, z2, z3, hcg, hzz2⟩ := hS.2.2 (hall 28 (by decide))
            obtain ⟨rfl, rfl, rfl, rfl⟩ := hzz2 (hall 29 (by decide))
            rw [hg] at hcg
            have hCW4 : C ≤ W4.heap.size := by omega
            have HB5 := Lib.hid (HB4.out.trans (hS.1.mono hCW4))
            have HI5 := Lib.hid (RowAt.below HI4.out hS.1)
            have HCG := Lib.hid hcg
            have c0 := cellAt (o := 0) hcg rfl
            have c1 := cellAt (o := 1) hcg rfl
            have c2 := cellAt (o := 2) hcg rfl
            have c3 := cellAt (o := 3) hcg rfl
            have hgW : g < W5.heap.size := (Array.getElem?_eq_some_iff.1 hcg).1
            clear hS hall hcg hzz2 HI4 HB4 J0 J2 J4 J6 x2 x4 x6 o1 o2 o3 o4 o5 o6 o7 p1 p2 p3 p4 p5 p6 p7 hT0 hT2 hT44 hT6
            simp only [zipF, rg3V]
            go_wp2_with fail
            refine (INS.out W5).mono ?_
            rintro r w6 ⟨rfl, b6⟩
            have HB6 := Lib.hid (HB5.out.trans (b6.mono (by have := HB5.out.size; rw [HCC.out] at this; exact this)))
            have HI6 := Lib.hid (RowAt.below HI5.out b6)
            have HG6 := Lib.hid ((b6.block g hgW).trans HCG.out)
            clear b6 HI5 HB5 INS HCG c0 c1 c2 c3
            cases hins : insN p A B with
            | false =>
              have hE := HSJ2.out
              rw [hins] at hE
              simp only [Bool.false_eq_true, if_false] at hE
              have hM := HDB.out (j + 1) (by rw [hE]; decide) hlj
              rw [hE] at hM
              have hO := HO3.out
              rw [hM] at hO
              simp only [show ¬ ((140 : Int) = 0) by decide, if_false] at hO
              subst hO
              have HQ := Lib.hid (BEL.out.trans (HB6.out.mono hle))
              clear HO3 hM hE HI6
              go_wp2_with fail
              go_ret3
              exact ⟨_, rfl, SI.nil _, HQ.out⟩
            | true =>
            have hE := HSJ2.out
            rw [hins] at hE
            simp only [if_true] at hE
            have HEJ := Lib.hid hE
            obtain ⟨i1, i2, i3, i4⟩ := of_decide_eq_true (show decide (p.n ≤ A ∧ p.x + p.n ≤ A ∧ p.m ≤ B ∧ p.y + p.m ≤ B) = true from hins)
            have IA := Lib.hid (fun i j w => refIn_any p i j (by omega) w)
            have HMS := Lib.hid (mixR_start A L p)
            have HME : RowKit.Hid (mixR A L p k = paint1 A L p) := Lib.hid (by have := mixR_end A L p; rwa [hLk] at this)
            have HMN := Lib.hid (fun i h => mixR_no (W := A) (l := L) (p := p) (k := i) h)
            have HMY := Lib.hid (fun i (hi : i < k) h => mixR_yes (W := A) (l := L) (p := p) (k := i) (by omega) h)
            have HML := Lib.hid (fun i => (mixR_length A L p i).trans hLk)
            have hAk : 0 < k → A ≠ 0 := fun h0 e => by have := HN.out; rw [e] at this; simp at this; omega
            have HAK := Lib.hid hAk
            have hC6 : C ≤ w6.heap.size := by have := HB6.out.size; rw [HCC.out] at this; exact this
            clear hE hAk
            go_wp2_with fail
            go_loopw [22] (fun vi wz => ∃ i : Nat, i ≤ k ∧ vi = .int .i64 i ∧ IntsAt C wz (.slice va k vc) (mixR A L p i) ∧ wz.heap[g]? = some (.cells #[.int .i64 p.x, .int .i64 p.y, .int .i64 p.n, .int .i64 p.m] 29 (0, 0)) ∧ Below C w1 wz) (fun vi _ => k - (intOf vi).toNat)
            case atStart => exact ⟨0, Nat.zero_le _, rfl, by rw [HMS.out]; exact HI6.out, HG6.out, HB6.out⟩
            case round =>
              obtain ⟨i, hi, rfl, hI7, hg7, hb7⟩ := hrel
              have HI7 := Lib.hid hI7
              have HG7 := Lib.hid hg7
              have HB7 := Lib.hid hb7
              by_cases hli : i < k
              · have di : decide ((i : Int) < (k : Int)) = true := decide_eq_true (by omega)
                obtain ⟨gg, rfl, hCgg, hggs, _, _⟩ := intsR_some (HML.out i) hI7 (by omega)
                have hA0 : A ≠ 0 := HAK.out (by omega)
                have hA1 : ((A : Int) == 0) = false := by simp; omega
                have hA2 : ¬ (A : Int) = 0 := by omega
                have t1 : Int.tmod (i : Int) (A : Int) = ((i % A : Nat) : Int) := by rw [IntWalk.rem_in _ _ (by omega)]; exact (Int.natCast_emod i A).symm
                have hdv : i / A ≤ i := Nat.div_le_self _ _
                have t2 : IntKind.i64.wrap (Int.tdiv (i : Int) (A : Int)) = ((i / A : Nat) : Int) := by rw [IntWalk.i64_quo _ _ (by omega)]; exact (Int.natCast_ediv i A).symm
                have IA1 := Lib.hid (fun w => IA.out (i % A) (i / A) w)
                have HMN1 := Lib.hid (HMN.out i)
                have HMY1 := Lib.hid (HMY.out i hli)
                have HT12 := Lib.hid (And.intro t1 t2)
                have t3 : IntKind.i64.wrap ((i : Int) / (A : Int)) = ((i / A : Nat) : Int) := by rw [← Int.natCast_ediv]; revert hdv; generalize i / A = r0; intro hdv; exact IntWalk.i64_in _ (by omega)
                have HT3 := Lib.hid t3
                clear t3
                obtain ⟨ra, hra⟩ : ∃ ra, i % A = ra := ⟨_, rfl⟩
                obtain ⟨rb, hrb⟩ : ∃ rb, i / A = rb := ⟨_, rfl⟩
                rw [hra] at HT12 IA1 HMN1 HMY1
                rw [hrb] at HT12 IA1 HMN1 HMY1 HT3
                obtain ⟨hh, hhh⟩ : ∃ hh, p.has ra rb = hh := ⟨_, rfl⟩
                rw [hhh] at IA1 HMN1 HMY1
                have hgz : g < wr.heap.size := (Array.getElem?_eq_some_iff.1 hg7).1
                have hggg : gg ≠ g := by
                  obtain ⟨_, cs, hcs⟩ := own_type hI7 gg rfl
                  intro e
                  rw [e, hg7] at hcs
                  simp at hcs
                have hCz : C ≤ wr.heap.size := by have := hb7.size; rw [HCC.out] at this; exact this
                clear hI7 hg7 hb7 t1 t2 hra hrb hdv
                obtain ⟨t1, t2⟩ := HT12.out
                have t3 := HT3.out
                go_wp2_with fail
                refine region_all (by kernel_rfl) (rg4V (.agg #[.int .i64 p.x, .int .i64 p.y, .int .i64 p.n, .int .i64 p.m]) i A ra rb hh) (fun W => Below wr.heap.size wr.drew W) [1, 21, 22] [none, none, none, none, none, none, none, none, none, none, none, none, none, none, none, none, none, none, none, none, none, none, none, none, none, none, none, none, none, none, none, none, none, none, none, none, none, none, none, none, none, none, none, none, none, none, none, none, none, none, none, none, none, none, none, none, none, none, none, none, none, none, none, none, none, none, none, none, none, none, none, none, none, none, none, none, none, none, none, none, none, none, none, none, none, none, none, none, none, none, none, none, none, none, none, none, none, none, none, none, none, none, none, none, none, none, none, none, none, none, none, none, none, none, none, none, none, none, none, none, none, none, none, none, none, none, none, none, none, none, none, some 0, some 1, some 2, some 3, some 4, some 5, some 6, some 7, none, none, none, none, none, none, none, none] (by kernel_rfl) (by kernel_rfl) (by rfl) (by kernel_rfl) (by kernel_rfl) (by kernel_rfl) (Below.refl _ _) ⟨?_, ?_, ?_, ?_, ?_, ?_, ?_, ?_, trivial⟩ ?_
                case refine_9 =>
                  intro W8 hS
                  have hS' : Below wr.heap.size wr W8 := ⟨hS.os, hS.tape, hS.output, hS.size, hS.block⟩
                  have HI8 := Lib.hid (RowAt.below HI7.out hS')
                  have HG8 := Lib.hid ((hS'.block g hgz).trans HG7.out)
                  have HB8 := Lib.hid (HB7.out.trans (hS'.mono hCz))
                  clear hS hS' HI7 HG7 HB7 IA1
                  simp only [zipF, rg4V]
                  cases hh with
                  | false =>
                    have HMI := Lib.hid (HMN1.out rfl)
                    go_wp2_with fail
                    exact ⟨⟨i + 1, by omega, by go_num, by rw [HMI.out]; exact HI8.out, HG8.out, HB8.out⟩, by simp [intOf]; omega⟩
                  | true =>
                    have HMI := Lib.hid (HMY1.out rfl)
                    obtain ⟨_, hggE, _, _, hcl, hfr⟩ := intsR_some (HML.out i) HI8.out (by omega)
                    simp only [Option.some.injEq, Addr.mk.injEq, and_true] at hggE
                    obtain rfl := hggE
                    have q0 := hcl i hli
                    have f0 := hfr i
                    have HI9 := Lib.hid (intsR_put (HML.out i) HI8.out hli p.v)
                    rw [HMI.out] at HI9
                    generalize px (mixR A L p i) i = u0 at *
                    clear hcl hfr
                    go_wp2_with fail
                    refine ⟨⟨i + 1, by omega, by go_num, HI9.out, ?_, belowR_set HB8.out hCgg _ _⟩, by simp [intOf]; omega⟩
                    rw [setOther (fun e => hggg e.symm)]
                    exact HG8.out
                all_goals
                  intro ℓ act Wd hl hS hw hr hd
                  have hcg : Wd.heap[g]? = _ := (hS.block g hgz).trans HG7.out
                  have c0 := cellAt (o := 0) hcg rfl
                  have c1 := cellAt (o := 1) hcg rfl
                  have c2 := cellAt (o := 2) hcg rfl
                  have c3 := cellAt (o := 3) hcg rfl
                  clear hw hcg
                  simp [readFacts, depFacts, dstOf, Region.binds, rg4V] at hr hd
                  refine ⟨wanted_none (by rfl), fun K hK => ?_⟩
                  go_simp
                  first
                    | exact hK _ hS
                    | (rw [t3]; exact hK _ hS)
                    | (rw [if_neg hA2]; exact hK _ hS)
                    | (rw [if_neg hA2, t3]; exact hK _ hS)
                    | (with_reducible refine (IA1.out _).mono ?_
                       rintro r w' ⟨rfl, bb⟩
                       exact hK _ (hS.trans (bb.mono hS.size)))
              · obtain rfl : i = k := by omega
                have di : decide ((i : Int) < (i : Int)) = false := decide_eq_false (by omega)
                clear hI7 hg7 hb7
                go_wp2_with fail
                exact ⟨⟨j + 1, q8, paint1 A L p, by omega, by go_num, by go_num, by omega, HEJ, by rw [← HME.out]; exact HI7.out, HB7.out⟩, by simp [intOf]; omega⟩
          case refine_30 =>
            intro ℓ act Wd hl hS hw hr hd
            have h28 : ℓ 28 = true := by
              cases h : ℓ 28 with
              | true => rfl
              | false => exact absurd (hw ⟨28, .data⟩ (by simp) (by rfl)) (by rw [h]; decide)
            obtain ⟨z0, z1, z2, z3, hcg, _⟩ := hS.2.2 h28
            have hB := hS.1
            rw [hg] at hcg
            clear hw
            simp [readFacts, depFacts, dstOf, Region.binds, rg3V] at hr hd
            refine ⟨wanted_none (by rfl), fun K hK => ?_⟩
            have c0 : Wd.cell? ⟨g, 0, none⟩ = some z0 := cellAt (o := 0) hcg rfl
            have c1 : Wd.cell? ⟨g, 1, none⟩ = some z1 := cellAt (o := 1) hcg rfl
            have c2 : Wd.cell? ⟨g, 2, none⟩ = some z2 := cellAt (o := 2) hcg rfl
            have c3 : Wd.cell? ⟨g, 3, none⟩ = some z3 := cellAt (o := 3) hcg rfl
            have f0 := frozenAt (o := 0) hcg
            have f1 := frozenAt (o := 1) hcg
            have f2 := frozenAt (o := 2) hcg
            have f3 := frozenAt (o := 3) hcg
            have HS3 := Lib.hid (setRowAt (i := 3) (v := .int .i64 p.m) (setRowAt (i := 2) (v := .int .i64 p.n) (setRowAt (i := 1) (v := .int .i64 p.y) (setRowAt (i := 0) (v := .int .i64 p.x) hcg rfl) rfl) rfl) rfl)
            clear hcg
            go_simp
            refine hK _ ⟨belowR_set (belowR_set (belowR_set (belowR_set hB (by omega) _ _) (by omega) _ _) (by omega) _ _) (by omega) _ _, fun h => ?_, fun _ => ⟨_, _, _, _, by rw [hg]; exact HS3.out, fun _ => ⟨rfl, rfl, rfl, rfl⟩⟩⟩
            have h' : ℓ 28 = false := by simpa using h
            rw [h28] at h'
            cases h'
          case refine_29 =>
            intro ℓ act Wd hl hS hw hr hd
            obtain ⟨hz9, h29⟩ := hS.2.1 hl
            have hB := hS.1
            clear hw hS
            simp [readFacts, depFacts] at hr hd
            refine ⟨wanted_none (by rfl), fun K hK => ?_⟩
            rw [hg] at hz9
            go_simp
            refine hK _ ⟨hB.alloc (by omega) _, fun h => by simp at h, fun _ => ⟨.int .i64 0, .int .i64 0, .int .i64 0, .int .i64 0, ?_, fun h => ?_⟩⟩
            · rw [hg, ← hz9]; exact heap_alloc_new _ _
            · have : ℓ 29 = true := by simpa using h
              rw [h29] at this
              cases this
          all_goals
            intro ℓ act Wd hl hS hw hr hd
            clear hw
            simp [readFacts, depFacts, dstOf, Region.binds, rg3V] at hr hd
            refine ⟨wanted_none (by rfl), fun K hK => ?_⟩
            go_simp
            first
              | exact hK _ (rg3S_keep (by decide) (by decide) hS)
              | (rw [x2]; exact hK _ (rg3S_keep (by decide) (by decide) hS))
              | (rw [x4]; exact hK _ (rg3S_keep (by decide) (by decide) hS))
              | (rw [x6]; exact hK _ (rg3S_keep (by decide) (by decide) hS))
              | (rw [x8]; exact hK _ (rg3S_keep (by decide) (by decide) hS))
              | (rw [w8]; exact hK _ (rg3S_keep (by decide) (by decide) hS))
              | (with_reducible refine (J0.out _).mono ?_
                 rintro r w' ⟨rfl, rfl⟩
                 exact hK _ (rg3S_keep (by decide) (by decide) hS))
              | (with_reducible refine (J2.out _).mono ?_
                 rintro r w' ⟨rfl, rfl⟩
                 exact hK _ (rg3S_keep (by decide) (by decide) hS))
              | (with_reducible refine (J4.out _).mono ?_
                 rintro r w' ⟨rfl, rfl⟩
                 exact hK _ (rg3S_keep (by decide) (by decide) hS))
              | (with_reducible refine (J6.out _).mono ?_
                 rintro r w' ⟨rfl, rfl⟩
                 exact hK _ (rg3S_keep (by decide) (by decide) hS))
        all_goals
          intro ℓ act Wd hl hS hw hr hd
          obtain ⟨d0, d1, d2, d3, d4, d5, d6, d7, d8, d9⟩ := HA.out Wd (HWQ.out _ hS)
          clear hw
          simp [readFacts, depFacts, dstOf, Region.binds, rg2V] at hr hd
          refine ⟨wanted_none (by rfl), fun K hK => ?_⟩
          go_simp
          first
            | exact hK _ hS
            | (with_reducible refine (G2.out _).mono ?_
               rintro r w' ⟨rfl, bb⟩
               exact hK _ (hS.trans (bb.mono hS.size)))
      · obtain rfl : j = M := by omega
        have dj : decide ((j : Int) < (j : Int)) = false := decide_eq_false (by omega)
        have hO := HO3.out
        rw [HDJ.out] at hO
        simp only [if_true] at hO
        subst hO
        have CO2 := Lib.hid (CO1.out _ L wr (IntsAt.si HI2.out).sw (by omega))
        clear hI hbq HO3
        go_wp2_with fail
        refine CO2.out.mono ?_
        rintro r w9 ⟨u, rfl, hu, b9⟩
        have HU := Lib.hid hu
        have HQ := Lib.hid (BEL.out.trans ((HBQ.out.trans (b9.mono hCq)).mono hle))
        clear hu b9
        go_wp2_with fail
        go_ret3
        exact ⟨_, rfl, IntsAt.si HU.out, HQ.out⟩
  all_goals
    intro ℓ act Wd hl hS hw hr hd
    obtain ⟨d0, d1, d2, d3, d4, d5, d6, d7, d8, d9⟩ := HA.out Wd (HW2.out _ hS)
    clear hw
    simp [readFacts, depFacts, dstOf, Region.binds, rg1V] at hr hd
    refine ⟨wanted_none (by rfl), fun K hK => ?_⟩
    go_simp
    first
      | exact hK _ hS
      | (with_reducible refine (G1.out _).mono ?_
         rintro r w' ⟨rfl, bb⟩
         exact hK _ (hS.trans (bb.mono hS.size)))
end Go.Proofs.Ytmjjbapahgejmaa.Rre
