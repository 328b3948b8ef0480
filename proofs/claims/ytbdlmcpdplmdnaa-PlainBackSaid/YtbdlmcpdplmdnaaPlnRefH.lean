/-
  Contracts of the reference of layer 16 (plain): the colours of bytes.
-/
import Derived.Test.YtbdlmcpdplmdnaaPlnRefG
namespace Go.Proofs.Ytbdlmcpdplmdnaa.Pln
open Go.ChangeShapes Go.WideShapes Go.ChangeAt Go.RowKit Lz RowG RegVal Fmt Oct
set_option linter.unusedVariables false
set_option linter.unusedSimpArgs false
set_option maxRecDepth 100000

/-- The colour of the bytes of one place; what RawOf answers. -/
def pxAt (f : Fm) (t : ByteArray) (j : Nat) : Int := ((f.col (getL f.big ((t.data.toList.drop (j * f.size)).take f.size)) : Nat) : Int)
def rawE (f : Fm) (x y : Int) (t : ByteArray) : Int := if fitsB f x y then if t.size < (x * y).toNat * f.size then 2 else 0 else 1
def rawN (f : Fm) (x y : Int) (t : ByteArray) : Int := if rawE f x y t = 0 then (((x * y).toNat * f.size : Nat) : Int) else 0
def rawP (f : Fm) (x y : Int) (t : ByteArray) : List Int := if rawE f x y t = 0 then gen (x * y).toNat (pxAt f t) else []
theorem get_rest {f : Fm} (hf : f.ok = true) (t : ByteArray) (j : Nat) (h : (j + 1) * f.size ≤ t.size) :
    f.get (t.extract (j * f.size) t.size) = getL f.big ((t.data.toList.drop (j * f.size)).take f.size) := by
  have e : (t.extract (j * f.size) t.size).data.toList = t.data.toList.drop (j * f.size) := by
    simp
    exact List.take_of_length_le (by rw [List.length_drop]; exact Nat.le_refl _)
  have hs : ¬ (t.extract (j * f.size) t.size).size < f.size := by
    rw [Nat.succ_mul] at h
    simp
    omega
  unfold Fm.get
  rw [if_pos hf, if_neg hs, e]
def gvV (F s r : Value) (k : Nat) (x e : Int) : Nat → Value
  | 0 => F
  | 1 => s
  | 2 => .int .i64 (k : Nat)
  | 3 => r
  | 4 => .tuple #[.int .i64 x, .int .i64 e]
  | 5 => .tuple #[.int .i64 x, .int .i64 e]
  | 6 => .int .i64 x
  | 7 => .int .i64 e
  | 8 => .int .i64 x
  | _ => .int .i64 e
set_option maxHeartbeats 2000000 in
theorem refRawOf_any (f : Fm) (hf : f.Wf) (x y : Int) (t : ByteArray) (ht : t.size ≤ 100000) (w : World) :
    Calls Try.prog 9 #[f.v, .int .i64 x, .int .i64 y, .string t] w fun e w' => ∃ u, e = .returned (.tuple #[u, .int .i64 (rawN f x y t), .int .i64 (rawE f x y t)]) ∧ IntsAt w.heap.size w' u (rawP f x y t) ∧ Below w.heap.size w w' := by
  have FI := Lib.hid (fun w => refFits_any f hf x y w)
  by_cases hfit : fitsB f x y = true
  case neg =>
    have hfit : fitsB f x y = false := by simpa using hfit
    have e1 : rawE f x y t = 1 := by unfold rawE; rw [hfit]; rfl
    have e2 : rawN f x y t = 0 := by unfold rawN; rw [e1]; rfl
    have e3 : rawP f x y t = [] := by unfold rawP; rw [e1]; rfl
    rw [e1, e2, e3]
    rw [hfit] at FI
    clear e1 e2 e3 hfit hf
    have AT := FmAt.box f w 23
    have bel := (Below.refl w.heap.size w).alloc (Nat.le_refl _) (.cells #[.int .i64 f.B, .int .i64 f.D, .bool f.big, .bool f.tr, .int .i64 f.rm, .int .i64 f.gm, .int .i64 f.bm, .int .i64 f.rs, .int .i64 f.gs, .int .i64 f.bs] 23)
    obtain ⟨w1, hw1⟩ : ∃ w1, w.alloc (.cells #[.int .i64 f.B, .int .i64 f.D, .bool f.big, .bool f.tr, .int .i64 f.rm, .int .i64 f.gm, .int .i64 f.bm, .int .i64 f.rs, .int .i64 f.gs, .int .i64 f.bs] 23) = w1 := ⟨_, rfl⟩
    rw [hw1] at AT bel
    have HF : f.v = .agg #[.int .i64 f.B, .int .i64 f.D, .bool f.big, .bool f.tr, .int .i64 f.rm, .int .i64 f.gm, .int .i64 f.bm, .int .i64 f.rs, .int .i64 f.gs, .int .i64 f.bs] := rfl
    rw [HF] at FI ⊢
    have BEL := Lib.hid bel
    clear HF bel
    obtain ⟨B, D, big, tr, rm, gm, bm, rs, gs, bs⟩ := f
    simp only at *
    obtain ⟨d0, d1, d2, d3, d4, d5, d6, d7, d8, d9⟩ := AT
    dsimp only at d0 d1 d2 d3 d4 d5 d6 d7 d8 d9
    go_enter Try.func9, Try.ntmps9
    go_wp2_with fail
    refine (FI.out _).mono ?_
    rintro r w2 ⟨rfl, b⟩
    have HB := Lib.hid (BEL.out.trans (b.mono BEL.out.size))
    clear b
    go_wp2_with fail
    go_ret3
    exact ⟨_, rfl, RowAt.nil _ _ _ _, HB.out⟩
  have hok : f.ok = true := by
    unfold fitsB at hfit
    simp only [Bool.and_eq_true] at hfit
    exact hfit.1.1.1.1
  have hxy : 0 ≤ x ∧ x ≤ 4096 ∧ 0 ≤ y ∧ y ≤ 4096 := by
    unfold fitsB at hfit
    simp only [Bool.and_eq_true, decide_eq_true_eq] at hfit
    exact ⟨hfit.1.1.1.2, hfit.1.1.2, hfit.1.2, hfit.2⟩
  obtain ⟨s1, s2, s3⟩ := fm_sz hok
  have hsz : f.size = Fm.sz f := if_pos hok
  rw [← hsz] at s1 s2 s3
  have hM0 : 0 ≤ x * y := Int.mul_nonneg hxy.1 hxy.2.2.1
  have hM1 : x * y ≤ 4096 * 4096 := Int.mul_le_mul hxy.2.1 hxy.2.2.2 hxy.2.2.1 (by decide)
  obtain ⟨M, hM⟩ : ∃ M : Nat, (x * y).toNat = M := ⟨_, rfl⟩
  have hMx : x * y = (M : Int) := by omega
  have eE : rawE f x y t = if t.size < M * f.size then 2 else 0 := by unfold rawE; rw [if_pos hfit, hM]
  have hM16 : M ≤ 16777216 := by omega
  have wM : IntKind.i64.wrap (x * y) = (M : Int) := (IntWalk.i64_in _ (by omega)).trans hMx
  have hMN : M * f.size ≤ 16777216 * 4 := Nat.mul_le_mul (by omega) s2
  obtain ⟨N, hN⟩ : ∃ N, M * f.size = N := ⟨_, rfl⟩
  have hMc : ((M : Int) * (f.size : Nat)) = (N : Int) := by rw [← hN]; rfl
  have wN : IntKind.i64.wrap ((M : Int) * (f.size : Nat)) = (N : Int) := by rw [hMc]; exact IntWalk.i64_in _ (by omega)
  rw [hN] at eE hMN
  rw [hfit] at FI
  have eN : rawN f x y t = if t.size < N then 0 else (N : Int) := by
    unfold rawN
    rw [eE, hM, hN]
    by_cases h : t.size < N
    · rw [if_pos h, if_pos h]; rfl
    · rw [if_neg h, if_neg h]; rfl
  have eP : rawP f x y t = if t.size < N then [] else gen M (pxAt f t) := by
    unfold rawP
    rw [eE, hM]
    by_cases h : t.size < N
    · rw [if_pos h, if_pos h]; rfl
    · rw [if_neg h, if_neg h]; rfl
  rw [eE, eN, eP]
  have GV := Lib.hid (fun (k : Nat) (h : k < M) (hN : ¬ t.size < N) w => refGetV_any f hok (t.extract (k * f.size) t.size) (by simp; omega) w)
  have CO := Lib.hid (fun (k : Nat) (h : k < M) (hle : ¬ t.size < N) (w : World) => by
    have hk : (k + 1) * f.size ≤ t.size := Nat.le_trans (Nat.mul_le_mul_right _ h) (by rw [hN]; omega)
    have := refColour_f f hok (f.get (t.extract (k * f.size) t.size)) w
    rw [show ((f.col (f.get (t.extract (k * f.size) t.size)) : Nat) : Int) = pxAt f t k by unfold pxAt; rw [get_rest hok t k hk]] at this
    exact this)
  obtain ⟨PX, hPX⟩ : ∃ PX, pxAt f t = PX := ⟨_, rfl⟩
  rw [hPX] at CO ⊢
  clear eE eN eP hPX
  have GG := Lib.hid (fun k => (⟨f.get (t.extract (k * f.size) t.size), f.getE (t.extract (k * f.size) t.size), rfl, rfl⟩ : ∃ a b, f.get (t.extract (k * f.size) t.size) = a ∧ f.getE (t.extract (k * f.size) t.size) = b))
  have HMN := Lib.hid hN
  generalize f.size = s at *
  have AT := FmAt.box f w 23
  have bel := (Below.refl w.heap.size w).alloc (Nat.le_refl _) (.cells #[.int .i64 f.B, .int .i64 f.D, .bool f.big, .bool f.tr, .int .i64 f.rm, .int .i64 f.gm, .int .i64 f.bm, .int .i64 f.rs, .int .i64 f.gs, .int .i64 f.bs] 23)
  have hz1 : (w.alloc (.cells #[.int .i64 f.B, .int .i64 f.D, .bool f.big, .bool f.tr, .int .i64 f.rm, .int .i64 f.gm, .int .i64 f.bm, .int .i64 f.rs, .int .i64 f.gs, .int .i64 f.bs] 23)).heap.size = w.heap.size + 1 := alloc_size _ _
  obtain ⟨w1, hw1⟩ : ∃ w1, w.alloc (.cells #[.int .i64 f.B, .int .i64 f.D, .bool f.big, .bool f.tr, .int .i64 f.rm, .int .i64 f.gm, .int .i64 f.bm, .int .i64 f.rs, .int .i64 f.gs, .int .i64 f.bs] 23) = w1 := ⟨_, rfl⟩
  rw [hw1] at AT bel hz1
  have HA := Lib.hid (fun W (hW : Below w1.heap.size w1 W) => AT.below hW (by omega))
  have HF : f.v = .agg #[.int .i64 f.B, .int .i64 f.D, .bool f.big, .bool f.tr, .int .i64 f.rm, .int .i64 f.gm, .int .i64 f.bm, .int .i64 f.rs, .int .i64 f.gs, .int .i64 f.bs] := rfl
  rw [HF] at FI GV CO ⊢
  have BEL := Lib.hid bel
  have hle : w.heap.size ≤ w1.heap.size := bel.size
  clear HF bel hfit hf hok hsz hz1 hM hMx hM0 hM1 hxy hN hMc AT
  obtain ⟨Gf, hGf⟩ : ∃ Gf, f.get = Gf := ⟨_, rfl⟩
  obtain ⟨Ge, hGe⟩ : ∃ Ge, f.getE = Ge := ⟨_, rfl⟩
  rw [hGf, hGe] at GV GG
  rw [hGf] at CO
  clear hGf hGe
  obtain ⟨B, D, big, tr, rm, gm, bm, rs, gs, bs⟩ := f
  simp only at *
  have hB : B.tdiv 8 = (s : Nat) := by
    have : 0 ≤ B := by omega
    rw [Int.tdiv_eq_ediv_of_nonneg this]
    exact s1
  obtain ⟨d0, d1, d2, d3, d4, d5, d6, d7, d8, d9⟩ := HA.out w1 (Below.refl _ _)
  dsimp only at d0 d1 d2 d3 d4 d5 d6 d7 d8 d9
  have wS : IntKind.i64.wrap (s : Int) = (s : Int) := IntWalk.i64_in _ (by omega)
  go_enter Try.func9, Try.ntmps9
  go_wp2_with fail
  refine (FI.out _).mono ?_
  rintro r w2 ⟨rfl, b⟩
  have HB := Lib.hid (b : Below w1.heap.size w1 w2)
  clear b FI d0 d1 d2 d3 d4 d5 d6 d7 d8 d9
  obtain ⟨d0, d1, d2, d3, d4, d5, d6, d7, d8, d9⟩ := HA.out w2 HB.out
  dsimp only at d0 d1 d2 d3 d4 d5 d6 d7 d8 d9
  by_cases hlt : t.size < N
  · simp only [if_pos hlt]
    have k1 : decide ((t.size : Int) < N) = true := decide_eq_true (by omega)
    have k2 : decide (t.size < N) = true := decide_eq_true hlt
    clear GV CO
    go_wp2_with fail
    go_ret3
    exact ⟨_, rfl, RowAt.nil _ _ _ _, BEL.out.trans (HB.out.mono hle)⟩
  simp only [if_neg hlt]
  have k1 : decide ((t.size : Int) < N) = false := decide_eq_false (by omega)
  have k2 : decide (t.size < N) = false := decide_eq_false hlt
  have HLT := Lib.hid hlt
  clear hlt
  go_wp2_with fail
  go_loopw [13, 14] (fun vo vi wz => ∃ k i : Nat, k ≤ M ∧ k * s = i ∧ vi = .int .i64 i ∧ IntsAt w1.heap.size wz vo (gen k PX) ∧ Below w1.heap.size w1 wz) (fun _ vi _ => N - (intOf vi).toNat)
  case atStart => exact ⟨0, 0, Nat.zero_le _, Nat.zero_mul _, rfl, RowAt.nil _ _ _ _, HB.out⟩
  case round =>
    obtain ⟨k, i, hk, hki, rfl, hO, hbz⟩ := hrel
    have HKI := Lib.hid hki
    by_cases hlt : k < M
    · have hi1 : i + s ≤ N := by
        have : (k + 1) * s ≤ M * s := Nat.mul_le_mul_right _ hlt
        rw [HMN.out, Nat.succ_mul, hki] at this
        exact this
      have j1 : decide ((i : Int) < N) = true := decide_eq_true (by omega)
      have j2 : decide (i < N) = true := decide_eq_true (by omega)
      obtain ⟨j, hj⟩ : ∃ j, i + s = j := ⟨_, rfl⟩
      have wJ : IntKind.i64.wrap ((i : Int) + (s : Int)) = (j : Int) := (IntWalk.i64_in _ (by omega)).trans (by omega)
      have hit : i ≤ t.size := by have := HLT.out; omega
      have hitI : (i : Int) ≤ t.size := by omega
      obtain ⟨X, E, hX, hE⟩ := GG.out k
      have G1 := Lib.hid (GV.out k hlt HLT.out)
      have C1 := Lib.hid (CO.out k hlt HLT.out)
      rw [hX, hE, hki] at G1
      rw [hX] at C1
      obtain ⟨R, hR⟩ : ∃ R, t.extract i t.size = R := ⟨_, rfl⟩
      rw [hR] at G1
      obtain ⟨vn, cn, rfl⟩ := RowAt.shape hO
      have HGEN := Lib.hid (gen_succ k PX)
      have hgl : (gen k PX).length ≤ 16777216 := by rw [gen_length]; omega
      have HJ := Lib.hid hj
      have hiN : i < N := by omega
      generalize PX k = z at *
      generalize gen k PX = L at *
      have HO := Lib.hid hO
      have HZ := Lib.hid hbz.drew
      clear hO hbz hX hE hki hj hi1
      have hqs : w1.heap.size ≤ wr.drew.heap.size := HZ.out.size
      go_wp2_with fail
      refine region_all (by kernel_rfl) (gvV (.agg #[.int .i64 B, .int .i64 D, .bool big, .bool tr, .int .i64 rm, .int .i64 gm, .int .i64 bm, .int .i64 rs, .int .i64 gs, .int .i64 bs]) (.string t) (.string R) i X E) (fun W => Below wr.drew.heap.size wr.drew W) [3, 4, 14] [none, none, none, none, none, none, none, none, none, none, none, none, none, none, none, some 8, some 9, none, none, none, none, none, none, none, none, none, none, none, none, none, none, none, none, none, none, none, none, none, none, none, some 5, some 0, some 1, some 2, some 3, some 4, some 6, some 7, none, none, none, none, none, none, none, none] (by kernel_rfl) (by kernel_rfl) (by rfl) (by kernel_rfl) (by kernel_rfl) (by kernel_rfl) (Below.refl _ _) ⟨?_, ?_, ?_, ?_, ?_, ?_, ?_, ?_, ?_, ?_, trivial⟩ ?_
      case refine_11 =>
        intro W3 hS
        have hb3 := HZ.out.trans (hS.mono hqs)
        obtain ⟨d0, d1, d2, d3, d4, d5, d6, d7, d8, d9⟩ := HA.out W3 hb3
        dsimp only at d0 d1 d2 d3 d4 d5 d6 d7 d8 d9
        have HO3 := Lib.hid (RowAt.below (show IntsAt w1.heap.size wr.drew (.slice vn L.length cn) L from HO.out) hS)
        have HB3 := Lib.hid hb3
        clear hS hb3 HO
        simp only [zipF, gvV]
        go_wp2_with fail
        refine (C1.out _).mono ?_
        rintro r w4 ⟨rfl, b⟩
        have HO4 := Lib.hid (RowAt.below HO3.out b)
        have HB4 := Lib.hid (HB3.out.trans (b.mono HB3.out.size))
        clear b d0 d1 d2 d3 d4 d5 d6 d7 d8 d9
        go_wp2_with (at_builtin; refine wpl_int rfl _ _ rfl (.slice vn L.length cn) w1.heap.size L rfl HO4.out HB4.out.size (by omega) z _ rfl ?_; intro vz wz hz1 hz2; obtain ⟨vq, cq, hvq⟩ := RowAt.shape hz1; subst hvq; have HZ1 := Lib.hid hz1; have HZ2 := Lib.hid hz2; clear hz1 hz2)
        refine ⟨⟨k + 1, j, by omega, by rw [Nat.succ_mul, HKI.out]; exact HJ.out, by go_num, by have h := HZ1.out; rw [show (L ++ [z]).length = L.length + 1 by simp] at h; rw [HGEN.out]; exact h, HB4.out.trans HZ2.out⟩, ?_⟩
        simp [intOf]
        have := HJ.out
        omega
      all_goals
        intro ℓ act Wd hl hS hw hr hd
        obtain ⟨d0, d1, d2, d3, d4, d5, d6, d7, d8, d9⟩ := HA.out Wd (HZ.out.trans (hS.mono hqs))
        dsimp only at d0 d1 d2 d3 d4 d5 d6 d7 d8 d9
        clear hw
        simp [readFacts, depFacts, dstOf, Region.binds, gvV] at hr hd
        refine ⟨wanted_none (by rfl), fun K hK => ?_⟩
        go_simp
        first
          | exact hK _ hS
          | (with_reducible refine (G1.out _).mono ?_
             rintro r w' ⟨rfl, b⟩
             exact hK _ (hS.trans (b.mono hS.size)))
    · obtain rfl : k = M := by omega
      have hiN : i = N := by rw [← hki]; exact HMN.out
      subst hiN
      have j1 : decide ((i : Int) < i) = false := decide_eq_false (by omega)
      have j2 : decide (i < i) = false := decide_eq_false (by omega)
      have HO := Lib.hid (And.intro (RowAt.base hO hle) (BEL.out.trans (hbz.mono hle)))
      clear hO hbz
      go_wp2_with fail
      go_ret3
      exact ⟨_, rfl, HO.out.1, HO.out.2⟩
end Go.Proofs.Ytbdlmcpdplmdnaa.Pln
