/-
  The program of layer 16 (plain): the colours of bytes.
-/
import Derived.Test.YtbdlmcpdplmdnaaPlnPrgF
import Derived.Sort.CutIn
namespace Go.Proofs.Ytbdlmcpdplmdnaa.Pln
open Go.ChangeShapes Go.WideShapes Go.ChangeAt Go.RowKit Go.Shelf Lz RowG RegVal Fmt Oct OwnB
set_option linter.unusedVariables false
set_option linter.unusedSimpArgs false
set_option maxRecDepth 100000
attribute [local go_sem] Oper.semAt_some

def roI (w : World) (n0 r0 : Nat) (F : Array Value) (Z : Nat → Int) (M : Nat) (pre : List (Fin M)) (W : World) : Prop := RoJ w n0 r0 F (pre.map fun x => Z x.1) W
theorem fin_gen (M : Nat) (Z : Nat → Int) : (List.finRange M).map (fun x => Z x.1) = gen M Z := by
  unfold gen
  apply List.ext_getElem
  · simp
  · intro i h1 h2
    simp
def roV (F sT sN fn : Value) (n : Nat) : Nat → Option Value
  | 0 => some F
  | 1 => some sT
  | 2 => some (.int .i64 (n : Nat))
  | 3 => some sN
  | 4 => some fn
  | _ => none
theorem getL_wf (big : Bool) (l : List UInt8) (h : l.length ≤ 4) : (Lit.int .i64 (getL big l)).wf = true := by
  unfold getL
  have h1 := valL_bd (if big then l.reverse else l)
  have hl : (if big then l.reverse else l).length = l.length := by split <;> simp
  rw [hl] at h1
  have h2 : (2 : Int) ^ (8 * l.length) ≤ 2 ^ 32 := by
    have := Nat.pow_le_pow_right (n := 2) (by decide) (show 8 * l.length ≤ 32 by omega)
    exact_mod_cast this
  have h3 : (2 : Int) ^ 32 = 4294967296 := by decide
  simp only [Lit.wf, IntKind.min, IntKind.max, IntKind.signed, IntKind.bits, Bool.and_eq_true, decide_eq_true_eq, if_true]
  constructor
  · have : -(2 : Int) ^ (64 - 1) ≤ 0 := by decide
    omega
  · have : (4294967296 : Int) ≤ 2 ^ (64 - 1) := by decide
    omega
theorem get_cut {f : Fm} (hok : f.ok = true) (t : ByteArray) (M : Nat) (hM : M * f.size ≤ t.size) (k : Nat) (hk : k < M) :
    f.get ((t.extract 0 (M * f.size)).extract (k * f.size) (t.extract 0 (M * f.size)).size) = getL f.big ((t.data.toList.drop (k * f.size)).take f.size) := by
  obtain ⟨e1, e2⟩ := ext_take t (M * f.size) hM
  have h1 : (k + 1) * f.size ≤ M * f.size := Nat.mul_le_mul_right _ hk
  rw [get_rest hok _ k (by rw [e2]; exact h1), e1, List.drop_take, List.take_take]
  rw [Nat.min_eq_left]
  rw [Nat.succ_mul] at h1
  omega
set_option maxHeartbeats 8000000 in
theorem rawOf_any (f : Fm) (hf : f.Wf) (x y : Int) (hx : (Lit.int .i64 x).wf = true) (hy : (Lit.int .i64 y).wf = true) (t : ByteArray) (ht : t.size ≤ 100000) (w : World) :
    Calls Try.prog 8 #[f.v, .int .i64 x, .int .i64 y, .string t] w fun e w' => ∃ u, e = .returned (.tuple #[u, .int .i64 (rawN f x y t), .int .i64 (rawE f x y t)]) ∧ IntsAt w.heap.size w' u (rawP f x y t) ∧ Below w.heap.size w w' := by
  have FI := Lib.hid (fun w => fits_any f hf x y w)
  by_cases hfit : fitsB f x y = true
  case neg =>
    have hfit : fitsB f x y = false := by simpa using hfit
    have e1 : rawE f x y t = 1 := by unfold rawE; rw [hfit]; rfl
    have e2 : rawN f x y t = 0 := by unfold rawN; rw [e1]; rfl
    have e3 : rawP f x y t = [] := by unfold rawP; rw [e1]; rfl
    rw [e1, e2, e3]
    rw [hfit] at FI
    clear e1 e2 e3 hfit hf
    have AT := FmAt.box f w 23
    have bel := (Below.refl w.heap.size w).alloc (Nat.le_refl _) (.cells #[.int .i64 f.B, .int .i64 f.D, .bool f.big, .bool f.tr, .int .i64 f.rm, .int .i64 f.gm, .int .i64 f.bm, .int .i64 f.rs, .int .i64 f.gs, .int .i64 f.bs] 23)
    obtain ⟨w1, hw1⟩ : ∃ w1, w.alloc (.cells #[.int .i64 f.B, .int .i64 f.D, .bool f.big, .bool f.tr, .int .i64 f.rm, .int .i64 f.gm, .int .i64 f.bm, .int .i64 f.rs, .int .i64 f.gs, .int .i64 f.bs] 23) = w1 := ⟨_, rfl⟩
    rw [hw1] at AT bel
    have HF : f.v = .agg #[.int .i64 f.B, .int .i64 f.D, .bool f.big, .bool f.tr, .int .i64 f.rm, .int .i64 f.gm, .int .i64 f.bm, .int .i64 f.rs, .int .i64 f.gs, .int .i64 f.bs] := rfl
    rw [HF] at FI ⊢
    have BEL := Lib.hid bel
    clear HF bel
    obtain ⟨B, D, big, tr, rm, gm, bm, rs, gs, bs⟩ := f
    simp only at *
    obtain ⟨d0, d1, d2, d3, d4, d5, d6, d7, d8, d9⟩ := AT
    dsimp only at d0 d1 d2 d3 d4 d5 d6 d7 d8 d9
    go_enter Try.func8, Try.ntmps8
    go_wp2_with fail
    refine (FI.out _).mono ?_
    rintro r w2 ⟨rfl, b⟩
    have HB := Lib.hid (BEL.out.trans (b.mono BEL.out.size))
    clear b
    go_wp2_with fail
    go_ret3
    exact ⟨_, rfl, RowAt.nil _ _ _ _, HB.out⟩
  have hok : f.ok = true := by
    unfold fitsB at hfit
    simp only [Bool.and_eq_true] at hfit
    exact hfit.1.1.1.1
  have hxy : 0 ≤ x ∧ x ≤ 4096 ∧ 0 ≤ y ∧ y ≤ 4096 := by
    unfold fitsB at hfit
    simp only [Bool.and_eq_true, decide_eq_true_eq] at hfit
    exact ⟨hfit.1.1.1.2, hfit.1.1.2, hfit.1.2, hfit.2⟩
  have s2 := (size_le4 f).1
  have hM0 : 0 ≤ x * y := Int.mul_nonneg hxy.1 hxy.2.2.1
  have hM1 : x * y ≤ 4096 * 4096 := Int.mul_le_mul hxy.2.1 hxy.2.2.2 hxy.2.2.1 (by decide)
  obtain ⟨M, hM⟩ : ∃ M : Nat, (x * y).toNat = M := ⟨_, rfl⟩
  have hMx : x * y = (M : Int) := by omega
  have hM16 : M ≤ 16777216 := by omega
  have eE : rawE f x y t = if t.size < M * f.size then 2 else 0 := by unfold rawE; rw [if_pos hfit, hM]
  have wM : IntKind.i64.wrap (x * y) = (M : Int) := (IntWalk.i64_in _ (by omega)).trans hMx
  have hMN : M * f.size ≤ 16777216 * 4 := Nat.mul_le_mul (by omega) s2
  obtain ⟨N, hN⟩ : ∃ N, M * f.size = N := ⟨_, rfl⟩
  have hMc : ((M : Int) * (f.size : Nat)) = (N : Int) := by rw [← hN]; rfl
  have wN : IntKind.i64.wrap ((M : Int) * (f.size : Nat)) = (N : Int) := by rw [hMc]; exact IntWalk.i64_in _ (by omega)
  rw [hN] at eE hMN
  rw [hfit] at FI
  have eN : rawN f x y t = if t.size < N then 0 else (N : Int) := by
    unfold rawN
    rw [eE, hM, hN]
    by_cases h : t.size < N
    · rw [if_pos h, if_pos h]; rfl
    · rw [if_neg h, if_neg h]; rfl
  have eP : rawP f x y t = if t.size < N then [] else gen M (pxAt f t) := by
    unfold rawP
    rw [eE, hM]
    by_cases h : t.size < N
    · rw [if_pos h, if_pos h]; rfl
    · rw [if_neg h, if_neg h]; rfl
  rw [eE, eN, eP]
  have SZ := Lib.hid (fun w => size_any f hf w)
  obtain ⟨S, hS⟩ : ∃ S, t.extract 0 N = S := ⟨_, rfl⟩
  have hSs : ¬ t.size < N → S.size = N := fun h => by rw [← hS]; exact (ext_take t N (by omega)).2
  have VO := Lib.hid (fun W => valuesIn_any f S W)
  obtain ⟨X, hX⟩ : ∃ X, (fun k => f.get (S.extract (k * f.size) S.size)) = X := ⟨_, rfl⟩
  have VI := Lib.hid (fun (h : ¬ t.size < N) w6 r0 c1 c2 => by
    have := valsIn_in 4 (by decide) f hf hok S M (by rw [hSs h]; exact hN) (by rw [hSs h]; omega) w6 0 (r0 + 3) (r0 + 2) r0 (by omega) (by omega) (by omega) c1 c2
    rw [hX] at this
    exact this)
  have XE : ¬ t.size < N → ∀ k, k < M → X k = getL f.big ((t.data.toList.drop (k * f.size)).take f.size) := fun h k hk => by
    rw [← hX, ← hS]
    have := get_cut hok t M (by rw [hN]; omega) k hk
    rw [hN] at this
    exact this
  have CO := Lib.hid (fun (h : ¬ t.size < N) (k : Nat) (hk : k < M) (W : World) => by
    have := colour_any f hf (X k) (by rw [XE h k hk]; exact getL_wf _ _ (Nat.le_trans (List.length_take_le _ _) s2)) W
    rw [show f.colI (X k) = pxAt f t k by unfold Fm.colI pxAt; rw [if_pos hok, XE h k hk]] at this
    exact this)
  obtain ⟨PX, hPX⟩ : ∃ PX, pxAt f t = PX := ⟨_, rfl⟩
  rw [hPX] at CO ⊢
  have HSS := Lib.hid hSs
  clear eE eN eP hPX hX XE hSs
  have HF : f.v = .agg #[.int .i64 f.B, .int .i64 f.D, .bool f.big, .bool f.tr, .int .i64 f.rm, .int .i64 f.gm, .int .i64 f.bm, .int .i64 f.rs, .int .i64 f.gs, .int .i64 f.bs] := rfl
  rw [HF] at FI SZ VO CO ⊢
  have HFM : RowKit.Hid (∀ (W : World) (k : Nat), W.heap[k]? = some (.cells #[.int .i64 f.B, .int .i64 f.D, .bool f.big, .bool f.tr, .int .i64 f.rm, .int .i64 f.gm, .int .i64 f.bm, .int .i64 f.rs, .int .i64 f.gs, .int .i64 f.bs] 23 (0, 0)) → FmAt W k f) := Lib.hid (fun W k h => ⟨cellAt h rfl, cellAt h rfl, cellAt h rfl, cellAt h rfl, cellAt h rfl, cellAt h rfl, cellAt h rfl, cellAt h rfl, cellAt h rfl, cellAt h rfl⟩)
  obtain ⟨n0, hn0⟩ : ∃ n0, w.heap.size = n0 := ⟨_, rfl⟩
  have step := fun (w : World) (cs : Array Value) (T : TypeId) => And.intro (alloc_size w (.cells cs T)) (And.intro (heap_alloc_new w (.cells cs T)) ((Below.refl w.heap.size w).alloc (Nat.le_refl _) (.cells cs T)))
  obtain ⟨z1, o1, k1⟩ := step w #[.int .i64 f.B, .int .i64 f.D, .bool f.big, .bool f.tr, .int .i64 f.rm, .int .i64 f.gm, .int .i64 f.bm, .int .i64 f.rs, .int .i64 f.gs, .int .i64 f.bs] 23
  obtain ⟨w1, hw1⟩ : ∃ w1, w.alloc (.cells #[.int .i64 f.B, .int .i64 f.D, .bool f.big, .bool f.tr, .int .i64 f.rm, .int .i64 f.gm, .int .i64 f.bm, .int .i64 f.rs, .int .i64 f.gs, .int .i64 f.bs] 23) = w1 := ⟨_, rfl⟩
  rw [hw1] at z1 o1 k1
  rw [hn0] at z1 o1 k1
  have HO1 := Lib.hid o1
  have HK1 := Lib.hid k1
  have HN := Lib.hid hN
  have hs := hS
  generalize f.size = s at *
  clear HF hf hok hfit hM hMx hM0 hM1 hxy hN hMc hx hy k1 step s2
  obtain ⟨B, D, big, tr, rm, gm, bm, rs, gs, bs⟩ := f
  simp only at *
  obtain ⟨d0, d1, d2, d3, d4, d5, d6, d7, d8, d9⟩ := HFM.out _ _ o1
  clear o1
  refine (callsIn_wide (n := 5)).1 ?_
  refine callsIn_of_wp_marks Try.func8 rfl trivial ?_ rfl
  simp only [Try.ntmps8, List.size_toArray, List.length_cons, List.length_nil, Nat.reduceAdd, Nat.reduceSub, Array.replicate_succ, Array.replicate_zero, List.push_toArray, List.append_toArray, List.nil_append, List.cons_append]
  gi_wp2
  refine ⟨trivial, (callsIn_wide.2 (FI.out _)).mono ?_⟩
  rintro e w2 ⟨rfl, b2⟩
  have HO2 := Lib.hid ((b2.block n0 (by omega)).trans HO1.out)
  have HK2 := Lib.hid (HK1.out.trans (b2.mono (by omega)))
  have hz2 : n0 + 1 ≤ w2.heap.size := by have := b2.size; omega
  clear b2 FI HO1 HK1 d0 d1 d2 d3 d4 d5 d6 d7 d8 d9
  obtain ⟨d0, d1, d2, d3, d4, d5, d6, d7, d8, d9⟩ := HFM.out _ _ HO2.out
  gi_wp2
  refine ⟨trivial, (callsIn_wide.2 (SZ.out _)).mono ?_⟩
  rintro e w3 ⟨rfl, b3⟩
  have HO3 := Lib.hid ((b3.block n0 (by omega)).trans HO2.out)
  have HK3 := Lib.hid (HK2.out.trans (b3.mono (by omega)))
  obtain ⟨r0, hr0⟩ : ∃ r0, w3.heap.size = r0 := ⟨_, rfl⟩
  have hnr : n0 < r0 := by have := b3.size; omega
  clear b3 SZ HO2 HK2 d0 d1 d2 d3 d4 d5 d6 d7 d8 d9
  by_cases hlt : t.size < N
  · simp only [if_pos hlt]
    have q1 : decide ((t.size : Int) < N) = true := decide_eq_true (by omega)
    have q2 : decide (t.size < N) = true := decide_eq_true hlt
    clear VI CO VO HSS
    gi_wp2
    refine ⟨_, results_tmp3 rfl _ _ _, ⟨_, rfl, RowAt.nil _ _ _ _, ?_⟩⟩
    exact HK3.out
  simp only [if_neg hlt]
  have q1 : decide ((t.size : Int) < N) = false := decide_eq_false (by omega)
  have q2 : decide (t.size < N) = false := decide_eq_false hlt
  have HVI := Lib.hid (VI.out hlt)
  have HCO := Lib.hid (CO.out hlt)
  have hNt : (N : Int) ≤ t.size := by omega
  have hNt2 : N ≤ t.size := by omega
  clear VI CO HSS hlt
  obtain ⟨w4, mk, own, bel, z4⟩ := make_row M (by omega) w3
  rw [hr0] at mk own bel z4
  have z5 := alloc_size w4 (.cells #[.slice (some ⟨r0, 0, none⟩) 0 M] 24)
  have o5 := heap_alloc_new w4 (.cells #[.slice (some ⟨r0, 0, none⟩) 0 M] 24)
  have k5 := (Below.refl w4.heap.size w4).alloc (Nat.le_refl _) (.cells #[.slice (some ⟨r0, 0, none⟩) 0 M] 24)
  obtain ⟨w5, hw5⟩ : ∃ w5, w4.alloc (.cells #[.slice (some ⟨r0, 0, none⟩) 0 M] 24) = w5 := ⟨_, rfl⟩
  rw [hw5] at z5 o5 k5
  rw [z4] at z5 o5 k5
  rw [show r0 + 1 + 1 = r0 + 2 from rfl] at z5
  have k35 : Below r0 w3 w5 := bel.trans (k5.mono (by omega))
  have HOWN := Lib.hid (RowAt.below own (by rw [z4]; exact k5))
  have HO5 := Lib.hid ((k35.block n0 (by omega)).trans HO3.out)
  have HB5 := Lib.hid o5
  have HK5 := Lib.hid (HK3.out.trans (k35.mono (by omega)))
  obtain ⟨d0, d1, d2, d3, d4, d5, d6, d7, d8, d9⟩ := HFM.out _ _ HO5.out
  clear own bel k5 o5 k35 HO3 HK3
  gi_wp2
  obtain ⟨Wd, hWd⟩ : ∃ Wd, w5.drew = Wd := ⟨_, rfl⟩
  have zd : Wd.heap.size = r0 + 2 := by rw [← hWd]; exact z5
  have HOWNd : RowKit.Hid (IntsAt r0 Wd (.slice (some ⟨r0, 0, none⟩) 0 M) []) := Lib.hid (by rw [← hWd]; exact HOWN.out)
  have HOd : RowKit.Hid (Wd.heap[n0]? = some (.cells #[.int .i64 B, .int .i64 D, .bool big, .bool tr, .int .i64 rm, .int .i64 gm, .int .i64 bm, .int .i64 rs, .int .i64 gs, .int .i64 bs] 23 (0, 0))) := Lib.hid (by rw [← hWd]; exact HO5.out)
  have HBd : RowKit.Hid (Wd.heap[r0 + 1]? = some (.cells #[.slice (some ⟨r0, 0, none⟩) 0 M] 24 (0, 0))) := Lib.hid (by rw [← hWd]; exact HB5.out)
  have HKd : RowKit.Hid (Below n0 w Wd) := Lib.hid (by rw [← hWd]; exact HK5.out.drew)
  have VC := Lib.hid (VO.out Wd)
  rw [zd] at VC
  have step := fun (w : World) (cs : Array Value) (T : TypeId) => And.intro (alloc_size w (.cells cs T)) (And.intro (heap_alloc_new w (.cells cs T)) ((Below.refl w.heap.size w).alloc (Nat.le_refl _) (.cells cs T)))
  obtain ⟨z6, o6, k6⟩ := step Wd #[.int .i64 B, .int .i64 D, .bool big, .bool tr, .int .i64 rm, .int .i64 gm, .int .i64 bm, .int .i64 rs, .int .i64 gs, .int .i64 bs] 23
  obtain ⟨w6, hw6⟩ : ∃ w6, Wd.alloc (.cells #[.int .i64 B, .int .i64 D, .bool big, .bool tr, .int .i64 rm, .int .i64 gm, .int .i64 bm, .int .i64 rs, .int .i64 gs, .int .i64 bs] 23) = w6 := ⟨_, rfl⟩
  rw [hw6] at z6 o6 k6 VC
  obtain ⟨z7, o7, k7⟩ := step w6 #[.string S] 9
  obtain ⟨w7, hw7⟩ : ∃ w7, w6.alloc (.cells #[.string S] 9) = w7 := ⟨_, rfl⟩
  rw [hw7] at z7 o7 k7 VC
  rw [zd] at z6 o6 k6
  rw [show r0 + 2 + 1 = r0 + 3 from rfl] at z6 VC
  rw [z6] at z7 o7 k7
  rw [show r0 + 3 + 1 = r0 + 4 from rfl] at z7
  have k67 : Below (r0 + 2) Wd w7 := k6.trans (k7.mono (by omega))
  have b6 := (k7.block (r0 + 2) (by omega)).trans o6
  have hseq := HVI.out w7 r0 o7 b6
  have hI0 : roI w n0 r0 #[.int .i64 B, .int .i64 D, .bool big, .bool tr, .int .i64 rm, .int .i64 gm, .int .i64 bm, .int .i64 rs, .int .i64 gs, .int .i64 bs] PX M [] w7 := by
    unfold roI
    rw [List.map_nil]
    exact ⟨⟨_, (k67.block _ (by omega)).trans HBd.out, RowAt.below HOWNd.out (by rw [zd]; exact k67), by simp [Value.ownBlock]⟩, b6, (k67.block n0 (by omega)).trans HOd.out, HKd.out.trans (k67.mono (by omega)), by omega⟩
  have HSEQ := Lib.hid hseq
  have HI0 := Lib.hid hI0
  clear hseq hI0 b6 k67 k6 k7 o6 o7 hw6 hw7 step VO HVI HOWN HO5 HB5 HK5 d0 d1 d2 d3 d4 d5 d6 d7 d8 d9 mk hw5
  obtain ⟨d0, d1, d2, d3, d4, d5, d6, d7, d8, d9⟩ := HFM.out _ _ HOd.out
  dsimp only at d0 d1 d2 d3 d4 d5 d6 d7 d8 d9
  refine regionIn_preds (by kernel_rfl) (roV (.agg #[.int .i64 B, .int .i64 D, .bool big, .bool tr, .int .i64 rm, .int .i64 gm, .int .i64 bm, .int .i64 rs, .int .i64 gs, .int .i64 bs]) (.string t) (.string S) (.func (.func 51) #[] #[.pointer (some ⟨r0 + 3, 0, none⟩), .pointer (some ⟨r0 + 2, 0, none⟩)]) N) (fun _ _ _ => True)
    (fun ℓ W => (ℓ 4 = true → ℓ 0 = true) ∧ (ℓ 4 = false → W = Wd) ∧ (ℓ 4 = true → W = w7)) [3, 4, 11]
    [none, none, none, none, none, none, none, none, none, none, none, none, none, none, none, none, none, none, none, none, none, none, none, none, none, none, none, none, none, none, none, none, none, some 0, some 1, some 2, some 3, some 4, none, none, none, none, none, none, none, none, none]
    (by kernel_rfl) (by kernel_rfl) (by rfl) (by kernel_rfl) (by kernel_rfl) (by kernel_rfl) ⟨fun e => (by cases e), fun _ => hWd, fun e => (by cases e)⟩ ⟨?_, ?_, ?_, ?_, ?_, trivial⟩ ?_
  case refine_1 =>
    intro ℓ act W9 hl hS hw hx hr hd
    clear hw hx
    simp only [readFacts, depFactsP] at hr hd
    have h4 : ℓ 4 = false := by
      cases e : ℓ 4 with
      | false => rfl
      | true => rw [hS.1 e] at hl; cases hl
    have hW := hS.2.1 h4
    subst hW
    refine ⟨wanted_none (by rfl), fun K hK => ?_⟩
    unfold Oper.wpIn
    refine ⟨fun _ _ => trivial, ?_⟩
    go_simp
    exact hK _ _ rfl ⟨fun _ => by simp, fun _ => rfl, fun e => by simp [h4] at e⟩ (fun _ _ _ _ _ => trivial)
  case refine_5 =>
    intro ℓ act W9 hl hS hw hx hr hd
    have l0 : ℓ 0 = true := hw ⟨0, .data⟩ (by simp) (by rfl)
    clear hw hx
    simp [readFacts, depFactsP, dstOf, Region.binds, roV] at hr hd
    have hW := hS.2.1 hl
    subst hW
    refine ⟨wanted_none (by rfl), fun K hK => ?_⟩
    unfold Oper.wpIn
    refine ⟨fun _ _ => trivial, ?_⟩
    go_simp
    refine (callsIn_wide.2 VC.out).mono ?_
    rintro e w' ⟨rfl, rfl⟩
    exact hK _ _ rfl ⟨fun _ => by simpa using l0, fun e => by simp at e, fun _ => rfl⟩ (fun _ _ _ _ _ => trivial)
  case refine_6 =>
    intro vs ℓ wc hl hS hR
    have hW := hS.2.2 (hl 4 (by decide))
    subst hW
    clear hR hl hS
    simp only [zipF, roV, Option.getD_some, Option.getD_none]
    clear VC HOd HBd HKd HOWNd d0 d1 d2 d3 d4 d5 d6 d7 d8 d9
    gi_wp2
    refine range_own (n := 5) (by decide) (gf := 51) (lb := #[.pointer (some ⟨r0 + 3, 0, none⟩), .pointer (some ⟨r0 + 2, 0, none⟩)]) rfl (enters_of Try.func51 (by kernel_rfl) rfl) (Bt := r0) (by omega) HSEQ.out (Below.refl _ _)
      (fun h k => h.trans k) (fun hs t => VoK.turn t (by omega) (by omega) (by omega) (by omega) (by omega) (by omega)) (fun _ => rfl) (roI w n0 r0 #[.int .i64 B, .int .i64 D, .bool big, .bool tr, .int .i64 rm, .int .i64 gm, .int .i64 bm, .int .i64 rs, .int .i64 gs, .int .i64 bs] PX M)
      (fun s W W' h t => RoJ.turn h (by omega) (by omega) t) HI0.out ?round ?done
    case round =>
      intro l pre q W hl hI hlen
      rw [List.length_finRange] at hlen
      have HII := Lib.hid hI
      unfold roI at HII
      simp only [viE]
      have hx : (pre ++ [q]).map (fun x => PX x.1) = pre.map (fun x => PX x.1) ++ [PX q.1] := by rw [List.map_append]; rfl
      have HSN : RowKit.Hid (∀ W, RoJ w n0 r0 #[.int .i64 B, .int .i64 D, .bool big, .bool tr, .int .i64 rm, .int .i64 gm, .int .i64 bm, .int .i64 rs, .int .i64 gs, .int .i64 bs] (pre.map (fun x => PX x.1) ++ [PX q.1]) W → roI w n0 r0 #[.int .i64 B, .int .i64 D, .bool big, .bool tr, .int .i64 rm, .int .i64 gm, .int .i64 bm, .int .i64 rs, .int .i64 gs, .int .i64 bs] PX M (pre ++ [q]) W) := Lib.hid (fun W h => by
        unfold roI
        rw [hx]
        exact h)
      have hlb : (pre.map fun x => PX x.1).length ≤ 1000000000 := by rw [List.length_map]; omega
      have C1 := Lib.hid (HCO.out q.1 q.2)
      generalize (pre.map fun x => PX x.1) = L at *
      generalize PX q.1 = z at *
      generalize X q.1 = xv at *
      clear hI hlen hx
      gi_wp2
      refine ⟨KeepsFrom.refl _ _, ⟨fun _ _ => rfl, rfl, rfl, Nat.le_refl _⟩, fun Wb t => ?_⟩
      have hIb := HII.out.turn (by omega) (by omega) (t.weak (fun o h => .inl h) (by omega))
      obtain ⟨vr, hb1, hb2, hb3⟩ := hIb.box
      have HMORE := Lib.hid (fun (W' : World) => hIb.more (l' := L ++ [z]) (W' := W') (by omega) hnr hb1 hb2 hb3)
      obtain ⟨pr, cr, hvr⟩ := RowAt.shape hb2
      obtain ⟨We, hWe⟩ : ∃ We, Wb.drew = We := ⟨_, rfl⟩
      have he1 : We.heap[r0 + 1]? = some (.cells #[vr] 24 (0, 0)) := by rw [← hWe]; exact hb1
      have he2 : IntsAt r0 We vr L := by rw [← hWe]; exact hb2
      have he0 : We.heap[n0]? = some (.cells #[.int .i64 B, .int .i64 D, .bool big, .bool tr, .int .i64 rm, .int .i64 gm, .int .i64 bm, .int .i64 rs, .int .i64 gs, .int .i64 bs] 23 (0, 0)) := by rw [← hWe]; exact hIb.f0
      have hes : r0 + 4 ≤ We.heap.size := by rw [← hWe]; exact hIb.sz
      have htd : ∀ {F : Nat → Prop} {W9 : World}, Touch F We W9 → Touch F Wb W9 := fun {F W9} t9 => (Touch.of_below (show Below Wb.heap.size Wb We by rw [← hWe]; exact (Below.refl _ _).drew)).trans t9
      have HF0 : RowKit.Hid (∀ W9, Touch (fun k => vr.ownBlock = some k ∨ k = r0 + 1) We W9 → FmAt W9 n0 ⟨B, D, big, tr, rm, gm, bm, rs, gs, bs⟩) := Lib.hid (fun W9 t9 => HFM.out W9 n0 ((t9.block n0 (Array.getElem?_eq_some_iff.1 he0).1 (fun hf => by
        rcases hf with hf | hf
        · have := (own_type he2 _ hf).1; omega
        · omega)).trans he0))
      subst hvr
      have HE2 := Lib.hid he2
      have HB3 := Lib.hid hb3
      clear hIb HII t hb1 hb2 hb3
      gi_upto_region 9 with fail
      refine regionIn_preds (by kernel_rfl) (rvV (.slice pr L.length cr) (.agg #[.int .i64 B, .int .i64 D, .bool big, .bool tr, .int .i64 rm, .int .i64 gm, .int .i64 bm, .int .i64 rs, .int .i64 gs, .int .i64 bs]) xv z) (rvR r0 (L ++ [z]) We.heap.size z) (RvS r0 (L ++ [z]) (.slice pr L.length cr) We) [4, 12, 13]
        [none, none, none, none, none, none, none, none, none, none, none, none, none, none, none, none, none, none, none, none, none, none, none, none, none, none, none, none, none, none, none, none, none, none, none, none, none, none, none, some 0, some 1, some 2, some 3, some 4, some 5, none, none]
        (by kernel_rfl) (by kernel_rfl) (by rfl) (by kernel_rfl) (by kernel_rfl) (by kernel_rfl) (by rw [hWe]; exact RvS.start _ _ _ _) ⟨?_, ?_, ?_, ?_, ?_, ?_, ?_, trivial⟩ ?_
      case refine_8 =>
        intro vs ℓ wc2 hl hS hR
        have hj := hS.j (hl 6 (by decide))
        have htt := htd hS.t
        clear hR hl hS
        simp only [zipF, rvV, Option.getD_some, Option.getD_none]
        generalize vs 5 = u5 at *
        generalize vs 4 = u4 at *
        have hm := HMORE.out wc2 htt hj
        have HM2 := Lib.hid (And.intro (hm.1 (r0 + 4)) (And.intro hm.2.1 (HSN.out _ hm.2.2)))
        clear hm htt hj
        gi_wp2
        rw [z7]
        exact HM2.out
      case refine_1 =>
        intro ℓ act W9 hl hS hw hx hr hd
        clear hw hx
        simp only [readFacts, depFactsP] at hr hd
        have h6 : ℓ 6 = false := by
          cases e : ℓ 6 with
          | false => rfl
          | true => rw [hS.a (hS.b e)] at hl; cases hl
        have cbx := cellAt (o := 0) ((hS.x h6).trans he1) rfl
        refine ⟨wanted_none (by rfl), fun K hK => ?_⟩
        unfold Oper.wpIn
        refine ⟨fun _ _ => trivial, ?_⟩
        go_simp
        exact hK _ _ rfl (hS.step 0 (by decide) hl (fun e => absurd e (by decide)) (Below.refl _ _) (by omega) (fun _ => rfl)) (fun _ _ _ _ h => h)
      case refine_2 =>
        intro ℓ act W9 hl hS hw hx hr hd
        clear hw hx
        simp only [readFacts, depFactsP] at hr hd
        obtain ⟨a0, a1, a2, a3, a4, a5, a6, a7, a8, a9⟩ := HF0.out W9 hS.t
        dsimp only at a0 a1 a2 a3 a4 a5 a6 a7 a8 a9
        refine ⟨wanted_none (by rfl), fun K hK => ?_⟩
        unfold Oper.wpIn
        refine ⟨fun _ _ => trivial, ?_⟩
        go_simp
        exact hK _ _ rfl (hS.step 1 (by decide) hl (fun e => absurd e (by decide)) (Below.refl _ _) (by omega) (fun _ => rfl)) (fun _ _ _ _ h => h)
      case refine_3 =>
        intro ℓ act W9 hl hS hw hx hr hd
        clear hw hx
        simp only [readFacts, depFactsP] at hr hd
        refine ⟨wanted_none (by rfl), fun K hK => ?_⟩
        unfold Oper.wpIn
        refine ⟨fun _ _ => trivial, ?_⟩
        go_simp
        exact hK _ _ rfl (hS.step 2 (by decide) hl (fun e => absurd e (by decide)) (Below.refl _ _) (by omega) (fun _ => rfl)) (fun _ _ _ _ h => h)
      case refine_4 =>
        intro ℓ act W9 hl hS hw hx hr hd
        clear hw hx
        simp [readFacts, depFactsP, dstOf, Region.binds, rvV] at hr hd
        refine ⟨wanted_none (by rfl), fun K hK => ?_⟩
        unfold Oper.wpIn
        refine ⟨fun _ _ => trivial, ?_⟩
        go_simp
        refine (CallsIn.inRound l (callsIn_wide.2 (C1.out _))).mono ?_
        rintro e w' ⟨rfl, b⟩
        exact hK _ _ rfl (hS.step 3 (by decide) hl (fun e => absurd e (by decide)) b (by omega) (fun e => absurd e (by decide))) (fun _ _ _ _ h => rvR_below h b)
      case refine_5 =>
        intro ℓ act W9 hl hS hw hx hr hd
        have l3 : ℓ 3 = true := hw ⟨3, .data⟩ (by simp) (by rfl)
        clear hw hx
        simp [readFacts, depFactsP, dstOf, Region.binds, rvV] at hr hd
        refine ⟨wanted_none (by rfl), fun K hK => ?_⟩
        unfold Oper.wpIn
        refine ⟨fun _ _ => trivial, ?_⟩
        go_simp
        have hb := box1 W9 #[.int .i64 z] 3
        refine hK _ _ (show rvR r0 (L ++ [z]) We.heap.size z 4 (.slice (some ⟨W9.heap.size, 0, none⟩) 1 1) (W9.alloc (.cells #[.int .i64 z] 3)) from ⟨fun _ => ⟨W9.heap.size, hS.t.size, rfl, hb.2 0 _ rfl⟩, fun h => by omega⟩) (hS.step 4 (by decide) hl (fun _ => l3) hb.1 (by omega) (fun e => absurd e (by decide))) (fun _ _ _ _ h => rvR_below h hb.1)
      case refine_6 =>
        intro ℓ act W9 hl hS hw hx hr hd
        have l0 : ℓ 0 = true := hw ⟨0, .data⟩ (by simp) (by rfl)
        have l4 : ℓ 4 = true := hw ⟨4, .data⟩ (by simp) (by rfl)
        clear hw hx
        simp [readFacts, depFactsP, dstOf, Region.binds, rvV] at hr hd
        refine ⟨wanted_none (by rfl), fun K hK => ?_⟩
        obtain ⟨e13, ⟨u, e20, hu⟩, _⟩ := hd
        obtain ⟨g, hg1, rfl, hg3⟩ := hu.1 rfl
        have hn9 := hS.n hl
        have hown := RowAt.below HE2.out hn9
        refine opIn_int (.tmp 39) (.tmp 43) rfl (.slice pr L.length cr) r0 L (eval_tmp e13) hown (by have := hn9.size; omega) hlb z g (eval_tmp e20) hg3 ?_
        intro v' w' h1 h2 h3
        have hne' : v'.ownBlock ≠ some (r0 + 3) := fun e => by
          rcases h3 _ e with h4 | h4
          · exact HB3.out h4
          · have := hn9.size; omega
        refine hK _ _ (show rvR r0 (L ++ [z]) We.heap.size z 5 v' w' from ⟨fun h => by omega, fun _ => ⟨h1, hne'⟩⟩) (hS.grown hl l0 l4 he1 HE2.out h2) (fun j u _ hj h => ⟨fun e => ?_, fun e => ?_⟩)
        · obtain ⟨g', q1, q2, q3⟩ := h.1 e
          refine ⟨g', q1, q2, same_cell (h2.block g' (World.block_lt_of_cell? W9 _ q3) (fun e2 => ?_)) q3⟩
          obtain ⟨_, cs, hc⟩ := own_type HE2.out g' e2
          have := (Array.getElem?_eq_some_iff.1 hc).1
          omega
        · subst e
          rw [hl] at hj
          cases hj
      case refine_7 =>
        intro ℓ act W9 hl hS hw hx hr hd
        have l5 : ℓ 5 = true := hw ⟨5, .data⟩ (by simp) (by rfl)
        clear hw hx
        simp [readFacts, depFactsP, dstOf, Region.binds, rvV] at hr hd
        refine ⟨wanted_none (by rfl), fun K hK => ?_⟩
        obtain ⟨⟨v, e44, y44⟩, hd2⟩ := hd
        clear hd2
        obtain ⟨y1, y2⟩ := y44.2 rfl
        obtain ⟨pz, cz, hvz⟩ := RowAt.shape y1
        subst hvz
        obtain ⟨e2, hS2, hk2⟩ := hS.stored l5 hl he1 y1 y2 ⟨_, _, _, rfl⟩
        have cbx := cellAt (o := 0) e2 rfl
        have cbf := frozenAt (o := 0) e2
        generalize (L ++ [z]).length = zn at *
        unfold Oper.wpIn
        refine ⟨fun _ _ => trivial, ?_⟩
        go_simp
        exact hK undef _ (show rvR r0 (L ++ [z]) We.heap.size z 6 undef _ from ⟨fun h => absurd h (by decide), fun h => absurd h (by decide)⟩) hS2 (fun j u _ hj h => hk2 _ _ _ u h)
    case done =>
      intro D' W hD hI hdef
      unfold roI at hI
      rw [fin_gen] at hI
      obtain ⟨v, hv1, hv2, hv3⟩ := hI.box
      have c7 := cellAt (o := 0) hv1 rfl
      obtain ⟨p, cpv, hp⟩ := RowAt.shape hv2
      rw [gen_length] at hp
      subst hp
      have HV2 := Lib.hid hv2
      have HLO := Lib.hid hI.low
      have HNE : RowKit.Hid (∀ k cs T z, W.heap[k]? = some (Obj.cells cs T z) → k ≠ D') := Lib.hid (fun k cs T z hk e => by subst e; rw [hdef] at hk; cases hk)
      clear hv1 hv2 hv3 hI
      gi_wp2
      refine ⟨by simp, .inl ⟨_, _, rfl, run_takeDeferred hdef, ?_⟩⟩
      refine ⟨_, results_tmp3 rfl _ _ _, ⟨_, rfl, ?_, ?_⟩⟩
      · refine (RowAt.keep HV2.out (fun k hk => World.putObj_heap_other (fun e => ?_))).base (by omega)
        obtain ⟨_, cs, hc⟩ := own_type HV2.out k hk
        exact HNE.out k _ _ _ hc e
      · exact HLO.out.trans ((Turn.putObj (p := noC) _ hD hdef rfl).below (by omega) (by have := HLO.out.size; omega))
  all_goals
    intro ℓ act W9 hl hS hw hx hr hd
    clear hw hx
    simp [readFacts, depFactsP, dstOf, Region.binds, roV] at hr hd
    refine ⟨wanted_none (by rfl), fun K hK => ?_⟩
    unfold Oper.wpIn
    refine ⟨fun _ _ => trivial, ?_⟩
    go_simp
    exact hK _ _ rfl ⟨fun e => by simpa using hS.1 e, fun e => hS.2.1 (by simpa using e), fun e => hS.2.2 (by simpa using e)⟩ (fun _ _ _ _ _ => trivial)
end Go.Proofs.Ytbdlmcpdplmdnaa.Pln
