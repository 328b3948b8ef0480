/-
  Contracts of the program's layer 13 (format): CPut and CGet.
-/
import Derived.Test.YtkpmmfbheghocaaFmtPrgG
namespace Go.Proofs.Ytkpmmfbheghocaa.Fmt
open Go.ChangeShapes Go.WideShapes Go.ChangeAt Go.RowKit RegVal Oct
set_option linter.unusedVariables false
set_option maxRecDepth 100000

theorem few_le (f : Fm) : f.few.1 ≤ 4 ∧ f.few.2 ≤ 8 ∧ 8 * f.few.1 + f.few.2 ≤ 32 ∧ (f.ok = true → 1 ≤ f.few.1) ∧ (f.ok = false → f.few = (0, 0)) := by
  obtain ⟨h4, h1, h2⟩ := size_le4 f
  cases hok : f.ok with
  | false =>
    have e : f.few = (0, 0) := by unfold Fm.few; rw [hok]; rfl
    rw [e]
    exact ⟨by decide, by decide, by decide, fun h => by simp at h, fun _ => rfl⟩
  | true =>
    have := (h1 hok).1
    rcases few_cases hok with ⟨e, _⟩ | ⟨e, _⟩ | e
    · rw [e]; exact ⟨by decide, by decide, by decide, fun _ => by decide, fun h => by simp at h⟩
    · rw [e]; exact ⟨by decide, by decide, by decide, fun _ => by decide, fun h => by simp at h⟩
    · rw [e]; exact ⟨h4, by simp, by simp; omega, fun _ => this, fun h => by simp at h⟩
theorem cput_eq (f : Fm) (v : Int) : f.cput v = ⟨(putL f.big f.few.1 (v / 2 ^ f.few.2)).toArray⟩ := by
  obtain ⟨h4, _, _, _, h0⟩ := few_le f
  unfold Fm.cput
  cases hok : f.ok with
  | false => rw [h0 hok]; cases f.big <;> rfl
  | true =>
    obtain ⟨k, j, l, s, t, u, n, H⟩ := f.is hok
    obtain ⟨e1, e2, _⟩ := size_bits H
    have hs : f.size = (f.B / 8).toNat := if_pos hok
    rw [if_pos rfl]
    congr 2
    apply putL_cong f.big h4
    rcases few_cases hok with ⟨hf, hB, _⟩ | ⟨hf, hB, _⟩ | hf
    · rw [hf, hB]
      simp only
      rw [show (2 : Int) ^ (8 * 3) = 16777216 from rfl, show (2 : Int) ^ 0 = 1 from rfl, show (2 : Int) ^ (32 : Int).toNat = 4294967296 from rfl]
      omega
    · rw [hf, hB]
      simp only
      rw [show (2 : Int) ^ (8 * 3) = 16777216 from rfl, show (2 : Int) ^ 8 = 256 from rfl, show (2 : Int) ^ (32 : Int).toNat = 4294967296 from rfl]
      omega
    · rw [hf]
      simp only
      rw [hs, e1, show (2 : Int) ^ 0 = 1 from rfl, Int.ediv_one, Int.ediv_one, Int.emod_emod]
theorem cget_eq (f : Fm) (t : ByteArray) : f.cget t = rdI f.big f.few.1 t * 2 ^ f.few.2 ∧ f.cgetE t = rdE f.few.1 t := by
  obtain ⟨_, _, _, h1, h2⟩ := few_le f
  unfold Fm.cget Fm.cgetE rdI rdE
  cases hok : f.ok with
  | false => rw [h2 hok]; exact ⟨rfl, rfl⟩
  | true =>
    have h := h1 hok
    have h0 : ¬ f.few.1 = 0 := by omega
    by_cases ht : t.size < f.few.1
    · simp [h0, ht]
    · simp [h0, ht]
theorem rdI_bd (big : Bool) (n : Nat) (t : ByteArray) : 0 ≤ rdI big n t ∧ rdI big n t < 2 ^ (8 * n) := by
  have hp : (0 : Int) < 2 ^ (8 * n) := Int.pow_pos (by decide)
  unfold rdI
  by_cases h : n = 0 ∨ t.size < n
  · rw [if_pos h]; exact ⟨Int.le_refl 0, hp⟩
  · rw [if_neg h]
    have hl : (t.data.toList.take n).length = n := by simp; omega
    unfold getL
    cases big
    · have := valL_bd (t.data.toList.take n)
      rw [hl] at this
      exact this
    · have := valL_bd (t.data.toList.take n).reverse
      rw [List.length_reverse, hl] at this
      exact this
def cpV (big : Bool) (n s : Nat) (v x : Int) (S : ByteArray) (b : Nat) : Nat → Value
  | 0 => .pointer (some ⟨b, 2, none⟩)
  | 1 => .bool big
  | 2 => .int .i64 n
  | 3 => .int .i64 v
  | 4 => .int .i64 s
  | 5 => .int .i64 x
  | 6 => .string S
  | 7 => .string S
  | _ => undef
set_option maxHeartbeats 1000000 in
theorem fcput_any (f : Fm) (hf : f.Wf) (v : Int) (hv : (Lit.int .i64 v).wf = true) (w : World) :
    Calls Try.prog 27 #[f.v, .int .i64 v] w fun e w' => e = .returned (.string (f.cput v)) ∧ Below w.heap.size w w' := by
  have Z := Lib.hid (fun w => compact_any f hf w)
  have W := Lib.hid (fun w => write_any f.big f.few.1 (few_le f).1 (v / 2 ^ f.few.2) w)
  rw [← cput_eq] at W
  have hsh := (few_le f).2.1
  obtain ⟨P, hP, hP2, hP3, hP4⟩ := pow_int (show f.few.2 ≤ 32 by omega)
  rw [hP] at W
  generalize f.cput v = S at *
  generalize f.few = FW at *
  obtain ⟨N, sh⟩ := FW
  simp only at Z W hP hsh
  clear hP2
  have AT := FmAt.box f w 23
  have bel := (Below.refl w.heap.size w).alloc (Nat.le_refl _) (.cells #[.int .i64 f.B, .int .i64 f.D, .bool f.big, .bool f.tr, .int .i64 f.rm, .int .i64 f.gm, .int .i64 f.bm, .int .i64 f.rs, .int .i64 f.gs, .int .i64 f.bs] 23)
  have hsz : (w.alloc (.cells #[.int .i64 f.B, .int .i64 f.D, .bool f.big, .bool f.tr, .int .i64 f.rm, .int .i64 f.gm, .int .i64 f.bm, .int .i64 f.rs, .int .i64 f.gs, .int .i64 f.bs] 23)).heap.size = w.heap.size + 1 := alloc_size _ _
  obtain ⟨w1, hw1⟩ : ∃ w1, w.alloc (.cells #[.int .i64 f.B, .int .i64 f.D, .bool f.big, .bool f.tr, .int .i64 f.rm, .int .i64 f.gm, .int .i64 f.bm, .int .i64 f.rs, .int .i64 f.gs, .int .i64 f.bs] 23) = w1 := ⟨_, rfl⟩
  rw [hw1] at AT bel hsz
  have HA := Lib.hid (fun W (hW : Below w1.heap.size w1 W) => AT.below hW (by omega))
  have HF : f.v = .agg #[.int .i64 f.B, .int .i64 f.D, .bool f.big, .bool f.tr, .int .i64 f.rm, .int .i64 f.gm, .int .i64 f.bm, .int .i64 f.rs, .int .i64 f.gs, .int .i64 f.bs] := rfl
  rw [HF] at Z ⊢
  have BEL := Lib.hid bel
  obtain ⟨c0, c1, c2, c3, c4, c5, c6, c7, c8, c9⟩ := AT
  clear HF hsz hf hv
  obtain ⟨B, D, big, tr, rm, gm, bm, rs, gs, bs⟩ := f
  simp only at *
  go_enter Try.func27, Try.ntmps27
  go_wp2_with fail
  refine (Z.out _).mono ?_
  rintro r w2 ⟨rfl, b2⟩
  have B2 := Lib.hid b2
  clear b2 Z c0 c1 c2 c3 c4 c5 c6 c7 c8 c9
  go_wp2_with fail
  refine region_all (by kernel_rfl) (cpV big N sh v (v / (P : Nat)) S w.heap.size) (fun W => Below w1.heap.size w1 W) [1, 2, 5, 6] [none, none, none, none, some 7, none, none, none, none, none, none, none, some 0, some 1, some 2, some 3, some 4, some 5, some 6] (by kernel_rfl) (by kernel_rfl) (by rfl) (by kernel_rfl) (by kernel_rfl) (by kernel_rfl) (B2.out.drew) ⟨?_, ?_, ?_, ?_, ?_, ?_, ?_, ?_, trivial⟩ ?_
  case refine_9 =>
    intro W hS
    simp only [zipF, cpV]
    go_wp2_with fail
    go_ret
    exact ⟨rfl, BEL.out.trans (hS.mono BEL.out.size)⟩
  all_goals
    intro ℓ act Wd hl hS hw hr hd
    obtain ⟨d0, d1, d2, d3, d4, d5, d6, d7, d8, d9⟩ := HA.out Wd hS
    dsimp only at d0 d1 d2 d3 d4 d5 d6 d7 d8 d9
    clear hw
    simp [readFacts, depFacts, dstOf, Region.binds, cpV] at hr hd
    refine ⟨by first | exact wanted_none (by rfl) | exact wanted_guard (by rfl) (by rfl) (by assumption), fun K hK => ?_⟩
    go_simp
    first
      | exact hK _ hS
      | (with_reducible refine (W.out _).mono ?_
         rintro r w' ⟨rfl, b⟩
         exact hK _ (hS.trans (b.mono hS.size)))
set_option maxHeartbeats 1000000 in
theorem fcget_any (f : Fm) (hf : f.Wf) (t : ByteArray) (ht : t.size ≤ 1000) (w : World) :
    Calls Try.prog 26 #[f.v, .string t] w fun e w' => e = .returned (.tuple #[.int .i64 (f.cget t), .int .i64 (f.cgetE t)]) ∧ Below w.heap.size w w' := by
  have Z := Lib.hid (fun w => compact_any f hf w)
  have W := Lib.hid (fun w => read_any f.big f.few.1 (few_le f).1 t ht w)
  obtain ⟨e1, e2⟩ := cget_eq f t
  obtain ⟨l4, l8, l32, _, _⟩ := few_le f
  obtain ⟨r0, r1⟩ := rdI_bd f.big f.few.1 t
  obtain ⟨P, hP, hP2, hP3, hP4⟩ := pow_int (show f.few.2 ≤ 32 by omega)
  have hb : rdI f.big f.few.1 t * 2 ^ f.few.2 < 2 ^ 32 := by
    have h1 : rdI f.big f.few.1 t * 2 ^ f.few.2 < 2 ^ (8 * f.few.1) * 2 ^ f.few.2 := Int.mul_lt_mul_of_pos_right r1 (Int.pow_pos (by decide))
    have h2 : (2 : Int) ^ (8 * f.few.1) * 2 ^ f.few.2 ≤ 2 ^ 32 := by
      have h3 : 2 ^ (8 * f.few.1 + f.few.2) ≤ 2 ^ 32 := Nat.pow_le_pow_right (by decide) l32
      have h4 : (2 : Nat) ^ 32 = 4294967296 := by decide
      have h5 : ((2 ^ (8 * f.few.1 + f.few.2) : Nat) : Int) = 2 ^ (8 * f.few.1 + f.few.2) := by simp
      rw [← Int.pow_add, ← h5]
      show _ ≤ (4294967296 : Int)
      omega
    omega
  have hb0 : 0 ≤ rdI f.big f.few.1 t * 2 ^ f.few.2 := Int.mul_nonneg r0 (Int.le_of_lt (Int.pow_pos (by decide)))
  have hb2 : rdI f.big f.few.1 t * 2 ^ f.few.2 < 4294967296 := hb
  rw [hP] at e1 hb0 hb2
  rw [e2]
  have x1 : wrap64 (rdI f.big f.few.1 t * (P : Nat)) = rdI f.big f.few.1 t * (P : Nat) := IntWalk.wrap64_in _ (by omega)
  have x2 : IntKind.i64.wrap (rdI f.big f.few.1 t * (P : Nat)) = rdI f.big f.few.1 t * (P : Nat) := IntWalk.i64_in _ (by omega)
  rw [← e1] at x1 x2
  have E1 := Lib.hid e1
  rw [e1] at x1 x2
  clear hb hb0 hb2 r0 r1 e1 e2 hP2 l32
  generalize f.cget t = Y at *
  generalize rdI f.big f.few.1 t = X at *
  generalize rdE f.few.1 t = E at *
  generalize f.few = FW at *
  obtain ⟨N, sh⟩ := FW
  simp only at Z W hP l4 l8
  have AT := FmAt.box f w 23
  have bel := (Below.refl w.heap.size w).alloc (Nat.le_refl _) (.cells #[.int .i64 f.B, .int .i64 f.D, .bool f.big, .bool f.tr, .int .i64 f.rm, .int .i64 f.gm, .int .i64 f.bm, .int .i64 f.rs, .int .i64 f.gs, .int .i64 f.bs] 23)
  have hsz : (w.alloc (.cells #[.int .i64 f.B, .int .i64 f.D, .bool f.big, .bool f.tr, .int .i64 f.rm, .int .i64 f.gm, .int .i64 f.bm, .int .i64 f.rs, .int .i64 f.gs, .int .i64 f.bs] 23)).heap.size = w.heap.size + 1 := alloc_size _ _
  obtain ⟨w1, hw1⟩ : ∃ w1, w.alloc (.cells #[.int .i64 f.B, .int .i64 f.D, .bool f.big, .bool f.tr, .int .i64 f.rm, .int .i64 f.gm, .int .i64 f.bm, .int .i64 f.rs, .int .i64 f.gs, .int .i64 f.bs] 23) = w1 := ⟨_, rfl⟩
  rw [hw1] at AT bel hsz
  have HA := Lib.hid (fun W (hW : Below w1.heap.size w1 W) => AT.below hW (by omega))
  have HF : f.v = .agg #[.int .i64 f.B, .int .i64 f.D, .bool f.big, .bool f.tr, .int .i64 f.rm, .int .i64 f.gm, .int .i64 f.bm, .int .i64 f.rs, .int .i64 f.gs, .int .i64 f.bs] := rfl
  rw [HF] at Z ⊢
  have BEL := Lib.hid bel
  obtain ⟨c0, c1, c2, c3, c4, c5, c6, c7, c8, c9⟩ := AT
  clear HF hsz hf ht
  obtain ⟨B, D, big, tr, rm, gm, bm, rs, gs, bs⟩ := f
  simp only at *
  go_enter Try.func26, Try.ntmps26
  go_wp2_with fail
  refine (Z.out _).mono ?_
  rintro r w2 ⟨rfl, b2⟩
  have B2 := Lib.hid (BEL.out.trans (b2.mono BEL.out.size))
  obtain ⟨c0, c1, c2, c3, c4, c5, c6, c7, c8, c9⟩ := HA.out _ b2
  clear b2 Z
  go_wp2_with fail
  refine (W.out _).mono ?_
  rintro r w3 ⟨rfl, b3⟩
  have B3 := Lib.hid (B2.out.trans (b3.mono B2.out.size))
  clear b3 W c0 c1 c2 c3 c4 c5 c6 c7 c8 c9
  go_wp2_with fail
  go_ret2
  exact ⟨by rw [E1.out]; rfl, B3.out⟩
end Go.Proofs.Ytkpmmfbheghocaa.Fmt
