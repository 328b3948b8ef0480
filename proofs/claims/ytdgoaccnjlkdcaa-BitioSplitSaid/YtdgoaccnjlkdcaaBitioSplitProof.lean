/-
  Proved: a number written by bitio.Writer in two pieces, the lower one first, is the number written at once, and is read again so (statement BitioSplit). Conditions: none.
-/
import Derived.Test.YtdgoaccnjlkdcaaRows
import Derived.Test.YtdgoaccnjlkdcaaBitTwo
import Derived.WalkKit
import Derived.ProofKit
import Derived.OpenShut
import Derived.ShutString
import Derived.ChangeOld
import Derived.Below
import Derived.Lib.SmallJoins
import Derived.Deep.Slices
namespace Go.Proofs.Ytdgoaccnjlkdcaa.bitioSplit
open Go.Proofs.Ytdgoaccnjlkdcaa.Bit
open Go.ChangeShapes Go.WideShapes Go.ChangeAt Go.RowKit
open Go.ChangeMaps (open_string shut_string)
set_option linter.unusedVariables false

theorem own : ownKnob Try.prog.godebug = none := by kernel_rfl
theorem laidOut : laidOutB Try.prog = true := by kernel_rfl

theorem early (v a b ahead : Int) (w : World) (hg : a < 0 ∨ b < 0 ∨ 32 < a ∨ 32 - a < b) (wa : (Lit.int .i64 a).wf = true) :
    Calls Try.prog 7 #[.int .i64 v, .int .i64 a, .int .i64 b, .int .i64 ahead] w fun e w' => e = .returned (.bool true) ∧ Below w.heap.size w w' := by
  by_cases h1 : a < 0
  · clear hg wa
    go_enter Try.func7, Try.ntmps7
    go_wp2_with fail
    refine (works_any _).mono ?_
    rintro r w1 ⟨rfl, b1⟩
    go_wp2_with fail
    go_ret
    exact ⟨rfl, b1⟩
  by_cases h2 : b < 0
  · clear hg wa
    go_enter Try.func7, Try.ntmps7
    go_wp2_with fail
    refine (works_any _).mono ?_
    rintro r w1 ⟨rfl, b1⟩
    go_wp2_with fail
    go_ret
    exact ⟨rfl, b1⟩
  by_cases h3 : 32 < a
  · clear hg wa
    go_enter Try.func7, Try.ntmps7
    go_wp2_with fail
    refine (works_any _).mono ?_
    rintro r w1 ⟨rfl, b1⟩
    go_wp2_with fail
    go_ret
    exact ⟨rfl, b1⟩
  have h4 : 32 - a < b := by omega
  clear hg wa
  go_enter Try.func7, Try.ntmps7
  go_wp2_with fail
  refine (works_any _).mono ?_
  rintro r w1 ⟨rfl, b1⟩
  go_wp2_with fail
  all_goals (go_ret; exact ⟨rfl, b1⟩)

theorem reads (v : Int) (z a b : Nat) (s : ByteArray) (hs : (⟨(pack ([] ++ bitsOf z 0 ++ bitsOf a v ++ bitsOf b (v / 2 ^ a))).toArray⟩ : ByteArray) = s) :
    (rOk (tb s) 0 false z = true ∧ rI (tb s) 0 false z = z) ∧ (rOk (tb s) z false a = true ∧ (rV (tb s) z false a : Int) = v % 2 ^ a ∧ rI (tb s) z false a = z + a) ∧
      (rOk (tb s) (z + a) false b = true ∧ (rV (tb s) (z + a) false b : Int) = v / 2 ^ a % 2 ^ b ∧ rI (tb s) (z + a) false b = z + a + b) ∧ z + a + b ≤ (tb s).length ∧ s.size ≤ (z + a + b + 7) / 8 := by
  have e : tb s = bitsOf z 0 ++ (bitsOf a v ++ (bitsOf b (v / 2 ^ a) ++ List.replicate (fre ([] ++ bitsOf z 0 ++ bitsOf a v ++ bitsOf b (v / 2 ^ a))) false)) := by
    rw [← hs, tb_text]; unfold pad; simp [List.append_assoc]
  generalize List.replicate (fre ([] ++ bitsOf z 0 ++ bitsOf a v ++ bitsOf b (v / 2 ^ a))) false = rest at e
  have h1 := read_part [] (bitsOf z 0) (bitsOf a v ++ (bitsOf b (v / 2 ^ a) ++ rest))
  have h2 := read_part (bitsOf z 0) (bitsOf a v) (bitsOf b (v / 2 ^ a) ++ rest)
  have h3 := read_part (bitsOf z 0 ++ bitsOf a v) (bitsOf b (v / 2 ^ a)) rest
  rw [List.append_assoc] at h3
  simp only [List.nil_append, List.length_nil, Nat.zero_add] at h1
  rw [← e] at h1 h2 h3
  simp only [bitsOf_length, List.length_append] at h1 h2 h3
  refine ⟨⟨h1.1, h1.2.2⟩, ⟨h2.1, ?_, h2.2.2⟩, ⟨h3.1, ?_, h3.2.2⟩, ?_, ?_⟩
  · rw [h2.2.1, num_bitsOf]
  · rw [h3.2.1, num_bitsOf]
  · rw [e]; simp [bitsOf_length]; omega
  · rw [← hs, size_text]; simp [bitsOf_length]; omega

set_option maxRecDepth 100000 in
set_option maxHeartbeats 1500000 in
theorem main (v ahead : Int) (a b : Nat) (w : World) (hab : a + b ≤ 32) :
    Calls Try.prog 7 #[.int .i64 v, .int .i64 a, .int .i64 b, .int .i64 ahead] w fun e w' => e = .returned (.bool true) ∧ Below w.heap.size w w' := by
  have hB := Nat.le_refl w.heap.size
  have ca : cnt (a : Int) = a := cnt_nat a (by omega)
  have cb : cnt (b : Int) = b := cnt_nat b (by omega)
  have cab : cnt ((a : Int) + b) = a + b := by have := cnt_nat (a + b) hab; rw [Int.natCast_add] at this; exact this
  have CC := Lib.hid (And.intro ca (And.intro cb cab))
  obtain ⟨z, hz⟩ : ∃ z, cnt ahead = z := ⟨_, rfl⟩
  have hz2 : z ≤ 32 := by rw [← hz]; exact cnt_le _
  have Z := Lib.hid hz
  have q1 : (0 : Int) ≤ a := by omega
  have q2 : (a : Int) ≤ 32 := by omega
  have q3 : (a : Int) + b ≤ 32 := by omega
  have q4 : (b : Int) ≤ 32 - a := by omega
  have q5 : (0 : Int) ≤ b := by omega
  clear ca cb cab hz
  go_enter Try.func7, Try.ntmps7
  go_wp2_with fail
  refine (works_any _).mono ?_
  rintro r w1 ⟨rfl, b1⟩
  go_wp2_with fail
  have h1 := WrRaw.alloc (WrAt.new w1) (.cells #[.slice none 0 0, .int .i64 0] 28)
  have h2 := WrAt.new (w1.alloc (.cells #[.slice none 0 0, .int .i64 0] 28))
  have bl2 := below_alloc (below_alloc b1 hB (.cells #[.slice none 0 0, .int .i64 0] 28)) hB (.cells #[.slice none 0 0, .int .i64 0] 28)
  have e2 : (w1.alloc (.cells #[.slice none 0 0, .int .i64 0] 28)).heap.size = w1.heap.size + 1 := by simp
  rw [e2] at h2
  have z1 := b1.size
  generalize (w1.alloc (.cells #[.slice none 0 0, .int .i64 0] 28)).alloc (.cells #[.slice none 0 0, .int .i64 0] 28) = w2 at *
  generalize w1.heap.size = B at *
  clear b1 e2
  have ap2 : Apart (.slice none 0 0) (.slice none 0 0) := fun k hk => by simp [Value.ownBlock] at hk
  have f0 := From.nil w.heap.size
  refine (wbits_any _ _ _ _ _ _ h1 (by decide)).mono ?_
  rintro r w3 ⟨rfl, u3, g3, k3, n3⟩
  rw [Z.out] at g3
  have x3 := WrRaw.beside h2 h1 k3 (by omega) ap2
  have ap3 := ap2.near n3 h2
  have bl3 := below_but bl2 hB k3 z1 f0
  have fu3 := f0.near n3 bl2.size
  clear h1 h2 k3 n3 bl2 ap2
  go_wp2_with fail
  refine (wbits_any _ _ [] _ _ _ x3 (by decide)).mono ?_
  rintro r w4 ⟨rfl, y4, x4, k4, n4⟩
  rw [Z.out] at x4
  have g4 := WrRaw.beside g3 x3 k4 (by omega) ap3.symm
  have ap4 := ap3.symm.near n4 g3
  have bl4 := below_but bl3 hB k4 (by omega) f0
  have fy4 := f0.near n4 bl3.size
  clear g3 x3 k4 n4 bl3 ap3 f0
  go_wp2_with fail
  refine (wbits_any _ _ ([] ++ bitsOf z 0) _ _ _ g4 (by simp [bitsOf]; omega)).mono ?_
  rintro r w5 ⟨rfl, u5, g5, k5, n5⟩
  rw [CC.out.1] at g5
  have x5 := WrRaw.beside x4 g4 k5 (by omega) ap4.symm
  have ap5 := ap4.symm.near n5 x4
  have bl5 := below_but bl4 hB k5 z1 fu3
  have fu5 := fu3.near n5 bl4.size
  clear g4 x4 k5 n5 bl4 ap4 fu3
  go_wp2_with fail
  refine (wbits_any _ _ _ _ _ _ g5 (by simp [bitsOf]; omega)).mono ?_
  rintro r w6 ⟨rfl, u6, g6, k6, n6⟩
  rw [CC.out.2.1] at g6
  have x6 := WrRaw.beside x5 g5 k6 (by omega) ap5
  have ap6 := ap5.near n6 x5
  have bl6 := below_but bl5 hB k6 z1 fu5
  have fu6 := fu5.near n6 bl5.size
  clear g5 x5 k6 n6 bl5 ap5 fu5
  go_wp2_with fail
  refine (wbits_any _ _ ([] ++ bitsOf z 0) _ _ _ x6 (by simp [bitsOf]; omega)).mono ?_
  rintro r w7 ⟨rfl, y7, x7, k7, n7⟩
  rw [CC.out.2.2, bitsOf_add, ← List.append_assoc] at x7
  have g7 := WrRaw.beside g6 x6 k7 (by omega) ap6.symm
  have bl7 := below_but bl6 hB k7 (by omega) fy4
  clear g6 x6 k7 n7 bl6 ap6
  obtain ⟨s, hs⟩ : ∃ s, (⟨(pack ([] ++ bitsOf z 0 ++ bitsOf a v ++ bitsOf b (v / 2 ^ a))).toArray⟩ : ByteArray) = s := ⟨_, rfl⟩
  obtain ⟨R1, R2, R3, hl, hsz⟩ := reads v z a b s hs
  have hll : ([] ++ bitsOf z 0 ++ bitsOf a v ++ bitsOf b (v / 2 ^ a)).length ≤ 1099511627776 := by simp [bitsOf_length]; omega
  obtain ⟨L, hL⟩ : ∃ L, [] ++ bitsOf z 0 ++ bitsOf a v ++ bitsOf b (v / 2 ^ a) = L := ⟨_, rfl⟩
  rw [hL] at g7 x7 hs hll
  clear hL
  have RR1 := Lib.hid R1
  have RR2 := Lib.hid R2
  have RR3 := Lib.hid R3
  have HS := Lib.hid hs
  clear R1 R2 R3 hs
  go_wp2_with fail
  refine (wstring_any _ _ L _ g7).mono ?_
  rintro r w8 ⟨rfl, rfl⟩
  rw [HS.out]
  go_wp2_with fail
  refine (rnew_any _ _).mono ?_
  rintro r w8 ⟨rfl, r8, b8⟩
  have g8 := WrRaw.below g7 b8
  have x8 := WrRaw.below x7 b8
  have bl8 := below_more bl7 hB b8
  have l1 := WrRaw.lt g7
  have l2 := WrRaw.lt x7
  have o1 : u6.ownBlock ≠ some w7.heap.size := fun e => by have := (g7.own.lt _ e).2; omega
  have o2 : y7.ownBlock ≠ some w7.heap.size := fun e => by have := (x7.own.lt _ e).2; omega
  have z8 : w.heap.size ≤ w7.heap.size := bl7.size
  generalize w7.heap.size = B7 at *
  clear g7 x7 bl7 b8 w7
  go_wp2_with fail
  refine (rbits_any _ _ _ _ _ _ r8 (by omega) (by omega)).mono ?_
  rintro r w9 ⟨rfl, r9, k9⟩
  rw [Z.out, RR1.out.1, RR1.out.2] at r9
  have g9 := WrRaw.underGrow g8 k9 (by omega) o1
  have x9 := WrRaw.underGrow x8 k9 (by omega) o2
  have bl9 := below_grow bl8 hB k9 z8
  clear g8 x8 bl8 k9 r8
  go_wp2_with fail
  refine (rbits_any _ _ _ _ _ _ (show RdAt _ w9 _ _ _ false from r9) (by omega) (by omega)).mono ?_
  rintro r w10 ⟨rfl, r10, k10⟩
  rw [CC.out.1] at r10 ⊢
  rw [RR2.out.1, RR2.out.2.2] at r10
  rw [RR2.out.2.1]
  have g10 := WrRaw.underGrow g9 k10 (by omega) o1
  have x10 := WrRaw.underGrow x9 k10 (by omega) o2
  have bl10 := below_grow bl9 hB k10 z8
  clear g9 x9 bl9 k10 r9
  go_wp2_with fail
  refine (rbits_any _ _ _ _ _ _ (show RdAt _ w10 _ _ _ false from r10) (by omega) (by omega)).mono ?_
  rintro r w11 ⟨rfl, r11, k11⟩
  rw [CC.out.2.1] at r11 ⊢
  rw [RR3.out.2.1]
  have g11 := WrRaw.underGrow g10 k11 (by omega) o1
  have x11 := WrRaw.underGrow x10 k11 (by omega) o2
  have BL := Lib.hid (below_grow bl10 hB k11 z8)
  clear g10 x10 bl10 k11 r10 r11
  obtain ⟨lo, hlo, hlo2⟩ : ∃ lo : Nat, v % 2 ^ a = lo ∧ lo < 2 ^ a := ⟨num (bitsOf a v), (num_bitsOf a v).symm, by have := num_lt (bitsOf a v); rw [bitsOf_length] at this; exact this⟩
  obtain ⟨hi, hhi, hhi2⟩ : ∃ hi : Nat, v / 2 ^ a % 2 ^ b = hi ∧ hi < 2 ^ b := ⟨num (bitsOf b (v / 2 ^ a)), (num_bitsOf b _).symm, by have := num_lt (bitsOf b (v / 2 ^ a)); rw [bitsOf_length] at this; exact this⟩
  have ms := mod_split v a b
  have m1 := i64_mask v (a + b) (by omega)
  rw [hlo, hhi] at ms
  rw [hlo, hhi]
  have pa := pow_in a (by omega)
  have pab := pow_in (a + b) hab
  obtain ⟨c, hc⟩ : ∃ c, a + b = c := ⟨_, rfl⟩
  have hub : hi * 2 ^ a < 2 ^ 32 := by
    have h1 : hi * 2 ^ a < 2 ^ b * 2 ^ a := (Nat.mul_lt_mul_right (Nat.pow_pos (by decide))).2 hhi2
    have h2 : 2 ^ b * 2 ^ a ≤ 2 ^ 32 := by rw [← Nat.pow_add]; exact Nat.pow_le_pow_right (by decide) (by omega)
    omega
  have eo : (hi : Int) * 2 ^ a = ((hi * 2 ^ a : Nat) : Int) := by rw [Int.natCast_mul, Int.natCast_pow]; rfl
  have s1 : IntKind.i64.wrap ((hi : Int) * 2 ^ a) = (hi : Int) * 2 ^ a := by rw [eo]; exact IntWalk.i64_in _ (by omega)
  have s2 : bits .or .i64 (lo : Int) ((hi : Int) * 2 ^ a) = v % 2 ^ (a + b) := by
    rw [ms, eo, i64_or lo (hi * 2 ^ a) a hlo2 (by simp) (by omega) (by omega)]
    simp
  rw [hc] at s2 m1 pab
  have k0 : IntKind.i64.wrap ((a : Int) + b) = c := by rw [← hc, Int.natCast_add]; exact IntWalk.i64_in _ (by omega)
  obtain ⟨P, hP⟩ : ∃ P : Int, (2 : Int) ^ c = P := ⟨_, rfl⟩
  obtain ⟨M, hM⟩ : ∃ M : Int, v % 2 ^ c = M := ⟨_, rfl⟩
  rw [hM] at s2 m1
  rw [hP] at m1 pab
  have k1 : IntKind.i64.wrap P = P := IntWalk.i64_in _ (by omega)
  have k2 : IntKind.i64.wrap (P - 1) = P - 1 := IntWalk.i64_in _ (by omega)
  have q6 : (0 : Int) ≤ c := by omega
  have q7 : min c 64 = c := by omega
  have q8 : (c : Int) ≤ 63 := by omega
  have HH := Lib.hid (And.intro g11 x11)
  clear g11 x11 hlo hhi ms hM hc hub eo hlo2 hhi2 pa
  have C1 : Hid (∀ n, Calls Try.prog 20 #[.pointer (some ⟨B, 0, none⟩)] (w11.drewN n) fun e w'' => e = .returned (.string s) ∧ ∃ m, w'' = w11.drewN m) := fun n => by
    have := wstring_any B u6 L (w11.drewN n) (HH.out.1.draws n)
    rw [HS.out] at this
    exact quiet_w this
  have C2 : Hid (∀ n, Calls Try.prog 20 #[.pointer (some ⟨B + 1, 0, none⟩)] (w11.drewN n) fun e w'' => e = .returned (.string s) ∧ ∃ m, w'' = w11.drewN m) := fun n => by
    have := wstring_any (B + 1) y7 L (w11.drewN n) (HH.out.2.draws n)
    rw [HS.out] at this
    exact quiet_w this
  have C3 : Hid (∀ n, Calls Try.prog 19 #[.pointer (some ⟨B, 0, none⟩)] (w11.drewN n) fun e w'' => e = .returned (.int .i64 L.length) ∧ ∃ m, w'' = w11.drewN m) := fun n => Calls.quiet_of (wlen_any B u6 L (w11.drewN n) (HH.out.1.draws n) hll)
  have C4 : Hid (∀ n, Calls Try.prog 19 #[.pointer (some ⟨B + 1, 0, none⟩)] (w11.drewN n) fun e w'' => e = .returned (.int .i64 L.length) ∧ ∃ m, w'' = w11.drewN m) := fun n => Calls.quiet_of (wlen_any (B + 1) y7 L (w11.drewN n) (HH.out.2.draws n) hll)
  clear HH HS
  go_wp2_with fail
  go_quiet ((first | (go_at_call 20; first | with_reducible exact C1.out _ | with_reducible exact C2.out _) | (go_at_call 19; first | with_reducible exact C3.out _ | with_reducible exact C4.out _)))
  go_wp2_with fail
  go_ret
  exact ⟨rfl, below_draws BL.out _⟩

theorem walk (v a b ahead : Int) (wa : (Lit.int .i64 a).wf = true) (w : World) :
    Calls Try.prog 7 #[.int .i64 v, .int .i64 a, .int .i64 b, .int .i64 ahead] w fun e w' => e = .returned (.bool true) ∧ Below w.heap.size w w' := by
  by_cases hg : a < 0 ∨ b < 0 ∨ 32 < a ∨ 32 - a < b
  · exact early v a b ahead w hg wa
  · obtain ⟨a', rfl⟩ : ∃ a' : Nat, a = a' := ⟨a.toNat, by omega⟩
    obtain ⟨b', rfl⟩ : ∃ b' : Nat, b = b' := ⟨b.toNat, by omega⟩
    exact main v ahead a' b' w (by omega)

set_option maxRecDepth 100000 in
theorem lifted (os : Os) (started : os.Started) (H : Type) (enc : TypeId × Value → H) :
    ReturnsInHanded {} Try.checked os 7 .any (Rows.bitioSplitSpec.pre6 enc Try.prog Try.f7 Rows.bitioSplitRow.domain false) (Rows.bitioSplitSpec.post enc Try.prog Try.f7 false true false false) := by
  refine returnsInHanded_of_change (C := Try.checked) own started (by kernel_rfl) Try.func7
    (ChangeSpec.witness6 (enc := enc) (C := Try.checked) false ⟨#[], #[.int .i64 0, .int .i64 0, .int .i64 0, .int .i64 0], []⟩ 8 (by kernel_rfl) (by kernel_rfl) (by kernel_rfl) (by kernel_rfl)) ?_
  intro W base args ds gs before hval0 hW hcnd _
  have hval : ∀ (j : Nat) t v, Try.f7.params[j]? = some t → args[j]? = some v → Value.okWide Try.prog W .any base t v := hval0
  have hW' := hW
  obtain ⟨p, q, hA0, hV, rfl, hfz, hnd⟩ := hW
  have hA : DataW.TrodAll enc Try.prog W 0 (fun _ => true) true Try.f7.params.toList args.toList ds p := hA0
  rw [Try.params7] at hA hval
  obtain ⟨v0, vs0, d0, ds0, p0, q0, hargs, rfl, rfl, h0, r0⟩ := trodAll_cons hA
  obtain ⟨v1, vs1, d1, ds1, p1, q1, rfl, rfl, rfl, h1, r1⟩ := trodAll_cons r0
  obtain ⟨v2, vs2, d2, ds2, p2, q2, rfl, rfl, rfl, h2, r2⟩ := trodAll_cons r1
  obtain ⟨v3, vs3, d3, ds3, p3, q3, rfl, rfl, rfl, h3, r3⟩ := trodAll_cons r2
  obtain ⟨rfl, rfl, rfl⟩ := trodAll_nil r3
  obtain rfl : args = #[v0, v1, v2, v3] := by cases args; simp_all
  obtain ⟨rfl, rfl⟩ := trodVars_none hV
  have k0 := h0
  have lt0 : ∀ x ∈ p0, x.block < W.heap.size := by obtain ⟨m, hm⟩ := k0; exact DataW.trod_lt m _ _ _ hm
  obtain ⟨a0, rfl, rfl, rfl, w0⟩ := open_int Try.underlying3 (hval 0 3 v0 rfl rfl) h0
  have k1 := h1
  have lt1 : ∀ x ∈ p1, x.block < W.heap.size := by obtain ⟨m, hm⟩ := k1; exact DataW.trod_lt m _ _ _ hm
  obtain ⟨a1, rfl, rfl, rfl, w1⟩ := open_int Try.underlying3 (hval 1 3 v1 rfl rfl) h1
  have k2 := h2
  have lt2 : ∀ x ∈ p2, x.block < W.heap.size := by obtain ⟨m, hm⟩ := k2; exact DataW.trod_lt m _ _ _ hm
  obtain ⟨a2, rfl, rfl, rfl, w2⟩ := open_int Try.underlying3 (hval 2 3 v2 rfl rfl) h2
  have k3 := h3
  have lt3 : ∀ x ∈ p3, x.block < W.heap.size := by obtain ⟨m, hm⟩ := k3; exact DataW.trod_lt m _ _ _ hm
  obtain ⟨a3, rfl, rfl, rfl, w3⟩ := open_int Try.underlying3 (hval 3 3 v3 rfl rfl) h3
  clear hA0 hval0
  refine (walk a0 a1 a2 a3 w1 W).mono fun e W' ⟨he, bel⟩ => ?_
  subst he
  exact ⟨_, rfl, _, _, _, [], _, [], hW', trodAll_mk1 (shut_bool Try.underlying4 _), (trodAll_cons_mk (Below.trod laidOut (by kernel_rfl) (of_decide_eq_true (by kernel_rfl)) k0 bel lt0) (trodAll_cons_mk (Below.trod laidOut (by kernel_rfl) (of_decide_eq_true (by kernel_rfl)) k1 bel lt1) (trodAll_cons_mk (Below.trod laidOut (by kernel_rfl) (of_decide_eq_true (by kernel_rfl)) k2 bel lt2) (trodAll_cons_mk (Below.trod laidOut (by kernel_rfl) (of_decide_eq_true (by kernel_rfl)) k3 bel lt3) trodAll_mk0)))), rfl, bel.frame _, fun h => by cases h⟩

theorem over : Rows.bitioSplitRow.holds Try.pinned (OpenSpec.ofChange Rows.bitioSplitSpec) :=
  OpenClaim.holds_of_wide 7 Try.f7 rfl rfl rfl rfl rfl rfl rfl ⟨rfl, rfl, rfl, rfl, rfl⟩ rfl rfl rfl rfl rfl (by kernel_rfl) Try.func7 (by kernel_rfl)
    (of_decide_eq_true (by kernel_rfl)) (by unfold Func.isWrapper; first | (rw [if_pos (by decide +kernel)]; kernel_rfl) | (rw [if_neg (by decide +kernel)]; exact ⟨rfl, rfl⟩))
    (fun os started H enc _ => lifted os started H enc)

theorem proved : Rows.BitioSplitSaid := over
end Go.Proofs.Ytdgoaccnjlkdcaa.bitioSplit
