/-
  Contracts of the reference of layer 13 (format): widths, parts, what becomes of them.
-/
import Derived.Test.YtbdlmcpdplmdnaaRows
import Derived.WalkKit
import Derived.ProofKit
import Derived.OpenShut
import Derived.ShutString
import Derived.ChangeOld
import Derived.Below
import Derived.WalkSpells
import Derived.WalkLawsBesides
import Derived.Deep.QuietTactic
import Derived.BigQuiet
import Derived.BigGuardPart
import Derived.StillTailTactics
import Derived.Deep.RegionHeld3
import Derived.Deep.RegionWith
import Derived.Outline
import Derived.IntWalk
import Derived.Lib.Hide
import Derived.Deep.DeepCutAuto
import Derived.Test.YtbdlmcpdplmdnaaFmtVal
import Derived.Test.YtbdlmcpdplmdnaaBitMath
namespace Go.Proofs.Ytbdlmcpdplmdnaa.Fmt
open Go.ChangeShapes Go.WideShapes Go.ChangeAt Go.RowKit
set_option linter.unusedVariables false
set_option maxRecDepth 100000

theorem retI {k : IntKind} {a b : Int} (h : a = b) : Ending.returned (Value.int k a) = Ending.returned (.int k b) := by rw [h]
theorem retB {a b : Bool} (h : a = b) : Ending.returned (Value.bool a) = Ending.returned (.bool b) := by rw [h]

theorem width_not {m : Int} (h : ∀ k, 1 ≤ k → k ≤ 16 → m ≠ (top k : Nat)) : width m = 0 := by
  apply Classical.byContradiction
  intro hn
  obtain ⟨h1, h2, h3⟩ := width_spec (m := m) (by omega)
  exact h _ h1 h2 h3
set_option maxHeartbeats 1000000 in
theorem refWidth_any (m : Int) (hm : (Lit.int .i64 m).wf = true) (w : World) :
    Calls Try.prog 71 #[.int .i64 m] w fun e w' => e = .returned (.int .i64 (width m)) ∧ w = w' := by
  clear hm
  go_enter Try.func71, Try.ntmps71
  go_wp2_with fail
  go_loop [3, 4] (fun p k => ∃ j : Nat, 1 ≤ j ∧ j ≤ 17 ∧ k = .int .i64 j ∧ p = .int .i64 (2 ^ (j - 1) : Nat) ∧ ∀ i, 1 ≤ i → i < j → m ≠ (top i : Nat)) (fun _ k => 17 - (intOf k).toNat)
  case atStart => exact ⟨1, by omega, by omega, rfl, rfl, fun i h1 h2 => by omega⟩
  case round =>
    obtain ⟨j, j1, j2, rfl, rfl, hn⟩ := hrel
    have HN := Lib.hid hn
    clear hn
    by_cases hj : j ≤ 16
    · have hp : 2 ^ (j - 1) ≤ 32768 := Nat.le_trans (Nat.pow_le_pow_right (by decide) (show j - 1 ≤ 15 by omega)) (by decide)
      have hq : 2 ^ (j - 1) * 2 = 2 ^ j := by rw [← Nat.pow_succ]; congr 1; omega
      have ht : (top j : Nat) = 2 ^ (j - 1) * 2 - 1 := by unfold top; rw [hq]
      have HQ := Lib.hid hq
      have HTP := Lib.hid ht
      have hp0 : 1 ≤ 2 ^ (j - 1) := Nat.one_le_two_pow
      clear hq ht
      have dj : decide ((j : Int) ≤ 16) = true := decide_eq_true (by omega)
      have dj' : decide (j ≤ 16) = true := decide_eq_true hj
      generalize 2 ^ (j - 1) = P at *
      by_cases he : m = (P : Int) * 2 - 1
      · have hw : width m = j := by
          have : m = (top j : Nat) := by rw [HTP.out]; omega
          rw [this]; exact width_top ⟨j1, hj⟩
        have de : (m == (P : Int) * 2 - 1) = true := by simpa using he
        have HW := Lib.hid hw
        clear hw he
        go_wp2_with fail
        go_ret
        exact ⟨retI (by rw [HW.out]), rfl⟩
      · have de : (m == (P : Int) * 2 - 1) = false := by simpa using he
        have hne : m ≠ (top j : Nat) := by rw [HTP.out]; omega
        have HE := Lib.hid hne
        clear he hne
        go_wp2_with fail
        refine ⟨⟨j + 1, by omega, by omega, by go_num, ?_, fun i h1 h2 => ?_⟩, by simp [intOf]; omega⟩
        · rw [Nat.add_sub_cancel, ← HQ.out]; go_num
        · by_cases hij : i = j
          · subst hij; exact HE.out
          · exact HN.out i h1 (by omega)
    · obtain rfl : j = 17 := by omega
      have hw : width m = 0 := width_not fun k h1 h2 => HN.out k h1 (by omega)
      have HW := Lib.hid hw
      clear hw
      go_wp2_with fail
      go_ret
      exact ⟨retI (by rw [HW.out]; rfl), rfl⟩

theorem pow_int {s : Nat} (hs : s ≤ 32) : ∃ P : Nat, (2 : Int) ^ s = P ∧ P = 2 ^ s ∧ 1 ≤ P ∧ P ≤ 4294967296 := by
  have h1 : 2 ^ s ≤ 2 ^ 32 := Nat.pow_le_pow_right (by decide) hs
  have h2 : (2 : Nat) ^ 32 = 4294967296 := by decide
  rw [h2] at h1
  exact ⟨2 ^ s, by simp, rfl, Nat.one_le_two_pow, h1⟩
theorem mul_small {a P : Nat} (ha : a ≤ 65535) (hP : P ≤ 4294967296) : a * P ≤ 281474976710656 := Nat.le_trans (Nat.mul_le_mul ha hP) (by decide)
theorem refMask_any (a s : Nat) (ha : a ≤ 65535) (hs : s ≤ 32) (w : World) :
    Calls Try.prog 56 #[.int .i64 a, .int .i64 s] w fun e w' => e = .returned (.int .i64 (a * 2 ^ s : Nat)) ∧ w = w' := by
  obtain ⟨P, hP, hP2, hP3, hP4⟩ := pow_int hs
  rw [← hP2]
  have hm := mul_small ha hP4
  have HW2 := Lib.hid hm
  clear hP2 hm
  go_enter Try.func56, Try.ntmps56
  go_wp2_with fail
  go_ret
  exact ⟨retI ((IntWalk.wrap64_in _ (by rw [← Int.natCast_mul]; have := HW2.out; omega)).trans (by rw [← Int.natCast_mul])), rfl⟩

theorem refPart_any (bits m s : Int) (hb : (Lit.int .i64 bits).wf = true) (hm : (Lit.int .i64 m).wf = true) (hs : (Lit.int .i64 s).wf = true) (w : World) :
    Calls Try.prog 55 #[.int .i64 bits, .int .i64 m, .int .i64 s] w fun e w' => e = .returned (.bool (partB bits m s)) ∧ w = w' := by
  have W := Lib.hid (refWidth_any m hm w)
  have hw : width m ≤ 16 := by
    by_cases h : 0 < width m
    · exact (width_spec h).2.1
    · omega
  unfold partB
  clear hb hm hs
  generalize width m = k at *
  by_cases h1 : 0 < k
  · have d1 : decide ((0 : Int) < k) = true := decide_eq_true (by omega)
    have d1' : decide (0 < k) = true := decide_eq_true h1
    by_cases h2 : 0 ≤ s
    · have d2 : decide (0 ≤ s) = true := decide_eq_true h2
      by_cases h3 : s ≤ 32
      · have d3 : decide (s ≤ 32) = true := decide_eq_true h3
        go_enter Try.func55, Try.ntmps55
        go_wp2_with fail
        refine W.out.mono ?_
        rintro r w' ⟨rfl, rfl⟩
        go_wp2_with fail
        go_ret
        exact ⟨retB (decide_eq_decide.2 (by omega)), rfl⟩
      · have d3 : decide (s ≤ 32) = false := decide_eq_false h3
        go_enter Try.func55, Try.ntmps55
        go_wp2_with fail
        refine W.out.mono ?_
        rintro r w' ⟨rfl, rfl⟩
        go_wp2_with fail
        go_ret
        exact ⟨retB (decide_eq_false (by omega)).symm, rfl⟩
    · have d2 : decide (0 ≤ s) = false := decide_eq_false h2
      go_enter Try.func55, Try.ntmps55
      go_wp2_with fail
      refine W.out.mono ?_
      rintro r w' ⟨rfl, rfl⟩
      go_wp2_with fail
      go_ret
      exact ⟨retB (decide_eq_false (by omega)).symm, rfl⟩
  · have d1 : decide ((0 : Int) < k) = false := decide_eq_false (by omega)
    have d1' : decide (0 < k) = false := decide_eq_false h1
    go_enter Try.func55, Try.ntmps55
    go_wp2_with fail
    refine W.out.mono ?_
    rintro r w' ⟨rfl, rfl⟩
    go_wp2_with fail
    go_ret
    exact ⟨retB (decide_eq_false (by omega)).symm, rfl⟩

theorem refDown_any (p a s : Nat) (hp : p ≤ 255) (ha : a ≤ 65535) (hs : s ≤ 32) (w : World) :
    Calls Try.prog 62 #[.int .i64 p, .int .i64 a, .int .i64 s] w fun e w' => e = .returned (.int .i64 (downN p a * 2 ^ s : Nat)) ∧ w = w' := by
  obtain ⟨P, hP, hP2, hP3, hP4⟩ := pow_int hs
  rw [← hP2]
  have hd := down_le (m := a) hp
  have hm := mul_small (show downN p a ≤ 65535 by omega) hP4
  have hpa : p * a ≤ 255 * 65535 := Nat.mul_le_mul hp ha
  obtain ⟨X, hX⟩ : ∃ X, p * a = X := ⟨_, rfl⟩
  have hXi : (p : Int) * a = X := by rw [← hX]; simp
  have hdn : downN p a = (X + 127) / 255 := by unfold downN; rw [hX]
  rw [hX] at hpa
  clear hX hP2
  go_enter Try.func62, Try.ntmps62
  go_wp2_with fail
  go_ret
  refine ⟨retI ?_, rfl⟩
  rw [show ((X : Int) + 127) / 255 = (downN p a : Nat) by rw [hdn]; simp, ← Int.natCast_mul]
  exact IntWalk.wrap64_in _ (by omega)

/-- A part of any number. -/
def getZ (v : Int) (k s : Nat) : Nat := (v / 2 ^ s % 2 ^ k).toNat
theorem getZ_nat (v k s : Nat) : getZ (v : Int) k s = getN v k s := by
  unfold getZ getN
  have e : (v : Int) / 2 ^ s % 2 ^ k = ((v / 2 ^ s % 2 ^ k : Nat) : Int) := by simp
  rw [e, Int.toNat_natCast]
theorem getZ_le (v : Int) (k s : Nat) : getZ v k s ≤ top k := by
  unfold getZ top
  have h1 : v / 2 ^ s % 2 ^ k < 2 ^ k := Int.emod_lt_of_pos _ (Int.pow_pos (by decide))
  have h2 : 0 ≤ v / 2 ^ s % 2 ^ k := Int.emod_nonneg _ (Int.ne_of_gt (Int.pow_pos (by decide)))
  have e : ((2 ^ k : Nat) : Int) = 2 ^ k := by simp
  have := Nat.one_le_two_pow (n := k)
  omega
theorem refUp_any (v : Int) (k s : Nat) (hk : 1 ≤ k ∧ k ≤ 16) (hs : s ≤ 32) (w : World) :
    Calls Try.prog 54 #[.int .i64 v, .int .i64 (top k : Nat), .int .i64 s] w fun e w' => e = .returned (.int .i64 (upN (getZ v k s) (top k) : Nat)) ∧ w = w' := by
  obtain ⟨P, hP, hP2, hP3, hP4⟩ := pow_int hs
  have hg := getZ_le v k s
  have ht : top k ≤ 65535 := by
    have : ∀ k, k < 17 → top k ≤ 65535 := by decide
    exact this k (by omega)
  have ht1 := top_pos hk.1
  have hm : bits .and .i64 (v / P) (top k : Nat) = (getZ v k s : Nat) := by
    have h1 : ((top k : Nat) : Int) = 2 ^ k - 1 := by
      unfold top
      have := Nat.one_le_two_pow (n := k)
      have e : ((2 ^ k : Nat) : Int) = 2 ^ k := by simp
      omega
    rw [h1, Bit.i64_mask _ k (by omega)]
    unfold getZ
    rw [← hP]
    have : 0 ≤ v / 2 ^ s % 2 ^ k := Int.emod_nonneg _ (Int.ne_of_gt (Int.pow_pos (by decide)))
    omega
  have hu : upN (getZ v k s) (top k) = (getZ v k s * 255 + top k / 2) / top k := rfl
  clear hP2
  generalize getZ v k s = g at *
  generalize top k = T at *
  obtain ⟨h2, hh⟩ : ∃ h2, T / 2 = h2 := ⟨_, rfl⟩
  rw [hh] at hu
  have hh2 : (T : Int) / 2 = h2 := by omega
  have HU := Lib.hid hu
  clear hu hh
  go_enter Try.func54, Try.ntmps54
  go_wp2_with fail
  go_ret
  exact ⟨retI (by rw [HU.out]; simp), rfl⟩

/-- A format as a value. -/
def fmtV (B D : Int) (big tr : Bool) (rm gm bm rs gs bs : Int) : Value := .agg #[.int .i64 B, .int .i64 D, .bool big, .bool tr, .int .i64 rm, .int .i64 gm, .int .i64 bm, .int .i64 rs, .int .i64 gs, .int .i64 bs]
/-- A colour's lowest 24 bits. -/
def colZ (n : Int) : Nat := (n % 16777216).toNat
theorem colZ_parts (n : Int) : bits .and .i64 (n / 65536) 255 = (colZ n / 65536 % 256 : Nat) ∧ bits .and .i64 (n / 256) 255 = (colZ n / 256 % 256 : Nat) ∧ bits .and .i64 n 255 = (colZ n % 256 : Nat) := by
  have h : ∀ x : Int, bits .and .i64 x 255 = x % 256 := fun x => Bit.i64_mask x 8 (by decide)
  rw [h, h, h]
  unfold colZ
  omega
theorem byte_le (x : Nat) : x % 256 ≤ 255 := by omega
theorem alloc_size (w : World) (o : Obj) : (w.alloc o).heap.size = w.heap.size + 1 := by simp [World.alloc, -World.alloc_eq]
theorem box1 (w : World) (x : Array Value) (T : TypeId) : Below w.heap.size w (w.alloc (.cells x T)) ∧ ∀ i v, x[i]? = some v → (w.alloc (.cells x T)).cell? ⟨w.heap.size, i, none⟩ = some v := by
  refine ⟨(Below.refl _ w).alloc (Nat.le_refl _) _, fun i v h => ?_⟩
  have := heap_alloc_new w (.cells x T)
  simp only [World.cell?, this]
  simpa using h
theorem below_q {B : Nat} {w w' : World} (h : Below B w w') (n : Nat) : Below B w (w'.drewN n) := ⟨h.os, h.tape, h.output, h.size, h.block⟩

set_option maxHeartbeats 800000 in
theorem refValue_any (B D : Int) (big tr : Bool) (k j l s t u : Nat) (n : Int) (hk : 1 ≤ k ∧ k ≤ 16) (hj : 1 ≤ j ∧ j ≤ 16) (hl : 1 ≤ l ∧ l ≤ 16) (N : Nat) (H : Three k j l s t u N) (w : World) :
    Calls Try.prog 40 #[.agg #[.int .i64 B, .int .i64 D, .bool big, .bool tr, .int .i64 (top k : Nat), .int .i64 (top j : Nat), .int .i64 (top l : Nat), .int .i64 s, .int .i64 t, .int .i64 u], .int .i64 n] w fun e w' =>
      e = .returned (.int .i64 (valueN k j l s t u (colZ n) : Nat)) ∧ Below w.heap.size w w' := by
  have htop : ∀ k, k < 17 → top k ≤ 65535 := by decide
  have t1 := htop k (by omega)
  have t2 := htop j (by omega)
  have t3 := htop l (by omega)
  have hN := H.hn
  have s1 : s ≤ 32 := by have := H.hs; omega
  have s2 : t ≤ 32 := by have := H.ht; omega
  have s3 : u ≤ 32 := by have := H.hu; omega
  obtain ⟨q1, q2, q3⟩ := colZ_parts n
  have hlt := sum_lt H (a := downN (colZ n / 65536 % 256) (top k)) (b := downN (colZ n / 256 % 256) (top j)) (c := downN (colZ n % 256) (top l)) (down_le (byte_le _)) (down_le (byte_le _)) (down_le (byte_le _))
  have hlt2 : sumN (downN (colZ n / 65536 % 256) (top k)) (downN (colZ n / 256 % 256) (top j)) (downN (colZ n % 256) (top l)) s t u < 4294967296 := by
    have h1 : 2 ^ N ≤ 2 ^ 32 := Nat.pow_le_pow_right (by decide) hN
    have h2 : (2 : Nat) ^ 32 = 4294967296 := by decide
    rw [h2] at h1
    exact Nat.lt_of_lt_of_le hlt h1
  have hval : valueN k j l s t u (colZ n) = downN (colZ n / 65536 % 256) (top k) * 2 ^ s + downN (colZ n / 256 % 256) (top j) * 2 ^ t + downN (colZ n % 256) (top l) * 2 ^ u := rfl
  obtain ⟨w1, hw1⟩ : ∃ w1, w.alloc (.cells #[.int .i64 B, .int .i64 D, .bool big, .bool tr, .int .i64 (top k : Nat), .int .i64 (top j : Nat), .int .i64 (top l : Nat), .int .i64 s, .int .i64 t, .int .i64 u] 23) = w1 := ⟨_, rfl⟩
  obtain ⟨bel, kx⟩ := box1 w #[.int .i64 B, .int .i64 D, .bool big, .bool tr, .int .i64 (top k : Nat), .int .i64 (top j : Nat), .int .i64 (top l : Nat), .int .i64 s, .int .i64 t, .int .i64 u] 23
  rw [hw1] at bel kx
  have c4 := kx 4 (.int .i64 (top k : Nat)) rfl
  have c5 := kx 5 (.int .i64 (top j : Nat)) rfl
  have c6 := kx 6 (.int .i64 (top l : Nat)) rfl
  have c7 := kx 7 (.int .i64 s) rfl
  have c8 := kx 8 (.int .i64 t) rfl
  have c9 := kx 9 (.int .i64 u) rfl
  have F : ∀ (p a s : Nat) (hp : p ≤ 255) (ha : a ≤ 65535) (hs : s ≤ 32) (r : Nat), Calls Try.prog 62 #[.int .i64 p, .int .i64 a, .int .i64 s] (w1.drewN r) fun e w' => e = .returned (.int .i64 (downN p a * 2 ^ s : Nat)) ∧ ∃ n, w' = w1.drewN n := fun p a s hp ha hs r => (refDown_any p a s hp ha hs (w1.drewN r)).mono fun _ _ ⟨he, hm⟩ => ⟨he, r, hm.symm⟩
  have F1 := Lib.hid (F (colZ n / 65536 % 256) (top k) s (byte_le _) t1 s1)
  have F2 := Lib.hid (F (colZ n / 256 % 256) (top j) t (byte_le _) t2 s2)
  have F3 := Lib.hid (F (colZ n % 256) (top l) u (byte_le _) t3 s3)
  unfold sumN at hlt2
  clear F kx hlt
  generalize downN (colZ n / 65536 % 256) (top k) * 2 ^ s = x1 at *
  generalize downN (colZ n / 256 % 256) (top j) * 2 ^ t = x2 at *
  generalize downN (colZ n % 256) (top l) * 2 ^ u = x3 at *
  generalize colZ n / 65536 % 256 = p1 at *
  generalize colZ n / 256 % 256 = p2 at *
  generalize colZ n % 256 = p3 at *
  have HV := Lib.hid hval
  have y1 : IntKind.i64.wrap ((x1 : Int) + x2) = ((x1 + x2 : Nat) : Int) := by rw [← Int.natCast_add]; exact IntWalk.i64_in _ (by omega)
  have HY := Lib.hid (And.intro y1 hlt2)
  clear hval y1 htop hk hj hl H hN
  go_enter Try.func40, Try.ntmps40
  go_wp2_with fail
  go_quiet ((go_at_call 62; first | with_reducible exact F1.out _ | with_reducible exact F2.out _ | with_reducible exact F3.out _))
  go_wp2_with fail
  go_ret
  refine ⟨retI ?_, below_q bel _⟩
  have h := HY.out.2
  rw [HV.out]
  omega

/-- The colour of any number. -/
def colourZ (k j l s t u : Nat) (v : Int) : Nat := colN (upN (getZ v k s) (top k)) (upN (getZ v j t) (top j)) (upN (getZ v l u) (top l))
theorem colourZ_nat (k j l s t u v : Nat) : colourZ k j l s t u (v : Int) = colourN k j l s t u v := by unfold colourZ colourN; rw [getZ_nat, getZ_nat, getZ_nat]
set_option maxHeartbeats 800000 in
theorem refColour_any (B D : Int) (big tr : Bool) (k j l s t u : Nat) (n : Int) (hk : 1 ≤ k ∧ k ≤ 16) (hj : 1 ≤ j ∧ j ≤ 16) (hl : 1 ≤ l ∧ l ≤ 16) (N : Nat) (H : Three k j l s t u N) (w : World) :
    Calls Try.prog 29 #[.agg #[.int .i64 B, .int .i64 D, .bool big, .bool tr, .int .i64 (top k : Nat), .int .i64 (top j : Nat), .int .i64 (top l : Nat), .int .i64 s, .int .i64 t, .int .i64 u], .int .i64 n] w fun e w' =>
      e = .returned (.int .i64 (colourZ k j l s t u n : Nat)) ∧ Below w.heap.size w w' := by
  have hN := H.hn
  have s1 : s ≤ 32 := by have := H.hs; omega
  have s2 : t ≤ 32 := by have := H.ht; omega
  have s3 : u ≤ 32 := by have := H.hu; omega
  have u1 := up_le (getZ_le n k s) (top_pos hk.1)
  have u2 := up_le (getZ_le n j t) (top_pos hj.1)
  have u3 := up_le (getZ_le n l u) (top_pos hl.1)
  have hval : colourZ k j l s t u n = upN (getZ n k s) (top k) * 65536 + upN (getZ n j t) (top j) * 256 + upN (getZ n l u) (top l) := rfl
  obtain ⟨w1, hw1⟩ : ∃ w1, w.alloc (.cells #[.int .i64 B, .int .i64 D, .bool big, .bool tr, .int .i64 (top k : Nat), .int .i64 (top j : Nat), .int .i64 (top l : Nat), .int .i64 s, .int .i64 t, .int .i64 u] 23) = w1 := ⟨_, rfl⟩
  obtain ⟨bel, kx⟩ := box1 w #[.int .i64 B, .int .i64 D, .bool big, .bool tr, .int .i64 (top k : Nat), .int .i64 (top j : Nat), .int .i64 (top l : Nat), .int .i64 s, .int .i64 t, .int .i64 u] 23
  rw [hw1] at bel kx
  have c4 := kx 4 (.int .i64 (top k : Nat)) rfl
  have c5 := kx 5 (.int .i64 (top j : Nat)) rfl
  have c6 := kx 6 (.int .i64 (top l : Nat)) rfl
  have c7 := kx 7 (.int .i64 s) rfl
  have c8 := kx 8 (.int .i64 t) rfl
  have c9 := kx 9 (.int .i64 u) rfl
  have F : ∀ (k s : Nat) (hk : 1 ≤ k ∧ k ≤ 16) (hs : s ≤ 32) (r : Nat), Calls Try.prog 54 #[.int .i64 n, .int .i64 (top k : Nat), .int .i64 s] (w1.drewN r) fun e w' => e = .returned (.int .i64 (upN (getZ n k s) (top k) : Nat)) ∧ ∃ m, w' = w1.drewN m := fun k s hk hs r => (refUp_any n k s hk hs (w1.drewN r)).mono fun _ _ ⟨he, hm⟩ => ⟨he, r, hm.symm⟩
  have F1 := Lib.hid (F k s hk s1)
  have F2 := Lib.hid (F j t hj s2)
  have F3 := Lib.hid (F l u hl s3)
  clear F kx
  generalize upN (getZ n k s) (top k) = x1 at *
  generalize upN (getZ n j t) (top j) = x2 at *
  generalize upN (getZ n l u) (top l) = x3 at *
  have HV := Lib.hid hval
  clear hval hk hj hl H hN
  go_enter Try.func29, Try.ntmps29
  go_wp2_with fail
  go_quiet ((go_at_call 54; first | with_reducible exact F1.out _ | with_reducible exact F2.out _ | with_reducible exact F3.out _))
  go_wp2_with fail
  go_ret
  refine ⟨retI ?_, below_q bel _⟩
  rw [HV.out]
  omega
end Go.Proofs.Ytbdlmcpdplmdnaa.Fmt
