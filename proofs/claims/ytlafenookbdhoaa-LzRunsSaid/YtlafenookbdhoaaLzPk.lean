/-
  Contracts of lz.beginning and lz.alike.
-/
import Derived.Test.YtlafenookbdhoaaLzPlain
import Derived.Test.YtlafenookbdhoaaBitMath
namespace Go.Proofs.Ytlafenookbdhoaa.Lz
open Go.ChangeShapes Go.WideShapes Go.ChangeAt Go.RowKit
set_option linter.unusedVariables false

/-- The number of a text's first bytes. -/
def begK (T : List UInt8) (p k : Nat) : Nat :=
  if k = 0 then 0 else if k = 1 then (T.getD p 0).toNat else if k = 2 then (T.getD p 0).toNat * 256 + (T.getD (p + 1) 0).toNat else beg T p

theorem begK_step (T : List UInt8) (p k : Nat) (hk : k < 3) : begK T p (k + 1) = begK T p k * 256 + (T.getD (p + k) 0).toNat := by
  obtain rfl | rfl | rfl : k = 0 ∨ k = 1 ∨ k = 2 := by omega
  · simp [begK]
  · simp [begK]
  · simp [begK, beg]; omega
theorem begK_lt (T : List UInt8) (p k : Nat) : begK T p k < 16777216 := by
  have h1 := (T.getD p 0).toNat_lt
  have h2 := (T.getD (p + 1) 0).toNat_lt
  have h3 := (T.getD (p + 2) 0).toNat_lt
  unfold begK beg
  split
  · omega
  · split
    · omega
    · split <;> omega

theorem shl_or (n x : Nat) (hn : n < 16777216) (hx : x < 256) : bits .or .i64 ((n : Int) * 256) (x : Int) = ((n * 256 + x : Nat) : Int) := by
  have := Bit.i64_or x (n * 256) 8 (by omega) (by omega) (by omega) (by decide)
  have e : bits .or .i64 (((n * 256 : Nat)) : Int) (x : Int) = bits .or .i64 (x : Int) (((n * 256 : Nat)) : Int) := by simp [bits, BitVec.or_comm]
  rw [← e] at this
  rw [show ((n : Int) * 256) = ((n * 256 : Nat) : Int) by omega, this]
  omega

set_option maxHeartbeats 1000000 in
theorem beginning_any (s : ByteArray) (w : World) (hs : 3 ≤ s.size) (hz : s.size ≤ 1000000) :
    Calls Try.prog 25 #[.string s] w fun e w' => e = .returned (.int .i64 (beg s.data.toList 0 : Nat)) ∧ w = w' := by
  go_enter Try.func25, Try.ntmps25
  go_wp2_with fail
  go_loop [3, 5] (fun x i => ∃ k : Nat, k ≤ 3 ∧ i = .int .i64 k ∧ x = .int .i64 (begK s.data.toList 0 k : Nat)) (fun _ i => 3 - (intOf i).toNat)
  case atStart => exact ⟨0, Nat.zero_le _, rfl, rfl⟩
  case round =>
    obtain ⟨k, hk, rfl, rfl⟩ := hrel
    by_cases hlt : k < 3
    · have hks : k < s.size := by omega
      have e1 := Lib.hid (begK_step s.data.toList 0 k hlt)
      have hb := begK_lt s.data.toList 0 k
      have hg : s.data.toList.getD (0 + k) 0 = s[k] := by
        rw [Nat.zero_add]; simp [List.getD_eq_getElem?_getD, hks]; rfl
      rw [hg] at e1
      have hx2 := s[k].toNat_lt
      generalize begK s.data.toList 0 k = n at *
      clear hg
      go_wp2_with fail
      refine ⟨⟨k + 1, by omega, by go_num, ?_⟩, by simp [intOf]; omega⟩
      rw [e1.out, shl_or n _ hb hx2]
    · obtain rfl : k = 3 := by omega
      go_wp2_with fail
      go_ret
      exact ⟨rfl, rfl⟩

set_option maxRecDepth 10000 in
set_option maxHeartbeats 1000000 in
theorem alike_any (a b : ByteArray) (w : World) (ha : a.size ≤ 1000000) (hb : b.size ≤ 1000000) :
    Calls Try.prog 26 #[.string a, .string b] w fun e w' => e = .returned (.int .i64 (alikeL a.data.toList b.data.toList : Nat)) ∧ ∃ n, w' = w.drewN n := by
  have hle := alikeL_le a.data.toList b.data.toList
  have hstop := alikeL_stop a.data.toList b.data.toList
  have hsame := alikeL_same a.data.toList b.data.toList
  have hmore := alikeL_at_least a.data.toList b.data.toList
  have ea : a.data.toList.length = a.size := by simp
  have eb : b.data.toList.length = b.size := by simp
  rw [ea, eb] at hle
  rw [ea, eb] at hstop
  rw [ea, eb] at hmore
  have ga : ∀ k (h : k < a.size), a.data.toList.getD k 0 = a[k] := fun k h => by simp [List.getD_eq_getElem?_getD, h]; rfl
  have gb : ∀ k (h : k < b.size), b.data.toList.getD k 0 = b[k] := fun k h => by simp [List.getD_eq_getElem?_getD, h]; rfl
  generalize alikeL a.data.toList b.data.toList = N at *
  have HS := Lib.hid hstop
  have HM := Lib.hid hsame
  have HMO := Lib.hid hmore
  have GA := Lib.hid ga
  have GB := Lib.hid gb
  clear hstop hsame hmore ga gb ea eb
  go_enter Try.func26, Try.ntmps26
  go_wp2_with fail
  go_loopw [5] (fun i wr => ∃ k : Nat, k ≤ N ∧ i = .int .i64 k ∧ ∃ n, wr = w.drewN n) (fun i _ => N + 1 - (intOf i).toNat)
  case atStart => exact ⟨0, Nat.zero_le _, rfl, 0, rfl⟩
  case round =>
    obtain ⟨k, hk, rfl, m, rfl⟩ := hrel
    obtain ⟨M, hM⟩ : ∃ M : Nat, M = min a.size b.size := ⟨_, rfl⟩
    have hm1 : min (a.size : Int) b.size = (M : Int) := by omega
    have hm2 : (if (b.size : Int) < a.size then (b.size : Int) else a.size) = (M : Int) := by split <;> omega
    have hm3 : (if b.size < a.size then (b.size : Int) else a.size) = (M : Int) := by split <;> omega
    by_cases hlt : k < min a.size b.size
    · have hka : k < a.size := by omega
      have hkb : k < b.size := by omega
      have hkM : decide ((k : Int) < (M : Int)) = true := decide_eq_true (by omega)
      have hkM2 : decide (k < M) = true := decide_eq_true (by omega)
      have qa := GA.out k hka
      have qb := GB.out k hkb
      by_cases he : a[k] = b[k]
      · have hkN : k + 1 ≤ N := HMO.out (k + 1) (by omega) (by omega) (fun i hi => by
          by_cases h : i < k
          · exact HM.out i (by omega)
          · obtain rfl : i = k := by omega
            rw [qa, qb, he])
        have hE : a[k].toNat = b[k].toNat := by rw [he]
        clear qa qb GA GB HM HMO HS hM
        go_wp2_with fail
        go_quiet (fail)
        clear hm1 hm2 hm3 hkM hkM2
        go_wp2_with fail
        exact ⟨⟨k + 1, hkN, by go_num, m + nq, by first | rfl | rw [World.drewN_drewN]⟩, by simp [intOf]; omega⟩
      · have hE : (a[k].toNat == b[k].toNat) = false := by
          simp only [beq_eq_false_iff_ne, ne_eq]
          exact fun h => he (UInt8.toNat_inj.1 h)
        have hE2 : ((a[k].toNat : Int) == (b[k].toNat : Int)) = false := by
          simp only [beq_eq_false_iff_ne, ne_eq]
          exact fun h => he (UInt8.toNat_inj.1 (by omega))
        have hN := HS.out k hk (fun _ _ => by rw [qa, qb]; exact he)
        subst hN
        clear qa qb GA GB HM HMO HS hM
        go_wp2_with fail
        go_quiet (fail)
        clear hm1 hm2 hm3 hkM hkM2
        go_wp2_with fail
        go_ret
        exact ⟨rfl, m + nq, by first | rfl | rw [World.drewN_drewN]⟩
    · have hkM : decide ((k : Int) < (M : Int)) = false := decide_eq_false (by omega)
      have hkM2 : decide (k < M) = false := decide_eq_false (by omega)
      have hN := HS.out k hk (fun _ _ => by omega)
      subst hN
      clear GA GB HM HMO HS hM
      go_wp2_with fail
      go_quiet (fail)
      clear hm1 hm2 hm3 hkM hkM2
      go_wp2_with fail
      go_ret
      exact ⟨rfl, m + nq, by first | rfl | rw [World.drewN_drewN]⟩

end Go.Proofs.Ytlafenookbdhoaa.Lz
