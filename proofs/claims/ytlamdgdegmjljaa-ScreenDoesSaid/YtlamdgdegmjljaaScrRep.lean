/-
  Contracts of the library's bits.Mul and slices.Repeat, at one number that comes again and again; of slices.ContainsFunc.
-/
import Derived.Test.YtlamdgdegmjljaaScrPrgG
import Derived.Deep.RegionLaw
namespace Go.Proofs.Ytlamdgdegmjljaa.Scr
open Go.ChangeShapes Go.WideShapes Go.ChangeAt Go.RowKit Lz RowG RegVal Reg
set_option linter.unusedVariables false

theorem u64_low (m : Nat) (h : m < 4294967296) : bits .and .u64 (m : Int) 4294967295 = m := by
  show IntKind.u64.wrap ((BitVec.ofInt 64 (m : Int) &&& BitVec.ofInt 64 4294967295).toNat : Int) = _
  have e1 : (BitVec.ofInt 64 (m : Int)).toNat = m := by
    rw [BitVec.toNat_ofInt]; omega
  have e2 : (BitVec.ofInt 64 4294967295).toNat = 2 ^ 32 - 1 := by decide
  rw [BitVec.toNat_and, e1, e2, Nat.and_two_pow_sub_one_eq_mod, Nat.mod_eq_of_lt h]
  have e3 : IntKind.u64.bits = 64 := rfl
  have e4 : IntKind.u64.signed = false := rfl
  simp [IntKind.wrap, e3, e4]
  omega

set_option maxRecDepth 100000 in
set_option maxHeartbeats 1000000 in
theorem mul64_any (m : Nat) (w : World) (hm : m ≤ 1000000) :
    Calls Try.prog 50 #[.int .u64 1, .int .u64 m] w fun e w' => e = .returned (.tuple #[.int .u64 0, .int .u64 m]) ∧ w = w' := by
  have h1 := u64_low m (by omega)
  have h2 : bits .and .u64 1 4294967295 = 1 := u64_low 1 (by decide)
  have h3 : (m : Int) / 4294967296 = 0 := by omega
  have h4 : bits .and .u64 0 4294967295 = 0 := u64_low 0 (by decide)
  go_enter Try.func50, Try.ntmps50
  go_wp2_with fail
  go_ret2
  exact ⟨rfl, rfl⟩

theorem mul_any (m : Nat) (w : World) (hm : m ≤ 1000000) :
    Calls Try.prog 46 #[.int .u64 1, .int .u64 m] w fun e w' => e = .returned (.tuple #[.int .u64 0, .int .u64 m]) ∧ w = w' := by
  have C1 := Lib.hid (mul64_any m w hm)
  go_enter Try.func46, Try.ntmps46
  go_wp2_with fail
  refine C1.out.mono ?_
  rintro r w1 ⟨rfl, rfl⟩
  go_wp2_with fail
  go_ret2
  exact ⟨rfl, rfl⟩

/-- The first n cells filled. -/
def fil (cc : Int) (m n : Nat) : List Value := List.replicate n (.int .i64 cc) ++ List.replicate (m - n) (.int .i64 0)
theorem fil_length (cc : Int) (m n : Nat) (h : n ≤ m) : (fil cc m n).length = m := by simp [fil]; omega
theorem fil_get (cc : Int) (m n j : Nat) (h : j < n) : (fil cc m n)[j]? = some (.int .i64 cc) := by
  unfold fil
  rw [List.getElem?_append_left (by simpa using h)]
  simp [h]
theorem fil_more (cc : Int) (m n c : Nat) (h : n + c ≤ m) : splice (fil cc m n) n (List.replicate c (.int .i64 cc)) = fil cc m (n + c) := by
  have e1 : (fil cc m n).take n = List.replicate n (.int .i64 cc) := by
    unfold fil
    rw [List.take_append]; simp
  have e2 : (fil cc m n).drop (n + c) = List.replicate (m - (n + c)) (.int .i64 0) := by
    unfold fil
    rw [List.drop_append]; simp
    omega
  unfold splice
  rw [List.length_replicate, e1, e2, ← List.append_assoc, List.replicate_append_replicate]
  rfl

theorem rep_one (c : Nat) (z : Value) (hz : z.oneCell' = true) : ∀ v ∈ List.replicate c z, v.oneCell' = true := fun v hv => by
  rw [List.eq_of_mem_replicate hv]; exact hz
theorem rep_src {cc : Int} {w : World} {g o c : Nat} (h : ∀ j, j < c → w.cell? ⟨g, o + j, none⟩ = some (.int .i64 cc)) : ∀ j v, (List.replicate c (Value.int .i64 cc))[j]? = some v → w.cell? ((⟨g, o, none⟩ : Addr).add j) = some v := by
  intro j v hj
  rw [List.getElem?_replicate] at hj
  by_cases hjc : j < c
  · rw [if_pos hjc] at hj
    rw [Go.WideShapes.add_plain, h j hjc]
    exact hj
  · rw [if_neg hjc] at hj; cases hj

/-- 'copy' into a row that is filled up to n. -/
theorem run_copy_fill (cc : Int) (W : World) (ty : TypeId) (B m n c dLen dCap sLen sCap : Nat) (a : Addr) (hB : W.heap[B]? = some (.cells (fil cc m n).toArray 3 (0, 0))) (hc : c = Nat.min sLen dLen) (hm : n + c ≤ m)
    (hsrc : ∀ j v, (List.replicate c (Value.int .i64 cc))[j]? = some v → W.cell? (a.add j) = some v) :
    ∃ W2, (Builtin.copy_ #[30, 30] ty #[.slice (some ⟨B, n, none⟩) dLen dCap, .slice (some a) sLen sCap]).run Try.prog W = .ok (.int .i64 c) W2 ∧ W2.heap[B]? = some (.cells (fil cc m (n + c)).toArray 3 (0, 0)) ∧ W.grownBy W2 (some B) := by
  have h := run_copy_row (P := Try.prog) W 30 30 ty 3 B n dLen dCap a sLen sCap (fil cc m n).toArray 3 (List.replicate c (.int .i64 cc)) Try.underlying30 (by kernel_rfl) hB (by rw [List.length_replicate]; exact hc) hsrc (by rw [List.length_replicate, List.size_toArray, fil_length _ _ _ (by omega)]; exact hm) (rep_one _ _ rfl)
  have e : ((fil cc m n).toArray.toList.take n ++ List.replicate c (Value.int .i64 cc) ++ (fil cc m n).toArray.toList.drop (n + (List.replicate c (Value.int .i64 cc)).length)) = fil cc m (n + c) := by
    rw [← fil_more cc m n c hm]
    unfold splice
    rw [List.append_assoc]
  rw [e, List.length_replicate] at h
  refine ⟨_, h, setRow_heap W B _ _ _ _ hB, ⟨rfl, rfl, rfl, by simp [World.setRow], fun k hk hne => setRow_other W B k _ (fun e => hne (by rw [e]))⟩⟩

set_option maxRecDepth 100000 in
set_option maxHeartbeats 1000000 in
theorem repeat_any (cc : Int) (g0 m : Nat) (w : World) (hc : w.cell? ⟨g0, 0, none⟩ = some (.int .i64 cc)) (hg : g0 < w.heap.size) (hm : m ≤ 1000000) :
    Calls Try.prog 38 #[.slice (some ⟨g0, 0, none⟩) 1 1, .int .i64 m] w fun e w' => e = .returned (.slice (some ⟨w.heap.size, 0, none⟩) m m) ∧
      w'.heap[w.heap.size]? = some (.cells (fil cc m m).toArray 3 (0, 0)) ∧ Below w.heap.size w w' := by
  have C1 := Lib.hid (mul_any m w hm)
  obtain ⟨i0, hi, hz0, hz1, hz2⟩ := info_parts infoI
  have hms : IntKind.u64.wrap (m : Int) = m := by
    have e3 : IntKind.u64.bits = 64 := rfl
    have e4 : IntKind.u64.signed = false := rfl
    simp [IntKind.wrap, e3, e4]
    omega
  have hmk : (Instr.makeSlice 30 (.int .i64 m) (.int .i64 m)).run Try.prog w = .ok (.slice (some ⟨w.heap.size, 0, none⟩) m m) (w.alloc (.cells (fil cc m 0).toArray 3)) := by
    have := run_make (P := Try.prog) w 30 3 i0 (.int .i64 0) Try.underlying30 hi hz0 .i64 .i64 m m (by omega) (by omega) (by rw [hz2]; omega) (by omega)
    rw [this, hz1]
    have e : (madeCells (Value.int .i64 0).cells (((m : Nat) : Int).toNat * 1)) = (fil cc m 0).toArray := by
      apply Array.toList_inj.1
      rw [show (Value.int IntKind.i64 0).cells = #[Value.int .i64 0] from rfl, toList_madeCells_one]
      simp [fil]
    rw [e]
    simp
  obtain ⟨c, hcm⟩ : ∃ c : Nat, c = Nat.min 1 m := ⟨_, rfl⟩
  have hc1 : c ≤ 1 ∧ c ≤ m ∧ (c = 0 → m = 0) := by
    rw [hcm]; simp only [Nat.min_def]; split <;> omega
  obtain ⟨A1, hA1⟩ : ∃ A1, w.alloc (.cells (fil cc m 0).toArray 3) = A1 := ⟨_, rfl⟩
  have hA2 : A1.heap[w.heap.size]? = some (.cells (fil cc m 0).toArray 3 (0, 0)) := by rw [← hA1]; exact heap_alloc_new _ _
  have hA3 : Below w.heap.size w A1 := by rw [← hA1]; exact (Below.refl _ _).alloc (Nat.le_refl _) _
  have hA4 : A1.cell? ⟨g0, 0, none⟩ = some (.int .i64 cc) := (hA3.cell (p := ⟨g0, 0, none⟩) hg).trans hc
  obtain ⟨A2, hcp, hB2, hb2⟩ := run_copy_fill cc A1 3 w.heap.size m 0 c m m 1 1 ⟨g0, 0, none⟩ hA2 hcm (by omega) (rep_src fun j hj => by
      obtain rfl : j = 0 := by omega
      exact hA4)
  rw [Nat.zero_add] at hB2
  have HB2 := Lib.hid hB2
  have HBL := Lib.hid (hA3.grown hb2 hA3.size (fun j hj => by simp at hj; omega))
  rw [hA1] at hmk
  have d8 : decide ((m : Int) < 0) = false := decide_eq_false (by omega)
  have d9 : decide ((9223372036854775807 : Int) < (m : Int)) = false := decide_eq_false (by omega)
  clear hA1 hA2 hA3 hA4 hc hcm hB2 hb2
  go_enter Try.func38, Try.ntmps38
  go_wp2_with fail
  refine C1.out.mono ?_
  rintro r w1 ⟨rfl, rfl⟩
  clear C1
  go_wp2_with fail
  go_loopw [8] (fun i wr => ∃ n : Nat, n ≤ m ∧ (n = 0 → m = 0) ∧ i = .int .i64 n ∧ wr.heap[w.heap.size]? = some (.cells (fil cc m n).toArray 3 (0, 0)) ∧ Below w.heap.size w wr) (fun i _ => m - (intOf i).toNat)
  case atStart => exact ⟨c, hc1.2.1, hc1.2.2, rfl, HB2.out, HBL.out⟩
  case round =>
    obtain ⟨n, hn, hn0, rfl, hB, hb⟩ := hrel
    clear HB2 HBL hcp hmk
    by_cases hlt : n < m
    · have HB := Lib.hid hB
      have HL := Lib.hid hb
      clear hB hb
      obtain ⟨d, hdm⟩ : ∃ d : Nat, d = Nat.min n (m - n) := ⟨_, rfl⟩
      have hd1 : 1 ≤ d ∧ n + d ≤ m := by
        rw [hdm]; simp only [Nat.min_def]; split <;> omega
      have hn2 : (List.replicate d (Value.int .i64 cc)).length = Nat.min n (m - n) := by rw [List.length_replicate]; exact hdm
      have hdn : d ≤ n := by rw [hdm]; exact Nat.min_le_left _ _
      have hp2 : ∀ W : World, Below wr.heap.size wr W → ∀ j v, (List.replicate d (Value.int .i64 cc))[j]? = some v → W.cell? ((⟨w.heap.size, 0, none⟩ : Addr).add j) = some v := fun W hW =>
        rep_src fun j hj => by
          rw [Nat.zero_add]
          refine (hW.cell (p := ⟨w.heap.size, j, none⟩) (Array.getElem?_eq_some_iff.1 HB.out).1).trans ?_
          rw [cell_of_row _ _ _ _ _ _ HB.out, List.getElem?_toArray, fil_get _ _ _ _ (by omega)]
      have hf2 : n + (List.replicate d (Value.int .i64 cc)).length ≤ (fil cc m n).length := by rw [List.length_replicate, fil_length _ _ _ hn]; omega
      have HN2 := Lib.hid hn2
      have HP2 := Lib.hid (hp2 wr.drew (Below.refl _ wr).drew)
      have HF2 := Lib.hid hf2
      have HM2 := Lib.hid (fil_more cc m n d hd1.2)
      have HL2 : Hid (goInt (List.replicate d (Value.int .i64 cc)).length = .int .i64 d) := Lib.hid (by rw [List.length_replicate]; rfl)
      clear hn2 hp2 hf2 hdm
      have hnm : ¬ m = n := by omega
      go_wp2_with fail
      go_region_law (refine step_copy_splice rfl (.tmp 41) (.tmp 44) 30 30 rfl 3 Try.underlying30 (by kernel_rfl) (some ⟨w.heap.size, n, none⟩) (some ⟨w.heap.size, 0, none⟩) (m - n) (m - n) n m (by simp [Act.eval, Act.put]) (by simp [Act.eval, Act.put]) w.heap.size n (fil cc m n) 3 (by exact HB.out) (List.replicate d (.int .i64 cc)) HN2.out (fun _ => ⟨rfl, _, rfl, HP2.out⟩) HF2.out (rep_one _ _ rfl) w.heap.size w HL.out.drew (Nat.le_refl _) ?_; intro w3 hg3 hb3; rw [HL2.out])
      have HB3 : Hid (w3.heap[w.heap.size]? = some (.cells (fil cc m (n + d)).toArray 3 (0, 0))) := Lib.hid (by rw [← HM2.out]; exact hg3.out)
      have HL3 := Lib.hid hb3
      have hw : IntKind.i64.wrap ((n : Int) + d) = n + d := IntWalk.i64_in _ (by omega)
      rw [hw]
      simp only [List.getElem_toArray, List.getElem_cons_succ, List.getElem_cons_zero, Act.put, List.setIfInBounds_toArray, List.set_cons_succ, List.set_cons_zero]
      clear hg3 hb3 HB HL HN2 HP2 HF2 HM2 HL2
      go_wp2_with fail
      exact ⟨⟨n + d, hd1.2, by omega, by go_num, HB3.out, HL3.out⟩, by simp [intOf]; omega⟩
    · obtain rfl : n = m := by omega
      have HB := Lib.hid hB
      have HL := Lib.hid hb
      clear hB hb
      go_wp2_with fail
      go_ret
      exact ⟨rfl, HB.out, HL.out⟩

end Go.Proofs.Ytlamdgdegmjljaa.Scr
