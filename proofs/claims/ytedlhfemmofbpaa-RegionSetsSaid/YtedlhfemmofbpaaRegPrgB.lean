/-
  Contracts of the program's region: the least border of two lists, how many are the same, whether two rows are.
-/
import Derived.Test.YtedlhfemmofbpaaRegPrgA
import Derived.BigQuiet
namespace Go.Proofs.Ytedlhfemmofbpaa.Reg
open Go.ChangeShapes Go.WideShapes Go.ChangeAt Go.RowKit Go.Shelf Lz RowG RegVal
set_option linter.unusedVariables false
set_option maxRecDepth 100000

/-- A row that is read, its capacity no less than its length. -/
structure IR (w : World) (v : Value) (l : List Int) : Prop where
  sw : SW w v l
  room : Room v
theorem IR.below {w w' : World} {v : Value} {l : List Int} (h : IR w v l) (k : Below w.heap.size w w') : IR w' v l := ⟨h.sw.below k, h.room⟩
theorem IR.drewN {w : World} {v : Value} {l : List Int} (h : IR w v l) (n : Nat) : IR (w.drewN n) v l := ⟨h.sw, h.room⟩
theorem IntsAt.ir {B : Nat} {w : World} {v : Value} {l : List Int} (h : IntsAt B w v l) : IR w v l := ⟨h.si.sw, h.room⟩
theorem IR.nil (w : World) : IR w (.slice none 0 0) [] := ⟨(SI.nil w).sw, room_of (Nat.le_refl _)⟩
theorem px_drop (l : List Int) (k i : Nat) : px (l.drop k) i = px l (k + i) := by
  unfold px
  rw [List.getD_eq_getElem?_getD, List.getD_eq_getElem?_getD, List.getElem?_drop]
/-- What is left of a row. -/
def fromV (qa : Option Addr) (n c lo : Nat) : Value := .slice (if c = lo then qa else qa.map (·.add lo)) (n - lo) (c - lo)
theorem IR.drop {w : World} {qa : Option Addr} {n c lo : Nat} {l : List Int} (h : IR w (.slice qa n c) l) (hlo : lo ≤ n) : IR w (fromV qa n c lo) (l.drop lo) := by
  obtain ⟨⟨a, cap, e, h1, h2⟩, h3⟩ := h
  obtain ⟨rfl, hn, rfl⟩ := Value.slice.inj e
  have hr := h3 _ _ _ rfl
  refine ⟨⟨_, _, by rw [List.length_drop, ← hn]; rfl, fun e => ?_, fun h0 => ?_⟩, room_of (by omega)⟩
  · have : qa = none := by
      by_cases hc : c = lo
      · rwa [if_pos hc] at e
      · rw [if_neg hc] at e; cases qa with
        | none => rfl
        | some x => simp at e
    have := h1 this
    rw [List.length_drop]
    omega
  · rw [List.length_drop] at h0
    obtain ⟨g, off, rfl, hg, hc⟩ := h2 (by omega)
    refine ⟨g, off + lo, ?_, hg, fun i hi => ?_⟩
    · rw [if_neg (by omega), Option.map_some, Go.WideShapes.add_plain]
    · rw [List.length_drop] at hi
      have := hc (lo + i) (by omega)
      rw [px_drop, Nat.add_assoc]
      exact this
theorem run_fromV (W : World) (qa : Option Addr) (n c lo : Nat) (h1 : lo ≤ n) :
    (Instr.slice 38 (.slice qa n c) (some (.int .i64 (lo : Int))) none none).run Try.prog W = .ok (fromV qa n c lo) W := by
  have h3 : (lo : Int) ≤ n := by omega
  have hc := run_sliceBound (P := Try.prog) (w := W) .i64 (lo : Int) n .sliceB (by omega) h3
  simp [Instr.slice, run_underlying Try.underlying38, Instr.sliceBounds, hc, fromV]
set_option maxHeartbeats 1000000 in
theorem first_any (a b : List Int) (va vb : Value) (w : World) (h0 : ¬ (a = [] ∧ b = [])) (hla : a.length ≤ 1000000) (hlb : b.length ≤ 1000000) (ha : SW w va a) (hb : SW w vb b) :
    Calls Try.prog 57 #[va, vb] w fun e w' => e = .returned (.int .i64 (firstV a b)) ∧ ∃ q, w' = w.drewN q := by
  obtain ⟨pa, ca, rfl, hna, hca⟩ := ha
  obtain ⟨pb, cb, rfl, hnb, hcb⟩ := hb
  cases a with
  | nil =>
    cases b with
    | nil => exact absurd ⟨rfl, rfl⟩ h0
    | cons y q =>
      obtain ⟨g, off, rfl, hg, hc⟩ := hcb (by simp)
      have c0 := hc 0 (by simp)
      rw [Nat.add_zero, show px (y :: q) 0 = y from rfl] at c0
      have HR : RowKit.Hid (firstV [] (y :: q) = y) := Lib.hid rfl
      have HL := Lib.hid hlb
      obtain ⟨n, hn⟩ : ∃ n, (y :: q).length = n := ⟨_, rfl⟩
      have hn1 : 0 < n := by rw [← hn]; simp
      rw [hn] at hc ⊢
      generalize firstV [] (y :: q) = R at *
      clear hca hna hnb hc h0 hla hlb hn hcb
      rw [List.length_nil]
      go_enter Try.func57, Try.ntmps57
      go_wp2_with fail
      go_ret
      exact ⟨retI HR.out.symm, 0, rfl⟩
  | cons x r =>
    obtain ⟨g, off, rfl, hg, hc⟩ := hca (by simp)
    have c0 := hc 0 (by simp)
    rw [Nat.add_zero, show px (x :: r) 0 = x from rfl] at c0
    obtain ⟨n, hn⟩ : ∃ n, (x :: r).length = n := ⟨_, rfl⟩
    have hn1 : 0 < n := by rw [← hn]; simp
    have hn2 : n ≤ 1000000 := by rw [← hn]; exact hla
    cases b with
    | nil =>
      have HR : RowKit.Hid (firstV (x :: r) [] = x) := Lib.hid rfl
      rw [hn] at hc ⊢
      generalize firstV (x :: r) [] = R at *
      have hne : decide (n = 0) = false := decide_eq_false (by omega)
      have hne2 : ((n : Int) == 0) = false := by simp; omega
      clear hca hna hnb hc h0 hla hlb hn hcb
      rw [List.length_nil]
      go_enter Try.func57, Try.ntmps57
      go_wp2_with fail
      go_ret
      exact ⟨retI HR.out.symm, 0, rfl⟩
    | cons y q =>
      obtain ⟨g2, off2, rfl, hg2, hc2⟩ := hcb (by simp)
      have c2 := hc2 0 (by simp)
      rw [Nat.add_zero, show px (y :: q) 0 = y from rfl] at c2
      obtain ⟨m, hm⟩ : ∃ m, (y :: q).length = m := ⟨_, rfl⟩
      have hm1 : 0 < m := by rw [← hm]; simp
      have hm2 : m ≤ 1000000 := by rw [← hm]; exact hlb
      have HR : RowKit.Hid (firstV (x :: r) (y :: q) = if y < x then y else x) := Lib.hid rfl
      rw [hn, hm]
      generalize firstV (x :: r) (y :: q) = R at *
      have hne : decide (n = 0) = false := decide_eq_false (by omega)
      have hne2 : ((n : Int) == 0) = false := by simp; omega
      have hme : decide (m = 0) = false := decide_eq_false (by omega)
      have hme2 : ((m : Int) == 0) = false := by simp; omega
      clear hca hna hnb hc h0 hla hlb hn hcb hc2 hm
      obtain ⟨z, hz⟩ : ∃ z, (if y < x then y else x) = z := ⟨_, rfl⟩
      have hz2 : min x y = z := by rw [← hz]; split <;> omega
      rw [hz] at HR
      go_enter Try.func57, Try.ntmps57
      go_wp2_with fail
      go_quiet (fail)
      go_wp2_with fail
      go_ret
      exact ⟨retI HR.out.symm, nq, rfl⟩
theorem sameV_at {l : List Int} {z : Int} {k : Nat} (h : k ≤ sameV l z) : sameV l z = k + sameV (l.drop k) z := by
  induction l generalizing k with
  | nil =>
    have : k = 0 := by simpa [sameV] using h
    subst this
    simp
  | cons x r ih =>
    cases k with
    | zero => simp
    | succ k =>
      by_cases hx : x = z
      · have e : sameV (x :: r) z = sameV r z + 1 := if_pos hx
        rw [e] at h ⊢
        rw [ih (k := k) (by omega), List.drop_succ_cons]
        omega
      · have e : sameV (x :: r) z = 0 := if_neg hx
        omega
theorem sameV_step {l : List Int} {z : Int} {k : Nat} (h : k ≤ sameV l z) (hk : k < l.length) : (px l k = z → k + 1 ≤ sameV l z) ∧ (px l k ≠ z → sameV l z = k) := by
  have e := sameV_at h
  have hd : l.drop k = px l k :: l.drop (k + 1) := by
    rw [px_get hk]; exact (List.drop_eq_getElem_cons hk)
  rw [hd] at e
  refine ⟨fun hz => ?_, fun hz => ?_⟩
  · rw [show sameV (px l k :: l.drop (k + 1)) z = sameV (l.drop (k + 1)) z + 1 from if_pos hz] at e
    omega
  · rw [show sameV (px l k :: l.drop (k + 1)) z = 0 from if_neg hz] at e
    omega
set_option maxHeartbeats 1000000 in
theorem same_any (l : List Int) (v : Value) (z : Int) (w : World) (hl : l.length ≤ 1000000) (h : SW w v l) :
    Calls Try.prog 58 #[v, .int .i64 z] w fun e w' => e = .returned (.int .i64 (sameV l z : Nat)) ∧ w = w' := by
  obtain ⟨a, n, cap, rfl, hn, hc⟩ := h.read
  have hc := hc w (Below.refl _ _)
  have HL := Lib.hid hn
  have hn2 : n ≤ 1000000 := by omega
  have HS := Lib.hid (sameV_le l z)
  clear h hl hn
  go_enter Try.func58, Try.ntmps58
  go_wp2_with fail
  go_loopw [5] (fun p wr => w = wr ∧ ∃ k : Nat, p = .int .i64 k ∧ k ≤ sameV l z) (fun p _ => n - (intOf p).toNat)
  case atStart => exact ⟨rfl, 0, rfl, Nat.zero_le _⟩
  case round =>
    obtain ⟨rfl, k, rfl, hk⟩ := hrel
    have hkn : k ≤ n := by have := HS.out; have := HL.out; omega
    by_cases hlt : k < n
    · obtain ⟨g, off, rfl, hcc⟩ := hc (by omega)
      have c0 := hcc k hlt
      obtain ⟨s1, s2⟩ := sameV_step hk (by rw [HL.out]; exact hlt)
      have S1 := Lib.hid s1
      have S2 := Lib.hid s2
      have dl : decide ((k : Int) < n) = true := decide_eq_true (by omega)
      have dl2 : decide (k < n) = true := decide_eq_true hlt
      have HK := Lib.hid hk
      clear s1 s2 hc hcc hk
      by_cases he : px l k = z
      · have hb : (px l k == z) = true := by simpa using he
        have e1 := S1.out he
        clear he S1 S2
        generalize px l k = y at *
        go_wp2_with fail
        go_roundw
        case rel => exact ⟨by trivial, k + 1, by go_num, e1⟩
        case measure => simp [intOf]; omega
      · have hb : (px l k == z) = false := by simpa using he
        have e2 := S2.out he
        clear he S1 S2
        generalize px l k = y at *
        go_wp2_with fail
        go_ret
        exact ⟨retI (by rw [e2]), by trivial⟩
    · obtain rfl : k = n := by omega
      have dl : decide ((k : Int) < k) = false := decide_eq_false (by omega)
      have dl2 : decide (k < k) = false := decide_eq_false (by omega)
      have e2 : sameV l z = k := by have := HS.out; have := HL.out; omega
      clear hc hlt hk
      go_wp2_with fail
      go_ret
      exact ⟨retI (by rw [e2]), by trivial⟩
end Go.Proofs.Ytedlhfemmofbpaa.Reg
