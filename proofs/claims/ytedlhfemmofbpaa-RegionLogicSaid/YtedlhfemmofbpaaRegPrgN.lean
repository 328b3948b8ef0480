/-
  The library's IndexFunc and ContainsFunc over rectangles.
-/
import Derived.Test.YtedlhfemmofbpaaRegPrgK
namespace Go.Proofs.Ytedlhfemmofbpaa.Reg
open Go.ChangeShapes Go.WideShapes Go.ChangeAt Go.RowKit Go.Shelf Lz RowG RegVal OwnL
set_option linter.unusedVariables false
set_option maxRecDepth 100000

/-- Where the first one is. -/
def idxF (p : Rc → Bool) : List Rc → Nat → Int
  | [], _ => -1
  | r :: t, k => if p r = true then k else idxF p t (k + 1)
theorem idxF_drop {p : Rc → Bool} {l : List Rc} : ∀ (k : Nat), (∀ i, (h : i < l.length) → i < k → p l[i] = false) → k ≤ l.length → idxF p l 0 = idxF p (l.drop k) k := by
  intro k
  induction k with
  | zero => intro _ _; rfl
  | succ k ih =>
    intro h hk
    rw [ih (fun i hi hik => h i hi (by omega)) (by omega), List.drop_eq_getElem_cons (by omega)]
    show (if p (l[k]'(by omega)) = true then _ else _) = _
    rw [if_neg (by rw [h k (by omega) (by omega)]; simp)]
theorem idxF_hit {p : Rc → Bool} {l : List Rc} {k : Nat} (h : ∀ i, (h : i < l.length) → i < k → p l[i] = false) (hk : k < l.length) (hp : p l[k] = true) : idxF p l 0 = k := by
  rw [idxF_drop k h (by omega), List.drop_eq_getElem_cons hk]
  exact if_pos hp
theorem idxF_none {p : Rc → Bool} {l : List Rc} (h : ∀ i, (h : i < l.length) → p l[i] = false) : idxF p l 0 = -1 := by
  rw [idxF_drop l.length (fun i hi _ => h i hi) (Nat.le_refl _), List.drop_length]
  rfl
theorem idxF_any {p : Rc → Bool} (l : List Rc) : ∀ k, (decide (0 ≤ idxF p l k)) = l.any p := by
  induction l with
  | nil => intro k; rfl
  | cons r t ih =>
    intro k
    show decide (0 ≤ if p r = true then (k : Int) else idxF p t (k + 1)) = (p r || t.any p)
    cases hp : p r with
    | true => simp
    | false => simp [ih]
set_option maxHeartbeats 4000000 in
theorem index0_any {g : Nat} (p : Rc → Bool) (l : List Rc) (v : Value) (w : World) (hl : l.length ≤ 1000000) (h : SeesR w v l) (eg : ∀ (args : Array Value) (w : World), (callFunc g args).run Try.prog w = .ok (.enter g args) w)
    (hp : ∀ r ∈ l, ∀ W, Below w.heap.size w W → Calls Try.prog g #[r.v] W fun e w' => e = .returned (.bool (p r)) ∧ Below W.heap.size W w') :
    Calls Try.prog 42 #[v, .func (.func g) #[] #[]] w fun e w' => e = .returned (.int .i64 (idxF p l 0)) ∧ Below w.heap.size w w' := by
  obtain ⟨a, cap, rfl, hn, hr⟩ := h
  obtain ⟨n, hlen⟩ : ∃ n, l.length = n := ⟨_, rfl⟩
  rw [hlen] at hl hn ⊢
  have HP := Lib.hid hp
  have HL := Lib.hid hlen
  obtain ⟨RES, hRES⟩ : ∃ RES, idxF p l 0 = RES := ⟨_, rfl⟩
  rw [hRES]
  have HRES := Lib.hid hRES
  have HC := Lib.hid hr
  clear hp hr hn hRES
  go_enter Try.func42, Try.ntmps42
  go_wp2_with fail
  go_loopw [8] (fun q wr => ∃ k : Nat, q = .int .i64 k ∧ k ≤ n ∧ Below w.heap.size w wr ∧ ∀ i, (h : i < l.length) → i < k → p l[i] = false) (fun q _ => n - (intOf q).toNat)
  case atStart => exact ⟨0, rfl, Nat.zero_le _, Below.refl _ _, fun i _ h => absurd h (by omega)⟩
  case round =>
    obtain ⟨k, rfl, hk, hB, hno⟩ := hrel
    have HB := Lib.hid hB
    have HNO := Lib.hid hno
    by_cases hlt : k < n
    · obtain ⟨b, off, rfl, hb, hc⟩ := HC.out (by omega)
      have hkl : k < l.length := by omega
      have h0 := (hc k hkl).below hB hb
      obtain ⟨r, hr⟩ : ∃ r, l[k] = r := ⟨_, rfl⟩
      rw [hr] at h0
      have C := Lib.hid (HP.out r (by rw [← hr]; exact List.getElem_mem _) wr hB)
      have HR := Lib.hid hr
      obtain ⟨RB, hRB⟩ : ∃ RB, p r = RB := ⟨_, rfl⟩
      have HRB := Lib.hid hRB
      rw [hRB] at C
      obtain ⟨x, y, u, z⟩ := r
      obtain ⟨c0, c1, c2, c3⟩ := h0
      unfold Rc.v at C
      simp only at c0 c1 c2 c3 C
      have dl : decide ((k : Int) < n) = true := decide_eq_true (by omega)
      have dl2 : decide (k < n) = true := decide_eq_true hlt
      clear hc hr hRB hB hno hb
      go_wp2_with fail
      refine C.out.mono ?_
      rintro e w' ⟨rfl, k2⟩
      have HB2 := Lib.hid (HB.out.trans (k2.mono HB.out.size))
      clear k2 C
      cases RB with
      | true =>
        have HQ : RowKit.Hid (RES = (k : Int)) := Lib.hid (HRES.out.symm.trans (idxF_hit HNO.out (by have := HL.out; omega) (by rw [HR.out]; exact HRB.out)))
        go_wp2_with fail
        go_ret
        exact ⟨retI HQ.out.symm, HB2.out⟩
      | false =>
        have HN2 : RowKit.Hid (∀ i, (h : i < l.length) → i < k + 1 → p l[i] = false) := Lib.hid (fun i hi hik => by
          by_cases e : i = k
          · subst e; rw [HR.out]; exact HRB.out
          · exact HNO.out i hi (by omega))
        go_wp2_with fail
        go_roundw
        case rel => exact ⟨k + 1, by go_num, by omega, HB2.out, HN2.out⟩
        case measure => simp [intOf]; omega
    · have dl : decide ((k : Int) < n) = false := decide_eq_false (by omega)
      have dl2 : decide (k < n) = false := decide_eq_false (by omega)
      have HQ : RowKit.Hid (RES = -1) := Lib.hid (HRES.out.symm.trans (idxF_none (fun i hi => HNO.out i hi (by have := HL.out; omega))))
      clear hB hno HC
      go_wp2_with fail
      go_ret
      exact ⟨retI HQ.out.symm, HB.out⟩
set_option maxHeartbeats 4000000 in
theorem index2_any {g : Nat} (c1 c2 : Value) (p : Rc → Bool) (l : List Rc) (v : Value) (w : World) (hl : l.length ≤ 1000000) (h : SeesR w v l) (eg : ∀ (args : Array Value) (w : World), (callFunc g args).run Try.prog w = .ok (.enter g args) w)
    (hp : ∀ r ∈ l, ∀ W, Below w.heap.size w W → Calls Try.prog g #[r.v, c1, c2] W fun e w' => e = .returned (.bool (p r)) ∧ Below W.heap.size W w') :
    Calls Try.prog 42 #[v, .func (.func g) #[] #[c1, c2]] w fun e w' => e = .returned (.int .i64 (idxF p l 0)) ∧ Below w.heap.size w w' := by
  obtain ⟨a, cap, rfl, hn, hr⟩ := h
  obtain ⟨n, hlen⟩ : ∃ n, l.length = n := ⟨_, rfl⟩
  rw [hlen] at hl hn ⊢
  have HP := Lib.hid hp
  have HL := Lib.hid hlen
  obtain ⟨RES, hRES⟩ : ∃ RES, idxF p l 0 = RES := ⟨_, rfl⟩
  rw [hRES]
  have HRES := Lib.hid hRES
  have HC := Lib.hid hr
  clear hp hr hn hRES
  go_enter Try.func42, Try.ntmps42
  go_wp2_with fail
  go_loopw [8] (fun q wr => ∃ k : Nat, q = .int .i64 k ∧ k ≤ n ∧ Below w.heap.size w wr ∧ ∀ i, (h : i < l.length) → i < k → p l[i] = false) (fun q _ => n - (intOf q).toNat)
  case atStart => exact ⟨0, rfl, Nat.zero_le _, Below.refl _ _, fun i _ h => absurd h (by omega)⟩
  case round =>
    obtain ⟨k, rfl, hk, hB, hno⟩ := hrel
    have HB := Lib.hid hB
    have HNO := Lib.hid hno
    by_cases hlt : k < n
    · obtain ⟨b, off, rfl, hb, hc⟩ := HC.out (by omega)
      have hkl : k < l.length := by omega
      have h0 := (hc k hkl).below hB hb
      obtain ⟨r, hr⟩ : ∃ r, l[k] = r := ⟨_, rfl⟩
      rw [hr] at h0
      have C := Lib.hid (HP.out r (by rw [← hr]; exact List.getElem_mem _) wr hB)
      have HR := Lib.hid hr
      obtain ⟨RB, hRB⟩ : ∃ RB, p r = RB := ⟨_, rfl⟩
      have HRB := Lib.hid hRB
      rw [hRB] at C
      obtain ⟨x, y, u, z⟩ := r
      obtain ⟨c0, c1, c2, c3⟩ := h0
      unfold Rc.v at C
      simp only at c0 c1 c2 c3 C
      have dl : decide ((k : Int) < n) = true := decide_eq_true (by omega)
      have dl2 : decide (k < n) = true := decide_eq_true hlt
      clear hc hr hRB hB hno hb
      go_wp2_with fail
      refine C.out.mono ?_
      rintro e w' ⟨rfl, k2⟩
      have HB2 := Lib.hid (HB.out.trans (k2.mono HB.out.size))
      clear k2 C
      cases RB with
      | true =>
        have HQ : RowKit.Hid (RES = (k : Int)) := Lib.hid (HRES.out.symm.trans (idxF_hit HNO.out (by have := HL.out; omega) (by rw [HR.out]; exact HRB.out)))
        go_wp2_with fail
        go_ret
        exact ⟨retI HQ.out.symm, HB2.out⟩
      | false =>
        have HN2 : RowKit.Hid (∀ i, (h : i < l.length) → i < k + 1 → p l[i] = false) := Lib.hid (fun i hi hik => by
          by_cases e : i = k
          · subst e; rw [HR.out]; exact HRB.out
          · exact HNO.out i hi (by omega))
        go_wp2_with fail
        go_roundw
        case rel => exact ⟨k + 1, by go_num, by omega, HB2.out, HN2.out⟩
        case measure => simp [intOf]; omega
    · have dl : decide ((k : Int) < n) = false := decide_eq_false (by omega)
      have dl2 : decide (k < n) = false := decide_eq_false (by omega)
      have HQ : RowKit.Hid (RES = -1) := Lib.hid (HRES.out.symm.trans (idxF_none (fun i hi => HNO.out i hi (by have := HL.out; omega))))
      clear hB hno HC
      go_wp2_with fail
      go_ret
      exact ⟨retI HQ.out.symm, HB.out⟩
theorem contains_any {g : Nat} (c1 c2 : Value) (p : Rc → Bool) (l : List Rc) (v : Value) (w : World) (hl : l.length ≤ 1000000) (h : SeesR w v l) (eg : ∀ (args : Array Value) (w : World), (callFunc g args).run Try.prog w = .ok (.enter g args) w)
    (hp : ∀ r ∈ l, ∀ W, Below w.heap.size w W → Calls Try.prog g #[r.v, c1, c2] W fun e w' => e = .returned (.bool (p r)) ∧ Below W.heap.size W w') :
    Calls Try.prog 33 #[v, .func (.func g) #[] #[c1, c2]] w fun e w' => e = .returned (.bool (l.any p)) ∧ Below w.heap.size w w' := by
  have C := Lib.hid (index2_any c1 c2 p l v w hl h eg hp)
  have HA := Lib.hid (idxF_any (p := p) l 0)
  obtain ⟨a, cap, rfl, _⟩ := h
  generalize idxF p l 0 = R at *
  generalize l.any p = B at *
  generalize l.length = n at *
  clear hp eg
  go_enter Try.func33, Try.ntmps33
  go_wp2_with fail
  refine C.out.mono ?_
  rintro e w' ⟨rfl, k⟩
  go_wp2_with fail
  go_ret
  exact ⟨retB HA.out, k⟩
end Go.Proofs.Ytedlhfemmofbpaa.Reg
