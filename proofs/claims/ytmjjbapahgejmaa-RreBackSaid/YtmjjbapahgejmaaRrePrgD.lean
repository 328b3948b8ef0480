/-
  The program of layer 17 (rre): pieces.
-/
import Derived.Test.YtmjjbapahgejmaaRrePrgC
namespace Go.Proofs.Ytmjjbapahgejmaa.Rre
open Go.ChangeShapes Go.WideShapes Go.ChangeAt Go.RowKit Lz RowG RegVal Pln
set_option linter.unusedVariables false
set_option linter.unusedSimpArgs false
set_option maxRecDepth 100000

theorem wpl_ints {w : World} {ops : Array Oper} {rest : List Oper} {o : Oper} {a : Act} {Q : Exit → Act → World → Prop} (hgd : o.guard = none) (s x : Operand)
    (ho : o.op = .call { callee := .builtin .append, args := #[s, x], argTypes := #[22, 22] })
    (v : Value) (B : Nat) (l : List Int) (hs : a.eval s = v) (hown : IntsAt B w v l) (hB : B ≤ w.heap.size) (u : Value) (m : List Int) (hx : a.eval x = u) (hm : SW w u m) (hl : l.length + m.length ≤ 1000000000)
    (h : ∀ v' w', IntsAt B w' v' (l ++ m) → Below B w w' → wpList Try.prog ops Q rest (a.put o.dst v') w') : wpList Try.prog ops Q (o :: rest) a w := by
  obtain ⟨i0, hi, hz0, hz1, hz2⟩ := info_parts info_num
  obtain ⟨ad, cap, rfl, hn, hr⟩ := hm
  have one : ∀ u ∈ ints m, u.oneCell' = true := fun u hu => by
    unfold ints at hu
    obtain ⟨q, _, rfl⟩ := List.mem_map.1 hu
    rfl
  have len : (ints m).length = m.length * 1 := by simp [ints]
  have done : ∀ v' w', w'.ownsRow 0 3 1 v' (l.length + m.length) (ints l ++ ints m) → w.grownBy w' v.ownBlock → Near w v v' → wpList Try.prog ops Q rest (a.put o.dst v') w' := by
    intro v' w' h1 h2 h3
    refine h v' w' ?_ (grown_below h2 hown.2.1 hB)
    refine ⟨?_, fun k hk => ?_, fun u hu => ?_⟩
    · rw [List.length_append, ints_append]; exact h1
    · rcases h3 k hk with h4 | h4
      · exact hown.2.1 k h4
      · omega
    · unfold ints at hu
      obtain ⟨q, _, rfl⟩ := List.mem_map.1 hu
      rfl
  cases ad with
  | none =>
    obtain ⟨h0, rfl⟩ := hn rfl
    have hm0 : m = [] := List.length_eq_zero_iff.1 h0
    subst hm0
    refine wpl_append_sees w hgd s x 22 ho 3 i0 _ 1 8 Try.underlying22 hi hz0 hz1 hz2 rfl (by decide) v l.length (ints l) hs hown.1 (.slice none 0 0) 0 [] hx ⟨rfl, fun u hu => by simp at hu, .inl ⟨rfl, rfl⟩⟩ (by unfold maxLen; omega) (by omega) fun v' w' h1 h2 h3 => done v' w' h1 h2 h3
  | some ad =>
    refine wpList_append_near w hgd s x 22 ho 3 i0 _ 1 8 Try.underlying22 hi hz0 hz1 hz2 rfl (by decide) v l.length (ints l) hs hown.1 ad m.length cap (ints m) hx len (fun j u hj => ?_) one (by unfold maxLen; omega) (by omega) done
    have hj' : j < m.length := by
      have := (List.getElem?_eq_some_iff.1 hj).1
      rw [len] at this
      omega
    obtain ⟨b, off, e, _, hc⟩ := hr (by omega)
    obtain rfl := Option.some.inj e
    rw [Go.WideShapes.add_plain, hc j hj', px_get hj', ← hj, ints_get hj']
set_option maxHeartbeats 2000000 in
theorem clone_any (l : List Int) (v : Value) (w : World) (hl : l.length ≤ 100000000) (h : SW w v l) :
    Calls Try.prog 27 #[v] w fun e w' => ∃ u, e = .returned u ∧ IntsAt w.heap.size w' u l ∧ Below w.heap.size w w' := by
  obtain ⟨a, cap, rfl, hn, hr⟩ := h
  have q22 : ∀ (w : World) (a : Option Addr) (n c n' c' : Nat), (binOp .eql 22 (.slice a n c) (.slice none n' c')).run Try.prog w = .ok (.bool a.isNone) w := fun w a n c n' c' => Lib.run_eql_slice_nil w _ _ a n c n' c' Try.underlying22
  cases a with
  | none =>
    obtain ⟨h0, rfl⟩ := hn rfl
    have h0 := List.length_eq_zero_iff.1 h0
    subst h0
    go_enter Try.func27, Try.ntmps27
    go_wp2_with fail
    go_ret
    exact ⟨_, rfl, RowAt.nil _ _ _ _, Below.refl _ _⟩
  | some a =>
    have hz := alloc_size w (.cells #[] 3)
    have nA := heap_alloc_new w (.cells #[] 3)
    have kA := (Below.refl w.heap.size w).alloc (Nat.le_refl _) (.cells #[] 3)
    have hs2 : SW (w.alloc (.cells #[] 3)) (.slice (some a) l.length cap) l := SW.below ⟨some a, cap, rfl, hn, hr⟩ kA
    obtain ⟨w1, hw1⟩ : ∃ w1, w.alloc (.cells #[] 3) = w1 := ⟨_, rfl⟩
    rw [hw1] at hz nA kA hs2
    have hown : IntsAt w.heap.size w1 (.slice (some ⟨w.heap.size, 0, none⟩) 0 0) [] :=
      ⟨⟨rfl, .inr ⟨_, 0, #[], rfl, Nat.zero_le _, nA, Nat.le_refl _, Nat.zero_le _, rfl, rfl⟩⟩, fun k hk => by simp [Value.ownBlock] at hk; omega, fun u hu => absurd hu (by simp [ints])⟩
    have HS := Lib.hid hs2
    have HO := Lib.hid hown
    have HK := Lib.hid kA
    have HZ : RowKit.Hid (w.heap.size ≤ w1.heap.size ∧ ([] : List Int).length + l.length ≤ 1000000000) := Lib.hid ⟨by omega, by simp; omega⟩
    obtain ⟨n, hn2⟩ : ∃ n, l.length = n := ⟨_, rfl⟩
    rw [hn2] at HS ⊢
    clear hn hr hs2 hown kA nA hz hl hn2
    go_enter Try.func27, Try.ntmps27
    go_wp2_with (at_builtin; refine wpl_ints rfl _ _ rfl (.slice (some ⟨w.heap.size, 0, none⟩) 0 0) w.heap.size [] rfl HO.out HZ.out.1 _ l rfl HS.out HZ.out.2 ?_; intro v' w2 h1 b1; have H1 := Lib.hid h1; have B1 := Lib.hid (HK.out.trans b1); clear h1 b1)
    go_ret
    exact ⟨_, rfl, H1.out, B1.out⟩
/-- What is left: what is in a piece is ground. -/
def leftL (w : Nat) (vals : List Int) (g : Int) (L : List Pc) : List Int := gen vals.length (fun k => if hasL L (k % w) (k / w) = true then g else px vals k)
theorem left_length (w : Nat) (vals : List Int) (g : Int) (L : List Pc) : (leftL w vals g L).length = vals.length := gen_length _ _
theorem left_start (w : Nat) (vals : List Int) (g : Int) : leftL w vals g [] = vals :=
  row_ext (left_length _ _ _ _) (fun k hk => by
    rw [left_length] at hk
    unfold leftL
    rw [px_gen hk]
    rfl)
theorem left_paint (w : Nat) (vals : List Int) (g v : Int) (L : List Pc) (x y n m : Nat) : paint1 w (leftL w vals g L) ⟨g, x, y, n, m⟩ = leftL w vals g (L ++ [⟨v, x, y, n, m⟩]) := by
  unfold paint1
  rw [left_length]
  unfold leftL
  refine gen_congr (fun k hk => ?_)
  rw [px_gen hk, hasL_append]
  have e : hasL [(⟨v, x, y, n, m⟩ : Pc)] (k % w) (k / w) = (⟨g, x, y, n, m⟩ : Pc).has (k % w) (k / w) := by simp [hasL, Pc.has]
  rw [e]
  cases (⟨g, x, y, n, m⟩ : Pc).has (k % w) (k / w)
  · simp
  · simp
theorem left_at {w : Nat} {vals : List Int} {g : Int} {L : List Pc} {i j : Nat} (hi : i < w) (h : j * w + i < vals.length) : px (leftL w vals g L) (j * w + i) = if hasL L i j = true then g else px vals (j * w + i) := by
  unfold leftL
  rw [px_gen h, (at_mod hi).1, (at_mod hi).2]
theorem left_free {w : Nat} {vals : List Int} {g v : Int} {L : List Pc} {i j : Nat} (hi : i < w) (h : j * w + i < vals.length) (hv : v ≠ g) : px (leftL w vals g L) (j * w + i) = v ↔ free1 w vals L v i j = true := by
  rw [left_at hi h, free1_iff]
  cases hasL L i j
  · simp
  · simp [Ne.symm hv]
theorem left_none {w h : Nat} {vals : List Int} {g : Int} {L : List Pc} {x y : Nat} (hx : x < w) (hq : y * w + x < vals.length) (e : px (leftL w vals g L) (y * w + x) = g) : stepP w h vals g L x y = L := by
  rw [left_at hx hq] at e
  refine step_no rfl ?_
  cases hh : hasL L x y with
  | false => rw [hh] at e; exact .inl (by simpa using e)
  | true =>
    right
    rw [freeL_one, ← Bool.not_eq_true, free1_iff]
    simp [hh]
theorem left_some {w h : Nat} {vals : List Int} {g v : Int} {L : List Pc} {x y : Nat} (hl : vals.length = w * h) (hx : x < w) (hy : y < h) (hv : v ≠ g) (e : px (leftL w vals g L) (y * w + x) = v) :
    stepP w h vals g L x y = L ++ [⟨v, x, y, gw w (leftL w vals g L) x y, gd w (leftL w vals g L) x y (gw w (leftL w vals g L) x y) (h - y - 1) + 1⟩] ∧ 1 ≤ gw w (leftL w vals g L) x y ∧ x + gw w (leftL w vals g L) x y ≤ w ∧ y + (gd w (leftL w vals g L) x y (gw w (leftL w vals g L) x y) (h - y - 1) + 1) ≤ h := by
  have at_in : ∀ i j, i < w → j < h → j * w + i < vals.length := fun i j hi hj => by rw [hl]; exact at_lt hi hj
  have hf := (left_free (L := L) hx (at_in x y hx hy) hv).1 e
  have hpv : px vals (y * w + x) = v := (free1_iff.1 hf).1
  have hn : gw w (leftL w vals g L) x y ≤ w - x := run_le _ _ _
  have hna : ∀ i, i < gw w (leftL w vals g L) x y → px (leftL w vals g L) (y * w + (x + i)) = v := fun i hi => by
    have := run_all hi
    rw [← Nat.add_assoc, this, e]
  have hnn : gw w (leftL w vals g L) x y < w - x → px (leftL w vals g L) (y * w + (x + gw w (leftL w vals g L) x y)) ≠ v := fun hi => by
    have := run_not hi
    change px _ (y * w + x + gw w (leftL w vals g L) x y) ≠ px _ (y * w + x) at this
    rw [e] at this
    rw [← Nat.add_assoc]
    exact this
  generalize gw w (leftL w vals g L) x y = n at *
  have hm : gd w (leftL w vals g L) x y n (h - y - 1) ≤ h - y - 1 := by have := stop_le (P := rowB w (leftL w vals g L) x y n) (h - y - 1) 0; unfold gd; omega
  have row_all : ∀ j, rowB w (leftL w vals g L) x y n j = true → ∀ i, i < n → px (leftL w vals g L) ((y + (j + 1)) * w + (x + i)) = v := fun j hj i hi => by
    unfold rowB at hj
    have h1 := of_decide_eq_true hj
    have h2 := run_all (F := fun i => px (leftL w vals g L) (y * w + x + (j + 1) * w + i)) (v := px (leftL w vals g L) (y * w + x)) (n := n) (i := i) (by rw [h1]; exact hi)
    rw [e] at h2
    rw [← h2]
    congr 1
    rw [Nat.add_mul]
    omega
  have hma : ∀ j, j < gd w (leftL w vals g L) x y n (h - y - 1) → ∀ i, i < n → px (leftL w vals g L) ((y + (j + 1)) * w + (x + i)) = v := fun j hj i hi => row_all j (stop_all (h - y - 1) 0 j (Nat.zero_le _) hj) i hi
  have hmn : gd w (leftL w vals g L) x y n (h - y - 1) < h - y - 1 → ∃ i, i < n ∧ px (leftL w vals g L) ((y + (gd w (leftL w vals g L) x y n (h - y - 1) + 1)) * w + (x + i)) ≠ v := fun hj => by
    have h0 := stop_not (P := rowB w (leftL w vals g L) x y n) (h - y - 1) 0 (by unfold gd at hj; omega)
    have h1 : rowB w (leftL w vals g L) x y n (gd w (leftL w vals g L) x y n (h - y - 1)) = false := h0
    generalize gd w (leftL w vals g L) x y n (h - y - 1) = m at *
    unfold rowB at h1
    have h2 := of_decide_eq_false h1
    have h3 := run_le (fun i => px (leftL w vals g L) (y * w + x + (m + 1) * w + i)) (px (leftL w vals g L) (y * w + x)) n
    have h4 := run_not (F := fun i => px (leftL w vals g L) (y * w + x + (m + 1) * w + i)) (v := px (leftL w vals g L) (y * w + x)) (n := n) (by omega)
    obtain ⟨i, hi⟩ : ∃ i, runN (fun i => px (leftL w vals g L) (y * w + x + (m + 1) * w + i)) (px (leftL w vals g L) (y * w + x)) n = i := ⟨_, rfl⟩
    rw [hi] at h2 h3 h4
    refine ⟨i, by omega, fun h5 => h4 ?_⟩
    rw [e]
    show px _ (y * w + x + (m + 1) * w + i) = v
    rw [show y * w + x + (m + 1) * w + i = (y + (m + 1)) * w + (x + i) by rw [Nat.add_mul y]; omega]
    exact h5
  generalize gd w (leftL w vals g L) x y n (h - y - 1) = m at *
  have HMN := Lib.hid hmn
  clear hmn
  have n1 : 1 ≤ n := by
    rcases Nat.eq_zero_or_pos n with h0 | h0
    · subst h0
      exact absurd e (hnn (by omega))
    · exact h0
  refine ⟨step_yes hpv hv (by rw [freeL_one]; exact hf) n1 (by omega) (fun i i1 i2 => ?_) ?_ (by omega) (by omega) (fun j j1 j2 => ?_) ?_, n1, by omega, by omega⟩
  · unfold goR
    rw [freeL_one, decide_eq_true (by omega), (left_free (by omega) (at_in _ _ (by omega) hy) hv).1 (hna i i2)]
    rfl
  · unfold goR
    by_cases h1 : x + n < w
    · have := mt (left_free (L := L) h1 (at_in _ _ h1 hy) hv).2 (hnn (by omega))
      have t : free1 w vals L v (x + n) y = false := by simpa using this
      rw [freeL_one, t]
      simp
    · rw [decide_eq_false h1]; rfl
  · unfold goD
    rw [decide_eq_true (by omega), Bool.true_and, freeL_iff]
    intro i hi
    refine (left_free (by omega) (at_in _ _ (by omega) (by omega)) hv).1 ?_
    have := hma (j - 1) (by omega) i hi
    rwa [show j - 1 + 1 = j by omega] at this
  · unfold goD
    by_cases h1 : y + (m + 1) < h
    · obtain ⟨i, hi, h2⟩ := HMN.out (by omega)
      have := mt (left_free (L := L) (by omega) (at_in _ _ (by omega) h1) hv).2 h2
      rw [freeL_not hi (by simpa using this)]
      simp
    · rw [decide_eq_false h1]; rfl
end Go.Proofs.Ytmjjbapahgejmaa.Rre
