/-
  The program's sets of borders and rows in memory: a row behind a border, whether two rows are the same, one more border.
-/
import Derived.Test.YtedlhfemmofbpaaRegPrgE
namespace Go.Proofs.Ytedlhfemmofbpaa.Reg
open Go.ChangeShapes Go.WideShapes Go.ChangeAt Go.RowKit Go.Shelf Lz RowG RegVal OwnL
set_option linter.unusedVariables false
set_option maxRecDepth 100000

/-- 'append' of one cell that was just built. -/
theorem wpl_app1 {w0 : World} {ops : Array Oper} {rest : List Oper} {o : Oper} {a : Act} {Q : Exit → Act → World → Prop} (hgd : o.guard = none) (s x : Operand) (t e : TypeId) (z : Value) (bytes : Nat)
    (ht : Try.prog.underlying t = some (.slice e)) (hinfo : (Try.prog.info? e).map (fun i => (i.zero, i.size, i.bytes)) = some (some z, 1, bytes)) (hz : z.cells.size = 1) (hby : bytes ≤ 64)
    (ho : o.op = .call { callee := .builtin .append, args := #[s, x], argTypes := #[t, t] })
    (v : Value) (B n : Nat) (xs : List Value) (hs : a.eval s = v) (hown : RowAt e 1 B w0 v n xs) (hB : B ≤ w0.heap.size) (hl : n ≤ 1000000000) (y : Value) (hy : y.oneCell' = true) (T : TypeId) (hx : a.eval x = .slice (some ⟨w0.heap.size, 0, none⟩) 1 1)
    (h : ∀ v' w', RowAt e 1 B w' v' (n + 1) (xs ++ [y]) → Touch (fun k => v.ownBlock = some k) w0 w' → (∀ k, v'.ownBlock = some k → v.ownBlock = some k ∨ w0.heap.size ≤ k) → wpList Try.prog ops Q rest (a.put o.dst v') w') : wpList Try.prog ops Q (o :: rest) a (w0.alloc (.cells #[y] T)) := by
  obtain ⟨i0, hi, hz0, hz1, hz2⟩ := info_parts hinfo
  have hsee := sees_new w0 1 #[y] T 1 rfl (by intro u hu; simp at hu; subst hu; exact hy)
  rcases hsee.2.2 with ⟨h1, _⟩ | ⟨g, off, cap, h1, _, hc⟩
  · simp at h1
  · simp only [Value.slice.injEq, Option.some.injEq, Addr.mk.injEq, and_true, true_and] at h1
    obtain ⟨⟨rfl, rfl⟩, rfl⟩ := h1
    refine wpList_append_near _ hgd s x t ho e i0 z 1 bytes ht hi hz0 hz1 hz2 hz (by decide) v n xs hs (hown.alloc _).1 ⟨w0.heap.size, 0, none⟩ 1 1 [y] hx rfl (fun j u hj => by rw [Go.WideShapes.add_plain]; exact hc j u hj) (by intro u hu; simp at hu; subst hu; exact hy) (by unfold maxLen; omega) ?_ ?_
    · calc (n + 1) * bytes ≤ (n + 1) * 64 := Nat.mul_le_mul_left _ hby
        _ ≤ 140737488355328 := by omega
    intro v' w' h2 h3 h4
    have hnear : ∀ k, v'.ownBlock = some k → v.ownBlock = some k ∨ w0.heap.size ≤ k := fun k hk => by
      rcases h4 k hk with h5 | h5
      · exact .inl h5
      · have : (w0.alloc (.cells #[y] T)).heap.size = w0.heap.size + 1 := alloc_size _ _
        right; omega
    refine h v' w' ⟨h2, fun k hk => ?_, fun u hu => ?_⟩ ((Touch.of_below ((Below.refl w0.heap.size w0).alloc (Nat.le_refl _) _)).trans (Touch.grown h3 (fun k e => e))) hnear
    · rcases hnear k hk with h5 | h5
      · exact hown.2.1 k h5
      · omega
    · rcases List.mem_append.1 hu with h6 | h6
      · exact hown.2.2 u h6
      · simp at h6; subst h6; exact hy
theorem info_row : (Try.prog.info? 38).map (fun i => (i.zero, i.size, i.bytes)) = some (some (.slice none 0 0), 1, 24) := by kernel_rfl
/-- Where a slice's row lies. -/
def Off (v : Value) (F : Nat → Prop) : Prop := ∀ k, v.ownBlock = some k → ¬ F k
theorem IR.touch {w w' : World} {v : Value} {l : List Int} {F : Nat → Prop} (h : IR w v l) (t : Touch F w w') (hF : Off v F) : IR w' v l := by
  obtain ⟨⟨a, cap, e, hn, hc⟩, hr⟩ := h
  refine ⟨⟨a, cap, e, hn, fun h0 => ?_⟩, hr⟩
  obtain ⟨g, off, rfl, hg, hcc⟩ := hc h0
  refine ⟨g, off, rfl, Nat.lt_of_lt_of_le hg t.size, fun i hi => sameBlock (t.block g hg (hF g (by rw [e]; simp [Value.ownBlock]))) (hcc i hi)⟩
/-- Rows of numbers that are read. -/
def RR (w : World) (v : Value) (R : List (List Int)) : Prop := ∃ xs : List Value, Sees w 1 v R.length xs ∧ ∀ i, (h : i < R.length) → ∃ u, xs[i]? = some u ∧ IR w u R[i]
theorem RR.below {w w' : World} {v : Value} {R : List (List Int)} (h : RR w v R) (k : Below w.heap.size w w') : RR w' v R := by
  obtain ⟨xs, h1, h2⟩ := h
  refine ⟨xs, Sees.below h1 k (Nat.le_refl _), fun i hi => ?_⟩
  obtain ⟨u, h3, h4⟩ := h2 i hi
  exact ⟨u, h3, h4.below k⟩
/-- A set that is read. -/
def SeesB (w : World) (v : Value) (V : Bnd) : Prop := ∃ s1 s2, v = .agg #[s1, s2] ∧ IR w s1 (V.map (·.1)) ∧ RR w s2 (V.map (·.2))
theorem SeesB.below {w w' : World} {v : Value} {V : Bnd} (h : SeesB w v V) (k : Below w.heap.size w w') : SeesB w' v V := by
  obtain ⟨s1, s2, h1, h2, h3⟩ := h
  exact ⟨s1, s2, h1, h2.below k, h3.below k⟩
theorem rowOf_zero (V : Bnd) : rowOf V 0 = [] := rfl
theorem rowOf_succ {V : Bnd} {k : Nat} (h : k < V.length) : rowOf V (k + 1) = V[k].2 := by
  unfold rowOf
  rw [List.take_succ_eq_append_getElem h, lastV_snoc]
theorem IR.form {w : World} {v : Value} {l : List Int} (h : IR w v l) : ∃ a cap, v = .slice a l.length cap := by
  obtain ⟨a, cap, e, _⟩ := h.sw
  exact ⟨a, cap, e⟩
set_option maxHeartbeats 1000000 in
theorem row_any (w : World) (Bx : Nat) (V : Bnd) (s2 : Value) (n : Nat) (hn : n ≤ V.length) (hV : V.length ≤ 1000000) (hb : w.cell? ⟨Bx, 1, none⟩ = some s2) (hr : RR w s2 (V.map (·.2))) :
    Calls Try.prog 50 #[.pointer (some ⟨Bx, 0, none⟩), .int .i64 (n : Int)] w fun e w' => (∃ u, e = .returned u ∧ IR w u (rowOf V n)) ∧ w = w' := by
  cases n with
  | zero =>
    have HQ : RowKit.Hid (IR w (.slice none 0 0) (rowOf V 0)) := Lib.hid (IR.nil w)
    clear hr hn hb
    rw [show ((0 : Nat) : Int) = 0 from rfl]
    go_enter Try.func50, Try.ntmps50
    go_wp2_with fail
    go_ret
    exact ⟨⟨_, rfl, HQ.out⟩, rfl⟩
  | succ k =>
    obtain ⟨xs, h1, h2⟩ := hr
    have hk : k < (V.map (·.2)).length := by rw [List.length_map]; omega
    obtain ⟨u, hu, hi⟩ := h2 k hk
    rw [List.getElem_map, ← rowOf_succ (by omega)] at hi
    have HQ := Lib.hid hi
    obtain ⟨pu, cu, hpu⟩ := hi.form
    rcases h1.2.2 with ⟨_, h0⟩ | ⟨g, off, cap, rfl, hg, hc⟩
    · omega
    have c0 := hc k u hu
    rw [List.length_map] at *
    generalize V.length = m at *
    have e1 : ((k + 1 : Nat) : Int) = (k : Int) + 1 := by omega
    rw [e1]
    have d1 : decide ((k : Int) + 1 = 0) = false := decide_eq_false (by omega)
    have d2 : ((k : Int) + 1 == 0) = false := by simp; omega
    have f1 : IntKind.i64.wrap ((k : Int) + 1 - 1) = (k : Int) := (IntWalk.i64_in _ (by omega)).trans (by omega)
    have f2 : wrap64 ((k : Int) + 1 - 1) = (k : Int) := (IntWalk.wrap64_in _ (by omega)).trans (by omega)
    subst hpu
    clear h1 h2 hi hc hu hg e1
    go_enter Try.func50, Try.ntmps50
    go_wp2_with fail
    go_ret
    exact ⟨⟨_, rfl, HQ.out⟩, rfl⟩
theorem row_same {a b : List Int} {k : Nat} (hl : a.length = b.length) (h : ∀ i, i < k → px a i = px b i) (hk : k = a.length) : a = b := by
  subst hk
  apply List.ext_getElem hl
  intro i h1 h2
  have := h i h1
  rwa [px_get h1, px_get h2] at this
set_option maxHeartbeats 2000000 in
theorem equal_any (a b : List Int) (va vb : Value) (w : World) (hla : a.length ≤ 1000000) (hlb : b.length ≤ 1000000) (ha : SW w va a) (hb : SW w vb b) :
    Calls Try.prog 51 #[va, vb] w fun e w' => e = .returned (.bool (decide (a = b))) ∧ ∃ q, w' = w.drewN q := by
  obtain ⟨pa, na, ca, rfl, hna, hca⟩ := ha.read
  obtain ⟨pb, nb, cb, rfl, hnb, hcb⟩ := hb.read
  have hca := fun q => hca (w.drewN q) (below_q (Below.refl _ _) q)
  have hcb := fun q => hcb (w.drewN q) (below_q (Below.refl _ _) q)
  by_cases hne : na = nb
  case neg =>
    have d1 : decide (na = nb) = false := decide_eq_false hne
    have d2 : ((na : Int) == (nb : Int)) = false := by simp; omega
    have d3 : ((na : Int) != (nb : Int)) = true := by simp; omega
    have HR : RowKit.Hid (decide (a = b) = false) := Lib.hid (decide_eq_false (fun e => hne (by rw [← hna, ← hnb, e])))
    generalize decide (a = b) = R at *
    clear hca hcb ha hb hla hlb hna hnb hne
    go_enter Try.func51, Try.ntmps51
    go_wp2_with fail
    go_ret
    exact ⟨retB HR.out.symm, 0, rfl⟩
  subst hne
  have HN := Lib.hid (And.intro hna hnb)
  have hn2 : na ≤ 1000000 := by omega
  obtain ⟨R, hR⟩ : ∃ R, decide (a = b) = R := ⟨_, rfl⟩
  rw [hR]
  have HR := Lib.hid hR
  have HA := Lib.hid hca
  have HB := Lib.hid hcb
  clear hR hca hcb ha hb hla hlb hna hnb
  go_enter Try.func51, Try.ntmps51
  go_wp2_with fail
  go_loopw [13] (fun p wr => ∃ k q : Nat, p = .int .i64 k ∧ wr = w.drewN q ∧ k ≤ na ∧ ∀ i, i < k → px a i = px b i) (fun p _ => na - (intOf p).toNat)
  case atStart => exact ⟨0, 0, rfl, rfl, Nat.zero_le _, fun i hi => absurd hi (by omega)⟩
  case round =>
    obtain ⟨k, q, rfl, rfl, hk, hsame⟩ := hrel
    have HS := Lib.hid hsame
    clear hsame
    by_cases hlt : k < na
    · obtain ⟨g, off, rfl, hc1⟩ := HA.out q (by omega)
      obtain ⟨g2, off2, rfl, hc2⟩ := HB.out q (by omega)
      have c1 := hc1 k hlt
      have c2 := hc2 k hlt
      have dl : decide ((k : Int) < na) = true := decide_eq_true (by omega)
      have dl2 : decide (k < na) = true := decide_eq_true hlt
      obtain ⟨x, hx⟩ : ∃ x, px a k = x := ⟨_, rfl⟩
      obtain ⟨y, hy⟩ : ∃ y, px b k = y := ⟨_, rfl⟩
      rw [hx] at c1
      rw [hy] at c2
      clear hc1 hc2
      generalize hwq : w.drewN q = wq at *
      by_cases he : x = y
      · have hb : (x == y) = true := by simpa using he
        have hb2 : (x != y) = false := by simpa using he
        have HX : RowKit.Hid (∀ i, i < k + 1 → px a i = px b i) := Lib.hid (fun i hi => by
          rcases Nat.lt_or_ge i k with h | h
          · exact HS.out i h
          · rw [show i = k by omega, hx, hy, he])
        clear he hx hy
        go_wp2_with fail
        go_quiet (fail)
        go_wp2_with fail
        go_roundw
        case rel => exact ⟨k + 1, q + nq, by go_num, by rw [← hwq, World.drewN_drewN], by omega, HX.out⟩
        case measure => simp [intOf]; omega
      · have hb : (x == y) = false := by simpa using he
        have hb2 : (x != y) = true := by simpa using he
        have HF : RowKit.Hid (R = false) := Lib.hid (HR.out.symm.trans (decide_eq_false (fun e => he (by rw [← hx, ← hy, e]))))
        clear he hx hy
        go_wp2_with fail
        go_quiet (fail)
        go_wp2_with fail
        go_ret
        exact ⟨retB HF.out.symm, q + nq, by rw [← hwq, World.drewN_drewN]⟩
    · obtain rfl : k = na := by omega
      have dl : decide ((k : Int) < k) = false := decide_eq_false (by omega)
      have dl2 : decide (k < k) = false := decide_eq_false (by omega)
      have HF : RowKit.Hid (R = true) := Lib.hid (HR.out.symm.trans (decide_eq_true (row_same (HN.out.1.trans HN.out.2.symm) HS.out HN.out.1.symm)))
      clear hlt hk
      go_wp2_with fail
      go_ret
      exact ⟨retB HF.out.symm, q, rfl⟩
end Go.Proofs.Ytedlhfemmofbpaa.Reg
