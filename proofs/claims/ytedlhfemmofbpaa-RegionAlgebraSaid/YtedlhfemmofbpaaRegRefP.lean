/-
  Contracts of the reference of layer 15 (region): what is asked for; a number into a row; rows that grow by one.
-/
import Derived.Test.YtedlhfemmofbpaaRegRefH
namespace Go.Proofs.Ytedlhfemmofbpaa.Reg
open Go.ChangeShapes Go.WideShapes Go.ChangeAt Go.RowKit Lz RowG
set_option linter.unusedVariables false
set_option maxRecDepth 100000

theorem below_n {w a b : World} (h : Below w.heap.size w a) (k : Below a.heap.size a b) : Below w.heap.size w b := h.trans (k.mono h.size)
theorem refIn_any (op : Int) (a b : List Rc) (va vb : Value) (x y : Int) (w : World) (hla : a.length ≤ 1000000000) (hlb : b.length ≤ 1000000000) (ha : SeesR w va a) (hb : SeesR w vb b) :
    Calls Try.prog 26 #[.int .i64 op, va, vb, .int .i64 x, .int .i64 y] w fun e w' => e = .returned (.bool (fOp op (hasL a x y) (hasL b x y))) ∧ Below w.heap.size w w' := by
  have C1 := Lib.hid (refHas_any a va x y w hla ha)
  have C2 := Lib.hid (fun w' (k : Below w.heap.size w w') => refHas_any b vb x y w' hlb (hb.below k))
  have HF : RowKit.Hid (∀ p q, fOp op p q = if op = 0 then p || q else if op = 1 then p && !q else p && q) := Lib.hid (fun p q => by
    unfold fOp
    by_cases h : op = 0
    · rw [if_pos h, if_pos h]; rfl
    · rw [if_neg h, if_neg h]
      by_cases h1 : op = 1
      · rw [if_pos h1, if_pos h1]; rfl
      · rw [if_neg h1, if_neg h1]; rfl)
  obtain ⟨aa, ca, rfl, _, _⟩ := ha
  obtain ⟨ab, cb, rfl, _, _⟩ := hb
  generalize hasL a x y = p at *
  generalize hasL b x y = q at *
  have hR := Lib.hid (HF.out p q)
  generalize fOp op p q = R at *
  clear HF
  go_enter Try.func26, Try.ntmps26
  go_wp2_with fail
  refine C1.out.mono ?_
  rintro r w1 ⟨rfl, b1⟩
  go_wp2_with fail
  refine (C2.out _ b1).mono ?_
  rintro r w2 ⟨rfl, b2⟩
  have b := below_n b1 b2
  clear C1 C2 b1 b2
  by_cases h0 : op = 0
  · subst h0
    have hR' := hR.out
    rw [if_pos rfl] at hR'
    subst hR'
    cases p <;> cases q
    all_goals
      go_wp2_with fail
      go_ret
      exact ⟨rfl, b⟩
  · have d0 : (op == 0) = false := by simpa using h0
    by_cases h1 : op = 1
    · subst h1
      have hR' := hR.out
      rw [if_neg (by decide), if_pos rfl] at hR'
      subst hR'
      cases p <;> cases q
      all_goals
        go_wp2_with fail
        go_ret
        exact ⟨rfl, b⟩
    · have d1 : (op == 1) = false := by simpa using h1
      have hR' := hR.out
      rw [if_neg h0, if_neg h1] at hR'
      subst hR'
      clear h0 h1
      cases p <;> cases q
      all_goals
        go_wp2_with fail
        go_ret
        exact ⟨rfl, b⟩

/-- Where a number goes. -/
theorem put_le {l : List Int} {n x : Int} {r : List Int} (h : n ≤ x) : put (x :: r) n = if n < x then n :: x :: r else x :: r := by
  unfold put
  by_cases h1 : n < x
  · rw [if_pos h1, if_pos h1]
  · rw [if_neg h1, if_neg h1, if_pos (by omega)]
theorem put_gt {n x : Int} {r : List Int} (h : x < n) : put (x :: r) n = x :: put r n := by
  show (if n < x then _ else if n = x then _ else _) = _
  rw [if_neg (by omega), if_neg (by omega)]
/-- What is so on the way. -/
def PutI (l : List Int) (n : Int) (k : Nat) (dn : Bool) (out : List Int) : Prop := if dn then out ++ l.drop k = put l n else out = l.take k ∧ put l n = l.take k ++ put (l.drop k) n
theorem PutI.start (l : List Int) (n : Int) : PutI l n 0 false [] := ⟨rfl, rfl⟩
theorem PutI.past {l : List Int} {n : Int} {k : Nat} {out : List Int} {y : Int} (h : PutI l n k true out) (hy : l[k]? = some y) : PutI l n (k + 1) true (out ++ [y]) := by
  obtain ⟨hk, rfl⟩ := List.getElem?_eq_some_iff.1 hy
  unfold PutI at *
  rw [if_pos rfl] at *
  rw [← h, List.drop_eq_getElem_cons hk]
  simp
theorem PutI.on {l : List Int} {n : Int} {k : Nat} {out : List Int} {y : Int} (h : PutI l n k false out) (hy : l[k]? = some y) (hn : ¬ n ≤ y) : PutI l n (k + 1) false (out ++ [y]) := by
  obtain ⟨hk, rfl⟩ := List.getElem?_eq_some_iff.1 hy
  unfold PutI at *
  rw [if_neg (by decide)] at *
  obtain ⟨rfl, h2⟩ := h
  have e := List.take_succ_eq_append_getElem hk
  exact ⟨e.symm, by rw [h2, e, List.drop_eq_getElem_cons hk, put_gt (by omega), List.append_assoc]; rfl⟩
theorem PutI.new {l : List Int} {n : Int} {k : Nat} {out : List Int} {y : Int} (h : PutI l n k false out) (hy : l[k]? = some y) (hn : n < y) : PutI l n (k + 1) true (out ++ [n] ++ [y]) := by
  obtain ⟨hk, rfl⟩ := List.getElem?_eq_some_iff.1 hy
  unfold PutI at *
  rw [if_neg (by decide)] at h
  rw [if_pos rfl]
  obtain ⟨rfl, h2⟩ := h
  rw [h2, List.drop_eq_getElem_cons hk, put_le (l := l) (by omega), if_pos hn]
  simp
theorem PutI.old {l : List Int} {n : Int} {k : Nat} {out : List Int} {y : Int} (h : PutI l n k false out) (hy : l[k]? = some y) (hn : n = y) : PutI l n (k + 1) true (out ++ [y]) := by
  obtain ⟨hk, rfl⟩ := List.getElem?_eq_some_iff.1 hy
  unfold PutI at *
  rw [if_neg (by decide)] at h
  rw [if_pos rfl]
  obtain ⟨rfl, h2⟩ := h
  rw [h2, List.drop_eq_getElem_cons hk, put_le (l := l) (by omega), if_neg (by omega)]
  simp
theorem PutI.stop {l : List Int} {n : Int} {dn : Bool} {out : List Int} (h : PutI l n l.length dn out) : put l n = if dn then out else out ++ [n] := by
  unfold PutI at h
  cases dn with
  | true =>
    rw [if_pos rfl] at h ⊢
    simpa using h.symm
  | false =>
    rw [if_neg (by decide)] at h ⊢
    obtain ⟨rfl, h2⟩ := h
    rw [h2]
    simp [put]
theorem IntsAt.below {B : Nat} {w w' : World} {v : Value} {l : List Int} (h : IntsAt B w v l) (k : Below w.heap.size w w') : IntsAt B w' v l := RowAt.below h k
theorem IntsAt.cells {B : Nat} {w : World} {v : Value} {l : List Int} (h : IntsAt B w v l) : ∃ a cap, v = .slice a l.length cap ∧ (0 < l.length → ∃ g, a = some ⟨g, 0, none⟩ ∧ g < w.heap.size ∧ ∀ k y, l[k]? = some y → w.cell? ⟨g, k, none⟩ = some (.int .i64 y)) := by
  rcases h.1.2 with ⟨rfl, h0⟩ | ⟨g, cap, cur, rfl, _, hg, _⟩
  · exact ⟨none, 0, by rw [h0], fun h => by omega⟩
  · refine ⟨_, cap, rfl, fun _ => ⟨g, rfl, (Array.getElem?_eq_some_iff.1 hg).1, fun k y hk => ?_⟩⟩
    obtain ⟨hk', rfl⟩ := List.getElem?_eq_some_iff.1 hk
    rw [World.ownsRow.cellAt h.1 k (by omega), ints_get hk']
set_option maxHeartbeats 4000000 in
theorem refPut_any (l : List Int) (B0 : Nat) (v : Value) (x : Int) (w : World) (hl : l.length ≤ 100000000) (h : IntsAt B0 w v l) :
    Calls Try.prog 38 #[v, .int .i64 x] w fun e w' => ∃ u, e = .returned u ∧ IntsAt w.heap.size w' u (put l x) ∧ Below w.heap.size w w' := by
  obtain ⟨a, cap, rfl, hs⟩ := h.cells
  obtain ⟨n, hlen⟩ : ∃ n, l.length = n := ⟨_, rfl⟩
  have HR : RowKit.Hid (∀ k, k < n → ∃ y, l[k]? = some y) := Lib.hid (fun k hk => ⟨l[k]'(by omega), List.getElem?_eq_getElem (by omega)⟩)
  have HS := Lib.hid hs
  have HL := Lib.hid hlen
  rw [hlen] at hl ⊢
  clear hs hlen h
  have hB := Nat.le_refl w.heap.size
  go_enter Try.func38, Try.ntmps38
  go_wp2_with fail
  go_loopw [5, 6, 7] (fun vo d i wr => ∃ (k : Nat) (dn : Bool) (out : List Int), k ≤ n ∧ i = .int .i64 k ∧ d = .bool dn ∧ IntsAt w.heap.size wr vo out ∧ RowKit.Hid (PutI l x k dn out) ∧ Below w.heap.size w wr ∧ out.length ≤ 2 * k) (fun _ _ i _ => n - (intOf i).toNat)
  case atStart => exact ⟨0, false, [], Nat.zero_le _, rfl, rfl, RowAt.nil _ _ _ _, Lib.hid (PutI.start l x), Below.refl _ _, by simp⟩
  case round =>
    obtain ⟨k, dn, out, hk, rfl, rfl, ho, hI, hbr, hol⟩ := hrel
    have HO := Lib.hid ho
    have HB := Lib.hid hbr
    have HBs := hbr.size
    by_cases hlt : k < n
    · obtain ⟨g, rfl, hg, hc⟩ := HS.out (by rw [HL.out]; omega)
      obtain ⟨y, hy⟩ := HR.out k hlt
      have q : wr.cell? ⟨g, k, none⟩ = some (.int .i64 y) := (hbr.cell (p := ⟨g, k, none⟩) hg).trans (hc k y hy)
      have HY := Lib.hid hy
      clear ho hbr hc hy
      cases dn with
      | true =>
        have HN := Lib.hid (hI.out.past HY.out)
        go_wp2_with (at_builtin; refine wpl_int rfl _ _ rfl u5 w.heap.size out rfl HO.out HBs (by omega) y _ rfl ?_; intro v' w1 h1 b1; have hq := Lib.hid (And.intro h1 (HB.out.trans b1)); clear h1 b1)
        exact ⟨⟨k + 1, true, out ++ [y], by omega, by go_num, rfl, hq.out.1, HN, hq.out.2, by simp; omega⟩, by simp [intOf]; omega⟩
      | false =>
        by_cases h1 : x ≤ y
        · have d1 : decide (x ≤ y) = true := decide_eq_true h1
          by_cases h2 : x < y
          · have d2 : decide (x < y) = true := decide_eq_true h2
            have HN := Lib.hid (hI.out.new HY.out h2)
            clear h1 h2
            go_wp2_with (first
              | (at_builtin; refine wpl_int rfl _ _ rfl u5 w.heap.size out rfl HO.out HBs (by omega) x _ rfl ?_; intro v1 w1 h1 b1; have q1 : w1.cell? ⟨g, k, none⟩ = some (.int .i64 y) := (b1.cell (p := ⟨g, k, none⟩) hg).trans q; have H1 := Lib.hid h1; have HB1 := Lib.hid (HB.out.trans b1); have HBs1 := HB1.out.size; clear h1 b1)
              | (at_builtin; refine wpl_int rfl _ _ rfl v1 w.heap.size (out ++ [x]) rfl H1.out HBs1 (by simp; omega) y _ rfl ?_; intro v2 w2 h1 b1; have hq := Lib.hid (And.intro h1 (HB1.out.trans b1)); clear h1 b1))
            exact ⟨⟨k + 1, true, out ++ [x] ++ [y], by omega, by go_num, rfl, hq.out.1, HN, hq.out.2, by simp; omega⟩, by simp [intOf]; omega⟩
          · have d2 : decide (x < y) = false := decide_eq_false h2
            have HN := Lib.hid (hI.out.old HY.out (by omega))
            clear h1 h2
            go_wp2_with (at_builtin; refine wpl_int rfl _ _ rfl u5 w.heap.size out rfl HO.out HBs (by omega) y _ rfl ?_; intro v' w1 h1 b1; have hq := Lib.hid (And.intro h1 (HB.out.trans b1)); clear h1 b1)
            exact ⟨⟨k + 1, true, out ++ [y], by omega, by go_num, rfl, hq.out.1, HN, hq.out.2, by simp; omega⟩, by simp [intOf]; omega⟩
        · have d1 : decide (x ≤ y) = false := decide_eq_false h1
          have HN := Lib.hid (hI.out.on HY.out h1)
          clear h1
          go_wp2_with (at_builtin; refine wpl_int rfl _ _ rfl u5 w.heap.size out rfl HO.out HBs (by omega) y _ rfl ?_; intro v' w1 h1 b1; have hq := Lib.hid (And.intro h1 (HB.out.trans b1)); clear h1 b1)
          exact ⟨⟨k + 1, false, out ++ [y], by omega, by go_num, rfl, hq.out.1, HN, hq.out.2, by simp; omega⟩, by simp [intOf]; omega⟩
    · obtain rfl : k = n := by omega
      have hst : RowKit.Hid (put l x = if dn then out else out ++ [x]) := Lib.hid (PutI.stop (by rw [HL.out]; exact hI.out))
      clear ho hbr hI
      cases dn with
      | true =>
        go_wp2_with fail
        go_ret
        exact ⟨_, rfl, by rw [hst.out]; exact HO.out, HB.out⟩
      | false =>
        go_wp2_with (at_builtin; refine wpl_int rfl _ _ rfl u5 w.heap.size out rfl HO.out HBs (by omega) x _ rfl ?_; intro v' w1 h1 b1; have hq := Lib.hid (And.intro h1 (HB.out.trans b1)); clear h1 b1)
        go_ret
        exact ⟨_, rfl, by rw [hst.out]; exact hq.out.1, hq.out.2⟩
end Go.Proofs.Ytedlhfemmofbpaa.Reg
