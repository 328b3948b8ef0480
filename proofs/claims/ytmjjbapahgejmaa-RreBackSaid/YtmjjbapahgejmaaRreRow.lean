/-
  Rows of pieces; the reference of layer 17 (rre): is a place in a piece, is a row's piece free?
-/
import Derived.Test.YtmjjbapahgejmaaRreMath
import Derived.Lib.SmallJoins
import Derived.Deep.RegionWith
namespace Go.Proofs.Ytmjjbapahgejmaa.Rre
open Go.ChangeShapes Go.WideShapes Go.ChangeAt Go.RowKit Lz RowG RegVal Pln
set_option linter.unusedVariables false
set_option maxRecDepth 100000

/-- The pieces' cells. -/
def PcAt (w : World) (b o : Nat) (p : Pc) : Prop :=
  w.cell? ⟨b, o, none⟩ = some (.int .i64 p.v) ∧ w.cell? ⟨b, o + 1, none⟩ = some (.int .i64 p.x) ∧ w.cell? ⟨b, o + 2, none⟩ = some (.int .i64 p.y) ∧ w.cell? ⟨b, o + 3, none⟩ = some (.int .i64 p.n) ∧ w.cell? ⟨b, o + 4, none⟩ = some (.int .i64 p.m)
def cellsP : List Pc → List Value
  | [] => []
  | p :: l => .int .i64 p.v :: .int .i64 p.x :: .int .i64 p.y :: .int .i64 p.n :: .int .i64 p.m :: cellsP l
theorem cellsP_length (l : List Pc) : (cellsP l).length = l.length * 5 := by
  induction l with
  | nil => rfl
  | cons t l ih => simp [cellsP, ih]; omega
theorem cellsP_append (l m : List Pc) : cellsP (l ++ m) = cellsP l ++ cellsP m := by
  induction l with
  | nil => rfl
  | cons t l ih => simp [cellsP, ih]
theorem cellsP_one (l : List Pc) : ∀ u ∈ cellsP l, u.oneCell' = true := by
  induction l with
  | nil => intro u hu; simp [cellsP] at hu
  | cons t l ih =>
    intro u hu
    simp only [cellsP, List.mem_cons] at hu
    rcases hu with rfl | rfl | rfl | rfl | rfl | h
    · rfl
    · rfl
    · rfl
    · rfl
    · rfl
    · exact ih u h
theorem cellsP_get (l : List Pc) : ∀ i (h : i < l.length), (cellsP l)[i * 5]? = some (.int .i64 l[i].v) ∧ (cellsP l)[i * 5 + 1]? = some (.int .i64 l[i].x) ∧ (cellsP l)[i * 5 + 2]? = some (.int .i64 l[i].y) ∧ (cellsP l)[i * 5 + 3]? = some (.int .i64 l[i].n) ∧ (cellsP l)[i * 5 + 4]? = some (.int .i64 l[i].m) := by
  induction l with
  | nil => intro i h; simp at h
  | cons t l ih =>
    intro i h
    cases i with
    | zero => exact ⟨rfl, rfl, rfl, rfl, rfl⟩
    | succ i =>
      have := ih i (by simpa using h)
      rw [show (i + 1) * 5 = i * 5 + 5 by omega]
      simpa [cellsP] using this
/-- A row of pieces that is owned, and one that is read. -/
def PcsAt (T : TypeId) (B : Nat) (w : World) (v : Value) (l : List Pc) : Prop := RowAt T 5 B w v l.length (cellsP l)
def SP (w : World) (v : Value) (l : List Pc) : Prop := Sees w 5 v l.length (cellsP l)
theorem PcsAt.sp {T : TypeId} {B : Nat} {w : World} {v : Value} {l : List Pc} (h : PcsAt T B w v l) : SP w v l := RowAt.sees h
theorem SP.below {w w' : World} {v : Value} {l : List Pc} (h : SP w v l) (k : Below w.heap.size w w') : SP w' v l := Sees.below h k (Nat.le_refl _)
theorem SP.nil (w : World) : SP w (.slice none 0 0) [] := ⟨rfl, fun u hu => by simp [cellsP] at hu, .inl ⟨rfl, rfl⟩⟩
theorem SP.cells {w : World} {v : Value} {l : List Pc} (h : SP w v l) : ∃ a cap, v = .slice a l.length cap ∧ (0 < l.length → ∃ g off, a = some ⟨g, off, none⟩ ∧ g < w.heap.size ∧ ∀ i (hi : i < l.length), PcAt w g (off + i * 5) l[i]) := by
  rcases h.2.2 with ⟨rfl, h0⟩ | ⟨g, off, cap, rfl, hg, hc⟩
  · exact ⟨none, 0, by rw [h0], fun h => by omega⟩
  · refine ⟨_, cap, rfl, fun _ => ⟨g, off, rfl, hg, fun i hi => ?_⟩⟩
    obtain ⟨g0, g1, g2, g3, g4⟩ := cellsP_get l i hi
    exact ⟨hc _ _ g0, by rw [Nat.add_assoc]; exact hc _ _ g1, by rw [Nat.add_assoc]; exact hc _ _ g2, by rw [Nat.add_assoc]; exact hc _ _ g3, by rw [Nat.add_assoc]; exact hc _ _ g4⟩
theorem PcAt.below {w w' : World} {b o n : Nat} {p : Pc} (h : PcAt w b o p) (k : Below n w w') (hb : b < n) : PcAt w' b o p :=
  ⟨(k.cell (by exact hb)).trans h.1, (k.cell (by exact hb)).trans h.2.1, (k.cell (by exact hb)).trans h.2.2.1, (k.cell (by exact hb)).trans h.2.2.2.1, (k.cell (by exact hb)).trans h.2.2.2.2⟩
/-- Whatever is made behind it, a row that is read stands. -/
theorem SP.read {w : World} {v : Value} {l : List Pc} (h : SP w v l) : ∃ a n cap, v = .slice a n cap ∧ l.length = n ∧ ∀ W', Below w.heap.size w W' → 0 < n → ∃ g off, a = some ⟨g, off, none⟩ ∧ ∀ i p, l[i]? = some p → PcAt W' g (off + i * 5) p := by
  obtain ⟨a, cap, rfl, hc⟩ := h.cells
  refine ⟨a, l.length, cap, rfl, rfl, fun W' k h0 => ?_⟩
  obtain ⟨g, off, rfl, hg, hc⟩ := hc h0
  refine ⟨g, off, rfl, fun i p hi => ?_⟩
  obtain ⟨hl, rfl⟩ := List.getElem?_eq_some_iff.1 hi
  exact (hc i hl).below k hg
theorem hasL_take {l : List Pc} {k : Nat} (hk : k < l.length) (x y : Nat) : hasL (l.take (k + 1)) x y = (hasL (l.take k) x y || l[k].has x y) := by
  rw [List.take_succ_eq_append_getElem hk, hasL_append]
  simp [hasL]
theorem hasL_of_take {l : List Pc} {k x y : Nat} (h : hasL (l.take k) x y = true) : hasL l x y = true := by
  obtain ⟨p, hp, hc⟩ := hasL_iff.1 h
  exact hasL_iff.2 ⟨p, List.mem_of_mem_take hp, hc⟩
theorem freeL_more {w : Nat} {vals : List Int} {l : List Pc} {v : Int} {x y k : Nat} (h : freeL w vals l v x y k = true) (h1 : free1 w vals l v (x + k) y = true) : freeL w vals l v x y (k + 1) = true := by
  rw [freeL_iff] at *
  intro i hi
  rcases Nat.lt_or_ge i k with h2 | h2
  · exact h i h2
  · rw [show i = k by omega]; exact h1
theorem freeL_not {w : Nat} {vals : List Int} {l : List Pc} {v : Int} {x y k n : Nat} (hk : k < n) (h1 : free1 w vals l v (x + k) y = false) : freeL w vals l v x y n = false := by
  cases hb : freeL w vals l v x y n with
  | false => rfl
  | true => rw [freeL_iff.1 hb k hk] at h1; exact absurd h1 (by decide)
/-- The reference's In, and at a piece. -/
def inQ (rx ry rw rh x y : Int) : Bool := decide (rx ≤ x ∧ x < rx + rw ∧ ry ≤ y ∧ y < ry + rh)
set_option maxHeartbeats 4000000 in
theorem refInQ_any (rx ry rw rh x y : Int) (hx : -9223372036854775808 ≤ rx + rw ∧ rx + rw ≤ 9223372036854775807) (hy : -9223372036854775808 ≤ ry + rh ∧ ry + rh ≤ 9223372036854775807) (W0 : World) :
    Calls Try.prog 53 #[.agg #[.int .i64 rx, .int .i64 ry, .int .i64 rw, .int .i64 rh], .int .i64 x, .int .i64 y] W0 fun e w' => e = .returned (.bool (inQ rx ry rw rh x y)) ∧ Below W0.heap.size W0 w' := by
  have AT := (box1 W0 #[.int .i64 rx, .int .i64 ry, .int .i64 rw, .int .i64 rh] 29).2
  have c0 : (W0.alloc (.cells #[.int .i64 rx, .int .i64 ry, .int .i64 rw, .int .i64 rh] 29)).cell? ⟨W0.heap.size, 0, none⟩ = some (.int .i64 rx) := AT 0 _ rfl
  have c1 : (W0.alloc (.cells #[.int .i64 rx, .int .i64 ry, .int .i64 rw, .int .i64 rh] 29)).cell? ⟨W0.heap.size, 1, none⟩ = some (.int .i64 ry) := AT 1 _ rfl
  have c2 : (W0.alloc (.cells #[.int .i64 rx, .int .i64 ry, .int .i64 rw, .int .i64 rh] 29)).cell? ⟨W0.heap.size, 2, none⟩ = some (.int .i64 rw) := AT 2 _ rfl
  have c3 : (W0.alloc (.cells #[.int .i64 rx, .int .i64 ry, .int .i64 rw, .int .i64 rh] 29)).cell? ⟨W0.heap.size, 3, none⟩ = some (.int .i64 rh) := AT 3 _ rfl
  have bel := (Below.refl W0.heap.size W0).alloc (Nat.le_refl _) (.cells #[.int .i64 rx, .int .i64 ry, .int .i64 rw, .int .i64 rh] 29)
  clear AT
  have HB := Lib.hid bel
  have HD : RowKit.Hid (inQ rx ry rw rh x y = decide (rx ≤ x ∧ x < rx + rw ∧ ry ≤ y ∧ y < ry + rh)) := Lib.hid rfl
  generalize inQ rx ry rw rh x y = RES at *
  clear bel
  by_cases h0 : rx ≤ x
  case neg =>
    have d0 : decide (rx ≤ x) = false := decide_eq_false h0
    have hres : RES = false := HD.out.trans (decide_eq_false (fun h => h0 (by omega)))
    subst hres
    clear HD
    clear h0
    go_enter Try.func53, Try.ntmps53
    go_wp2_with fail
    go_ret
    exact ⟨rfl, HB.out⟩
  have d0 : decide (rx ≤ x) = true := decide_eq_true h0
  have w1 : IntKind.i64.wrap (rx + rw) = rx + rw := IntWalk.i64_in _ hx
  have w2 : wrap64 (rx + rw) = rx + rw := IntWalk.wrap64_in _ hx
  by_cases h1 : x < rx + rw
  case neg =>
    have d1 : decide (x < rx + rw) = false := decide_eq_false h1
    have hres : RES = false := HD.out.trans (decide_eq_false (fun h => h1 (by omega)))
    subst hres
    clear HD
    clear h0
    clear h1
    go_enter Try.func53, Try.ntmps53
    go_wp2_with fail
    go_ret
    exact ⟨rfl, HB.out⟩
  have d1 : decide (x < rx + rw) = true := decide_eq_true h1
  by_cases h2 : ry ≤ y
  case neg =>
    have d2 : decide (ry ≤ y) = false := decide_eq_false h2
    have hres : RES = false := HD.out.trans (decide_eq_false (fun h => h2 (by omega)))
    subst hres
    clear HD
    clear h0
    clear h1
    clear h2
    go_enter Try.func53, Try.ntmps53
    go_wp2_with fail
    go_ret
    exact ⟨rfl, HB.out⟩
  have d2 : decide (ry ≤ y) = true := decide_eq_true h2
  have w3 : IntKind.i64.wrap (ry + rh) = ry + rh := IntWalk.i64_in _ hy
  have w4 : wrap64 (ry + rh) = ry + rh := IntWalk.wrap64_in _ hy
  by_cases h3 : y < ry + rh
  case neg =>
    have d3 : decide (y < ry + rh) = false := decide_eq_false h3
    have hres : RES = false := HD.out.trans (decide_eq_false (fun h => h3 (by omega)))
    subst hres
    clear HD
    clear h0
    clear h1
    clear h2
    clear h3
    go_enter Try.func53, Try.ntmps53
    go_wp2_with fail
    go_ret
    exact ⟨rfl, HB.out⟩
  have d3 : decide (y < ry + rh) = true := decide_eq_true h3
  have hres : RES = true := HD.out.trans (decide_eq_true ⟨h0, h1, h2, h3⟩)
  subst hres
  clear HD h0 h1 h2 h3
  go_enter Try.func53, Try.ntmps53
  go_wp2_with fail
  go_ret
  exact ⟨rfl, HB.out⟩
theorem refIn_any (p : Pc) (i j : Nat) (hb : p.x + p.n ≤ 100000 ∧ p.y + p.m ≤ 100000) (W0 : World) :
    Calls Try.prog 53 #[.agg #[.int .i64 p.x, .int .i64 p.y, .int .i64 p.n, .int .i64 p.m], .int .i64 i, .int .i64 j] W0 fun e w' => e = .returned (.bool (p.has i j)) ∧ Below W0.heap.size W0 w' := by
  have e : p.has i j = inQ p.x p.y p.n p.m i j := by
    unfold Pc.has inQ
    rw [decide_eq_decide]
    omega
  rw [e]
  exact refInQ_any _ _ _ _ _ _ (by omega) (by omega) W0
end Go.Proofs.Ytmjjbapahgejmaa.Rre
