/-
  Contracts of the reference of layer 15 (region): what is combined.
-/
import Derived.Test.YtedlhfemmofbpaaRegRefS
import Derived.Test.YtedlhfemmofbpaaRegComb
namespace Go.Proofs.Ytedlhfemmofbpaa.Reg
open Go.ChangeShapes Go.WideShapes Go.ChangeAt Go.RowKit Lz RowG RegVal
set_option linter.unusedVariables false
set_option maxRecDepth 100000

theorem nth_get {l : List Int} {k : Nat} (h : k < l.length) : l[k]? = some (nth l k) := by
  unfold nth
  rw [List.getD_eq_getElem?_getD, List.getElem?_eq_getElem h]
  rfl
theorem RectsAt.below {B : Nat} {w w' : World} {v : Value} {l : List Rc} (h : RectsAt B w v l) (k : Below w.heap.size w w') : RectsAt B w' v l := RowAt.below h k
/-- What is so ahead of row i. -/
structure CoI (B : Nat) (w4 : World) (ys : List Int) (G : Int → Option Row) (M : Nat) (vo vl : Value) (wr : World) (i : Nat) (out last : List Rc) : Prop where
  hi : i = 0 ∨ i + 1 ≤ ys.length
  ho : RectsAt B wr vo out
  hl : RectsAt B wr vl last
  ap : ∀ k, vo.ownBlock = some k → vl.ownBlock ≠ some k
  st : OutI ys G i out last
  bel : Below B w4 wr
  no : out.length ≤ i * M
  nl : last.length ≤ M
/-- What the operations of the test leave. -/
def c14 (op : Int) (va vb xs px ys py : Value) (k x i y : Int) (p : Bool) : Nat → Value
  | 0 => .int .i64 op
  | 1 => va
  | 2 => vb
  | 3 => xs
  | 4 => .int .i64 k
  | 5 => px
  | 6 => .int .i64 x
  | 7 => ys
  | 8 => .int .i64 i
  | 9 => py
  | 10 => .int .i64 y
  | 11 => .bool p
  | 12 => .bool (!p)
  | _ => undef
/-- Region 18: a rectangle is built and appended. -/
def c18V (vb xs ys px px1 py py1 sl : Value) (k k1 i i1 X0 X1 Y0 Y1 a c : Int) : Nat → Option Value
  | 0 => some vb
  | 1 => some xs
  | 2 => some (.int .i64 k)
  | 3 => some px
  | 4 => some (.int .i64 X0)
  | 5 => some ys
  | 6 => some (.int .i64 i)
  | 7 => some py
  | 8 => some (.int .i64 Y0)
  | 9 => some xs
  | 10 => some (.int .i64 k)
  | 11 => some (.int .i64 k1)
  | 12 => some px1
  | 13 => some (.int .i64 X1)
  | 14 => some xs
  | 15 => some (.int .i64 k)
  | 16 => some px
  | 17 => some (.int .i64 X0)
  | 18 => some (.int .i64 a)
  | 19 => some ys
  | 20 => some (.int .i64 i)
  | 21 => some (.int .i64 i1)
  | 22 => some py1
  | 23 => some (.int .i64 Y1)
  | 24 => some ys
  | 25 => some (.int .i64 i)
  | 26 => some py
  | 27 => some (.int .i64 Y0)
  | 28 => some (.int .i64 c)
  | 29 => some (.agg #[.int .i64 X0, .int .i64 Y0, .int .i64 a, .int .i64 c])
  | 30 => some sl
  | _ => none
def c18R (B : Nat) (R1 : List Rc) (i : Nat) (v : Value) (w : World) : Prop := if i = 31 ∨ i = 32 then RectsAt B w v R1 else True
theorem c18R_no {B : Nat} {R1 : List Rc} {ℓ : Nat → Bool} {j : Nat} {u : Value} {w : World} (h1 : ℓ 31 = false) (h2 : ℓ 32 = false) (hj : ℓ j = true) : c18R B R1 j u w := by
  unfold c18R
  rw [if_neg]
  · trivial
  · rintro (rfl | rfl)
    · rw [h1] at hj; cases hj
    · rw [h2] at hj; cases hj
def c18S (B : Nat) (Wd Wa : World) (ℓ : Nat → Bool) (W : World) : Prop :=
  Below B Wd W ∧ (ℓ 30 = false → W = Wd ∧ ℓ 31 = false ∧ ℓ 32 = false) ∧ (ℓ 30 = true → ℓ 31 = false → W = Wa ∧ ℓ 32 = false)
theorem c18S_keep {B : Nat} {Wd Wa W : World} {ℓ : Nat → Bool} {i : Nat} (h1 : i ≠ 30) (h2 : i ≠ 31) (h3 : i ≠ 32) (h : c18S B Wd Wa ℓ W) : c18S B Wd Wa (fun j => if j = i then true else ℓ j) W := by
  unfold c18S at h ⊢
  simp only [if_neg (Ne.symm h1), if_neg (Ne.symm h2), if_neg (Ne.symm h3)]
  exact h
theorem c18S_30 {B : Nat} {Wd Wa W : World} {ℓ : Nat → Bool} {i : Nat} (hi : i = 30) (hb : Below B Wd W) (hW : W = Wa) (h32 : ℓ 32 = false) : c18S B Wd Wa (fun j => if j = i then true else ℓ j) W := by
  subst hi
  refine ⟨hb, fun h => ?_, fun _ _ => ⟨hW, ?_⟩⟩
  · simp at h
  · simpa using h32
theorem c18S_31 {B : Nat} {Wd Wa W : World} {ℓ : Nat → Bool} {i : Nat} (hi : i = 31) (hb : Below B Wd W) (h30 : ℓ 30 = true) : c18S B Wd Wa (fun j => if j = i then true else ℓ j) W := by
  subst hi
  refine ⟨hb, fun h => ?_, fun _ h => ?_⟩
  · simp [h30] at h
  · simp at h
theorem c18S_32 {B : Nat} {Wd Wa W : World} {ℓ : Nat → Bool} {i : Nat} (hi : i = 32) (h : c18S B Wd Wa ℓ W) (h31 : ℓ 31 = true) : c18S B Wd Wa (fun j => if j = i then true else ℓ j) W := by
  subst hi
  refine ⟨h.1, fun h' => ?_, fun _ h' => ?_⟩
  · have h30 : ℓ 30 = false := by simpa using h'
    have := (h.2.1 h30).2.1
    rw [h31] at this
    cases this
  · simp [h31] at h'
theorem below_set {w w' : World} {n : Nat} (h : Below n w w') {g : Nat} (hg : n ≤ g) (o : Nat) (v : Value) : Below n w (w'.setCell ⟨g, o, none⟩ v) :=
  ⟨h.os, h.tape, h.output, by simpa using h.size, fun i hi => (heap_setCell_other w' ⟨g, o, none⟩ i v (fun e => by have : g = i := e.symm; omega)).trans (h.block i hi)⟩
/-- Region 17: the last rectangle's width is set. -/
def c17V (vb xs px1 pl pw : Value) (n m k k1 X1 rx a : Int) : Nat → Value
  | 0 => vb
  | 1 => .int .i64 n
  | 2 => .int .i64 m
  | 3 => xs
  | 4 => .int .i64 k
  | 5 => .int .i64 k1
  | 6 => px1
  | 7 => .int .i64 X1
  | 8 => vb
  | 9 => .int .i64 n
  | 10 => .int .i64 m
  | 11 => pl
  | 12 => pl
  | 13 => .int .i64 rx
  | 14 => .int .i64 a
  | 15 => pl
  | 16 => pw
  | _ => undef
def c17S (Wd Wa : World) (ℓ : Nat → Bool) (W : World) : Prop := (ℓ 17 = false → W = Wd) ∧ (ℓ 17 = true → W = Wa)
theorem c17S_keep {Wd Wa W : World} {ℓ : Nat → Bool} {i : Nat} (h1 : i ≠ 17) (h : c17S Wd Wa ℓ W) : c17S Wd Wa (fun j => if j = i then true else ℓ j) W := by
  unfold c17S at h ⊢
  simp only [if_neg (Ne.symm h1)]
  exact h
theorem bandK_le {α : Type} [DecidableEq α] {xs : List Int} (hx : rises xs) (g : Int → Option α) {k : Nat} (hk : k < xs.length) : ∀ s ∈ bandK xs g k, s.a ≤ nth xs k ∧ s.b ≤ nth xs k := by
  induction k with
  | zero => intro s hs; exact absurd hs (by simp [bandK])
  | succ k ih =>
    have hlt := hx.lt (show k < k + 1 by omega) hk
    exact push_ends _ _ _ _ (fun z => z ≤ nth xs (k + 1)) (Int.le_of_lt hlt) (Int.le_refl _) fun s hs => by
      have := ih (by omega) s hs
      omega
/-- Region 23: a rectangle of the last band is made longer. -/
def c23V (vl ys py pl pl1 pl3 : Value) (q i i1 Y1 ry a : Int) : Nat → Value
  | 0 => vl
  | 1 => .int .i64 q
  | 2 => ys
  | 3 => .int .i64 i
  | 4 => .int .i64 i1
  | 5 => py
  | 6 => .int .i64 Y1
  | 7 => vl
  | 8 => .int .i64 q
  | 9 => pl
  | 10 => pl1
  | 11 => .int .i64 ry
  | 12 => .int .i64 a
  | 13 => pl
  | 14 => pl3
  | _ => undef
def c23S (Wd Wa : World) (ℓ : Nat → Bool) (W : World) : Prop := (ℓ 15 = false → W = Wd) ∧ (ℓ 15 = true → W = Wa)
theorem c23S_keep {Wd Wa W : World} {ℓ : Nat → Bool} {i : Nat} (h1 : i ≠ 15) (h : c23S Wd Wa ℓ W) : c23S Wd Wa (fun j => if j = i then true else ℓ j) W := by
  unfold c23S at h ⊢
  simp only [if_neg (Ne.symm h1)]
  exact h
set_option maxHeartbeats 8000000 in
theorem refCombine_any (op : Int) (a b : List Rc) (va vb : Value) (w : World) (hn : a.length + b.length ≤ 10000) (ha : SeesR w va a) (hb : SeesR w vb b) :
    Calls Try.prog 13 #[.int .i64 op, va, vb] w fun e w' => ∃ u, e = .returned u ∧ RectsAt w.heap.size w' u (flat (comb (fOp op) a b)) ∧ Below w.heap.size w w' := by
  have hB := Nat.le_refl w.heap.size
  have HA := Lib.hid ha
  have HB := Lib.hid hb
  have HC : RowKit.Hid (comb (fOp op) a b = bandsG (fOp op) a b (bordX (a ++ b) []) (bordY (a ++ b) [])) := Lib.hid rfl
  have HBO := Lib.hid (borders a b)
  generalize comb (fOp op) a b = COMB at *
  obtain ⟨aa, ca, rfl, _, _⟩ := ha
  obtain ⟨ab, cb, rfl, _, _⟩ := hb
  obtain ⟨la, hla⟩ : ∃ n, a.length = n := ⟨_, rfl⟩
  obtain ⟨lb, hlb⟩ : ∃ n, b.length = n := ⟨_, rfl⟩
  have LA := Lib.hid hla
  have LB := Lib.hid hlb
  rw [hla] at hn HA ⊢
  rw [hlb] at hn HB ⊢
  clear hla hlb
  go_enter Try.func13, Try.ntmps13
  go_wp2_with (first
    | (at_builtin; refine wpl_rects rfl _ _ rfl (.slice none 0 0) w.heap.size [] rfl (RowAt.nil _ _ _ _) hB _ a rfl HA.out (by rw [LA.out]; simp; omega) ?_; intro v1 w1 h1 b1; have H1 := Lib.hid h1; have B1 := Lib.hid b1; have hB1 := b1.size; clear h1 b1)
    | (at_builtin; refine wpl_rects rfl _ _ rfl v1 w.heap.size ([] ++ a) rfl H1.out hB1 _ b rfl (HB.out.below (B1.out.mono hB)) (by rw [LB.out]; simp [LA.out]; omega) ?_; intro v2 w2 h2 b2; have H2 := Lib.hid h2; have B2 := Lib.hid (B1.out.trans b2); clear h2 b2))
  have C := Lib.hid (refBorders_any (a ++ b) v2 w2 (by rw [List.length_append, LA.out, LB.out]; omega) (RectsAt.sees (by simpa using H2.out)))
  have lx := bordX_length (a ++ b) []
  have ly := bordY_length (a ++ b) []
  rw [List.length_append, LA.out, LB.out, List.length_nil] at lx ly
  generalize bordX (a ++ b) [] = xs at *
  generalize bordY (a ++ b) [] = ys at *
  refine C.out.mono ?_
  rintro r w4 ⟨u1, u2, rfl, hx, hy, b4⟩
  have B4 := Lib.hid (B2.out.trans (b4.mono B2.out.size))
  have hB4 := B4.out.size
  obtain ⟨ax, cx, rfl, hxc⟩ := hx.cells
  obtain ⟨ay, cy, rfl, hyc⟩ := hy.cells
  obtain ⟨nx, hnx⟩ : ∃ n, xs.length = n := ⟨_, rfl⟩
  obtain ⟨ny, hny⟩ : ∃ n, ys.length = n := ⟨_, rfl⟩
  have NX := Lib.hid hnx
  have NY := Lib.hid hny
  rw [hnx] at lx hxc ⊢
  rw [hny] at ly hyc ⊢
  have XC : RowKit.Hid (∀ W, Below w4.heap.size w4 W → ∀ k, k < nx → ∃ g, ax = some ⟨g, 0, none⟩ ∧ W.cell? ⟨g, k, none⟩ = some (.int .i64 (nth xs k))) := Lib.hid (fun W hW k hk => by
    obtain ⟨g, e, hg, hc⟩ := hxc (by omega)
    exact ⟨g, e, (hW.cell (p := ⟨g, k, none⟩) hg).trans (hc k _ (nth_get (by rw [hnx]; exact hk)))⟩)
  have YC : RowKit.Hid (∀ W, Below w4.heap.size w4 W → ∀ k, k < ny → ∃ g, ay = some ⟨g, 0, none⟩ ∧ W.cell? ⟨g, k, none⟩ = some (.int .i64 (nth ys k))) := Lib.hid (fun W hW k hk => by
    obtain ⟨g, e, hg, hc⟩ := hyc (by omega)
    exact ⟨g, e, (hW.cell (p := ⟨g, k, none⟩) hg).trans (hc k _ (nth_get (by rw [hny]; exact hk)))⟩)
  have IN : RowKit.Hid (∀ W, Below w4.heap.size w4 W → ∀ x y, Calls Try.prog 26 #[.int .i64 op, .slice aa la ca, .slice ab lb cb, .int .i64 x, .int .i64 y] W fun e w' => e = .returned (.bool (fOp op (hasL a x y) (hasL b x y))) ∧ Below W.heap.size W w') := Lib.hid (fun W hW x y =>
    refIn_any op a b _ _ x y W (by rw [LA.out]; omega) (by rw [LB.out]; omega) (HA.out.below (B4.out.trans (hW.mono hB4))) (HB.out.below (B4.out.trans (hW.mono hB4))))
  clear hxc hyc hx hy b4 hnx hny C H1 H2 B1 B2 hB1 HA HB
  go_wp2_with fail
  go_loopw [10, 11, 12] (fun vo vl vi wr => ∃ (i : Nat) (out last : List Rc), vi = .int .i64 i ∧ RowKit.Hid (CoI w4.heap.size w4 ys (rowG (fOp op) a b xs) nx vo vl wr i out last)) (fun _ _ vi _ => ny - (intOf vi).toNat)
  case atStart => exact ⟨0, [], [], rfl, ⟨.inl rfl, RowAt.nil _ _ _ _, RowAt.nil _ _ _ _, fun k hk => by simp [Value.ownBlock] at hk, OutI.start _ _, Below.refl _ _, by simp, by simp⟩⟩
  case round =>
    obtain ⟨i, out, last, rfl, hI⟩ := hrel
    by_cases hlt : i + 1 < ny
    · obtain ⟨wi, rfl⟩ : ∃ wi, wi = wr := ⟨_, rfl⟩
      have dl : decide ((i : Int) + 1 < ny) = true := decide_eq_true (by omega)
      have dl2 : decide (i + 1 < ny) = true := decide_eq_true hlt
      obtain ⟨ao, co, rfl⟩ := RowAt.shape hI.out.ho
      obtain ⟨al, cl, rfl⟩ := RowAt.shape hI.out.hl
      have hBE := Lib.hid hI.out.bel
      have hwr := hI.out.bel.size
      obtain ⟨gY, rfl, hcy⟩ := YC.out wi hBE.out i (by omega)
      have hr0 := Nat.le_refl wi.heap.size
      go_wp2_with fail
      go_loopw [13, 14] (fun vb vk wz => ∃ k : Nat, vk = .int .i64 k ∧ (k = 0 ∨ k + 1 ≤ nx) ∧ RectsAt wi.heap.size wz vb (rowR xs (cellG (fOp op) a b (nth ys i)) (nth ys i) (nth ys (i + 1)) k) ∧ Below wi.heap.size wi wz) (fun _ vk _ => nx - (intOf vk).toNat)
      case atStart => exact ⟨0, rfl, .inl rfl, RowAt.nil _ _ _ _, Below.refl _ _⟩
      case round =>
        obtain ⟨k, rfl, hk0, hba, hbz⟩ := hrel
        by_cases hk : k + 1 < nx
        · have dk : decide ((k : Int) + 1 < nx) = true := decide_eq_true (by omega)
          have dk2 : decide (k + 1 < nx) = true := decide_eq_true hk
          have HBA := Lib.hid hba
          have hz4 := Lib.hid (hBE.out.trans (hbz.mono hwr))
          have HBZ := Lib.hid hbz
          obtain ⟨gX, rfl, hcx⟩ := XC.out wr hz4.out k (by omega)
          obtain ⟨X0, hX0⟩ : ∃ X0, nth xs k = X0 := ⟨_, rfl⟩
          obtain ⟨X1, hX1⟩ : ∃ X1, nth xs (k + 1) = X1 := ⟨_, rfl⟩
          obtain ⟨Y0, hY0⟩ : ∃ Y0, nth ys i = Y0 := ⟨_, rfl⟩
          obtain ⟨Y1, hY1⟩ : ∃ Y1, nth ys (i + 1) = Y1 := ⟨_, rfl⟩
          have HW : RowKit.Hid (∀ W, Below wi.heap.size wi W → W.cell? ⟨gX, k, none⟩ = some (.int .i64 X0) ∧ W.cell? ⟨gX, k + 1, none⟩ = some (.int .i64 X1) ∧ W.cell? ⟨gY, i, none⟩ = some (.int .i64 Y0) ∧ W.cell? ⟨gY, i + 1, none⟩ = some (.int .i64 Y1)) := Lib.hid (fun W hW => by
            have hb := hBE.out.trans (hW.mono hwr)
            have f : ∀ j, j < nx → W.cell? ⟨gX, j, none⟩ = some (.int .i64 (nth xs j)) := fun j hj => by
              obtain ⟨g, e, h⟩ := XC.out W hb j hj
              simp only [Option.some.injEq, Addr.mk.injEq, and_true] at e
              rw [e]; exact h
            have f2 : ∀ j, j < ny → W.cell? ⟨gY, j, none⟩ = some (.int .i64 (nth ys j)) := fun j hj => by
              obtain ⟨g, e, h⟩ := YC.out W hb j hj
              simp only [Option.some.injEq, Addr.mk.injEq, and_true] at e
              rw [e]; exact h
            rw [← hX0, ← hX1, ← hY0, ← hY1]
            exact ⟨f k (by omega), f (k + 1) hk, f2 i (by omega), f2 (i + 1) hlt⟩)
          have INw := Lib.hid (fun W (hW : Below wr.heap.size wr W) => IN.out W (hz4.out.trans (hW.mono hz4.out.size)) X0 Y0)
          have HG : RowKit.Hid (cellG (fOp op) a b Y0 X0 = if fOp op (hasL a X0 Y0) (hasL b X0 Y0) = true then some () else none) := Lib.hid rfl
          have HE : RowKit.Hid (nth xs k = X0 ∧ nth xs (k + 1) = X1 ∧ nth ys i = Y0 ∧ nth ys (i + 1) = Y1) := Lib.hid ⟨hX0, hX1, hY0, hY1⟩
          have kx : k < nx := by omega
          have iy : i < ny := by omega
          obtain ⟨R, hR⟩ : ∃ R, rowR xs (cellG (fOp op) a b (nth ys i)) (nth ys i) (nth ys (i + 1)) k = R := ⟨_, rfl⟩
          obtain ⟨R1, hR1⟩ : ∃ R, rowR xs (cellG (fOp op) a b (nth ys i)) (nth ys i) (nth ys (i + 1)) (k + 1) = R := ⟨_, rfl⟩
          have ER := Lib.hid hR1
          have hcell : ∀ o, fOp op (hasL a X0 Y0) (hasL b X0 Y0) = o → cellG (fOp op) a b (nth ys i) (nth xs k) = if o = true then some () else none := fun o ho => by rw [hX0, hY0, ← ho]; rfl
          have F0 : RowKit.Hid (fOp op (hasL a X0 Y0) (hasL b X0 Y0) = false → R1 = R) := Lib.hid (fun h => by rw [← hR1, ← hR]; exact rowR_none (hcell _ h))
          have F1 : RowKit.Hid (fOp op (hasL a X0 Y0) (hasL b X0 Y0) = true → (∀ r, R[R.length - 1]? = some r → r.x + r.w ≠ X0) → R1 = R ++ [⟨X0, Y0, X1 - X0, Y1 - Y0⟩]) := Lib.hid (fun h hno => by
            rw [← hR1, ← hX0, ← hX1, ← hY0, ← hY1, ← hR]
            exact rowR_app (hcell _ h) (by rw [hR, hX0]; exact hno))
          have F2 : RowKit.Hid (fOp op (hasL a X0 Y0) (hasL b X0 Y0) = true → ∀ r, R[R.length - 1]? = some r → r.x + r.w = X0 → R1 = R.set (R.length - 1) ⟨r.x, r.y, X1 - r.x, r.h⟩) := Lib.hid (fun h r hr he => by
            have := rowR_set (r := r) (hcell _ h) (by rw [hR]; exact hr) (by rw [hX0]; exact he)
            rw [hR, hX1] at this
            rw [← hR1]; exact this)
          have near : ∀ z ∈ xs, -1048576 ≤ z ∧ z ≤ 1048576 := HBO.out.nx
          have neary : ∀ z ∈ ys, -1048576 ≤ z ∧ z ≤ 1048576 := HBO.out.ny
          have F3 : RowKit.Hid (∀ (j : Nat) (r : Rc), R[j]? = some r → -1048576 ≤ r.x ∧ r.x ≤ 1048576 ∧ -1048576 ≤ r.x + r.w ∧ r.x + r.w ≤ 1048576) := Lib.hid (fun j r hr => by
            obtain ⟨a', ha', b', hb', rfl⟩ := rowR_mem (k := k) (by rw [NX.out]; exact kx) (by rw [hR]; exact List.mem_of_getElem? hr)
            have := near a' ha'
            have := near b' hb'
            simp only
            omega)
          have F4 : R.length ≤ k := by rw [← hR]; exact rowR_length _ _ _ _ _
          have nX0 := near _ (nth_mem (l := xs) (i := k) (by rw [NX.out]; exact kx))
          have nX1 := near _ (nth_mem (l := xs) (i := k + 1) (by rw [NX.out]; exact hk))
          have nY0 := neary _ (nth_mem (l := ys) (i := i) (by rw [NY.out]; exact iy))
          have nY1 := neary _ (nth_mem (l := ys) (i := i + 1) (by rw [NY.out]; exact hlt))
          rw [hX0] at nX0
          rw [hX1] at nX1
          rw [hY0] at nY0
          rw [hY1] at nY1
          have HBA : RowKit.Hid (RectsAt wi.heap.size wr u13 R) := Lib.hid (by rw [← hR]; exact HBA.out)
          clear hR hR1 hcell near neary
          generalize fOp op (hasL a X0 Y0) (hasL b X0 Y0) = pb at *
          clear hX0 hX1 hY0 hY1 hcx hba hbz
          go_wp2_with fail
          refine region_all (by kernel_rfl) (c14 op (.slice aa la ca) (.slice ab lb cb) (.slice (some ⟨gX, 0, none⟩) nx cx) (.pointer (some ⟨gX, k, none⟩)) (.slice (some ⟨gY, 0, none⟩) ny cy) (.pointer (some ⟨gY, i, none⟩)) (k : Nat) X0 (i : Nat) Y0 pb) (fun Wz => Below wr.heap.size wr Wz) [0, 1, 2, 8, 9, 12, 14] [none, none, none, none, none, none, none, none, none, none, none, none, none, none, none, none, none, none, none, none, none, none, none, none, none, none, none, none, none, none, none, none, none, none, none, none, none, none, none, none, none, none, some 0, some 1, some 2, some 3, some 4, some 5, some 6, some 7, some 8, some 9, some 10, some 11, some 12, none, none, none, none, none, none, none, none, none, none, none, none, none, none, none, none, none, none, none, none, none, none, none, none, none, none, none, none, none, none, none, none, none, none, none, none, none, none, none, none, none, none, none, none, none, none, none, none, none, none, none, none, none, none, none, none, none, none, none, none, none, none, none, none, none, none, none, none, none, none, none, none, none, none, none, none, none, none, none, none, none, none, none, none, none, none, none, none, none, none, none, none, none, none, none, none, none, none, none, none, none, none, none, none, none, none, none, none, none] (by kernel_rfl) (by kernel_rfl) (by rfl) (by kernel_rfl) (by kernel_rfl) (by kernel_rfl) ((Below.refl _ _).drew) ⟨?_, ?_, ?_, ?_, ?_, ?_, ?_, ?_, ?_, ?_, ?_, ?_, ?_, trivial⟩ ?_
          case refine_14 =>
            intro W hS
            have HZ := Lib.hid hS
            clear hS
            have HZi := Lib.hid (HBZ.out.trans (HZ.out.mono HBZ.out.size))
            have HBW := Lib.hid (HBA.out.below HZ.out)
            simp only [zipF, c14]
            cases pb with
            | false =>
              have h0 := F0.out (by simp)
              have HQ := Lib.hid (show RectsAt wi.heap.size W u13 R1 from by rw [h0]; exact HBW.out)
              clear F0 F1 F2 F3 h0 HBA HBW
              go_wp2_with fail
              exact ⟨⟨k + 1, by go_num, .inr (by omega), by rw [ER.out]; exact HQ.out, HZi.out⟩, by simp [intOf]; omega⟩
            | true =>
              have f1 := F1.out (by simp)
              have f2 := F2.out (by simp)
              clear F0 F1 F2
              have F1 := Lib.hid f1
              have F2 := Lib.hid f2
              clear f1 f2 HBA INw
              obtain ⟨av, cv, rfl⟩ := RowAt.shape HBW.out
              obtain ⟨n, hn'⟩ : ∃ n, R.length = n := ⟨_, rfl⟩
              have HN := Lib.hid hn'
              rw [hn'] at F1 F2 F4 ⊢
              have HBn : RowKit.Hid (RowAt 32 4 wi.heap.size W (.slice av n cv) n (cellsR R)) := Lib.hid (by rw [← hn']; exact HBW.out)
              clear hn' HBW
              obtain ⟨z0, z1, z2, z3⟩ := HW.out W HZi.out
              by_cases hn0 : n = 0
              · subst hn0
                have hR1 : R1 = R ++ [⟨X0, Y0, X1 - X0, Y1 - Y0⟩] := F1.out fun r h1 => by
                  have := (List.getElem?_eq_some_iff.1 h1).1
                  rw [HN.out] at this
                  omega
                have HR1 := Lib.hid hR1
                clear F1 F2 F3 hR1
                go_wp2_with fail
                go_quiet (fail)
                go_wp2_with fail
                have HBq : RowKit.Hid (RowAt 32 4 wi.heap.size (W.drewN nq) (.slice av 0 cv) 0 (cellsR R)) := Lib.hid HBn.out
                have HZq := Lib.hid (below_drewN HZi.out nq)
                obtain ⟨Wq, hWq⟩ : ∃ Wq, W.drewN nq = Wq := ⟨_, rfl⟩
                rw [hWq] at HBq HZq ⊢
                clear hWq HBn HZi HZ
                have HBd : RowKit.Hid (RowAt 32 4 wi.heap.size Wq.drew (.slice av 0 cv) 0 (cellsR R)) := Lib.hid HBq.out
                have CELL : RowKit.Hid (∀ W', Below wi.heap.size Wq.drew W' → W'.cell? ⟨gX, k, none⟩ = some (.int .i64 X0) ∧ W'.cell? ⟨gX, k + 1, none⟩ = some (.int .i64 X1) ∧ W'.cell? ⟨gY, i, none⟩ = some (.int .i64 Y0) ∧ W'.cell? ⟨gY, i + 1, none⟩ = some (.int .i64 Y1)) := Lib.hid (fun W' h => HW.out W' (HZq.out.drew.trans h))
                have hqs : wi.heap.size ≤ Wq.drew.heap.size := HZq.out.size
                have wk1 : IntKind.i64.wrap ((k : Int) + 1) = k + 1 := IntWalk.i64_in _ (by omega)
                have wi1 : IntKind.i64.wrap ((i : Int) + 1) = i + 1 := IntWalk.i64_in _ (by omega)
                have kk : (0 : Int) ≤ (k : Int) + 1 ∧ (k : Int) + 1 < nx := by omega
                have ii : (0 : Int) ≤ (i : Int) + 1 ∧ (i : Int) + 1 < ny := by omega
                have wx : IntKind.i64.wrap (X1 - X0) = X1 - X0 := IntWalk.i64_in _ (by omega)
                have wy : IntKind.i64.wrap (Y1 - Y0) = Y1 - Y0 := IntWalk.i64_in _ (by omega)
                refine region_preds (by kernel_rfl) (c18V (.slice av 0 cv) (.slice (some ⟨gX, 0, none⟩) nx cx) (.slice (some ⟨gY, 0, none⟩) ny cy) (.pointer (some ⟨gX, k, none⟩)) (.pointer (some ⟨gX, k + 1, none⟩)) (.pointer (some ⟨gY, i, none⟩)) (.pointer (some ⟨gY, i + 1, none⟩)) (.slice (some ⟨Wq.drew.heap.size, 0, none⟩) 1 1) (k : Nat) ((k : Nat) + 1) (i : Nat) ((i : Nat) + 1) X0 X1 Y0 Y1 (X1 - X0) (Y1 - Y0)) (c18R wi.heap.size R1) (c18S wi.heap.size Wq.drew (Wq.drew.alloc (.cells #[.int .i64 X0, .int .i64 Y0, .int .i64 (X1 - X0), .int .i64 (Y1 - Y0)] 32))) [8, 9, 12, 14] [none, none, none, none, none, none, none, none, none, none, none, none, none, some 32, none, none, none, none, none, none, none, none, none, none, none, none, none, none, none, none, none, none, none, none, none, none, none, none, none, none, none, none, none, none, none, none, none, none, none, none, none, none, none, none, none, none, none, none, none, none, none, none, none, none, none, none, none, none, none, none, none, none, none, none, none, none, none, none, none, none, none, none, none, none, none, none, none, none, none, none, none, none, none, none, none, none, some 0, some 1, some 2, some 3, some 4, some 5, some 6, some 7, some 8, some 9, some 10, some 11, some 12, some 13, some 14, some 15, some 16, some 17, some 18, some 19, some 20, some 21, some 22, some 23, some 24, some 25, some 26, some 27, some 28, some 29, some 30, some 31, none, none, none, none, none, none, none, none, none, none, none, none, none, none, none, none, none, none, none, none, none, none, none, none, none, none, none, none, none, none, none, none, none, none, none, none] (by kernel_rfl) (by kernel_rfl) (by rfl) (by kernel_rfl) (by kernel_rfl) (by kernel_rfl) ⟨Below.refl _ _, fun _ => ⟨rfl, rfl, rfl⟩, fun h => by cases h⟩ ⟨?_, ?_, ?_, ?_, ?_, ?_, ?_, ?_, ?_, ?_, ?_, ?_, ?_, ?_, ?_, ?_, ?_, ?_, ?_, ?_, ?_, ?_, ?_, ?_, ?_, ?_, ?_, ?_, ?_, ?_, ?_, ?_, ?_, trivial⟩ ?_
                case refine_34 =>
                  intro vs ℓ W3 hl hS hR
                  have hq : c18R wi.heap.size R1 32 (vs 32) W3 := hR 32 13 (by rfl) rfl
                  have HQ : RowKit.Hid (RectsAt wi.heap.size W3 (vs 32) R1) := Lib.hid (by unfold c18R at hq; rw [if_pos (.inr rfl)] at hq; exact hq)
                  clear hq
                  have HZ3 := Lib.hid (HZq.out.drew.trans hS.1)
                  clear hR hS hl
                  simp only [zipF, c18V, Option.getD_some, Option.getD_none]
                  generalize vs 32 = nb at *
                  generalize vs 31 = nb2 at *
                  go_wp2_with fail
                  exact ⟨⟨k + 1, by go_num, .inr (by omega), by rw [ER.out]; exact HQ.out, HZ3.out⟩, by simp [intOf]; omega⟩
                case refine_1 =>
                  intro ℓ act W9 hl hS hw hx hr hd
                  have e13 : act.tmps[13]? = some (.slice av 0 cv) := hx 13 32 (by rfl) (by kernel_rfl)
                  clear hw hx hr hd
                  refine ⟨wanted_none (by rfl), fun K hK => ?_⟩
                  go_simp
                  exact hK _ _ rfl (c18S_keep (by decide) (by decide) (by decide) hS) (fun _ _ _ _ h => h)
                case refine_31 =>
                  intro ℓ act W9 hl hS hw hx hr hd
                  clear hw hx
                  obtain ⟨rfl, h31, h32⟩ := hS.2.1 hl
                  simp [readFacts, depFactsP, dstOf, Region.binds, c18V] at hr hd
                  refine ⟨wanted_none (by rfl), fun K hK => ?_⟩
                  go_simp
                  refine hK _ _ rfl (c18S_30 (by decide) ((Below.refl _ _).alloc hqs _) rfl h32) (fun j u _ hj h => c18R_no h31 h32 hj)
                case refine_32 =>
                  intro ℓ act W9 hl hS hw hx hr hd
                  have h30 : ℓ 30 = true := hw ⟨30, .data⟩ (by simp) (by rfl)
                  clear hw hx
                  obtain ⟨rfl, h32⟩ := hS.2.2 h30 hl
                  simp [readFacts, depFactsP, dstOf, Region.binds, c18V] at hr hd
                  refine ⟨wanted_none (by rfl), fun K hK => ?_⟩
                  obtain ⟨e96, e126⟩ := hd
                  refine wp_rect1 (.tmp 96) (.tmp 126) rfl (.slice av 0 cv) wi.heap.size 0 R (eval_tmp e96) HBd.out hqs (by omega) ⟨X0, Y0, X1 - X0, Y1 - Y0⟩ 32 (eval_tmp e126) ?_
                  intro v' w' h1 h2
                  exact hK _ _ (show c18R wi.heap.size R1 31 v' w' from by unfold c18R; rw [if_pos (.inl rfl), HR1.out]; exact h1) (c18S_31 (by decide) h2 h30) (fun j u _ hj h => c18R_no hl h32 hj)
                case refine_33 =>
                  intro ℓ act W9 hl hS hw hx hr hd
                  have h31 : ℓ 31 = true := hw ⟨31, .data⟩ (by simp) (by rfl)
                  clear hw hx
                  simp [readFacts, depFactsP, dstOf, Region.binds, c18V, c18R] at hr hd
                  refine ⟨wanted_none (by rfl), fun K hK => ?_⟩
                  obtain ⟨⟨v, e127, y127⟩, hd2⟩ := hd
                  clear hd2
                  go_simp
                  exact hK _ _ (show c18R wi.heap.size R1 32 v W9 from by unfold c18R; rw [if_pos (.inr rfl)]; exact y127) (c18S_32 (by decide) hS h31) (fun _ _ _ _ h => h)
                all_goals
                  intro ℓ act W9 hl hS hw hx hr hd
                  clear hw hx
                  simp [readFacts, depFactsP, dstOf, Region.binds, c18V] at hr hd
                  refine ⟨wanted_none (by rfl), fun K hK => ?_⟩
                  obtain ⟨q0, q1, q2, q3⟩ := CELL.out W9 hS.1
                  go_simp
                  exact hK _ _ rfl (c18S_keep (by decide) (by decide) (by decide) hS) (fun _ _ _ _ h => h)
              · obtain ⟨m, rfl⟩ : ∃ m, n = m + 1 := ⟨n - 1, by omega⟩
                clear hn0
                obtain ⟨r, hr⟩ : ∃ r, R[m]? = some r := ⟨R[m]'(by rw [HN.out]; omega), List.getElem?_eq_getElem _⟩
                obtain ⟨gb, rfl⟩ : ∃ gb, av = some ⟨gb, 0, none⟩ := by
                  rcases HBn.out.1.2 with ⟨_, h0⟩ | ⟨gb, cap, cur, e, _⟩
                  · omega
                  · simp only [Value.slice.injEq] at e
                    exact ⟨gb, e.1⟩
                obtain ⟨hgb, hgl, hgc, hgf⟩ := RowAt.block HBn.out
                obtain ⟨k0, k1, k2, k3⟩ : (cellsR R)[m * 4]? = some (.int .i64 r.x) ∧ (cellsR R)[m * 4 + 1]? = some (.int .i64 r.y) ∧ (cellsR R)[m * 4 + 2]? = some (.int .i64 r.w) ∧ (cellsR R)[m * 4 + 3]? = some (.int .i64 r.h) := by
                  obtain ⟨hk', rfl⟩ := List.getElem?_eq_some_iff.1 hr
                  exact cellsR_get R m hk'
                have c0 := hgc _ _ k0
                have c2 := hgc _ _ k2
                obtain ⟨m1, m2, m3, m4⟩ := F3.out m r hr
                have wrx : IntKind.i64.wrap (r.x + r.w) = r.x + r.w := IntWalk.i64_in _ (by omega)
                have wm : IntKind.i64.wrap ((m : Int) + 1 - 1) = m := by rw [Int.add_sub_cancel]; exact IntWalk.i64_in _ (by omega)
                have wm2 : IntKind.i64.wrap (m : Int) = m := IntWalk.i64_in _ (by omega)
                have dm : decide ((0 : Int) < (m : Int) + 1) = true := decide_eq_true (by omega)
                have dm2 : decide (0 < m + 1) = true := decide_eq_true (by omega)
                by_cases he : r.x + r.w = X0
                · have de : (r.x + r.w == X0) = true := by simpa using he
                  have hR1 : R1 = R.set m ⟨r.x, r.y, X1 - r.x, r.h⟩ := F2.out r hr he
                  have HR1 := Lib.hid hR1
                  clear F1 F2 F3 hR1 he k1 k3
                  go_wp2_with fail
                  go_quiet (fail)
                  go_wp2_with fail
                  have HBq : RowKit.Hid (RowAt 32 4 wi.heap.size (W.drewN nq) (.slice (some ⟨gb, 0, none⟩) (m + 1) cv) (m + 1) (cellsR R)) := Lib.hid HBn.out
                  have HZq := Lib.hid (below_drewN HZi.out nq)
                  clear c0 c2 hgc hgf
                  obtain ⟨Wq, hWq⟩ : ∃ Wq, W.drewN nq = Wq := ⟨_, rfl⟩
                  rw [hWq] at HBq HZq ⊢
                  clear hWq HBn HZi HZ
                  have HBd : RowKit.Hid (RowAt 32 4 wi.heap.size Wq.drew (.slice (some ⟨gb, 0, none⟩) (m + 1) cv) (m + 1) (cellsR R)) := Lib.hid HBq.out
                  obtain ⟨g0, g1, g2, g3, g4, g5⟩ : Wq.drew.cell? ⟨gX, k + 1, none⟩ = some (.int .i64 X1) ∧ Wq.drew.cell? ⟨gb, m * 4, none⟩ = some (.int .i64 r.x) ∧ Wq.drew.cell? ⟨gb, m * 4 + 2, none⟩ = some (.int .i64 r.w) ∧ Wq.drew.frozen? ⟨gb, m * 4 + 2, none⟩ = false ∧ RowAt 32 4 wi.heap.size (Wq.drew.setCell ⟨gb, m * 4 + 2, none⟩ (.int .i64 (X1 - r.x))) (.slice (some ⟨gb, 0, none⟩) (m + 1) cv) (m + 1) (cellsR R1) ∧ Below wi.heap.size wi (Wq.drew.setCell ⟨gb, m * 4 + 2, none⟩ (.int .i64 (X1 - r.x))) := by
                    obtain ⟨_, _, hc, hf⟩ := RowAt.block HBd.out
                    refine ⟨(HW.out _ HZq.out.drew).2.1, hc _ _ k0, hc _ _ k2, hf _, ?_, below_set HZq.out.drew hgb _ _⟩
                    have hset := RowAt.setCell HBd.out (j := m * 4 + 2) (by omega) (u := .int .i64 (X1 - r.x)) rfl
                    obtain ⟨hk', e⟩ := List.getElem?_eq_some_iff.1 hr
                    rw [cellsR_setw R m hk', e, ← HR1.out] at hset
                    exact hset
                  have HRES : RowKit.Hid (RectsAt wi.heap.size (Wq.drew.setCell ⟨gb, m * 4 + 2, none⟩ (.int .i64 (X1 - r.x))) (.slice (some ⟨gb, 0, none⟩) (m + 1) cv) R1 ∧ Below wi.heap.size wi (Wq.drew.setCell ⟨gb, m * 4 + 2, none⟩ (.int .i64 (X1 - r.x)))) := Lib.hid ⟨by unfold RectsAt; rw [show R1.length = m + 1 by rw [HR1.out, List.length_set, HN.out]]; exact g4, g5⟩
                  have HCE : RowKit.Hid (∀ ℓ W9, c17S Wq.drew (Wq.drew.setCell ⟨gb, m * 4 + 2, none⟩ (.int .i64 (X1 - r.x))) ℓ W9 → W9.cell? ⟨gX, k + 1, none⟩ = some (.int .i64 X1) ∧ W9.cell? ⟨gb, m * 4, none⟩ = some (.int .i64 r.x)) := Lib.hid (fun ℓ W9 hS => by
                    cases h : ℓ 17 with
                    | false =>
                      obtain rfl := hS.1 h
                      exact ⟨g0, g1⟩
                    | true =>
                      obtain rfl := hS.2 h
                      refine ⟨(HW.out _ g5).2.1, (RowAt.block g4).2.2.1 _ _ ?_⟩
                      obtain ⟨hk', e⟩ := List.getElem?_eq_some_iff.1 hr
                      have hset := cellsR_setw R m hk' (X1 - r.x)
                      rw [e] at hset
                      rw [HR1.out, ← hset, List.getElem?_set_ne (by omega)]
                      exact k0)
                  clear g4 g5 k2 k0 hr
                  have wk1 : IntKind.i64.wrap ((k : Int) + 1) = k + 1 := IntWalk.i64_in _ (by omega)
                  have kk : (0 : Int) ≤ (k : Int) + 1 ∧ (k : Int) + 1 < nx := by omega
                  have wxr : IntKind.i64.wrap (X1 - r.x) = X1 - r.x := IntWalk.i64_in _ (by omega)
                  have mm : (m : Int) < (m : Int) + 1 := by omega
                  refine region_alls (by kernel_rfl) (c17V (.slice (some ⟨gb, 0, none⟩) (m + 1) cv) (.slice (some ⟨gX, 0, none⟩) nx cx) (.pointer (some ⟨gX, k + 1, none⟩)) (.pointer (some ⟨gb, m * 4, none⟩)) (.pointer (some ⟨gb, m * 4 + 2, none⟩)) ((m : Nat) + 1) (m : Nat) (k : Nat) ((k : Nat) + 1) X1 r.x (X1 - r.x)) (c17S Wq.drew (Wq.drew.setCell ⟨gb, m * 4 + 2, none⟩ (.int .i64 (X1 - r.x)))) [8, 13, 14, 15] [none, none, none, none, none, none, none, none, none, none, none, none, none, none, none, none, none, none, none, none, none, none, none, none, none, none, none, none, none, none, none, none, none, none, none, none, none, none, none, none, none, none, none, none, none, none, none, none, none, none, none, none, none, none, none, none, none, none, none, none, none, none, none, none, none, none, none, none, none, none, none, none, none, none, none, none, none, none, none, some 0, some 1, some 2, some 3, some 4, some 5, some 6, some 7, some 8, some 9, some 10, some 11, some 12, some 13, some 14, some 15, some 16, none, none, none, none, none, none, none, none, none, none, none, none, none, none, none, none, none, none, none, none, none, none, none, none, none, none, none, none, none, none, none, none, none, none, none, none, none, none, none, none, none, none, none, none, none, none, none, none, none, none, none, none, none, none, none, none, none, none, none, none, none, none, none, none, none, none, none, none] (by kernel_rfl) (by kernel_rfl) (by rfl) (by kernel_rfl) (by kernel_rfl) (by kernel_rfl) ⟨fun _ => rfl, fun h => by cases h⟩ ⟨?_, ?_, ?_, ?_, ?_, ?_, ?_, ?_, ?_, ?_, ?_, ?_, ?_, ?_, ?_, ?_, ?_, ?_, trivial⟩ ?_
                  case refine_19 =>
                    intro ℓ W3 hl hS
                    obtain rfl := hS.2 (hl 17 (by decide))
                    clear hS hl
                    simp only [zipF, c17V]
                    go_wp2_with fail
                    exact ⟨⟨k + 1, by go_num, .inr (by omega), by rw [ER.out]; exact HRES.out.1, HRES.out.2⟩, by simp [intOf]; omega⟩
                  case refine_18 =>
                    intro ℓ act W9 hl hS hw hr hd
                    clear hw
                    obtain rfl := hS.1 hl
                    simp [readFacts, depFacts, dstOf, Region.binds, c17V] at hr hd
                    refine ⟨wanted_none (by rfl), fun K hK => ?_⟩
                    go_simp
                    exact hK _ ⟨fun h => by simp at h, fun _ => rfl⟩
                  all_goals
                    intro ℓ act W9 hl hS hw hr hd
                    obtain ⟨q0, q1⟩ := HCE.out ℓ W9 hS
                    clear hw
                    simp [readFacts, depFacts, dstOf, Region.binds, c17V] at hr hd
                    refine ⟨wanted_none (by rfl), fun K hK => ?_⟩
                    go_simp
                    exact hK _ (c17S_keep (by decide) hS)
                · have de : (r.x + r.w == X0) = false := by simpa using he
                  have hR1 : R1 = R ++ [⟨X0, Y0, X1 - X0, Y1 - Y0⟩] := F1.out fun r' h1 h2 => by
                    rw [show m + 1 - 1 = m from rfl, hr] at h1
                    obtain rfl := Option.some.inj h1
                    exact he h2
                  have HR1 := Lib.hid hR1
                  clear F1 F2 F3 hR1 he k0 k1 k2 k3
                  go_wp2_with fail
                  go_quiet (fail)
                  go_wp2_with fail
                  have HBq : RowKit.Hid (RowAt 32 4 wi.heap.size (W.drewN nq) (.slice (some ⟨gb, 0, none⟩) (m + 1) cv) (m + 1) (cellsR R)) := Lib.hid HBn.out
                  have HZq := Lib.hid (below_drewN HZi.out nq)
                  obtain ⟨Wq, hWq⟩ : ∃ Wq, W.drewN nq = Wq := ⟨_, rfl⟩
                  rw [hWq] at HBq HZq ⊢
                  clear hWq HBn HZi HZ
                  have HBd : RowKit.Hid (RowAt 32 4 wi.heap.size Wq.drew (.slice (some ⟨gb, 0, none⟩) (m + 1) cv) (m + 1) (cellsR R)) := Lib.hid HBq.out
                  have CELL : RowKit.Hid (∀ W', Below wi.heap.size Wq.drew W' → W'.cell? ⟨gX, k, none⟩ = some (.int .i64 X0) ∧ W'.cell? ⟨gX, k + 1, none⟩ = some (.int .i64 X1) ∧ W'.cell? ⟨gY, i, none⟩ = some (.int .i64 Y0) ∧ W'.cell? ⟨gY, i + 1, none⟩ = some (.int .i64 Y1)) := Lib.hid (fun W' h => HW.out W' (HZq.out.drew.trans h))
                  have hqs : wi.heap.size ≤ Wq.drew.heap.size := HZq.out.size
                  have wk1 : IntKind.i64.wrap ((k : Int) + 1) = k + 1 := IntWalk.i64_in _ (by omega)
                  have wi1 : IntKind.i64.wrap ((i : Int) + 1) = i + 1 := IntWalk.i64_in _ (by omega)
                  have kk : (0 : Int) ≤ (k : Int) + 1 ∧ (k : Int) + 1 < nx := by omega
                  have ii : (0 : Int) ≤ (i : Int) + 1 ∧ (i : Int) + 1 < ny := by omega
                  have wx : IntKind.i64.wrap (X1 - X0) = X1 - X0 := IntWalk.i64_in _ (by omega)
                  have wy : IntKind.i64.wrap (Y1 - Y0) = Y1 - Y0 := IntWalk.i64_in _ (by omega)
                  refine region_preds (by kernel_rfl) (c18V (.slice (some ⟨gb, 0, none⟩) (m + 1) cv) (.slice (some ⟨gX, 0, none⟩) nx cx) (.slice (some ⟨gY, 0, none⟩) ny cy) (.pointer (some ⟨gX, k, none⟩)) (.pointer (some ⟨gX, k + 1, none⟩)) (.pointer (some ⟨gY, i, none⟩)) (.pointer (some ⟨gY, i + 1, none⟩)) (.slice (some ⟨Wq.drew.heap.size, 0, none⟩) 1 1) (k : Nat) ((k : Nat) + 1) (i : Nat) ((i : Nat) + 1) X0 X1 Y0 Y1 (X1 - X0) (Y1 - Y0)) (c18R wi.heap.size R1) (c18S wi.heap.size Wq.drew (Wq.drew.alloc (.cells #[.int .i64 X0, .int .i64 Y0, .int .i64 (X1 - X0), .int .i64 (Y1 - Y0)] 32))) [8, 9, 12, 14] [none, none, none, none, none, none, none, none, none, none, none, none, none, some 32, none, none, none, none, none, none, none, none, none, none, none, none, none, none, none, none, none, none, none, none, none, none, none, none, none, none, none, none, none, none, none, none, none, none, none, none, none, none, none, none, none, none, none, none, none, none, none, none, none, none, none, none, none, none, none, none, none, none, none, none, none, none, none, none, none, none, none, none, none, none, none, none, none, none, none, none, none, none, none, none, none, none, some 0, some 1, some 2, some 3, some 4, some 5, some 6, some 7, some 8, some 9, some 10, some 11, some 12, some 13, some 14, some 15, some 16, some 17, some 18, some 19, some 20, some 21, some 22, some 23, some 24, some 25, some 26, some 27, some 28, some 29, some 30, some 31, none, none, none, none, none, none, none, none, none, none, none, none, none, none, none, none, none, none, none, none, none, none, none, none, none, none, none, none, none, none, none, none, none, none, none, none] (by kernel_rfl) (by kernel_rfl) (by rfl) (by kernel_rfl) (by kernel_rfl) (by kernel_rfl) ⟨Below.refl _ _, fun _ => ⟨rfl, rfl, rfl⟩, fun h => by cases h⟩ ⟨?_, ?_, ?_, ?_, ?_, ?_, ?_, ?_, ?_, ?_, ?_, ?_, ?_, ?_, ?_, ?_, ?_, ?_, ?_, ?_, ?_, ?_, ?_, ?_, ?_, ?_, ?_, ?_, ?_, ?_, ?_, ?_, ?_, trivial⟩ ?_
                  case refine_34 =>
                    intro vs ℓ W3 hl hS hR
                    have hq : c18R wi.heap.size R1 32 (vs 32) W3 := hR 32 13 (by rfl) rfl
                    have HQ : RowKit.Hid (RectsAt wi.heap.size W3 (vs 32) R1) := Lib.hid (by unfold c18R at hq; rw [if_pos (.inr rfl)] at hq; exact hq)
                    clear hq
                    have HZ3 := Lib.hid (HZq.out.drew.trans hS.1)
                    clear hR hS hl
                    simp only [zipF, c18V, Option.getD_some, Option.getD_none]
                    generalize vs 32 = nb at *
                    generalize vs 31 = nb2 at *
                    go_wp2_with fail
                    exact ⟨⟨k + 1, by go_num, .inr (by omega), by rw [ER.out]; exact HQ.out, HZ3.out⟩, by simp [intOf]; omega⟩
                  case refine_1 =>
                    intro ℓ act W9 hl hS hw hx hr hd
                    have e13 : act.tmps[13]? = some (.slice (some ⟨gb, 0, none⟩) (m + 1) cv) := hx 13 32 (by rfl) (by kernel_rfl)
                    clear hw hx hr hd
                    refine ⟨wanted_none (by rfl), fun K hK => ?_⟩
                    go_simp
                    exact hK _ _ rfl (c18S_keep (by decide) (by decide) (by decide) hS) (fun _ _ _ _ h => h)
                  case refine_31 =>
                    intro ℓ act W9 hl hS hw hx hr hd
                    clear hw hx
                    obtain ⟨rfl, h31, h32⟩ := hS.2.1 hl
                    simp [readFacts, depFactsP, dstOf, Region.binds, c18V] at hr hd
                    refine ⟨wanted_none (by rfl), fun K hK => ?_⟩
                    go_simp
                    refine hK _ _ rfl (c18S_30 (by decide) ((Below.refl _ _).alloc hqs _) rfl h32) (fun j u _ hj h => c18R_no h31 h32 hj)
                  case refine_32 =>
                    intro ℓ act W9 hl hS hw hx hr hd
                    have h30 : ℓ 30 = true := hw ⟨30, .data⟩ (by simp) (by rfl)
                    clear hw hx
                    obtain ⟨rfl, h32⟩ := hS.2.2 h30 hl
                    simp [readFacts, depFactsP, dstOf, Region.binds, c18V] at hr hd
                    refine ⟨wanted_none (by rfl), fun K hK => ?_⟩
                    obtain ⟨e96, e126⟩ := hd
                    refine wp_rect1 (.tmp 96) (.tmp 126) rfl (.slice (some ⟨gb, 0, none⟩) (m + 1) cv) wi.heap.size (m + 1) R (eval_tmp e96) HBd.out hqs (by omega) ⟨X0, Y0, X1 - X0, Y1 - Y0⟩ 32 (eval_tmp e126) ?_
                    intro v' w' h1 h2
                    exact hK _ _ (show c18R wi.heap.size R1 31 v' w' from by unfold c18R; rw [if_pos (.inl rfl), HR1.out]; exact h1) (c18S_31 (by decide) h2 h30) (fun j u _ hj h => c18R_no hl h32 hj)
                  case refine_33 =>
                    intro ℓ act W9 hl hS hw hx hr hd
                    have h31 : ℓ 31 = true := hw ⟨31, .data⟩ (by simp) (by rfl)
                    clear hw hx
                    simp [readFacts, depFactsP, dstOf, Region.binds, c18V, c18R] at hr hd
                    refine ⟨wanted_none (by rfl), fun K hK => ?_⟩
                    obtain ⟨⟨v, e127, y127⟩, hd2⟩ := hd
                    clear hd2
                    go_simp
                    exact hK _ _ (show c18R wi.heap.size R1 32 v W9 from by unfold c18R; rw [if_pos (.inr rfl)]; exact y127) (c18S_32 (by decide) hS h31) (fun _ _ _ _ h => h)
                  all_goals
                    intro ℓ act W9 hl hS hw hx hr hd
                    clear hw hx
                    simp [readFacts, depFactsP, dstOf, Region.binds, c18V] at hr hd
                    refine ⟨wanted_none (by rfl), fun K hK => ?_⟩
                    obtain ⟨q0, q1, q2, q3⟩ := CELL.out W9 hS.1
                    go_simp
                    exact hK _ _ rfl (c18S_keep (by decide) (by decide) (by decide) hS) (fun _ _ _ _ h => h)
          all_goals
            intro ℓ act W hl hS hw hr hd
            clear hw
            simp [readFacts, depFacts, dstOf, Region.binds, c14] at hr hd
            refine ⟨wanted_none (by rfl), fun K hK => ?_⟩
            obtain ⟨q0, q1, q2, q3⟩ := HW.out W (HBZ.out.trans (hS.mono HBZ.out.size))
            go_simp
            first
              | (with_reducible refine (INw.out W hS).mono ?_
                 rintro r w' ⟨rfl, b⟩
                 exact hK _ (hS.trans (b.mono hS.size)))
              | exact hK _ hS
        · have hkn : k = nx - 1 := by omega
          have dk : decide ((k : Int) + 1 < nx) = false := decide_eq_false (by omega)
          have dk2 : decide (k + 1 < nx) = false := decide_eq_false hk
          obtain ⟨p, hp⟩ : ∃ p, rowK (fOp op) a b xs (nth ys i) = p := ⟨_, rfl⟩
          have hrow : rowR xs (cellG (fOp op) a b (nth ys i)) (nth ys i) (nth ys (i + 1)) k = flat1 ⟨nth ys i, nth ys (i + 1), p⟩ := by
            rw [← hp, hkn]
            unfold rowR rowK
            rw [NX.out]
          have hbl := rowR_length xs (cellG (fOp op) a b (nth ys i)) (nth ys i) (nth ys (i + 1)) k
          rw [hrow] at hba hbl
          clear hrow hkn
          have hG : rowG (fOp op) a b xs (nth ys i) = if p = [] then none else some p := by rw [← hp]; rfl
          obtain ⟨BD, hBD⟩ : ∃ BD, flat1 ⟨nth ys i, nth ys (i + 1), p⟩ = BD := ⟨_, rfl⟩
          rw [hBD] at hba hbl
          have hyl := HBO.out.hy.lt (show i < i + 1 by omega) (show i + 1 < ys.length by rw [NY.out]; exact hlt)
          have hyle := bandK_le HBO.out.hy (rowG (fOp op) a b xs) (show i < ys.length by rw [NY.out]; omega)
          have TN : RowKit.Hid (last = [] ∨ keyR last ≠ keyR BD → OutI ys (rowG (fOp op) a b xs) (i + 1) (out ++ last) BD) := Lib.hid (fun h => by
            rw [← hBD]
            exact hI.out.st.new hG hyl (fun s hs => (hyle s hs).2) (by rw [hBD]; exact h))
          have TO : RowKit.Hid (last ≠ [] → keyR last = keyR BD → OutI ys (rowG (fOp op) a b xs) (i + 1) out (last.map fun r => ⟨r.x, r.y, r.w, nth ys (i + 1) - r.y⟩)) := Lib.hid (fun h1 h2 => hI.out.st.on hG h1 (by rw [hBD]; exact h2))
          have hOl : ∀ j, Value.ownBlock (.slice ao out.length co) = some j → w4.heap.size ≤ j ∧ j < wi.heap.size := fun j hj => ⟨hI.out.ho.2.1 j hj, (World.ownsRow.lt hI.out.ho.1 j hj).2⟩
          have hLl : ∀ j, Value.ownBlock (.slice al last.length cl) = some j → w4.heap.size ≤ j ∧ j < wi.heap.size := fun j hj => ⟨hI.out.hl.2.1 j hj, (World.ownsRow.lt hI.out.hl.1 j hj).2⟩
          have HOz : RowKit.Hid (RectsAt w4.heap.size wr (.slice ao out.length co) out) := Lib.hid (hI.out.ho.below hbz)
          have HLr : RowKit.Hid (RectsAt w4.heap.size wr (.slice al last.length cl) last) := Lib.hid (hI.out.hl.below hbz)
          have HLz0 := RectsAt.sees HLr.out
          have HBz := Lib.hid hba
          have hz4 := Lib.hid (hBE.out.trans (hbz.mono hwr))
          have hzs : w4.heap.size ≤ wr.heap.size := hz4.out.size
          have hzi := hbz.size
          have hno := hI.out.no
          have hnl0 := hI.out.nl
          have hap := hI.out.ap
          obtain ⟨nl, hnl⟩ : ∃ n, last.length = n := ⟨_, rfl⟩
          have HNL := Lib.hid hnl
          rw [hnl] at HLz0 hLl hnl0 hap HLr ⊢
          have HLz := Lib.hid HLz0
          clear HLz0 hnl
          have him : (i + 1) * nx = i * nx + nx := Nat.succ_mul i nx
          have him2 : i * nx ≤ 20000 * 20000 := Nat.mul_le_mul (by omega) (by omega)
          have hlen2 : out.length + last.length ≤ 1000000000 := by rw [HNL.out]; omega
          have NEW : RowKit.Hid (∀ W v' w', Below wr.heap.size wr W → W.heap.size = wr.heap.size → (RectsAt w4.heap.size w' v' (out ++ last) ∧ Below w4.heap.size W w' ∧ W.grownBy w' (Value.ownBlock (.slice ao out.length co)) ∧ Near W (.slice ao out.length co) v') → (last = [] ∨ keyR last ≠ keyR BD) → CoI w4.heap.size w4 ys (rowG (fOp op) a b xs) nx v' u13 w' (i + 1) (out ++ last) BD) := Lib.hid (by
            rintro W v' w' hW hs ⟨h1, h2, h3, h4⟩ h5
            have hbW : RectsAt wi.heap.size W u13 BD := hba.below hW
            refine ⟨.inr (by rw [NY.out]; omega), h1, ?_, fun j hj => ?_, TN.out h5, hz4.out.trans ((hW.mono hzs).trans h2), by rw [List.length_append, HNL.out, him]; omega, by omega⟩
            · refine RowAt.base (B := wi.heap.size) ⟨own_block hbW.1 fun j hj => ?_, hbW.2⟩ hwr
              have hj1 := hbW.2.1 j hj
              have hj2 := (World.ownsRow.lt hbW.1 j hj).2
              exact h3.block j hj2 fun e => by have := (hOl j e.symm).2; omega
            · intro e
              have hj1 := hbW.2.1 j e
              have hj2 := (World.ownsRow.lt hbW.1 j e).2
              rcases h4 j hj with h6 | h6
              · have := (hOl j h6).2; omega
              · omega)
          have HLY : RowKit.Hid (∀ r ∈ last, -1048576 ≤ r.y ∧ r.y ≤ 1048576) := Lib.hid (fun r hr => by
            rcases hI.out.st with ⟨h1, _⟩ | ⟨L, s, h1, _, h3, _⟩
            · rw [h1] at hr; exact absurd hr (by simp)
            · rw [h3] at hr
              obtain ⟨p', _, rfl⟩ := List.mem_map.1 hr
              have hs := (bandK_ends (rowG (fOp op) a b xs) (show i < ys.length by rw [NY.out]; omega) s (by rw [h1]; simp)).1
              exact HBO.out.ny _ hs)
          have nY1 := HBO.out.ny _ (nth_mem (l := ys) (i := i + 1) (by rw [NY.out]; exact hlt))
          clear hba hI
          by_cases h0 : nl = 0
          · subst h0
            have hl0 : last = [] := List.length_eq_zero_iff.1 HNL.out
            have HO2 : RowKit.Hid (RectsAt w4.heap.size wr (.slice ao out.length co) out) := Lib.hid (HOz.out)
            have HL2 : RowKit.Hid (SeesR wr (.slice al 0 cl) last) := Lib.hid (HLz.out)
            have HB2 : RowKit.Hid (RectsAt wi.heap.size wr u13 BD) := Lib.hid (HBz.out)
            go_wp2_with (at_builtin; refine wpl_rects2 rfl _ _ rfl (.slice ao out.length co) w4.heap.size out rfl HO2.out hzs _ last rfl HL2.out hlen2 ?_; intro v' w' h1 b1 g1 n1; have hq := Lib.hid (And.intro h1 (And.intro b1 (And.intro g1 n1))); clear h1 b1 g1 n1)
            exact ⟨⟨i + 1, out ++ last, BD, by go_num, NEW.out wr v' w' (by first | exact Below.refl _ _ | exact below_drewN (Below.refl _ _) _) (by first | exact Nat.le_refl _ | rfl) hq.out (.inl hl0)⟩, by simp [intOf]; omega⟩
          · have d0 : decide ((0 : Int) < nl) = true := decide_eq_true (by omega)
            have d00 : decide (0 < nl) = true := decide_eq_true (by omega)
            have hne : last ≠ [] := fun e => h0 (by rw [← HNL.out, e]; rfl)
            have C := Lib.hid (refsame_any last BD _ _ wr (by rw [HNL.out]; omega) (by omega) HLz.out (RectsAt.sees HBz.out))
            rw [show keys last = keyR last from rfl, show keys BD = keyR BD from rfl] at C
            by_cases hT : keyR last = keyR BD
            · rw [decide_eq_true hT] at C
              have TOO := Lib.hid (TO.out hne hT)
              obtain ⟨ab3, cb3, hu⟩ := RowAt.shape HBz.out
              subst hu
              obtain ⟨gl, rfl⟩ : ∃ gl, al = some ⟨gl, 0, none⟩ := by
                rcases HLr.out.1.2 with ⟨e, h1⟩ | ⟨gl, cap, cur, e, _⟩
                · rw [HNL.out] at h1; omega
                · simp only [Value.slice.injEq] at e
                  exact ⟨gl, e.1⟩
              have HL5 : RowKit.Hid (RowAt 32 4 w4.heap.size wr (.slice (some ⟨gl, 0, none⟩) nl cl) nl (cellsR (longQ (nth ys (i + 1)) last 0))) := Lib.hid (by rw [longQ_zero, ← HNL.out]; have h := HLr.out; rw [← HNL.out] at h; exact h)
              obtain ⟨hg4, hgi⟩ := hLl gl rfl
              have hapl : Value.ownBlock (.slice ao out.length co) ≠ some gl := fun e => hap gl e rfl
              go_wp2_with fail
              refine C.out.mono ?_
              rintro r w5 ⟨rfl, q5, rfl⟩
              have HL6 : RowKit.Hid (RowAt 32 4 w4.heap.size (wr.drewN q5) (.slice (some ⟨gl, 0, none⟩) nl cl) nl (cellsR (longQ (nth ys (i + 1)) last 0))) := Lib.hid HL5.out
              have HO6 : RowKit.Hid (RectsAt w4.heap.size (wr.drewN q5) (.slice ao out.length co) out) := Lib.hid HOz.out
              have HB6 := Lib.hid (below_drewN hz4.out q5)
              obtain ⟨w5, hw5⟩ : ∃ w5, wr.drewN q5 = w5 := ⟨_, rfl⟩
              rw [hw5] at HL6 HO6 HB6 ⊢
              clear hw5 C HL5 HLz HLr NEW TN TO HBz HOz
              go_wp2_with fail
              go_loopw [16] (fun vq wz => ∃ q : Nat, q ≤ nl ∧ vq = .int .i64 q ∧ RowAt 32 4 w4.heap.size wz (.slice (some ⟨gl, 0, none⟩) nl cl) nl (cellsR (longQ (nth ys (i + 1)) last q)) ∧ RectsAt w4.heap.size wz (.slice ao out.length co) out ∧ Below w4.heap.size w4 wz) (fun vq _ => nl - (intOf vq).toNat)
              case atStart => exact ⟨0, Nat.zero_le _, rfl, HL6.out, HO6.out, HB6.out⟩
              case round =>
                obtain ⟨q, hq, rfl, hL, hO, hB7⟩ := hrel
                by_cases hqn : q < nl
                · have dq : decide ((q : Int) < nl) = true := decide_eq_true (by omega)
                  have dq2 : decide (q < nl) = true := decide_eq_true hqn
                  obtain ⟨r, hr⟩ : ∃ r, last[q]? = some r := ⟨last[q]'(by rw [HNL.out]; exact hqn), List.getElem?_eq_getElem _⟩
                  obtain ⟨ny1, ny2⟩ := HLY.out r (List.mem_of_getElem? hr)
                  obtain ⟨Y1, hY1⟩ : ∃ Y1, nth ys (i + 1) = Y1 := ⟨_, rfl⟩
                  have EY := Lib.hid hY1
                  rw [hY1] at hL nY1
                  have hLd : RowAt 32 4 w4.heap.size wr.drew (.slice (some ⟨gl, 0, none⟩) nl cl) nl (cellsR (longQ Y1 last q)) := hL
                  have hset := RowAt.setCell hLd (j := q * 4 + 3) (by omega) (u := .int .i64 (Y1 - r.y)) rfl
                  have hlq := longQ_get (y1 := Y1) hr
                  obtain ⟨hk', e⟩ := List.getElem?_eq_some_iff.1 hlq
                  obtain ⟨k0, k1, k2, k3⟩ := cellsR_get (longQ Y1 last q) q hk'
                  rw [cellsR_seth (longQ Y1 last q) q hk', e, ← longQ_step hr] at hset
                  rw [e] at k1 k3
                  obtain ⟨gYY, eY, g0⟩ := YC.out wr.drew hB7.drew (i + 1) hlt
                  simp only [Option.some.injEq, Addr.mk.injEq, and_true] at eY
                  subst eY
                  rw [hY1] at g0
                  have hBs := below_set hB7.drew hg4 (q * 4 + 3) (.int .i64 (Y1 - r.y))
                  obtain ⟨gYZ, eZ, g0a⟩ := YC.out _ hBs (i + 1) hlt
                  simp only [Option.some.injEq, Addr.mk.injEq, and_true] at eZ
                  subst eZ
                  rw [hY1] at g0a
                  have k1a : (cellsR (longQ Y1 last (q + 1)))[q * 4 + 1]? = some (.int .i64 r.y) := by
                    have h1 := cellsR_seth (longQ Y1 last q) q hk' (Y1 - r.y)
                    rw [e, ← longQ_step hr] at h1
                    rw [← h1, List.getElem?_set_ne (by omega)]
                    exact k1
                  have HCE : RowKit.Hid (∀ ℓ W9, c23S wr.drew (wr.drew.setCell ⟨gl, q * 4 + 3, none⟩ (.int .i64 (Y1 - r.y))) ℓ W9 → W9.cell? ⟨gY, i + 1, none⟩ = some (.int .i64 Y1) ∧ W9.cell? ⟨gl, q * 4 + 1, none⟩ = some (.int .i64 r.y)) := Lib.hid (fun ℓ W9 hS => by
                    cases h : ℓ 15 with
                    | false =>
                      obtain rfl := hS.1 h
                      exact ⟨g0, (RowAt.block hLd).2.2.1 _ _ k1⟩
                    | true =>
                      obtain rfl := hS.2 h
                      exact ⟨g0a, (RowAt.block hset).2.2.1 _ _ k1a⟩)
                  have c3 := (RowAt.block hLd).2.2.1 _ _ k3
                  have hfz := (RowAt.block hLd).2.2.2 (q * 4 + 3)
                  have HRES := Lib.hid (And.intro hset (And.intro (show RectsAt w4.heap.size (wr.drew.setCell ⟨gl, q * 4 + 3, none⟩ (.int .i64 (Y1 - r.y))) (.slice ao out.length co) out from ⟨ownsRow_setCell_other (show wr.drew.ownsRow _ _ _ _ _ _ from hO.1) hapl _, hO.2⟩) hBs))
                  have wi1 : IntKind.i64.wrap ((i : Int) + 1) = i + 1 := IntWalk.i64_in _ (by omega)
                  have ii : (0 : Int) ≤ (i : Int) + 1 ∧ (i : Int) + 1 < ny := by omega
                  have wyr : IntKind.i64.wrap (Y1 - r.y) = Y1 - r.y := IntWalk.i64_in _ (by omega)
                  clear hset hlq k0 k1 k2 k3 g0 g0a k1a hL hO hB7 hBs hLd e hk' hr hY1
                  go_wp2_with fail
                  refine region_alls (by kernel_rfl) (c23V (.slice (some ⟨gl, 0, none⟩) nl cl) (.slice (some ⟨gY, 0, none⟩) ny cy) (.pointer (some ⟨gY, i + 1, none⟩)) (.pointer (some ⟨gl, q * 4, none⟩)) (.pointer (some ⟨gl, q * 4 + 1, none⟩)) (.pointer (some ⟨gl, q * 4 + 3, none⟩)) (q : Nat) (i : Nat) ((i : Nat) + 1) Y1 r.y (Y1 - r.y)) (c23S wr.drew (wr.drew.setCell ⟨gl, q * 4 + 3, none⟩ (.int .i64 (Y1 - r.y)))) [9, 11, 12, 16] [none, none, none, none, none, none, none, none, none, none, none, none, none, none, none, none, none, none, none, none, none, none, none, none, none, none, none, none, none, none, none, none, none, none, none, none, none, none, none, none, none, none, none, none, none, none, none, none, none, none, none, none, none, none, none, none, none, none, none, none, none, none, none, none, none, none, none, none, none, none, none, none, none, none, none, none, none, none, none, none, none, none, none, none, none, none, none, none, none, none, none, none, none, none, none, none, none, none, none, none, none, none, none, none, none, none, none, none, none, none, none, none, none, none, none, none, none, none, none, none, none, none, none, none, none, none, none, none, none, none, none, none, none, none, none, none, none, none, none, none, none, none, some 0, some 1, some 2, some 3, some 4, some 5, some 6, some 7, some 8, some 9, some 10, some 11, some 12, some 13, some 14, none, none, none, none, none, none, none] (by kernel_rfl) (by kernel_rfl) (by rfl) (by kernel_rfl) (by kernel_rfl) (by kernel_rfl) ⟨fun _ => rfl, fun h => by cases h⟩ ⟨?_, ?_, ?_, ?_, ?_, ?_, ?_, ?_, ?_, ?_, ?_, ?_, ?_, ?_, ?_, ?_, trivial⟩ ?_
                  case refine_17 =>
                    intro ℓ W3 hl hS
                    obtain rfl := hS.2 (hl 15 (by decide))
                    clear hS hl
                    simp only [zipF, c23V]
                    go_wp2_with fail
                    exact ⟨⟨q + 1, by omega, by go_num, by rw [EY.out]; exact HRES.out.1, HRES.out.2.1, HRES.out.2.2⟩, by simp [intOf]; omega⟩
                  case refine_16 =>
                    intro ℓ act W9 hl hS hw hr hd
                    clear hw
                    obtain rfl := hS.1 hl
                    simp [readFacts, depFacts, dstOf, Region.binds, c23V] at hr hd
                    refine ⟨wanted_none (by rfl), fun K hK => ?_⟩
                    go_simp
                    exact hK _ ⟨fun h => by simp at h, fun _ => rfl⟩
                  all_goals
                    intro ℓ act W9 hl hS hw hr hd
                    obtain ⟨q0, q1⟩ := HCE.out ℓ W9 hS
                    clear hw
                    simp [readFacts, depFacts, dstOf, Region.binds, c23V] at hr hd
                    refine ⟨wanted_none (by rfl), fun K hK => ?_⟩
                    go_simp
                    exact hK _ (c23S_keep (by decide) hS)
                · obtain rfl : q = nl := by omega
                  have dq : decide ((q : Int) < q) = false := decide_eq_false (by omega)
                  have hco : RowKit.Hid (CoI w4.heap.size w4 ys (rowG (fOp op) a b xs) nx (.slice ao out.length co) (.slice (some ⟨gl, 0, none⟩) q cl) wr (i + 1) out (last.map fun r => ⟨r.x, r.y, r.w, nth ys (i + 1) - r.y⟩)) := Lib.hid ⟨.inr (by rw [NY.out]; omega), hO, (by
                    unfold RectsAt
                    rw [List.length_map, HNL.out, ← longQ_all, HNL.out]
                    exact hL), hap, TOO.out, hB7, by rw [him]; omega, by rw [List.length_map, HNL.out]; exact hnl0⟩
                  clear hL hO hB7
                  go_wp2_with fail
                  exact ⟨⟨i + 1, out, _, by go_num, hco⟩, by simp [intOf]; omega⟩
            · rw [decide_eq_false hT] at C
              obtain ⟨ab3, cb3, hu⟩ := RowAt.shape HBz.out
              subst hu
              go_wp2_with fail
              refine C.out.mono ?_
              rintro r w5 ⟨rfl, q, rfl⟩
              have hzs' : w4.heap.size ≤ (wr.drewN q).heap.size := hzs
              have HO2 : RowKit.Hid (RectsAt w4.heap.size (wr.drewN q) (.slice ao out.length co) out) := Lib.hid (HOz.out)
              have HL2 : RowKit.Hid (SeesR (wr.drewN q) (.slice al nl cl) last) := Lib.hid (HLz.out)
              have HB2 : RowKit.Hid (RectsAt wi.heap.size (wr.drewN q) (.slice ab3 BD.length cb3) BD) := Lib.hid (HBz.out)
              go_wp2_with (at_builtin; refine wpl_rects2 rfl _ _ rfl (.slice ao out.length co) w4.heap.size out rfl HO2.out hzs' _ last rfl HL2.out hlen2 ?_; intro v' w' h1 b1 g1 n1; have hq := Lib.hid (And.intro h1 (And.intro b1 (And.intro g1 n1))); clear h1 b1 g1 n1)
              exact ⟨⟨i + 1, out ++ last, BD, by go_num, NEW.out (wr.drewN q) v' w' (by first | exact Below.refl _ _ | exact below_drewN (Below.refl _ _) _) (by first | exact Nat.le_refl _ | rfl) hq.out (.inr hT)⟩, by simp [intOf]; omega⟩
    · have hie : i = ny - 1 := by have := hI.out.hi; rw [NY.out] at this; omega
      obtain ⟨ao, co, rfl⟩ := RowAt.shape hI.out.ho
      have hSL := Lib.hid (RectsAt.sees hI.out.hl)
      obtain ⟨al, cl, rfl⟩ := RowAt.shape hI.out.hl
      have hlen : out.length + last.length ≤ 1000000000 := by
        have h1 := hI.out.no
        have h2 := hI.out.nl
        have h3 : i * nx ≤ 20000 * 20000 := Nat.mul_le_mul (by omega) (by omega)
        omega
      have hfl : RowKit.Hid (out ++ last = flat COMB) := Lib.hid (by rw [HC.out]; unfold bandsG; rw [NY.out, ← hie]; exact hI.out.st.all)
      have hW4 := hI.out.bel.size
      have hO := Lib.hid hI.out.ho
      have hBe := Lib.hid (B4.out.trans (hI.out.bel.mono hB4))
      have dl : decide ((i : Int) + 1 < ny) = false := decide_eq_false (by omega)
      have dl2 : decide (i + 1 < ny) = false := decide_eq_false hlt
      clear hI hlt
      go_wp2_with (at_builtin; refine wpl_rects rfl _ _ rfl _ w4.heap.size out rfl hO.out hW4 _ last rfl hSL.out hlen ?_; intro v' w' h1 b1; have hq := Lib.hid (And.intro h1 (hBe.out.trans (b1.mono hB4))); clear h1 b1)
      go_ret
      exact ⟨_, rfl, by rw [← hfl.out]; exact RowAt.base hq.out.1 hB4, hq.out.2⟩
end Go.Proofs.Ytedlhfemmofbpaa.Reg
