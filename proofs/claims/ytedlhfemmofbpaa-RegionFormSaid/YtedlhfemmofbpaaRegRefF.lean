/-
  Contracts of the reference of layer 15 (region): what is moved.
-/
import Derived.Test.YtedlhfemmofbpaaRegRefE
namespace Go.Proofs.Ytedlhfemmofbpaa.Reg
open Go.ChangeShapes Go.WideShapes Go.ChangeAt Go.RowKit Lz RowG RegVal
set_option linter.unusedVariables false
set_option maxRecDepth 100000

def shV (vo vl p p1 p2 p3 sl : Value) (k x y u v dx dy mx my : Int) : Nat → Option Value
  | 0 => some vo
  | 1 => some vl
  | 2 => some (.int .i64 k)
  | 3 => some p
  | 4 => some p
  | 5 => some (.int .i64 x)
  | 6 => some (.int .i64 dx)
  | 7 => some (.int .i64 mx)
  | 8 => some vl
  | 9 => some (.int .i64 k)
  | 10 => some p
  | 11 => some p1
  | 12 => some (.int .i64 y)
  | 13 => some (.int .i64 dy)
  | 14 => some (.int .i64 my)
  | 15 => some vl
  | 16 => some (.int .i64 k)
  | 17 => some p
  | 18 => some p2
  | 19 => some (.int .i64 u)
  | 20 => some vl
  | 21 => some (.int .i64 k)
  | 22 => some p
  | 23 => some p3
  | 24 => some (.int .i64 v)
  | 25 => some (.agg #[.int .i64 mx, .int .i64 my, .int .i64 u, .int .i64 v])
  | 26 => some sl
  | _ => none
def shR (B : Nat) (R1 : List Rc) (i : Nat) (v : Value) (w : World) : Prop := if i = 27 ∨ i = 28 then RectsAt B w v R1 else True
theorem shR_no {B : Nat} {R1 : List Rc} {ℓ : Nat → Bool} {j : Nat} {u : Value} {w : World} (h1 : ℓ 27 = false) (h2 : ℓ 28 = false) (hj : ℓ j = true) : shR B R1 j u w := by
  unfold shR
  rw [if_neg]
  · trivial
  · rintro (rfl | rfl)
    · rw [h1] at hj; cases hj
    · rw [h2] at hj; cases hj
def shS (B : Nat) (Wd Wa : World) (ℓ : Nat → Bool) (W : World) : Prop :=
  Below B Wd W ∧ (ℓ 26 = false → W = Wd ∧ ℓ 27 = false ∧ ℓ 28 = false) ∧ (ℓ 26 = true → ℓ 27 = false → W = Wa ∧ ℓ 28 = false)
theorem shS_keep {B : Nat} {Wd Wa W : World} {ℓ : Nat → Bool} {i : Nat} (h1 : i ≠ 26) (h2 : i ≠ 27) (h3 : i ≠ 28) (h : shS B Wd Wa ℓ W) : shS B Wd Wa (fun j => if j = i then true else ℓ j) W := by
  unfold shS at h ⊢
  simp only [if_neg (Ne.symm h1), if_neg (Ne.symm h2), if_neg (Ne.symm h3)]
  exact h
theorem shS_26 {B : Nat} {Wd Wa W : World} {ℓ : Nat → Bool} {i : Nat} (hi : i = 26) (hb : Below B Wd W) (hW : W = Wa) (h28 : ℓ 28 = false) : shS B Wd Wa (fun j => if j = i then true else ℓ j) W := by
  subst hi
  refine ⟨hb, fun h => ?_, fun _ _ => ⟨hW, ?_⟩⟩
  · simp at h
  · simpa using h28
theorem shS_27 {B : Nat} {Wd Wa W : World} {ℓ : Nat → Bool} {i : Nat} (hi : i = 27) (hb : Below B Wd W) (h26 : ℓ 26 = true) : shS B Wd Wa (fun j => if j = i then true else ℓ j) W := by
  subst hi
  refine ⟨hb, fun h => ?_, fun _ h => ?_⟩
  · simp [h26] at h
  · simp at h
theorem shS_28 {B : Nat} {Wd Wa W : World} {ℓ : Nat → Bool} {i : Nat} (hi : i = 28) (h : shS B Wd Wa ℓ W) (h27 : ℓ 27 = true) : shS B Wd Wa (fun j => if j = i then true else ℓ j) W := by
  subst hi
  refine ⟨h.1, fun h' => ?_, fun _ h' => ?_⟩
  · have h26 : ℓ 26 = false := by simpa using h'
    have := (h.2.1 h26).2.1
    rw [h27] at this
    cases this
  · simp [h27] at h'
theorem refShift_far (a : List Rc) (va : Value) (dx dy : Int) (w : World) (ha : SeesR w va a) (hd : dx < -2097152 ∨ 2097152 < dx ∨ dy < -2097152 ∨ 2097152 < dy) :
    Calls Try.prog 18 #[va, .int .i64 dx, .int .i64 dy] w fun e w' => ∃ u, e = .returned u ∧ RectsAt w.heap.size w' u (shiftL a dx dy) ∧ Below w.heap.size w w' := by
  have e : shiftL a dx dy = [] := if_pos hd
  rw [e]
  obtain ⟨aa, ca, rfl, _, _⟩ := ha
  have hd' : dx < -2097152 ∨ (¬ dx < -2097152 ∧ 2097152 < dx) ∨ (¬ dx < -2097152 ∧ ¬ 2097152 < dx ∧ dy < -2097152) ∨ (¬ dx < -2097152 ∧ ¬ 2097152 < dx ∧ ¬ dy < -2097152 ∧ 2097152 < dy) := by omega
  clear hd e
  rcases hd' with h1 | ⟨h1, h2⟩ | ⟨h1, h2, h3⟩ | ⟨h1, h2, h3, h4⟩
  · have d1 : decide (dx < -2097152) = true := decide_eq_true h1
    go_enter Try.func18, Try.ntmps18
    go_wp2_with fail
    go_ret
    exact ⟨_, rfl, RowAt.nil _ _ _ _, Below.refl _ _⟩
  · have d1 : decide (dx < -2097152) = false := decide_eq_false h1
    have d2 : decide (2097152 < dx) = true := decide_eq_true h2
    go_enter Try.func18, Try.ntmps18
    go_wp2_with fail
    go_ret
    exact ⟨_, rfl, RowAt.nil _ _ _ _, Below.refl _ _⟩
  · have d1 : decide (dx < -2097152) = false := decide_eq_false h1
    have d2 : decide (2097152 < dx) = false := decide_eq_false h2
    have d3 : decide (dy < -2097152) = true := decide_eq_true h3
    go_enter Try.func18, Try.ntmps18
    go_wp2_with fail
    go_ret
    exact ⟨_, rfl, RowAt.nil _ _ _ _, Below.refl _ _⟩
  · have d1 : decide (dx < -2097152) = false := decide_eq_false h1
    have d2 : decide (2097152 < dx) = false := decide_eq_false h2
    have d3 : decide (dy < -2097152) = false := decide_eq_false h3
    have d4 : decide (2097152 < dy) = true := decide_eq_true h4
    go_enter Try.func18, Try.ntmps18
    go_wp2_with fail
    go_ret
    exact ⟨_, rfl, RowAt.nil _ _ _ _, Below.refl _ _⟩
set_option maxHeartbeats 8000000 in
theorem refShift_any (a : List Rc) (va : Value) (dx dy : Int) (w : World) (hn : a.length ≤ 50) (ha : SeesR w va a) :
    Calls Try.prog 18 #[va, .int .i64 dx, .int .i64 dy] w fun e w' => ∃ u, e = .returned u ∧ RectsAt w.heap.size w' u (shiftL a dx dy) ∧ Below w.heap.size w w' := by
  by_cases hd : dx < -2097152 ∨ 2097152 < dx ∨ dy < -2097152 ∨ 2097152 < dy
  · exact refShift_far a va dx dy w ha hd
  have C := Lib.hid (refCombine_any 0 a [] va (.slice none 0 0) w (by simp; omega) ha (SeesR.nil w))
  rw [make_eq] at C
  have hform : IsB (comb fOr a []) := comb_form rfl a []
  have NEAR : RowKit.Hid (∀ (j : Nat) (r : Rc), (make a)[j]? = some r → -1048576 ≤ r.x ∧ r.x ≤ 1048576 ∧ -1048576 ≤ r.y ∧ r.y ≤ 1048576) := Lib.hid (fun j r hr => by
    have := counts_iff.1 (hform.counts r (List.mem_of_getElem? hr))
    omega)
  have hlen : (make a).length ≤ 10000 := by
    have h1 := comb_length fOr a []
    have h2 : (2 * (a.length + ([] : List Rc).length)) * (2 * (a.length + ([] : List Rc).length)) ≤ 100 * 100 := Nat.mul_le_mul (by simp; omega) (by simp; omega)
    exact Nat.le_trans h1 h2
  have HSH : RowKit.Hid (shiftL a dx dy = make ((make a).map (moved dx dy))) := Lib.hid (if_neg hd)
  generalize shiftL a dx dy = RES at *
  obtain ⟨aa, ca, rfl, _, _⟩ := ha
  generalize make a = L at *
  have d1 : decide (dx < -2097152) = false := decide_eq_false (by omega)
  have d2 : decide (2097152 < dx) = false := decide_eq_false (by omega)
  have d3 : decide (dy < -2097152) = false := decide_eq_false (by omega)
  have d4 : decide (2097152 < dy) = false := decide_eq_false (by omega)
  clear hform
  go_enter Try.func18, Try.ntmps18
  go_wp2_with fail
  refine C.out.mono ?_
  rintro r w1 ⟨u, rfl, h1, b1⟩
  obtain ⟨g, cap, rfl, _, hs⟩ := RectsAt.sees h1
  have HS := Lib.hid hs
  obtain ⟨n, hn'⟩ : ∃ n, L.length = n := ⟨_, rfl⟩
  have HN := Lib.hid hn'
  rw [hn'] at hlen ⊢
  have B1 := Lib.hid b1
  have hB1 := b1.size
  clear hs h1 b1 C hn' d1 d2 d3 d4
  go_wp2_with fail
  go_loopw [8, 9] (fun vo vi wz => ∃ k : Nat, k ≤ n ∧ vi = .int .i64 k ∧ RectsAt w1.heap.size wz vo ((L.take k).map (moved dx dy)) ∧ Below w1.heap.size w1 wz) (fun _ vi _ => n - (intOf vi).toNat)
  case atStart => exact ⟨0, Nat.zero_le _, rfl, RowAt.nil _ _ _ _, Below.refl _ _⟩
  case round =>
    obtain ⟨k, hk, rfl, hO, hbz⟩ := hrel
    by_cases hlt : k < n
    · have dk : decide ((k : Int) < n) = true := decide_eq_true (by omega)
      have dk2 : decide (k < n) = true := decide_eq_true hlt
      obtain ⟨b, off, rfl, hb, hc⟩ := HS.out (by rw [HN.out]; omega)
      obtain ⟨r, hr⟩ : ∃ r, L[k]? = some r := ⟨L[k]'(by rw [HN.out]; exact hlt), List.getElem?_eq_getElem _⟩
      have hcell : RcAt w1 b (off + k * 4) r := by
        obtain ⟨hk', rfl⟩ := List.getElem?_eq_some_iff.1 hr
        exact hc k hk'
      obtain ⟨m1, m2, m3, m4⟩ := NEAR.out k r hr
      have HR1 : RowKit.Hid ((L.take (k + 1)).map (moved dx dy) = (L.take k).map (moved dx dy) ++ [⟨r.x + dx, r.y + dy, r.w, r.h⟩]) := Lib.hid (by
        obtain ⟨hk', rfl⟩ := List.getElem?_eq_some_iff.1 hr
        rw [List.take_succ_eq_append_getElem hk', List.map_append]
        rfl)
      obtain ⟨vn, cn, rfl⟩ := RowAt.shape hO
      have hol : ((L.take k).map (moved dx dy)).length ≤ 10000 := by simp; omega
      have ER1 : RowKit.Hid (∀ W v, RectsAt w1.heap.size W v ((L.take k).map (moved dx dy) ++ [⟨r.x + dx, r.y + dy, r.w, r.h⟩]) → RectsAt w1.heap.size W v ((L.take (k + 1)).map (moved dx dy))) := Lib.hid (fun W v h => by rw [HR1.out]; exact h)
      generalize (L.take k).map (moved dx dy) = R at *
      have HBd : RowKit.Hid (RowAt 32 4 w1.heap.size wr.drew (.slice vn R.length cn) R.length (cellsR R)) := Lib.hid hO
      have HZ := Lib.hid hbz
      have hqs : w1.heap.size ≤ wr.drew.heap.size := hbz.size
      have CELL : RowKit.Hid (∀ W', Below w1.heap.size wr.drew W' → RcAt W' b (off + k * 4) r) := Lib.hid (fun W' h => hcell.below (HZ.out.drew.trans h) hb)
      have wx : IntKind.i64.wrap (r.x + dx) = r.x + dx := IntWalk.i64_in _ (by omega)
      have wy : IntKind.i64.wrap (r.y + dy) = r.y + dy := IntWalk.i64_in _ (by omega)
      clear hc hcell hr hO hbz HR1
      go_wp2_with fail
      refine region_preds (by kernel_rfl) (shV (.slice vn R.length cn) (.slice (some ⟨b, off, none⟩) n cap) (.pointer (some ⟨b, off + k * 4, none⟩)) (.pointer (some ⟨b, off + k * 4 + 1, none⟩)) (.pointer (some ⟨b, off + k * 4 + 2, none⟩)) (.pointer (some ⟨b, off + k * 4 + 3, none⟩)) (.slice (some ⟨wr.drew.heap.size, 0, none⟩) 1 1) (k : Nat) r.x r.y r.w r.h dx dy (r.x + dx) (r.y + dy)) (shR w1.heap.size (R ++ [⟨r.x + dx, r.y + dy, r.w, r.h⟩])) (shS w1.heap.size wr.drew (wr.drew.alloc (.cells #[.int .i64 (r.x + dx), .int .i64 (r.y + dy), .int .i64 r.w, .int .i64 r.h] 32))) [1, 2, 7, 9] [none, none, none, none, none, none, none, none, some 28, none, none, none, none, none, none, none, none, none, none, none, none, none, none, none, none, none, none, none, none, none, none, none, some 0, some 1, some 2, some 3, some 4, some 5, some 6, some 7, some 8, some 9, some 10, some 11, some 12, some 13, some 14, some 15, some 16, some 17, some 18, some 19, some 20, some 21, some 22, some 23, some 24, some 25, some 26, some 27, none, none] (by kernel_rfl) (by kernel_rfl) (by rfl) (by kernel_rfl) (by kernel_rfl) (by kernel_rfl) ⟨Below.refl _ _, fun _ => ⟨rfl, rfl, rfl⟩, fun h => by cases h⟩ ⟨?_, ?_, ?_, ?_, ?_, ?_, ?_, ?_, ?_, ?_, ?_, ?_, ?_, ?_, ?_, ?_, ?_, ?_, ?_, ?_, ?_, ?_, ?_, ?_, ?_, ?_, ?_, ?_, ?_, trivial⟩ ?_
      case refine_30 =>
        intro vs ℓ W3 hl hS hR
        have hq : shR w1.heap.size (R ++ [⟨r.x + dx, r.y + dy, r.w, r.h⟩]) 28 (vs 28) W3 := hR 28 8 (by rfl) rfl
        have HQ : RowKit.Hid (RectsAt w1.heap.size W3 (vs 28) (R ++ [⟨r.x + dx, r.y + dy, r.w, r.h⟩])) := Lib.hid (by unfold shR at hq; rw [if_pos (.inr rfl)] at hq; exact hq)
        have HZ3 := Lib.hid (HZ.out.drew.trans hS.1)
        clear hR hS hl hq
        simp only [zipF, shV, Option.getD_some, Option.getD_none]
        generalize vs 28 = nb at *
        generalize vs 27 = nb2 at *
        go_wp2_with fail
        exact ⟨⟨k + 1, by omega, by go_num, ER1.out _ _ HQ.out, HZ3.out⟩, by simp [intOf]; omega⟩
      case refine_1 =>
        intro ℓ act W9 hl hS hw hx hr hd
        have e8 : act.tmps[8]? = some (.slice vn R.length cn) := hx 8 28 (by rfl) (by kernel_rfl)
        clear hw hx hr hd
        refine ⟨wanted_none (by rfl), fun K hK => ?_⟩
        go_simp
        exact hK _ _ rfl (shS_keep (by decide) (by decide) (by decide) hS) (fun _ _ _ _ h => h)
      case refine_27 =>
        intro ℓ act W9 hl hS hw hx hr hd
        clear hw hx
        obtain ⟨rfl, h27, h28⟩ := hS.2.1 hl
        simp [readFacts, depFactsP, dstOf, Region.binds, shV] at hr hd
        refine ⟨wanted_none (by rfl), fun K hK => ?_⟩
        go_simp
        exact hK _ _ rfl (shS_26 (by decide) ((Below.refl _ _).alloc hqs _) rfl h28) (fun j u _ hj h => shR_no h27 h28 hj)
      case refine_28 =>
        intro ℓ act W9 hl hS hw hx hr hd
        have h26 : ℓ 26 = true := hw ⟨26, .data⟩ (by simp) (by rfl)
        clear hw hx
        obtain ⟨rfl, h28⟩ := hS.2.2 h26 hl
        simp [readFacts, depFactsP, dstOf, Region.binds, shV] at hr hd
        refine ⟨wanted_none (by rfl), fun K hK => ?_⟩
        obtain ⟨e32, e58⟩ := hd
        refine wp_rect1 (.tmp 32) (.tmp 58) rfl (.slice vn R.length cn) w1.heap.size R.length R (eval_tmp e32) HBd.out hqs (by omega) ⟨r.x + dx, r.y + dy, r.w, r.h⟩ 32 (eval_tmp e58) ?_
        intro v' w' h1 h2
        exact hK _ _ (show shR w1.heap.size (R ++ [⟨r.x + dx, r.y + dy, r.w, r.h⟩]) 27 v' w' from by unfold shR; rw [if_pos (.inl rfl)]; exact h1) (shS_27 (by decide) h2 h26) (fun j u _ hj h => shR_no hl h28 hj)
      case refine_29 =>
        intro ℓ act W9 hl hS hw hx hr hd
        have h27 : ℓ 27 = true := hw ⟨27, .data⟩ (by simp) (by rfl)
        clear hw hx
        simp [readFacts, depFactsP, dstOf, Region.binds, shV, shR] at hr hd
        refine ⟨wanted_none (by rfl), fun K hK => ?_⟩
        obtain ⟨⟨v, e59, y59⟩, hd2⟩ := hd
        clear hd2
        go_simp
        exact hK _ _ (show shR w1.heap.size (R ++ [⟨r.x + dx, r.y + dy, r.w, r.h⟩]) 28 v W9 from by unfold shR; rw [if_pos (.inr rfl)]; exact y59) (shS_28 (by decide) hS h27) (fun _ _ _ _ h => h)
      all_goals
        intro ℓ act W9 hl hS hw hx hr hd
        clear hw hx
        simp [readFacts, depFactsP, dstOf, Region.binds, shV] at hr hd
        refine ⟨wanted_none (by rfl), fun K hK => ?_⟩
        obtain ⟨q0, q1, q2, q3⟩ := CELL.out W9 hS.1
        go_simp
        exact hK _ _ rfl (shS_keep (by decide) (by decide) (by decide) hS) (fun _ _ _ _ h => h)
    · obtain rfl : k = n := by omega
      have e : L.take k = L := List.take_of_length_le (by rw [HN.out]; exact Nat.le_refl _)
      rw [e] at hO
      have dk : decide ((k : Int) < k) = false := decide_eq_false (by omega)
      have C2 := Lib.hid (refCombine_any 0 (L.map (moved dx dy)) [] _ (.slice none 0 0) wr (by rw [List.length_map, HN.out]; simp; exact hlen) (RectsAt.sees hO) (SeesR.nil wr))
      rw [make_eq, ← HSH.out] at C2
      have HB2 := Lib.hid (B1.out.trans (hbz.mono hB1))
      clear hO hbz
      go_wp2_with fail
      refine C2.out.mono ?_
      rintro r w5 ⟨u, rfl, h1, b1⟩
      have hq := Lib.hid (And.intro (RowAt.base h1 HB2.out.size) (HB2.out.trans (b1.mono HB2.out.size)))
      clear h1 b1
      go_wp2_with fail
      go_ret
      exact ⟨_, rfl, hq.out.1, hq.out.2⟩
end Go.Proofs.Ytedlhfemmofbpaa.Reg
