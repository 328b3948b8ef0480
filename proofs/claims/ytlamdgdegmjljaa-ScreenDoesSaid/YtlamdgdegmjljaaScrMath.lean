/-
  Plain facts of layer 14 (screen): rectangles within a size, what is drawn, parts. Nothing of the program is named here.
-/
import Derived.Test.YtlamdgdegmjljaaRegMath
namespace Go.Proofs.Ytlamdgdegmjljaa.Scr
open Go.Proofs.Ytlamdgdegmjljaa.Reg (Rc)
set_option linter.unusedVariables false

/-- Is a rectangle within a size? Is a place within it? May a colour, a side be? -/
def insB (r : Rc) (w h : Int) : Bool := decide (0 ≤ r.x ∧ 0 ≤ r.y ∧ 0 ≤ r.w ∧ 0 ≤ r.h ∧ r.w ≤ w ∧ r.x ≤ w - r.w ∧ r.h ≤ h ∧ r.y ≤ h - r.h)
def inB (r : Rc) (x y : Int) : Bool := decide (r.x ≤ x ∧ x < r.x + r.w ∧ r.y ≤ y ∧ y < r.y + r.h)
def colB (c : Int) : Bool := decide (0 ≤ c ∧ c ≤ 16777215)
def sideB (n : Int) : Bool := decide (1 ≤ n ∧ n ≤ 4096)
/-- A row of so many numbers; a number of a row. -/
def gen (n : Nat) (F : Nat → Int) : List Int := (List.range n).map F
def px (l : List Int) (i : Nat) : Int := l.getD i 0
theorem gen_length (n : Nat) (F : Nat → Int) : (gen n F).length = n := by simp [gen]
theorem gen_succ (n : Nat) (F : Nat → Int) : gen (n + 1) F = gen n F ++ [F n] := by simp [gen, List.range_succ]
theorem px_gen {n : Nat} {F : Nat → Int} {i : Nat} (h : i < n) : px (gen n F) i = F i := by
  unfold px gen
  rw [List.getD_eq_getElem?_getD, List.getElem?_map, List.getElem?_range h]
  rfl
theorem px_get {l : List Int} {i : Nat} (h : i < l.length) : px l i = l[i] := by
  unfold px
  rw [List.getD_eq_getElem?_getD, List.getElem?_eq_getElem h]; rfl
theorem row_ext {l m : List Int} (hl : l.length = m.length) (h : ∀ i, i < l.length → px l i = px m i) : l = m := by
  apply List.ext_getElem hl
  intro i h1 h2
  have := h i h1
  rwa [px_get h1, px_get h2] at this
theorem gen_px (l : List Int) : gen l.length (px l) = l :=
  row_ext (gen_length _ _) (fun i hi => px_gen (by rwa [gen_length] at hi))
theorem gen_congr {n : Nat} {F G : Nat → Int} (h : ∀ i, i < n → F i = G i) : gen n F = gen n G := by
  unfold gen
  exact List.map_congr_left (fun i hi => h i (List.mem_range.1 hi))
/-- Black; the colour at a place; what is drawn. -/
def blackL (w h : Int) : List Int := gen (w * h).toNat (fun _ => 0)
def atI (W H : Int) (l : List Int) (x y : Int) : Int := if 0 ≤ x ∧ 0 ≤ y ∧ x < W ∧ y < H then px l (y * W + x).toNat else 0
def fillF (W : Int) (r : Rc) (c : Int) (l : List Int) (i : Nat) : Int := if inB r (i % W) (i / W) then c else px l i
def blitF (W : Int) (r : Rc) (q l : List Int) (i : Nat) : Int := if inB r (i % W) (i / W) then px q ((i / W - r.y) * r.w + i % W - r.x).toNat else px l i
def resF (W H w : Int) (l : List Int) (i : Nat) : Int := atI W H l (i % w) (i / w)
def fillL (W : Int) (r : Rc) (c : Int) (l : List Int) : List Int := gen l.length (fillF W r c l)
def blitL (W : Int) (r : Rc) (q l : List Int) : List Int := gen l.length (blitF W r q l)
def resL (W H w h : Int) (l : List Int) : List Int := gen (w * h).toNat (resF W H w l)
/-- A part: those that are within, one by one. -/
def partN (W : Int) (r : Rc) (l : List Int) (n : Nat) : List Int := ((List.range n).filter (fun (i : Nat) => inB r (i % W) (i / W))).map (px l)
def partL (W : Int) (r : Rc) (l : List Int) : List Int := partN W r l l.length
theorem partN_succ (W : Int) (r : Rc) (l : List Int) (n : Nat) : partN W r l (n + 1) = if inB r (n % W) (n / W) then partN W r l n ++ [px l n] else partN W r l n := by
  unfold partN
  rw [List.range_succ, List.filter_append, List.map_append]
  cases h : inB r (n % W) (n / W) with
  | true => simp [h]
  | false => simp [h]
theorem partN_length (W : Int) (r : Rc) (l : List Int) (n : Nat) : (partN W r l n).length ≤ n := by
  unfold partN
  rw [List.length_map]
  exact Nat.le_trans (List.length_filter_le _ _) (by simp)

/-- What is answered, and what it is then. -/
def fillE (W H : Int) (r : Rc) (c : Int) : Int := if insB r W H then if colB c then 0 else 1 else 140
def fillS (W H : Int) (r : Rc) (c : Int) (l : List Int) : List Int := if insB r W H then if colB c then fillL W r c l else l else l
def rightQ (r : Rc) (q : List Int) : Bool := decide ((q.length : Int) = r.w * r.h) && q.all colB
def blitE (W H : Int) (r : Rc) (q : List Int) : Int := if insB r W H then if rightQ r q then 0 else 1 else 140
def blitS (W H : Int) (r : Rc) (q l : List Int) : List Int := if insB r W H then if rightQ r q then blitL W r q l else l else l
def partE (W H : Int) (r : Rc) : Int := if insB r W H then 0 else 140
def partS (W H : Int) (r : Rc) (l : List Int) : List Int := if insB r W H then partL W r l else []
def alike (a b : Rc) : Bool := decide (a.w = b.w ∧ a.h = b.h)
def moveE (W H : Int) (a b : Rc) : Int := if insB a W H && insB b W H then if alike a b then 0 else 1 else 140
def moveS (W H : Int) (a b : Rc) (l : List Int) : List Int := if insB a W H && insB b W H then if alike a b then blitL W b (partL W a l) l else l else l
def resE (w h : Int) : Int := if sideB w && sideB h then 0 else 1
def resW (w h W : Int) : Int := if sideB w && sideB h then w else W
def resH (w h H : Int) : Int := if sideB w && sideB h then h else H
def resS (W H w h : Int) (l : List Int) : List Int := if sideB w && sideB h then resL W H w h l else l
/-- An image that may be. -/
structure ImOk (W H : Int) (l : List Int) : Prop where
  w : 1 ≤ W ∧ W ≤ 4096
  h : 1 ≤ H ∧ H ≤ 4096
  n : (l.length : Int) = W * H
  c : ∀ i, i < l.length → 0 ≤ px l i ∧ px l i ≤ 16777215
theorem ImOk.bound {W H : Int} {l : List Int} (h : ImOk W H l) : l.length ≤ 16777216 := by
  have h1 : W * H ≤ 4096 * 4096 := Int.mul_le_mul h.w.2 h.h.2 (by have := h.h.1; omega) (by omega)
  have := h.n
  omega
theorem side_mul {w h : Int} (hw : sideB w = true) (hh : sideB h = true) : (1 ≤ w ∧ w ≤ 4096) ∧ (1 ≤ h ∧ h ≤ 4096) ∧ 1 ≤ w * h ∧ w * h ≤ 16777216 := by
  have a := of_decide_eq_true hw
  have b := of_decide_eq_true hh
  have h1 : w * h ≤ 4096 * 4096 := Int.mul_le_mul a.2 b.2 (by omega) (by omega)
  have h2 : 1 * 1 ≤ w * h := Int.mul_le_mul a.1 b.1 (by omega) (by omega)
  exact ⟨a, b, by omega, by omega⟩
theorem ImOk.black {w h : Int} (hw : sideB w = true) (hh : sideB h = true) : ImOk w h (blackL w h) := by
  obtain ⟨a, b, c, d⟩ := side_mul hw hh
  refine ⟨a, b, by unfold blackL; rw [gen_length]; omega, fun i hi => ?_⟩
  unfold blackL at hi ⊢
  rw [gen_length] at hi
  rw [px_gen hi]
  omega
/-- A place of an image: how far down, how far to the right. -/
theorem ImOk.place {W H : Int} {l : List Int} (h : ImOk W H l) {i : Nat} (hi : i < l.length) : 0 ≤ (i : Int) % W ∧ (i : Int) % W < W ∧ 0 ≤ (i : Int) / W ∧ (i : Int) / W < H ∧ (i : Int) / W * W + (i : Int) % W = i := by
  have hw := h.w
  refine ⟨Int.emod_nonneg _ (by omega), Int.emod_lt_of_pos _ (by omega), Int.ediv_nonneg (by omega) (by omega), ?_, ?_⟩
  · have hn := h.n
    exact Int.ediv_lt_of_lt_mul (by omega) (by rw [Int.mul_comm]; omega)
  · have := Int.emod_add_mul_ediv (i : Int) W
    rw [Int.mul_comm] at this
    omega
theorem ImOk.fill {W H : Int} {l : List Int} (h : ImOk W H l) (r : Rc) {c : Int} (hc : colB c = true) : ImOk W H (fillL W r c l) := by
  refine ⟨h.w, h.h, by unfold fillL; rw [gen_length]; exact h.n, fun i hi => ?_⟩
  unfold fillL at hi ⊢
  rw [gen_length] at hi
  rw [px_gen hi]
  unfold fillF
  have := of_decide_eq_true hc
  split
  · omega
  · exact h.c i hi
theorem ImOk.fillS {W H : Int} {l : List Int} (h : ImOk W H l) (r : Rc) (c : Int) : ImOk W H (fillS W H r c l) := by
  unfold Scr.fillS
  split
  · split
    · exact h.fill r (by assumption)
    · exact h
  · exact h
theorem all_col {q : List Int} (h : q.all colB = true) {i : Nat} (hi : i < q.length) : 0 ≤ px q i ∧ px q i ≤ 16777215 := by
  rw [List.all_eq_true] at h
  rw [px_get hi]
  exact of_decide_eq_true (h _ (List.getElem_mem hi))
theorem in_iff {r : Rc} {x y : Int} : inB r x y = true ↔ r.x ≤ x ∧ x < r.x + r.w ∧ r.y ≤ y ∧ y < r.y + r.h := by unfold inB; exact decide_eq_true_iff
theorem ins_iff {r : Rc} {w h : Int} : insB r w h = true ↔ 0 ≤ r.x ∧ 0 ≤ r.y ∧ 0 ≤ r.w ∧ 0 ≤ r.h ∧ r.w ≤ w ∧ r.x ≤ w - r.w ∧ r.h ≤ h ∧ r.y ≤ h - r.h := by unfold insB; exact decide_eq_true_iff
/-- The place within a rectangle as a number. -/
theorem spot {r : Rc} {x y : Int} (h : inB r x y = true) : 0 ≤ (y - r.y) * r.w + x - r.x ∧ (y - r.y) * r.w + x - r.x < r.w * r.h := by
  have h := in_iff.1 h
  have h1 : 0 ≤ (y - r.y) * r.w := Int.mul_nonneg (by omega) (by omega)
  have h2 : (y - r.y) * r.w ≤ (r.h - 1) * r.w := Int.mul_le_mul_of_nonneg_right (by omega) (by omega)
  have h3 : (r.h - 1) * r.w = r.w * r.h - r.w := by rw [Int.sub_mul, Int.mul_comm r.h, Int.one_mul]
  omega
theorem ImOk.blit {W H : Int} {l : List Int} (h : ImOk W H l) (r : Rc) {q : List Int} (hq : rightQ r q = true) : ImOk W H (blitL W r q l) := by
  unfold rightQ at hq
  rw [Bool.and_eq_true] at hq
  have hn := of_decide_eq_true hq.1
  refine ⟨h.w, h.h, by unfold blitL; rw [gen_length]; exact h.n, fun i hi => ?_⟩
  unfold blitL at hi ⊢
  rw [gen_length] at hi
  rw [px_gen hi]
  unfold blitF
  split
  · rename_i hin
    have := spot hin
    exact all_col hq.2 (by omega)
  · exact h.c i hi
theorem ImOk.blitS {W H : Int} {l : List Int} (h : ImOk W H l) (r : Rc) (q : List Int) : ImOk W H (blitS W H r q l) := by
  unfold Scr.blitS
  split
  · split
    · exact h.blit r (by assumption)
    · exact h
  · exact h
theorem part_col {W H : Int} {l : List Int} (h : ImOk W H l) (r : Rc) : ∀ i, i < (partL W r l).length → 0 ≤ px (partL W r l) i ∧ px (partL W r l) i ≤ 16777215 := by
  intro i hi
  rw [px_get hi]
  have hm : (partL W r l)[i] ∈ ((List.range l.length).filter (fun (i : Nat) => inB r (i % W) (i / W))).map (px l) := List.getElem_mem hi
  obtain ⟨k, hk, e⟩ := List.mem_map.1 hm
  rw [← e]
  exact h.c k (List.mem_range.1 (List.mem_filter.1 hk).1)
theorem col_all {q : List Int} (h : ∀ i, i < q.length → 0 ≤ px q i ∧ px q i ≤ 16777215) : q.all colB = true := by
  rw [List.all_eq_true]
  intro c hc
  obtain ⟨i, hi, rfl⟩ := List.mem_iff_getElem.1 hc
  have := h i hi
  rw [px_get hi] at this
  exact decide_eq_true this

/-! ### What a part has. -/

/-- The places of one row that are within. -/
theorem row_filter (W : Int) (hW : 1 ≤ W) (r : Rc) (y : Nat) (h0 : 0 ≤ r.x) (hw0 : 0 ≤ r.w) (hx : r.x ≤ W - r.w) :
    ∀ n : Nat, (n : Int) ≤ W → ((List.range n).map (fun k => y * W.toNat + k)).filter (fun (i : Nat) => inB r (i % W) (i / W)) = if r.y ≤ y ∧ (y : Int) < r.y + r.h then (List.range (min (n - r.x.toNat) r.w.toNat)).map (fun k => y * W.toNat + (r.x.toNat + k)) else [] := by
  intro n
  induction n with
  | zero => intro _; simp
  | succ n ih =>
    intro hn
    have hWn : ((W.toNat : Nat) : Int) = W := by omega
    have e1 : ((y * W.toNat + n : Nat) : Int) % W = n := by
      rw [Int.natCast_add, Int.natCast_mul, hWn, Int.mul_comm, Int.mul_add_emod_self_left]
      exact Int.emod_eq_of_lt (by omega) (by omega)
    have e2 : ((y * W.toNat + n : Nat) : Int) / W = y := by
      rw [Int.natCast_add, Int.natCast_mul, hWn, Int.add_comm, Int.add_mul_ediv_right _ _ (by omega), Int.ediv_eq_zero_of_lt (by omega) (by omega), Int.zero_add]
    rw [List.range_succ, List.map_append, List.filter_append, ih (by omega), List.map_cons, List.map_nil]
    have hin : inB r (((y * W.toNat + n : Nat) : Int) % W) (((y * W.toNat + n : Nat) : Int) / W) = decide (r.x ≤ n ∧ (n : Int) < r.x + r.w ∧ r.y ≤ y ∧ (y : Int) < r.y + r.h) := by
      unfold inB; rw [e1, e2]
    by_cases hy : r.y ≤ y ∧ (y : Int) < r.y + r.h
    · rw [if_pos hy, if_pos hy]
      by_cases hx2 : r.x ≤ n ∧ (n : Int) < r.x + r.w
      · have ht : inB r (((y * W.toNat + n : Nat) : Int) % W) (((y * W.toNat + n : Nat) : Int) / W) = true := by rw [hin]; exact decide_eq_true ⟨hx2.1, hx2.2, hy⟩
        rw [show min (n + 1 - r.x.toNat) r.w.toNat = min (n - r.x.toNat) r.w.toNat + 1 by omega, List.range_succ, List.map_append]
        have : ([y * W.toNat + n] : List Nat).filter (fun (i : Nat) => inB r (i % W) (i / W)) = [y * W.toNat + n] := by
          rw [List.filter_cons, if_pos ht]; rfl
        rw [this, List.map_cons, List.map_nil, show r.x.toNat + min (n - r.x.toNat) r.w.toNat = n by omega]
      · have ht : inB r (((y * W.toNat + n : Nat) : Int) % W) (((y * W.toNat + n : Nat) : Int) / W) = false := by rw [hin]; exact decide_eq_false fun h => hx2 ⟨h.1, h.2.1⟩
        have : ([y * W.toNat + n] : List Nat).filter (fun (i : Nat) => inB r (i % W) (i / W)) = [] := by
          rw [List.filter_cons, if_neg (by rw [ht]; simp)]; rfl
        rw [this, List.append_nil, show min (n + 1 - r.x.toNat) r.w.toNat = min (n - r.x.toNat) r.w.toNat by omega]
    · rw [if_neg hy, if_neg hy]
      have ht : inB r (((y * W.toNat + n : Nat) : Int) % W) (((y * W.toNat + n : Nat) : Int) / W) = false := by rw [hin]; exact decide_eq_false fun h => hy ⟨h.2.2.1, h.2.2.2⟩
      rw [List.filter_cons, if_neg (by rw [ht]; simp)]; rfl
/-- The places of so many rows that are within. -/
def spots (W : Int) (r : Rc) (h : Nat) : List Nat := (List.range h).flatMap (fun b => (List.range r.w.toNat).map (fun k => (r.y.toNat + b) * W.toNat + (r.x.toNat + k)))
theorem range_mul (a n : Nat) : List.range ((n + 1) * a) = List.range (n * a) ++ (List.range a).map (fun k => n * a + k) := by
  rw [Nat.add_mul, Nat.one_mul, List.range_add]
theorem rows_filter (W : Int) (hW : 1 ≤ W) (r : Rc) (h0 : 0 ≤ r.x) (hy0 : 0 ≤ r.y) (hh0 : 0 ≤ r.h) (hw0 : 0 ≤ r.w) (hx : r.x ≤ W - r.w) :
    ∀ n : Nat, (List.range (n * W.toNat)).filter (fun (i : Nat) => inB r (i % W) (i / W)) = spots W r (min (n - r.y.toNat) r.h.toNat) := by
  intro n
  induction n with
  | zero => simp [spots]
  | succ n ih =>
    rw [range_mul, List.filter_append, ih, row_filter W hW r n h0 hw0 hx W.toNat (by omega)]
    by_cases hy : r.y ≤ n ∧ (n : Int) < r.y + r.h
    · rw [if_pos hy, show min (n + 1 - r.y.toNat) r.h.toNat = min (n - r.y.toNat) r.h.toNat + 1 by omega]
      unfold spots
      rw [List.range_succ, List.flatMap_append]
      congr 1
      rw [List.flatMap_cons, List.flatMap_nil, List.append_nil, show min (W.toNat - r.x.toNat) r.w.toNat = r.w.toNat by omega, show r.y.toNat + min (n - r.y.toNat) r.h.toNat = n by omega]
    · rw [if_neg hy, List.append_nil, show min (n + 1 - r.y.toNat) r.h.toNat = min (n - r.y.toNat) r.h.toNat by omega]
theorem spots_length (W : Int) (r : Rc) (h : Nat) : (spots W r h).length = h * r.w.toNat := by
  unfold spots
  induction h with
  | zero => simp
  | succ h ih => rw [List.range_succ, List.flatMap_append, List.length_append, ih, Nat.add_mul]; simp
theorem spots_get (W : Int) (r : Rc) (h : Nat) (i : Nat) (hi : i < h * r.w.toNat) : (spots W r h)[i]? = some ((r.y.toNat + i / r.w.toNat) * W.toNat + (r.x.toNat + i % r.w.toNat)) := by
  induction h with
  | zero => simp at hi
  | succ h ih =>
    have hw : 0 < r.w.toNat := by
      rcases Nat.eq_zero_or_pos r.w.toNat with e | e
      · rw [e] at hi; simp at hi
      · exact e
    have e : spots W r (h + 1) = spots W r h ++ (List.range r.w.toNat).map (fun k => (r.y.toNat + h) * W.toNat + (r.x.toNat + k)) := by
      unfold spots
      rw [List.range_succ, List.flatMap_append]
      simp
    rw [e]
    by_cases h1 : i < h * r.w.toNat
    · rw [List.getElem?_append_left (by rw [spots_length]; exact h1)]
      exact ih h1
    · rw [List.getElem?_append_right (by rw [spots_length]; omega), spots_length, List.getElem?_map]
      have h2 : i - h * r.w.toNat < r.w.toNat := by rw [Nat.add_mul, Nat.one_mul] at hi; omega
      rw [List.getElem?_range h2]
      have h3 : i / r.w.toNat = h := Nat.div_eq_of_lt_le (by omega) (by omega)
      have h4 : i % r.w.toNat = i - h * r.w.toNat := by
        have := Nat.div_add_mod i r.w.toNat
        rw [h3, Nat.mul_comm] at this
        omega
      rw [h3, h4]
      rfl
/-- WHAT A PART HAS: row by row. -/
theorem part_spots {W H : Int} {l : List Int} (h : ImOk W H l) {r : Rc} (hr : insB r W H = true) : partL W r l = (spots W r r.h.toNat).map (px l) := by
  have hr := ins_iff.1 hr
  unfold partL partN
  have hw := h.w
  have hh := h.h
  have hn : l.length = H.toNat * W.toNat := by
    have := h.n
    have e : ((H.toNat * W.toNat : Nat) : Int) = H * W := by rw [Int.natCast_mul, Int.toNat_of_nonneg (by omega), Int.toNat_of_nonneg (by omega)]
    rw [Int.mul_comm] at this
    omega
  rw [hn, rows_filter W hw.1 r hr.1 hr.2.1 hr.2.2.2.1 hr.2.2.1 hr.2.2.2.2.2.1, show min (H.toNat - r.y.toNat) r.h.toNat = r.h.toNat by omega]
theorem part_length {W H : Int} {l : List Int} (h : ImOk W H l) {r : Rc} (hr : insB r W H = true) : ((partL W r l).length : Int) = r.w * r.h := by
  have hr' := ins_iff.1 hr
  rw [part_spots h hr, List.length_map, spots_length, Int.natCast_mul, Int.toNat_of_nonneg hr'.2.2.2.1, Int.toNat_of_nonneg hr'.2.2.1, Int.mul_comm]
theorem part_at {W H : Int} {l : List Int} (h : ImOk W H l) {r : Rc} (hr : insB r W H = true) {x y : Int} (hin : inB r x y = true) : px (partL W r l) ((y - r.y) * r.w + x - r.x).toNat = px l (y * W + x).toNat := by
  have hr' := ins_iff.1 hr
  have hi := in_iff.1 hin
  have hs := spot hin
  have hl := part_length h hr
  obtain ⟨k, hk⟩ : ∃ k : Nat, (y - r.y) * r.w + x - r.x = k := ⟨((y - r.y) * r.w + x - r.x).toNat, by omega⟩
  rw [hk] at hs ⊢
  rw [Int.toNat_natCast]
  have hkl : k < (partL W r l).length := by omega
  rw [px_get hkl]
  have hw0 : 0 < r.w.toNat := by omega
  have hkm : k < r.h.toNat * r.w.toNat := by
    have e : ((r.h.toNat * r.w.toNat : Nat) : Int) = r.h * r.w := by rw [Int.natCast_mul, Int.toNat_of_nonneg (by omega), Int.toNat_of_nonneg (by omega)]
    rw [Int.mul_comm] at e
    omega
  have e1 : (partL W r l)[k]? = some (px l ((r.y.toNat + k / r.w.toNat) * W.toNat + (r.x.toNat + k % r.w.toNat))) := by
    rw [part_spots h hr, List.getElem?_map, spots_get W r r.h.toNat k hkm]; rfl
  rw [List.getElem?_eq_getElem hkl] at e1
  rw [Option.some.inj e1]
  have hkn : k = (y - r.y).toNat * r.w.toNat + (x - r.x).toNat := by
    have e : (((y - r.y).toNat * r.w.toNat + (x - r.x).toNat : Nat) : Int) = (y - r.y) * r.w + (x - r.x) := by
      rw [Int.natCast_add, Int.natCast_mul, Int.toNat_of_nonneg (by omega), Int.toNat_of_nonneg (by omega), Int.toNat_of_nonneg (by omega)]
    omega
  have d1 : k / r.w.toNat = (y - r.y).toNat := by
    rw [hkn, Nat.add_comm, Nat.add_mul_div_right _ _ hw0, Nat.div_eq_of_lt (by omega), Nat.zero_add]
  have d2 : k % r.w.toNat = (x - r.x).toNat := by
    rw [hkn, Nat.add_comm, Nat.add_mul_mod_self_right, Nat.mod_eq_of_lt (by omega)]
  rw [d1, d2, show r.y.toNat + (y - r.y).toNat = y.toNat by omega, show r.x.toNat + (x - r.x).toNat = x.toNat by omega]
  have hw1 := h.w
  have e : ((y.toNat * W.toNat + x.toNat : Nat) : Int) = y * W + x := by
    rw [Int.natCast_add, Int.natCast_mul, Int.toNat_of_nonneg (by omega), Int.toNat_of_nonneg (by omega), Int.toNat_of_nonneg (by omega)]
  rw [← e, Int.toNat_natCast]
theorem right_part {W H : Int} {l : List Int} (h : ImOk W H l) {a b : Rc} (ha : insB a W H = true) (hab : alike a b = true) : rightQ b (partL W a l) = true := by
  have e := of_decide_eq_true hab
  unfold rightQ
  rw [Bool.and_eq_true]
  exact ⟨decide_eq_true (by rw [part_length h ha, e.1, e.2]), col_all (part_col h a)⟩
theorem ImOk.moveS {W H : Int} {l : List Int} (h : ImOk W H l) (a b : Rc) : ImOk W H (moveS W H a b l) := by
  unfold Scr.moveS
  split
  · rename_i hab
    rw [Bool.and_eq_true] at hab
    split
    · rename_i hal
      exact h.blit b (right_part h hab.1 hal)
    · exact h
  · exact h
theorem at_px {W H : Int} {l : List Int} (h : ImOk W H l) {i : Nat} (hi : i < l.length) : atI W H l (i % W) (i / W) = px l i := by
  obtain ⟨h0, h1, h2, h3, h4⟩ := h.place hi
  unfold atI
  rw [if_pos ⟨h0, h2, h1, h3⟩, h4, Int.toNat_natCast]
theorem at_spot {W H x y : Int} (hx : 0 ≤ x ∧ x < W) (hy : 0 ≤ y ∧ y < H) : 0 ≤ y * W + x ∧ y * W + x < W * H := by
  have h1 : 0 ≤ y * W := Int.mul_nonneg hy.1 (by omega)
  have h2 : y * W ≤ (H - 1) * W := Int.mul_le_mul_of_nonneg_right (by omega) (by omega)
  have h3 : (H - 1) * W = W * H - W := by rw [Int.sub_mul, Int.mul_comm H, Int.one_mul]
  omega
theorem at_col {W H : Int} {l : List Int} (h : ImOk W H l) (x y : Int) : 0 ≤ atI W H l x y ∧ atI W H l x y ≤ 16777215 := by
  unfold atI
  split
  · rename_i hc
    have := at_spot (H := H) ⟨hc.1, hc.2.2.1⟩ ⟨hc.2.1, hc.2.2.2⟩
    have hn := h.n
    exact h.c _ (by omega)
  · omega
theorem ImOk.res {W H w h : Int} {l : List Int} (hm : ImOk W H l) (hw : sideB w = true) (hh : sideB h = true) : ImOk w h (resL W H w h l) := by
  obtain ⟨a, b, c, d⟩ := side_mul hw hh
  refine ⟨a, b, by unfold resL; rw [gen_length]; omega, fun i hi => ?_⟩
  unfold resL at hi ⊢
  rw [gen_length] at hi
  rw [px_gen hi]
  exact at_col hm _ _
theorem ImOk.resS {W H w h : Int} {l : List Int} (hm : ImOk W H l) : ImOk (resW w h W) (resH w h H) (resS W H w h l) := by
  unfold resW resH Scr.resS
  by_cases hs : (sideB w && sideB h) = true
  · rw [if_pos hs, if_pos hs, if_pos hs]
    rw [Bool.and_eq_true] at hs
    exact hm.res hs.1 hs.2
  · rw [if_neg hs, if_neg hs, if_neg hs]
    exact hm
end Go.Proofs.Ytlamdgdegmjljaa.Scr
