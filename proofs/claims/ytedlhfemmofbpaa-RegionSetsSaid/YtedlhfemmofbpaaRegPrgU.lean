/-
  The program's combine, Make, Union, Minus and Both, over what rects answers.
-/
import Derived.Test.YtedlhfemmofbpaaRegPrgT
import Derived.Test.YtedlhfemmofbpaaRegSays
namespace Go.Proofs.Ytedlhfemmofbpaa.Reg
open Go.ChangeShapes Go.WideShapes Go.ChangeAt Go.RowKit Go.Shelf Lz RowG RegVal OwnL
set_option linter.unusedVariables false
set_option linter.unusedSimpArgs false
set_option maxRecDepth 100000

/-- What rects answers. -/
def RectsSays : Prop := ∀ (V : Bnd) (b : Nat) (v1 v2 : Value) (w : World), Norm V → V.length ≤ 20000 → (∀ e ∈ V, e.2.length ≤ 20000) → w.heap[b]? = some (.cells #[v1, v2] 51 (0, 0)) → SeesB w (.agg #[v1, v2]) V → Calls Try.prog 41 #[.pointer (some ⟨b, 0, none⟩)] w fun e w' => ∃ u, e = .returned u ∧ RectsAt w.heap.size w' u (recsTo V V.length) ∧ Below w.heap.size w w'
theorem comb_set {f : Bool → Bool → Bool} (hf : f false false = false) {A B : Bnd} {a b : List Rc} (hA : SetOf A (a.filter counts)) (hB : SetOf B (b.filter counts)) (hl : a.length + b.length ≤ 5000) :
    Norm (bndJ f A B) ∧ (bndJ f A B).length ≤ 20000 ∧ (∀ e ∈ bndJ f A B, e.2.length ≤ 20000) ∧ recsTo (bndJ f A B) (bndJ f A B).length = flat (comb f a b) := by
  obtain ⟨h1, h2, h3, h4⟩ := bndJ_all hf hA.toOkb hB.toOkb
  have la : (a.filter counts).length ≤ a.length := List.length_filter_le _ _
  have lb : (b.filter counts).length ≤ b.length := List.length_filter_le _ _
  have n1 := hA.n1
  have n2 := hB.n1
  refine ⟨h1, by omega, fun e he => ?_, ?_⟩
  · have := h4 _ _ hA.n2 hB.n2 e he
    omega
  · exact (recs_flat _ h1.l).trans (congrArg flat (comb_eq (a := a) (b := b) hf h1.bands.1 fun x y => by rw [h1.bands.2, h2, hA.has, hB.has, hasL_filter a, hasL_filter b]))
set_option maxHeartbeats 8000000 in
theorem combine_any (RS : RectsSays) {g : Nat} {f : Bool → Bool → Bool} (K : Keeps g f) (hf : f false false = false) (a b : List Rc) (va vb : Value) (w : World) (hl : a.length + b.length ≤ 5000) (hwa : WFs a) (hwb : WFs b) (ha : SeesR w va a) (hb : SeesR w vb b) :
    Calls Try.prog 28 #[va, vb, .func (.func g) #[] #[]] w fun e w' => ∃ u, e = .returned u ∧ RectsAt w.heap.size w' u (flat (comb f a b)) ∧ Below w.heap.size w w' := by
  have C1 := Lib.hid (counted_any a va w (by omega) hwa ha)
  have C2 := Lib.hid (fun W v (h : CR W v (a.filter counts)) => setOf_any _ (a.filter counts) v W rfl (by have := List.length_filter_le counts a; omega) h)
  have C3 := Lib.hid (fun W (h : SeesR W vb b) => counted_any b vb W (by omega) hwb h)
  have C4 := Lib.hid (fun W v (h : CR W v (b.filter counts)) => setOf_any _ (b.filter counts) v W rfl (by have := List.length_filter_le counts b; omega) h)
  have HB := Lib.hid hb
  have CS := Lib.hid (fun A B hA hB => comb_set (a := a) (b := b) (A := A) (B := B) hf hA hB hl)
  have LEN : RowKit.Hid ((a.filter counts).length ≤ 5000 ∧ (b.filter counts).length ≤ 5000) := Lib.hid ⟨by have := List.length_filter_le counts a; omega, by have := List.length_filter_le counts b; omega⟩
  have CA : RowKit.Hid ((∀ r ∈ a.filter counts, counts r = true) ∧ ∀ r ∈ b.filter counts, counts r = true) := Lib.hid ⟨fun r hr => (List.mem_filter.1 hr).2, fun r hr => (List.mem_filter.1 hr).2⟩
  have KK := Lib.hid K
  have RSS := Lib.hid RS
  obtain ⟨aa, ca, rfl, _, _⟩ := ha
  obtain ⟨ab, cb, rfl, _, _⟩ := hb
  generalize flat (comb f a b) = RES at *
  generalize a.filter counts = Fa at *
  generalize b.filter counts = Fb at *
  obtain ⟨na, hna⟩ : ∃ n, a.length = n := ⟨_, rfl⟩
  obtain ⟨nb, hnb⟩ : ∃ n, b.length = n := ⟨_, rfl⟩
  rw [hna] at C1 ⊢
  rw [hnb] at C3 HB ⊢
  clear hl hwa hwb K RS hna hnb
  go_enter Try.func28, Try.ntmps28
  go_wp2_with fail
  refine C1.out.mono ?_
  rintro e w1 ⟨u1, rfl, h1, k1⟩
  have HC1 := Lib.hid (h1.cr CA.out.1)
  have K1 := Lib.hid k1
  clear h1 k1 C1
  go_wp2_with fail
  refine (C2.out _ _ HC1.out).mono ?_
  rintro e w2 ⟨s1, VA, rfl, h2, S2, k2⟩
  have HF2 := Lib.hid h2
  have HS2 := Lib.hid S2
  have K2 : RowKit.Hid (Below w.heap.size w w2) := Lib.hid (K1.out.trans (k2.mono K1.out.size))
  obtain ⟨B1, p1, p2, rfl, _⟩ := h2
  clear S2 k2 C2 HC1 K1
  go_wp2_with fail
  refine (C3.out _ (HB.out.below K2.out)).mono ?_
  rintro e w3 ⟨u3, rfl, h3, k3⟩
  have HC3 := Lib.hid (h3.cr CA.out.2)
  have HF3 := Lib.hid (HF2.out.below k3)
  have K3 : RowKit.Hid (Below w.heap.size w w3) := Lib.hid (K2.out.trans (k3.mono K2.out.size))
  clear h3 k3 C3 K2 HF2
  go_wp2_with fail
  refine (C4.out _ _ HC3.out).mono ?_
  rintro e w4 ⟨s2, VB, rfl, h4, S4, k4⟩
  have HF4 := Lib.hid (HF3.out.below k4).sees
  have HF5 := Lib.hid h4.sees
  have HS4 := Lib.hid S4
  have K4 : RowKit.Hid (Below w.heap.size w w4) := Lib.hid (K3.out.trans (k4.mono K3.out.size))
  obtain ⟨B2, q1, q2, rfl, _⟩ := h4
  obtain ⟨hN, hn1, hn2, hR⟩ := CS.out VA VB HS2.out HS4.out
  have CJ := Lib.hid (join_any KK.out VA VB _ _ w4 (by have := HS2.out.n1; have := LEN.out; omega) (by have := HS4.out.n1; have := LEN.out; omega) (fun e he => by have := HS2.out.n2 e he; have := LEN.out; omega) (fun e he => by have := HS4.out.n2 e he; have := LEN.out; omega) HF4.out HF5.out)
  generalize bndJ f VA VB = V at *
  have HN := Lib.hid hN
  have HN1 := Lib.hid hn1
  have HN2 := Lib.hid hn2
  have HR := Lib.hid hR
  clear S4 k4 C4 HC3 K3 HF3 hN hn1 hn2 hR HF4 HF5 HS2 HS4 CS
  go_wp2_with fail
  refine CJ.out.mono ?_
  rintro e w5 ⟨u5, rfl, h5, k5⟩
  have HF5 := Lib.hid h5
  have K5 : RowKit.Hid (Below w.heap.size w w5) := Lib.hid (K4.out.trans (k5.mono K4.out.size))
  obtain ⟨B5, v1, v2, rfl, _, h6⟩ := h5
  obtain ⟨g1, c1, e1⟩ := RowAt.shape h6.bd
  obtain ⟨xs, h7, _⟩ := h6.rw
  obtain ⟨g2, c2, e2⟩ := RowAt.shape h7
  generalize (V.map (·.1)).length = N1 at e1
  generalize V.length = N2 at e2
  subst e1
  subst e2
  clear h6 h7 k5 CJ K4
  go_wp2_with fail
  have hblk := heap_alloc_new w5 (.cells #[.slice g1 N1 c1, .slice g2 N2 c2] 51)
  have kA := (Below.refl w5.heap.size w5).alloc (Nat.le_refl _) (.cells #[.slice g1 N1 c1, .slice g2 N2 c2] 51)
  refine (RSS.out V _ _ _ _ HN.out HN1.out HN2.out hblk (HF5.out.sees.below kA)).mono ?_
  rintro e w6 ⟨u6, rfl, h6, k6⟩
  have K7 := K5.out.trans (kA.mono K5.out.size)
  have H6 : RowKit.Hid (RectsAt w.heap.size w6 u6 RES) := Lib.hid (by
    rw [HR.out] at h6
    exact RowAt.base h6 K7.size)
  have K6 : RowKit.Hid (Below w.heap.size w w6) := Lib.hid (K7.trans (k6.mono K7.size))
  clear h6 k6 K7 kA hblk HF5
  go_wp2_with fail
  go_ret
  exact ⟨_, rfl, H6.out, K6.out⟩
set_option maxHeartbeats 1000000 in
theorem union_any (RS : RectsSays) (a b : List Rc) (va vb : Value) (w : World) (hl : a.length + b.length ≤ 5000) (hwa : WFs a) (hwb : WFs b) (ha : SeesR w va a) (hb : SeesR w vb b) :
    Calls Try.prog 14 #[va, vb] w fun e w' => ∃ u, e = .returned u ∧ RectsAt w.heap.size w' u (combL 0 a b) ∧ Below w.heap.size w w' := by
  have C := Lib.hid (combine_any RS keeps_or rfl a b va vb w hl hwa hwb ha hb)
  rw [show flat (comb fOr a b) = combL 0 a b from rfl] at C
  generalize combL 0 a b = RES at *
  obtain ⟨aa, ca, rfl, _, _⟩ := ha
  obtain ⟨ab, cb, rfl, _, _⟩ := hb
  generalize a.length = na at *
  generalize b.length = nb at *
  go_enter Try.func14, Try.ntmps14
  go_wp2_with fail
  refine C.out.mono ?_
  rintro e w1 ⟨u, rfl, h1, k1⟩
  have H1 := Lib.hid h1
  have K1 := Lib.hid k1
  clear h1 k1 C
  go_wp2_with fail
  go_ret
  exact ⟨_, rfl, H1.out, K1.out⟩
set_option maxHeartbeats 1000000 in
theorem minus_any (RS : RectsSays) (a b : List Rc) (va vb : Value) (w : World) (hl : a.length + b.length ≤ 5000) (hwa : WFs a) (hwb : WFs b) (ha : SeesR w va a) (hb : SeesR w vb b) :
    Calls Try.prog 15 #[va, vb] w fun e w' => ∃ u, e = .returned u ∧ RectsAt w.heap.size w' u (combL 1 a b) ∧ Below w.heap.size w w' := by
  have C := Lib.hid (combine_any RS keeps_minus rfl a b va vb w hl hwa hwb ha hb)
  rw [show flat (comb fMinus a b) = combL 1 a b from rfl] at C
  generalize combL 1 a b = RES at *
  obtain ⟨aa, ca, rfl, _, _⟩ := ha
  obtain ⟨ab, cb, rfl, _, _⟩ := hb
  generalize a.length = na at *
  generalize b.length = nb at *
  go_enter Try.func15, Try.ntmps15
  go_wp2_with fail
  refine C.out.mono ?_
  rintro e w1 ⟨u, rfl, h1, k1⟩
  have H1 := Lib.hid h1
  have K1 := Lib.hid k1
  clear h1 k1 C
  go_wp2_with fail
  go_ret
  exact ⟨_, rfl, H1.out, K1.out⟩
set_option maxHeartbeats 1000000 in
theorem both_any (RS : RectsSays) (a b : List Rc) (va vb : Value) (w : World) (hl : a.length + b.length ≤ 5000) (hwa : WFs a) (hwb : WFs b) (ha : SeesR w va a) (hb : SeesR w vb b) :
    Calls Try.prog 16 #[va, vb] w fun e w' => ∃ u, e = .returned u ∧ RectsAt w.heap.size w' u (combL 2 a b) ∧ Below w.heap.size w w' := by
  have C := Lib.hid (combine_any RS keeps_and rfl a b va vb w hl hwa hwb ha hb)
  rw [show flat (comb fAnd a b) = combL 2 a b from rfl] at C
  generalize combL 2 a b = RES at *
  obtain ⟨aa, ca, rfl, _, _⟩ := ha
  obtain ⟨ab, cb, rfl, _, _⟩ := hb
  generalize a.length = na at *
  generalize b.length = nb at *
  go_enter Try.func16, Try.ntmps16
  go_wp2_with fail
  refine C.out.mono ?_
  rintro e w1 ⟨u, rfl, h1, k1⟩
  have H1 := Lib.hid h1
  have K1 := Lib.hid k1
  clear h1 k1 C
  go_wp2_with fail
  go_ret
  exact ⟨_, rfl, H1.out, K1.out⟩
set_option maxHeartbeats 1000000 in
theorem make_any (RS : RectsSays) : MakeSays := fun a va w hl hwa ha => by
  have C := Lib.hid (union_any RS a [] va (.slice none 0 0) w (by simpa using hl) hwa (fun r hr => by cases hr) ha (SeesR.nil w))
  rw [show combL 0 a [] = make a from make_eq a] at C
  generalize make a = RES at *
  obtain ⟨aa, ca, rfl, _, _⟩ := ha
  generalize a.length = na at *
  go_enter Try.func12, Try.ntmps12
  go_wp2_with fail
  refine C.out.mono ?_
  rintro e w1 ⟨u, rfl, h1, k1⟩
  have H1 := Lib.hid h1
  have K1 := Lib.hid k1
  clear h1 k1 C
  go_wp2_with fail
  go_ret
  exact ⟨_, rfl, H1.out, K1.out⟩
end Go.Proofs.Ytedlhfemmofbpaa.Reg
