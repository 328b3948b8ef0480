/-
  Contracts of symbols.covering and symbols.put.
-/
import Derived.Test.YtikfenimgjeplaaSymCount
import Derived.Test.YtikfenimgjeplaaHufBackS
import Derived.Shelf.Abstract
namespace Go.Proofs.Ytikfenimgjeplaa.Sym
open Go.ChangeShapes Go.WideShapes Go.ChangeAt Go.RowKit
open Go.Proofs.Ytikfenimgjeplaa.Huf (IsInts fine nats nats_length codes_good codes_bad rowC rowC_get rowC_length codeV fine_parts)
open Go.Proofs.Ytikfenimgjeplaa.Lz (Tok okT tokC IsToks TokAt okT_byte okT_piece)
open Go.Proofs.Ytikfenimgjeplaa.Bit (WrAt WrRaw But Near wbits_any wcode_any codeBits bitsOf cnt)
set_option linter.unusedVariables false
set_option maxRecDepth 100000

theorem rowK {w w' : World} {base n size : Nat} {e : TypeId} {v : Value} {xs : List Value} (h : w.ownsRow base e size v n xs) (hk : ∀ j, v.ownBlock = some j → w'.heap[j]? = w.heap[j]?) : w'.ownsRow base e size v n xs := by
  refine ⟨h.1, ?_⟩
  rcases h.2 with h0 | ⟨g, cap, cur, rfl, h1, h2, h3⟩
  · exact .inl h0
  · exact .inr ⟨g, cap, cur, rfl, h1, by rw [hk g rfl]; exact h2, h3⟩

/-- The codes of lengths N lie in block b. -/
def CodesAt (w : World) (b n : Nat) (N : List Nat) : Prop := w.ownsRow 0 81 2 (.slice (some ⟨b, 0, none⟩) n n) n (rowC n (codeV N) (fun i => N.getD i 0))
theorem CodesAt.cells {w : World} {b n : Nat} {N : List Nat} (h : CodesAt w b n N) (i : Nat) (hi : i < n) : w.cell? ⟨b, i * 2, none⟩ = some (.int .i64 (codeV N i : Nat)) ∧ w.cell? ⟨b, i * 2 + 1, none⟩ = some (.int .i64 (N.getD i 0 : Nat)) := by
  obtain ⟨h1, h2⟩ := rowC_get n (codeV N) (fun i => N.getD i 0) i hi
  exact ⟨(h.cellAt (i * 2) (by omega)).trans h1, (h.cellAt (i * 2 + 1) (by omega)).trans h2⟩
theorem CodesAt.lt {w : World} {b n : Nat} {N : List Nat} (h : CodesAt w b n N) : b < w.heap.size := (World.ownsRow.lt h b rfl).2
theorem CodesAt.below {w w' : World} {b n : Nat} {N : List Nat} (h : CodesAt w b n N) (k : Below w.heap.size w w') : CodesAt w' b n N :=
  rowK h fun j hj => k.block j (World.ownsRow.lt h j hj).2

/-- What a writer keeps: codes that lie beside it. -/
theorem CodesAt.but {w w' : World} {b n g : Nat} {v : Value} {bs : List UInt8} {f : Int} {N : List Nat} (h : CodesAt w g n N) (hw : WrRaw w b v bs f) (k : But b v w w') : CodesAt w' g n N :=
  rowK h fun j hj => by
    cases hj
    refine k.block g h.lt (fun e => ?_) (fun e => ?_)
    · obtain ⟨_, h2⟩ := h
      rcases h2 with ⟨e1, _⟩ | ⟨g', cap, cur, e1, _, h3, _⟩
      · cases e1
      · cases e1
        have := hw.blk
        rw [← e, h3] at this
        simp at this
    · obtain ⟨_, h2⟩ := h
      rcases h2 with ⟨e1, _⟩ | ⟨g', cap, cur, e1, _, h3, _⟩
      · cases e1
      · cases e1
        rcases hw.own.2 with ⟨e2, _⟩ | ⟨g2, cap2, cur2, e2, _, h4, _⟩
        · rw [e2] at e; cases e
        · rw [e2] at e
          cases e
          rw [h3] at h4
          simp at h4

theorem wr_below {w w' : World} {b : Nat} {v : Value} {l : List Bool} (h : WrAt w b v l) (k : Below w.heap.size w w') : WrAt w' b v l := WrRaw.below h k

set_option maxHeartbeats 1000000 in
theorem put_any (fid : FuncId) (b : Nat) (v : Value) (l : List Bool) (c n s e k : Nat) (N : List Nat) (x : Int) (w : World) (hw : WrAt w b v l) (hc : CodesAt w c n N) (hs : s < n) (hk : k ≤ 32)
    (hE : Enters Try.prog fid) (hf : ∀ w, Calls Try.prog fid #[.int .i64 x] w fun r w' => r = .returned (trip (s, e, k)) ∧ Below w.heap.size w w') (hm : l.length ≤ 1000000000) :
    Calls Try.prog 51 #[.pointer (some ⟨b, 0, none⟩), .slice (some ⟨c, 0, none⟩) n n, .func (.func fid) #[] #[], .int .i64 x] w fun r w' => r = .returned (.tuple #[]) ∧
      ∃ v', WrAt w' b v' (l ++ codeBits (codeV N s) (N.getD s 0) ++ bitsOf k e) ∧ But b v w w' ∧ Near w v v' := by
  have HF := Lib.hid hf
  have HW := Lib.hid hw
  have HC := Lib.hid hc
  clear hf hw hc
  obtain ⟨cx, hcx⟩ : ∃ cx, codeV N s = cx := ⟨_, rfl⟩
  obtain ⟨cy, hcy⟩ : ∃ cy, N.getD s 0 = cy := ⟨_, rfl⟩
  have HCC : Hid (∀ w', Below w.heap.size w w' → w'.cell? ⟨c, s * 2, none⟩ = some (.int .i64 cx) ∧ w'.cell? ⟨c, s * 2 + 1, none⟩ = some (.int .i64 cy)) := Lib.hid fun w' hb => by
    rw [← hcx, ← hcy]; exact (HC.out.below hb).cells s hs
  rw [hcx, hcy]
  clear hcx hcy HC
  have hE2 : ∀ w, (callFunc fid #[.int .i64 x]).run Try.prog w = .ok (.enter fid #[.int .i64 x]) w := fun w => hE _ w
  clear hE
  unfold trip at HF
  go_enter Try.func51, Try.ntmps51
  go_wp2_with fail
  refine (HF.out w).mono ?_
  rintro r w1 ⟨rfl, b1⟩
  have HB1 : Hid (But b v w w1) := Lib.hid (But.below b1)
  have HW1 := Lib.hid (wr_below HW.out b1)
  obtain ⟨c0, c1⟩ := HCC.out w1 b1
  have hs' : (s : Int) < n := by omega
  clear b1 HCC HF HW
  go_wp2_with fail
  refine (wcode_any b v l cx cy w1 HW1.out (by omega)).mono ?_
  rintro r w2 ⟨rfl, v2, h2, b2, n2⟩
  have HB2 := Lib.hid (HB1.out.trans (Near.refl _ _) b2)
  have HW2 := Lib.hid h2
  have HN2 : Hid (Near w v v2) := Lib.hid fun k hk => by
    rcases n2 k hk with h | h
    · exact .inl h
    · exact .inr (Nat.le_trans HB1.out.size h)
  clear h2 b2 n2 HB1 HW1 c0 c1
  go_wp2_with fail
  refine (wbits_any b v2 _ k e w2 HW2.out (by rw [List.length_append, Bit.codeBits_length]; have := Bit.cnt_le cy; omega)).mono ?_
  rintro r w3 ⟨rfl, v3, h3, b3, n3⟩
  have HB3 := Lib.hid (HB2.out.trans HN2.out b3)
  have HN3 := Lib.hid (HN2.out.trans n3 HB2.out.size)
  have hck : cnt (k : Int) = k := Bit.cnt_nat k hk
  rw [hck] at h3
  have HW3 := Lib.hid h3
  clear h3 b3 n3 HB2 HN2 HW2 hck
  go_wp2_with fail
  go_end0
  exact ⟨rfl, v3, HW3.out, HB3.out, HN3.out⟩

theorem covering_bad (a1 a2 : Option Addr) (n c1 m c2 : Nat) (L : List Int) (w : World) (hn : L.length = n) (h : IsInts w a1 L) (hl : n ≤ 1000000) (hf : fine L = false) :
    Calls Try.prog 49 #[.slice a1 n c1, .slice a2 m c2] w fun r w' => r = .returned (.tuple #[.slice none 0 0, .int .i64 50]) ∧ Below w.heap.size w w' := by
  have C1 := Lib.hid (codes_bad a1 n c1 L w hn h hl hf)
  clear h hf
  go_enter Try.func49, Try.ntmps49
  go_wp2_with fail
  refine C1.out.mono ?_
  rintro r w1 ⟨rfl, b1⟩
  have HB := Lib.hid b1
  clear b1
  go_wp2_with fail
  go_ret2
  exact ⟨rfl, HB.out⟩

/-- Has each symbol that comes a code? -/
def covB (N : List Nat) (f : Nat → Nat) : Nat → Bool
  | 0 => true
  | m + 1 => covB N f m && (decide (f m = 0) || decide (N.getD m 0 ≠ 0))
theorem covB_iff (N : List Nat) (f : Nat → Nat) : ∀ m, covB N f m = true ↔ ∀ s, s < m → f s ≠ 0 → N.getD s 0 ≠ 0
  | 0 => by simp [covB]
  | m + 1 => by
    unfold covB
    rw [Bool.and_eq_true, covB_iff N f m]
    constructor
    · rintro ⟨h1, h2⟩ s hs h0
      by_cases e : s = m
      · subst e
        simp only [Bool.or_eq_true, decide_eq_true_eq] at h2
        exact h2.resolve_left h0
      · exact h1 s (by omega) h0
    · intro h
      refine ⟨fun s hs h0 => h s (by omega) h0, ?_⟩
      simp only [Bool.or_eq_true, decide_eq_true_eq]
      by_cases h0 : f m = 0
      · exact .inl h0
      · exact .inr (h m (by omega) h0)
theorem covB_false {N : List Nat} {f : Nat → Nat} {m s : Nat} (hs : s < m) (h0 : f s ≠ 0) (h1 : N.getD s 0 = 0) : covB N f m = false := by
  cases h : covB N f m with
  | false => rfl
  | true => exact absurd h1 ((covB_iff N f m).1 h s hs h0)

set_option maxHeartbeats 2000000 in
theorem covering_good (a1 : Option Addr) (g n c1 m : Nat) (f : Nat → Nat) (L : List Int) (w : World) (hn : L.length = n) (h : IsInts w a1 L) (hf : fine L = true) (hg : AtN w g m f) (hm : m ≤ 1000) :
    Calls Try.prog 49 #[.slice a1 n c1, .slice (some ⟨g, 0, none⟩) m m] w fun r w' =>
      (covB (nats L) f m = true ∧ ∃ b, r = .returned (.tuple #[.slice (some ⟨b, 0, none⟩) n n, .int .i64 0]) ∧ CodesAt w' b n (nats L) ∧ Below w.heap.size w w') ∨
      (covB (nats L) f m = false ∧ r = .returned (.tuple #[.slice none 0 0, .int .i64 50]) ∧ Below w.heap.size w w') := by
  obtain ⟨f1, f2, f3⟩ := fine_parts hf
  have C1 := Lib.hid (codes_good a1 n c1 L w hn h hf)
  have hNl : (nats L).length = n := by rw [nats_length]; exact hn
  have HG := Lib.hid hg
  have hn320 : n ≤ 320 := by omega
  clear h hf f2 f3 f1 hg
  generalize nats L = N at *
  go_enter Try.func49, Try.ntmps49
  go_wp2_with fail
  refine C1.out.mono ?_
  rintro r w1 ⟨b, rfl, b1, o1⟩
  have HB := Lib.hid b1
  have HG1 := Lib.hid (HG.out.below b1)
  have HC : Hid (CodesAt w1 b n N) := Lib.hid (by
    refine ⟨o1.1, ?_⟩
    rcases o1.2 with h0 | ⟨g', cap, cur, h1, _, h3⟩
    · exact .inl h0
    · exact .inr ⟨g', cap, cur, h1, Nat.zero_le _, h3⟩)
  clear b1 o1 C1 HG
  go_wp2_with fail
  go_loopw [20] (fun i wr => ∃ k : Nat, k ≤ m ∧ i = .int .i64 k ∧ covB N f k = true ∧ wr = w1) (fun i _ => m - (intOf i).toNat)
  case atStart => exact ⟨0, Nat.zero_le _, rfl, rfl, rfl⟩
  case round =>
    obtain ⟨k, hk, rfl, hcov, rfl⟩ := hrel
    by_cases hlt : k < m
    · have hlt' : (k : Int) < m := by omega
      have ck := HG1.out.cell k hlt
      have HCV := Lib.hid hcov
      clear hcov
      by_cases h0 : f k = 0
      · have d0 : decide ((0 : Int) < (f k : Nat)) = false := by simp; omega
        have HN := Lib.hid (show covB N f (k + 1) = true by unfold covB; rw [HCV.out, decide_eq_true h0]; rfl)
        generalize f k = x at *
        go_wp2_with fail
        refine ⟨⟨k + 1, by omega, by go_num, HN.out, by first | trivial | rfl⟩, ?_⟩
        simp [intOf]; omega
      · have d0 : decide ((0 : Int) < (f k : Nat)) = true := by simp; omega
        have p0 : 0 < f k := by omega
        by_cases hkn : k < n
        · have d1 : decide ((n : Int) ≤ (k : Int)) = false := by simp; omega
          have p1 : ¬ (n ≤ k) := by omega
          obtain ⟨e0, e1⟩ := HC.out.cells k hkn
          by_cases hz : N.getD k 0 = 0
          · have HF := Lib.hid (covB_false (N := N) (f := f) hlt h0 hz)
            rw [hz] at e1
            have d2 : (((0 : Nat) : Int) == 0) = true := rfl
            generalize f k = x at *
            go_wp2_with fail
            go_ret2
            exact .inr ⟨HF.out, rfl, HB.out⟩
          · have HN := Lib.hid (show covB N f (k + 1) = true by unfold covB; rw [HCV.out, decide_eq_true hz]; simp)
            have d2 : (((N.getD k 0 : Nat) : Int) == 0) = false := by generalize N.getD k 0 = y at *; simpa using hz
            generalize f k = x at *
            generalize N.getD k 0 = y at *
            go_wp2_with fail
            refine ⟨⟨k + 1, by omega, by go_num, HN.out, by first | trivial | rfl⟩, ?_⟩
            simp [intOf]; omega
        · have d1 : decide ((n : Int) ≤ (k : Int)) = true := by simp; omega
          have p1 : n ≤ k := by omega
          have HF := Lib.hid (covB_false (N := N) (f := f) hlt h0 (by rw [List.getD_eq_getElem?_getD, List.getElem?_eq_none (by omega)]; rfl))
          generalize f k = x at *
          go_wp2_with fail
          go_ret2
          exact .inr ⟨HF.out, rfl, HB.out⟩
    · obtain rfl : k = m := by omega
      have HCV := Lib.hid hcov
      clear hcov
      go_wp2_with fail
      go_ret2
      exact .inl ⟨HCV.out, b, rfl, HC.out, HB.out⟩
end Go.Proofs.Ytikfenimgjeplaa.Sym
