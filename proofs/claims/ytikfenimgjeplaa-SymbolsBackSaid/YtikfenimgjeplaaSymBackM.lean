/-
  What is written is read again: plain facts.
-/
import Derived.Test.YtikfenimgjeplaaSymReadB
import Derived.Test.YtikfenimgjeplaaSymWrite
namespace Go.Proofs.Ytikfenimgjeplaa.Sym
open Go.Proofs.Ytikfenimgjeplaa.Huf (nxG nx_code bigN_code nextB codeV codeV_lt used top fst symsOf fine nats nats_le fine_parts bigN)
open Go.Proofs.Ytikfenimgjeplaa.Bit (rV rI rOk errI num num_bitsOf bitsOf bitsOf_length cnt cnt_nat codeBits codeBits_length)
open Go.Proofs.Ytikfenimgjeplaa.Lz (Tok okT okT_byte okT_piece)
set_option linter.unusedVariables false
set_option maxRecDepth 100000

/-- The row T has l at p. -/
def Has (T : List Bool) (p : Nat) (l : List Bool) : Prop := p + l.length ≤ T.length ∧ (T.drop p).take l.length = l
theorem Has.left {T a b : List Bool} {p : Nat} (h : Has T p (a ++ b)) : Has T p a := by
  obtain ⟨h1, h2⟩ := h
  rw [List.length_append] at h1 h2
  refine ⟨by omega, ?_⟩
  have := congrArg (List.take a.length) h2
  rw [List.take_take, Nat.min_eq_left (by omega), List.take_left] at this
  exact this
theorem Has.right {T a b : List Bool} {p : Nat} (h : Has T p (a ++ b)) : Has T (p + a.length) b := by
  obtain ⟨h1, h2⟩ := h
  rw [List.length_append] at h1 h2
  refine ⟨by omega, ?_⟩
  have := congrArg (List.drop a.length) h2
  rw [List.drop_take, List.drop_drop, List.drop_left, Nat.add_sub_cancel_left] at this
  exact this
theorem Has.whole (a z : List Bool) : Has (a ++ z) 0 a := ⟨by rw [List.length_append]; omega, by rw [List.drop_zero, List.take_left]⟩

/-- Where a symbol's code stands the symbol is read. -/
theorem nx_at {N : List Nat} {T : List Bool} {p s : Nat} (h15 : ∀ x ∈ N, x ≤ 15) (hU : used N 15 ≤ 32768) (h0 : N.getD s 0 ≠ 0) (h : Has T p (cd N s)) : nxG N T p false 15 0 0 = (s, 0, p + (cd N s).length, false) ∧ 1 ≤ (cd N s).length := by
  have hs : s < N.length := by
    rcases Nat.lt_or_ge s N.length with h1 | h1
    · exact h1
    · exact absurd (by rw [List.getD_eq_getElem?_getD, List.getElem?_eq_none h1]; rfl) h0
  have g : N.getD s 0 = N[s] := by rw [List.getD_eq_getElem?_getD, List.getElem?_eq_getElem hs]; rfl
  have hl15 : N[s] ≤ 15 := h15 _ (List.getElem_mem hs)
  have h1 : 1 ≤ N[s] := by rw [g] at h0; omega
  have hlt := codeV_lt N s N[s] hs rfl h1 hl15 hU
  obtain ⟨e1, e2⟩ := bigN_code (codeV N s) N[s] hl15 hlt
  have hcd : cd N s = codeBits (codeV N s : Nat) (N[s] : Nat) := by unfold cd; rw [g]
  rw [← hcd] at e1 e2
  obtain ⟨k1, k2⟩ := h
  rw [e2] at k1 k2 ⊢
  exact ⟨nx_code N T p s N[s] h15 hs rfl h1 k1 (by unfold nextB; rw [k2]; exact e1), h1⟩

/-- Where a number's bits stand the number is read. -/
theorem num_at {o1 k e p : Nat} {T : List Bool} (ho : o1 ≠ 0) (he : e < 2 ^ k) (h : Has T p (bitsOf k (e : Int))) : numG (o1, k) T p = (o1 + e, 0, p + k, false) := by
  obtain ⟨k1, k2⟩ := h
  rw [bitsOf_length] at k1 k2
  have h1 : rOk T p false k = true := by unfold rOk; simp; omega
  have h2 : num (bitsOf k (e : Int)) = e := by
    have := num_bitsOf k (e : Int)
    have h3 : ((e : Int)) % 2 ^ k = (e : Int) := Int.emod_eq_of_lt (by omega) (by exact_mod_cast he)
    rw [h3] at this
    exact_mod_cast this
  unfold numG
  rw [if_neg ho]
  have h3 : rV T p false k = e := by unfold rV; rw [if_pos h1, k2, h2]
  have h4 : rI T p false k = p + k := by unfold rI; rw [if_pos h1]
  simp only [h1, h3, h4]
  rfl

/-- Where a token stands the token is read. -/
theorem tok_at {N M : List Nat} {T : List Bool} {p : Nat} {t : Tok} (n15 : ∀ x ∈ N, x ≤ 15) (nU : used N 15 ≤ 32768) (m15 : ∀ x ∈ M, x ≤ 15) (mU : used M 15 ≤ 32768) (hv : okT t = true)
    (hN : N.getD (litN t) 0 ≠ 0) (hM : t.L ≠ 0 → M.getD (di t.D.toNat) 0 ≠ 0) (h : Has T p (tokW N M t)) :
    ∃ q, nxG N T p false 15 0 0 = (litN t, 0, q, false) ∧ litN t ≠ 256 ∧ tokG M T q (litN t) = (t, 0, p + (tokW N M t).length, false) ∧ 1 ≤ (tokW N M t).length := by
  by_cases h0 : t.L = 0
  · obtain ⟨hD, hB0, hB1⟩ := okT_byte hv h0
    have hl : litN t = t.B.toNat := by unfold litN; rw [if_pos h0]
    have hw : tokW N M t = cd N t.B.toNat := by unfold tokW; rw [if_pos h0]
    rw [hl] at hN ⊢
    rw [hw] at h ⊢
    obtain ⟨e1, e2⟩ := nx_at n15 nU hN h
    refine ⟨_, e1, by omega, ?_, e2⟩
    rw [tokG_byte (by omega)]
    have : t = ⟨(t.B.toNat : Nat), 0, 0⟩ := by
      obtain ⟨b, l, d⟩ := t
      simp only at h0 hD hB0 ⊢
      subst h0; subst hD
      congr 1; omega
    rw [← this]
  · obtain ⟨hB, hL1, hL2, hD1, hD2⟩ := okT_piece hv h0
    have hl : litN t = 257 + li t.L.toNat := by unfold litN; rw [if_neg h0]
    have hw : tokW N M t = (cd N (257 + li t.L.toNat) ++ bitsOf (LX (li t.L.toNat)) (t.L.toNat - LB (li t.L.toNat) : Nat)) ++ (cd M (di t.D.toNat) ++ bitsOf (DX (di t.D.toNat)) (t.D.toNat - DB (di t.D.toNat) : Nat)) := by unfold tokW; rw [if_neg h0]
    obtain ⟨p1, p2, p3⟩ := li_spec t.L.toNat (by omega) (by omega)
    obtain ⟨q1, q2, q3⟩ := di_spec t.D.toNat (by omega) (by omega)
    have hM' := hM h0
    have oL : lenO ((257 + li t.L.toNat : Nat) : Int) = (LB (li t.L.toNat), LX (li t.L.toNat)) := by
      unfold lenO; rw [if_pos (by omega), show ((257 + li t.L.toNat : Nat) : Int).toNat - 257 = li t.L.toNat by omega]
    have oD : distO ((di t.D.toNat : Nat) : Int) = (DB (di t.D.toNat), DX (di t.D.toNat)) := by
      unfold distO; rw [if_pos (by omega), Int.toNat_natCast]
    have bL := (LB_pos ⟨li t.L.toNat, p1⟩).1
    have bD := (DB_pos ⟨di t.D.toNat, q1⟩).1
    simp only at bL bD
    rw [hl] at hN ⊢
    rw [hw] at h ⊢
    have h1 := h.left
    have h2 := h.right
    obtain ⟨e1, e2⟩ := nx_at n15 nU hN h1.left
    have e3 := num_at (o1 := LB (li t.L.toNat)) (by omega) (by omega) h1.right
    obtain ⟨e4, e5⟩ := nx_at m15 mU hM' h2.left
    have e6 := num_at (o1 := DB (di t.D.toNat)) (by omega) (by omega) h2.right
    have ht : t = ⟨0, ((LB (li t.L.toNat) + (t.L.toNat - LB (li t.L.toNat)) : Nat) : Int), ((DB (di t.D.toNat) + (t.D.toNat - DB (di t.D.toNat)) : Nat) : Int)⟩ := by
      have a1 : ((LB (li t.L.toNat) + (t.L.toNat - LB (li t.L.toNat)) : Nat) : Int) = t.L := by omega
      have a2 : ((DB (di t.D.toNat) + (t.D.toNat - DB (di t.D.toNat)) : Nat) : Int) = t.D := by omega
      rw [a1, a2]
      obtain ⟨b, l, d⟩ := t
      simp only at hB ⊢
      rw [hB]
    refine ⟨_, e1, by omega, ?_, by rw [List.length_append, List.length_append]; omega⟩
    rw [List.length_append, bitsOf_length, ← Nat.add_assoc] at e4 e6
    have e7 := tokG_ok (M := M) (T := T) (i := p + (cd N (257 + li t.L.toNat)).length) (s := 257 + li t.L.toNat) (by omega) (by rw [oL]; exact e3) e4 (by rw [oD]; exact e6)
    rw [e7, ← ht]
    congr 2
    rw [List.length_append, List.length_append, List.length_append, bitsOf_length, bitsOf_length]
    congr 1
    omega

/-- Where tokens and the End stand they are read. -/
theorem read_at {N M : List Nat} {T : List Bool} (n15 : ∀ x ∈ N, x ≤ 15) (nU : used N 15 ≤ 32768) (m15 : ∀ x ∈ M, x ≤ 15) (mU : used M 15 ≤ 32768) (he : N.getD 256 0 ≠ 0) (most : Int) : ∀ (l : List Tok) (f i made : Nat) (acc : List Tok),
    (∀ t ∈ l, okT t = true ∧ N.getD (litN t) 0 ≠ 0 ∧ (t.L ≠ 0 → M.getD (di t.D.toNat) 0 ≠ 0)) → Has T i (toksW N M l ++ cd N 256) → l.length < f → ((made + 300 * l.length : Nat) : Int) ≤ most →
    readG N M T most f i made acc = (acc ++ l, 0, i + (toksW N M l ++ cd N 256).length, false) := by
  intro l
  induction l with
  | nil =>
    intro f i made acc _ h hf _
    obtain ⟨f, rfl⟩ : ∃ f', f = f' + 1 := ⟨f - 1, by simp at hf; omega⟩
    have e0 : toksW N M [] = [] := rfl
    rw [e0, List.nil_append] at h ⊢
    rw [readG_end (nx_at n15 nU he h).1, List.append_nil]
  | cons t l ih =>
    intro f i made acc hall h hf hm
    rw [List.length_cons] at hf hm
    obtain ⟨f, rfl⟩ : ∃ f', f = f' + 1 := ⟨f - 1, by omega⟩
    obtain ⟨hv, hN, hM⟩ := hall t (List.mem_cons_self)
    have ew : toksW N M (t :: l) = tokW N M t ++ toksW N M l := by simp [toksW]
    rw [ew, List.append_assoc] at h ⊢
    obtain ⟨q, e1, e2, e3, _⟩ := tok_at n15 nU m15 mU hv hN hM h.left
    have hL : t.L.toNat ≤ 258 := by
      by_cases h0 : t.L = 0
      · omega
      · have := okT_piece hv h0; omega
    rw [readG_next e1 e2 e3 (by omega), ih f _ _ _ (fun u hu => hall u (List.mem_cons_of_mem _ hu)) h.right (by omega) (by omega)]
    have e9 : i + (tokW N M t).length + (toksW N M l ++ cd N 256).length = i + (tokW N M t ++ (toksW N M l ++ cd N 256)).length := by simp only [List.length_append]; omega
    rw [e9, List.append_assoc]
    rfl

theorem toks_long {N M : List Nat} (l : List Tok) (h : ∀ t ∈ l, 1 ≤ (tokW N M t).length) : l.length ≤ (toksW N M l).length := by
  induction l with
  | nil => simp [toksW]
  | cons t l ih =>
    have ew : toksW N M (t :: l) = tokW N M t ++ toksW N M l := by simp [toksW]
    rw [ew, List.length_append, List.length_cons]
    have h1 := h t (List.mem_cons_self)
    have h2 := ih fun u hu => h u (List.mem_cons_of_mem _ hu)
    omega

/-- WHAT IS WRITTEN IS READ AGAIN, whatever stands behind it. -/
theorem back {L M : List Int} {l : List Tok} (hv : l.all okT = true) (hL : cvB L (litC l) 286 = true) (hM : cvB M (dstC l) 30 = true) (Z : List Bool) (most : Int) (hm : ((300 * l.length : Nat) : Int) ≤ most) :
    rdG L M (wrBits (nats L) (nats M) l ++ Z) 0 most = (l, 0, (wrBits (nats L) (nats M) l).length, false) := by
  unfold cvB at hL hM
  rw [Bool.and_eq_true] at hL hM
  obtain ⟨f1, c1⟩ := hL
  obtain ⟨f2, c2⟩ := hM
  obtain ⟨_, g1, u1⟩ := fine_parts f1
  obtain ⟨_, g2, u2⟩ := fine_parts f2
  have hall : ∀ t ∈ l, okT t = true ∧ (nats L).getD (litN t) 0 ≠ 0 ∧ (t.L ≠ 0 → (nats M).getD (di t.D.toNat) 0 ≠ 0) := fun t ht => by
    have h1 := (List.all_eq_true.1 hv) t ht
    exact ⟨h1, (covB_iff _ _ _).1 c1 _ (litN_lt h1) (lit_needs ht h1), fun h0 => (covB_iff _ _ _).1 c2 _ (di_lt h1 h0) (dst_needs ht h1 h0)⟩
  have he := (covB_iff _ _ _).1 c1 256 (by decide) (end_needs l)
  have hh : Has (wrBits (nats L) (nats M) l ++ Z) 0 (toksW (nats L) (nats M) l ++ cd (nats L) 256) := Has.whole _ _
  have hlong : l.length ≤ (toksW (nats L) (nats M) l).length := toks_long l fun t ht => by
    obtain ⟨h1, h2, h3⟩ := hall t ht
    unfold tokW
    have hcd : ∀ s, (nats L).getD s 0 ≠ 0 → 1 ≤ (cd (nats L) s).length := fun s h => by
      unfold cd
      rw [codeBits_length]
      have hx : (nats L).getD s 0 ≤ 15 := by
        rcases Nat.lt_or_ge s (nats L).length with h5 | h5
        · rw [List.getD_eq_getElem?_getD, List.getElem?_eq_getElem h5]; exact nats_le g1 _ (List.getElem_mem h5)
        · rw [List.getD_eq_getElem?_getD, List.getElem?_eq_none h5]; exact Nat.zero_le _
      rw [cnt_nat _ (by omega)]; omega
    unfold litN at h2
    split
    · rename_i h0; rw [if_pos h0] at h2; exact hcd _ h2
    · rename_i h0; rw [if_neg h0] at h2
      have := hcd _ h2
      rw [List.length_append, List.length_append]; omega
  unfold rdG
  rw [if_pos ⟨f1, f2⟩]
  rw [read_at (nats_le g1) u1 (nats_le g2) u2 he most l _ 0 0 [] hall hh (by unfold wrBits; rw [List.length_append, List.length_append]; omega) (by rw [Nat.zero_add]; exact hm)]
  rw [List.nil_append, Nat.zero_add]
  rfl
end Go.Proofs.Ytikfenimgjeplaa.Sym
