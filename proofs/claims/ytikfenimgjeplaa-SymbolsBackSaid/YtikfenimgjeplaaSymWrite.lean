/-
  Contract of symbols.Write.
-/
import Derived.Test.YtikfenimgjeplaaSymPut
import Derived.Test.YtikfenimgjeplaaSymCountR
namespace Go.Proofs.Ytikfenimgjeplaa.Sym
open Go.ChangeShapes Go.WideShapes Go.ChangeAt Go.RowKit
open Go.Proofs.Ytikfenimgjeplaa.Huf (IsInts fine nats nats_length codeV fine_parts)
open Go.Proofs.Ytikfenimgjeplaa.Lz (Tok okT tokC IsToks TokAt okT_byte okT_piece valid_any)
open Go.Proofs.Ytikfenimgjeplaa.Bit (WrAt WrRaw But Near wbits_any wcode_any codeBits codeBits_length bitsOf bitsOf_length cnt cnt_le)
set_option linter.unusedVariables false
set_option maxRecDepth 100000

/-- A symbol's code, bit by bit; a token; tokens and the End. -/
def cd (N : List Nat) (i : Nat) : List Bool := codeBits (codeV N i : Nat) (N.getD i 0 : Nat)
def tokW (N M : List Nat) (t : Tok) : List Bool :=
  if t.L = 0 then cd N t.B.toNat
  else (cd N (257 + li t.L.toNat) ++ bitsOf (LX (li t.L.toNat)) (t.L.toNat - LB (li t.L.toNat) : Nat)) ++ (cd M (di t.D.toNat) ++ bitsOf (DX (di t.D.toNat)) (t.D.toNat - DB (di t.D.toNat) : Nat))
def toksW (N M : List Nat) (l : List Tok) : List Bool := l.flatMap (tokW N M)
def wrBits (N M : List Nat) (l : List Tok) : List Bool := toksW N M l ++ cd N 256

theorem cd_length (N : List Nat) (i : Nat) : (cd N i).length ≤ 32 := by unfold cd; rw [codeBits_length]; exact cnt_le _
theorem tokW_length (N M : List Nat) (t : Tok) : (tokW N M t).length ≤ 90 := by
  unfold tokW
  have h1 := cd_length N t.B.toNat
  have h2 := cd_length N (257 + li t.L.toNat)
  have h3 := cd_length M (di t.D.toNat)
  have h4 := LX_le (li t.L.toNat)
  have h5 := DX_le (di t.D.toNat)
  split
  · omega
  · rw [List.length_append, List.length_append, List.length_append, bitsOf_length, bitsOf_length]; omega
theorem toksW_length (N M : List Nat) (l : List Tok) : (toksW N M l).length ≤ 90 * l.length := by
  unfold toksW
  induction l with
  | nil => simp
  | cons t l ih => rw [List.flatMap_cons, List.length_append, List.length_cons]; have := tokW_length N M t; omega
theorem toksW_snoc (N M : List Nat) (l : List Tok) (t : Tok) : toksW N M (l ++ [t]) = toksW N M l ++ tokW N M t := by simp [toksW]

/-- Can the codes be, and has each needed symbol one? -/
def cvB (L : List Int) (f : Nat → Nat) (m : Nat) : Bool := fine L && covB (nats L) f m
/-- What Write answers. -/
def wrE (L M : List Int) (l : List Tok) : Int := if l.all okT = true then (if cvB L (litC l) 286 = true ∧ cvB M (dstC l) 30 = true then 0 else 50) else 1

theorem covering_any (a1 : Option Addr) (g n c1 m : Nat) (f : Nat → Nat) (L : List Int) (w : World) (hn : L.length = n) (h : IsInts w a1 L) (hl : n ≤ 1000000) (hg : AtN w g m f) (hm : m ≤ 1000) :
    Calls Try.prog 49 #[.slice a1 n c1, .slice (some ⟨g, 0, none⟩) m m] w fun r w' =>
      (cvB L f m = true ∧ ∃ b, r = .returned (.tuple #[.slice (some ⟨b, 0, none⟩) n n, .int .i64 0]) ∧ CodesAt w' b n (nats L) ∧ Below w.heap.size w w') ∨
      (cvB L f m = false ∧ r = .returned (.tuple #[.slice none 0 0, .int .i64 50]) ∧ Below w.heap.size w w') := by
  unfold cvB
  cases hf : fine L with
  | false =>
    refine (covering_bad a1 (some ⟨g, 0, none⟩) n c1 m m L w hn h hl hf).mono ?_
    rintro r w' ⟨rfl, hb⟩
    exact .inr ⟨rfl, rfl, hb⟩
  | true =>
    refine (covering_good a1 g n c1 m f L w hn h hf hg hm).mono ?_
    rintro r w' (⟨h1, h2⟩ | ⟨h1, h2⟩)
    · exact .inl ⟨by rw [h1]; rfl, h2⟩
    · exact .inr ⟨by rw [h1]; rfl, h2⟩

theorem all_take_succ {l : List Tok} {k : Nat} (h : k < l.length) (h1 : (l.take k).all okT = true) (h2 : okT l[k] = true) : (l.take (k + 1)).all okT = true := by
  rw [take_next l k h, List.all_append, h1]; simp [h2]
theorem all_false {l : List Tok} {k : Nat} (h : k < l.length) (h2 : okT l[k] = false) : ¬ (l.all okT = true) := by
  intro h3
  have := (List.all_eq_true.1 h3) l[k] (List.getElem_mem h)
  rw [h2] at this; cases this

/-- A symbol that comes has a code, and so there is one. -/
theorem has_code {N : List Nat} {f : Nat → Nat} {m n s : Nat} (hN : N.length = n) (h : covB N f m = true) (hs : s < m) (h0 : f s ≠ 0) : s < n := by
  have := (covB_iff N f m).1 h s hs h0
  rcases Nat.lt_or_ge s n with h1 | h1
  · exact h1
  · exact absurd (by rw [List.getD_eq_getElem?_getD, List.getElem?_eq_none (by omega)]; rfl) this
theorem lit_needs {l : List Tok} {t : Tok} (ht : t ∈ l) (hv : okT t = true) : litC l (litN t) ≠ 0 := by
  unfold litC
  have : litN t ∈ litsOf l ++ [256] := List.mem_append.2 (.inl (List.mem_map.2 ⟨t, List.mem_filter.2 ⟨ht, hv⟩, rfl⟩))
  have := List.count_pos_iff.2 this
  omega
theorem dst_needs {l : List Tok} {t : Tok} (ht : t ∈ l) (hv : okT t = true) (h0 : t.L ≠ 0) : dstC l (di t.D.toNat) ≠ 0 := by
  unfold dstC
  have : di t.D.toNat ∈ dstsOf l := List.mem_map.2 ⟨t, List.mem_filter.2 ⟨List.mem_filter.2 ⟨ht, hv⟩, by simpa using h0⟩, rfl⟩
  have := List.count_pos_iff.2 this
  omega
theorem end_needs (l : List Tok) : litC l 256 ≠ 0 := by
  unfold litC
  have : 256 ∈ litsOf l ++ [256] := List.mem_append.2 (.inr (by simp))
  have := List.count_pos_iff.2 this
  omega

set_option maxHeartbeats 4000000 in
theorem write_any (b : Nat) (v : Value) (l0 : List Bool) (a1 a2 a3 : Option Addr) (n c1 m c2 q c3 : Nat) (L M : List Int) (l : List Tok) (w : World)
    (hw : WrAt w b v l0) (hL : L.length = n) (hM : M.length = m) (hl : l.length = q) (iL : IsInts w a1 L) (iM : IsInts w a2 M) (iT : IsToks w a3 l)
    (ap : 0 < q → ∀ x, a3 = some x → x.block ≠ b ∧ v.ownBlock ≠ some x.block) (hn : n ≤ 1000000) (hm : m ≤ 1000000) (hq : q ≤ 1000000) (h0 : l0.length ≤ 800000000) :
    Calls Try.prog 26 #[.pointer (some ⟨b, 0, none⟩), .slice a1 n c1, .slice a2 m c2, .slice a3 q c3] w fun r w' =>
      r = .returned (.int .i64 (wrE L M l)) ∧ ∃ v', WrAt w' b v' (l0 ++ if wrE L M l = 0 then wrBits (nats L) (nats M) l else []) ∧ But b v w w' ∧ Near w v v' := by
  have HW := Lib.hid hw
  have IL := Lib.hid iL
  have IM := Lib.hid iM
  have IT := Lib.hid iT
  have AP := Lib.hid ap
  clear hw iL iM iT ap
  obtain ⟨E, hE⟩ : ∃ E, wrE L M l = E := ⟨_, rfl⟩
  rw [hE]
  have HE := Lib.hid hE
  clear hE
  have NONE : Hid (∀ w', Below w.heap.size w w' → ∃ v', WrAt w' b v' l0 ∧ But b v w w' ∧ Near w v v') := Lib.hid fun w' h2 =>
    ⟨v, wr_below HW.out h2, But.below h2, Near.refl _ _⟩
  go_enter Try.func26, Try.ntmps26
  go_wp2_with fail
  go_loopw [20] (fun i wr => ∃ k : Nat, k ≤ q ∧ i = .int .i64 k ∧ (l.take k).all okT = true ∧ Below w.heap.size w wr) (fun i _ => q - (intOf i).toNat)
  case atStart => exact ⟨0, Nat.zero_le _, rfl, rfl, Below.refl _ _⟩
  case round =>
    obtain ⟨k, hk, rfl, hall, hb⟩ := hrel
    by_cases hlt : k < q
    · obtain ⟨bb, off, rfl, hbb, hc⟩ := IT.out (by omega)
      obtain ⟨q1, q2, q3⟩ := hc k (by omega)
      have c1 := (hb.cell (p := ⟨bb, off + k * 3, none⟩) hbb).trans q1
      have c2 := (hb.cell (p := ⟨bb, off + k * 3 + 1, none⟩) hbb).trans q2
      have c3 := (hb.cell (p := ⟨bb, off + k * 3 + 2, none⟩) hbb).trans q3
      have hkl : k < l.length := by omega
      have AN := Lib.hid (fun (h : okT l[k] = true) => all_take_succ hkl hall h)
      have AF := Lib.hid (fun (h : okT l[k] = false) => all_false hkl h)
      clear hc hbb q1 q2 q3 hall
      generalize l[k] = t at *
      have HB := Lib.hid hb
      clear hb
      go_wp2_with fail
      refine (valid_any t _).mono ?_
      rintro r w' ⟨rfl, rfl⟩
      obtain ⟨_, b2, _⟩ := two_tok wr t
      generalize ((wr.alloc (.cells #[.int .i64 t.B, .int .i64 t.L, .int .i64 t.D] 64)).alloc (.cells (tokC t) 64)) = w2 at *
      have HB2 := Lib.hid (HB.out.trans (b2.mono HB.out.size))
      clear b2 HB c1 c2 c3
      cases hv : okT t with
      | false =>
        have e1 : E = 1 := by rw [← HE.out]; unfold wrE; rw [if_neg (AF.out hv)]
        subst e1
        clear hv
        go_wp2_with fail
        go_ret
        exact ⟨rfl, NONE.out _ HB2.out⟩
      | true =>
        have HA := Lib.hid (AN.out hv)
        clear hv
        go_wp2_with fail
        refine ⟨⟨k + 1, by omega, by go_num, HA.out, HB2.out⟩, ?_⟩
        simp [intOf]; omega
    · obtain rfl : k = q := by omega
      rw [List.take_of_length_le (by omega)] at hall
      have HALL := Lib.hid hall
      have HB := Lib.hid hb
      clear hall hb
      have CC := Lib.hid (count_any a3 l k c3 wr hl (IT.out.below HB.out (Nat.le_refl _)) (by omega))
      go_wp2_with fail
      refine CC.out.mono ?_
      rintro r w2 ⟨g1, g2, rfl, n1, n2, b2⟩
      have HB2 := Lib.hid (HB.out.trans (b2.mono HB.out.size))
      have HG1 := Lib.hid n1
      have HG2 := Lib.hid n2
      clear b2 n1 n2 CC HB
      have C1 := Lib.hid (covering_any a1 g1 n c1 286 (litC l) L w2 hL (IL.out.below HB2.out (Nat.le_refl _)) hn HG1.out (by omega))
      go_wp2_with fail
      refine C1.out.mono ?_
      rintro r w3 (⟨cv1, x1, rfl, hc1, b3⟩ | ⟨cv1, rfl, b3⟩)
      · have HB3 := Lib.hid (HB2.out.trans (b3.mono HB2.out.size))
        have HG2' := Lib.hid (HG2.out.below b3)
        have HC1 := Lib.hid hc1
        have CV1 := Lib.hid cv1
        clear hc1 b3 C1 HG1 HG2 HB2 cv1
        have C2 := Lib.hid (covering_any a2 g2 m c2 30 (dstC l) M w3 hM (IM.out.below HB3.out (Nat.le_refl _)) hm HG2'.out (by omega))
        go_wp2_with fail
        refine C2.out.mono ?_
        rintro r w4 (⟨cv2, x2, rfl, hc2, b4⟩ | ⟨cv2, rfl, b4⟩)
        · have HB4 := Lib.hid (HB3.out.trans (b4.mono HB3.out.size))
          have HC1' := Lib.hid (HC1.out.below b4)
          have HC2 := Lib.hid hc2
          have CV2 := Lib.hid cv2
          have e0 : E = 0 := by rw [← HE.out]; unfold wrE; rw [if_pos HALL.out, if_pos ⟨CV1.out, cv2⟩]
          subst e0
          have HW4 := Lib.hid (wr_below HW.out HB4.out)
          clear hc2 b4 C2 HG2' HB3 HC1 cv2 IL IM
          have cov1 : covB (nats L) (litC l) 286 = true := by have h := CV1.out; unfold cvB at h; rw [Bool.and_eq_true] at h; exact h.2
          have cov2 : covB (nats M) (dstC l) 30 = true := by have h := CV2.out; unfold cvB at h; rw [Bool.and_eq_true] at h; exact h.2
          have hNl : (nats L).length = n := by rw [nats_length]; exact hL
          have hMl : (nats M).length = m := by rw [nats_length]; exact hM
          generalize hNL : nats L = N at *
          generalize hMK : nats M = K at *
          have HNK := Lib.hid (And.intro hNL hMK)
          clear hNL hMK
          have COV := Lib.hid (And.intro cov1 cov2)
          clear cov1 cov2 CV1 CV2 HE
          go_wp2_with fail
          go_loopw [53] (fun i wr => ∃ (j : Nat) (u : Value), j ≤ k ∧ i = .int .i64 j ∧ WrAt wr b u (l0 ++ toksW N K (l.take j)) ∧ But b v w4 wr ∧ Near w4 v u) (fun i _ => k - (intOf i).toNat)
          case atStart => exact ⟨0, v, Nat.zero_le _, rfl, by simpa [toksW] using HW4.out, But.refl _ _ _, Near.refl _ _⟩
          case round =>
            obtain ⟨j, u, hj, rfl, hw, hbut, hnear⟩ := hrel
            have hc1 := HC1'.out.but HW4.out hbut
            have hc2 := HC2.out.but HW4.out hbut
            have hlen := toksW_length N K (l.take j)
            have hlen2 : (l.take j).length ≤ 1000000 := by rw [List.length_take]; omega
            have hbits : (l0 ++ toksW N K (l.take j)).length ≤ 900000000 := by rw [List.length_append]; omega
            clear hlen hlen2
            by_cases hlt : j < k
            · have hlt' : (j : Int) < k := by omega
              have hjl : j < l.length := by omega
              obtain ⟨bb, off, rfl, hbb, hc⟩ := IT.out (by omega)
              obtain ⟨q1, q2, q3⟩ := hc j (by omega)
              obtain ⟨ne1, ne2⟩ := AP.out (by omega) _ rfl
              have hblk : wr.heap[bb]? = w.heap[bb]? := (hbut.block bb (Nat.lt_of_lt_of_le hbb HB4.out.size) ne1 (fun e => ne2 e.symm)).trans (HB4.out.block bb hbb)
              have c1 : wr.cell? ⟨bb, off + j * 3, none⟩ = _ := (World.cell?_of_block (w := w) (w' := wr) (a := ⟨bb, off + j * 3, none⟩) hblk).trans q1
              have c2 : wr.cell? ⟨bb, off + j * 3 + 1, none⟩ = _ := (World.cell?_of_block (w := w) (w' := wr) (a := ⟨bb, off + j * 3 + 1, none⟩) hblk).trans q2
              have c3 : wr.cell? ⟨bb, off + j * 3 + 2, none⟩ = _ := (World.cell?_of_block (w := w) (w' := wr) (a := ⟨bb, off + j * 3 + 2, none⟩) hblk).trans q3
              have hv : okT l[j] = true := (List.all_eq_true.1 HALL.out) l[j] (List.getElem_mem hjl)
              have hmem : l[j] ∈ l := List.getElem_mem hjl
              have TK := Lib.hid (show toksW N K (l.take (j + 1)) = toksW N K (l.take j) ++ tokW N K l[j] by rw [take_next l j hjl, toksW_snoc])
              clear hc q1 q2 q3 hblk
              generalize l[j] = t at *
              have LN := Lib.hid (has_code hNl COV.out.1 (litN_lt hv) (lit_needs hmem hv))
              by_cases hz : t.L = 0
              · obtain ⟨hD0, hB0, hB1⟩ := okT_byte hv hz
                obtain ⟨bN, hbN⟩ : ∃ bN : Nat, t.B = bN := ⟨t.B.toNat, by omega⟩
                have hlit : litN t = bN := by unfold litN; rw [if_pos hz]; omega
                have hs := LN.out
                rw [hlit] at hs
                have htw : tokW N K t = cd N bN := by unfold tokW; rw [if_pos hz, hbN]; rfl
                have hs' : (bN : Int) < n := by omega
                rw [hbN] at c1
                have hL1 : (t.L == 0) = true := by simpa using hz
                have hX := heap_alloc_new wr (.cells #[.int .i64 bN, .int .i64 t.L, .int .i64 t.D] 64)
                have bX : Below wr.heap.size wr (wr.alloc (.cells #[.int .i64 bN, .int .i64 t.L, .int .i64 t.D] 64)) := (Below.refl _ _).alloc (Nat.le_refl _) _
                generalize hW5 : wr.alloc (.cells #[.int .i64 bN, .int .i64 t.L, .int .i64 t.D] 64) = w5 at *
                obtain ⟨d0, d1, d2⟩ := tok_block hX
                obtain ⟨e0, e1⟩ := (hc1.below bX).cells bN hs
                have hbut5 := hbut.trans hnear (But.below (b := b) (v := u) bX)
                have hw5 := wr_below hw bX
                have n5 : w4.heap.size ≤ w5.heap.size := hbut5.size
                have H5 := Lib.hid (And.intro hw5 (And.intro hbut5 hnear))
                have HTW := Lib.hid htw
                have CODE := Lib.hid (fun bt ln => wcode_any b u (l0 ++ toksW N K (l.take j)) bt ln w5 hw5 (by omega))
                have HCD := Lib.hid (show cd N bN = codeBits (codeV N bN : Nat) (N.getD bN 0 : Nat) from rfl)
                generalize codeV N bN = cx at *
                generalize N.getD bN 0 = cy at *
                clear hw hbut hnear hc1 hc2 hX bX hw5 hbut5 htw hbits hlit hs hv hmem hbN hB0 hB1 HW4 hz hD0
                generalize hP : wr.heap.size = P at *
                go_wp2_with fail
                refine (CODE.out _ _).mono ?_
                rintro r w6 ⟨rfl, u6, h6, b6, m6⟩
                have HW6 : Hid (WrAt w6 b u6 (l0 ++ toksW N K (l.take (j + 1)))) := Lib.hid (by rw [TK.out, HTW.out, HCD.out, ← List.append_assoc]; exact h6)
                have HB6 := Lib.hid (H5.out.2.1.trans H5.out.2.2 b6)
                have HN6 := Lib.hid (H5.out.2.2.trans m6 n5)
                clear h6 b6 m6 H5 d0 d1 d2 e0 e1 CODE
                go_wp2_with fail
                refine ⟨⟨j + 1, u6, by omega, by go_num, HW6.out, HB6.out, HN6.out⟩, ?_⟩
                simp [intOf]; omega
              · have hpc := okT_piece hv hz
                have hlit : litN t = 257 + li t.L.toNat := by unfold litN; rw [if_neg hz]
                have hs1 := LN.out
                rw [hlit] at hs1
                have hs2 := has_code hMl COV.out.2 (di_lt hv hz) (dst_needs hmem hv hz)
                have htw : tokW N K t = (cd N (257 + li t.L.toNat) ++ bitsOf (LX (li t.L.toNat)) (t.L.toNat - LB (li t.L.toNat) : Nat)) ++ (cd K (di t.D.toNat) ++ bitsOf (DX (di t.D.toNat)) (t.D.toNat - DB (di t.D.toNat) : Nat)) := by
                  unfold tokW; rw [if_neg hz]
                have CL := Lib.hid (fun w => length_any t.L (by omega) w)
                have CD := Lib.hid (fun w => distance_any t.D (by omega) w)
                rw [len_sym hv hz] at CL
                rw [dist_sym hv hz] at CD
                have hx1 : LX (li t.L.toNat) ≤ 32 := by have := LX_le (li t.L.toNat); omega
                have hx2 : DX (di t.D.toNat) ≤ 32 := by have := DX_le (di t.D.toNat); omega
                generalize 257 + li t.L.toNat = sL at *
                generalize di t.D.toNat = sD at *
                generalize t.L.toNat - LB (li t.L.toNat) = eL at *
                generalize LX (li t.L.toNat) = bL at *
                generalize t.D.toNat - DB sD = eD at *
                generalize DX sD = bD at *
                have hX := heap_alloc_new wr (.cells #[.int .i64 t.B, .int .i64 t.L, .int .i64 t.D] 64)
                have bX : Below wr.heap.size wr (wr.alloc (.cells #[.int .i64 t.B, .int .i64 t.L, .int .i64 t.D] 64)) := (Below.refl _ _).alloc (Nat.le_refl _) _
                generalize hW5 : wr.alloc (.cells #[.int .i64 t.B, .int .i64 t.L, .int .i64 t.D] 64) = w5 at *
                obtain ⟨d0, d1, d2⟩ := tok_block hX
                have hPw : wr.heap.size < w5.heap.size := by rw [← hW5]; simp
                have hPb : wr.heap.size ≠ b := by have := WrRaw.lt hw; omega
                have hPv : some wr.heap.size ≠ u.ownBlock := fun e => by have := (hw.own.lt _ e.symm).2; omega
                have hcc1 := hc1.below bX
                have hcc2 := hc2.below bX
                have hbut5 := hbut.trans hnear (But.below (b := b) (v := u) bX)
                have hw5 := wr_below hw bX
                have n5 : w4.heap.size ≤ w5.heap.size := hbut5.size
                have H5 := Lib.hid (And.intro hw5 (And.intro hbut5 hnear))
                have HX5 := Lib.hid hX
                have HCC := Lib.hid (And.intro hcc1 hcc2)
                have HTW := Lib.hid htw
                have hL0 : (t.L == 0) = false := by simpa using hz
                have P1 := Lib.hid (put_any 10 b u (l0 ++ toksW N K (l.take j)) x1 n sL eL bL N t.L w5 hw5 hcc1 hs1 hx1 (enters_of Try.func10 (by kernel_rfl) rfl) (fun w => CL.out w) (by omega))
                clear hw hbut hnear hc1 hc2 hX bX hw5 hbut5 hcc1 hcc2 htw hlit hv hmem hpc HW4 CL
                generalize hP : wr.heap.size = P at *
                go_wp2_with fail
                refine P1.out.mono ?_
                rintro r w6 ⟨rfl, u6, h6, b6, m6⟩
                have hblk6 := (b6.block P hPw hPb hPv).trans HX5.out
                obtain ⟨d0, d1, d2⟩ := tok_block hblk6
                have hcc2 := HCC.out.2.but H5.out.1 b6
                have hcd : (l0 ++ toksW N K (l.take j) ++ codeBits (codeV N sL : Nat) (N.getD sL 0 : Nat) ++ bitsOf bL eL).length ≤ 1000000000 := by
                  rw [List.length_append, List.length_append, codeBits_length, bitsOf_length]
                  have := cnt_le (N.getD sL 0 : Nat)
                  omega
                have P2 := Lib.hid (put_any 12 b u6 _ x2 m sD eD bD K t.D w6 h6 hcc2 hs2 hx2 (enters_of Try.func12 (by kernel_rfl) rfl) (fun w => CD.out w) hcd)
                have HB6 := Lib.hid (H5.out.2.1.trans H5.out.2.2 b6)
                have HN6 := Lib.hid (H5.out.2.2.trans m6 n5)
                have n6 : w4.heap.size ≤ w6.heap.size := HB6.out.size
                clear hcd hcc2 b6 m6 P1 h6 hblk6 H5 HCC HX5 hbits
                go_wp2_with fail
                refine P2.out.mono ?_
                rintro r w7 ⟨rfl, u7, h7, b7, m7⟩
                have HW7 : Hid (WrAt w7 b u7 (l0 ++ toksW N K (l.take (j + 1)))) := Lib.hid (by
                  rw [TK.out, HTW.out]
                  simp only [List.append_assoc] at h7 ⊢
                  exact h7)
                have HB7 := Lib.hid (HB6.out.trans HN6.out b7)
                have HN7 := Lib.hid (HN6.out.trans m7 n6)
                clear h7 b7 m7 P2 d0 d1 d2
                go_wp2_with fail
                refine ⟨⟨j + 1, u7, by omega, by go_num, HW7.out, HB7.out, HN7.out⟩, ?_⟩
                simp [intOf]; omega
            · obtain rfl : j = k := by omega
              rw [List.take_of_length_le (by omega)] at hw hbits
              have hs := has_code hNl COV.out.1 (by decide) (end_needs l)
              have hs' : (256 : Int) < n := by omega
              obtain ⟨e0, e1⟩ := hc1.cells 256 hs
              have CODE := Lib.hid (fun bt ln => wcode_any b u (l0 ++ toksW N K l) bt ln wr hw (by omega))
              have H5 := Lib.hid (And.intro hbut hnear)
              have HCD := Lib.hid (show cd N 256 = codeBits (codeV N 256 : Nat) (N.getD 256 0 : Nat) from rfl)
              generalize codeV N 256 = cx at *
              generalize N.getD 256 0 = cy at *
              clear hw hbut hnear hc1 hc2 hbits HW4
              go_wp2_with fail
              refine (CODE.out _ _).mono ?_
              rintro r w6 ⟨rfl, u6, h6, b6, m6⟩
              have HW6 : Hid (WrAt w6 b u6 (l0 ++ wrBits N K l)) := Lib.hid (by unfold wrBits; rw [HCD.out, ← List.append_assoc]; exact h6)
              have HB6 := Lib.hid ((But.below HB4.out).trans (Near.refl _ _) (H5.out.1.trans H5.out.2 b6))
              have HN6 : Hid (Near w v u6) := Lib.hid fun i hi => by
                rcases H5.out.2.trans m6 H5.out.1.size i hi with h | h
                · exact .inl h
                · exact .inr (Nat.le_trans HB4.out.size h)
              clear h6 b6 m6 H5 e0 e1 CODE
              go_wp2_with fail
              go_ret
              exact ⟨rfl, u6, by rw [HNK.out.1, HNK.out.2]; exact HW6.out, HB6.out, HN6.out⟩
        · have e1 : E = 50 := by rw [← HE.out]; unfold wrE; rw [if_pos HALL.out, if_neg (by rw [cv2]; simp)]
          subst e1
          have HB4 := Lib.hid (HB3.out.trans (b4.mono HB3.out.size))
          clear b4 C2 cv2
          go_wp2_with fail
          go_ret
          exact ⟨rfl, NONE.out _ HB4.out⟩
      · have e1 : E = 50 := by rw [← HE.out]; unfold wrE; rw [if_pos HALL.out, if_neg (by rw [cv1]; simp)]
        subst e1
        have HB3 := Lib.hid (HB2.out.trans (b3.mono HB2.out.size))
        clear b3 C1 cv1
        go_wp2_with fail
        go_ret
        exact ⟨rfl, NONE.out _ HB3.out⟩
end Go.Proofs.Ytikfenimgjeplaa.Sym
