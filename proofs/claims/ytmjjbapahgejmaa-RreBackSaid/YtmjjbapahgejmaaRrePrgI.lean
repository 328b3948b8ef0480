/-
  The program of layer 17 (rre): the next pieces.
-/
import Derived.Test.YtmjjbapahgejmaaRreIns
import Derived.Test.YtmjjbapahgejmaaRreDecM
namespace Go.Proofs.Ytmjjbapahgejmaa.Rre
open Go.ChangeShapes Go.WideShapes Go.ChangeAt Go.RowKit Lz RowG RegVal Pln
open Go.Proofs.Ytmjjbapahgejmaa.Fmt (Fm FmAt size_any fget_any)
open Go.Proofs.Ytmjjbapahgejmaa.Oct (CurAt grown_trans grown_drew grown_of_below below_of_grown byS byI byE intV numI numE sizeB valL valL_bd keepE intV_bd int_any err_any)
set_option linter.unusedVariables false
set_option linter.unusedSimpArgs false
set_option maxRecDepth 100000

theorem get_cut {f : Fm} {t : ByteArray} {i : Nat} (h : i + f.size ≤ t.size) : f.get (t.extract i (i + f.size)) = f.get (t.extract i t.size) := by
  have e1 : (t.extract i (i + f.size)).data.toList.take f.size = (t.extract i t.size).data.toList.take f.size := by
    simp [Nat.min_eq_left (show f.size ≤ t.size - i by omega)]
    rw [List.take_take, List.take_take]
    congr 1
    omega
  have s1 : ¬ (t.extract i (i + f.size)).size < f.size := by rw [ByteArray.size_extract]; omega
  have s2 : ¬ (t.extract i t.size).size < f.size := by rw [ByteArray.size_extract]; omega
  unfold Fm.get
  rw [if_neg s1, if_neg s2, e1]
theorem grown_then {w W W' : World} {b : Nat} (h : w.grownBy W (some b)) (k : Below w.heap.size W W') : w.grownBy W' (some b) :=
  ⟨k.os.trans h.os, k.tape.trans h.tape, k.output.trans h.output, Nat.le_trans h.size k.size, fun i hi hn => (k.block i hi).trans (h.block i hi hn)⟩
theorem pcs_grown {T : TypeId} {B b : Nat} {w w' : World} {v : Value} {l : List Pc} (h : PcsAt T B w v l) (hb : b < B) (g : w.grownBy w' (some b)) : PcsAt T B w' v l :=
  RowAt.keep h (fun k hk => by
    obtain ⟨h1, cs, h2⟩ := own_type h k hk
    exact g.block k (Array.getElem?_eq_some_iff.1 h2).1 (by simp; omega))
theorem pcAt_f (f : Fm) (s : ByteArray) (i : Nat) : (pcAt f s i).x = twoN s (i + (f.B / 8).toNat) ∧ (pcAt f s i).y = twoN s (i + (f.B / 8).toNat + 2) ∧ (pcAt f s i).n = twoN s (i + (f.B / 8).toNat + 4) ∧ (pcAt f s i).m = twoN s (i + (f.B / 8).toNat + 6) := by
  unfold pcAt
  exact ⟨by dsimp only, by dsimp only, by dsimp only, by dsimp only⟩
/-- What the next value and the next rectangle are. -/
theorem next_is {f : Fm} (hok : f.ok = true) {t : ByteArray} {k : Nat} (h1 : posN f k ≤ t.size) {i' e' x y n m : Int}
    (hR : Rd t (byI t (posN f k : Nat) 0 f.size) (byE t (posN f k : Nat) 0 f.size) 4 i' e' [x, y, n, m]) :
    (t.size < posN f (k + 1) ∧ e' = 2) ∨ (posN f (k + 1) ≤ t.size ∧ e' = 0 ∧ i' = (posN f (k + 1) : Nat) ∧ f.get (byS t (posN f k : Nat) 0 f.size) = (pcAt f t (posN f k)).v ∧ x = (pcAt f t (posN f k)).x ∧ y = (pcAt f t (posN f k)).y ∧ n = (pcAt f t (posN f k)).n ∧ m = (pcAt f t (posN f k)).m) := by
  have hz : f.size = (f.B / 8).toNat := if_pos hok
  have hp := posN_succ f k
  rw [← hz] at hp
  by_cases hq : t.size < posN f k + f.size
  · have hE : byE t (posN f k : Nat) 0 f.size = 2 := by
      unfold byE
      rw [if_pos rfl, if_neg (by omega), if_pos (by omega)]
    rw [hE] at hR
    exact .inl ⟨by omega, hR.bad (by decide)⟩
  · have hE : byE t (posN f k : Nat) 0 f.size = 0 := by
      unfold byE
      rw [if_pos rfl, if_neg (by omega), if_neg (by omega)]
    have hI : byI t (posN f k : Nat) 0 f.size = ((posN f k + f.size : Nat) : Int) := by
      unfold byI
      rw [if_pos hE]
      omega
    have hS : byS t (posN f k : Nat) 0 f.size = t.extract (posN f k) (posN f k + f.size) := by
      unfold byS
      rw [if_pos hE]
      congr 1
    rw [hE, hI] at hR
    by_cases hq2 : t.size < posN f (k + 1)
    · rcases hR.few rfl (by omega) with ⟨h2, h3⟩ | h2
      · have := hR.hi
        omega
      · exact .inl ⟨hq2, h2⟩
    · obtain ⟨h2, h3, h4⟩ := hR.ok rfl (by omega)
      have key : ∀ j, j < 4 → px [x, y, n, m] j = (twoN t (posN f k + (f.B / 8).toNat + 2 * j) : Nat) := fun j hj => by
        have := h4 j hj
        rw [← hz]
        rw [this]
        congr 2
      obtain ⟨p1, p2, p3, p4⟩ := pcAt_f f t (posN f k)
      have y0 := key 0 (by decide)
      have y1 := key 1 (by decide)
      have y2 := key 2 (by decide)
      have y3 := key 3 (by decide)
      simp only [Nat.mul_zero, Nat.add_zero, Nat.mul_one, Nat.reduceMul] at y0 y1 y2 y3
      rw [← p1] at y0
      rw [← p2] at y1
      rw [← p3] at y2
      rw [← p4] at y3
      have x0 : x = (pcAt f t (posN f k)).x := y0
      have x1 : y = (pcAt f t (posN f k)).y := y1
      have x2 : n = (pcAt f t (posN f k)).n := y2
      have x3 : m = (pcAt f t (posN f k)).m := y3
      refine .inr ⟨by omega, h2, by omega, ?_, x0, x1, x2, x3⟩
      rw [hS, get_cut (by omega)]
      rfl
theorem ins_pc {p : Pc} {W H : Nat} : insQ p.x p.y p.n p.m W H = insN p W H := by
  unfold insN insQ
  rw [decide_eq_decide]
  omega
set_option maxHeartbeats 4000000 in
theorem readPieces_any (f : Fm) (hf : f.Wf) (hok : f.ok = true) (b : Nat) (t : ByteArray) (W H N : Nat) (w : World) (h : CurAt 99 w b t (posN f 0 : Nat) 0) (h1 : posN f 0 ≤ t.size) (ht : t.size ≤ 100000) (hW : W ≤ 4096) (hH : H ≤ 4096) (hN : N ≤ 4096 * 4096) :
    Calls Try.prog 46 #[.pointer (some ⟨b, 0, none⟩), f.v, .int .i64 W, .int .i64 H, .int .i64 N] w fun r w' => ∃ u, r = .returned (.tuple #[u, .int .i64 (decN f W H t N).e]) ∧
      ((decN f W H t N).e = 0 → SP w' u (pcsN f t N) ∧ CurAt 99 w' b t (posN f N : Nat) 0) ∧ w.grownBy w' (some b) := by
  have RV := Lib.hid (fun i e W (hc : CurAt 99 W b t i e) h0 h1 => readValue_any f hf b t i e W hc h0 h1 ht)
  have RR := Lib.hid (fun i e W (hc : CurAt 99 W b t i e) h0 h1 => readRect_any b t i e W hc h0 h1 ht)
  have ER := Lib.hid (fun i e W (hc : CurAt 99 W b t i e) => err_any b t i e W hc)
  have HNX := Lib.hid (fun k (hk : posN f k ≤ t.size) i' e' x y n m hR => next_is hok (k := k) hk (i' := i') (e' := e') (x := x) (y := y) (n := n) (m := m) hR)
  have HDK := Lib.hid (fun k h => dec_next (f := f) (W := W) (H := H) (s := t) (k := k) h)
  have HDS := Lib.hid (fun k h hn => dec_stop (f := f) (W := W) (H := H) (s := t) (k := k) (n := N) h hn)
  have HPS := Lib.hid (pcsN_succ f t)
  have HPL := Lib.hid (pcsN_length f t)
  have HP0 : RowKit.Hid (pcsN f t 0 = []) := Lib.hid rfl
  have HD0 : RowKit.Hid ((decN f W H t 0).e = 0) := Lib.hid rfl
  have HLO := Lib.hid (fun k (hk : posN f k ≤ t.size) => Oct.intsz t (posN f k : Nat) 0 f.size (by omega) (by omega))
  have hlt := h.lt
  have AT := FmAt.box f w 37
  have k1 := World.grownBy_alloc w (.cells #[.int .i64 f.B, .int .i64 f.D, .bool f.big, .bool f.tr, .int .i64 f.rm, .int .i64 f.gm, .int .i64 f.bm, .int .i64 f.rs, .int .i64 f.gs, .int .i64 f.bs] 37) (some b)
  have C1 := Oct.CurAt.alloc h (.cells #[.int .i64 f.B, .int .i64 f.D, .bool f.big, .bool f.tr, .int .i64 f.rm, .int .i64 f.gm, .int .i64 f.bm, .int .i64 f.rs, .int .i64 f.gs, .int .i64 f.bs] 37)
  have z1 := Pln.alloc_size w (.cells #[.int .i64 f.B, .int .i64 f.D, .bool f.big, .bool f.tr, .int .i64 f.rm, .int .i64 f.gm, .int .i64 f.bm, .int .i64 f.rs, .int .i64 f.gs, .int .i64 f.bs] 37)
  have HF : f.v = .agg #[.int .i64 f.B, .int .i64 f.D, .bool f.big, .bool f.tr, .int .i64 f.rm, .int .i64 f.gm, .int .i64 f.bm, .int .i64 f.rs, .int .i64 f.gs, .int .i64 f.bs] := rfl
  rw [HF] at RV ⊢
  clear h HF hf
  go_enter Try.func46, Try.ntmps46
  go_wp2_with fail
  generalize w.alloc (.cells #[.int .i64 f.B, .int .i64 f.D, .bool f.big, .bool f.tr, .int .i64 f.rm, .int .i64 f.gm, .int .i64 f.bm, .int .i64 f.rs, .int .i64 f.gs, .int .i64 f.bs] 37) = w1 at *
  have hb1 : b < w1.heap.size := by omega
  have HFA := Lib.hid (fun W (g : w1.grownBy W (some b)) => FmAt.grown AT g (by omega))
  obtain ⟨c0, hc0⟩ : ∃ c0, w.heap.size = c0 := ⟨_, rfl⟩
  rw [hc0] at HFA ⊢
  obtain ⟨C, hC⟩ : ∃ C, w1.heap.size = C := ⟨_, rfl⟩
  have HCC := Lib.hid hC
  rw [hC] at hb1
  have HK1 := Lib.hid k1
  have HC1 := Lib.hid C1
  clear AT C1 k1 hc0 hC z1
  go_loopw [12, 17] (fun vl vi wr => ∃ k : Nat, k ≤ N ∧ vi = .int .i64 k ∧ (decN f W H t k).e = 0 ∧ posN f k ≤ t.size ∧ PcsAt 31 C wr vl (pcsN f t k) ∧ CurAt 99 wr b t (posN f k : Nat) 0 ∧ w1.grownBy wr (some b)) (fun _ vi _ => N - (intOf vi).toNat)
  case atStart => exact ⟨0, Nat.zero_le _, rfl, HD0.out, h1, by rw [HP0.out]; exact RowAt.nil _ _ _ _, HC1.out, World.grownBy.refl _ _⟩
  case round =>
    obtain ⟨k, hk, rfl, hd0, hpk, hP, hC, hg⟩ := hrel
    have HP := Lib.hid hP
    have HCu := Lib.hid hC
    have HG := Lib.hid hg
    have HDE := Lib.hid hd0
    by_cases hlk : k < N
    · have dk : decide ((k : Int) < (N : Int)) = true := decide_eq_true (by omega)
      obtain ⟨d0, d1, d2, d3, d4, d5, d6, d7, d8, d9⟩ := HFA.out wr hg
      have RV1 := Lib.hid (RV.out _ _ wr hC (by omega) (by omega))
      have hlo := HLO.out k hpk
      have HNX1 := Lib.hid (HNX.out k hpk)
      obtain ⟨P, hP'⟩ : ∃ P, posN f k = P := ⟨_, rfl⟩
      rw [hP'] at RV1 hlo HNX1
      generalize f.get (byS t (P : Nat) 0 f.size) = v at *
      generalize byI t (P : Nat) 0 f.size = i2 at *
      generalize byE t (P : Nat) 0 f.size = e2 at *
      obtain ⟨hl1, hl2, _⟩ := hlo
      have hpl := HPL.out k
      have HL12 := Lib.hid (And.intro hl1 hl2)
      obtain ⟨la, lcap, rfl⟩ := RowAt.shape hP
      clear hP hC hg hd0 hl1 hl2
      go_wp2_with fail
      refine RV1.out.mono ?_
      rintro r w2 ⟨rfl, hC2, hg2⟩
      have HP2 := Lib.hid (pcs_grown HP.out hb1 hg2)
      have HG2 := Lib.hid (grown_trans HG.out hg2)
      have RR1 := Lib.hid (RR.out _ _ w2 hC2 HL12.out.1 HL12.out.2)
      clear hC2 hg2 RV1 HP HG d0 d1 d2 d3 d4 d5 d6 d7 d8 d9
      go_wp2_with fail
      refine RR1.out.mono ?_
      rintro r w3 ⟨i3, e3, x, y, n, m, rfl, hR3, hC3, hg3⟩
      have HP3 := Lib.hid (pcs_grown HP2.out hb1 hg3)
      have HG3 := Lib.hid (grown_trans HG2.out hg3)
      have HX := Lib.hid (HNX1.out _ _ _ _ _ _ hR3)
      have HC4 := Lib.hid (Oct.CurAt.alloc hC3 (.cells #[.int .i64 x, .int .i64 y, .int .i64 n, .int .i64 m] 29))
      have HP4 := Lib.hid (RowAt.alloc HP3.out (.cells #[.int .i64 x, .int .i64 y, .int .i64 n, .int .i64 m] 29))
      have HG4 := Lib.hid (grown_trans HG3.out (World.grownBy_alloc w3 (.cells #[.int .i64 x, .int .i64 y, .int .i64 n, .int .i64 m] 29) (some b)))
      have HN4 := Lib.hid (heap_alloc_new w3 (.cells #[.int .i64 x, .int .i64 y, .int .i64 n, .int .i64 m] 29))
      have HZ4 := Lib.hid (Pln.alloc_size w3 (.cells #[.int .i64 x, .int .i64 y, .int .i64 n, .int .i64 m] 29))
      clear hR3 hC3 hg3 RR1 HP2 HG2 HP3
      go_wp2_with fail
      have hs3 : C ≤ w3.heap.size := by have := HG3.out.size; rw [HCC.out] at this; exact this
      generalize w3.alloc (.cells #[.int .i64 x, .int .i64 y, .int .i64 n, .int .i64 m] 29) = w4 at *
      obtain ⟨D, hD⟩ : ∃ D, w3.heap.size = D := ⟨_, rfl⟩
      rw [hD] at HN4 HZ4 hs3 ⊢
      clear hD HG3
      refine (ER.out _ _ w4 HC4.out).mono ?_
      rintro r w4 ⟨rfl, rfl⟩
      rcases HX.out with ⟨hq, rfl⟩ | ⟨hq, rfl, rfl, hv, hx, hy, hn, hm⟩
      · have HE := Lib.hid ((HDK.out k HDE.out).trans (if_pos hq))
        have HE2 := Lib.hid (HDS.out k (by rw [HE.out]; decide) hlk)
        go_wp2_with fail
        go_ret2
        exact ⟨_, by rw [HE2.out, HE.out]; rfl, fun h => by rw [HE2.out, HE.out] at h; exact absurd h (by decide), grown_trans HK1.out HG4.out⟩
      have HE := Lib.hid ((HDK.out k HDE.out).trans (if_neg (by omega)))
      rw [hP'] at HE
      obtain ⟨p, hp⟩ : ∃ p, pcAt f t P = p := ⟨_, rfl⟩
      rw [hp] at hv hx hy hn hm HE
      subst hv hx hy hn hm
      have HPP := Lib.hid ((HPS.out k).trans (by rw [hP', hp]))
      have hi4 := ins_pc (p := p) (W := W) (H := H)
      have IN := Lib.hid (fun w => inside_any p.x p.y p.n p.m W H w (by simp [Lit.wf, IntKind.min, IntKind.max, IntKind.signed, IntKind.bits]; omega) (by simp [Lit.wf, IntKind.min, IntKind.max, IntKind.signed, IntKind.bits]; omega))
      rw [hi4] at IN
      obtain ⟨I, hI⟩ : ∃ I, insN p W H = I := ⟨_, rfl⟩
      rw [hI] at IN HE
      have HQ := Lib.hid hq
      have n4 := HN4.out
      have c0 := cellAt (o := 0) n4 rfl
      have c1 := cellAt (o := 1) n4 rfl
      have c2 := cellAt (o := 2) n4 rfl
      have c3 := cellAt (o := 3) n4 rfl
      clear hi4 hI hp hP' HX hq HNX1 n4
      go_wp2_with fail
      refine (IN.out w4).mono ?_
      rintro r w5 ⟨rfl, b5⟩
      have HN5 : RowKit.Hid (w5.heap[D]? = _) := Lib.hid ((b5.block D (Array.getElem?_eq_some_iff.1 HN4.out).1).trans HN4.out)
      have HP5 := Lib.hid (RowAt.below HP4.out b5)
      have HC5 := Lib.hid (CurAt.below HC4.out b5 (CurAt.lt HC4.out))
      have HG5 := Lib.hid (grown_trans HG4.out (grown_of_below b5 _))
      have hs5 : C ≤ w5.heap.size := by have := b5.size; have := HZ4.out; omega
      clear b5 HP4 HC4 HG4 HN4 c0 c1 c2 c3
      cases I with
      | false =>
        have HE2 := Lib.hid (HDS.out k (by rw [HE.out]; decide) hlk)
        go_wp2_with fail
        go_ret2
        exact ⟨_, by rw [HE2.out, HE.out]; rfl, fun h => by rw [HE2.out, HE.out] at h; exact absurd h (by decide), grown_trans HK1.out HG5.out⟩
      | true =>
        have n5 := HN5.out
        have c0 := cellAt (o := 0) n5 rfl
        have c1 := cellAt (o := 1) n5 rfl
        have c2 := cellAt (o := 2) n5 rfl
        have c3 := cellAt (o := 3) n5 rfl
        have HP6 : RowKit.Hid (PcsAt 31 C w5 (.slice la k lcap) (pcsN f t k)) := Lib.hid (by
          have h6 : PcsAt 31 C w5 (.slice la (pcsN f t k).length lcap) (pcsN f t k) := HP5.out
          rw [hpl] at h6
          exact h6)
        have hpl2 : (pcsN f t k).length ≤ 1000000000 := by rw [hpl]; omega
        have HPL2 := Lib.hid hpl2
        clear n5 hpl hpl2
        go_wp2_with (at_builtin; refine wpl_pieceP rfl _ _ rfl (.slice la k lcap) C (pcsN f t k) rfl HP6.out hs5 HPL2.out p _ rfl ?_; intro v' w' h1 h2 h3; have HR := Lib.hid h1; have HRB := Lib.hid h2; clear h1 h2 h3)
        refine ⟨⟨k + 1, by omega, by go_num, by rw [HE.out]; rfl, HQ.out, by rw [HPP.out]; exact HR.out, CurAt.below HC5.out HRB.out hb1, grown_then HG5.out (by rw [HCC.out]; exact HRB.out)⟩, by simp [intOf]; omega⟩
    · obtain rfl : k = N := by omega
      have dk : decide ((k : Int) < (k : Int)) = false := decide_eq_false (by omega)
      clear hP hC hg hd0
      go_wp2_with fail
      refine (ER.out _ _ wr HCu.out).mono ?_
      rintro r w4 ⟨rfl, rfl⟩
      go_wp2_with fail
      go_ret2
      exact ⟨_, by rw [HDE.out]; rfl, fun _ => ⟨PcsAt.sp HP.out, HCu.out⟩, grown_trans HK1.out HG.out⟩
set_option maxHeartbeats 4000000 in
theorem readPieces_bad (f : Fm) (hf : f.Wf) (b : Nat) (t : ByteArray) (i : Int) (W H N : Nat) (w : World) (h : CurAt 99 w b t i 2) (h0 : 0 ≤ i) (h1 : i ≤ t.size) (ht : t.size ≤ 100000) (hW : W ≤ 4096) (hH : H ≤ 4096) (hN : N ≤ 4096 * 4096) :
    Calls Try.prog 46 #[.pointer (some ⟨b, 0, none⟩), f.v, .int .i64 W, .int .i64 H, .int .i64 N] w fun r w' => ∃ u, r = .returned (.tuple #[u, .int .i64 2]) ∧ w.grownBy w' (some b) := by
  have RV := Lib.hid (fun i e W (hc : CurAt 99 W b t i e) h0 h1 => readValue_any f hf b t i e W hc h0 h1 ht)
  have RR := Lib.hid (fun i e W (hc : CurAt 99 W b t i e) h0 h1 => readRect_any b t i e W hc h0 h1 ht)
  have ER := Lib.hid (fun i e W (hc : CurAt 99 W b t i e) => err_any b t i e W hc)
  have hlt := h.lt
  have AT := FmAt.box f w 37
  have k1 := World.grownBy_alloc w (.cells #[.int .i64 f.B, .int .i64 f.D, .bool f.big, .bool f.tr, .int .i64 f.rm, .int .i64 f.gm, .int .i64 f.bm, .int .i64 f.rs, .int .i64 f.gs, .int .i64 f.bs] 37) (some b)
  have C1 := Oct.CurAt.alloc h (.cells #[.int .i64 f.B, .int .i64 f.D, .bool f.big, .bool f.tr, .int .i64 f.rm, .int .i64 f.gm, .int .i64 f.bm, .int .i64 f.rs, .int .i64 f.gs, .int .i64 f.bs] 37)
  have z1 := Pln.alloc_size w (.cells #[.int .i64 f.B, .int .i64 f.D, .bool f.big, .bool f.tr, .int .i64 f.rm, .int .i64 f.gm, .int .i64 f.bm, .int .i64 f.rs, .int .i64 f.gs, .int .i64 f.bs] 37)
  have HF : f.v = .agg #[.int .i64 f.B, .int .i64 f.D, .bool f.big, .bool f.tr, .int .i64 f.rm, .int .i64 f.gm, .int .i64 f.bm, .int .i64 f.rs, .int .i64 f.gs, .int .i64 f.bs] := rfl
  rw [HF] at RV ⊢
  clear h HF hf
  go_enter Try.func46, Try.ntmps46
  go_wp2_with fail
  generalize w.alloc (.cells #[.int .i64 f.B, .int .i64 f.D, .bool f.big, .bool f.tr, .int .i64 f.rm, .int .i64 f.gm, .int .i64 f.bm, .int .i64 f.rs, .int .i64 f.gs, .int .i64 f.bs] 37) = w1 at *
  have hb1 : b < w1.heap.size := by omega
  have HFA := Lib.hid (fun W (g : w1.grownBy W (some b)) => FmAt.grown AT g (by omega))
  obtain ⟨c0, hc0⟩ : ∃ c0, w.heap.size = c0 := ⟨_, rfl⟩
  rw [hc0] at HFA ⊢
  obtain ⟨C, hC⟩ : ∃ C, w1.heap.size = C := ⟨_, rfl⟩
  have HCC := Lib.hid hC
  rw [hC] at hb1
  have HK1 := Lib.hid k1
  have HC1 := Lib.hid C1
  clear AT C1 k1 hc0 hC z1
  have hE2 : byE t i 2 f.size = 2 := by unfold byE; rw [if_neg (by decide)]
  have HLO := Lib.hid (Oct.intsz t i 2 f.size h0 h1)
  go_loopw [12, 17] (fun vl vi wr => vi = .int .i64 0 ∧ CurAt 99 wr b t i 2 ∧ w1.grownBy wr (some b)) (fun _ vi _ => N - (intOf vi).toNat)
  case atStart => exact ⟨rfl, HC1.out, World.grownBy.refl _ _⟩
  case round =>
    obtain ⟨rfl, hC, hg⟩ := hrel
    have HCu := Lib.hid hC
    have HG := Lib.hid hg
    by_cases hlk : 0 < N
    · have dk : decide ((0 : Int) < (N : Int)) = true := decide_eq_true (by omega)
      obtain ⟨d0, d1, d2, d3, d4, d5, d6, d7, d8, d9⟩ := HFA.out wr hg
      have RV1 := Lib.hid (RV.out _ _ wr hC h0 h1)
      rw [hE2] at RV1
      obtain ⟨hl1, hl2, _⟩ := HLO.out
      generalize f.get (byS t i 2 f.size) = v at *
      generalize byI t i 2 f.size = i2 at *
      have HL12 := Lib.hid (And.intro hl1 hl2)
      clear hC hg hl1 hl2 HLO hE2
      go_wp2_with fail
      refine RV1.out.mono ?_
      rintro r w2 ⟨rfl, hC2, hg2⟩
      have HG2 := Lib.hid (grown_trans HG.out hg2)
      have RR1 := Lib.hid (RR.out _ _ w2 hC2 HL12.out.1 HL12.out.2)
      clear hC2 hg2 RV1 HG d0 d1 d2 d3 d4 d5 d6 d7 d8 d9
      go_wp2_with fail
      refine RR1.out.mono ?_
      rintro r w3 ⟨i3, e3, x, y, n, m, rfl, hR3, hC3, hg3⟩
      have HG3 := Lib.hid (grown_trans HG2.out hg3)
      obtain rfl : e3 = 2 := hR3.bad (by decide)
      have HC4 := Lib.hid (Oct.CurAt.alloc hC3 (.cells #[.int .i64 x, .int .i64 y, .int .i64 n, .int .i64 m] 29))
      have HG4 := Lib.hid (grown_trans HG3.out (World.grownBy_alloc w3 (.cells #[.int .i64 x, .int .i64 y, .int .i64 n, .int .i64 m] 29) (some b)))
      clear hR3 hC3 hg3 RR1 HG2
      go_wp2_with fail
      generalize w3.alloc (.cells #[.int .i64 x, .int .i64 y, .int .i64 n, .int .i64 m] 29) = w4 at *
      refine (ER.out _ _ w4 HC4.out).mono ?_
      rintro r w4 ⟨rfl, rfl⟩
      go_wp2_with fail
      go_ret2
      exact ⟨_, rfl, grown_trans HK1.out HG4.out⟩
    · obtain rfl : N = 0 := by omega
      have dk : decide ((0 : Int) < ((0 : Nat) : Int)) = false := rfl
      clear hC hg
      go_wp2_with fail
      refine (ER.out _ _ wr HCu.out).mono ?_
      rintro r w4 ⟨rfl, rfl⟩
      go_wp2_with fail
      go_ret2
      exact ⟨_, rfl, grown_trans HK1.out HG.out⟩
end Go.Proofs.Ytmjjbapahgejmaa.Rre
