/-
  The program of layer 16 (plain): which rectangles may be; the iterators over values.
-/
import Derived.Test.YtmjjbapahgejmaaPlnRefH
import Derived.Test.YtmjjbapahgejmaaOwnB
import Derived.Test.YtmjjbapahgejmaaAllFmtP
namespace Go.Proofs.Ytmjjbapahgejmaa.Pln
open Go.ChangeShapes Go.WideShapes Go.ChangeAt Go.RowKit Go.Shelf Lz RowG RegVal Fmt Oct OwnB
set_option linter.unusedVariables false
set_option linter.unusedSimpArgs false
set_option maxRecDepth 100000
attribute [local go_sem] Oper.semAt_some

theorem side_any (n : Int) (w : World) :
    Calls Try.prog 56 #[.int .i64 n] w fun e w' => e = .returned (.bool (decide (0 ≤ n) && decide (n ≤ 4096))) ∧ w = w' := by
  by_cases h0 : 0 ≤ n
  · have k0 : decide (0 ≤ n) = true := decide_eq_true h0
    by_cases h1 : n ≤ 4096
    · have k1 : decide (n ≤ 4096) = true := decide_eq_true h1
      rw [k0, k1]
      go_enter Try.func56, Try.ntmps56
      go_wp2_with fail
      go_ret
      exact ⟨rfl, rfl⟩
    · have k1 : decide (n ≤ 4096) = false := decide_eq_false h1
      rw [k0, k1]
      go_enter Try.func56, Try.ntmps56
      go_wp2_with fail
      go_ret
      exact ⟨rfl, rfl⟩
  · have k0 : decide (0 ≤ n) = false := decide_eq_false h0
    rw [k0]
    go_enter Try.func56, Try.ntmps56
    go_wp2_with fail
    go_ret
    exact ⟨rfl, rfl⟩
theorem fits_any (f : Fm) (hf : f.Wf) (x y : Int) (w : World) :
    Calls Try.prog 21 #[f.v, .int .i64 x, .int .i64 y] w fun e w' => e = .returned (.bool (fitsB f x y)) ∧ Below w.heap.size w w' := by
  have V := Lib.hid (fun w => valid_any f hf w)
  have SX := Lib.hid (fun w => side_any x w)
  have SY := Lib.hid (fun w => side_any y w)
  have HO : RowKit.Hid (fitsB f x y = (f.ok && (decide (0 ≤ x) && decide (x ≤ 4096)) && (decide (0 ≤ y) && decide (y ≤ 4096)))) := Lib.hid (by unfold fitsB; simp only [Bool.and_assoc])
  generalize fitsB f x y = O at *
  generalize f.ok = OK at *
  generalize (decide (0 ≤ x) && decide (x ≤ 4096)) = BX at *
  generalize (decide (0 ≤ y) && decide (y ≤ 4096)) = BY at *
  have AT := FmAt.box f w 37
  have bel := (Below.refl w.heap.size w).alloc (Nat.le_refl _) (.cells #[.int .i64 f.B, .int .i64 f.D, .bool f.big, .bool f.tr, .int .i64 f.rm, .int .i64 f.gm, .int .i64 f.bm, .int .i64 f.rs, .int .i64 f.gs, .int .i64 f.bs] 37)
  obtain ⟨w1, hw1⟩ : ∃ w1, w.alloc (.cells #[.int .i64 f.B, .int .i64 f.D, .bool f.big, .bool f.tr, .int .i64 f.rm, .int .i64 f.gm, .int .i64 f.bm, .int .i64 f.rs, .int .i64 f.gs, .int .i64 f.bs] 37) = w1 := ⟨_, rfl⟩
  rw [hw1] at AT bel
  have HF : f.v = .agg #[.int .i64 f.B, .int .i64 f.D, .bool f.big, .bool f.tr, .int .i64 f.rm, .int .i64 f.gm, .int .i64 f.bm, .int .i64 f.rs, .int .i64 f.gs, .int .i64 f.bs] := rfl
  rw [HF] at V ⊢
  have BEL := Lib.hid bel
  clear hf HF bel
  obtain ⟨B, D, big, tr, rm, gm, bm, rs, gs, bs⟩ := f
  simp only at *
  obtain ⟨d0, d1, d2, d3, d4, d5, d6, d7, d8, d9⟩ := AT
  dsimp only at d0 d1 d2 d3 d4 d5 d6 d7 d8 d9
  go_enter Try.func21, Try.ntmps21
  cases OK with
  | false =>
    have HO2 : O = false := by rw [HO.out]; simp
    subst HO2
    clear HO
    go_wp2_with fail
    refine (V.out _).mono ?_
    rintro r w2 ⟨rfl, b⟩
    have HB := Lib.hid (BEL.out.trans (b.mono BEL.out.size))
    clear b V BEL d0 d1 d2 d3 d4 d5 d6 d7 d8 d9
    go_wp2_with fail
    go_ret
    exact ⟨rfl, HB.out⟩
  | true =>
    cases BX with
    | false =>
      have HO2 : O = false := by rw [HO.out]; simp
      subst HO2
      clear HO
      go_wp2_with fail
      refine (V.out _).mono ?_
      rintro r w2 ⟨rfl, b⟩
      have HB := Lib.hid (BEL.out.trans (b.mono BEL.out.size))
      clear b V BEL d0 d1 d2 d3 d4 d5 d6 d7 d8 d9
      go_wp2_with fail
      refine (SX.out _).mono ?_
      rintro r w3 ⟨rfl, rfl⟩
      go_wp2_with fail
      go_ret
      exact ⟨rfl, HB.out⟩
    | true =>
      have HO2 : RowKit.Hid (O = BY) := Lib.hid (by rw [HO.out]; simp)
      clear HO
      go_wp2_with fail
      refine (V.out _).mono ?_
      rintro r w2 ⟨rfl, b⟩
      have HB := Lib.hid (BEL.out.trans (b.mono BEL.out.size))
      clear b V BEL d0 d1 d2 d3 d4 d5 d6 d7 d8 d9
      go_wp2_with fail
      refine (SX.out _).mono ?_
      rintro r w3 ⟨rfl, rfl⟩
      go_wp2_with fail
      refine (SY.out _).mono ?_
      rintro r w3 ⟨rfl, rfl⟩
      go_wp2_with fail
      go_ret
      exact ⟨retB HO2.out.symm, HB.out⟩

/-! ### The iterator over colours' values -/
/-- What a round keeps: all that lay there ahead of Bk, and two boxes. -/
structure VoK (Bk B1 B2 : Nat) (W W' : World) : Prop where
  low : ∀ k, k < Bk → W'.heap[k]? = W.heap[k]?
  b1 : W'.heap[B1]? = W.heap[B1]?
  b2 : W'.heap[B2]? = W.heap[B2]?
  sz : W.heap.size ≤ W'.heap.size
theorem VoK.trans {Bk B1 B2 : Nat} {A B C : World} (h : VoK Bk B1 B2 A B) (k : VoK Bk B1 B2 B C) : VoK Bk B1 B2 A C := ⟨fun i hi => (k.low i hi).trans (h.low i hi), k.b1.trans h.b1, k.b2.trans h.b2, Nat.le_trans h.sz k.sz⟩
theorem VoK.turn {Bk B1 B2 B : Nat} {W W' : World} (h : Turn noC B W W') (h0 : Bk ≤ B) (h02 : Bk ≤ W.heap.size) (ha : B1 < B) (hb : B2 < B) (ha2 : B1 < W.heap.size) (hb2 : B2 < W.heap.size) : VoK Bk B1 B2 W W' :=
  ⟨fun k hk => (h.block k (by omega)).elim id (fun e => absurd e.1 (by omega)), (h.block B1 ha2).elim id (fun e => absurd e.1 (by omega)), (h.block B2 hb2).elim id (fun e => absurd e.1 (by omega)), h.size⟩
theorem VoK.below {Bk B1 B2 : Nat} {W W' : World} (h : Below W.heap.size W W') (h0 : Bk ≤ W.heap.size) (ha : B1 < W.heap.size) (hb : B2 < W.heap.size) : VoK Bk B1 B2 W W' :=
  ⟨fun k hk => h.block k (by omega), h.block B1 ha, h.block B2 hb, h.size⟩
theorem turn_below {p : Obj → Prop} {B : Nat} {W W' : World} (h : Below W.heap.size W W') : Turn p B W W' := ⟨h.os, h.tape, h.output, h.size, fun k hk => .inl (h.block k hk)⟩
theorem same_cell {W W' : World} {k o : Nat} {u : Value} (h : W'.heap[k]? = W.heap[k]?) (hc : W.cell? ⟨k, o, none⟩ = some u) : W'.cell? ⟨k, o, none⟩ = some u := by
  simp only [World.cell?] at hc ⊢
  rw [h]
  exact hc
theorem fmat_same {W W' : World} {k : Nat} {f : Fm} (h : W'.heap[k]? = W.heap[k]?) (a : FmAt W k f) : FmAt W' k f := by
  obtain ⟨h0, h1, h2, h3, h4, h5, h6, h7, h8, h9⟩ := a
  exact ⟨same_cell h h0, same_cell h h1, same_cell h h2, same_cell h h3, same_cell h h4, same_cell h h5, same_cell h h6, same_cell h h7, same_cell h h8, same_cell h h9⟩
/-- The first k of n. -/
def upto (n k : Nat) : List (Fin n) := (List.finRange n).take k
theorem upto_zero (n : Nat) : upto n 0 = [] := rfl
theorem upto_all (n : Nat) : upto n n = List.finRange n := List.take_of_length_le (by simp)
theorem upto_length {n k : Nat} (h : k ≤ n) : (upto n k).length = k := by unfold upto; simp; omega
theorem upto_succ {n k : Nat} (h : k < n) : upto n (k + 1) = upto n k ++ [⟨k, h⟩] := by
  unfold upto
  rw [List.take_succ_eq_append_getElem (by simpa using h)]
  simp
def voE (G : Int → Int) (L : List Int) (N : Nat) (x : Fin N) : Array Value := #[.int .i64 (G (px L x.1))]
set_option maxHeartbeats 4000000 in
theorem valsOf_in (n : Nat) (hn : 2 ≤ n) (f : Fm) (hf : f.Wf) (L : List Int) (hL : ∀ c ∈ L, (Lit.int .i64 c).wf = true) (N : Nat) (hLN : L.length = N) (hl : N ≤ 1000000) (vp : Value) (wE w0 : World) (hsw : SW wE vp L) (hbE : Below wE.heap.size wE w0) (B1 B2 Bt : Nat)
    (c1 : w0.cell? ⟨B1, 0, none⟩ = some vp) (c2 : FmAt w0 B2 f) :
    Gives n Try.prog 80 #[.pointer (some ⟨B1, 0, none⟩), .pointer (some ⟨B2, 0, none⟩)] (voE f.valI L N) (VoK wE.heap.size B1 B2) 9 Bt (List.finRange N) w0 := by
  intro l J W hW hJ hY h0
  rw [List.length_finRange] at hY
  have ka : B1 < w0.heap.size := World.block_lt_of_cell? w0 _ c1
  have kb : B2 < w0.heap.size := World.block_lt_of_cell? w0 _ c2.1
  have VA := Lib.hid (fun (c : Int) (hc : c ∈ L) w => value_any f hf c (hL c hc) w)
  obtain ⟨G, hG⟩ : ∃ G : Int → Int, f.valI = G := ⟨_, rfl⟩
  rw [hG] at VA hY
  clear hG
  have HF : f.v = .agg #[.int .i64 f.B, .int .i64 f.D, .bool f.big, .bool f.tr, .int .i64 f.rm, .int .i64 f.gm, .int .i64 f.bm, .int .i64 f.rs, .int .i64 f.gs, .int .i64 f.bs] := rfl
  rw [HF] at VA
  have ca := (hW.cell (p := ⟨B1, 0, none⟩) ka).trans c1
  have cb := fmat_same (hW.block B2 kb) c2
  have hbW := hbE.trans (hW.mono hbE.size)
  have hsz : wE.heap.size ≤ W.heap.size := hbW.size
  obtain ⟨pa, cp, rfl, hrow⟩ := (hsw.below hbW).cells
  rw [hLN] at hrow ca
  have hrowE := hsw.cells
  have hkW : B1 < W.heap.size ∧ B2 < W.heap.size := ⟨by have := hW.size; omega, by have := hW.size; omega⟩
  have HJ := Lib.hid hJ
  have HY := Lib.hid hY
  have H0 := Lib.hid h0
  have HC := Lib.hid (And.intro ca cb)
  have HE : RowKit.Hid (∀ W', VoK wE.heap.size B1 B2 W W' → 0 < N → ∃ g off, pa = some ⟨g, off, none⟩ ∧ ∀ i, i < N → W'.cell? ⟨g, off + i, none⟩ = some (.int .i64 (px L i))) := Lib.hid (fun W' hk hp => by
    obtain ⟨a, c, e, hcell⟩ := hrowE
    rw [hLN] at e hcell
    obtain ⟨g, off, e2, hg, hcc⟩ := hcell hp
    have ea : pa = a := by
      simp only [Value.slice.injEq] at e
      exact e.1
    refine ⟨g, off, ea.trans e2, fun i hi => same_cell (hk.low g hg) ?_⟩
    exact (hbW.cell (p := ⟨g, off + i, none⟩) hg).trans (hcc i hi))
  have HMEM := Lib.hid (fun (i : Nat) (h : i < N) => (by rw [px_get (by rw [hLN]; exact h)]; exact List.getElem_mem _ : px L i ∈ L))
  clear hJ hY h0 hrow hrowE c1 c2 ka kb hW ca cb hbW hsw hbE HF
  obtain ⟨B, D, big, tr, rm, gm, bm, rs, gs, bs⟩ := f
  simp only at *
  refine callsIn_of_wp Try.func80 rfl trivial ?_ rfl
  simp only [Try.ntmps80, List.size_toArray, List.length_cons, List.length_nil, Nat.reduceAdd, Nat.reduceSub, Array.replicate_succ, Array.replicate_zero, List.push_toArray, List.append_toArray, List.nil_append, List.cons_append]
  have e1 := HC.out.1
  gi_wp2
  gi_loopw [8] (fun v wr => ∃ k : Nat, v = .int .i64 (k : Nat) ∧ k ≤ N ∧ J (upto N k) wr ∧ VoK wE.heap.size B1 B2 W wr) (fun v _ => N - (intOf v).toNat)
  case atStart => exact ⟨0, rfl, Nat.zero_le _, by rw [upto_zero]; exact H0.out, ⟨fun _ _ => rfl, rfl, rfl, Nat.le_refl _⟩⟩
  case round =>
    obtain ⟨k, rfl, hk, hj, hvk⟩ := hrel
    have hsr := hvk.sz
    have HJJ := Lib.hid hj
    have HVK := Lib.hid hvk
    by_cases hlt : k < N
    · have d1 : decide ((k : Int) < N) = true := decide_eq_true (by omega)
      have d2 : decide (k < N) = true := decide_eq_true hlt
      obtain ⟨g, off, rfl, hcell⟩ := HE.out wr hvk (by omega)
      have cx := hcell k hlt
      obtain ⟨c, hc⟩ : ∃ c, px L k = c := ⟨_, rfl⟩
      rw [hc] at cx
      have V1 := Lib.hid (VA.out c (by rw [← hc]; exact HMEM.out k hlt))
      have hE : voE G L N ⟨k, hlt⟩ = #[.int .i64 (G c)] := by unfold voE; rw [hc]
      have hy := fun Wc (h : J (upto N k) Wc) => HY.out (upto N k) ⟨k, hlt⟩ Wc h (by rw [upto_length (Nat.le_of_lt hlt)]; exact hlt)
      rw [hE] at hy
      have HYY := Lib.hid hy
      obtain ⟨a0, a1, a2, a3, a4, a5, a6, a7, a8, a9⟩ : FmAt wr B2 ⟨B, D, big, tr, rm, gm, bm, rs, gs, bs⟩ := fmat_same hvk.b2 HC.out.2
      dsimp only at a0 a1 a2 a3 a4 a5 a6 a7 a8 a9
      generalize G c = z at *
      have HLT := Lib.hid hlt
      clear hj hy hE hc hcell hvk
      gi_wp2
      refine ⟨trivial, fun _ => by omega, (callsIn_wide.2 (V1.out _)).mono ?_⟩
      rintro e w5 ⟨rfl, b5⟩
      have hJ2 : J (upto N k) w5 := HJ.out _ _ _ HJJ.out (turn_below b5)
      have hk5 : VoK wE.heap.size B1 B2 wr w5 := VoK.below b5 (by omega) (by omega) (by omega)
      obtain ⟨fn, tmps, assign, body, hy, hR⟩ := HYY.out _ hJ2
      have HR := Lib.hid hR
      have HK5 := Lib.hid (HVK.out.trans hk5)
      clear hR hJ2 hk5 b5 V1 a0 a1 a2 a3 a4 a5 a6 a7 a8 a9
      gi_wp2
      refine ⟨fun _ => by omega, HR.out.mono ?_⟩
      rintro e w6 ⟨rfl, hJ6, hK6⟩
      have HJ6 : RowKit.Hid (J (upto N (k + 1)) w6) := Lib.hid (by rw [upto_succ HLT.out]; exact hJ6)
      have HK6 := Lib.hid (HK5.out.trans hK6)
      clear hJ6 hK6 HR hy
      gi_wp2
      refine ⟨⟨k + 1, by go_num, by omega, HJ6.out, HK6.out⟩, ?_⟩
      simp [intOf]
      omega
    · obtain rfl : k = N := by omega
      have hJe : J (List.finRange k) wr := by
        have e := HJJ.out
        rw [upto_all] at e
        exact e
      have d1 : decide ((k : Int) < k) = false := decide_eq_false (by omega)
      have d2 : decide (k < k) = false := decide_eq_false (by omega)
      have HJE := Lib.hid hJe
      clear hJe hj hvk
      gi_wp2
      go_end0
      exact ⟨⟨_, rfl⟩, HJE.out⟩
end Go.Proofs.Ytmjjbapahgejmaa.Pln
