/-
  Contract of symbols.Read.
-/
import Derived.Test.YtikfenimgjeplaaSymRead
import Derived.Test.YtikfenimgjeplaaLzTokS
namespace Go.Proofs.Ytikfenimgjeplaa.Sym
open Go.ChangeShapes Go.WideShapes Go.ChangeAt Go.RowKit
open Go.Proofs.Ytikfenimgjeplaa.Huf (IsInts fine nats nats_length fine_parts new_good new_bad nxG next_any DecAt fst used symsOf info_parts)
open Go.Proofs.Ytikfenimgjeplaa.Bit (rV rI rOk errI RdAt tb tb_length rgrown_trans)
open Go.Proofs.Ytikfenimgjeplaa.Lz (Tok okT tokC cellsT cellsT_length cellsT_append cellsT_one info_tok)
set_option linter.unusedVariables false
set_option maxRecDepth 100000

/-- What Read answers: the tokens, the error, how far, and whether the reader keeps an error. -/
def rdG (L M : List Int) (T : List Bool) (i : Nat) (most : Int) : List Tok × Int × Nat × Bool :=
  if fine L = true ∧ fine M = true then readG (nats L) (nats M) T most (T.length + 1) i 0 [] else ([], 50, i, false)

theorem tok_lit {w : World} {t : Tok} {T : TypeId} : ∀ j u, (cellsT [t])[j]? = some u → (w.alloc (.cells #[.int .i64 t.B, .int .i64 t.L, .int .i64 t.D] T)).cell? ((⟨w.heap.size, 0, none⟩ : Addr).add j) = some u := by
  intro j u hj
  rw [Go.WideShapes.add_plain, Nat.zero_add, cell_of_row _ _ j _ _ _ (heap_alloc_new _ _)]
  have : (cellsT [t])[j]? = #[Value.int .i64 t.B, .int .i64 t.L, .int .i64 t.D][j]? := by
    simp [cellsT]
  rw [← this]; exact hj

theorem row0 {w : World} {base size n : Nat} {e : TypeId} {v : Value} {xs : List Value} (h : w.ownsRow base e size v n xs) : w.ownsRow 0 e size v n xs := by
  refine ⟨h.1, ?_⟩
  rcases h.2 with h0 | ⟨g, cap, cur, h1, _, h3⟩
  · exact .inl h0
  · exact .inr ⟨g, cap, cur, h1, Nat.zero_le _, h3⟩

/-- How far a reader is. -/
def posOf (w : World) (b : Nat) : Nat := (intOf ((w.cell? ⟨b, 1, none⟩).getD undef)).toNat
theorem posOf_eq {w : World} {b i : Nat} {t : ByteArray} {e : Bool} (h : RdAt 91 w b t i e) : posOf w b = i := by
  unfold posOf; rw [h.cells.2.1]; simp [intOf]

set_option maxHeartbeats 8000000 in
theorem read_any (b : Nat) (t : ByteArray) (i : Nat) (a1 a2 : Option Addr) (n c1 m c2 : Nat) (L M : List Int) (most : Int) (w : World) (h : RdAt 91 w b t i false) (hi : i ≤ (tb t).length) (ht : t.size ≤ 1000000)
    (hL : L.length = n) (hM : M.length = m) (iL : IsInts w a1 L) (iM : IsInts w a2 M) (hn : n ≤ 1000000) (hm : m ≤ 1000000) :
    Calls Try.prog 32 #[.pointer (some ⟨b, 0, none⟩), .slice a1 n c1, .slice a2 m c2, .int .i64 most] w fun r w' => ∃ v,
      r = .returned (.tuple #[v, .int .i64 (rdG L M (tb t) i most).2.1]) ∧ w'.ownsRow w.heap.size 64 3 v (rdG L M (tb t) i most).1.length (cellsT (rdG L M (tb t) i most).1) ∧
      RdAt 91 w' b t (rdG L M (tb t) i most).2.2.1 (rdG L M (tb t) i most).2.2.2 ∧ w.grownBy w' (some b) := by
  have H := Lib.hid h
  have IL := Lib.hid iL
  have IM := Lib.hid iM
  have hbw := rd_lt h
  clear h iL iM
  obtain ⟨i0, hi0, hz0, hz1, hz2⟩ := info_parts info_tok
  obtain ⟨⟨rl, re, rj, rb⟩, hres⟩ : ∃ res, rdG L M (tb t) i most = res := ⟨_, rfl⟩
  rw [hres]
  have HRES := Lib.hid hres
  clear hres
  simp only
  cases hf1 : fine L with
  | false =>
    have e := HRES.out
    unfold rdG at e
    rw [if_neg (by rw [hf1]; simp)] at e
    simp only [Prod.mk.injEq] at e
    obtain ⟨rfl, rfl, rfl, rfl⟩ := e
    have CN := Lib.hid (new_bad a1 n c1 L w hL IL.out hn hf1)
    clear HRES
    go_enter Try.func32, Try.ntmps32
    go_wp2_with fail
    refine CN.out.mono ?_
    rintro r w1 ⟨rfl, b1⟩
    have HB := Lib.hid b1
    clear b1 CN
    go_wp2_with fail
    go_ret2
    exact ⟨_, rfl, World.ownsRow_nil _ _ _ _, rd_below H.out HB.out, grown_of HB.out _⟩
  | true =>
    have CN := Lib.hid (new_good a1 n c1 L w hL IL.out hf1)
    cases hf2 : fine M with
    | false =>
      have e := HRES.out
      unfold rdG at e
      rw [if_neg (by rw [hf2]; simp)] at e
      simp only [Prod.mk.injEq] at e
      obtain ⟨rfl, rfl, rfl, rfl⟩ := e
      clear HRES
      go_enter Try.func32, Try.ntmps32
      go_wp2_with fail
      refine CN.out.mono ?_
      rintro r w1 ⟨D1, S1, rfl, b1, _, _⟩
      have HB := Lib.hid b1
      have CN2 := Lib.hid (new_bad a2 m c2 M w1 hM (IM.out.below b1 (Nat.le_refl _)) hm hf2)
      clear b1 CN
      go_wp2_with fail
      refine CN2.out.mono ?_
      rintro r w2 ⟨rfl, b2⟩
      have HB2 := Lib.hid (HB.out.trans (b2.mono HB.out.size))
      clear b2 CN2 HB
      go_wp2_with fail
      go_ret2
      exact ⟨_, rfl, World.ownsRow_nil _ _ _ _, rd_below H.out HB2.out, grown_of HB2.out _⟩
    | true =>
      have e := HRES.out
      unfold rdG at e
      rw [if_pos ⟨hf1, hf2⟩] at e
      obtain ⟨p1, _, u1⟩ := fine_parts hf1
      obtain ⟨p2, _, u2⟩ := fine_parts hf2
      have HE := Lib.hid e
      have U := Lib.hid (And.intro u1 u2)
      have hNl : (nats L).length = n := by rw [nats_length]; exact hL
      have hMl : (nats M).length = m := by rw [nats_length]; exact hM
      have hn320 : (nats L).length ≤ 320 := by omega
      have hm320 : (nats M).length ≤ 320 := by omega
      have CN2 := Lib.hid (fun w1 h => new_good a2 m c2 M w1 hM h hf2)
      clear e HRES hf1 hf2
      generalize nats L = N at *
      generalize nats M = K at *
      have hNl' := Lib.hid hNl
      have hMl' := Lib.hid hMl
      have hTl : (tb t).length ≤ 8000000 := by rw [tb_length]; omega
      have HTL := Lib.hid hTl
      clear hTl u1 u2
      go_enter Try.func32, Try.ntmps32
      go_wp2_with fail
      refine CN.out.mono ?_
      rintro r w1 ⟨D1, S1, rfl, b1, _, d1⟩
      have HB := Lib.hid b1
      have HD1 : Hid (DecAt w1 D1 S1 (fst N) (used N 15) (symsOf N N.length)) := Lib.hid (by rw [hNl'.out]; exact d1)
      clear b1 CN d1
      go_wp2_with fail
      refine (CN2.out w1 (IM.out.below HB.out (Nat.le_refl _))).mono ?_
      rintro r w2 ⟨D2, S2, rfl, b2, _, d2⟩
      have HD2 : Hid (DecAt w2 D2 S2 (fst K) (used K 15) (symsOf K K.length)) := Lib.hid (by rw [hMl'.out]; exact d2)
      have HD1' := Lib.hid (HD1.out.below b2 (Nat.le_refl _))
      have HB2 := Lib.hid (HB.out.trans (b2.mono HB.out.size))
      have HR2 := Lib.hid (rd_below H.out HB2.out)
      clear b2 CN2 HB d2 HD1 IL IM
      go_wp2_with fail
      go_loopw [13, 14] (fun v md wr => ∃ (j made f : Nat) (acc : List Tok), md = .int .i64 made ∧ readG N K (tb t) most f j made acc = (rl, re, rj, rb) ∧ (tb t).length - j < f ∧ j ≤ (tb t).length ∧ acc.length ≤ j ∧ made ≤ 300 * j ∧
        RdAt 91 wr b t j false ∧ w2.grownBy wr (some b) ∧ wr.ownsRow w2.heap.size 64 3 v acc.length (cellsT acc)) (fun _ _ wr => (tb t).length - posOf wr b)
      case atStart => exact ⟨i, 0, (tb t).length + 1, [], rfl, HE.out, by omega, hi, Nat.zero_le _, Nat.zero_le _, HR2.out, World.grownBy.refl _ _, World.ownsRow_nil _ _ _ _⟩
      case round =>
        obtain ⟨j, made, f, acc, rfl, hrd, hf, hj, hacc, hmade, hr, hg, ho⟩ := hrel
        obtain ⟨f, rfl⟩ : ∃ f', f = f' + 1 := ⟨f - 1, by omega⟩
        have hd1 := HD1'.out.grown hg HR2.out (by decide) (by decide)
        have hd2 := HD2.out.grown hg HR2.out (by decide) (by decide)
        have CX := Lib.hid (next_any D1 S1 N b t j false wr hd1 hr hj ht (by omega) U.out.1)
        have x1 := nx_ok N (tb t) j 15 0 0 (by omega)
        have x2 := nx_le N (tb t) j false 15 0 0 (by omega)
        have hpj := posOf_eq hr
        have HPJ := Lib.hid hpj
        generalize hgx : nxG N (tb t) j false 15 0 0 = x at *
        obtain ⟨xs, xe, xj, xb⟩ := x
        have HGX := Lib.hid hgx
        simp only at x1 x2 CX
        have HRD := Lib.hid hrd
        have HR := Lib.hid hr
        have HG := Lib.hid hg
        have HO := Lib.hid ho
        have HD2' := Lib.hid hd2
        have hmade2 : made ≤ 2400000000 := by have := HTL.out; omega
        have hacc2 : acc.length ≤ 8000000 := by have := HTL.out; omega
        have hws : w2.heap.size ≤ wr.heap.size := hg.size
        clear hrd hr hg ho hd1 hd2 hgx hpj
        obtain ⟨va, vc, rfl⟩ : ∃ ad c, u13 = .slice ad acc.length c := by
          rcases HO.out.2 with ⟨h1, h2⟩ | ⟨g, cap, cur, h1, _⟩
          · exact ⟨none, 0, by rw [h1, h2]⟩
          · exact ⟨_, cap, h1⟩
        go_wp2_with fail
        refine CX.out.mono ?_
        rintro r w3 ⟨rfl, r3, g3⟩
        have HR3 := Lib.hid r3
        have HG3 := Lib.hid (rgrown_trans HG.out g3)
        have hbne : ∀ k, (Value.slice va acc.length vc).ownBlock = some k → k ≠ b := by
          intro k hk e
          subst e
          have h1 := HR2.out
          have h2 := (HO.out.lt k hk).1
          have h3 := rd_lt HR2.out
          omega
        have HO3 := Lib.hid (rowK HO.out fun k hk => g3.block k (HO.out.lt k hk).2 (by simp; exact hbne k hk))
        have HD3 := Lib.hid (HD2'.out.grown g3 HR.out (by decide) (by decide))
        have h23 : w2.heap.size ≤ w3.heap.size := Nat.le_trans hws g3.size
        clear r3 g3 CX hbne HR HG HO HD2'
        by_cases hxe : xe = 0
        · subst hxe
          obtain ⟨rfl, hxj⟩ := x1 rfl
          by_cases hend : xs = 256
          · subst hend
            have e := HRD.out
            rw [readG_end HGX.out] at e
            simp only [Prod.mk.injEq] at e
            obtain ⟨rfl, rfl, rfl, rfl⟩ := e
            have hfin : Hid (w3.ownsRow w.heap.size 64 3 (.slice va acc.length vc) acc.length (cellsT acc) ∧ w.grownBy w3 (some b)) := Lib.hid ⟨by
              refine ⟨HO3.out.1, ?_⟩
              rcases HO3.out.2 with h0 | ⟨g, cap, cur, h1, h2, h3⟩
              · exact .inl h0
              · exact .inr ⟨g, cap, cur, h1, Nat.le_trans HB2.out.size h2, h3⟩, rgrown_trans (grown_of HB2.out _) HG3.out⟩
            clear HRD x1 hxj
            rw [show ((256 : Nat) : Int) = 256 from rfl]
            go_wp2_with fail
            go_ret2
            exact ⟨_, rfl, hfin.out.1, HR3.out, hfin.out.2⟩
          · have hend2 : (xs : Int) ≠ 256 := by omega
            have hend3 : ((xs : Int) == 256) = false := by simpa using hend2
            have CT := Lib.hid (token_any b t xj xs D2 S2 K w3 HR3.out HD3.out x2 ht (by omega) U.out.2)
            have t1 := tok_ok K (tb t) xj xs x2
            have t2 := tok_le K (tb t) xj xs x2
            generalize hgt : tokG K (tb t) xj xs = tk at *
            obtain ⟨tt, te, tj, tbad⟩ := tk
            have HGT := Lib.hid hgt
            simp only at t1 t2 CT
            have hxj' := Lib.hid hxj
            clear hgt x1 hxj
            go_wp2_with fail
            refine CT.out.mono ?_
            rintro r w4 ⟨rfl, r4, g4⟩
            have hbne : ∀ k, (Value.slice va acc.length vc).ownBlock = some k → k ≠ b := by
              intro k hk e
              subst e
              have h2 := (HO3.out.lt k hk).1
              have h3 := rd_lt HR2.out
              omega
            have HG4 := Lib.hid (rgrown_trans HG3.out g4)
            have HO4 := Lib.hid (rowK HO3.out fun k hk => g4.block k (HO3.out.lt k hk).2 (by simp; exact hbne k hk))
            have h24 : w2.heap.size ≤ w4.heap.size := Nat.le_trans h23 g4.size
            have bX : Below w4.heap.size w4 (w4.alloc (.cells #[.int .i64 tt.B, .int .i64 tt.L, .int .i64 tt.D] 64)) := (Below.refl _ _).alloc (Nat.le_refl _) _
            have hX := heap_alloc_new w4 (.cells #[.int .i64 tt.B, .int .i64 tt.L, .int .i64 tt.D] 64)
            have HR5 := Lib.hid (rd_below r4 bX)
            have HO5 := Lib.hid (HO4.out.alloc (.cells #[.int .i64 tt.B, .int .i64 tt.L, .int .i64 tt.D] 64))
            have HG5 := Lib.hid (rgrown_trans HG4.out (grown_of bX (some b)))
            clear r4 g4 CT HO3 HG3 HR3 HD3 HO4
            unfold tokC
            by_cases hte : te = 0
            · subst hte
              obtain ⟨rfl, t3, t4, t5, t6⟩ := t1 rfl
              obtain ⟨mx, hmx⟩ : ∃ mx, max tt.L.toNat 1 = mx := ⟨_, rfl⟩
              have hm1 : max tt.L 1 = (mx : Int) := by omega
              have hm2 : (if tt.L < 1 then (1 : Int) else tt.L) = (mx : Int) := by split <;> omega
              have hmx300 : mx ≤ 300 := by omega
              have hw1 : IntKind.i64.wrap ((made : Int) + mx) = ((made + mx : Nat) : Int) := by push_cast; exact IntWalk.i64_in _ (by omega)
              by_cases hbig : most < ((made + mx : Nat) : Int)
              · have hbig2 : decide (most < ((made + mx : Nat) : Int)) = true := by simp; omega
                have e := HRD.out
                rw [readG_e3 HGX.out hend HGT.out (by rw [hmx]; exact hbig)] at e
                simp only [Prod.mk.injEq] at e
                obtain ⟨rfl, rfl, rfl, rfl⟩ := e
                have hfin := Lib.hid (rgrown_trans (grown_of HB2.out _) HG5.out)
                obtain ⟨c0, c1, c2⟩ := tok_block hX
                clear HRD hX bX t1
                generalize made + mx = mm at *
                go_wp2_with fail
                go_ret2
                exact ⟨_, rfl, World.ownsRow_nil _ _ _ _, HR5.out, hfin.out⟩
              · have hbig2 : decide (most < ((made + mx : Nat) : Int)) = false := by simp; omega
                have e := HRD.out
                rw [readG_next HGX.out hend HGT.out (by rw [hmx]; exact hbig), hmx] at e
                have HN := Lib.hid e
                have hmm : made + mx ≤ 300 * tj := by have := hxj'.out; omega
                obtain ⟨c0, c1, c2⟩ := tok_block hX
                have LIT := Lib.hid (fun (W : World) => tok_lit (w := W) (t := tt) (T := 64))
                have hP4 : w2.heap.size ≤ (w4.alloc (.cells #[.int .i64 tt.B, .int .i64 tt.L, .int .i64 tt.D] 64)).heap.size := by simp; omega
                clear HRD e hmx t1
                generalize made + mx = mm at *
                generalize hW5 : w4.alloc (.cells #[.int .i64 tt.B, .int .i64 tt.L, .int .i64 tt.D] 64) = w5 at *
                clear hX bX
                obtain ⟨al, hal⟩ : ∃ al, acc.length = al := ⟨_, rfl⟩
                have HAL := Lib.hid hal
                rw [hal] at HO5 hacc hacc2 ⊢
                clear hal
                go_wp2_with (at_builtin; refine Lz.wpList_append_near _ rfl _ _ 32 rfl 64 i0 (.agg #[.int .i64 0, .int .i64 0, .int .i64 0]) 3 24 Try.underlying32 hi0 hz0 hz1 hz2 rfl (by decide) (.slice va al vc) al (cellsT acc) rfl (row0 (HO5.out.alloc _)) ⟨w5.heap.size, 0, none⟩ 1 1 (cellsT [tt]) rfl rfl (LIT.out _) (cellsT_one _) (by unfold maxLen; omega) (by omega) ?_; intro v6 w6 o6 g6 n6)
                have hl := HAL.out
                have hbw2 := rd_lt HR2.out
                have hown : ∀ k, (Value.slice va al vc).ownBlock = some k → w2.heap.size ≤ k := fun k hk => (HO5.out.lt k hk).1
                have r6 : RdAt 91 w6 b t tj false := by
                  have h5 := rd_lt HR5.out
                  have r5 := rd_below HR5.out ((Below.refl _ _).alloc (Nat.le_refl _) (.cells #[.int .i64 tt.B, .int .i64 tt.L, .int .i64 tt.D] 64))
                  have h6 := rd_lt r5
                  unfold RdAt at r5 ⊢
                  rw [g6.block b h6 (fun e => by have := hown b e.symm; omega)]
                  exact r5
                have gg : w2.grownBy w6 (some b) := by
                  have hs6 := g6.size
                  have hs5 : (w5.alloc (.cells #[.int .i64 tt.B, .int .i64 tt.L, .int .i64 tt.D] 64)).heap.size = w5.heap.size + 1 := by simp
                  refine ⟨g6.os.trans HG5.out.os, g6.tape.trans HG5.out.tape, g6.output.trans HG5.out.output, by omega, fun k hk hkb => ?_⟩
                  refine (g6.block k (by omega) (fun e => by have := hown k e.symm; omega)).trans ?_
                  rw [Below.heap_alloc _ _ _ (by omega)]
                  exact HG5.out.block k hk hkb
                have oo : w6.ownsRow w2.heap.size 64 3 v6 (acc ++ [tt]).length (cellsT (acc ++ [tt])) := by
                  rw [cellsT_append, List.length_append, hl]
                  refine ⟨o6.1, ?_⟩
                  rcases o6.2 with h0 | ⟨g, cap, cur, h1, h2, h3⟩
                  · exact .inl h0
                  · refine .inr ⟨g, cap, cur, h1, ?_, h3⟩
                    rcases n6 g (by rw [h1]; rfl) with h | h
                    · exact hown g h
                    · simp at h; omega
                have hp6 := posOf_eq r6
                have hpj := HPJ.out
                refine ⟨⟨tj, mm, f, acc ++ [tt], rfl, HN.out, by have := hxj'.out; omega, t4, by rw [List.length_append, hl]; have := hxj'.out; simp; omega, hmm, r6, gg, oo⟩, ?_⟩
                rw [hp6, hpj]
                have := hxj'.out
                omega
            · have hte2 : (te == 0) = false := by simpa using hte
              have e := HRD.out
              rw [readG_e2 HGX.out hend HGT.out hte] at e
              simp only [Prod.mk.injEq] at e
              obtain ⟨rfl, rfl, rfl, rfl⟩ := e
              have hfin := Lib.hid (rgrown_trans (grown_of HB2.out _) HG5.out)
              clear HRD t1
              go_wp2_with fail
              go_ret2
              exact ⟨_, rfl, World.ownsRow_nil _ _ _ _, HR5.out, hfin.out⟩
        · have hxe2 : (xe == 0) = false := by simpa using hxe
          have e := HRD.out
          rw [readG_e1 HGX.out hxe] at e
          simp only [Prod.mk.injEq] at e
          obtain ⟨rfl, rfl, rfl, rfl⟩ := e
          have hfin := Lib.hid (rgrown_trans (grown_of HB2.out _) HG3.out)
          clear HRD x1
          go_wp2_with fail
          go_ret2
          exact ⟨_, rfl, World.ownsRow_nil _ _ _ _, HR3.out, hfin.out⟩
end Go.Proofs.Ytikfenimgjeplaa.Sym
