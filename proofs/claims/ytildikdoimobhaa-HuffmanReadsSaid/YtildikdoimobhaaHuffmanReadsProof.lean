/-
  HuffmanReads (layer 5): whatever bits stand there, each symbol, or why there is none, and how many bits were read, is what the document says.
-/
import Derived.Test.YtildikdoimobhaaRows
import Derived.Test.YtildikdoimobhaaHufReadB
import Derived.WalkKit
import Derived.ProofKit
import Derived.OpenShut
import Derived.ShutString
import Derived.ChangeOld
import Derived.Below
import Derived.Lib.SmallJoins
import Derived.Deep.Slices
namespace Go.Proofs.Ytildikdoimobhaa.huffmanReads
open Go.Proofs.Ytildikdoimobhaa.Huf
open Go.ChangeShapes Go.WideShapes Go.ChangeAt Go.RowKit
open Go.ChangeMaps (open_string shut_string)
set_option linter.unusedVariables false

theorem own : ownKnob Try.prog.godebug = none := by kernel_rfl
theorem laidOut : laidOutB Try.prog = true := by kernel_rfl

open Go.Proofs.Ytildikdoimobhaa
open Go.Proofs.Ytildikdoimobhaa.Bit (tb RdAt rnew_any rat_any BlAt all_any)
theorem rd_below {w w' : World} {b : Nat} {t : ByteArray} {i n : Nat} {e : Bool} (h : RdAt 69 w b t i e) (k : Below n w w') (hn : b < n) : RdAt 69 w' b t i e := by
  unfold RdAt at *; rw [k.block b hn]; exact h
theorem rd_lt {w : World} {b : Nat} {t : ByteArray} {i : Nat} {e : Bool} (h : RdAt 69 w b t i e) : b < w.heap.size := (Array.getElem?_eq_some_iff.1 h).1
theorem bits_cut {w : World} {g cap n i q : Nat} {T : List Bool} (h : BlAt w (.slice (some ⟨g, 0, none⟩) n cap) T) (hn : n = T.length) (hi : i + q ≤ T.length) : IsBits w (some ⟨g, i, none⟩) (nextB T i q) := by
  intro h0
  subst hn
  refine ⟨g, i, rfl, (h.lt g rfl).2, fun j hj => ?_⟩
  have hj' : j < q := by rw [nextB_length T i q hi] at hj; exact hj
  rw [World.ownsRow.cellAt h (i + j) (by omega)]
  have h1 : i + j < T.length := by omega
  simp [Bit.cellsB, nextB, h1]

set_option maxRecDepth 100000 in
set_option maxHeartbeats 8000000 in
theorem early (a : Option Addr) (n cap : Nat) (s : ByteArray) (num : Int) (W : World) (hmax : n ≤ 2 ^ 63 - 1) (ws : s.size ≤ 2 ^ 63 - 1) (h : 340 < n ∨ 40 < s.size ∨ 60 < num) :
    Calls Try.prog 4 #[.slice a n cap, .string s, .int .i64 num] W fun e w' => e = .returned (.bool true) ∧ Below W.heap.size W w' := by
  by_cases h1 : 340 < n
  · have h1' : (340 : Int) < n := by omega
    clear h
    go_enter Try.func4, Try.ntmps4
    go_wp2_with fail
    refine (works_any _).mono ?_
    rintro r w1 ⟨rfl, b1⟩
    go_wp2_with fail
    all_goals (go_ret; exact ⟨rfl, b1⟩)
  have h1' : ¬ ((340 : Int) < n) := by omega
  by_cases h2 : 40 < s.size
  · have h2' : (40 : Int) < s.size := by omega
    clear h
    go_enter Try.func4, Try.ntmps4
    go_wp2_with fail
    refine (works_any _).mono ?_
    rintro r w1 ⟨rfl, b1⟩
    go_wp2_with fail
    all_goals (go_ret; exact ⟨rfl, b1⟩)
  have h3 : 60 < num := by omega
  clear h
  go_enter Try.func4, Try.ntmps4
  go_wp2_with fail
  refine (works_any _).mono ?_
  rintro r w1 ⟨rfl, b1⟩
  go_wp2_with fail
  all_goals (go_ret; exact ⟨rfl, b1⟩)

set_option maxRecDepth 100000 in
set_option maxHeartbeats 8000000 in
theorem walk (a : Option Addr) (n cap : Nat) (L : List Int) (s : ByteArray) (num : Int) (W : World) (ws : s.size ≤ maxLen) (h : L.length = n ∧ n ≤ maxLen ∧ IsInts W a L ∧ ∀ x ∈ L, (Lit.int .i64 x).wf = true) :
    Calls Try.prog 4 #[.slice a n cap, .string s, .int .i64 num] W fun e w' => e = .returned (.bool true) ∧ Below W.heap.size W w' := by
  obtain ⟨hn, hmax, hI, _⟩ := h
  unfold maxLen at hmax ws
  by_cases hg : 340 < n ∨ 40 < s.size ∨ 60 < num
  · exact early a n cap s num W hmax ws hg
  have hb1 : ¬ ((340 : Int) < n) := by omega
  have hb2 : ¬ ((40 : Int) < s.size) := by omega
  have hb3 : ¬ ((60 : Int) < num) := by omega
  have db1 : decide ((340 : Int) < n) = false := by simp; omega
  have db2 : decide ((40 : Int) < s.size) = false := by simp; omega
  have db3 : decide ((60 : Int) < num) = false := by simp; omega
  have hs40 : s.size ≤ 40 := by omega
  have HI := Lib.hid hI
  clear hI hmax ws hg
  have C2 := Lib.hid (fun w h => refCheck_any a n cap L w hn h (by omega))
  by_cases hf : fine L = true
  · obtain ⟨f1, f2, f3⟩ := fine_parts hf
    have hchk : chk L = .tuple #[.int .i64 (32768 - used (nats L) 15 : Nat), .int .i64 0] := by unfold chk; rw [hf, if_pos rfl]
    have C1 := Lib.hid (fun w h => new_good a n cap L w hn h hf)
    rw [hchk] at C2
    have hN : (nats L).length = n := by rw [nats_length]; exact hn
    have h15 := nats_le f2
    have C3 := Lib.hid (fun w (h : IsInts w a L) => refCodes_any a n cap (nats L) w hN (by rw [← nats_cast f2]; exact h) (by omega) h15)
    generalize nats L = N at *
    have hn320 : n ≤ 320 := by omega
    have HU := Lib.hid f3
    have H15 := Lib.hid h15
    have HSM : Hid (∀ i, i < N.length → codeV N i < 2 ^ N.getD i 0) := Lib.hid (fun i hi => by
      have g : N.getD i 0 = N[i] := by rw [List.getD_eq_getElem?_getD, List.getElem?_eq_getElem hi]; rfl
      by_cases h0 : N.getD i 0 = 0
      · unfold codeV; rw [if_pos h0, h0]; decide
      · rw [g] at h0 ⊢
        exact codeV_lt N i N[i] hi rfl (by omega) (h15 _ (List.getElem_mem _)) f3)
    generalize 32768 - used N 15 = lf at C2
    clear hchk hf f1 f2 f3 h15
    go_enter Try.func4, Try.ntmps4
    go_wp2_with fail
    refine (works_any _).mono ?_
    rintro r w1 ⟨rfl, b1⟩
    have B1 := Lib.hid b1
    clear b1
    go_wp2_with fail
    refine (C1.out _ (HI.out.below B1.out (Nat.le_refl _))).mono ?_
    rintro r w2 ⟨D, S, rfl, b2, hD, d2⟩
    have B2 := Lib.hid (B1.out.trans (b2.mono B1.out.size))
    have D2 := Lib.hid d2
    clear b2 d2 B1 C1 hD
    go_wp2_with fail
    refine (C2.out _ (HI.out.below B2.out (Nat.le_refl _))).mono ?_
    rintro r w2 ⟨rfl, rfl⟩
    go_wp2_with fail
    refine (C3.out _ (HI.out.below B2.out (Nat.le_refl _))).mono ?_
    rintro r w3 ⟨bc, rfl, b3, o3⟩
    have B3 := Lib.hid (B2.out.trans (b3.mono B2.out.size))
    have D3 := Lib.hid (D2.out.below b3 (Nat.le_refl _))
    have O3 := Lib.hid (row0 o3)
    clear b3 o3 B2 D2 C2 C3 HI
    go_wp2_with fail
    refine (all_any s _ (by omega)).mono ?_
    rintro r w4 ⟨u, rfl, u4, b4, _⟩
    have B4 := Lib.hid (B3.out.trans (b4.mono B3.out.size))
    have D4 := Lib.hid (D3.out.below b4 (Nat.le_refl _))
    have O4 := Lib.hid (ownsRow_blockK O3.out (fun j hj => b4.block j (O3.out.lt j hj).2))
    have U4 := Lib.hid u4
    clear u4 b4 B3 D3 O3
    obtain ⟨au, cu, hu⟩ : ∃ ad c, u = .slice ad (tb s).length c := by
      rcases U4.out.2 with ⟨h1, h2⟩ | ⟨g, cap, cur, h1, _⟩
      · exact ⟨none, 0, by rw [h1, h2]⟩
      · exact ⟨_, cap, h1⟩
    subst hu
    have hTl : (tb s).length ≤ 320 := by rw [Bit.tb_length]; omega
    obtain ⟨tl, htl⟩ : ∃ tl, (tb s).length = tl := ⟨_, rfl⟩
    have HTL := Lib.hid htl
    rw [htl] at U4 hTl ⊢
    clear htl
    go_wp2_with fail
    refine (rnew_any s w4).mono ?_
    rintro r w5 ⟨rfl, hr, b5⟩
    have B5 := Lib.hid (B4.out.trans (b5.mono B4.out.size))
    have D5 := Lib.hid (D4.out.below b5 (Nat.le_refl _))
    have O5 := Lib.hid (ownsRow_blockK O4.out (fun j hj => b5.block j (O4.out.lt j hj).2))
    have U5 := Lib.hid (show BlAt w5 (.slice au tl cu) (tb s) from ownsRow_blockK U4.out (fun j hj => b5.block j (World.ownsRow.lt U4.out j hj).2))
    have R5 := Lib.hid hr
    have lO : bc < w4.heap.size := (O4.out.lt bc rfl).2
    have lU : ∀ j, (Value.slice au tl cu).ownBlock = some j → j < w4.heap.size := fun j hj => (World.ownsRow.lt U4.out j hj).2
    have hWB := B4.out.size
    have LU := Lib.hid lU
    clear hr b5 B4 D4 O4 U4 lU
    generalize w4.heap.size = br at *
    go_wp2_with fail
    go_loopw [14, 16] (fun v i wr => ∃ j p : Nat, i = .int .i64 j ∧ v = .int .i64 p ∧ ((j : Int) ≤ num ∨ j = 0) ∧ p ≤ tl ∧ RdAt 69 wr br s p false ∧ w5.grownBy wr (some br)) (fun _ i _ => num.toNat - (intOf i).toNat)
    case atStart => exact ⟨0, 0, rfl, rfl, .inr rfl, Nat.zero_le _, R5.out, World.grownBy.refl _ _⟩
    case round =>
      obtain ⟨j, p, rfl, rfl, hjn, hp, hrd, hgr⟩ := hrel
      have HWR := Lib.hid (B5.out.grown hgr B5.out.size (fun k hk => by cases hk; exact hWB))
      by_cases hlt : (j : Int) < num
      · have hd6 : DecAt wr D S (fst N) (used N 15) (symsOf N N.length) := by
          rw [hN]; exact D5.out.grown hgr R5.out (by decide) (by decide)
        have CN := Lib.hid (next_any D S N br s p false wr hd6 hrd (by rw [HTL.out]; exact hp) (by omega) (by omega) HU.out)
        obtain ⟨m, _, hm2, hm3, hm4, hst⟩ := nx_spec N (tb s) p H15.out 15 0 0 rfl rfl (by rw [HTL.out]; exact hp) (by simp [top, fst, cn])
        rw [HTL.out] at hm3
        generalize nxG N (tb s) p false 15 0 0 = res at *
        obtain ⟨x, g, i1, bad⟩ := res
        have HST := Lib.hid hst
        have HM4 := Lib.hid hm4
        have HGR := Lib.hid hgr
        clear hd6 hrd hst hm4 hgr
        go_wp2_with fail
        refine CN.out.mono ?_
        rintro r w6 ⟨rfl, r6, g6⟩
        have h56 := HGR.out.trans g6
        have O6 := Lib.hid (ownsRow_blockK O5.out (fun k hk => by cases hk; exact h56.block bc (O5.out.lt bc rfl).2 (by simp; omega)))
        have U6 := Lib.hid (show BlAt w6 (.slice au tl cu) (tb s) from ownsRow_blockK U5.out (fun k hk => h56.block k (World.ownsRow.lt U5.out k hk).2 (fun e => by cases e; have := LU.out _ hk; omega)))
        have R6 := Lib.hid r6
        have H56 := Lib.hid h56
        have hl6 : br < w6.heap.size := rd_lt r6
        clear r6 g6 h56 CN HGR
        have CF := Lib.hid (find_any bc n 0 0 none N [] w6 hN rfl hn320 (by decide) H15.out HSM.out O6.out (fun h => absurd h (by simp)))
        go_wp2_with fail
        refine CF.out.mono ?_
        rintro r w7 ⟨rfl, b7⟩
        have B7 := Lib.hid b7
        clear b7 CF
        go_wp2_with fail
        go_loopw [19, 20] (fun kk tq wx => ∃ q : Nat, q ≤ m ∧ tq = .int .i64 ((p + q : Nat) : Int) ∧ kk = .int .i64 (findV N q (bigN (nextB (tb s) p q))) ∧ Below w6.heap.size w6 wx) (fun _ tq _ => p + m - (intOf tq).toNat)
        case atStart => exact ⟨0, Nat.zero_le _, rfl, rfl, B7.out⟩
        case round =>
          obtain ⟨q, hq, rfl, rfl, hbx⟩ := hrel
          have HBX := Lib.hid hbx
          clear hbx B7
          by_cases hqm : q < m
          · obtain ⟨e1, e2⟩ := HM4.out q (Nat.zero_le _) hqm
            rw [HTL.out] at e2
            rw [e1]
            have hag : ∃ gu, au = some ⟨gu, 0, none⟩ ∧ tl ≤ cu ∧ cu ≤ maxLen := by
              have htl := HTL.out
              rcases U6.out.2 with ⟨_, h1⟩ | ⟨g, cap, cur, h1, _, _, h4, h5, _⟩
              · omega
              · simp only [Value.slice.injEq] at h1
                exact ⟨g, h1.1, by omega, by omega⟩
            obtain ⟨gu, hau, hcap⟩ := hag
            subst hau
            unfold maxLen at hcap
            have hcu : ((p : Int) + q + 1) ≤ cu := by omega
            have hto : ((p + q : Nat) : Int) = (p : Int) + q := by omega
            have hlt2 : (p : Int) + q < tl := by omega
            rw [hto]
            go_wp2_with fail
            have hle : (nextB (tb s) p (q + 1)).length = p + q + 1 - p := by rw [nextB_length _ _ _ (by rw [HTL.out]; omega)]; omega
            have hO : wr.ownsRow 0 45 2 (.slice (some ⟨bc, 0, none⟩) n n) n (rowC n (codeV N) (fun i => N.getD i 0)) := ownsRow_blockK O6.out (fun k hk => HBX.out.block k (O6.out.lt k hk).2)
            have hU : BlAt wr (.slice (some ⟨gu, 0, none⟩) tl cu) (tb s) := ownsRow_blockK U6.out (fun k hk => HBX.out.block k (World.ownsRow.lt U6.out k hk).2)
            refine (find_any bc n (p + q + 1 - p) (cu - p) (some ⟨gu, p, none⟩) N (nextB (tb s) p (q + 1)) wr hN hle hn320 (by omega) H15.out HSM.out hO (bits_cut hU HTL.out.symm (by rw [HTL.out]; omega))).mono ?_
            rintro r w8 ⟨rfl, b8⟩
            have B8 := Lib.hid (HBX.out.trans (b8.mono HBX.out.size))
            have eq1 : p + q + 1 - p = q + 1 := by omega
            rw [eq1]
            clear hO hU b8 HBX hle
            go_wp2_with fail
            refine ⟨⟨q + 1, by omega, by go_num, rfl, B8.out⟩, ?_⟩
            simp [intOf]; omega
          · obtain rfl : q = m := by omega
            have HBW := Lib.hid (HWR.out)
            have H58 : Hid (w5.grownBy wr (some br)) := Lib.hid (H56.out.trans ⟨HBX.out.os, HBX.out.tape, HBX.out.output, HBX.out.size, fun k hk _ => HBX.out.block k hk⟩)
            have BW8 := Lib.hid (B5.out.grown H58.out B5.out.size (fun k hk => by cases hk; exact hWB))
            have RD8 := Lib.hid (rd_below R6.out HBX.out hl6)
            have hto : ((p + q : Nat) : Int) = (p : Int) + q := by omega
            rw [hto]
            rcases HST.out with ⟨s1, s2, s3, s4⟩ | ⟨s1, s2, s3⟩ | ⟨sy, s1, s2⟩
            · simp only at s3 s4
              subst s3
              subst s4
              rw [HTL.out] at s2
              rw [s1]
              have hge : ¬ ((p : Int) + q < tl) := by omega
              have hge2 : decide ((p : Int) + q < tl) = false := by simp; omega
              go_wp2_with fail
              go_ret
              exact ⟨rfl, BW8.out⟩
            · simp only at s2 s3
              subst s2
              subst s3
              rw [s1]
              go_wp2_with fail
              go_ret
              exact ⟨rfl, BW8.out⟩
            · simp only [Prod.mk.injEq] at s2
              obtain ⟨rfl, rfl, rfl, rfl⟩ := s2
              rw [s1]
              have hne1 : ((x : Int) == -1) = false := by simp
              have hne2 : ((x : Int) == -2) = false := by simp
              have hxx : ((x : Int) == x) = true := by simp
              have CR := Lib.hid (rat_any br s (p + q) false wr RD8.out)
              rw [hto] at CR
              clear HST HM4 s1
              go_wp2_with fail
              refine CR.out.mono ?_
              rintro r w9 ⟨rfl, rfl⟩
              go_wp2_with fail
              refine ⟨⟨j + 1, p + q, by go_num, by rw [hto], .inl (by omega), by omega, RD8.out, H58.out⟩, ?_⟩
              simp [intOf]; omega
      · go_wp2_with fail
        go_ret
        exact ⟨rfl, HWR.out⟩
  · have hf' : fine L = false := by simpa using hf
    have hchk : chk L = .tuple #[.int .i64 0, .int .i64 50] := by unfold chk; rw [hf']; rfl
    have C1 := Lib.hid (fun w h => new_bad a n cap L w hn h (by omega) hf')
    rw [hchk] at C2
    clear hf hf' hchk
    go_enter Try.func4, Try.ntmps4
    go_wp2_with fail
    refine (works_any _).mono ?_
    rintro r w1 ⟨rfl, b1⟩
    have B1 := Lib.hid b1
    clear b1
    go_wp2_with fail
    refine (C1.out _ (HI.out.below B1.out (Nat.le_refl _))).mono ?_
    rintro r w2 ⟨rfl, b2⟩
    have B2 := Lib.hid (B1.out.trans (b2.mono B1.out.size))
    clear b2 B1 C1
    go_wp2_with fail
    refine (C2.out _ (HI.out.below B2.out (Nat.le_refl _))).mono ?_
    rintro r w2 ⟨rfl, rfl⟩
    go_wp2_with fail
    go_ret
    exact ⟨rfl, B2.out⟩

set_option maxRecDepth 100000 in
theorem lifted (os : Os) (started : os.Started) (H : Type) (enc : TypeId × Value → H) :
    ReturnsInHanded {} Try.checked os 4 .any (Rows.huffmanReadsSpec.pre6 enc Try.prog Try.f4 Rows.huffmanReadsRow.domain false) (Rows.huffmanReadsSpec.post enc Try.prog Try.f4 false true false false) := by
  refine returnsInHanded_of_change (C := Try.checked) own started (by kernel_rfl) Try.func4
    (ChangeSpec.witness6 (enc := enc) (C := Try.checked) false ⟨#[], #[.slice none 0 0, .string ByteArray.empty, .int .i64 0], []⟩ 8 (by kernel_rfl) (by kernel_rfl) (by kernel_rfl) (by kernel_rfl)) ?_
  intro W base args ds gs before hval0 hW hcnd _
  have hval : ∀ (j : Nat) t v, Try.f4.params[j]? = some t → args[j]? = some v → Value.okWide Try.prog W .any base t v := hval0
  have hW' := hW
  obtain ⟨p, q, hA0, hV, rfl, hfz, hnd⟩ := hW
  have hA : DataW.TrodAll enc Try.prog W 0 (fun _ => true) true Try.f4.params.toList args.toList ds p := hA0
  rw [Try.params4] at hA hval
  obtain ⟨v0, vs0, d0, ds0, p0, q0, hargs, rfl, rfl, h0, r0⟩ := trodAll_cons hA
  obtain ⟨v1, vs1, d1, ds1, p1, q1, rfl, rfl, rfl, h1, r1⟩ := trodAll_cons r0
  obtain ⟨v2, vs2, d2, ds2, p2, q2, rfl, rfl, rfl, h2, r2⟩ := trodAll_cons r1
  obtain ⟨rfl, rfl, rfl⟩ := trodAll_nil r2
  obtain rfl : args = #[v0, v1, v2] := by cases args; simp_all
  obtain ⟨rfl, rfl⟩ := trodVars_none hV
  have k0 := h0
  have lt0 : ∀ x ∈ p0, x.block < W.heap.size := by obtain ⟨m, hm⟩ := k0; exact DataW.trod_lt m _ _ _ hm
  obtain ⟨a0, len0, cap0, rfl⟩ := okWide_slice Try.underlying22 (hval 0 22 v0 rfl rfl)
  obtain ⟨A0, w0⟩ := ints_see h0
  have k1 := h1
  have lt1 : ∀ x ∈ p1, x.block < W.heap.size := by obtain ⟨m, hm⟩ := k1; exact DataW.trod_lt m _ _ _ hm
  obtain ⟨a1, rfl, rfl, rfl, w1⟩ := open_string Try.underlying9 (hval 1 9 v1 rfl rfl) h1
  have k2 := h2
  have lt2 : ∀ x ∈ p2, x.block < W.heap.size := by obtain ⟨m, hm⟩ := k2; exact DataW.trod_lt m _ _ _ hm
  obtain ⟨a2, rfl, rfl, rfl, w2⟩ := open_int Try.underlying3 (hval 2 3 v2 rfl rfl) h2
  clear hA0 hval0
  refine (walk a0 len0 cap0 A0 a1 a2 W w1 w0).mono fun e W' ⟨he, bel⟩ => ?_
  subst he
  exact ⟨_, rfl, _, _, _, [], _, [], hW', trodAll_mk1 (shut_bool Try.underlying4 _), (trodAll_cons_mk (Below.trod laidOut (by kernel_rfl) (of_decide_eq_true (by kernel_rfl)) k0 bel lt0) (trodAll_cons_mk (Below.trod laidOut (by kernel_rfl) (of_decide_eq_true (by kernel_rfl)) k1 bel lt1) (trodAll_cons_mk (Below.trod laidOut (by kernel_rfl) (of_decide_eq_true (by kernel_rfl)) k2 bel lt2) trodAll_mk0))), rfl, bel.frame _, fun h => by cases h⟩

theorem over : Rows.huffmanReadsRow.holds Try.pinned (OpenSpec.ofChange Rows.huffmanReadsSpec) :=
  OpenClaim.holds_of_wide 4 Try.f4 rfl rfl rfl rfl rfl rfl rfl ⟨rfl, rfl, rfl, rfl, rfl⟩ rfl rfl rfl rfl rfl (by kernel_rfl) Try.func4 (by kernel_rfl)
    (of_decide_eq_true (by kernel_rfl)) (by unfold Func.isWrapper; first | (rw [if_pos (by decide +kernel)]; kernel_rfl) | (rw [if_neg (by decide +kernel)]; exact ⟨rfl, rfl⟩))
    (fun os started H enc _ => lifted os started H enc)

theorem proved : Rows.HuffmanReadsSaid := over
end Go.Proofs.Ytildikdoimobhaa.huffmanReads
