/-
  Contracts of the reference of layer 2: All, Text.
-/
import Derived.Test.YtdgoaccnjlkdcaaBitRef2
namespace Go.Proofs.Ytdgoaccnjlkdcaa.Bit
open Go.ChangeShapes Go.WideShapes Go.ChangeAt Go.RowKit
set_option linter.unusedVariables false

theorem tbits_snoc (s : List UInt8) (b : UInt8) : tbits (s ++ [b]) = tbits s ++ bitsOf 8 (b.toNat : Int) := by simp [tbits]

/-- A row owned behind an append of another row. -/
theorem BlAt.joined {w1 : World} {v' : Value} {l m : List Bool} (ho : w1.ownsRow 0 4 1 v' (l.length + m.length) (cellsB l ++ cellsB m)) : BlAt w1 v' (l ++ m) := by
  unfold BlAt; rw [List.length_append, cellsB_append]; exact ho

set_option maxHeartbeats 1000000 in
theorem all_any (s : ByteArray) (w : World) (hs : s.size ≤ 1000000) :
    Calls Try.prog 18 #[.string s] w fun r w' => ∃ u, r = .returned u ∧ BlAt w' u (tb s) ∧ Below w.heap.size w w' ∧ From w.heap.size u := by
  have hB := Nat.le_refl w.heap.size
  obtain ⟨t0, hi, hz0, hz1, hz2⟩ := info_parts info_bool
  go_enter Try.func18, Try.ntmps18
  go_wp2_with fail
  go_loopw [3, 4] (fun v i wr => ∃ k : Nat, k ≤ s.size ∧ i = .int .i64 k ∧ BlAt wr v (tbits (s.data.toList.take k)) ∧ Below w.heap.size w wr ∧ From w.heap.size v) (fun _ i _ => s.size - (intOf i).toNat)
  case atStart => exact ⟨0, Nat.zero_le _, rfl, BlAt.nil _, Below.refl _ _, From.nil _⟩
  case round =>
    obtain ⟨k, hk, rfl, h1, bl1, f1⟩ := hrel
    have hl1 : (tbits (s.data.toList.take k)).length = 8 * k := by rw [tbits_length, List.length_take]; simp; omega
    by_cases hlt : k < s.size
    · have hsn : tbits (s.data.toList.take (k + 1)) = tbits (s.data.toList.take k) ++ bitsOf 8 (s[k].toNat : Int) := by
        rw [List.take_succ_eq_append_getElem (by simpa using hlt), tbits_snoc]; rfl
      have hb := s[k].toNat_lt
      have SN := Lib.hid hsn
      have HL := Lib.hid hl1
      clear hsn hl1
      go_wp2_with fail
      refine (of_any _ _ _).mono ?_
      rintro r w1 ⟨u, rfl, h2, b2, f2⟩
      have c8 : cnt 8 = 8 := rfl
      rw [c8] at h2
      obtain ⟨a2, cap2, rfl, hs2⟩ := h2.shape
      obtain ⟨g2, rfl, hg2, hc2⟩ := hs2 (by rw [bitsOf_length]; decide)
      have h3 := h1.below b2
      have bl3 := below_more bl1 hB b2
      have hl2 : (bitsOf 8 (s[k].toNat : Int)).length = 8 := bitsOf_length _ _
      have L2 := Lib.hid hl2
      have hx2 : ∀ j u, (cellsB (bitsOf 8 (s[k].toNat : Int)))[j]? = some u → w1.cell? ((⟨g2, 0, none⟩ : Addr).add j) = some u := cell_bits (fun j hj => by rw [Oct.addr_add]; exact hc2 j hj)
      have H3 := Lib.hid h3
      have X2 := Lib.hid hx2
      rw [hl2]
      clear h1 b2 f2 h2 hs2 hc2 c8 hl2 hx2 h3 bl1
      generalize bitsOf 8 (s[k].toNat : Int) = y at *
      go_wp2_with (at_builtin; refine wpList_append_near _ rfl _ _ 29 rfl 4 t0 (.bool false) 1 1 Try.underlying29 hi hz0 hz1 hz2 rfl (by decide) u3 (tbits (s.data.toList.take k)).length (cellsB (tbits (s.data.toList.take k))) rfl H3.out ⟨g2, 0, none⟩ 8 cap2 (cellsB y) rfl (by rw [cellsB_length, L2.out]) X2.out (cellsB_one _) (by rw [HL.out]; unfold maxLen; omega) (by rw [HL.out]; omega) ?_; intro v' w3 ho hg3 hn3)
      have ho' : BlAt w3 v' (tbits (s.data.toList.take (k + 1))) := by
        rw [SN.out]; exact BlAt.joined (by rw [L2.out]; exact ho)
      have HH := Lib.hid (And.intro ho' (And.intro (below_row bl3 hB hg3 f1) (f1.near hn3 bl3.size)))
      clear ho hg3 hn3 ho' bl3 f1 H3 X2 hi hz0 hz1 hz2
      go_wp2
      refine ⟨⟨k + 1, by omega, by go_num, HH.out.1, HH.out.2.1, HH.out.2.2⟩, by simp [intOf]; omega⟩
    · obtain rfl : k = s.size := by omega
      rw [List.take_of_length_le (by simp)] at h1
      have HH := Lib.hid (And.intro h1 (And.intro bl1 f1))
      clear h1 bl1 f1 hl1
      go_wp2
      go_ret
      exact ⟨_, rfl, HH.out.1, HH.out.2.1, HH.out.2.2⟩

/-- A value that reads as the row l. -/
def SeesV (w : World) (v : Value) (l : List Bool) : Prop := (v = .slice none 0 0 ∧ l = []) ∨ ∃ g off cap, v = .slice (some ⟨g, off, none⟩) l.length cap ∧ ∀ j, j < l.length → w.cell? ⟨g, off + j, none⟩ = (cellsB l)[j]?

theorem BlAt.seesV {w : World} {v : Value} {l : List Bool} (h : BlAt w v l) : SeesV w v l := by
  rcases h.2 with ⟨rfl, h0⟩ | ⟨g, cap, cur, rfl, _⟩
  · exact .inl ⟨rfl, List.eq_nil_of_length_eq_zero h0⟩
  · exact .inr ⟨g, 0, cap, rfl, fun j hj => by rw [Nat.zero_add]; exact World.ownsRow.cellAt h j (by omega)⟩

theorem BlAt.row {w : World} {v : Value} {l : List Bool} (h : BlAt w v l) (h0 : 0 < l.length) : ∃ g cap, v = .slice (some ⟨g, 0, none⟩) l.length cap ∧ g < w.heap.size ∧ l.length ≤ cap ∧ cap ≤ maxLen ∧ ∀ j, j < l.length → w.cell? ⟨g, j, none⟩ = (cellsB l)[j]? := by
  rcases h.2 with ⟨rfl, h1⟩ | ⟨g, cap, cur, rfl, _, hg, hc, hm, _⟩
  · omega
  · exact ⟨g, cap, rfl, (Array.getElem?_eq_some_iff.1 hg).1, hc, hm, fun j hj => World.ownsRow.cellAt h j (by omega)⟩

theorem pack_take_succ (l : List Bool) (k : Nat) (h : k < (pack l).length) : (pack l).take (k + 1) = (pack l).take k ++ [UInt8.ofNat (num (((pad l).drop (8 * k)).take 8))] := by
  rw [List.take_succ_eq_append_getElem h]
  congr 2
  have h1 : (pack l)[k]? = some (UInt8.ofNat (num (((pad l).drop (8 * k)).take 8))) := by
    rw [← pack_pad l]
    exact pack_get _ _ (by rw [← pack_length, pack_pad]; exact h)
  rw [List.getElem?_eq_getElem h] at h1
  exact Option.some.inj h1

theorem snoc_arr (a : List UInt8) (b : UInt8) : (⟨a.toArray⟩ : ByteArray) ++ ⟨#[b]⟩ = ⟨(a ++ [b]).toArray⟩ := by
  rw [ByteArray.mk_append_mk]

set_option maxHeartbeats 2000000 in
theorem text_any (v : Value) (l : List Bool) (w : World) (hl : l.length ≤ 1000000) (h : SeesV w v l) :
    Calls Try.prog 21 #[v] w fun r w' => r = .returned (.string ⟨(pack l).toArray⟩) ∧ Below w.heap.size w w' := by
  have hB := Nat.le_refl w.heap.size
  obtain ⟨t0, hi, hz0, hz1, hz2⟩ := info_parts info_bool
  rcases h with ⟨rfl, rfl⟩ | ⟨g, off, cap, rfl, hc⟩
  · go_enter Try.func21, Try.ntmps21
    go_wp2_with (at_builtin; refine wpList_append_own_none rfl _ _ 29 rfl 0 4 t0 1 Try.underlying29 hi (.slice none 0 0) 0 [] rfl (World.ownsRow_nil _ _ _ _) rfl ?_)
    refine (refAlign_any _ [] _ (BlAt.nil _) (by decide)).mono ?_
    rintro r w1 ⟨u, rfl, h1, g1, n1⟩
    have h1' : BlAt w1 u [] := h1
    obtain ⟨a, cap, rfl, _⟩ := h1'.shape
    have BL := Lib.hid (below_row (Below.refl w.heap.size w) hB g1 (From.nil _))
    clear h1 h1' g1 n1 hi hz0 hz1 hz2
    go_wp2_with fail
    refine wp_loop_rounds 1 ?_
    rw [rounds_succ]
    go_wp2_with fail
    go_ret
    exact ⟨rfl, BL.out⟩
  · obtain ⟨nn, hnn⟩ : ∃ nn, l.length = nn := ⟨_, rfl⟩
    have NN := Lib.hid hnn
    have hx2 : ∀ j u, (cellsB l)[j]? = some u → w.cell? ((⟨g, off, none⟩ : Addr).add j) = some u := cell_bits (fun j hj => by rw [Go.WideShapes.add_plain]; exact hc j hj)
    have X2 := Lib.hid hx2
    rw [hnn] at hl ⊢
    clear hx2 hc hnn
    go_enter Try.func21, Try.ntmps21
    go_wp2_with (at_builtin; refine wpList_append_near _ rfl _ _ 29 rfl 4 t0 (.bool false) 1 1 Try.underlying29 hi hz0 hz1 hz2 rfl (by decide) (.slice none 0 0) 0 [] rfl (World.ownsRow_nil _ _ _ _) ⟨g, off, none⟩ nn cap (cellsB l) rfl (by rw [cellsB_length, NN.out]; omega) X2.out (cellsB_one _) (by unfold maxLen; omega) (by omega) ?_; intro v' w1 ho hg hn)
    have h1 : BlAt w1 v' l := by
      unfold BlAt; rw [NN.out]; simpa using ho
    have bl1 := below_row (Below.refl w.heap.size w) hB hg (From.nil _)
    have f1 := (From.nil w.heap.size).near hn hB
    clear ho hg hn X2 hi hz0 hz1 hz2
    refine (refAlign_any _ l _ h1 (by rw [NN.out]; omega)).mono ?_
    rintro r w2 ⟨u, rfl, h2, g2, n2⟩
    have bl2 := below_row bl1 hB g2 f1
    clear h1 bl1 f1 g2 n2
    have hpm := pad_mod l
    have hpl : (pad l).length = 8 * (pack l).length := by rw [pad_length, pack_length]; unfold fre; omega
    obtain ⟨M, hM⟩ : ∃ M, (pack l).length = M := ⟨_, rfl⟩
    rw [hM] at hpl
    have hM2 : M ≤ 1000000 := by rw [← hM, pack_length, NN.out]; omega
    have HM := Lib.hid hM
    have PL := Lib.hid hpl
    obtain ⟨a, cap2, hu, _⟩ := h2.shape
    rw [hpl] at hu
    subst hu
    have H2 := Lib.hid h2
    clear hpm hM hpl h2
    go_wp2_with fail
    go_loopw [4, 5] (fun sv i wr => ∃ k : Nat, k ≤ M ∧ i = .int .i64 ((8 * k : Nat) : Int) ∧ sv = .string ⟨((pack l).take k).toArray⟩ ∧ Below w2.heap.size w2 wr) (fun _ i _ => 8 * M - (intOf i).toNat)
    case atStart => exact ⟨0, Nat.zero_le _, rfl, rfl, Below.refl _ _⟩
    case round =>
      obtain ⟨k, hk, rfl, rfl, bl3⟩ := hrel
      by_cases hlt : k < M
      · obtain ⟨g2, cap3, e3, hg2, hcap, hcm, hc2⟩ := H2.out.row (by rw [PL.out]; omega)
        rw [PL.out] at e3 hcap hc2
        simp only [Value.slice.injEq] at e3
        obtain ⟨rfl, _, rfl⟩ := e3
        obtain ⟨y, hy⟩ : ∃ y, ((pad l).drop (8 * k)).take 8 = y := ⟨_, rfl⟩
        have hyl : y.length = 8 := by rw [← hy, List.length_take, List.length_drop, PL.out]; omega
        have hyn : num y ≤ 255 := by have := num_lt y; rw [hyl] at this; omega
        have hts := pack_take_succ l k (by rw [HM.out]; exact hlt)
        rw [hy] at hts
        have hadd := snoc_arr ((pack l).take k) (UInt8.ofNat (num y))
        rw [← hts] at hadd
        have hof : ((UInt8.ofNat (num y)).toNat : Int) = (num y : Int) := by rw [UInt8.toNat_ofNat']; omega
        have hsz : (⟨((pack l).take k).toArray⟩ : ByteArray).size ≤ 1000000 := by
          show ((pack l).take k).toArray.size ≤ _
          rw [List.size_toArray, List.length_take]; omega
        obtain ⟨p, hp⟩ : ∃ p, 8 * k = p := ⟨_, rfl⟩
        obtain ⟨q, hq⟩ : ∃ q, 8 * M = q := ⟨_, rfl⟩
        have hsee : Sees wr (some ⟨g2, p, none⟩) y := by
          intro _
          refine ⟨g2, p, rfl, Nat.lt_of_lt_of_le hg2 bl3.size, fun j hj => ?_⟩
          rw [bl3.cell (p := ⟨g2, p + j, none⟩) hg2]
          rw [hc2 (p + j) (by omega)]
          rw [← hy, ← hp]
          unfold cellsB
          rw [List.getElem?_map, List.getElem?_map, List.getElem?_take_of_lt (by omega), List.getElem?_drop]
        rw [hp, hq]
        have SEE := Lib.hid hsee
        have HADD := Lib.hid hadd
        have HYL := Lib.hid hyl
        have q1 : p + 8 ≤ q := by omega
        have q2 : q ≤ cap2 := by omega
        have q3 : q ≤ 8000000 := by omega
        have HP := Lib.hid (And.intro hp hq)
        unfold maxLen at hcm
        have hconv : (convert 26 9 (.slice (some ⟨wr.heap.size, 0, none⟩) 1 1)).run Try.prog (wr.alloc (.cells #[.int .u8 (num y : Nat)] 5)) = .ok (.string ⟨#[UInt8.ofNat (num y)]⟩) (wr.alloc (.cells #[.int .u8 (num y : Nat)] 5)) :=
          Oct.run_string_of _ 26 9 5 ⟨wr.heap.size, 0, none⟩ 1 [UInt8.ofNat (num y)] 1 rfl Try.underlying26 Try.underlying5 Try.underlying9 (by
            intro j hj
            obtain rfl : j = 0 := by omega
            rw [Oct.addr_add, List.map_cons, hof]
            simp)
        obtain ⟨s1, hs1⟩ : ∃ s1 : ByteArray, (⟨((pack l).take (k + 1)).toArray⟩ : ByteArray) = s1 := ⟨_, rfl⟩
        rw [hs1] at hadd
        have S1 := Lib.hid hs1
        generalize hs0 : (⟨((pack l).take k).toArray⟩ : ByteArray) = s0 at *
        have hadd2 : ∀ W : World, (Op.stringOp .add s0 ⟨#[UInt8.ofNat (num y)]⟩).run Try.prog W = .ok (.string s1) W := fun W => by
          rw [run_string_add_sum W _ _ (by
            have h1 : (ByteArray.mk #[UInt8.ofNat (num y)]).size = 1 := rfl
            rw [h1]; omega), hadd]
        have nc := number_any (some ⟨g2, p, none⟩) (cap2 - p) y wr SEE.out (by omega)
        rw [hyl] at nc
        have NC := Lib.hid nc
        clear hs0 hs1 hts hy hp hq hof hsee hadd hyl hc2 nc HADD
        generalize num y = z at *
        go_wp2_with fail
        refine NC.out.mono ?_
        rintro r w5 ⟨rfl, rfl⟩
        go_wp2
        refine ⟨⟨k + 1, by omega, ?_, by rw [S1.out], bl3.alloc (by have := bl3.size; omega) _⟩, ?_⟩
        · have := HP.out.1; go_num
        · have := HP.out; simp [intOf]; omega
      · obtain rfl : k = M := by omega
        have hfull : (pack l).take k = pack l := List.take_of_length_le (by rw [HM.out]; exact Nat.le_refl _)
        rw [hfull]
        have BL := Lib.hid (below_more bl2 hB bl3)
        clear bl2 bl3 hfull
        go_wp2
        go_ret
        exact ⟨rfl, BL.out⟩
end Go.Proofs.Ytdgoaccnjlkdcaa.Bit
