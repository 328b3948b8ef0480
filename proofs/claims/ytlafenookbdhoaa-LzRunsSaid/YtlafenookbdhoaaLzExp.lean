/-
  Contract of lz.Expand.
-/
import Derived.Test.YtlafenookbdhoaaLzLong
namespace Go.Proofs.Ytlafenookbdhoaa.Lz
open Go.ChangeShapes Go.WideShapes Go.ChangeAt Go.RowKit
set_option linter.unusedVariables false

/-- The cells of a token. -/
def TokAt (w : World) (b o : Nat) (t : Tok) : Prop :=
  w.cell? ⟨b, o, none⟩ = some (.int .i64 t.B) ∧ w.cell? ⟨b, o + 1, none⟩ = some (.int .i64 t.L) ∧ w.cell? ⟨b, o + 2, none⟩ = some (.int .i64 t.D)
/-- What is told of a slice of tokens. -/
def IsToks (w : World) (a : Option Addr) (l : List Tok) : Prop :=
  0 < l.length → ∃ b off, a = some ⟨b, off, none⟩ ∧ b < w.heap.size ∧ ∀ i (h : i < l.length), TokAt w b (off + i * 3) l[i]

theorem IsToks.below {w w' : World} {a : Option Addr} {l : List Tok} {n : Nat} (h : IsToks w a l) (k : Below n w w') (hn : w.heap.size ≤ n) : IsToks w' a l := by
  intro h0
  obtain ⟨b, off, e, hb, hc⟩ := h h0
  refine ⟨b, off, e, Nat.lt_of_lt_of_le hb k.size, fun i hi => ?_⟩
  obtain ⟨q1, q2, q3⟩ := hc i hi
  exact ⟨(k.cell (by show b < n; omega)).trans q1, (k.cell (by show b < n; omega)).trans q2, (k.cell (by show b < n; omega)).trans q3⟩

/-- 'string(b)' of an owned row. -/
theorem run_string_row (w : World) (v : Value) (bs : List UInt8) (h : w.ownsRow 0 5 1 v bs.length (cellsU bs)) : (convert 36 9 v).run Try.prog w = .ok (.string ⟨bs.toArray⟩) w := by
  rcases h.2 with ⟨rfl, h0⟩ | ⟨g, cap, cur, rfl, _⟩
  · have : bs = [] := List.length_eq_zero_iff.1 h0
    subst this
    rw [run_convert_bytes_string w 36 9 5 _ _ _ (by kernel_rfl) (by kernel_rfl) (by kernel_rfl)]
    rfl
  · exact Oct.run_string_of _ _ _ 5 _ _ bs bs.length rfl (by kernel_rfl) (by kernel_rfl) (by kernel_rfl) (fun j hj => by
      rw [Oct.addr_add, h.cellAt j (by omega)]
      rfl)

theorem exp_of_bad {win : List UInt8} {l : List Tok} {e : Int} (h : run (tailL win) l = ([], e)) : expL win l = [] ∧ expE win l = e := by
  unfold expL expE
  rw [h]
  exact ⟨List.drop_nil, rfl⟩

set_option maxRecDepth 10000 in
set_option maxHeartbeats 2000000 in
theorem expand_any (win : ByteArray) (a : Option Addr) (l : List Tok) (n cap : Nat) (w : World) (hn : l.length = n) (h : IsToks w a l) (hs : win.size ≤ maxLen) (hl : n ≤ 3000000) :
    Calls Try.prog 12 #[.string win, .slice a n cap] w fun e w' => e = .returned (.tuple #[.string ⟨(expL win.data.toList l).toArray⟩, .int .i64 (expE win.data.toList l)]) ∧ Below w.heap.size w w' := by
  obtain ⟨i0, hi, hz0, hz1, hz2⟩ := info_parts info_u8
  have H := Lib.hid h
  clear h
  obtain ⟨rs, hrs⟩ : ∃ rs, ByteArray.mk (expL win.data.toList l).toArray = rs := ⟨_, rfl⟩
  obtain ⟨re, hre⟩ : ∃ re, expE win.data.toList l = re := ⟨_, rfl⟩
  rw [hrs, hre]
  have C1 := Lib.hid (tail_any win w hs)
  obtain ⟨s, hsT⟩ : ∃ s, tailB win = s := ⟨_, rfl⟩
  have hss : s.size ≤ 32768 := by rw [← hsT, tailB_size]; omega
  have hT : tailL win.data.toList = s.data.toList := by rw [← tailB_list, hsT]
  rw [hsT] at C1
  have BAD : Hid (∀ e, run s.data.toList l = ([], e) → rs = ⟨#[]⟩ ∧ re = e) := Lib.hid fun e he => by
    rw [← hT] at he
    obtain ⟨k1, k2⟩ := exp_of_bad he
    exact ⟨by rw [← hrs, k1], by rw [← hre, k2]⟩
  have GOOD : Hid (∀ bk, run s.data.toList l = (s.data.toList ++ bk, 0) → rs = ⟨bk.toArray⟩ ∧ re = 0) := Lib.hid fun bk he => by
    rw [← hT] at he
    obtain ⟨k1, k2⟩ := exp_good he
    exact ⟨by rw [← hrs, k1], by rw [← hre, k2]⟩
  clear hsT hT hs hrs hre
  go_enter Try.func12, Try.ntmps12
  go_wp2_with fail
  refine C1.out.mono ?_
  rintro r w' ⟨rfl, rfl⟩
  clear C1
  go_wp2_with fail
  go_loopw [6, 13] (fun x i wr => ∃ (k : Nat) (bk : List UInt8), k ≤ n ∧ bk.length ≤ 258 * k ∧ i = .int .i64 k ∧ run s.data.toList (l.take k) = (s.data.toList ++ bk, 0) ∧ wr.ownsRow 0 5 1 x bk.length (cellsU bk) ∧
      Below w.heap.size w wr ∧ ∀ j, x.ownBlock = some j → w.heap.size ≤ j) (fun _ i _ => n - (intOf i).toNat)
  case atStart =>
    exact ⟨0, [], Nat.zero_le _, by simp, rfl, by simp [run], World.ownsRow_nil _ _ _ _, Below.refl _ _, fun j hj => by simp [Value.ownBlock] at hj⟩
  case round =>
    obtain ⟨k, bk, hk, hlen, rfl, hrun, ho, hb, hv⟩ := hrel
    by_cases hlt : k < n
    · obtain ⟨b, off, rfl, hbb, hc⟩ := H.out (by omega)
      obtain ⟨q1, q2, q3⟩ := hc k (by omega)
      have c1 := (hb.cell hbb).trans q1
      have c2 := (hb.cell hbb).trans q2
      have c3 := (hb.cell hbb).trans q3
      clear q1 q2 q3 hc hbb
      generalize htk : l[k] = t at *
      have hall : (s.data.toList ++ bk).length = s.size + bk.length := by simp
      -- what the token does
      have BADK : Hid (errT (s.size + bk.length) t ≠ 0 → rs = ⟨#[]⟩ ∧ re = errT (s.size + bk.length) t) := Lib.hid fun he => by
        have := run_at (k := k) (by omega) hrun (by rw [hall, htk]; exact he)
        rw [hall, htk] at this
        exact BAD.out _ this
      have NEXTK : Hid (errT (s.size + bk.length) t = 0 → run s.data.toList (l.take (k + 1)) = (stepT (s.data.toList ++ bk) t, 0)) := Lib.hid fun he => by
        have := run_next (k := k) (by omega) hrun (by rw [hall, htk]; exact he)
        rw [htk] at this
        exact this
      have HO := Lib.hid ho
      have HB := Lib.hid hb
      have HV := Lib.hid hv
      obtain ⟨ua, uc, rfl⟩ : ∃ a c, u6 = .slice a bk.length c := by
        rcases ho.2 with ⟨e, h0⟩ | ⟨g, cap, cur, e, _⟩
        · exact ⟨none, 0, by rw [e, h0]⟩
        · exact ⟨_, cap, e⟩
      clear htk hrun ho hb hv hall
      go_wp2_with fail
      refine (valid_any t _).mono ?_
      rintro r w' ⟨rfl, rfl⟩
      obtain ⟨X, hX⟩ : ∃ X, Obj.cells (tokC t) 30 = X := ⟨_, rfl⟩
      have hP : ((wr.alloc X).alloc X).heap[wr.heap.size]? = some X := by
        rw [Below.heap_alloc _ _ _ (by simp)]; exact heap_alloc_new _ _
      have hb2 := (HB.out.alloc HB.out.size X).alloc (by have := HB.out.size; simp; omega) X
      have hg2 : wr.grownBy ((wr.alloc X).alloc X) none := (World.grownBy_alloc _ _ _).trans (World.grownBy_alloc _ _ _)
      have ho2 := (HO.out.alloc X).alloc X
      have hX2 : X = .cells #[.int .i64 t.B, .int .i64 t.L, .int .i64 t.D] 30 := hX.symm
      change Obj.cells #[.int .i64 t.B, .int .i64 t.L, .int .i64 t.D] 30 = X at hX
      rw [show Obj.cells (tokC t) 30 = X from hX, hX]
      have hz : wr.heap.size < ((wr.alloc X).alloc X).heap.size := by simp; omega
      generalize (wr.alloc X).alloc X = w2 at *
      rw [hX2] at hP
      have d1 : w2.cell? ⟨wr.heap.size, 0, none⟩ = some (.int .i64 t.B) := by rw [cell_of_row _ _ 0 _ _ _ hP]; rfl
      have d2 : w2.cell? ⟨wr.heap.size, 1, none⟩ = some (.int .i64 t.L) := by rw [cell_of_row _ _ 1 _ _ _ hP]; rfl
      have d3 : w2.cell? ⟨wr.heap.size, 2, none⟩ = some (.int .i64 t.D) := by rw [cell_of_row _ _ 2 _ _ _ hP]; rfl
      have HV2 : ∀ j, (Value.slice ua bk.length uc).ownBlock = some j → w.heap.size ≤ j := HV.out
      have hzw : w.heap.size ≤ w2.heap.size := hb2.size
      clear hX hX2 hP hg2 c1 c2 c3 HB HO HV BAD GOOD
      generalize wr.heap.size = P at *
      have HO := Lib.hid ho2
      have HB := Lib.hid hb2
      have HV := Lib.hid HV2
      clear ho2 hb2 HV2
      have STEP : Hid (∀ (bk' : List UInt8) v' w', errT (s.size + bk.length) t = 0 → stepT (s.data.toList ++ bk) t = s.data.toList ++ bk' → bk'.length ≤ bk.length + 258 → w'.ownsRow 0 5 1 v' bk'.length (cellsU bk') → Below w.heap.size w w' → (∀ j, v'.ownBlock = some j → w.heap.size ≤ j) →
          bk'.length ≤ 258 * (k + 1) ∧ run s.data.toList (l.take (k + 1)) = (s.data.toList ++ bk', 0) ∧ w'.ownsRow 0 5 1 v' bk'.length (cellsU bk') ∧ Below w.heap.size w w' ∧ ∀ j, v'.ownBlock = some j → w.heap.size ≤ j) := Lib.hid fun bk' v' w' e1 e2 e3 e4 e5 e6 =>
        ⟨by omega, by rw [NEXTK.out e1, e2], e4, e5, e6⟩
      have hNb : bk.length ≤ 774000000 := by omega
      cases hokt : okT t with
      | false =>
        have he : errT (s.size + bk.length) t = 1 := by unfold errT; rw [hokt]; rfl
        obtain ⟨k1, k2⟩ := BADK.out (by rw [he]; decide)
        rw [he] at k2
        subst k1 k2
        clear he BADK NEXTK STEP hlen
        generalize bk.length = N at *
        go_wp2_with fail
        go_ret2
        exact ⟨rfl, HB.out⟩
      | true =>
        by_cases hd : ((s.size + bk.length : Nat) : Int) < t.D
        · have he : errT (s.size + bk.length) t = 60 := by unfold errT; rw [hokt, if_pos rfl, if_pos hd]
          obtain ⟨k1, k2⟩ := BADK.out (by rw [he]; decide)
          rw [he] at k2
          subst k1 k2
          clear he BADK NEXTK STEP hlen
          generalize bk.length = N at *
          have hd2 : (s.size : Int) + (N : Int) < t.D := by omega
          clear hd
          go_wp2_with fail
          go_ret2
          exact ⟨rfl, HB.out⟩
        · have he : errT (s.size + bk.length) t = 0 := errT_good hokt (by omega)
          by_cases hL : t.L = 0
          · obtain ⟨e0, e1, e2⟩ := okT_byte hokt hL
            obtain ⟨x, hx⟩ : ∃ x : UInt8, UInt8.ofNat t.B.toNat = x := ⟨_, rfl⟩
            have hB : t.B = (x.toNat : Nat) := by rw [← hx, UInt8.toNat_ofNat']; omega
            have hst : stepT (s.data.toList ++ bk) t = s.data.toList ++ (bk ++ [x]) := by
              unfold stepT
              rw [if_pos hL, hx, List.append_assoc]
            have ST : Hid (∀ v' w', w'.ownsRow 0 5 1 v' (bk.length + 1) (cellsU bk ++ cellsU [x]) → (w2.alloc (.cells #[.int .u8 x.toNat] 5)).grownBy w' (Value.slice ua bk.length uc).ownBlock → Near (w2.alloc (.cells #[.int .u8 x.toNat] 5)) (.slice ua bk.length uc) v' →
                (bk ++ [x]).length ≤ 258 * (k + 1) ∧ run s.data.toList (l.take (k + 1)) = (s.data.toList ++ (bk ++ [x]), 0) ∧ w'.ownsRow 0 5 1 v' (bk ++ [x]).length (cellsU (bk ++ [x])) ∧ Below w.heap.size w w' ∧ ∀ j, v'.ownBlock = some j → w.heap.size ≤ j) := Lib.hid fun v' w' o3 g3 n3 =>
              STEP.out (bk ++ [x]) v' w' he hst (by simp) (by rw [cellsU_append, List.length_append]; exact o3)
                ((HB.out.alloc HB.out.size _).grown g3 (by simp; omega) HV.out) (fun j hj => by
                  rcases n3 j hj with h | h
                  · exact HV.out j h
                  · simp at h; omega)
            rw [hB] at d1
            rw [hL] at d2
            rw [e0] at d3
            have hx2 := x.toNat_lt
            clear hst hx hd he BADK NEXTK STEP e1 e2 hlen
            generalize hN : bk.length = N at *
            clear hN
            go_wp2_with (at_builtin; refine wpList_append_near _ rfl (.tmp 38) (.tmp 42) 36 rfl 5 i0 (.int .u8 0) 1 1 Try.underlying36 hi hz0 hz1 hz2 rfl (by decide) (.slice ua N uc) N (cellsU bk) rfl (HO.out.alloc _) ⟨w2.heap.size, 0, none⟩ 1 1 (cellsU [x]) rfl rfl (litU _ _ _) (cellsU_one _) (by unfold maxLen; omega) (by omega) ?_; intro v3 w3 o3 g3 n3)
            have hh := ST.out v3 w3 o3 g3 n3
            exact ⟨⟨k + 1, _, by omega, hh.1, by go_num, hh.2⟩, by simp [intOf]; omega⟩
          · obtain ⟨e0, e1, e2, e3, e4⟩ := okT_piece hokt hL
            obtain ⟨L, hLn⟩ : ∃ L : Nat, t.L = L := ⟨t.L.toNat, by omega⟩
            obtain ⟨D, hDn⟩ : ∃ D : Nat, t.D = D := ⟨t.D.toNat, by omega⟩
            have hst : stepT (s.data.toList ++ bk) t = cp (s.data.toList ++ bk) D L := by
              unfold stepT
              rw [if_neg hL, hLn, hDn]; rfl
            have ST : Hid (∀ v' w' bs', s.data.toList ++ bs' = cp (s.data.toList ++ bk) D L → w'.ownsRow 0 5 1 v' bs'.length (cellsU bs') → w2.grownBy w' (Value.slice ua bk.length uc).ownBlock → Near w2 (.slice ua bk.length uc) v' →
                bs'.length ≤ 258 * (k + 1) ∧ run s.data.toList (l.take (k + 1)) = (s.data.toList ++ bs', 0) ∧ w'.ownsRow 0 5 1 v' bs'.length (cellsU bs') ∧ Below w.heap.size w w' ∧ ∀ j, v'.ownBlock = some j → w.heap.size ≤ j) := Lib.hid fun v' w' bs' q o3 g3 n3 => by
              have hl2 := congrArg List.length q
              rw [cp_length, List.length_append, List.length_append] at hl2
              exact STEP.out bs' v' w' he (hst.trans q.symm) (by omega) o3 (HB.out.grown g3 hzw HV.out) (fun j hj => by
                rcases n3 j hj with h | h
                · exact HV.out j h
                · omega)
            have CL := Lib.hid (longer_any s (.slice ua bk.length uc) bk 0 L D w2 HO.out (by omega) (by omega) (by omega) (by omega) (by omega))
            rw [e0] at d1
            rw [hLn] at d2
            rw [hDn] at d3 hd
            have hL3 : ¬ L = 0 := by omega
            have hL4 : ((L : Int) == 0) = false := by simpa using hL3
            clear hst he BADK NEXTK STEP e1 e2 e3 e4 hlen hL
            generalize hN : bk.length = N at *
            have hd3 : ¬ ((s.size : Int) + (N : Int) < (D : Int)) := by omega
            clear hN hd
            go_wp2_with fail
            refine CL.out.mono ?_
            rintro r w' ⟨v', bs', rfl, q, o3, g3, n3⟩
            have hh := Lib.hid (ST.out v' w' bs' q o3 g3 n3)
            clear q o3 g3 n3 CL ST
            go_wp2_with fail
            exact ⟨⟨k + 1, _, by omega, hh.out.1, by go_num, hh.out.2⟩, by simp [intOf]; omega⟩
    · obtain rfl : k = n := by omega
      have e : l.take k = l := List.take_of_length_le (by omega)
      rw [e] at hrun
      obtain ⟨k1, k2⟩ := GOOD.out _ hrun
      subst k2
      have hcv := run_string_row wr u6 bk ho
      rw [← k1] at hcv
      have HB := Lib.hid hb
      clear hrun ho hb hv BAD GOOD e k1
      go_wp2_with fail
      go_ret2
      exact ⟨rfl, HB.out⟩

end Go.Proofs.Ytlafenookbdhoaa.Lz
