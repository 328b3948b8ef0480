/-
  Contract of the reference's Expand (miradorref06).
-/
import Derived.Test.YtlafenookbdhoaaLzExp
namespace Go.Proofs.Ytlafenookbdhoaa.Lz
open Go.ChangeShapes Go.WideShapes Go.ChangeAt Go.RowKit
set_option linter.unusedVariables false

/-- 'string(b[i:])' of an owned row. -/
theorem run_string_cut (w : World) (g n cap i : Nat) (bs : List UInt8) (hn : bs.length = n) (h : w.ownsRow 0 5 1 (.slice (some ⟨g, 0, none⟩) n cap) n (cellsU bs)) (hi : i ≤ n) :
    (convert 36 9 (.slice (some ⟨g, i, none⟩) (n - i) (cap - i))).run Try.prog w = .ok (.string ⟨(bs.drop i).toArray⟩) w := by
  refine Oct.run_string_of _ _ _ 5 _ _ (bs.drop i) (n - i) (by simp [hn]) (by kernel_rfl) (by kernel_rfl) (by kernel_rfl) (fun j hj => ?_)
  rw [Go.WideShapes.add_plain, h.cellAt (i + j) (by omega)]
  simp [cellsU]

theorem own_slice {w : World} {B size n : Nat} {e : TypeId} {v : Value} {xs : List Value} (h : w.ownsRow B e size v n xs) : ∃ a c, v = .slice a n c := by
  rcases h.2 with ⟨e, h0⟩ | ⟨g, cap, cur, e, _⟩
  · exact ⟨none, 0, by rw [e, h0]⟩
  · exact ⟨_, cap, e⟩
theorem own_slice0 {w : World} {B size n : Nat} {e : TypeId} {v : Value} {xs : List Value} (h : w.ownsRow B e size v (0 + n) xs) : ∃ a c, v = .slice a n c := by
  rw [Nat.zero_add] at h
  exact own_slice h

set_option maxRecDepth 10000 in
set_option maxHeartbeats 2000000 in
theorem refExpand_any (win : ByteArray) (a : Option Addr) (l : List Tok) (n cap : Nat) (w : World) (hn : l.length = n) (h : IsToks w a l) (hs : win.size ≤ maxLen) (hl : n ≤ 3000000) :
    Calls Try.prog 13 #[.string win, .slice a n cap] w fun e w' => e = .returned (.tuple #[.string ⟨(expL win.data.toList l).toArray⟩, .int .i64 (expE win.data.toList l)]) ∧ Below w.heap.size w w' := by
  obtain ⟨i0, hi, hz0, hz1, hz2⟩ := info_parts info_u8
  have H := Lib.hid h
  clear h
  obtain ⟨rs, hrs⟩ : ∃ rs, ByteArray.mk (expL win.data.toList l).toArray = rs := ⟨_, rfl⟩
  obtain ⟨re, hre⟩ : ∃ re, expE win.data.toList l = re := ⟨_, rfl⟩
  rw [hrs, hre]
  have C1 := Lib.hid (refTail_any win w hs)
  obtain ⟨s, hsT⟩ : ∃ s, tailB win = s := ⟨_, rfl⟩
  have hss : s.size ≤ 32768 := by rw [← hsT, tailB_size]; omega
  have hT : tailL win.data.toList = s.data.toList := by rw [← tailB_list, hsT]
  rw [hsT] at C1
  have BAD : Hid (∀ e, run s.data.toList l = ([], e) → rs = ⟨#[]⟩ ∧ re = e) := Lib.hid fun e he => by
    rw [← hT] at he
    obtain ⟨k1, k2⟩ := exp_of_bad he
    exact ⟨by rw [← hrs, k1], by rw [← hre, k2]⟩
  have GOOD : Hid (∀ al, run s.data.toList l = (al, 0) → s.size ≤ al.length ∧ rs = ⟨(al.drop s.size).toArray⟩ ∧ re = 0) := Lib.hid fun al he => by
    obtain ⟨⟨r, hr⟩, _⟩ := run_pre _ _ _ he
    subst hr
    have he2 := he
    rw [← hT] at he
    obtain ⟨k1, k2⟩ := exp_good he
    refine ⟨by simp, ?_, by rw [← hre, k2]⟩
    have : (s.data.toList ++ r).drop s.size = r := by
      have e : s.size = s.data.toList.length := by simp
      rw [e]; exact List.drop_left
    rw [this, ← hrs, k1]
  have hSL : s.data.toList.length = s.size := by simp
  clear hsT hT hs hrs hre
  go_enter Try.func13, Try.ntmps13
  go_wp2_with fail
  refine C1.out.mono ?_
  rintro r w' ⟨rfl, rfl⟩
  clear C1
  go_wp2_with (at_builtin; refine wpList_append_string_near _ rfl (.tmp 11) (.tmp 13) 36 9 rfl 5 i0 Try.underlying36 Try.underlying9 hi hz0 hz1 hz2 (.slice none 0 0) 0 [] rfl (World.ownsRow_nil _ _ _ _) s rfl (by unfold maxLen; omega) (by omega) ?_; intro v1 w1 o1 g1 n1; obtain ⟨va, vc, rfl⟩ := own_slice0 o1)
  have o2 : w1.ownsRow 0 5 1 (.slice va s.size vc) s.data.toList.length (cellsU s.data.toList) := by
    rw [Nat.zero_add, List.nil_append, strCells_eq] at o1
    rw [hSL]; exact o1
  have b1 : Below w.heap.size w w1 := (Below.refl _ _).grown g1 (Nat.le_refl _) (fun k hk => by simp [Value.ownBlock] at hk)
  have f1 : ∀ j, (Value.slice va s.size vc).ownBlock = some j → w.heap.size ≤ j := fun j hj => by
    rcases n1 j hj with h | h
    · simp [Value.ownBlock] at h
    · exact h
  have O1 := Lib.hid o2
  have B1 := Lib.hid b1
  have F1 := Lib.hid f1
  clear o1 g1 n1 o2 b1 f1
  go_loopw [6, 8] (fun x i wr => ∃ (k : Nat) (al : List UInt8), k ≤ n ∧ al.length ≤ 32768 + 258 * k ∧ i = .int .i64 k ∧ run s.data.toList (l.take k) = (al, 0) ∧ wr.ownsRow 0 5 1 x al.length (cellsU al) ∧
      Below w.heap.size w wr ∧ ∀ j, x.ownBlock = some j → w.heap.size ≤ j) (fun _ i _ => n - (intOf i).toNat)
  case atStart =>
    exact ⟨0, s.data.toList, Nat.zero_le _, by omega, rfl, by simp [run], O1.out, B1.out, F1.out⟩
  case round =>
    obtain ⟨k, al, hk, hlen, rfl, hrun, ho, hb, hv⟩ := hrel
    clear O1 B1 F1
    by_cases hlt : k < n
    · obtain ⟨b, off, rfl, hbb, hc⟩ := H.out (by omega)
      generalize htk : l[k] = t at *
      obtain ⟨q1, q2, q3⟩ := hc k (by omega)
      rw [htk] at q1 q2 q3
      have c1 := (hb.cell hbb).trans q1
      have c2 := (hb.cell hbb).trans q2
      have c3 := (hb.cell hbb).trans q3
      have BADK : Hid (errT al.length t ≠ 0 → rs = ⟨#[]⟩ ∧ re = errT al.length t) := Lib.hid fun he => by
        have := run_at (k := k) (by omega) hrun (by rw [htk]; exact he)
        rw [htk] at this
        exact BAD.out _ this
      have NEXTK : Hid (errT al.length t = 0 → run s.data.toList (l.take (k + 1)) = (stepT al t, 0)) := Lib.hid fun he => by
        have := run_next (k := k) (by omega) hrun (by rw [htk]; exact he)
        rw [htk] at this
        exact this
      obtain ⟨ua, uc, rfl⟩ := own_slice ho
      have HO := Lib.hid ho
      have HB := Lib.hid hb
      have HV := Lib.hid hv
      have Q1 := Lib.hid q1
      have Q2 := Lib.hid q2
      have Q3 := Lib.hid q3
      have HBB := Lib.hid hbb
      clear htk hrun ho hb hv q1 q2 q3 hc hbb
      generalize hN : al.length = N at *
      go_wp2_with fail
      refine (refValid_any t _).mono ?_
      rintro r w' ⟨rfl, rfl⟩
      have hb2 := HB.out.alloc HB.out.size (Obj.cells (tokC t) 30)
      have ho2 := HO.out.alloc (Obj.cells (tokC t) 30)
      have c1 := (hb2.cell HBB.out).trans Q1.out
      have c2 := (hb2.cell HBB.out).trans Q2.out
      have c3 := (hb2.cell HBB.out).trans Q3.out
      have hzw := hb2.size
      clear HB HO
      generalize wr.alloc (Obj.cells (tokC t) 30) = w2 at *
      have HB := Lib.hid hb2
      have HO := Lib.hid ho2
      clear hb2 ho2
      have hNb : N ≤ 774033000 := by omega
      cases hokt : okT t with
      | false =>
        have he : errT N t = 1 := by unfold errT; rw [hokt]; rfl
        obtain ⟨k1, k2⟩ := BADK.out (by rw [he]; decide)
        rw [he] at k2
        subst k1 k2
        clear he BADK NEXTK hlen BAD GOOD
        go_wp2_with fail
        go_ret2
        exact ⟨rfl, HB.out⟩
      | true =>
        by_cases hL : t.L = 0
        · obtain ⟨e0, e1, e2⟩ := okT_byte hokt hL
          have he : errT N t = 0 := errT_good hokt (by omega)
          obtain ⟨x, hx⟩ : ∃ x : UInt8, UInt8.ofNat t.B.toNat = x := ⟨_, rfl⟩
          have hB : t.B = (x.toNat : Nat) := by rw [← hx, UInt8.toNat_ofNat']; omega
          have hst : run s.data.toList (l.take (k + 1)) = (al ++ [x], 0) := by
            rw [NEXTK.out he]
            unfold stepT
            rw [if_pos hL, hx]
          have ST : Hid (∀ v' w', w'.ownsRow 0 5 1 v' (N + 1) (cellsU al ++ cellsU [x]) → (w2.alloc (.cells #[.int .u8 x.toNat] 5)).grownBy w' (Value.slice ua N uc).ownBlock → Near (w2.alloc (.cells #[.int .u8 x.toNat] 5)) (.slice ua N uc) v' →
              (al ++ [x]).length ≤ 32768 + 258 * (k + 1) ∧ run s.data.toList (l.take (k + 1)) = (al ++ [x], 0) ∧ w'.ownsRow 0 5 1 v' (al ++ [x]).length (cellsU (al ++ [x])) ∧ Below w.heap.size w w' ∧ ∀ j, v'.ownBlock = some j → w.heap.size ≤ j) := Lib.hid fun v' w' o3 g3 n3 =>
            ⟨by rw [List.length_append, hN]; simp; omega, hst, by rw [cellsU_append, List.length_append, hN]; exact o3,
              (HB.out.alloc HB.out.size _).grown g3 (by simp; omega) HV.out, fun j hj => by
                rcases n3 j hj with h | h
                · exact HV.out j h
                · simp at h; omega⟩
          rw [hB] at c1
          rw [hL] at c2
          rw [e0] at c3
          have hx2 := x.toNat_lt
          clear hst hx he BADK NEXTK e1 e2 hlen hN BAD GOOD
          go_wp2_with (at_builtin; refine wpList_append_near _ rfl (.tmp 36) (.tmp 43) 36 rfl 5 i0 (.int .u8 0) 1 1 Try.underlying36 hi hz0 hz1 hz2 rfl (by decide) (.slice ua N uc) N (cellsU al) rfl (HO.out.alloc _) ⟨w2.heap.size, 0, none⟩ 1 1 (cellsU [x]) rfl rfl (litU _ _ _) (cellsU_one _) (by unfold maxLen; omega) (by omega) ?_; intro v3 w3 o3 g3 n3)
          have hh := ST.out v3 w3 o3 g3 n3
          exact ⟨⟨k + 1, _, by omega, hh.1, by go_num, hh.2⟩, by simp [intOf]; omega⟩
        · have hL4 : (t.L == 0) = false := by simpa using hL
          by_cases hd : (N : Int) < t.D
          · have he : errT N t = 60 := by unfold errT; rw [hokt, if_pos rfl, if_pos hd]
            obtain ⟨k1, k2⟩ := BADK.out (by rw [he]; decide)
            rw [he] at k2
            subst k1 k2
            clear he BADK NEXTK hlen BAD GOOD
            go_wp2_with fail
            go_ret2
            exact ⟨rfl, HB.out⟩
          · have he : errT N t = 0 := errT_good hokt (by omega)
            obtain ⟨e0, e1, e2, e3, e4⟩ := okT_piece hokt hL
            obtain ⟨L, hLn⟩ : ∃ L : Nat, t.L = L := ⟨t.L.toNat, by omega⟩
            obtain ⟨D, hDn⟩ : ∃ D : Nat, t.D = D := ⟨t.D.toNat, by omega⟩
            have hst : run s.data.toList (l.take (k + 1)) = (cp al D L, 0) := by
              rw [NEXTK.out he]
              unfold stepT
              rw [if_neg hL, hLn, hDn]; rfl
            have HST := Lib.hid hst
            rw [hLn] at c2 hL4
            rw [hDn] at c3 hd
            rw [e0] at c1
            rw [hLn] at Q2
            rw [hDn] at Q3
            have hLD : 3 ≤ L ∧ L ≤ 258 ∧ 1 ≤ D ∧ D ≤ N := by omega
            clear hst he BADK NEXTK e1 e2 e3 e4 BAD GOOD hL
            have HNN := Lib.hid hN
            have hd1 : decide ((N : Int) < (D : Int)) = false := decide_eq_false (by omega)
            have hd2 : decide (N < D) = false := decide_eq_false (by omega)
            clear hN hd
            go_wp2_with fail
            go_loopw [6, 10] (fun x i wq => ∃ (j : Nat) (ak : List UInt8), j ≤ L ∧ ak.length = N + j ∧ i = .int .i64 j ∧ ak = cp al D j ∧ wq.ownsRow 0 5 1 x ak.length (cellsU ak) ∧
                Below w.heap.size w wq ∧ ∀ j, x.ownBlock = some j → w.heap.size ≤ j) (fun _ i _ => L - (intOf i).toNat)
            case atStart =>
              exact ⟨0, al, Nat.zero_le _, HNN.out, rfl, rfl, by rw [HNN.out]; exact HO.out, HB.out, HV.out⟩
            case round =>
              obtain ⟨j, ak, hj, hal, rfl, hcp, ho, hb, hv⟩ := hrel
              clear HO HB HV c1 c2 c3
              have c2 := (hb.cell HBB.out).trans Q2.out
              have c3 := (hb.cell HBB.out).trans Q3.out
              have HB := Lib.hid hb
              have HV := Lib.hid hv
              have HCP := Lib.hid hcp
              have HS := Lib.hid hb.size
              clear hb hv hcp
              by_cases hjl : j < L
              · obtain ⟨g, cap2, rfl⟩ := own_form ho (by omega)
                obtain ⟨m, hm⟩ : ∃ m : Nat, ak.length - D = m := ⟨_, rfl⟩
                have hmb : m < ak.length := by omega
                have hcl : wr.cell? ⟨g, m, none⟩ = some (.int .u8 ((ak.getD m 0).toNat : Nat)) := by
                  rw [ho.cellAt m (by omega)]
                  simp [cellsU, List.getD_eq_getElem?_getD, hmb]
                have hnext : ak ++ [ak.getD m 0] = cp al D (j + 1) := by rw [cp, ← HCP.out, hm]
                have HO := Lib.hid ho
                have HNX := Lib.hid hnext
                generalize ak.getD m 0 = x at *
                have ST : Hid (∀ v' w', w'.ownsRow 0 5 1 v' (ak.length + 1) (cellsU ak ++ cellsU [x]) → (wr.alloc (.cells #[.int .u8 x.toNat] 5)).grownBy w' (Value.slice (some ⟨g, 0, none⟩) ak.length cap2).ownBlock → Near (wr.alloc (.cells #[.int .u8 x.toNat] 5)) (.slice (some ⟨g, 0, none⟩) ak.length cap2) v' →
                    (ak ++ [x]).length = N + (j + 1) ∧ w'.ownsRow 0 5 1 v' (ak ++ [x]).length (cellsU (ak ++ [x])) ∧ Below w.heap.size w w' ∧ ∀ j, v'.ownBlock = some j → w.heap.size ≤ j) := Lib.hid fun v' w' o3 g3 n3 =>
                  ⟨by rw [List.length_append, hal]; simp; omega, by rw [cellsU_append, List.length_append]; exact o3,
                    (HB.out.alloc HS.out _).grown g3 (by have := HS.out; simp; omega) HV.out, fun j hj => by
                      rcases n3 j hj with h | h
                      · exact HV.out j h
                      · have := HS.out; simp at h; omega⟩
                clear ho hnext
                generalize hM : ak.length = M at *
                have hi1 : (M : Int) - (D : Int) = (m : Int) := by omega
                have hMb : M ≤ 775000000 := by omega
                clear hM hm hal
                go_wp2_with (at_builtin; refine wpList_append_near _ rfl (.tmp 62) (.tmp 74) 36 rfl 5 i0 (.int .u8 0) 1 1 Try.underlying36 hi hz0 hz1 hz2 rfl (by decide) (.slice (some ⟨g, 0, none⟩) M cap2) M (cellsU ak) rfl (HO.out.alloc _) ⟨wr.heap.size, 0, none⟩ 1 1 (cellsU [x]) rfl rfl (litU _ _ _) (cellsU_one _) (by unfold maxLen; omega) (by omega) ?_; intro v3 w3 o3 g3 n3)
                have hh := Lib.hid (ST.out v3 w3 o3 g3 n3)
                exact ⟨⟨j + 1, _, by omega, hh.out.1, by go_num, HNX.out, hh.out.2⟩, by simp [intOf]; omega⟩
              · obtain rfl : j = L := by omega
                have hlen3 : ak.length ≤ 32768 + 258 * (k + 1) := by omega
                have HO := Lib.hid ho
                clear ho
                go_wp2_with fail
                exact ⟨⟨k + 1, ak, by omega, hlen3, by go_num, by rw [HCP.out]; exact HST.out, HO.out, HB.out, HV.out⟩, by simp [intOf]; omega⟩
    · obtain rfl : k = n := by omega
      have e : l.take k = l := List.take_of_length_le (by omega)
      rw [e] at hrun
      obtain ⟨z, k1, k2⟩ := GOOD.out _ hrun
      subst k2
      have HB := Lib.hid hb
      have hNb : al.length ≤ 774033000 := by omega
      rcases ho.2 with ⟨rfl, h0⟩ | ⟨g, cap3, cur, rfl, _⟩
      · have hs0 : s.size = 0 := by omega
        have hal : al = [] := List.length_eq_zero_iff.1 h0
        have hcv : (convert 36 9 (.slice none 0 0)).run Try.prog wr = .ok (.string rs) wr := by
          have := run_string_row wr (.slice none 0 0) [] (World.ownsRow_nil _ _ _ _)
          rw [this, k1, hal, List.drop_nil]
        rw [hs0]
        clear hrun ho hb hv BAD GOOD e k1 hal h0
        go_wp2_with fail
        go_ret2
        exact ⟨rfl, HB.out⟩
      · by_cases hcs : cap3 = s.size
        · subst hcs
          have hNs : al.length = s.size := by
            rcases ho.2 with ⟨h, _⟩ | ⟨g2, c2, cur2, h, _, _, h5, _⟩
            · simp at h
            · simp only [Value.slice.injEq] at h; omega
          have hcv : (convert 36 9 (.slice (some ⟨g, 0, none⟩) 0 0)).run Try.prog wr = .ok (.string rs) wr := by
            rw [k1, List.drop_of_length_le (by omega)]
            exact Oct.run_string_of _ _ _ 5 _ _ [] 0 rfl (by kernel_rfl) (by kernel_rfl) (by kernel_rfl) (fun j hj => by omega)
          rw [hNs]
          clear hrun ho hb hv BAD GOOD e k1 hlen hNs z
          go_wp2_with fail
          go_ret2
          exact ⟨rfl, HB.out⟩
        have hcv := run_string_cut wr g al.length cap3 s.size al rfl ho z
        rw [← k1] at hcv
        have hcap : al.length ≤ cap3 := by
          rcases ho.2 with ⟨h, _⟩ | ⟨g2, c2, cur2, h, _, _, h5, _⟩
          · simp at h
          · simp only [Value.slice.injEq] at h; omega
        have hcap2 : cap3 ≤ 9223372036854775807 := by
          rcases ho.2 with ⟨h, _⟩ | ⟨g2, c2, cur2, h, _, _, _, h5, _⟩
          · simp at h
          · simp only [Value.slice.injEq] at h; unfold maxLen at h5; omega
        clear hrun ho hb hv BAD GOOD e k1 hlen
        generalize al.length = N at *
        go_wp2_with fail
        go_ret2
        exact ⟨rfl, HB.out⟩

end Go.Proofs.Ytlafenookbdhoaa.Lz
