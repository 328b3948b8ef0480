/-
  Contract of huffman.Lengths.
-/
import Derived.Test.YtildikdoimobhaaHufLen
namespace Go.Proofs.Ytildikdoimobhaa.Huf
open Go.ChangeShapes Go.WideShapes Go.ChangeAt Go.RowKit Go.Sort
set_option linter.unusedVariables false

theorem lv_syms (f : Nat → Nat) (S : List Nat) : ∀ (d : Nat) (P : List Tr), Lv f S d P → ∀ t ∈ P, ∀ s ∈ t.syms, s ∈ S := by
  intro d
  induction d with
  | zero => rintro P h t ht; cases h; simp at ht
  | succ d ih =>
    rintro P ⟨P', h', hp, _⟩ t ht s hs
    rcases List.mem_append.1 (hp.mem_iff.1 ht) with h2 | h2
    · obtain ⟨i, hi, rfl⟩ := List.mem_map.1 h2
      simp [Tr.syms] at hs; subst hs; exact hi
    · obtain ⟨a, b, rfl, ha, hb⟩ := pairs_mem P' t h2
      simp only [Tr.syms, List.mem_append] at hs
      rcases hs with hs | hs
      · exact ih P' h' a ha s hs
      · exact ih P' h' b hb s hs
theorem comeS_mem (N : List Nat) (n i : Nat) : i ∈ comeS N n ↔ i < n ∧ 0 < N.getD i 0 := by
  unfold comeS; simp [List.mem_filter]
theorem comeS_nodup (N : List Nat) (n : Nat) : (comeS N n).Nodup := by
  unfold comeS; exact List.nodup_range.filter _

/-- How often each comes. -/
def cnts (n : Nat) (X : List Nat) : List Nat := (List.range n).map fun i => X.count i
theorem cnts_get (n : Nat) (X : List Nat) (s : Nat) (h : s < n) : (cellsN (cnts n X))[s]? = some (.int .i64 (X.count s : Nat)) := by
  simp [cellsN, cnts, h]
theorem cnts_set (n : Nat) (X : List Nat) (s : Nat) (h : s < n) : (cellsN (cnts n X)).set s (.int .i64 (X.count s + 1 : Nat)) = cellsN (cnts n (X ++ [s])) := by
  apply List.ext_getElem?
  intro j
  by_cases hj : j < n
  · by_cases e : s = j
    · subst e
      rw [List.getElem?_set_self (by simp [cellsN, cnts, h]), cnts_get n _ _ hj, List.count_append]
      simp
    · rw [List.getElem?_set_ne e, cnts_get n _ _ hj, cnts_get n _ _ hj, List.count_append]
      simp [e]
  · rw [List.getElem?_eq_none (by simp [cellsN, cnts]; omega), List.getElem?_eq_none (by simp [cellsN, cnts]; omega)]
theorem cnts_zero (n : Nat) : cellsN (cnts n []) = List.replicate n (.int .i64 0) := by
  apply List.ext_getElem?
  intro j
  by_cases hj : j < n
  · rw [cnts_get n _ _ hj]; simp [hj]
  · rw [List.getElem?_eq_none (by simp [cellsN, cnts]; omega), List.getElem?_eq_none (by simp; omega)]

/-- Which packages are taken. -/
def Taken (N : List Nat) (n L : Nat) (P : List Tr) : Prop :=
  ((comeS N n).length < 2 ∧ P = (comeS N n).map .leaf) ∨ (2 ≤ (comeS N n).length ∧ ∃ Q, Lv (fun i => N.getD i 0) (comeS N n) L Q ∧ P = Q.take (2 * (comeS N n).length - 2))

/-- Packages that are read, the first M of them, none in block z. -/
structure Shown (f : Nat → Nat) (n z : Nat) (w : World) (ad : Option Addr) (M : Nat) (l : List Pk) : Prop where
  le : M ≤ l.length
  len : l.length ≤ 1000
  row : 0 < M → ∃ b, ad = some ⟨b, 0, none⟩ ∧ b ≠ z ∧ RowAt f w b l
  sym : ∀ p ∈ l, SymAt w p ∧ p.g ≠ z ∧ (∀ s ∈ p.t.syms, s < n) ∧ p.t.syms.length ≤ 16384 ∧ p.t.wt f ≤ 1000000000000000000

theorem lv_enough (f : Nat → Nat) (S : List Nat) (L : Nat) (hL : 1 ≤ L) (hn : S.length ≤ 2 ^ L) (P : List Tr) (hP : Lv f S L P) : 2 * S.length - 2 ≤ P.length :=
  (best f S L P hP hL (fun _ => L) (fun _ _ => Nat.le_refl _) (by
    rw [tot_congr _ (fun _ => 1) S (fun i _ => by rw [Nat.sub_self]), tot_const]; omega)).1

theorem cheapest_all (N : List Nat) (n L B : Nat) (v : Value) (d : List Pk) (w : World) (hn : n ≤ 320) (hf : ∀ i, N.getD i 0 ≤ 1073741824) (hL : 1 ≤ L) (hL2 : L ≤ 15) (hk : (comeS N n).length ≤ 2 ^ L)
    (hS : d.map (·.t) = (comeS N n).map .leaf) (hP : Packs (fun i => N.getD i 0) w B v d) (z : Nat) (hz : z < w.heap.size) (hzd : ∀ p ∈ d, p.g ≠ z) (hzv : v.ownBlock ≠ some z) :
    Calls Try.prog 41 #[v, .int .i64 L] w fun e w' => ∃ ad M cap l, e = .returned (.slice ad M cap) ∧ Shown (fun i => N.getD i 0) n z w' ad M l ∧ Taken N n L ((l.map (·.t)).take M) ∧ Below w.heap.size w w' := by
  have hcl := comeS_length N n
  have hdl : d.length = (comeS N n).length := by have := congrArg List.length hS; simpa using this
  by_cases h2 : (comeS N n).length < 2
  · obtain ⟨a, cap, hv⟩ := hP.sees.form
    refine (cheapest_few v a d.length cap L w hv (by omega)).mono ?_
    rintro e w' ⟨rfl, rfl⟩
    refine ⟨a, d.length, cap, d, by rw [hv], ⟨Nat.le_refl _, by omega, fun h => ?_, fun p hp => ?_⟩, .inl ⟨h2, ?_⟩, Below.refl _ _⟩
    · obtain ⟨g, c2, hv2⟩ := own_form hP.row h
      rw [hv] at hv2
      cases hv2
      refine ⟨g, rfl, fun e => hzv (by rw [hv, e]; rfl), ?_⟩
      have hr := hP.row
      rw [hv] at hr
      have := row_of_pks (pks_of_row hr rfl)
      simpa using this
    · have hm : p.t ∈ (comeS N n).map Tr.leaf := by rw [← hS]; exact List.mem_map_of_mem hp
      obtain ⟨i, hi, he⟩ := List.mem_map.1 hm
      refine ⟨hP.sym p hp, hzd p hp, ?_, ?_, ?_⟩
      · rw [← he]; intro s hs; simp [Tr.syms] at hs; subst hs; exact ((comeS_mem N n _).1 hi).1
      · rw [← he]; simp [Tr.syms]
      · rw [← he]; show N.getD i 0 ≤ _; have := hf i; omega
    · rw [List.take_of_length_le (by simp), hS]
  · refine (cheapest_any (fun i => N.getD i 0) (comeS N n) v d (comeS N n).length L B _ w rfl hdl hS (by omega) (by omega) hL hL2 (fun i _ => hf i) hP (fun P hp => lv_enough _ _ L hL hk P hp) z hz hzd).mono ?_
    rintro e w' ⟨b, m, cap, l, rfl, hl, hb, hz1, hz2⟩
    have hen := lv_enough _ _ L hL hk _ hl.lv
    have hle := lv_length _ _ L _ hl.lv
    rw [List.length_map] at hen hle
    obtain ⟨L', rfl⟩ : ∃ L', L = L' + 1 := ⟨L - 1, by omega⟩
    have hbd := lv_bound (fun i => N.getD i 0) (comeS N n) 1073741824 (fun i _ => hf i) L' _ hl.lv
    have hpw : 2 ^ L' ≤ 16384 := Nat.le_trans (Nat.pow_le_pow_right (by decide) (show L' ≤ 14 by omega)) (by decide)
    refine ⟨some ⟨b, 0, none⟩, _, cap, l, rfl, ⟨hen, by omega, fun _ => ⟨b, rfl, hz1, hl.row⟩, fun p hp => ⟨hl.sym p hp, hz2 p hp, fun s hs => ?_, ?_, ?_⟩⟩, .inr ⟨by omega, _, hl.lv, rfl⟩, hb⟩
    · exact ((comeS_mem N n s).1 (lv_syms _ _ _ _ hl.lv p.t (List.mem_map_of_mem hp) s hs)).1
    · have := (hbd p.t (List.mem_map_of_mem hp)).1; omega
    · have h := (hbd p.t (List.mem_map_of_mem hp)).2
      have : 2 ^ L' * 1073741824 ≤ 16384 * 1073741824 := Nat.mul_le_mul_right _ hpw
      omega

/-- The symbols of the first j packages. -/
def upTo (l : List Pk) (j : Nat) : List Nat := ((l.map (·.t)).take j).flatMap Tr.syms
theorem upTo_succ (l : List Pk) (j : Nat) (p : Pk) (h : l[j]? = some p) : upTo l (j + 1) = upTo l j ++ p.t.syms := by
  unfold upTo
  have hj := (List.getElem?_eq_some_iff.1 h).1
  have he := (List.getElem?_eq_some_iff.1 h).2
  rw [List.take_succ_eq_append_getElem (by simpa using hj), List.flatMap_append]
  simp [he]
theorem upTo_length (l : List Pk) (h : ∀ p ∈ l, p.t.syms.length ≤ 16384) : ∀ j, j ≤ l.length → (upTo l j).length ≤ j * 16384
  | 0, _ => by simp [upTo]
  | j + 1, hj => by
    have ih := upTo_length l h j (by omega)
    rw [upTo_succ l j l[j] (List.getElem?_eq_getElem (by omega)), List.length_append]
    have := h l[j] (List.getElem_mem _)
    omega

set_option maxRecDepth 10000 in
set_option maxHeartbeats 4000000 in
theorem lengths_any (a : Option Addr) (n cap : Nat) (N : List Nat) (L : Nat) (w : World) (hn : N.length = n) (h : IsInts w a (N.map fun (x : Nat) => (x : Int))) (hl : n ≤ 320) (hx : ∀ x ∈ N, x ≤ 1073741824) (hL : 1 ≤ L) (hL2 : L ≤ 15)
    (hs : (comeS N n).length ≤ 2 ^ L) :
    Calls Try.prog 25 #[.slice a n cap, .int .i64 L] w fun e w' => ∃ b P, e = .returned (.tuple #[.slice (some ⟨b, 0, none⟩) n n, .int .i64 0]) ∧ Taken N n L P ∧
      w'.ownsRow w.heap.size 3 1 (.slice (some ⟨b, 0, none⟩) n n) n (cellsN ((List.range n).map fun i => often i P)) ∧ Below w.heap.size w w' := by
  obtain ⟨i0, hi, hz0, hz1, hz2⟩ := info_parts info_int
  have hall : allIn 1073741824 (N.map fun (x : Nat) => (x : Int)) = true := by
    unfold allIn
    rw [List.all_eq_true]
    intro x hx'
    obtain ⟨y, hy, rfl⟩ := List.mem_map.1 hx'
    have := hx y hy
    simp; omega
  have hg : ∀ i, N.getD i 0 ≤ 1073741824 := fun i => by
    rw [List.getD_eq_getElem?_getD]
    by_cases hi : i < N.length
    · rw [List.getElem?_eq_getElem hi]; exact hx _ (List.getElem_mem _)
    · rw [List.getElem?_eq_none (by omega)]; decide
  have CW := Lib.hid (within_any a n cap (N.map fun (x : Nat) => (x : Int)) 1073741824 w (by simpa using hn) h (by omega))
  rw [hall] at CW
  have CS := Lib.hid (singles_any a n cap N w hn h (by omega) hx)
  have HG := Lib.hid hg
  have HS := Lib.hid hs
  have hn1 : ¬ ((n : Int) > 320) := by omega
  have hL3 : ¬ ((L : Int) < 1) := by omega
  have hL4 : ¬ ((L : Int) > 15) := by omega
  have hL5 : decide ((15 : Int) < L) = false := by simp; omega
  clear hall hg h hx hs
  go_enter Try.func25, Try.ntmps25
  go_wp2_with fail
  refine CW.out.mono ?_
  rintro r w1 ⟨rfl, rfl⟩
  go_wp2_with fail
  refine CS.out.mono ?_
  rintro r w1 ⟨v, d, rfl, hp, hd, hb⟩
  obtain ⟨av, cv, hv⟩ := hp.sees.form
  subst hv
  obtain ⟨P2, hP2⟩ : ∃ P : Int, (2 : Int) ^ L = P := ⟨_, rfl⟩
  have hPb : (1 : Int) ≤ P2 ∧ P2 ≤ 32768 := by
    rw [← hP2]
    have h1 : (2 : Int) ^ L = ((2 ^ L : Nat) : Int) := by simp
    have h2 : 2 ^ L ≤ 2 ^ 15 := Nat.pow_le_pow_right (by decide) hL2
    have h3 : 0 < 2 ^ L := Nat.pow_pos (by decide)
    rw [h1]
    have : (2 : Nat) ^ 15 = 32768 := by decide
    omega
  have hPw : IntKind.i64.wrap P2 = P2 := IntWalk.i64_in _ (by omega)
  obtain ⟨D, hD⟩ : ∃ D, d.length = D := ⟨_, rfl⟩
  have hDP : (D : Int) ≤ P2 := by
    rw [← hP2, ← hD]
    have h1 : (2 : Int) ^ L = ((2 ^ L : Nat) : Int) := by simp
    have h2 := congrArg List.length hd
    simp only [List.length_map] at h2
    have h3 := HS.out
    rw [h1]; omega
  have hD32 : D ≤ 320 := by
    have h2 := congrArg List.length hd
    simp only [List.length_map] at h2
    have := comeS_length N n
    omega
  have HP := Lib.hid hp
  have HD := Lib.hid hd
  have HB := Lib.hid hb
  have hDP5 : decide (P2 < (D : Int)) = false := by simp; omega
  rw [hD]
  clear hp hd hb CW CS
  go_wp2_with (at_make; refine wpList_make_full _ rfl _ _ 22 rfl w.heap.size 3 i0 (.int .i64 0) 1 Try.underlying22 hi hz0 hz1 .i64 .i64 _ _ n rfl rfl rfl rfl (by rw [hz2]; omega) (by unfold maxLen; omega) (by have := HB.out.size; omega) ?_; intro w2 hown hgrow)
  have hb2 : Below w1.heap.size w1 w2 := (Below.refl _ _).grown hgrow (Nat.le_refl _) (fun k hk => by cases hk)
  have hz : w1.heap.size < w2.heap.size := (hown.lt _ rfl).2
  have CC := Lib.hid (cheapest_all N n L w.heap.size (.slice av d.length cv) d w2 hl HG.out hL hL2 HS.out HD.out (HP.out.below hb2) w1.heap.size hz (fun p hp => by have := (HP.out.sym p hp).1; omega) (fun e => by have := (HP.out.row.lt _ e).2; omega))
  rw [hD] at CC
  have HO2 : Hid (w2.ownsRow w.heap.size 3 1 (.slice (some ⟨w1.heap.size, 0, none⟩) n n) n (cellsN (cnts n []))) := Lib.hid (by
    rw [cnts_zero, ← toList_madeCells_one]
    have h := hown
    rw [Nat.mul_one] at h
    exact h)
  have HB2 := Lib.hid (HB.out.trans (hb2.mono HB.out.size))
  have HZW : Hid (w.heap.size ≤ w1.heap.size) := Lib.hid HB.out.size
  have HZ2 := Lib.hid hz
  clear hown hgrow hb2 hz HP HD HB HS HG hD
  generalize w1.heap.size = z at *
  refine CC.out.mono ?_
  rintro r w3 ⟨ad, M, c4, l, rfl, hsh, htk, b3⟩
  have HSH := Lib.hid hsh
  have HTK := Lib.hid htk
  have HO3 := Lib.hid (ownsRow_blockK HO2.out (fun j hj => by cases hj; exact b3.block z HZ2.out))
  have HB3 := Lib.hid (HB2.out.trans (b3.mono HB2.out.size))
  have HS3 : Hid (w.heap.size ≤ w3.heap.size) := Lib.hid HB3.out.size
  have hM : M ≤ 1000 := Nat.le_trans hsh.le hsh.len
  clear hsh htk b3 HO2 HB2 HZ2 CC
  go_wp2_with fail
  go_loopw [42] (fun i wr => ∃ j : Nat, j ≤ M ∧ i = .int .i64 j ∧ wr.ownsRow w.heap.size 3 1 (.slice (some ⟨z, 0, none⟩) n n) n (cellsN (cnts n (upTo l j))) ∧ w3.grownBy wr (some z) ∧ Below w.heap.size w wr) (fun i _ => M - (intOf i).toNat)
  case atStart => exact ⟨0, Nat.zero_le _, rfl, HO3.out, World.grownBy.refl _ _, HB3.out⟩
  case round =>
    obtain ⟨j, hj, rfl, ho, hgr, hbe⟩ := hrel
    have HO := Lib.hid ho
    have HGR := Lib.hid hgr
    have HBE := Lib.hid hbe
    clear ho hgr hbe HO3 HB3
    by_cases hlt : j < M
    · have hlt' : (j : Int) < M := by omega
      obtain ⟨b, had, hbz, hrow⟩ := HSH.out.row (by omega)
      subst had
      have hjl : j < l.length := Nat.lt_of_lt_of_le hlt HSH.out.le
      obtain ⟨p, hp⟩ : ∃ p, l[j]? = some p := ⟨l[j], List.getElem?_eq_getElem hjl⟩
      have hpm := List.mem_of_getElem? hp
      have SY := Lib.hid (HSH.out.sym p hpm)
      have UP := Lib.hid (upTo_succ l j p hp)
      have UL := Lib.hid (upTo_length l (fun p hp => (HSH.out.sym p hp).2.2.2.1) j (by omega))
      have cellw : ∀ k, wr.cell? ⟨b, k, none⟩ = w3.cell? ⟨b, k, none⟩ := fun k => World.cell?_of_block (a := ⟨b, k, none⟩) (HGR.out.block b hrow.1 (by simp; exact hbz))
      have e0 := (cellw _).trans (hrow.2 j p hp).1
      have e1 := (cellw _).trans (hrow.2 j p hp).2
      obtain ⟨c1, hc1⟩ : ∃ c, p.t.wt (fun i => N.getD i 0) = c := ⟨_, rfl⟩
      obtain ⟨m, g, c, hv, hm, hg⟩ : ∃ m g c, p.s = .slice (some ⟨g, 0, none⟩) m c ∧ p.t.syms.length = m ∧ p.g = g := ⟨_, _, _, rfl, rfl, rfl⟩
      rw [hc1] at e0
      rw [hv] at e1
      have HM := Lib.hid hm
      have HG := Lib.hid hg
      have hm4 : m ≤ 16384 := by rw [← hm]; exact SY.out.2.2.2.1
      clear cellw hrow hbz hp hpm hc1 hv hm hg hjl
      go_wp2_with fail
      clear e0 e1 HSH
      go_loopw [49] (fun i wx => ∃ k : Nat, k ≤ m ∧ i = .int .i64 k ∧ wx.ownsRow w.heap.size 3 1 (.slice (some ⟨z, 0, none⟩) n n) n (cellsN (cnts n (upTo l j ++ p.t.syms.take k))) ∧ w3.grownBy wx (some z) ∧ Below w.heap.size w wx) (fun i _ => m - (intOf i).toNat)
      case atStart => exact ⟨0, Nat.zero_le _, rfl, by rw [List.take_zero, List.append_nil]; exact HO.out.alloc _, HGR.out.trans (World.grownBy_alloc _ _ _), HBE.out.alloc HBE.out.size _⟩
      case round =>
        obtain ⟨k, hk, rfl, ho, hgr, hbe⟩ := hrel
        clear HO HGR HBE
        have HO := Lib.hid ho
        have HGR := Lib.hid hgr
        have HBE := Lib.hid hbe
        clear ho hgr hbe
        by_cases hlt2 : k < m
        · have hlt2' : (k : Int) < m := by omega
          have hks : k < p.t.syms.length := by rw [HM.out]; exact hlt2
          obtain ⟨s, hs⟩ : ∃ s, p.t.syms[k]? = some s := ⟨p.t.syms[k], List.getElem?_eq_getElem hks⟩
          have TS : Hid (p.t.syms.take (k + 1) = p.t.syms.take k ++ [s]) := Lib.hid (by
            rw [List.take_succ_eq_append_getElem hks, (List.getElem?_eq_some_iff.1 hs).2])
          have hsn : s < n := SY.out.2.2.1 s (List.mem_of_getElem? hs)
          have hsn' : (s : Int) < n := by omega
          have hgz : g ≠ z := by rw [← HG.out]; exact SY.out.2.1
          have hgl : g < w3.heap.size := by rw [← HG.out]; exact SY.out.1.1
          have h1 : w3.cell? ⟨g, 0 + k, none⟩ = some (.int .i64 (s : Nat)) := by
            rw [← HG.out]
            exact SY.out.1.2 k _ (by simp [cellsN, hs])
          rw [Nat.zero_add] at h1
          have hck := (World.cell?_of_block (a := ⟨g, k, none⟩) (HGR.out.block g hgl (by simp; exact hgz))).trans h1
          obtain ⟨C, hC⟩ : ∃ C, (upTo l j ++ p.t.syms.take k).count s = C := ⟨_, rfl⟩
          have hCb : C ≤ 100000000 := by
            have h2 : (upTo l j ++ p.t.syms.take k).count s ≤ (upTo l j ++ p.t.syms.take k).length := List.count_le_length
            have h3 := UL.out
            rw [List.length_append, List.length_take] at h2
            have h4 : j * 16384 ≤ 1000 * 16384 := Nat.mul_le_mul_right _ (by omega)
            omega
          have hcl := (HO.out.cellAt s (by omega)).trans (cnts_get n _ s hsn)
          rw [hC] at hcl
          have hfz := HO.out.frozenAt s
          have hst := HO.out.stored s (.int .i64 (C + 1 : Nat))
          rw [← hC, cnts_set n _ s hsn, hC] at hst
          have e : ((C + 1 : Nat) : Int) = (C : Int) + 1 := by omega
          rw [e] at hst
          have HST := Lib.hid hst.1
          have HG2 := Lib.hid (HGR.out.trans hst.2)
          have HB2 := Lib.hid (HBE.out.grown hst.2 HBE.out.size (fun q hq => by cases hq; exact HZW.out))
          clear hst e hC hs h1 hgz hgl hks HO HGR HBE
          go_wp2_with fail
          refine ⟨⟨k + 1, by omega, by go_num, by rw [TS.out, ← List.append_assoc]; exact HST.out, HG2.out, HB2.out⟩, ?_⟩
          simp [intOf]; omega
        · obtain rfl : k = m := by omega
          have HO4 := Lib.hid HO.out
          rw [List.take_of_length_le (by rw [HM.out]; exact Nat.le_refl _), ← UP.out] at HO4
          clear HO
          go_wp2_with fail
          refine ⟨⟨j + 1, by omega, by go_num, HO4.out, HGR.out, HBE.out⟩, ?_⟩
          simp [intOf]; omega
    · obtain rfl : j = M := by omega
      go_wp2_with fail
      go_ret2
      exact ⟨z, (l.map fun (p : Pk) => p.t).take j, rfl, HTK.out, HO.out, HBE.out⟩

end Go.Proofs.Ytildikdoimobhaa.Huf
