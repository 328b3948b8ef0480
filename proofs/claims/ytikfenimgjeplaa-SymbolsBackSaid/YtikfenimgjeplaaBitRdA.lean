/-
  The state of a bitio.Reader in memory, and the contracts of its methods.
-/
import Derived.Test.YtikfenimgjeplaaBitBase
namespace Go.Proofs.Ytikfenimgjeplaa.Bit
open Go.ChangeShapes Go.WideShapes Go.ChangeAt Go.RowKit
set_option linter.unusedVariables false

def errI (bad : Bool) : Int := if bad then 2 else 0
/-- A text's bits. -/
def tb (t : ByteArray) : List Bool := tbits t.data.toList
theorem tb_length (t : ByteArray) : (tb t).length = 8 * t.size := by unfold tb; rw [tbits_length]; simp

/-- Block b holds a reader (of type T) of the text t, i bits passed. -/
def RdAt (T : TypeId) (w : World) (b : Nat) (t : ByteArray) (i : Nat) (bad : Bool) : Prop := w.heap[b]? = some (.cells #[.string t, .int .i64 i, .int .i64 (errI bad)] T (0, 0))

theorem RdAt.lt {T : TypeId} {w : World} {b : Nat} {t : ByteArray} {i : Nat} {e : Bool} (h : RdAt T w b t i e) : b < w.heap.size := (Array.getElem?_eq_some_iff.1 h).1

theorem RdAt.cells {T : TypeId} {w : World} {b : Nat} {t : ByteArray} {i : Nat} {e : Bool} (h : RdAt T w b t i e) :
    w.cell? ⟨b, 0, none⟩ = some (.string t) ∧ w.cell? ⟨b, 1, none⟩ = some (.int .i64 i) ∧ w.cell? ⟨b, 2, none⟩ = some (.int .i64 (errI e)) ∧ w.frozen? ⟨b, 1, none⟩ = false ∧ w.frozen? ⟨b, 2, none⟩ = false := by
  unfold RdAt at h
  refine ⟨?_, ?_, ?_, ?_, ?_⟩
  · rw [cell_of_row w b 0 _ _ _ h]; rfl
  · rw [cell_of_row w b 1 _ _ _ h]; rfl
  · rw [cell_of_row w b 2 _ _ _ h]; rfl
  · exact frozen_of_row w b 1 _ _ h
  · exact frozen_of_row w b 2 _ _ h

theorem RdAt.set1 {T : TypeId} {w : World} {b : Nat} {t : ByteArray} {i : Nat} {e : Bool} (h : RdAt T w b t i e) (j : Nat) : RdAt T (w.setCell ⟨b, 1, none⟩ (.int .i64 j)) b t j e := by
  unfold RdAt at *
  rw [heap_setCell_same w b 1 _ T _ h]; rfl
theorem RdAt.set2 {T : TypeId} {w : World} {b : Nat} {t : ByteArray} {i : Nat} {e : Bool} (h : RdAt T w b t i e) : RdAt T (w.setCell ⟨b, 2, none⟩ (.int .i64 2)) b t i true := by
  unfold RdAt at *
  rw [heap_setCell_same w b 2 _ T _ h]; rfl
theorem RdAt.kept {T : TypeId} {w w' : World} {b : Nat} {t : ByteArray} {i : Nat} {e : Bool} {row : Option Nat} (h : RdAt T w b t i e) (hg : w.grownBy w' row) (hr : some b ≠ row) : RdAt T w' b t i e := by
  unfold RdAt at *
  rw [hg.block b (RdAt.lt h) hr]; exact h

theorem rgrown_set (w : World) (b o : Nat) (v : Value) : w.grownBy (w.setCell ⟨b, o, none⟩ v) (some b) :=
  ⟨rfl, rfl, rfl, by simp, fun k _ hk => heap_setCell_other w ⟨b, o, none⟩ k v (fun e => hk (by simp [e]))⟩
theorem rgrown_set_drewN (w : World) (n b o : Nat) (v : Value) : w.grownBy ((w.drewN n).setCell ⟨b, o, none⟩ v) (some b) := by
  have hg := rgrown_set (w.drewN n) b o v
  exact ⟨hg.os, hg.tape, hg.output, hg.size, hg.block⟩
theorem rgrown_drewN {w w' : World} {row : Option Nat} (h : w.grownBy w' row) (n : Nat) : w.grownBy (w'.drewN n) row := ⟨h.os, h.tape, h.output, h.size, h.block⟩
theorem rgrown_from_drewN {w w' : World} {row : Option Nat} {n : Nat} (h : (w.drewN n).grownBy w' row) : w.grownBy w' row := ⟨h.os, h.tape, h.output, h.size, h.block⟩
theorem rgrown_trans {a b c : World} {row : Option Nat} (h : a.grownBy b row) (k : b.grownBy c row) : a.grownBy c row :=
  ⟨k.os.trans h.os, k.tape.trans h.tape, k.output.trans h.output, Nat.le_trans h.size k.size, fun i hi hr => (k.block i (Nat.lt_of_lt_of_le hi h.size) hr).trans (h.block i hi hr)⟩

/-- What a call that asks for k bits does. -/
def rOk (T : List Bool) (i : Nat) (bad : Bool) (k : Nat) : Bool := !bad && decide (k ≤ T.length - i)
def rV (T : List Bool) (i : Nat) (bad : Bool) (k : Nat) : Nat := if rOk T i bad k then num ((T.drop i).take k) else 0
def rI (T : List Bool) (i : Nat) (bad : Bool) (k : Nat) : Nat := if rOk T i bad k then i + k else i

theorem rI_le {T : List Bool} {i : Nat} {bad : Bool} {k : Nat} (h : i ≤ T.length) : rI T i bad k ≤ T.length := by
  unfold rI
  by_cases h1 : rOk T i bad k = true
  · rw [if_pos h1]; unfold rOk at h1; simp at h1; omega
  · rw [if_neg h1]; exact h

theorem rnew_any (t : ByteArray) (w : World) :
    Calls Try.prog 31 #[.string t] w fun r w' => r = .returned (.pointer (some ⟨w.heap.size, 0, none⟩)) ∧ RdAt 91 w' w.heap.size t 0 false ∧ Below w.heap.size w w' := by
  go_enter Try.func31, Try.ntmps31
  go_wp2
  go_ret
  refine ⟨rfl, ?_, (Below.refl _ _).alloc (Nat.le_refl _) _⟩
  unfold RdAt
  exact heap_alloc_new _ _

theorem rat_any (b : Nat) (t : ByteArray) (i : Nat) (e : Bool) (w : World) (h : RdAt 91 w b t i e) :
    Calls Try.prog 36 #[.pointer (some ⟨b, 0, none⟩)] w fun r w' => r = .returned (.int .i64 i) ∧ w = w' := by
  obtain ⟨c0, c1, c2, f1, f2⟩ := h.cells
  clear h
  go_enter Try.func36, Try.ntmps36
  go_wp2
  go_ret
  exact ⟨rfl, rfl⟩

theorem rerr_any (b : Nat) (t : ByteArray) (i : Nat) (e : Bool) (w : World) (h : RdAt 91 w b t i e) :
    Calls Try.prog 76 #[.pointer (some ⟨b, 0, none⟩)] w fun r w' => r = .returned (.int .i64 (errI e)) ∧ w = w' := by
  obtain ⟨c0, c1, c2, f1, f2⟩ := h.cells
  clear h
  go_enter Try.func76, Try.ntmps76
  go_wp2
  go_ret
  exact ⟨rfl, rfl⟩

theorem rleft_any (b : Nat) (t : ByteArray) (i : Nat) (e : Bool) (w : World) (h : RdAt 91 w b t i e) (hi : i ≤ (tb t).length) (ht : t.size ≤ 1099511627776) :
    Calls Try.prog 83 #[.pointer (some ⟨b, 0, none⟩)] w fun r w' => r = .returned (.int .i64 ((tb t).length - i : Nat)) ∧ ∃ n, w' = w.drewN n := by
  obtain ⟨c0, c1, c2, f1, f2⟩ := h.cells
  clear h
  rw [tb_length] at *
  have k1 : IntKind.i64.wrap (8 * (t.size : Int)) = 8 * t.size := IntWalk.i64_in _ (by omega)
  have k2 : IntKind.i64.wrap (8 * (t.size : Int) - i) = ((8 * t.size - i : Nat) : Int) := by rw [show 8 * (t.size : Int) - i = ((8 * t.size - i : Nat) : Int) by omega]; exact IntWalk.i64_in _ (by omega)
  go_enter Try.func83, Try.ntmps83
  go_wp2
  go_quiet (fail)
  go_wp2
  go_ret
  exact ⟨rfl, _, rfl⟩

theorem can_any (b : Nat) (t : ByteArray) (i : Nat) (e ok : Bool) (w : World) (h : RdAt 91 w b t i e) :
    Calls Try.prog 82 #[.pointer (some ⟨b, 0, none⟩), .bool ok] w fun r w' => r = .returned (.bool (ok && !e)) ∧ RdAt 91 w' b t i (!(ok && !e)) ∧ w.grownBy w' (some b) := by
  obtain ⟨c0, c1, c2, f1, f2⟩ := h.cells
  have H := Lib.hid h
  clear h
  cases ok with
  | false =>
    go_enter Try.func82, Try.ntmps82
    go_wp2
    go_ret
    exact ⟨rfl, H.out.set2, rgrown_set _ _ _ _⟩
  | true =>
    cases e with
    | false =>
      have c3 : w.cell? ⟨b, 2, none⟩ = some (.int .i64 0) := c2
      clear c2
      go_enter Try.func82, Try.ntmps82
      go_wp2
      go_ret
      exact ⟨rfl, H.out, World.grownBy.refl _ _⟩
    | true =>
      have c3 : w.cell? ⟨b, 2, none⟩ = some (.int .i64 2) := c2
      clear c2
      go_enter Try.func82, Try.ntmps82
      go_wp2
      go_ret
      exact ⟨rfl, H.out, World.grownBy.refl _ _⟩

/-- The bit of the text at place i. -/
def tat (T : List Bool) (i : Nat) : Bool := T[i]?.getD false

theorem tat_tb (t : ByteArray) (i : Nat) (hi : i < 8 * t.size) : tat (tb t) i = ibit ((t[i / 8]'(by omega)).toNat : Int) (i % 8) := by
  unfold tat tb
  have h : i / 8 < t.data.toList.length := by simp; omega
  rw [tbits_get, List.getElem?_eq_getElem h]
  rfl

theorem peek_any (b : Nat) (t : ByteArray) (i j : Nat) (e : Bool) (w : World) (h : RdAt 91 w b t i e) (hj : j < (tb t).length) (ht : t.size ≤ 1099511627776) :
    Calls Try.prog 84 #[.pointer (some ⟨b, 0, none⟩), .int .i64 j] w fun r w' => r = .returned (.int .i64 (tat (tb t) j).toNat) ∧ w = w' := by
  obtain ⟨c0, c1, c2, f1, f2⟩ := h.cells
  clear h
  have hlen := tb_length t
  have hj' : j < 8 * t.size := by omega
  have hat := tat_tb t j hj'
  have hlt : j / 8 < t.size := by omega
  have e1 : ((j : Int)).tdiv 8 = ((j / 8 : Nat) : Int) := by rw [Int.tdiv_eq_ediv_of_nonneg (by omega)]; omega
  have e2 : ((j : Int)).tmod 8 = ((j % 8 : Nat) : Int) := by rw [Int.tmod_eq_emod_of_nonneg (by omega)]; omega
  have HAT := Lib.hid hat
  have hb := (t[j / 8]'hlt).toNat_lt
  clear hat hlen hj e1 e2
  go_enter Try.func84, Try.ntmps84
  go_wp2_with fail
  refine (bit_any _ (j % 8) (by omega) _).mono ?_
  rintro r w' ⟨rfl, rfl⟩
  go_wp2_with fail
  go_ret
  exact ⟨by rw [HAT.out]; rfl, rfl⟩

theorem take_range (T : List Bool) (i k : Nat) (h : i + k ≤ T.length) : (T.drop i).take k = (List.range k).map fun j => tat T (i + j) := by
  apply List.ext_getElem?
  intro j
  by_cases hj : j < k
  · rw [List.getElem?_take_of_lt hj, List.getElem?_drop]
    simp only [List.getElem?_map, List.getElem?_range hj, Option.map_some, tat]
    rw [List.getElem?_eq_getElem (by omega)]
    rfl
  · rw [List.getElem?_eq_none (by simp; omega), List.getElem?_eq_none (by simp; omega)]

set_option maxHeartbeats 1000000 in
theorem rbits_any (b : Nat) (t : ByteArray) (i : Nat) (e : Bool) (n : Int) (w : World) (h : RdAt 91 w b t i e) (hi : i ≤ (tb t).length) (ht : t.size ≤ 1099511627776) :
    Calls Try.prog 75 #[.pointer (some ⟨b, 0, none⟩), .int .i64 n] w fun r w' => r = .returned (.int .i64 (rV (tb t) i e (cnt n))) ∧
      RdAt 91 w' b t (rI (tb t) i e (cnt n)) (!rOk (tb t) i e (cnt n)) ∧ w.grownBy w' (some b) := by
  have hle := cnt_le n
  have hL : (tb t).length ≤ 8796093022208 := by rw [tb_length]; omega
  generalize hn : cnt n = m at *
  have HN := Lib.hid hn
  clear hn
  have hdec : decide ((m : Int) ≤ (((tb t).length - i : Nat) : Int)) = decide (m ≤ (tb t).length - i) := by simp
  by_cases hok : rOk (tb t) i e m = true
  · have e1 : rV (tb t) i e m = num ((List.range m).map fun j => tat (tb t) (i + j)) := by
      unfold rV; rw [if_pos hok, take_range]; unfold rOk at hok; simp at hok; omega
    have e2 : rI (tb t) i e m = i + m := by unfold rI; rw [if_pos hok]
    have hm : i + m ≤ (tb t).length := by unfold rOk at hok; simp at hok; omega
    have hd : decide (m ≤ (tb t).length - i) = true := by unfold rOk at hok; simp at hok; simp; omega
    have he : e = false := by unfold rOk at hok; simp at hok; exact hok.1
    subst he
    rw [e1, e2, hok]
    clear e1 e2 hok
    go_enter Try.func75, Try.ntmps75
    go_wp2_with fail
    refine (within_any _ _).mono ?_
    rintro r w' ⟨rfl, rfl⟩
    rw [HN.out]
    go_wp2_with fail
    refine (rleft_any _ _ _ _ _ h hi ht).mono ?_
    rintro r w' ⟨rfl, nd, rfl⟩
    go_wp2_with fail
    refine (can_any _ _ _ _ _ _ (show RdAt _ (w.drewN nd) b t i false from h)).mono ?_
    rintro r w1 ⟨rfl, h1, g1⟩
    have g1' := rgrown_from_drewN g1
    clear h g1 hdec
    have h1' : RdAt 91 w1 b t i false := h1
    clear h1
    have H1 := Lib.hid h1'
    have G1 := Lib.hid g1'
    obtain ⟨c0, c1, c2, f1, f2⟩ := h1'.cells
    clear h1' g1' hd
    go_wp2_with fail
    go_loop [5, 17] (fun v k => ∃ j : Nat, j ≤ m ∧ k = .int .i64 j ∧ v = .int .i64 (num ((List.range j).map fun a => tat (tb t) (i + a)) : Nat)) (fun _ k => m - (intOf k).toNat)
    case atStart => exact ⟨0, Nat.zero_le _, rfl, rfl⟩
    case round =>
      obtain ⟨j, hj, rfl, rfl⟩ := hrel
      by_cases hlt : j < m
      · have HS := Lib.hid (or_step (fun a => tat (tb t) (i + a)) j (by omega))
        generalize num ((List.range j).map fun a => tat (tb t) (i + a)) = x at *
        go_wp2_with fail
        rw [show (i : Int) + (j : Int) = ((i + j : Nat) : Int) by omega]
        refine (peek_any b t i (i + j) false _ H1.out (by omega) ht).mono ?_
        rintro r w' ⟨rfl, rfl⟩
        generalize tat (tb t) (i + j) = bb at *
        have b0 : (0 : Int) ≤ (bb.toNat : Int) := by omega
        have b1 : (bb.toNat : Int) ≤ 1 := by cases bb <;> simp
        go_wp2_with fail
        refine ⟨⟨j + 1, by omega, by go_num, ?_⟩, by simp [intOf]; omega⟩
        rw [← HS.out, shl_in _ _ (by omega)]
      · obtain rfl : j = m := by omega
        go_wp2_with fail
        go_ret
        refine ⟨rfl, ?_, rgrown_trans G1.out (rgrown_set _ _ _ _)⟩
        exact H1.out.set1 (i + j)
  · have hok' : rOk (tb t) i e m = false := by simpa using hok
    have e1 : rV (tb t) i e m = 0 := by unfold rV; rw [if_neg hok]
    have e2 : rI (tb t) i e m = i := by unfold rI; rw [if_neg hok]
    have hx : (decide (m ≤ (tb t).length - i) && !e) = false := by rw [← hok']; unfold rOk; rw [Bool.and_comm]
    rw [e1, e2, hok']
    have HX := Lib.hid hx
    clear e1 e2 hok hok' hx
    go_enter Try.func75, Try.ntmps75
    go_wp2_with fail
    refine (within_any _ _).mono ?_
    rintro r w' ⟨rfl, rfl⟩
    rw [HN.out]
    go_wp2_with fail
    refine (rleft_any _ _ _ _ _ h hi ht).mono ?_
    rintro r w' ⟨rfl, nd, rfl⟩
    go_wp2_with fail
    refine (can_any _ _ _ _ _ _ (show RdAt _ (w.drewN nd) b t i e from h)).mono ?_
    rintro r w1 ⟨rfl, h1, g1⟩
    rw [HX.out] at h1 ⊢
    have H1 := Lib.hid h1
    have G1 := Lib.hid (rgrown_from_drewN g1)
    clear h g1 h1 hdec
    go_wp2_with fail
    go_ret
    exact ⟨rfl, H1.out, G1.out⟩

/-- How many bits there are up to a whole byte. -/
def gap (i : Nat) : Nat := (8 - i % 8) % 8

theorem cnt_nat (k : Nat) (h : k ≤ 32) : cnt (k : Int) = k := by unfold cnt; omega

end Go.Proofs.Ytikfenimgjeplaa.Bit
