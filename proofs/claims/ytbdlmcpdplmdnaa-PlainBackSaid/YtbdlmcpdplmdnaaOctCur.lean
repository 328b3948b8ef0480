/-
  Contracts of octets.Cursor's plain methods, over a cursor that lies in a block of its own.
-/
import Derived.Test.YtbdlmcpdplmdnaaOctRef
namespace Go.Proofs.Ytbdlmcpdplmdnaa.Oct
open Go.ChangeShapes Go.WideShapes Go.ChangeAt Go.RowKit
set_option linter.unusedVariables false
set_option maxRecDepth 100000

/-- Block b holds a cursor (of type T) over the text t, i bytes passed, error e. -/
def CurAt (T : TypeId) (w : World) (b : Nat) (t : ByteArray) (i e : Int) : Prop := w.heap[b]? = some (.cells #[.string t, .int .i64 i, .int .i64 e] T (0, 0))

theorem CurAt.lt {T : TypeId} {w : World} {b : Nat} {t : ByteArray} {i e : Int} (h : CurAt T w b t i e) : b < w.heap.size := (Array.getElem?_eq_some_iff.1 h).1

theorem CurAt.cells {T : TypeId} {w : World} {b : Nat} {t : ByteArray} {i e : Int} (h : CurAt T w b t i e) :
    w.cell? ⟨b, 0, none⟩ = some (.string t) ∧ w.cell? ⟨b, 1, none⟩ = some (.int .i64 i) ∧ w.cell? ⟨b, 2, none⟩ = some (.int .i64 e) ∧ w.frozen? ⟨b, 1, none⟩ = false ∧ w.frozen? ⟨b, 2, none⟩ = false := by
  unfold CurAt at h
  refine ⟨?_, ?_, ?_, ?_, ?_⟩
  · rw [cell_of_row w b 0 _ _ _ h]; rfl
  · rw [cell_of_row w b 1 _ _ _ h]; rfl
  · rw [cell_of_row w b 2 _ _ _ h]; rfl
  · exact frozen_of_row w b 1 _ _ h
  · exact frozen_of_row w b 2 _ _ h

theorem CurAt.set1 {T : TypeId} {w : World} {b : Nat} {t : ByteArray} {i e : Int} (h : CurAt T w b t i e) (j : Int) : CurAt T (w.setCell ⟨b, 1, none⟩ (.int .i64 j)) b t j e := by
  unfold CurAt at *
  rw [heap_setCell_same w b 1 _ T _ h]; rfl
theorem CurAt.set2 {T : TypeId} {w : World} {b : Nat} {t : ByteArray} {i e : Int} (h : CurAt T w b t i e) (j : Int) : CurAt T (w.setCell ⟨b, 2, none⟩ (.int .i64 j)) b t i j := by
  unfold CurAt at *
  rw [heap_setCell_same w b 2 _ T _ h]; rfl
theorem CurAt.drew {T : TypeId} {w : World} {b : Nat} {t : ByteArray} {i e : Int} (h : CurAt T w b t i e) : CurAt T w.drew b t i e := h
theorem CurAt.kept {T : TypeId} {w w' : World} {b : Nat} {t : ByteArray} {i e : Int} {row : Option Nat} (h : CurAt T w b t i e) (hg : w.grownBy w' row) (hr : some b ≠ row) : CurAt T w' b t i e := by
  unfold CurAt at *
  rw [hg.block b (CurAt.lt h) hr]; exact h
theorem CurAt.below {T : TypeId} {w w' : World} {b B : Nat} {t : ByteArray} {i e : Int} (h : CurAt T w b t i e) (hg : Below B w w') (hb : b < B) : CurAt T w' b t i e := by
  unfold CurAt at *
  rw [hg.block b hb]; exact h

theorem grown_set (w : World) (b o : Nat) (v : Value) : w.grownBy (w.setCell ⟨b, o, none⟩ v) (some b) :=
  ⟨rfl, rfl, rfl, by simp, fun k _ hk => heap_setCell_other w ⟨b, o, none⟩ k v (fun e => hk (by simp [e]))⟩
theorem grown_set_drewN (w : World) (n b o : Nat) (v : Value) : w.grownBy ((w.drewN n).setCell ⟨b, o, none⟩ v) (some b) := by
  have hg := grown_set (w.drewN n) b o v
  exact ⟨hg.os, hg.tape, hg.output, hg.size, hg.block⟩
theorem grown_drewN {w w' : World} {row : Option Nat} (h : w.grownBy w' row) (n : Nat) : w.grownBy (w'.drewN n) row := ⟨h.os, h.tape, h.output, h.size, h.block⟩
theorem grown_drew {w w' : World} {row : Option Nat} (h : w.grownBy w' row) : w.grownBy w'.drew row := ⟨h.os, h.tape, h.output, h.size, h.block⟩
theorem grown_trans {a b c : World} {row : Option Nat} (h : a.grownBy b row) (k : b.grownBy c row) : a.grownBy c row :=
  ⟨k.os.trans h.os, k.tape.trans h.tape, k.output.trans h.output, Nat.le_trans h.size k.size, fun i hi hr => (k.block i (Nat.lt_of_lt_of_le hi h.size) hr).trans (h.block i hi hr)⟩
theorem grown_of_none {a b : World} (h : a.grownBy b none) (row : Option Nat) : a.grownBy b row := ⟨h.os, h.tape, h.output, h.size, fun i hi _ => h.block i hi (by simp)⟩
theorem grown_of_below {a b : World} (h : Below a.heap.size a b) (row : Option Nat) : a.grownBy b row := ⟨h.os, h.tape, h.output, h.size, fun i hi _ => h.block i hi⟩
theorem below_of_grown {a b : World} {B k : Nat} (h : a.grownBy b (some k)) (hk : B ≤ k) (hB : B ≤ a.heap.size) : Below B a b := ⟨h.os, h.tape, h.output, h.size, fun i hi => h.block i (by omega) (by simp; omega)⟩

theorem below_next {w a b : World} (h : Below w.heap.size w a) (k : Below a.heap.size a b) : Below w.heap.size w b := h.trans (k.mono h.size)
theorem below_grown {w a b : World} {k : Nat} (h : Below w.heap.size w a) (g : a.grownBy b (some k)) (hk : w.heap.size ≤ k) : Below w.heap.size w b := h.trans (below_of_grown g hk h.size)
theorem below_drewN {w a : World} {B : Nat} (h : Below B w a) (n : Nat) : Below B w (a.drewN n) := ⟨h.os, h.tape, h.output, h.size, h.block⟩

/-- The error that is kept. -/
def keepE (e x : Int) : Int := if e = 0 then x else e

theorem keep_any (b : Nat) (t : ByteArray) (i e x : Int) (w : World) (h : CurAt 84 w b t i e) :
    Calls Try.prog 80 #[.pointer (some ⟨b, 0, none⟩), .int .i64 x] w fun r w' => r = .returned (.tuple #[]) ∧ CurAt 84 w' b t i (keepE e x) ∧ w.grownBy w' (some b) := by
  obtain ⟨c0, c1, c2, f1, f2⟩ := h.cells
  have H := Lib.hid h
  clear h
  by_cases he : e = 0
  · subst he
    go_enter Try.func80, Try.ntmps80
    go_wp2
    go_end0
    exact ⟨rfl, H.out.set2 x, grown_set _ _ _ _⟩
  · have he' : (e == 0) = false := by simp [he]
    have hk : keepE e x = e := by simp [keepE, he]
    rw [hk]; clear hk he
    go_enter Try.func80, Try.ntmps80
    go_wp2
    go_end0
    exact ⟨rfl, H.out, World.grownBy.refl _ _⟩

theorem left_any (b : Nat) (t : ByteArray) (i e : Int) (w : World) (h : CurAt 84 w b t i e) (h0 : 0 ≤ i) (h1 : i ≤ t.size) (ht : t.size ≤ 9223372036854775807) :
    Calls Try.prog 85 #[.pointer (some ⟨b, 0, none⟩)] w fun r w' => r = .returned (.int .i64 (t.size - i)) ∧ ∃ n, w' = w.drewN n := by
  obtain ⟨c0, c1, c2, f1, f2⟩ := h.cells
  clear h
  go_enter Try.func85, Try.ntmps85
  go_wp2
  go_quiet (fail)
  go_wp2
  go_ret
  exact ⟨rfl, _, rfl⟩

theorem at_any (b : Nat) (t : ByteArray) (i e : Int) (w : World) (h : CurAt 84 w b t i e) :
    Calls Try.prog 47 #[.pointer (some ⟨b, 0, none⟩)] w fun r w' => r = .returned (.int .i64 i) ∧ w = w' := by
  obtain ⟨c0, c1, c2, f1, f2⟩ := h.cells
  clear h
  go_enter Try.func47, Try.ntmps47
  go_wp2
  go_ret
  exact ⟨rfl, rfl⟩

theorem err_any (b : Nat) (t : ByteArray) (i e : Int) (w : World) (h : CurAt 84 w b t i e) :
    Calls Try.prog 46 #[.pointer (some ⟨b, 0, none⟩)] w fun r w' => r = .returned (.int .i64 e) ∧ w = w' := by
  obtain ⟨c0, c1, c2, f1, f2⟩ := h.cells
  clear h
  go_enter Try.func46, Try.ntmps46
  go_wp2
  go_ret
  exact ⟨rfl, rfl⟩

/-- What 'End' tells. -/
def endE (t : ByteArray) (i e : Int) : Int := if e = 0 then (if i < t.size then 3 else 0) else e

theorem new_any (t : ByteArray) (w : World) :
    Calls Try.prog 44 #[.string t] w fun r w' => r = .returned (.pointer (some ⟨w.heap.size, 0, none⟩)) ∧ CurAt 84 w' w.heap.size t 0 0 ∧ Below w.heap.size w w' := by
  go_enter Try.func44, Try.ntmps44
  go_wp2
  go_ret
  refine ⟨rfl, ?_, (Below.refl _ _).alloc (Nat.le_refl _) _⟩
  unfold CurAt
  exact heap_alloc_new _ _

/-- What 'Bytes' does: the bytes, how far it came, the error. -/
def byE (t : ByteArray) (i e n : Int) : Int := if e = 0 then (if n < 0 then 1 else if t.size - i < n then 2 else 0) else e
def byS (t : ByteArray) (i e n : Int) : ByteArray := if byE t i e n = 0 then t.extract i.toNat (i + n).toNat else ⟨#[]⟩
def byI (t : ByteArray) (i e n : Int) : Int := if byE t i e n = 0 then i + n else i

theorem byE_err {t : ByteArray} {i e n : Int} (he : ¬ e = 0) : byE t i e n = e := by simp [byE, he]
theorem byS_err {t : ByteArray} {i e n : Int} (he : ¬ byE t i e n = 0) : byS t i e n = ⟨#[]⟩ := by simp [byS, he]
theorem byI_err {t : ByteArray} {i e n : Int} (he : ¬ byE t i e n = 0) : byI t i e n = i := by simp [byI, he]

set_option maxHeartbeats 1000000 in
theorem bytes_any (b : Nat) (t : ByteArray) (i e n : Int) (w : World) (h : CurAt 84 w b t i e) (h0 : 0 ≤ i) (h1 : i ≤ t.size) (ht : t.size ≤ 9223372036854775807) :
    Calls Try.prog 82 #[.pointer (some ⟨b, 0, none⟩), .int .i64 n] w fun r w' => r = .returned (.string (byS t i e n)) ∧ CurAt 84 w' b t (byI t i e n) (byE t i e n) ∧ w.grownBy w' (some b) := by
  by_cases he : e = 0
  · subst he
    by_cases hn : n < 0
    · have hk : byE t i 0 n = 1 := by simp [byE, hn]
      have hkk : keepE 0 1 = 1 := rfl
      rw [byS_err (by omega), byI_err (by omega), hk]; clear hk
      go_enter Try.func82, Try.ntmps82
      go_wp2_with fail
      refine (keep_any _ _ _ _ _ _ h).mono ?_
      rintro r w' ⟨rfl, hc, hg⟩
      rw [hkk] at hc
      obtain ⟨c0, c1, c2, f1, f2⟩ := hc.cells
      have HC := Lib.hid hc
      have HG := Lib.hid hg
      clear hc hg hkk h
      go_wp2_with fail
      go_ret
      exact ⟨rfl, HC.out, HG.out⟩
    · by_cases hl : t.size - i < n
      · have hk : byE t i 0 n = 2 := by simp [byE, hn, hl]
        have hkk : keepE 0 2 = 2 := rfl
        rw [byS_err (by omega), byI_err (by omega), hk]; clear hk
        go_enter Try.func82, Try.ntmps82
        go_wp2_with fail
        refine (left_any _ _ _ _ _ h h0 h1 ht).mono ?_
        rintro r w' ⟨rfl, nd, rfl⟩
        go_wp2_with fail
        refine (keep_any _ _ _ _ _ _ (show CurAt _ (w.drewN nd) b t i 0 from h)).mono ?_
        rintro r w' ⟨rfl, hc, hg⟩
        rw [hkk] at hc
        obtain ⟨c0, c1, c2, f1, f2⟩ := hc.cells
        have HC := Lib.hid hc
        have HG := Lib.hid hg
        clear hc hg hkk h
        go_wp2_with fail
        go_ret
        exact ⟨rfl, HC.out, HG.out.os, HG.out.tape, HG.out.output, HG.out.size, HG.out.block⟩
      · have hk : byE t i 0 n = 0 := by simp [byE, hn, hl]
        have hS : byS t i 0 n = t.extract i.toNat (i + n).toNat := by simp [byS, hk]
        have hI : byI t i 0 n = i + n := by simp [byI, hk]
        rw [hS, hI, hk]; clear hk hS hI
        obtain ⟨j, rfl⟩ : ∃ j : Nat, i = j := ⟨i.toNat, by omega⟩
        obtain ⟨m, rfl⟩ : ∃ m : Nat, n = m := ⟨n.toNat, by omega⟩
        have q1 : j + m ≤ t.size := by omega
        obtain ⟨c0, c1, c2, f1, f2⟩ := h.cells
        have e1 : IntKind.i64.wrap ((j : Int) + (m : Int)) = j + m := IntWalk.i64_in _ (by omega)
        go_enter Try.func82, Try.ntmps82
        go_wp2_with fail
        refine (left_any _ _ _ _ _ h h0 h1 ht).mono ?_
        rintro r w' ⟨rfl, nd, rfl⟩
        have H := Lib.hid h
        clear h
        go_wp2_with fail
        go_quiet (fail)
        go_wp2_with fail
        go_ret
        rw [show ((j : Int) + (m : Int)).toNat = j + m by omega]
        refine ⟨rfl, CurAt.set1 (show CurAt _ (w.drewN (nd + nq)) b t j 0 from H.out) _, ?_⟩
        exact grown_set_drewN _ _ _ _ _
  · have hne : ¬ byE t i e n = 0 := by rw [byE_err he]; exact he
    have hkk : ∀ x, keepE e x = e := by intro x; simp [keepE, he]
    rw [byS_err hne, byI_err hne, byE_err he]
    have he' : (e != 0) = true := by simp [he]
    clear hne
    by_cases hn : n < 0
    · go_enter Try.func82, Try.ntmps82
      go_wp2_with fail
      refine (keep_any _ _ _ _ _ _ h).mono ?_
      rintro r w' ⟨rfl, hc, hg⟩
      rw [hkk] at hc
      obtain ⟨c0, c1, c2, f1, f2⟩ := hc.cells
      have HC := Lib.hid hc
      have HG := Lib.hid hg
      clear hc hg hkk h
      go_wp2_with fail
      go_ret
      exact ⟨rfl, HC.out, HG.out⟩
    · by_cases hl : t.size - i < n
      · go_enter Try.func82, Try.ntmps82
        go_wp2_with fail
        refine (left_any _ _ _ _ _ h h0 h1 ht).mono ?_
        rintro r w' ⟨rfl, nd, rfl⟩
        go_wp2_with fail
        refine (keep_any _ _ _ _ _ _ (show CurAt _ (w.drewN nd) b t i e from h)).mono ?_
        rintro r w' ⟨rfl, hc, hg⟩
        rw [hkk] at hc
        obtain ⟨c0, c1, c2, f1, f2⟩ := hc.cells
        have HC := Lib.hid hc
        have HG := Lib.hid hg
        clear hc hg hkk h
        go_wp2_with fail
        go_ret
        exact ⟨rfl, HC.out, HG.out.os, HG.out.tape, HG.out.output, HG.out.size, HG.out.block⟩
      · go_enter Try.func82, Try.ntmps82
        go_wp2_with fail
        refine (left_any _ _ _ _ _ h h0 h1 ht).mono ?_
        rintro r w' ⟨rfl, nd, rfl⟩
        obtain ⟨c0, c1, c2, f1, f2⟩ := h.cells
        have H := Lib.hid h
        clear h hkk
        go_wp2_with fail
        go_ret
        exact ⟨rfl, H.out, rfl, rfl, rfl, Nat.le_refl _, fun _ _ _ => rfl⟩

theorem intsz (t : ByteArray) (i e n : Int) (h0 : 0 ≤ i) (h1 : i ≤ t.size) : 0 ≤ byI t i e n ∧ byI t i e n ≤ t.size ∧ ((byS t i e n).size = if byE t i e n = 0 then n.toNat else 0) := by
  by_cases he : byE t i e n = 0
  · have h2 : 0 ≤ n ∧ n ≤ t.size - i := by
      unfold byE at he
      by_cases h : e = 0
      · by_cases hn : n < 0
        · simp [h, hn] at he
        · by_cases hl : t.size - i < n
          · simp [h, hn, hl] at he
          · omega
      · simp [h] at he
    simp only [byI, byS, he, if_true]
    refine ⟨by omega, by omega, ?_⟩
    rw [ByteArray.size_extract]
    omega
  · simp only [byI, byS, he, if_false]
    exact ⟨h0, h1, rfl⟩

end Go.Proofs.Ytbdlmcpdplmdnaa.Oct
