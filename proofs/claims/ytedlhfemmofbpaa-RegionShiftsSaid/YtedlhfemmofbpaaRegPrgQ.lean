/-
  The program's rectangles that count, and whether a place is in a set.
-/
import Derived.Test.YtedlhfemmofbpaaRegPrgP
namespace Go.Proofs.Ytedlhfemmofbpaa.Reg
open Go.ChangeShapes Go.WideShapes Go.ChangeAt Go.RowKit Go.Shelf Lz RowG RegVal OwnL
set_option linter.unusedVariables false
set_option linter.unusedSimpArgs false
set_option maxRecDepth 100000

theorem RectsAt.room {B : Nat} {w : World} {v : Value} {l : List Rc} (h : RectsAt B w v l) : Room v := by
  rcases h.1.2 with ⟨rfl, h0⟩ | ⟨g, cap, cur, rfl, _, _, hnc, _⟩
  · exact room_of (Nat.le_refl _)
  · exact room_of hnc
theorem RectsAt.cr {B : Nat} {w : World} {v : Value} {l : List Rc} (h : RectsAt B w v l) (hc : ∀ r ∈ l, counts r = true) : CR w v l := ⟨RectsAt.sees h, RectsAt.room h, hc⟩
set_option maxHeartbeats 1000000 in
theorem counted_any (l : List Rc) (v : Value) (w : World) (hl : l.length ≤ 20000) (hw : WFs l) (h : SeesR w v l) :
    Calls Try.prog 37 #[v] w fun e w' => ∃ u, e = .returned u ∧ RectsAt w.heap.size w' u (l.filter counts) ∧ Below w.heap.size w w' := by
  have C1 := Lib.hid (clone_any l v w (by omega) h)
  have HL := Lib.hid hl
  have HW := Lib.hid hw
  obtain ⟨a, cap, rfl, _⟩ := h
  clear hl hw
  go_enter Try.func37, Try.ntmps37
  go_wp2_with fail
  refine C1.out.mono ?_
  rintro e w1 ⟨u, rfl, h1, k1⟩
  have C2 := Lib.hid (delete_any l u w.heap.size w1 (by have := HL.out; omega) k1.size HW.out h1)
  have HK := Lib.hid k1
  obtain ⟨p, c, rfl⟩ := RowAt.shape h1
  clear C1 h1 k1
  go_wp2_with fail
  refine C2.out.mono ?_
  rintro e w2 ⟨u2, rfl, h2, k2⟩
  have H2 := Lib.hid h2
  have HK2 := Lib.hid (HK.out.trans k2)
  obtain ⟨p2, c2, rfl⟩ := RowAt.shape h2
  clear C2 h2 k2
  go_wp2_with fail
  go_ret
  exact ⟨_, rfl, H2.out, HK2.out⟩
set_option maxHeartbeats 1000000 in
theorem has_any (l : List Rc) (v : Value) (x y : Int) (w : World) (hl : l.length ≤ 20000) (hw : WFs l) (h : SeesR w v l) :
    Calls Try.prog 21 #[v, .int .i64 x, .int .i64 y] w fun e w' => e = .returned (.bool (hasL l x y)) ∧ Below w.heap.size w w' := by
  obtain ⟨n0, hn0⟩ : ∃ n0, w.heap.size = n0 := ⟨_, rfl⟩
  have z1 := alloc_size w (.cells #[.int .i64 x] 3)
  have o1 := heap_alloc_new w (.cells #[.int .i64 x] 3)
  have k1 := (Below.refl w.heap.size w).alloc (Nat.le_refl _) (.cells #[.int .i64 x] 3)
  obtain ⟨w1, hw1⟩ : ∃ w1, w.alloc (.cells #[.int .i64 x] 3) = w1 := ⟨_, rfl⟩
  rw [hw1] at z1 o1 k1
  have z2 := alloc_size w1 (.cells #[.int .i64 y] 3)
  have o2 := heap_alloc_new w1 (.cells #[.int .i64 y] 3)
  have k2 := (Below.refl w1.heap.size w1).alloc (Nat.le_refl _) (.cells #[.int .i64 y] 3)
  obtain ⟨w2, hw2⟩ : ∃ w2, w1.alloc (.cells #[.int .i64 y] 3) = w2 := ⟨_, rfl⟩
  rw [hw2] at z2 o2 k2
  have k3 := k1.trans (k2.mono (by omega))
  have s1 : w2.cell? ⟨w.heap.size, 0, none⟩ = some (.int .i64 x) := (k2.cell (p := ⟨w.heap.size, 0, none⟩) (show w.heap.size < w1.heap.size by omega)).trans (cellAt o1 rfl)
  have s2 : w2.cell? ⟨w.heap.size + 1, 0, none⟩ = some (.int .i64 y) := by rw [← z1]; exact cellAt o2 rfl
  have C := Lib.hid (contains_any (g := 34) (.pointer (some ⟨w.heap.size, 0, none⟩)) (.pointer (some ⟨w.heap.size + 1, 0, none⟩)) (fun r => inR r x y) l v w2 (by omega) (h.below k3) (enters_of Try.func34 (by kernel_rfl) rfl)
    (fun r hr W hW => here_any r (hw r hr) x y W _ _ ((hW.cell (p := ⟨w.heap.size, 0, none⟩) (show w.heap.size < w2.heap.size by omega)).trans s1) ((hW.cell (p := ⟨w.heap.size + 1, 0, none⟩) (show w.heap.size + 1 < w2.heap.size by omega)).trans s2)))
  have HK := Lib.hid k3
  rw [show (l.any fun r => inR r x y) = hasL l x y from rfl, hn0] at C
  rw [hn0] at z1
  generalize hasL l x y = RES at *
  obtain ⟨a, cap, rfl, _⟩ := h
  generalize l.length = n at *
  clear hl hw k1 k2 k3 o1 o2 s1 s2
  rw [hn0] at HK ⊢
  rw [z1] at z2
  go_enter Try.func21, Try.ntmps21
  go_wp2_with fail
  refine C.out.mono ?_
  rintro e w3 ⟨rfl, k4⟩
  have HK2 := Lib.hid (HK.out.trans (k4.mono (by omega)))
  clear C k4
  go_wp2_with fail
  go_ret
  exact ⟨rfl, HK2.out⟩
end Go.Proofs.Ytedlhfemmofbpaa.Reg
