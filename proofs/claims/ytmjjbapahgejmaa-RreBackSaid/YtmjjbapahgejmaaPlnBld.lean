/-
  Contracts of the library's strings.Builder in a block of its own.
-/
import Derived.Test.YtmjjbapahgejmaaPlnRow
import Derived.Test.YtmjjbapahgejmaaAllOct17
import Derived.Lib.FrozenHead
import Derived.Lib.MakeNoZero
import Derived.Lib.BufferWrite
namespace Go.Proofs.Ytmjjbapahgejmaa.Bld
open Go.ChangeShapes Go.WideShapes Go.ChangeAt Go.RowKit Lz RowG Oct
set_option linter.unusedVariables false
set_option linter.unusedSimpArgs false
set_option maxRecDepth 100000

/-- Block b holds a builder of the bytes l (v their row, p what it knows of its place), which come to m in the end. All of it lies from block B on. -/
structure BdAt (w : World) (B b : Nat) (p v : Value) (l : List UInt8) (m : Nat) : Prop where
  far : B ≤ b
  blk : w.heap[b]? = some (.cells #[p, v] 63 (0, 0))
  own : w.ownsRowF B 5 1 v l.length (Lib.byteCells l)
  ne : v.ownBlock ≠ some b
  full : v = .slice none 0 0 ∨ 0 < m
theorem BdAt.lt {w : World} {B b m : Nat} {p v : Value} {l : List UInt8} (h : BdAt w B b p v l m) : b < w.heap.size := (Array.getElem?_eq_some_iff.1 h.blk).1
theorem BdAt.cells {w : World} {B b m : Nat} {p v : Value} {l : List UInt8} (h : BdAt w B b p v l m) :
    w.cell? ⟨b, 0, none⟩ = some p ∧ w.cell? ⟨b, 1, none⟩ = some v ∧ (∀ j, w.frozen? ⟨b, j, none⟩ = false) ∧ w.shape? b = some (63, 2) := by
  have hb := h.blk
  refine ⟨?_, ?_, fun j => frozen_of_row w b j _ _ hb, by simp [World.shape?, hb]⟩
  · rw [cell_of_row w b 0 _ _ _ hb]; rfl
  · rw [cell_of_row w b 1 _ _ _ hb]; rfl
theorem BdAt.shape {w : World} {B b m : Nat} {p v : Value} {l : List UInt8} (h : BdAt w B b p v l m) : ∃ a cap, v = .slice a l.length cap := by
  rcases h.own.2 with ⟨h1, h2⟩ | ⟨g, cap, cur, fz, h1, _⟩
  · exact ⟨none, 0, by rw [h1, h2]⟩
  · exact ⟨_, _, h1⟩
theorem BdAt.draws {w : World} {B b m : Nat} {p v : Value} {l : List UInt8} (h : BdAt w B b p v l m) (n : Nat) : BdAt (w.drewN n) B b p v l m := ⟨h.far, h.blk, h.own, h.ne, h.full⟩
theorem BdAt.drew {w : World} {B b m : Nat} {p v : Value} {l : List UInt8} (h : BdAt w B b p v l m) : BdAt w.drew B b p v l m := h.draws 1
theorem grown_put (w : World) (b o : Nat) (v : Value) : w.grownBy (w.setCell ⟨b, o, none⟩ v) (some b) := Oct.grown_set w b o v
/-- The builder knows its place. -/
theorem BdAt.used {w : World} {B b m : Nat} {p v : Value} {l : List UInt8} (h : BdAt w B b p v l m) (q : Value) : BdAt (w.setCell ⟨b, 0, none⟩ q) B b q v l m := by
  have hg : w.grownBy (w.setCell ⟨b, 0, none⟩ q) (some b) := grown_put w b 0 q
  refine ⟨h.far, ?_, h.own.kept hg (.inr h.ne), h.ne, h.full⟩
  rw [heap_setCell_same w b 0 _ _ _ h.blk]; rfl
/-- Another row for its bytes. -/
theorem BdAt.put {w w2 : World} {B b m : Nat} {p v v' : Value} {l l' : List UInt8} (h : BdAt w B b p v l m) (hg : w.grownBy w2 v.ownBlock) (ho : w2.ownsRowF B 5 1 v' l'.length (Lib.byteCells l'))
    (hs : v' = .slice none 0 0 ∨ 0 < m) : BdAt (w2.setCell ⟨b, 1, none⟩ v') B b p v' l' m := by
  have hb2 : w2.heap[b]? = some (.cells #[p, v] 63 (0, 0)) := (hg.block b h.lt (fun e => h.ne e.symm)).trans h.blk
  have hg2 : w2.grownBy (w2.setCell ⟨b, 1, none⟩ v') (some b) := grown_put w2 b 1 v'
  have hne : v'.ownBlock ≠ some b := Lib.ownBlock_neF ho hb2 (by decide)
  refine ⟨h.far, ?_, ho.kept hg2 (.inr hne), hne, hs⟩
  rw [heap_setCell_same w2 b 1 _ _ _ hb2]; rfl
theorem BdAt.below {w w' : World} {B b m : Nat} {p v : Value} {l : List UInt8} (h : BdAt w B b p v l m) (hb : Below w.heap.size w w') : BdAt w' B b p v l m := by
  have hg : w.grownBy w' none := ⟨hb.os, hb.tape, hb.output, hb.size, fun k hk _ => hb.block k hk⟩
  exact ⟨h.far, (hb.block b h.lt).trans h.blk, h.own.kept hg (by cases v.ownBlock <;> simp), h.ne, h.full⟩

/-- All blocks but the builder's and its row's are as they were. -/
def Oth (w w' : World) (c : Nat) (v : Value) : Prop := ∀ k, k < w.heap.size → k ≠ c → v.ownBlock ≠ some k → w'.heap[k]? = w.heap[k]?
theorem Oth.refl (w : World) (c : Nat) (v : Value) : Oth w w c v := fun _ _ _ _ => rfl
theorem Oth.trans {w w1 w2 : World} {c : Nat} {v : Value} (h : Oth w w1 c v) (hs : w.heap.size ≤ w1.heap.size) (k : Oth w1 w2 c v) : Oth w w2 c v := fun j hj h1 h2 => (k j (Nat.lt_of_lt_of_le hj hs) h1 h2).trans (h j hj h1 h2)
theorem Oth.set {w w' : World} {c : Nat} {v : Value} (h : Oth w w' c v) (o : Nat) (x : Value) : Oth w (w'.setCell ⟨c, o, none⟩ x) c v := fun k hk h1 h2 => (heap_setCell_other w' ⟨c, o, none⟩ k x (fun e => h1 e)).trans (h k hk h1 h2)
theorem Oth.grown {w w1 w2 : World} {c : Nat} {v : Value} (h : Oth w w1 c v) (hs : w.heap.size ≤ w1.heap.size) (hg : w1.grownBy w2 v.ownBlock) : Oth w w2 c v := fun k hk h1 h2 => (hg.block k (Nat.lt_of_lt_of_le hk hs) (fun e => h2 e.symm)).trans (h k hk h1 h2)

theorem oth_freeze (w : World) (c g n cap : Nat) (a : Nat) : Oth w (w.freeze ⟨g, 0, none⟩ n) c (.slice (some ⟨g, 0, none⟩) a cap) := by
  intro k hk h1 h2
  have hgk : g ≠ k := fun e => h2 (by simp [Value.ownBlock, e])
  unfold World.freeze
  split
  · rfl
  · simp only [Array.getElem?_modify]
    rw [if_neg hgk]

theorem info_builder : (Try.prog.info? 63).map (·.size) = some 2 := by kernel_rfl
theorem lies_builder : liesAt Try.prog Try.prog.depth 63 (2 / Try.prog.cellsOf 63) 0 63 1 = true := by kernel_rfl
theorem info_u8 : (Try.prog.info? 5).map (fun i => (i.zero, i.size, i.bytes)) = some (some (.int .u8 0), 1, 1) := by kernel_rfl

set_option maxHeartbeats 1000000 in
theorem copyCheck_any (B b m : Nat) (p v : Value) (l : List UInt8) (w : World) (h : BdAt w B b p v l m) (hp : p = .pointer none ∨ p = .pointer (some ⟨b, 0, none⟩)) :
    Calls Try.prog 59 #[.pointer (some ⟨b, 0, none⟩)] w fun e w' => e = .returned (.tuple #[]) ∧ BdAt w' B b (.pointer (some ⟨b, 0, none⟩)) v l m ∧ Below B w w' ∧ Oth w w' b v := by
  obtain ⟨c2, _, fz, sh⟩ := h.cells
  have fz2 := fz 0
  clear fz
  rcases hp with rfl | rfl
  · obtain ⟨j, hj, hjs⟩ := Option.map_eq_some_iff.1 info_builder
    have hT := Lib.run_to_unsafe (P := Try.prog) (src := 60) (dst := 110) w ⟨b, 0, none⟩ (by kernel_rfl) (by kernel_rfl) hj (by rw [hjs]; decide) sh (by show 0 < 2; decide)
    have hF := Lib.run_from_unsafe (P := Try.prog) (src := 110) (dst := 60) w ⟨b, 0, none⟩ (by kernel_rfl) (by kernel_rfl) hj sh lies_builder
    have H := Lib.hid h
    clear h sh hj hjs
    go_enter Try.func59, Try.ntmps59
    go_wp2
    rw [run_callFunc_extern Try.func82 (by kernel_rfl) (by kernel_rfl) (by kernel_rfl) (e := Extern.AbiNoEscape.same) (by kernel_rfl)]
    rw [Lib.run_noEscape]
    simp only [Result.andThen]
    rw [Oper.upon_value]
    go_wp2
    go_end0
    exact ⟨rfl, H.out.used _, (Below.refl B w).setCell (p := ⟨b, 0, none⟩) H.out.far _, (Oth.refl w b v).set 0 _⟩
  · have H := Lib.hid h
    clear h sh
    go_enter Try.func59, Try.ntmps59
    go_wp2
    obtain ⟨j, hj, _⟩ := Option.map_eq_some_iff.1 info_builder
    rw [Lib.run_neq_ptr_same w _ (by kernel_rfl) hj]
    go_wp2
    go_end0
    exact ⟨rfl, H.out, Below.refl _ _, Oth.refl _ _ _⟩

theorem str_cells (l : List UInt8) (s : ByteArray) : Lib.byteCells l ++ Lib.strCells s = Lib.byteCells (l ++ s.data.toList) := by rw [Lib.byteCells_append]; rfl

set_option maxHeartbeats 2000000 in
theorem write_any (B b m : Nat) (p v : Value) (l : List UInt8) (s : ByteArray) (w : World) (h : BdAt w B b p v l m) (hp : p = .pointer none ∨ p = .pointer (some ⟨b, 0, none⟩)) (hB : B ≤ w.heap.size) (hl : l.length + s.size ≤ 100000000) (hm : 0 < s.size → 0 < m) :
    Calls Try.prog 34 #[.pointer (some ⟨b, 0, none⟩), .string s] w fun e w' => e = .returned (.tuple #[.int .i64 s.size, .nilIface]) ∧ ∃ v', BdAt w' B b (.pointer (some ⟨b, 0, none⟩)) v' (l ++ s.data.toList) m ∧ Below B w w' ∧ Oth w w' b v := by
  obtain ⟨i0, hi, hz0, hz1, hz2⟩ := Pln.info_parts info_u8
  have C1 := Lib.hid (copyCheck_any B b m p v l w h hp)
  have HB := Lib.hid hB
  have HL := Lib.hid hl
  have HM := Lib.hid hm
  clear h hp hB hl hm
  go_enter Try.func34, Try.ntmps34
  go_wp2_with fail
  refine C1.out.mono ?_
  rintro e w1 ⟨rfl, h1, b1, o1⟩
  have O1 := Lib.hid o1
  obtain ⟨c2, c3, fz, _⟩ := h1.cells
  have H1 := Lib.hid h1
  have B1 := Lib.hid b1
  have hown := Lib.hid h1.own
  clear h1 b1 o1 C1
  go_wp2_with (at_builtin; refine Lib.wpList_append_own_stringF _ rfl _ _ 61 9 rfl B 5 i0 (by kernel_rfl) (by kernel_rfl) hi hz0 hz1 hz2 _ _ _ rfl hown.out s rfl ?c3 ?c4 ?c5 ?_)
  case c3 => have := HL.out; unfold maxLen; omega
  case c4 => have := HL.out; omega
  case c5 => exact Nat.le_trans HB.out B1.out.size
  intro v' w2 ho hg hn
  have ho2 : w2.ownsRowF B 5 1 v' (l ++ s.data.toList).length (Lib.byteCells (l ++ s.data.toList)) := by
    rw [← str_cells, List.length_append]
    have e : s.data.toList.length = s.size := by simp
    rw [e]; exact ho
  have hs : v' = .slice none 0 0 ∨ 0 < m := by
    rcases Nat.eq_zero_or_pos m with hm0 | hm0
    · left
      rw [hn]
      refine ⟨?_, ?_⟩
      · rcases H1.out.full with h | h
        · exact h
        · omega
      · rcases Nat.eq_zero_or_pos s.size with h | h
        · simpa using h
        · have := HM.out h
          omega
    · exact .inr hm0
  have H2 := Lib.hid (H1.out.put hg ho2 hs)
  have HB2 := Lib.hid (B1.out.grown hg (Nat.le_trans HB.out B1.out.size) (fun k hk => (H1.out.own.lt k hk).1))
  have hb2 : w2.heap[b]? = some (.cells #[.pointer (some ⟨b, 0, none⟩), v] 63 (0, 0)) := (hg.block b H1.out.lt (fun e => H1.out.ne e.symm)).trans H1.out.blk
  have d2 : w2.cell? ⟨b, 0, none⟩ = some (.pointer (some ⟨b, 0, none⟩)) := by rw [cell_of_row w2 b 0 _ _ _ hb2]; rfl
  have d3 : w2.cell? ⟨b, 1, none⟩ = some v := by rw [cell_of_row w2 b 1 _ _ _ hb2]; rfl
  have f3 : w2.frozen? ⟨b, 1, none⟩ = false := frozen_of_row w2 b 1 _ _ hb2
  obtain ⟨ao, n', cap, rfl⟩ : ∃ ao n' cap, v' = .slice ao n' cap := by
    rcases ho.2 with ⟨hv, _⟩ | ⟨g, cap, cur, fz, hv, _⟩
    · exact ⟨_, _, _, hv⟩
    · exact ⟨_, _, _, hv⟩
  have FAR := H1.out.far
  have O2 := Lib.hid (O1.out.grown B1.out.size hg)
  clear ho ho2 hs hg hn hb2 hown
  go_wp2_with fail
  go_ret2
  exact ⟨rfl, _, H2.out, HB2.out.setCell (p := ⟨b, 1, none⟩) FAR _, O2.out.set 1 _⟩

set_option maxHeartbeats 2000000 in
theorem string_any (B b m : Nat) (p v : Value) (l : List UInt8) (w : World) (h : BdAt w B b p v l m) (hl : l.length ≤ 100000000) (hm : l.length = m) (hB : B ≤ w.heap.size) :
    Calls Try.prog 37 #[.pointer (some ⟨b, 0, none⟩)] w fun e w' => e = .returned (.string ⟨l.toArray⟩) ∧ Below B w w' ∧ Oth w w' b v := by
  obtain ⟨c2, c3, _, _⟩ := h.cells
  by_cases h0 : l = []
  · subst h0
    rcases h.full with rfl | h1
    · have hSD : (Builtin.unsafeSliceData_ #[61] 95 #[.slice none 0 0]).run Try.prog w.drew = .ok (.pointer none) w.drew := rfl
      have hUS := fun (W : World) (q : Option Addr) => (Lib.run_unsafeString_none W (P := Try.prog) 95 3 9 q)
      clear h c2
      go_enter Try.func37, Try.ntmps37
      go_wp2
      go_region
      all_goals (go_wp2; go_ret; exact ⟨rfl, Below.drew (Below.refl B w), fun _ _ _ _ => rfl⟩)
    · simp at hm; omega
  · have hl0 : l.length ≠ 0 := by simpa using h0
    obtain ⟨g, cap, cur, fz, rfl, hbg, hg, hfz, hnc, hcm, hcs, htake⟩ : ∃ g cap cur fz, v = .slice (some ⟨g, 0, none⟩) l.length cap ∧ B ≤ g ∧ w.heap[g]? = some (.cells cur 5 fz) ∧ fz.2 ≤ l.length * 1 ∧ l.length ≤ cap ∧ cap ≤ maxLen ∧ cur.size = cap * 1 ∧ cur.toList.take (l.length * 1) = Lib.byteCells l := by
      rcases h.own.2 with ⟨_, hz⟩ | ⟨g, cap, cur, fz, hv, rest⟩
      · exact absurd hz hl0
      · exact ⟨g, cap, cur, fz, hv, rest⟩
    have hSD : (Builtin.unsafeSliceData_ #[61] 95 #[.slice (some ⟨g, 0, none⟩) l.length cap]).run Try.prog w.drew = .ok (.pointer (some ⟨g, 0, none⟩)) w.drew :=
      Lib.run_unsafeSliceData_row _ _ _ _ _ _ (by omega)
    have hUS : (Builtin.unsafeString_ #[95, 3] 9 #[.pointer (some ⟨g, 0, none⟩), .int .i64 l.length]).run Try.prog w.drew = .ok (.string ⟨l.toArray⟩) (w.drew.freeze ⟨g, 0, none⟩ l.length) := by
      refine Lib.run_unsafeString_row w.drew 95 3 9 5 (by kernel_rfl) (by kernel_rfl) g cur.size (by have hg' : w.drew.heap[g]? = some (.cells cur 5 fz) := hg; simp [World.shape?, hg']) l h0 (by omega) (by omega) ?_
      intro j x hx
      have := h.own.cells (g := g) rfl j (.int .u8 x.toNat) (by simp [Lib.byteCells, hx])
      exact this
    have HG := Lib.hid hbg
    have c3d : w.drew.cell? ⟨b, 1, none⟩ = some (.slice (some ⟨g, 0, none⟩) l.length cap) := c3
    clear h c2 h0 hbg hg hfz hcs htake hcm hm
    go_enter Try.func37, Try.ntmps37
    go_wp2
    go_region
    all_goals (go_wp2; go_ret; exact ⟨rfl, Lib.below_freeze (Below.drew (Below.refl B w)) (p := ⟨g, 0, none⟩) HG.out _, oth_freeze w.drew b g _ _ _⟩)

set_option maxHeartbeats 2000000 in
/-- A builder that holds nothing makes room. -/
theorem grow_any (B b n : Nat) (w : World) (h : BdAt w B b (.pointer (some ⟨b, 0, none⟩)) (.slice none 0 0) [] n) (hB : B ≤ w.heap.size) (hn : n ≤ 1000000000) (h0 : 0 < n) :
    Calls Try.prog 60 #[.pointer (some ⟨b, 0, none⟩), .int .i64 n] w fun e w' => e = .returned (.tuple #[]) ∧ ∃ v', BdAt w' B b (.pointer (some ⟨b, 0, none⟩)) v' [] n ∧ Below B w w' ∧ Oth w w' b (.slice none 0 0) := by
  obtain ⟨cs, hrun, hle, hmax⟩ := Lib.run_makeNoZero (P := Try.prog) w.drew #[3] 61 5 (by kernel_rfl) n (by omega)
  have hw : IntKind.i64.wrap (IntKind.i64.wrap 0 + (n : Int)) = n := by
    rw [IntKind.wrap_i64, IntKind.wrap_i64]
    omega
  have hcall : (callFunc 83 #[.int .i64 (IntKind.i64.wrap (IntKind.i64.wrap 0 + (n : Int)))]).run Try.prog w.drew = .ok (.value (.slice (some ⟨w.drew.heap.size, 0, none⟩) n cs.size)) (w.drew.drew.drew.alloc (.cells cs 5)) := by
    rw [hw, run_callFunc_extern Try.func83 (by kernel_rfl) (by kernel_rfl) (by kernel_rfl) (e := Extern.BytealgMakeNoZero.makeNoZero #[3] #[61]) (by kernel_rfl), hrun]
    rfl
  have c1 : w.drew.cell? ⟨b, 1, none⟩ = some (.slice none 0 0) := h.drew.cells.2.1
  have hnew : Below w.heap.size w (w.alloc (.cells cs 5)) := (Below.refl _ w).alloc (Nat.le_refl _) _
  have hA := h.below hnew
  have c2 : (w.alloc (.cells cs 5)).cell? ⟨b, 1, none⟩ = some (.slice none 0 0) := hA.cells.2.1
  have f2 : (w.alloc (.cells cs 5)).frozen? ⟨b, 1, none⟩ = false := hA.cells.2.2.1 1
  have hcopy : ∀ W : World, (Builtin.copy_ #[61, 61] 3 #[.slice (some ⟨w.heap.size, 0, none⟩) 0 cs.size, .slice none 0 0]).run Try.prog W = .ok (goInt 0) W :=
    fun W => run_copy_none W 61 61 3 5 _ _ 0 cs.size 0 0 Try.underlying61 (by kernel_rfl) rfl
  have hown : (w.alloc (.cells cs 5)).ownsRowF B 5 1 (.slice (some ⟨w.heap.size, 0, none⟩) 0 cs.size) 0 (Lib.byteCells []) :=
    ⟨rfl, .inr ⟨w.heap.size, cs.size, cs, (0, 0), rfl, hB, heap_alloc_new w _, by simp, Nat.zero_le _, hmax (by unfold maxLen; omega), by omega, by simp [Lib.byteCells]⟩⟩
  have hput := hA.put (v' := .slice (some ⟨w.heap.size, 0, none⟩) 0 cs.size) (l' := []) (w2 := w.alloc (.cells cs 5)) ⟨rfl, rfl, rfl, Nat.le_refl _, fun _ _ _ => rfl⟩ hown (.inr h0)
  have FAR := h.far
  have HP := Lib.hid hput
  have HN := Lib.hid hnew
  clear hw h hA hown hput hnew hrun hle hmax
  go_enter Try.func60, Try.ntmps60
  go_wp2
  go_region
  all_goals
    go_wp2
    go_end0
    refine ⟨rfl, _, HP.out.draws 3, ?_, ?_⟩
    · exact ((HN.out.mono hB).setCell (p := ⟨b, 1, none⟩) FAR _).drew.drew.drew
    · exact Oth.set (fun k hk _ _ => HN.out.block k hk) 1 _
set_option maxHeartbeats 2000000 in
/-- A builder that has not been written yet makes room. -/
theorem room_any (B b n : Nat) (w : World) (h : BdAt w B b (.pointer none) (.slice none 0 0) [] n) (hB : B ≤ w.heap.size) (hn : n ≤ 1000000000) :
    Calls Try.prog 31 #[.pointer (some ⟨b, 0, none⟩), .int .i64 n] w fun e w' => e = .returned (.tuple #[]) ∧ ∃ v', BdAt w' B b (.pointer (some ⟨b, 0, none⟩)) v' [] n ∧ Below B w w' ∧ Oth w w' b (.slice none 0 0) := by
  have C1 := Lib.hid (copyCheck_any B b n _ _ [] w h (.inl rfl))
  have HB := Lib.hid hB
  clear h hB
  go_enter Try.func31, Try.ntmps31
  go_wp2_with fail
  refine C1.out.mono ?_
  rintro e w1 ⟨rfl, h1, b1, o1⟩
  have hb1 := Nat.le_trans HB.out b1.size
  have c1 : ∀ q, (w1.drewN q).cell? ⟨b, 1, none⟩ = some (.slice none 0 0) := fun q => (h1.draws q).cells.2.1
  have H1 := Lib.hid h1
  have B1 := Lib.hid b1
  have O1 := Lib.hid o1
  have c10 := c1 0
  clear h1 b1 o1 C1
  rcases Nat.eq_zero_or_pos n with h0 | h0
  · subst h0
    go_wp2_with fail
    go_quiet (fail)
    go_wp2_with fail
    go_end0
    exact ⟨rfl, _, H1.out.draws _, Pln.below_q B1.out _, O1.out⟩
  · have d1 : decide ((0 : Int) < n) = true := decide_eq_true (by omega)
    have d2 : decide (0 < n) = true := decide_eq_true h0
    have G1 := Lib.hid (fun q => grow_any B b n (w1.drewN q) (H1.out.draws q) hb1 hn h0)
    go_wp2_with fail
    go_quiet (fail)
    go_wp2_with fail
    refine (G1.out _).mono ?_
    rintro e w2 ⟨rfl, v', g1, g2, g3⟩
    have X1 := Lib.hid g1
    have X2 := Lib.hid ((Pln.below_q B1.out nq).trans g2)
    have X3 := Lib.hid (O1.out.trans B1.out.size (show Oth w1 w2 b _ from fun k hk a c => g3 k hk a c))
    clear g1 g2 g3
    go_wp2_with fail
    go_end0
    exact ⟨rfl, _, X1.out, X2.out, X3.out⟩
end Go.Proofs.Ytmjjbapahgejmaa.Bld
