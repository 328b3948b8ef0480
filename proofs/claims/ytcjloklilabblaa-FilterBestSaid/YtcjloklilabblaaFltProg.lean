/-
  Rows filtered and unfiltered by the program.
-/
import Derived.Test.YtcjloklilabblaaFltClo
namespace Go.Proofs.Ytcjloklilabblaa.Flt
open Go.ChangeShapes Go.WideShapes Go.ChangeAt Go.RowKit
set_option linter.unusedVariables false

theorem info_u8 : (Try.prog.info? 5).map (fun i => (i.zero, i.size, i.bytes)) = some (some (.int .u8 0), 1, 1) := by kernel_rfl
theorem makeZ (m : Nat) (w : World) (hm : m ≤ 1000) :
    (Instr.makeSlice 33 (.int .i64 m) (.int .i64 m)).run Try.prog w = .ok (.slice (some ⟨w.heap.size, 0, none⟩) m m) (w.alloc (.cells (madeCells #[.int .u8 0] m) 5)) := by
  cases hi : Try.prog.info? 5 with
  | none => have h := info_u8; rw [hi] at h; simp at h
  | some i =>
    have h := info_u8
    rw [hi] at h
    simp only [Option.map_some, Option.some.injEq, Prod.mk.injEq] at h
    have := run_make (P := Try.prog) w 33 5 i (.int .u8 0) (by kernel_rfl) hi h.1 .i64 .i64 m m (by omega) (by omega) (by rw [h.2.2]; omega) (by omega)
    rw [this, h.2.1]
    simp [Value.cells]
/-- A block that a string's bytes were laid into. -/
def Laid (s : ByteArray) (o : Obj) : Prop := ∃ C n m, o = .cells C 5 (n, m) ∧ s.size ≤ n ∧ ∀ i, i < s.size → C[i]? = some (.int .u8 (s.data.toList.getD i 0).toNat)
theorem laid_world (w : World) (s : ByteArray) : Lib.bytesWorld w 5 s = (w.alloc (.cells (Lib.bytesCells w 5 s) 5 ((Lib.bytesCells w 5 s).size, (Lib.bytesCells w 5 s).size + 1))).drew := by
  have e : (Lib.bytesWorld w 5 s).heap = (w.alloc (.cells (Lib.bytesCells w 5 s) 5 ((Lib.bytesCells w 5 s).size, (Lib.bytesCells w 5 s).size + 1))).drew.heap := by
    apply Array.ext_getElem?
    intro j
    rcases Nat.lt_trichotomy j w.heap.size with h | h | h
    · rw [Lib.bytesWorld_at_old _ _ _ _ h]
      exact (Below.heap_alloc w _ j h).symm
    · subst h
      rw [Lib.bytesWorld_at_new]
      exact (heap_alloc_new _ _).symm
    · rw [Array.getElem?_eq_none (by rw [Lib.bytesWorld_size]; omega), Array.getElem?_eq_none (by show (w.alloc _).heap.size ≤ j; simp [World.alloc, -World.alloc_eq]; omega)]
  have f : ∀ a b : World, a.heap = b.heap → a.tape = b.tape → a.drawn = b.drawn → a.os = b.os → a.output = b.output → a = b := by
    intro a b h1 h2 h3 h4 h5
    cases a; cases b; simp_all
  exact f _ _ e rfl rfl rfl rfl
theorem toB (s : ByteArray) : ∃ (O : World → Obj) (c : World → Nat), (∀ w, (convert 9 33 (.string s)).run Try.prog w = .ok (.slice (some ⟨w.heap.size, 0, none⟩) s.size (c w)) (w.alloc (O w)).drew) ∧ ∀ w, Laid s (O w) := by
  refine ⟨fun w => .cells (Lib.bytesCells w 5 s) 5 ((Lib.bytesCells w 5 s).size, (Lib.bytesCells w 5 s).size + 1), fun w => grownCap w s.size 0 5, fun w => ?_, fun w => ⟨_, _, _, rfl, ?_, fun i hi => ?_⟩⟩
  · rw [Lib.run_convert_string_bytes (u := .string) w _ _ 5 s (by kernel_rfl) (by kernel_rfl) (by kernel_rfl)]
    rw [laid_world]
  · simp [Lib.bytesCells]
  · simp [Lib.bytesCells, Array.getElem?_append, List.getD, hi]

/-- Two blocks, one behind the other. -/
theorem two (w : World) (o0 o1 : Obj) : Below w.heap.size w ((w.alloc o0).alloc o1) ∧ ((w.alloc o0).alloc o1).heap[w.heap.size]? = some o0 ∧ ((w.alloc o0).alloc o1).heap[w.heap.size + 1]? = some o1 := by
  have s1 : ∀ (w : World) (o : Obj), (w.alloc o).heap.size = w.heap.size + 1 := fun w o => by simp [World.alloc, -World.alloc_eq]
  refine ⟨((Below.refl _ w).alloc (Nat.le_refl _) o0).alloc (by rw [s1]; omega) o1, ?_, ?_⟩
  · rw [Below.heap_alloc _ _ _ (by rw [s1]; omega)]; exact heap_alloc_new _ _
  · rw [← s1 w o0]; exact heap_alloc_new _ _
/-- Four blocks, one behind the other. -/
theorem four (w : World) (o0 o1 o2 o3 : Obj) : Below w.heap.size w ((((w.alloc o0).alloc o1).alloc o2).alloc o3) ∧ ((((w.alloc o0).alloc o1).alloc o2).alloc o3).heap.size = w.heap.size + 4 ∧
    ((((w.alloc o0).alloc o1).alloc o2).alloc o3).heap[w.heap.size]? = some o0 ∧ ((((w.alloc o0).alloc o1).alloc o2).alloc o3).heap[w.heap.size + 1]? = some o1 ∧
    ((((w.alloc o0).alloc o1).alloc o2).alloc o3).heap[w.heap.size + 1 + 1]? = some o2 ∧ ((((w.alloc o0).alloc o1).alloc o2).alloc o3).heap[w.heap.size + 1 + 1 + 1]? = some o3 := by
  have s1 : ∀ (w : World) (o : Obj), (w.alloc o).heap.size = w.heap.size + 1 := fun w o => by simp [World.alloc, -World.alloc_eq]
  refine ⟨((((Below.refl _ w).alloc (Nat.le_refl _) o0).alloc (by rw [s1]; omega) o1).alloc (by rw [s1, s1]; omega) o2).alloc (by rw [s1, s1, s1]; omega) o3, by rw [s1, s1, s1, s1], ?_, ?_, ?_, ?_⟩
  · rw [Below.heap_alloc _ _ _ (by rw [s1, s1, s1]; omega), Below.heap_alloc _ _ _ (by rw [s1, s1]; omega), Below.heap_alloc _ _ _ (by rw [s1]; omega)]; exact heap_alloc_new _ _
  · rw [Below.heap_alloc _ _ _ (by rw [s1, s1, s1]; omega), Below.heap_alloc _ _ _ (by rw [s1, s1]; omega), ← s1 w o0]; exact heap_alloc_new _ _
  · rw [Below.heap_alloc _ _ _ (by rw [s1, s1, s1]; omega), ← s1 w o0, ← s1 (w.alloc o0) o1]; exact heap_alloc_new _ _
  · rw [← s1 w o0, ← s1 (w.alloc o0) o1, ← s1 ((w.alloc o0).alloc o1) o2]; exact heap_alloc_new _ _
theorem RowIn.of_laid {w : World} {g : Nat} {s : ByteArray} {o : Obj} (h : w.heap[g]? = some o) (hl : Laid s o) : RowIn w g s.data.toList := by
  obtain ⟨C, n, m, rfl, hn, hC⟩ := hl
  have hlt : g < w.heap.size := (Array.getElem?_eq_some_iff.1 h).1
  refine ⟨hlt, fun i hi => ?_, fun i hi => ?_⟩
  · have hi' : i < s.size := by simpa using hi
    simp [World.cell?, h, hC i hi']
  · have hi' : i < s.size := by simpa using hi
    simp [World.frozen?, h]; omega
theorem RowIn.of_made {w : World} {g n : Nat} (h : w.heap[g]? = some (.cells (madeCells #[.int .u8 0] n) 5)) : RowIn w g (List.replicate n 0) := by
  have hlt : g < w.heap.size := (Array.getElem?_eq_some_iff.1 h).1
  refine ⟨hlt, fun i hi => ?_, fun i hi => ?_⟩
  · have hi' : i < n := by simpa using hi
    simp [World.cell?, h, madeCells, hi', Nat.mod_one, List.getD]
  · simp [World.frozen?, h]
theorem FS.of_heap {W w : World} {x y gl cl gm : Nat} {r : ByteArray} {o : Obj} (bel : Below W.heap.size W w) (hx : w.heap[x]? = some (.cells #[.slice (some ⟨gl, 0, none⟩) r.size cl] 33)) (hy : w.heap[y]? = some (.cells #[.slice (some ⟨gm, 0, none⟩) r.size r.size] 33))
    (hl : w.heap[gl]? = some o) (ho : Laid r o) (hm : w.heap[gm]? = some (.cells (madeCells #[.int .u8 0] r.size) 5)) (h0 : W.heap.size ≤ x ∧ W.heap.size ≤ y ∧ W.heap.size ≤ gm) (h1 : gm ≠ x ∧ gm ≠ y ∧ gm ≠ gl) :
    FS W W.heap.size x y gl cl gm r.data.toList (List.replicate r.size 0) w := by
  have e : r.data.toList.length = r.size := by simp
  refine ⟨bel, ⟨h0.1, (Array.getElem?_eq_some_iff.1 hx).1⟩, ⟨h0.2.1, (Array.getElem?_eq_some_iff.1 hy).1⟩, ?_, ?_, RowIn.of_laid hl ho, RowIn.of_made hm, by rw [List.length_replicate, e], ⟨h1.1, h1.2.1, h1.2.2, h0.2.2⟩⟩
  · rw [e]; simp [World.cell?, hx]
  · rw [e]; simp [World.cell?, hy]

theorem byteI_more (x : Int) : byteI (x + 256) = byteI x := by
  unfold byteI
  rw [show (x + 256) % 256 = x % 256 by omega]
theorem made_set (l : List UInt8) (n len : Nat) (hl : l.length = n) (h : n < len) (b : UInt8) : (l ++ List.replicate (len - n) 0).set n b = (l ++ [b]) ++ List.replicate (len - (n + 1)) 0 := by
  obtain ⟨m, hm⟩ : ∃ m, len - n = m + 1 := ⟨len - n - 1, by omega⟩
  rw [hm, show len - (n + 1) = m by omega, List.replicate_succ, List.set_append_right _ _ (by omega), hl, Nat.sub_self]
  simp
theorem line_set (l row : List UInt8) (n : Nat) (hl : l.length = n) (h : n < row.length) (b : UInt8) : (l ++ row.drop n).set n b = (l ++ [b]) ++ row.drop (n + 1) := by
  rw [List.set_append_right _ _ (by omega), hl, Nat.sub_self, List.drop_eq_getElem_cons h, List.set_cons_zero, List.append_assoc]
  rfl
theorem line_at (l row : List UInt8) (n : Nat) (hl : l.length = n) (h : n < row.length) : atB (l ++ row.drop n) n = atB row n := by
  rw [atB_in (by simp; omega), atB_in h, List.getElem_append_right (by omega)]
  simp [hl]
/-- 'string' of a row of bytes. -/
theorem str_of {w : World} {g : Nat} {l : List UInt8} (h : RowIn w g l) (n c : Nat) (hl : l.length = n) :
    (convert 33 9 (.slice (some ⟨g, 0, none⟩) n c)).run Try.prog w = .ok (.string ⟨l.toArray⟩) w :=
  Oct.run_string_of w _ _ 5 _ _ l n hl (by kernel_rfl) (by kernel_rfl) (by kernel_rfl) (fun j hj => by
    rw [Oct.addr_add, h.cell j (by omega), List.getElem?_map, List.getElem?_eq_getElem (by omega), List.getD_eq_getElem?_getD, List.getElem?_eq_getElem (by omega)]
    rfl)

theorem filter_row (k st : Int) (p r : ByteArray) (w : World) (x y gl cl gm : Nat) (s0 : 1 ≤ st ∧ st ≤ 9223372036854775807) (s1 : p.size = 0 ∨ p.size = r.size) (hr : r.size ≤ 400) (wc : World) (hF : FS w w.heap.size x y gl cl gm r.data.toList (List.replicate r.size 0) wc) :
    Calls Try.prog 23 #[.int .i64 k, .int .i64 st, .string p, .slice (some ⟨gl, 0, none⟩) r.size cl, .func (.func 24) #[] #[.pointer (some ⟨x, 0, none⟩), .pointer (some ⟨y, 0, none⟩)]] wc fun e w' =>
      e = .returned (.tuple #[]) ∧ FS w w.heap.size x y gl cl gm r.data.toList (filL k st p.data.toList r.data.toList r.size) w' := by
  have e : r.data.toList.length = r.size := by simp
  refine (guessesF_any k st p r.size gl cl x y (fun _ => r.data.toList) (fun n wx => FS w w.heap.size x y gl cl gm r.data.toList (filL k st p.data.toList r.data.toList n ++ List.replicate (r.size - n) 0) wx) hr s0 s1 (fun _ => e)
    (fun n wx hn h i hi => h.line.cell i (by omega)) (fun n wx w1 hn h hb => ?_) wc (by simpa [filL] using hF)).mono ?_
  · have g0 : 0 ≤ gB k st p.data.toList r.data.toList n ∧ gB k st p.data.toList r.data.toList n < 256 := guess_byte (atB_byte _ _) (atB_byte _ _) (atB_byte _ _)
    have := cloF_any w w.heap.size x y gl cl gm r.data.toList _ n _ w1 (h.below hb) (by omega) g0 (by omega)
    rw [made_set _ n r.size (filL_length _ _ _ _ _) hn] at this
    show Calls _ _ _ _ fun e w' => e = _ ∧ FS w w.heap.size x y gl cl gm r.data.toList (filL k st p.data.toList r.data.toList n ++ [filB k st p.data.toList r.data.toList n] ++ List.replicate (r.size - (n + 1)) 0) w'
    rw [show filB k st p.data.toList r.data.toList n = byteI (atB r.data.toList n - gB k st p.data.toList r.data.toList n) by unfold filB gB; exact byteI_more _]
    exact this
  · rintro e w' ⟨h1, h2⟩
    refine ⟨h1, ?_⟩
    simpa using h2

theorem unfilter_row (k st : Int) (p r : ByteArray) (w : World) (x gl cl : Nat) (s0 : 1 ≤ st ∧ st ≤ 9223372036854775807) (s1 : p.size = 0 ∨ p.size = r.size) (hr : r.size ≤ 400) (wc : World) (hF : US w w.heap.size x gl cl r.data.toList wc) :
    Calls Try.prog 23 #[.int .i64 k, .int .i64 st, .string p, .slice (some ⟨gl, 0, none⟩) r.size cl, .func (.func 27) #[] #[.pointer (some ⟨x, 0, none⟩)]] wc fun e w' =>
      e = .returned (.tuple #[]) ∧ US w w.heap.size x gl cl (unfL k st p.data.toList r.data.toList r.size) w' := by
  have e : r.data.toList.length = r.size := by simp
  have hlen : ∀ n, n ≤ r.size → (unfL k st p.data.toList r.data.toList n ++ r.data.toList.drop n).length = r.size := fun n hn => by rw [List.length_append, unfL_length, List.length_drop, e]; omega
  refine (guessesU_any k st p r.size gl cl x (fun n => (unfL k st p.data.toList r.data.toList (min n r.size) ++ r.data.toList.drop (min n r.size))) (fun n wx => US w w.heap.size x gl cl (unfL k st p.data.toList r.data.toList n ++ r.data.toList.drop n) wx) hr s0 s1 (fun n => hlen _ (Nat.min_le_right _ _))
    (fun n wx hn h i hi => by
      show _ = some (Value.int .u8 ((unfL k st p.data.toList r.data.toList (min n r.size) ++ r.data.toList.drop (min n r.size)).getD i 0).toNat)
      rw [Nat.min_eq_left (by omega)]
      exact h.line.cell i (by rw [hlen n (by omega)]; exact hi)) (fun n wx w1 hn h hb => ?_) wc (by simpa [unfL] using hF)).mono ?_
  · show Calls _ _ #[_, .int .u8 (gB k st p.data.toList (unfL k st p.data.toList r.data.toList (min n r.size) ++ r.data.toList.drop (min n r.size)) n), _] _ _
    rw [Nat.min_eq_left (by omega)]
    have g0 : 0 ≤ gB k st p.data.toList (unfL k st p.data.toList r.data.toList n ++ r.data.toList.drop n) n ∧ gB k st p.data.toList (unfL k st p.data.toList r.data.toList n ++ r.data.toList.drop n) n < 256 := guess_byte (atB_byte _ _) (atB_byte _ _) (atB_byte _ _)
    have hl := hlen n (by omega)
    have := cloU_any w w.heap.size x gl cl _ n _ w1 (h.below hb) (by omega) g0 (by omega)
    rw [line_set _ _ n (unfL_length _ _ _ _ _) (by omega), line_at _ _ n (unfL_length _ _ _ _ _) (by omega)] at this
    show Calls _ _ _ _ fun e w' => e = _ ∧ US w w.heap.size x gl cl (unfL k st p.data.toList r.data.toList (n + 1) ++ r.data.toList.drop (n + 1)) w'
    rw [unfL_succ]
    have hg : gB k st p.data.toList (unfL k st p.data.toList r.data.toList n ++ r.data.toList.drop n) n = guessI k (atB (unfL k st p.data.toList r.data.toList n) (n - st)) (atB p.data.toList n) (atB p.data.toList (n - st)) := by
      unfold gB
      rw [atB_ahead (by rw [unfL_length]; omega)]
    rw [hg] at this ⊢
    exact this
  · rintro e w' ⟨h1, h2⟩
    refine ⟨h1, ?_⟩
    have : r.data.toList.drop r.size = [] := List.drop_of_length_le (by omega)
    rw [this, List.append_nil] at h2
    exact h2

set_option maxHeartbeats 4000000 in
theorem filter_any (k st : Int) (p r : ByteArray) (hp : p.size ≤ 400) (hr : r.size ≤ 400) (hw : (Lit.int .i64 st).wf = true) (w : World) :
    Calls Try.prog 12 #[.int .i64 k, .int .i64 st, .string p, .string r] w fun e w' =>
      e = .returned (.tuple #[.string (if rightB k st p r then ⟨(filL k st p.data.toList r.data.toList r.size).toArray⟩ else ByteArray.empty), .int .i64 (if rightB k st p r then 0 else 1)]) ∧ Below w.heap.size w w' := by
  have R := Lib.hid (right_any k st p r (by unfold maxLen; omega) (by unfold maxLen; omega) w)
  have hst : rightB k st p r = true → (1 ≤ st ∧ st ≤ 9223372036854775807) ∧ (p.size = 0 ∨ p.size = r.size) := by
    intro h
    have e1 : IntKind.i64.max = 9223372036854775807 := rfl
    simp only [rightB, decide_eq_true_iff] at h
    simp [Lit.wf] at hw
    omega
  generalize rightB k st p r = b at *
  cases b with
  | false =>
    go_enter Try.func12, Try.ntmps12
    go_wp2_with fail
    refine R.out.mono ?_
    rintro e w' ⟨rfl, rfl⟩
    go_wp2_with fail
    go_ret2
    exact ⟨rfl, Below.refl _ _⟩
  | true =>
    obtain ⟨s0, s1⟩ := hst rfl
    clear hst hw
    obtain ⟨O, c, TB, TL⟩ := toB r
    have TLH := Lib.hid TL
    clear TL
    have MZ := fun w => makeZ r.size w (by omega)
    go_enter Try.func12, Try.ntmps12
    go_wp2_with fail
    refine R.out.mono ?_
    rintro e w' ⟨rfl, rfl⟩
    clear R
    go_upto_region 3 with fail
    go_cut [10, 11] (fun a b wx => ∃ x y gl cl gm, a = .pointer (some ⟨x, 0, none⟩) ∧ b = .pointer (some ⟨y, 0, none⟩) ∧ FS w w.heap.size x y gl cl gm r.data.toList (List.replicate r.size 0) wx)
    case first =>
      go_wp2_with fail
      go_region
      all_goals (
        go_wp2_with fail
        go_meet
        refine ⟨_, _, ?_, ?_, ?_, rfl, rfl, FS.of_heap (four w _ _ _ _).1.drew.drew ?_ ?_ ?_ (TLH.out ?_) ?_ ?_ ?_⟩
        rotate_left 3
        · first | exact (four w _ _ _ _).2.2.1 | exact (four w _ _ _ _).2.2.2.1 | exact (four w _ _ _ _).2.2.2.2.1 | exact (four w _ _ _ _).2.2.2.2.2
        · first | exact (four w _ _ _ _).2.2.1 | exact (four w _ _ _ _).2.2.2.1 | exact (four w _ _ _ _).2.2.2.2.1 | exact (four w _ _ _ _).2.2.2.2.2
        · first | exact (four w _ _ _ _).2.2.1 | exact (four w _ _ _ _).2.2.2.1 | exact (four w _ _ _ _).2.2.2.2.1 | exact (four w _ _ _ _).2.2.2.2.2
        · first | exact (four w _ _ _ _).2.2.1 | exact (four w _ _ _ _).2.2.2.1 | exact (four w _ _ _ _).2.2.2.2.1 | exact (four w _ _ _ _).2.2.2.2.2
        · omega
        · omega)
    case rest =>
    obtain ⟨x, y, gl, cl, gm, rfl, rfl, hF⟩ := hcut
    have GU := Lib.hid (filter_row k st p r w x y gl cl gm s0 s1 hr wc hF)
    have c1 : wc.cell? ⟨x, 0, none⟩ = some (.slice (some ⟨gl, 0, none⟩) r.size cl) := by have := hF.cx; rwa [show r.data.toList.length = r.size by simp] at this
    clear hF TB MZ TLH
    go_wp2_with fail
    refine GU.out.mono ?_
    rintro e w2 ⟨rfl, hF2⟩
    have c2 : w2.cell? ⟨y, 0, none⟩ = some (.slice (some ⟨gm, 0, none⟩) r.size r.size) := by have := hF2.cy; rwa [show r.data.toList.length = r.size by simp] at this
    have hcv : (convert 33 9 (.slice (some ⟨gm, 0, none⟩) r.size r.size)).run Try.prog w2 = .ok (.string ⟨(filL k st p.data.toList r.data.toList r.size).toArray⟩) w2 := str_of hF2.mad r.size r.size (filL_length _ _ _ _ _)
    have B2 := Lib.hid hF2.bel
    clear GU c1 hF2
    go_wp2_with fail
    go_ret2
    exact ⟨rfl, B2.out⟩

theorem US.of_heap {W w : World} {x gl cl : Nat} {r : ByteArray} {o : Obj} (bel : Below W.heap.size W w) (hx : w.heap[x]? = some (.cells #[.slice (some ⟨gl, 0, none⟩) r.size cl] 33)) (hl : w.heap[gl]? = some o) (ho : Laid r o) (h0 : W.heap.size ≤ x ∧ W.heap.size ≤ gl) (h1 : gl ≠ x) :
    US W W.heap.size x gl cl r.data.toList w := by
  have e : r.data.toList.length = r.size := by simp
  refine ⟨bel, ⟨h0.1, (Array.getElem?_eq_some_iff.1 hx).1⟩, ?_, RowIn.of_laid hl ho, ⟨h1, h0.2⟩⟩
  rw [e]; simp [World.cell?, hx]

set_option maxHeartbeats 4000000 in
theorem unfilter_any (k st : Int) (p r : ByteArray) (hp : p.size ≤ 400) (hr : r.size ≤ 400) (hw : (Lit.int .i64 st).wf = true) (w : World) :
    Calls Try.prog 14 #[.int .i64 k, .int .i64 st, .string p, .string r] w fun e w' =>
      e = .returned (.tuple #[.string (if rightB k st p r then ⟨(unfL k st p.data.toList r.data.toList r.size).toArray⟩ else ByteArray.empty), .int .i64 (if rightB k st p r then 0 else 1)]) ∧ Below w.heap.size w w' := by
  have R := Lib.hid (right_any k st p r (by unfold maxLen; omega) (by unfold maxLen; omega) w)
  have hst : rightB k st p r = true → (1 ≤ st ∧ st ≤ 9223372036854775807) ∧ (p.size = 0 ∨ p.size = r.size) := by
    intro h
    have e1 : IntKind.i64.max = 9223372036854775807 := rfl
    simp only [rightB, decide_eq_true_iff] at h
    simp [Lit.wf] at hw
    omega
  generalize rightB k st p r = b at *
  cases b with
  | false =>
    go_enter Try.func14, Try.ntmps14
    go_wp2_with fail
    refine R.out.mono ?_
    rintro e w' ⟨rfl, rfl⟩
    go_wp2_with fail
    go_ret2
    exact ⟨rfl, Below.refl _ _⟩
  | true =>
    obtain ⟨s0, s1⟩ := hst rfl
    clear hst hw
    obtain ⟨O, c, TB, TL⟩ := toB r
    have TLH := Lib.hid TL
    clear TL
    go_enter Try.func14, Try.ntmps14
    go_wp2_with fail
    refine R.out.mono ?_
    rintro e w' ⟨rfl, rfl⟩
    clear R
    have tw := two w (O w) (.cells #[.slice (some ⟨w.heap.size, 0, none⟩) r.size (c w)] 33)
    have hF : US w w.heap.size (w.heap.size + 1) w.heap.size (c w) r.data.toList ((w.alloc (O w)).alloc (.cells #[.slice (some ⟨w.heap.size, 0, none⟩) r.size (c w)] 33)).drew :=
      US.of_heap tw.1.drew tw.2.2 tw.2.1 (TLH.out w) (by omega) (by omega)
    have GU := Lib.hid (unfilter_row k st p r w _ _ _ s0 s1 hr _ hF)
    clear tw hF
    go_wp2_with fail
    refine GU.out.mono ?_
    rintro e w2 ⟨rfl, hF2⟩
    have c2 : w2.cell? ⟨w.heap.size + 1, 0, none⟩ = some (.slice (some ⟨w.heap.size, 0, none⟩) r.size (c w)) := by have := hF2.cx; rwa [unfL_length] at this
    have hcv : (convert 33 9 (.slice (some ⟨w.heap.size, 0, none⟩) r.size (c w))).run Try.prog w2 = .ok (.string ⟨(unfL k st p.data.toList r.data.toList r.size).toArray⟩) w2 := str_of hF2.line r.size _ (unfL_length _ _ _ _ _)
    have B2 := Lib.hid hF2.bel
    clear GU hF2 TB TLH
    generalize c w = cw at *
    generalize hN : w.heap.size = N at *
    have HN := Lib.hid hN
    clear hN
    go_wp2_with fail
    go_ret2
    exact ⟨rfl, by rw [HN.out]; exact B2.out⟩

set_option maxHeartbeats 2000000 in
theorem choose_any (st : Int) (p r : ByteArray) (hp : p.size ≤ 400) (hr : r.size ≤ 400) (hw : (Lit.int .i64 st).wf = true) (w : World) :
    Calls Try.prog 16 #[.int .i64 st, .string p, .string r] w fun e w' => e = .returned (.int .i64 (bestK st p r)) ∧ Below w.heap.size w w' := by
  unfold bestK
  have R : ∀ k : Nat, k ≤ 4 → rightB k st p r = rightB ((0 : Nat) : Int) st p r := fun k hk => rightB_of k 0 st p r hk (by omega)
  have F : Hid (∀ (k : Nat) (w : World), k ≤ 4 → Calls Try.prog 12 #[.int .i64 k, .int .i64 st, .string p, .string r] w fun e w' =>
      e = .returned (.tuple #[.string (if rightB ((0 : Nat) : Int) st p r then ⟨(filL k st p.data.toList r.data.toList r.size).toArray⟩ else ByteArray.empty), .int .i64 (if rightB ((0 : Nat) : Int) st p r then 0 else 1)]) ∧ Below w.heap.size w w') := Lib.hid fun k w hk => by
    rw [← R k hk]; exact filter_any k st p r hp hr hw w
  have W : Hid (∀ (k : Nat) (w : World), Calls Try.prog 28 #[.string ⟨(filL k st p.data.toList r.data.toList r.size).toArray⟩] w fun e w' => e = .returned (.int .i64 (wtK st p r k)) ∧ ∃ n, w' = w.drewN n) := Lib.hid fun k w =>
    weight_any ⟨(filL k st p.data.toList r.data.toList r.size).toArray⟩ (by show (filL k st p.data.toList r.data.toList r.size).length ≤ _; rw [filL_length]; omega) w
  have B := wtK_le st p r
  have B : Hid (∀ k, wtK st p r k ≤ 51200) := Lib.hid fun k => by have := B k; omega
  clear R hw hp hr
  show Calls _ _ _ _ fun e w' => e = .returned (.int .i64 ((if rightB ((0 : Nat) : Int) st p r = true then pick (wtK st p r) 4 else 0 : Nat) : Int)) ∧ _
  generalize rightB ((0 : Nat) : Int) st p r = b at *
  generalize hf : wtK st p r = f at *
  clear hf
  cases b with
  | false =>
    go_enter Try.func16, Try.ntmps16
    go_wp2_with fail
    go_loopw [7, 8, 13] (fun m l k wr => Below w.heap.size w wr ∧ k = .int .i64 0) (fun _ _ k _ => 5 - (intOf k).toNat)
    case atStart => exact ⟨Below.refl _ _, rfl⟩
    case round =>
      obtain ⟨bel, rfl⟩ := hrel
      have F0 := Lib.hid (F.out 0 wr (by omega))
      go_wp2_with fail
      refine F0.out.mono ?_
      rintro e w' ⟨rfl, b2⟩
      have b3 := bel.trans (b2.mono bel.size)
      clear b2 bel F0
      go_wp2_with fail
      go_ret
      exact ⟨rfl, b3⟩
  | true =>
    go_enter Try.func16, Try.ntmps16
    go_wp2_with fail
    go_loopw [7, 8, 13] (fun m l k wr => Below w.heap.size w wr ∧ ∃ j : Nat, j ≤ 5 ∧ k = .int .i64 j ∧ ((j = 0 ∧ m = .int .i64 0 ∧ l = .int .i64 9223372036854775807) ∨ ∃ i, j = i + 1 ∧ m = .int .i64 (pick f i) ∧ l = .int .i64 (f (pick f i)))) (fun _ _ k _ => 5 - (intOf k).toNat)
    case atStart => exact ⟨Below.refl _ _, 0, Nat.zero_le _, rfl, .inl ⟨rfl, rfl, rfl⟩⟩
    case round =>
      obtain ⟨bel, j, hj, rfl, hj2⟩ := hrel
      by_cases hlt : j < 5
      · have FF := Lib.hid (F.out j wr (by omega))
        have bj := B.out j
        rcases hj2 with ⟨rfl, rfl, rfl⟩ | ⟨i, rfl, rfl, rfl⟩
        · have d0 : decide ((f 0 : Int) < 9223372036854775807) = true := by simp; omega
          go_wp2_with fail
          refine FF.out.mono ?_
          rintro e w' ⟨rfl, b2⟩
          have b3 := bel.trans (b2.mono bel.size)
          clear b2 bel FF
          go_wp2_with fail
          refine (W.out 0 w').mono ?_
          rintro e w2 ⟨rfl, n, rfl⟩
          have b4 := below_drewN n b3
          clear b3
          go_wp2_with fail
          exact ⟨⟨b4, 1, by omega, by go_num, .inr ⟨0, rfl, rfl, rfl⟩⟩, by simp [intOf]⟩
        · have bi := B.out (pick f i)
          have hpk : pick f (i + 1) = if f (i + 1) < f (pick f i) then i + 1 else pick f i := rfl
          have PK := Lib.hid hpk
          clear hpk
          generalize hP : pick f i = P at *
          generalize hG : f P = G at *
          generalize hH : f (i + 1) = H at *
          clear hP
          go_wp2_with fail
          refine FF.out.mono ?_
          rintro e w' ⟨rfl, b2⟩
          have b3 := bel.trans (b2.mono bel.size)
          clear b2 bel FF
          have WW := Lib.hid (W.out (i + 1) w')
          rw [hH] at WW
          have HG := Lib.hid hG
          have HH := Lib.hid hH
          clear hG hH
          go_wp2_with fail
          refine WW.out.mono ?_
          rintro e w2 ⟨rfl, n, rfl⟩
          have b4 := below_drewN n b3
          clear b3 WW
          by_cases h1 : H < G
          · have d1 : decide ((H : Int) < G) = true := by simp; omega
            have d2 : decide (H < G) = true := by simp; omega
            go_wp2_with fail
            refine ⟨⟨b4, i + 1 + 1, by omega, by go_num, .inr ⟨i + 1, rfl, ?_, ?_⟩⟩, by simp [intOf]; omega⟩
            · rw [PK.out, if_pos h1]; rfl
            · rw [PK.out, if_pos h1, HH.out]
          · have d1 : decide ((H : Int) < G) = false := by simp; omega
            have d2 : decide (H < G) = false := by simp; omega
            go_wp2_with fail
            refine ⟨⟨b4, i + 1 + 1, by omega, by go_num, .inr ⟨i + 1, rfl, ?_, ?_⟩⟩, by simp [intOf]; omega⟩
            · rw [PK.out, if_neg h1]
            · rw [PK.out, if_neg h1, HG.out]
      · rcases hj2 with ⟨rfl, rfl, rfl⟩ | ⟨i, rfl, rfl, rfl⟩
        · omega
        · obtain rfl : i = 4 := by omega
          go_wp2_with fail
          go_ret
          exact ⟨rfl, bel⟩
end Go.Proofs.Ytcjloklilabblaa.Flt
