/-
  Contracts of the library's stable sort, over this seat's translation: the state of what is sorted; swapRange, rotate.
-/
import Derived.Test.YtildikdoimobhaaRows
import Derived.WalkKit
import Derived.ProofKit
import Derived.Below
import Derived.WalkSpells
import Derived.WalkLawsBesides
import Derived.Deep.QuietTactic
import Derived.BigQuiet
import Derived.BigGuardPart
import Derived.Outline
import Derived.IntWalk
import Derived.Lib.Hide
import Derived.Shelf.Abstract
import Derived.Shelf.GgSortFunc.SmallK
import Derived.Shelf.SlSortFuncK.RowK2
import Derived.Test.YtildikdoimobhaaSrtMath
namespace Go.Proofs.Ytildikdoimobhaa.Srt
open Go.Sort Go.RowKit
variable {α : Type} [Inhabited α]
set_option linter.unusedVariables false

/-- The row's block holds dk; of what was there ahead of the sort nothing else has turned. -/
structure St (enc : α → List Value) (k : Nat) (w0 : World) (blk : Nat) (dk : Array α) (W : World) : Prop where
  holds : HoldsK enc k W blk 0 dk
  grown : w0.grownBy W (some blk)

theorem grown_trans {a b c : World} {row : Option Nat} (h : a.grownBy b row) (k : b.grownBy c row) : a.grownBy c row :=
  ⟨k.os.trans h.os, k.tape.trans h.tape, k.output.trans h.output, Nat.le_trans h.size k.size, fun i hi hr => (k.block i (Nat.lt_of_lt_of_le hi h.size) hr).trans (h.block i hi hr)⟩
theorem grown_alloc (w : World) (o : Obj) (row : Option Nat) : w.grownBy (w.alloc o) row := ⟨rfl, rfl, rfl, by simp, fun i hi _ => Below.heap_alloc w o i hi⟩
theorem grown_drewN (w : World) (n : Nat) (row : Option Nat) : w.grownBy (w.drewN n) row := ⟨rfl, rfl, rfl, Nat.le_refl _, fun _ _ _ => rfl⟩
theorem heap_setCells_other (blk : Nat) : ∀ (vs : List Value) (o : Nat) (w : World) (i : Nat), i ≠ blk → (w.setCells blk o vs).heap[i]? = w.heap[i]?
  | [], _, _, _, _ => rfl
  | v :: r, o, w, i, h => by
    rw [World.setCells, heap_setCells_other blk r (o + 1) _ i h]
    exact Below.heap_setCell w ⟨blk, o, none⟩ v i h
theorem setCells_same (blk : Nat) : ∀ (vs : List Value) (o : Nat) (w : World), (w.setCells blk o vs).os = w.os ∧ (w.setCells blk o vs).tape = w.tape ∧ (w.setCells blk o vs).output = w.output
  | [], _, _ => ⟨rfl, rfl, rfl⟩
  | v :: r, o, w => by rw [World.setCells]; exact setCells_same blk r (o + 1) _
theorem grown_setCells (w : World) (blk o : Nat) (vs : List Value) : w.grownBy (w.setCells blk o vs) (some blk) := by
  obtain ⟨a, b, c⟩ := setCells_same blk vs o w
  exact ⟨a, b, c, by rw [size_setCells]; exact Nat.le_refl _, fun i _ h => heap_setCells_other blk vs o w i (fun e => h (by rw [e]))⟩

section
variable {enc : α → List Value} {k : Nat} {w0 W W' : World} {blk : Nat} {dk : Array α}
theorem St.le (h : St enc k w0 blk dk W) : w0.heap.size ≤ W.heap.size := h.grown.size
theorem holdsK_block {w w' : World} (h : HoldsK enc k w blk 0 dk) (hb : w'.heap[blk]? = w.heap[blk]?) : HoldsK enc k w' blk 0 dk := fun j hj => by
  obtain ⟨a, b⟩ := h j hj
  exact ⟨(World.cell?_of_block (w := w) (w' := w') (a := ⟨blk, 0 + j, none⟩) hb).trans a, (World.frozen?_of_block (w := w) (w' := w') (a := ⟨blk, 0 + j, none⟩) hb).trans b⟩
theorem St.drewN (h : St enc k w0 blk dk W) (n : Nat) : St enc k w0 blk dk (W.drewN n) := ⟨h.holds, ⟨h.grown.os, h.grown.tape, h.grown.output, h.grown.size, h.grown.block⟩⟩
theorem St.alloc (h : St enc k w0 blk dk W) (hb : blk < w0.heap.size) (o : Obj) : St enc k w0 blk dk (W.alloc o) :=
  ⟨holdsK_block h.holds (Below.heap_alloc W o blk (Nat.lt_of_lt_of_le hb h.le)), grown_trans h.grown (grown_alloc W o _)⟩
theorem St.swap (h : St enc k w0 blk dk W) (hk : ∀ x, (enc x).length = k) (i j : Nat) (hi : i < dk.size) (hj : j < dk.size) :
    St enc k w0 blk (swp dk i j) ((W.setCells blk (0 + i * k) (enc dk[j]!)).setCells blk (0 + j * k) (enc dk[i]!)) := by
  have e := putRowK_swp enc k hk W blk 0 dk i j hi hj
  rw [putRowK_self enc k W blk 0 dk h.holds] at e
  refine ⟨?_, grown_trans (grown_trans h.grown (grown_setCells _ _ _ _)) (grown_setCells _ _ _ _)⟩
  rw [e]
  exact holdsK_putRowK enc k W blk 0 dk _ h.holds (by rw [size_swp])
theorem grown_swap (W : World) (blk a b : Nat) (x y : List Value) : W.grownBy ((W.setCells blk a x).setCells blk b y) (some blk) := grown_trans (grown_setCells _ _ _ _) (grown_setCells _ _ _ _)
end

/-- What is asked of 'less'. -/
def LessAt (P : Program) (g : Nat) (lb : Array Value) (enc : α → List Value) (k : Nat) (key : α → Nat) (blk size : Nat) (w0 : World) : Prop :=
  ∀ (W : World) (dk : Array α), St enc k w0 blk dk W → dk.size = size → ∀ i j : Nat, i < size → j < size →
    Calls P g (#[.int .i64 i, .int .i64 j] ++ lb) W fun e w' => e = .returned (.bool (decide (key dk[i]! < key dk[j]!))) ∧ ∃ q, w' = W.drewN q

/-- The pair of functions that is handed on. -/
def dataV (g : Nat) (lb : Array Value) (sf : Nat) (sb : Array Value) : Array Value := #[.func (.func g) #[] lb, .func (.func sf) #[] sb]

set_option maxRecDepth 10000 in
set_option maxHeartbeats 2000000 in
theorem swapRange_any (enc : α → List Value) (k : Nat) (hk : ∀ x, (enc x).length = k) (g : Nat) (lb : Array Value) (sf : Nat) (sb : Array Value) (w0 : World) (blk size : Nat) (hblk : blk < w0.heap.size)
    (hswap : Go.Proofs.SwapSwapsK Try.prog sf sb enc k blk 0 size) (lo hi a b n : Nat) (d : Array α) (W : World) (hst : St enc k w0 blk d W) (hs : d.size = size) (hsz : size ≤ 1000000)
    (h1 : lo ≤ a) (h2 : a + n ≤ b) (h3 : b + n ≤ hi) (h4 : hi ≤ size) :
    Calls Try.prog 74 #[.agg (dataV g lb sf sb), .int .i64 a, .int .i64 b, .int .i64 n] W fun e w' =>
      e = .returned (.tuple #[]) ∧ ∃ d', SwrOf a b n d d' ∧ PermIn lo hi d d' ∧ St enc k w0 blk d' w' ∧ W.grownBy w' (some blk) := by
  have hle := hst.le
  have hst1 := hst.alloc hblk (.cells (dataV g lb sf sb) 99)
  have HST1 := Lib.hid hst1
  have HSW := Lib.hid hswap
  clear hst hst1 hswap
  unfold dataV at *
  go_enter Try.func74, Try.ntmps74
  go_wp2_with fail
  go_loopw [8] (fun vi wr => ∃ (i : Nat) (dk : Array α), vi = .int .i64 i ∧ i ≤ n ∧ SwrOf a b i d dk ∧ PermIn lo hi d dk ∧ St enc k w0 blk dk wr ∧ (W.alloc (.cells #[.func (.func g) #[] lb, .func (.func sf) #[] sb] 99)).grownBy wr (some blk)) (fun vi _ => n - (intOf vi).toNat)
  case atStart => exact ⟨0, d, rfl, Nat.zero_le _, SwrOf.start a b d, perm_refl _ _ _, HST1.out, World.grownBy.refl _ _⟩
  case round =>
    obtain ⟨i, dk, rfl, hin, hsw, hp, hst, hg⟩ := hrel
    by_cases hlt : i < n
    · have hsk : dk.size = size := hp.1.trans hs
      have c1 : wr.cell? ⟨W.heap.size, 1, none⟩ = some (.func (.func sf) #[] sb) := by
        rw [World.cell?_of_block (a := ⟨W.heap.size, 1, none⟩) (hg.block W.heap.size (by simp) (by simp; omega))]
        simp
      have hsw2 := HSW.out wr dk hst.holds hsk (a + i) (b + i) (by omega) (by omega)
      have HS := Lib.hid (hst.swap hk (a + i) (b + i) (by omega) (by omega))
      have HG := Lib.hid (grown_trans hg (grown_swap wr blk (0 + (a + i) * k) (0 + (b + i) * k) (enc dk[b + i]!) (enc dk[a + i]!)))
      have HW := Lib.hid (hsw.step (by omega) (by omega))
      have HP := Lib.hid (perm_swp hp (by omega) (show lo ≤ a + i by omega) (show a + i < hi by omega) (show lo ≤ b + i by omega) (by omega))
      have e1 : ((a + i : Nat) : Int) = (a : Int) + i := by omega
      have e2 : ((b + i : Nat) : Int) = (b : Int) + i := by omega
      rw [e1, e2] at hsw2
      have HH := Lib.hid hsw2
      clear hsw hp hst hg hsw2 HST1 e1 e2
      generalize (wr.setCells blk (0 + (a + i) * k) (enc dk[b + i]!)).setCells blk (0 + (b + i) * k) (enc dk[a + i]!) = w2 at *
      generalize swp dk (a + i) (b + i) = d2 at *
      go_wp2_with fail
      rw [HH.out, Oper.upon_value]
      clear HH c1
      go_wp2_with fail
      refine ⟨⟨i + 1, d2, by go_num, by omega, HW.out, HP.out, HS.out, HG.out⟩, ?_⟩
      simp [intOf]; omega
    · obtain rfl : i = n := by omega
      have HS := Lib.hid hst
      have HG := Lib.hid (grown_trans (grown_alloc W _ _) hg)
      have HW := Lib.hid hsw
      have HP := Lib.hid hp
      clear hsw hp hst hg HST1
      go_wp2_with fail
      go_end0
      exact ⟨rfl, dk, HW.out, HP.out, HS.out, HG.out⟩

set_option maxRecDepth 10000 in
set_option maxHeartbeats 4000000 in
theorem rotate_any (enc : α → List Value) (k : Nat) (hk : ∀ x, (enc x).length = k) (g : Nat) (lb : Array Value) (sf : Nat) (sb : Array Value) (w0 : World) (blk size : Nat) (hblk : blk < w0.heap.size)
    (hswap : Go.Proofs.SwapSwapsK Try.prog sf sb enc k blk 0 size) (a m b : Nat) (d : Array α) (W : World) (hst : St enc k w0 blk d W) (hs : d.size = size) (hsz : size ≤ 1000000)
    (h1 : a < m) (h2 : m < b) (h3 : b ≤ size) :
    Calls Try.prog 73 #[.agg (dataV g lb sf sb), .int .i64 a, .int .i64 m, .int .i64 b] W fun e w' =>
      e = .returned (.tuple #[]) ∧ ∃ d', RotOf a m b d d' ∧ PermIn a b d d' ∧ St enc k w0 blk d' w' ∧ W.grownBy w' (some blk) := by
  have hle := hst.le
  have hst1 := hst.alloc hblk (.cells (dataV g lb sf sb) 99)
  have HST1 := Lib.hid hst1
  have SR := Lib.hid (fun x y n dk wr (h : St enc k w0 blk dk wr) (hd : dk.size = size) (q1 : a ≤ x) (q2 : x + n ≤ y) (q3 : y + n ≤ b) => swapRange_any enc k hk g lb sf sb w0 blk size hblk hswap a b x y n dk wr h hd hsz q1 q2 q3 h3)
  have HRA : Hid (RotOf a m b d (rotA a m b d)) := rotA_of a m b d (by omega)
  have HDV : Hid (dataV g lb sf sb = #[.func (.func g) #[] lb, .func (.func sf) #[] sb]) := rfl
  generalize rotA a m b d = T at *
  rw [HDV.out] at SR
  clear hst hst1 hswap
  unfold dataV at *
  clear HDV
  go_enter Try.func73, Try.ntmps73
  go_wp2_with fail
  go_loopw [8, 9] (fun vi vj wr => ∃ (i j : Nat) (dk : Array α), vi = .int .i64 i ∧ vj = .int .i64 j ∧ 0 < i ∧ 0 < j ∧ a + i ≤ m ∧ m + j ≤ b ∧ Turns m i j dk T ∧ PermIn a b d dk ∧ St enc k w0 blk dk wr ∧ (W.alloc (.cells #[.func (.func g) #[] lb, .func (.func sf) #[] sb] 99)).grownBy wr (some blk)) (fun vi vj _ => (intOf vi).toNat + (intOf vj).toNat)
  case atStart =>
    refine ⟨m - a, b - m, d, by go_num, by go_num, by omega, by omega, by omega, by omega, ?_, perm_refl _ _ _, HST1.out, World.grownBy.refl _ _⟩
    unfold Turns
    rw [show m - (m - a) = a by omega, show m + (b - m) = b by omega]
    exact HRA.out
  case round =>
    obtain ⟨i, j, dk, rfl, rfl, hi0, hj0, hia, hjb, htn, hp, hst, hg⟩ := hrel
    have hsk : dk.size = size := hp.1.trans hs
    have c0 : wr.cell? ⟨W.heap.size, 0, none⟩ = some (.func (.func g) #[] lb) := by
      rw [World.cell?_of_block (a := ⟨W.heap.size, 0, none⟩) (hg.block W.heap.size (by simp) (by simp; omega))]
      simp
    have c1 : wr.cell? ⟨W.heap.size, 1, none⟩ = some (.func (.func sf) #[] sb) := by
      rw [World.cell?_of_block (a := ⟨W.heap.size, 1, none⟩) (hg.block W.heap.size (by simp) (by simp; omega))]
      simp
    have HG0 := Lib.hid hg
    have HT := Lib.hid htn
    have HP := Lib.hid hp
    rcases Nat.lt_trichotomy j i with hc | hc | hc
    · have S1 := Lib.hid (SR.out (m - i) m j dk wr hst hsk (by omega) (by omega) (by omega))
      rw [show ((m - i : Nat) : Int) = (m : Int) - i by omega] at S1
      clear hst hg htn hp HST1
      go_wp2_with fail
      refine S1.out.mono ?_
      rintro r w2 ⟨rfl, d2, hsw, hp2, hst2, hg2⟩
      have H1 := Lib.hid hsw
      have H2 := Lib.hid (perm_trans HP.out hp2)
      have H3 := Lib.hid hst2
      have H4 := Lib.hid (grown_trans HG0.out hg2)
      clear hsw hp2 hst2 hg2 S1 c0 c1
      go_wp2_with fail
      refine ⟨⟨i - j, j, d2, by go_num, rfl, by omega, hj0, by omega, hjb, HT.out.more hc (by omega) H1.out, H2.out, H3.out, H4.out⟩, ?_⟩
      simp [intOf]; omega
    · subst hc
      have S1 := Lib.hid (SR.out (m - j) m j dk wr hst hsk (by omega) (by omega) (by omega))
      rw [show ((m - j : Nat) : Int) = (m : Int) - j by omega] at S1
      clear hst hg htn hp HST1
      go_wp2_with fail
      refine S1.out.mono ?_
      rintro r w2 ⟨rfl, d2, hsw, hp2, hst2, hg2⟩
      have H1 := Lib.hid (HT.out.last (by omega) hsw)
      have H2 := Lib.hid (perm_trans HP.out hp2)
      have H3 := Lib.hid hst2
      have H4 := Lib.hid (grown_trans (grown_alloc W _ _) (grown_trans HG0.out hg2))
      clear hsw hp2 hst2 hg2 S1 c0 c1
      go_wp2_with fail
      go_end0
      exact ⟨rfl, d2, by rw [H1.out]; exact HRA.out, H2.out, H3.out, H4.out⟩
    · have S1 := Lib.hid (SR.out (m - i) (m + j - i) i dk wr hst hsk (by omega) (by omega) (by omega))
      rw [show ((m - i : Nat) : Int) = (m : Int) - i by omega, show ((m + j - i : Nat) : Int) = (m : Int) + j - i by omega] at S1
      clear hst hg htn hp HST1
      go_wp2_with fail
      refine S1.out.mono ?_
      rintro r w2 ⟨rfl, d2, hsw, hp2, hst2, hg2⟩
      have H1 := Lib.hid hsw
      have H2 := Lib.hid (perm_trans HP.out hp2)
      have H3 := Lib.hid hst2
      have H4 := Lib.hid (grown_trans HG0.out hg2)
      clear hsw hp2 hst2 hg2 S1 c0 c1
      go_wp2_with fail
      refine ⟨⟨i, j - i, d2, rfl, by go_num, hi0, by omega, hia, by omega, HT.out.less hc (by omega) H1.out, H2.out, H3.out, H4.out⟩, ?_⟩
      simp [intOf]; omega

end Go.Proofs.Ytildikdoimobhaa.Srt
