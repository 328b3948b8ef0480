/-
  The program's draw and take: rows copied.
-/
import Derived.Laws.CopyOwn
import Derived.Test.YtlamdgdegmjljaaScrPrgD
namespace Go.Proofs.Ytlamdgdegmjljaa.Scr
open Go.ChangeShapes Go.WideShapes Go.ChangeAt Go.RowKit Go.Shelf Lz RowG RegVal Reg
set_option linter.unusedVariables false
set_option maxRecDepth 100000
attribute [local go_sem] Oper.semAt_some

theorem touch_setRow (W : World) (g : Nat) (cs : Array Value) : Touch W (W.setRow g cs) [g] :=
  ⟨rfl, rfl, rfl, by simp [World.setRow], fun k hk hm => setRow_other W g k cs (by simpa using hm)⟩
theorem keeps_setRow {W : World} {g : Nat} {cur : Array Value} {T : TypeId} (h : W.heap[g]? = some (.cells cur T (0, 0))) (cs : Array Value) : KeepsOthers W (W.setRow g cs) :=
  ⟨by simp [World.setRow], fun k o hk ho => by
    by_cases e : k = g
    · subst e
      rw [h] at hk
      cases hk
      simp [Obj.isCells] at ho
    · exact (setRow_other W g k cs e).trans hk⟩
def mixL (n o m : Nat) (q : Nat → Int) (L : List Int) : List Int := gen n (fun i => if o ≤ i ∧ i < o + m then q (i - o) else px L i)
theorem copy_run (W : World) (g n o d : Nat) (L : List Int) (hL : L.length = n) (hrow : W.heap[g]? = some (.cells (ints L).toArray 3 (0, 0))) (h : o + d ≤ n) (sp : Option Addr) (s sc m : Nat) (hm : m = min s d) (q : Nat → Int)
    (hq : 0 < m → ∃ p x, sp = some ⟨p, x, none⟩ ∧ ∀ j, j < m → W.cell? ⟨p, x + j, none⟩ = some (.int .i64 (q j))) :
    ∃ W2, (Builtin.copy_ #[30, 30] 3 #[cutV g n o d, .slice sp s sc]).run Try.prog W = .ok (.int .i64 (m : Int)) W2 ∧
      W2.heap[g]? = some (.cells (ints (mixL n o m q L)).toArray 3 (0, 0)) ∧ Touch W W2 [g] ∧ KeepsOthers W W2 := by
  have hsz : (Try.prog.info? 3).map (·.size) = some 1 := by kernel_rfl
  by_cases h0 : m = 0
  · subst h0
    refine ⟨W, ?_, ?_, Touch.of_below (Below.refl _ _) _, KeepsOthers.refl _⟩
    · unfold cutV
      exact run_copy_none W _ _ _ _ _ sp d (n - o) s sc Try.underlying30 hsz hm.symm
    · have : mixL n o 0 q L = L := by
        unfold mixL
        rw [← hL]
        refine (gen_congr (fun i hi => ?_)).trans (gen_px L)
        rw [if_neg (by omega)]
      rw [this]
      exact hrow
  · obtain ⟨p, x, rfl, hc⟩ := hq (by omega)
    have hno : n ≠ o := by omega
    have hcut : cutV g n o d = .slice (some ⟨g, o, none⟩) d (n - o) := by unfold cutV; rw [if_neg hno]
    have hlen : ((List.range m).map (fun j => Value.int .i64 (q j))).length = m := by simp
    have hr := run_copy_row (P := Try.prog) W 30 30 3 3 g o d (n - o) ⟨p, x, none⟩ s sc (ints L).toArray 3 ((List.range m).map (fun j => Value.int .i64 (q j))) Try.underlying30 hsz hrow (by rw [hlen]; exact hm)
      (fun j v hj => by
        have hj' : j < m := by have := (List.getElem?_eq_some_iff.1 hj).1; simpa using this
        rw [Go.WideShapes.add_plain, hc j hj']
        simpa [hj'] using hj)
      (by rw [hlen]; simp [ints]; omega)
      (fun v hv => by obtain ⟨j, _, rfl⟩ := List.mem_map.1 hv; rfl)
    rw [hlen] at hr
    refine ⟨_, by rw [hcut]; exact hr, ?_, touch_setRow _ _ _, keeps_setRow hrow _⟩
    rw [setRow_heap W g _ _ _ _ hrow]
    congr 2
    apply congrArg
    unfold mixL ints gen
    apply List.ext_getElem
    · simp; omega
    · intro i h1 h2
      simp only [List.getElem_map, List.getElem_range]
      have hi : i < n := by simpa using h2
      by_cases h3 : i < o
      · rw [List.getElem_append_left (by simp; omega), List.getElem_append_left (by simp; omega)]
        simp only [List.getElem_take, List.getElem_map]
        rw [if_neg (by omega), px_get (by omega)]
      · by_cases h4 : i < o + m
        · rw [List.getElem_append_left (by simp; omega), List.getElem_append_right (by simp; omega)]
          simp only [List.getElem_map, List.getElem_range, List.length_take, List.length_map]
          rw [if_pos ⟨by omega, h4⟩]
          congr 3
          omega
        · rw [List.getElem_append_right (by simp; omega)]
          simp only [List.getElem_drop, List.getElem_map, List.length_append, List.length_take, List.length_map, List.length_range]
          rw [if_neg (by omega), px_get (by omega)]
          congr 2
          omega
set_option maxHeartbeats 1000000 in
theorem rows_any (b : Nat) (r : Rc) (w : World) : Calls Try.prog 39 #[ptr b, r.v] w fun e w' => e = .returned (.func (.func 47) #[] #[.pointer (some ⟨w.heap.size + 1, 0, none⟩), .pointer (some ⟨w.heap.size, 0, none⟩)]) ∧
    w' = (w.alloc (.cells #[ptr b] 25)).alloc (.cells #[.int .i64 r.x, .int .i64 r.y, .int .i64 r.w, .int .i64 r.h] 35) := by
  obtain ⟨rx, ry, rw', rh⟩ := r
  unfold Rc.v ptr
  simp only
  go_enter Try.func39, Try.ntmps39
  go_wp2_with fail
  go_ret
  exact ⟨rfl, rfl⟩
theorem rows_stops (n : Nat) (hn : 1 ≤ n) (Br Bs b g : Nat) (W0 H0 : Int) (L : List Int) (ok : ImOk W0 H0 L) (r : Rc) (hr : insB r W0 H0 = true) (N : Nat) (hN : r.h = N) (M : Nat) (hM : L.length = M) (w : World) (hC : Caps w Br Bs b W0 H0 r g M) (hlt : ∀ k ∈ [Br, Bs, b], k < w.heap.size) :
    SeqStopsK Fence.wide n Try.prog 47 #[.pointer (some ⟨Br, 0, none⟩), .pointer (some ⟨Bs, 0, none⟩)] (rowE g M W0 r (N := N)) (Same [Br, Bs, b]) (fun ys => ys = List.finRange N) (fun _ => True) N w :=
  fun l J Jx W hW hJ hJx hY h0 => rows1_in n hn l Br Bs b g W0 H0 L ok r hr N hN M hM J Jx _ hJ hY W (hC.same (fun k hk => hW.block k (hlt k hk))) h0
/-- The colours when some of the rows have been drawn. -/
def mixR (W : Int) (r : Rc) (q l : List Int) (ks : List Nat) : List Int := gen l.length (fun i => if inB r (i % W) (i / W) = true ∧ ((i : Int) / W - r.y).toNat ∈ ks then px q ((i / W - r.y) * r.w + i % W - r.x).toNat else px l i)
theorem mixR_length (W : Int) (r : Rc) (q l : List Int) (ks : List Nat) : (mixR W r q l ks).length = l.length := gen_length _ _
theorem mixR_nil (W : Int) (r : Rc) (q l : List Int) : mixR W r q l [] = l := by
  unfold mixR
  refine (gen_congr (fun i hi => ?_)).trans (gen_px l)
  rw [if_neg (by simp)]
theorem mixR_all {W : Int} {r : Rc} {q l : List Int} {N : Nat} (hN : r.h = N) : mixR W r q l ((List.finRange N).map (·.1)) = blitL W r q l := by
  unfold mixR blitL
  refine gen_congr (fun i hi => ?_)
  unfold blitF
  by_cases h : inB r (i % W) (i / W) = true
  · have hb := in_iff.1 h
    rw [if_pos h, if_pos ⟨h, List.mem_map.2 ⟨⟨((i : Int) / W - r.y).toNat, by omega⟩, List.mem_finRange _, rfl⟩⟩]
  · rw [if_neg h, if_neg (fun e => h e.1)]
/-- Where the places of one row of a rectangle are. -/
theorem row_at {W H : Int} {l : List Int} (ok : ImOk W H l) {r : Rc} (hr : insB r W H = true) {k : Nat} (hk : (k : Int) < r.h) (i : Nat) :
    (rowO W r k ≤ i ∧ i < rowO W r k + r.w.toNat) ↔ (inB r (i % W) (i / W) = true ∧ ((i : Int) / W - r.y).toNat = k) := by
  have hw := ok.w
  have hrr := ins_iff.1 hr
  obtain ⟨e1, _, e3, _⟩ := rowO_in ok hr hk
  rw [in_iff]
  constructor
  · rintro ⟨h1, h2⟩
    obtain ⟨t, ht⟩ : ∃ t : Int, (i : Int) = (r.y + k) * W + t := ⟨i - (r.y + k) * W, by omega⟩
    have ht0 : 0 ≤ t ∧ t < W := by omega
    have d1 : (i : Int) / W = r.y + k := by rw [ht, Int.add_comm, Int.add_mul_ediv_right _ _ (by omega), Int.ediv_eq_zero_of_lt ht0.1 ht0.2, Int.zero_add]
    have d2 : (i : Int) % W = t := by rw [ht, Int.add_comm, Int.add_mul_emod_self_right, Int.emod_eq_of_lt ht0.1 ht0.2]
    rw [d1, d2]
    omega
  · rintro ⟨⟨h1, h2, h3, h4⟩, h5⟩
    have d := Int.emod_add_mul_ediv (i : Int) W
    have hq : (i : Int) / W = r.y + k := by omega
    rw [hq, Int.mul_comm] at d
    omega
theorem mixR_step {W H : Int} {l : List Int} (ok : ImOk W H l) {r : Rc} (hr : insB r W H = true) {k : Nat} (hk : (k : Int) < r.h) (q : List Int) (ks : List Nat) (n m : Nat) (hn : l.length = n) (hm : r.w = m) (Q : Nat → Int) (hQ : ∀ j, j < m → Q j = px q (k * m + j)) :
    mixL n (rowO W r k) m Q (mixR W r q l ks) = mixR W r q l (ks ++ [k]) := by
  have ra := row_at ok hr hk
  obtain ⟨e1, _, e3, _⟩ := rowO_in ok hr hk
  have hrr := ins_iff.1 hr
  have hw := ok.w
  subst hn
  unfold mixL
  rw [show (mixR W r q l (ks ++ [k])) = gen l.length (px (mixR W r q l (ks ++ [k]))) by
    have := (gen_px (mixR W r q l (ks ++ [k]))).symm
    rwa [mixR_length] at this]
  refine gen_congr (fun i hi => ?_)
  have ra := ra i
  rw [hm, Int.toNat_natCast] at ra
  unfold mixR
  rw [px_gen hi, px_gen hi]
  by_cases hc : rowO W r k ≤ i ∧ i < rowO W r k + m
  · obtain ⟨h1, h2⟩ := ra.1 hc
    rw [if_pos hc, if_pos ⟨h1, by rw [h2]; simp⟩, hQ _ (by omega)]
    have hb := in_iff.1 h1
    have d := Int.emod_add_mul_ediv (i : Int) W
    have hq : (i : Int) / W = r.y + k := by omega
    rw [hq, Int.mul_comm] at d
    rw [hq]
    congr 1
    have e : (r.y + k - r.y) * r.w = ((k * m : Nat) : Int) := by rw [hm, Int.natCast_mul]; congr 1; omega
    rw [e]
    omega
  · rw [if_neg hc]
    have hne : ¬ (inB r (i % W) (i / W) = true ∧ ((i : Int) / W - r.y).toNat = k) := fun e => hc (ra.2 e)
    by_cases h1 : inB r (i % W) (i / W) = true ∧ ((i : Int) / W - r.y).toNat ∈ ks
    · rw [if_pos h1, if_pos ⟨h1.1, by simp [h1.2]⟩]
    · rw [if_neg h1, if_neg (fun e => by
        rcases List.mem_append.1 e.2 with h2 | h2
        · exact h1 ⟨e.1, h2⟩
        · exact hne ⟨e.1, by simpa using h2⟩)]
end Go.Proofs.Ytlamdgdegmjljaa.Scr
