/-
  Contracts of adler.Sum, adler.Join and of the reference's More and Join; the document's examples.
-/
import Derived.Test.YthfehckdlogbaaaAdlBase
namespace Go.Proofs.Ythfehckdlogbaaa.Adl
open Go.ChangeShapes Go.WideShapes Go.ChangeAt Go.RowKit
set_option linter.unusedVariables false

set_option maxHeartbeats 1000000 in
theorem refMore_any (s : Int) (t : ByteArray) (w : World) (ht : t.size ≤ 1000000) :
    Calls Try.prog 9 #[.int .i64 s, .string t] w fun e w' => e = .returned (.int .i64 (moreV s t.data.toList)) ∧ w = w' := by
  unfold moreV
  have l0 := lo_bd s
  have h0 := hi_bd s
  have hh := low_any s w
  have hh2 := high_any s w
  generalize lo s = a at *
  generalize hi s = b at *
  have HH := Lib.hid hh
  have HH2 := Lib.hid hh2
  clear hh hh2
  go_enter Try.func9, Try.ntmps9
  go_wp2_with fail
  refine HH.out.mono ?_
  rintro r w' ⟨rfl, rfl⟩
  go_wp2_with fail
  refine HH2.out.mono ?_
  rintro r w' ⟨rfl, rfl⟩
  go_wp2_with fail
  go_loop [5, 6, 7] (fun x y i => ∃ k : Nat, k ≤ t.size ∧ i = .int .i64 k ∧ x = .int .i64 (adA a (t.data.toList.take k)) ∧ y = .int .i64 (adB a b (t.data.toList.take k))) (fun _ _ i => t.size - (intOf i).toNat)
  case atStart => exact ⟨0, Nat.zero_le _, rfl, rfl, rfl⟩
  case round =>
    obtain ⟨k, hk, rfl, rfl, rfl⟩ := hrel
    have ba := adA_bd (t.data.toList.take k) a l0.1 l0.2
    have bb := adB_bd (t.data.toList.take k) a b h0.1 h0.2
    by_cases hlt : k < t.size
    · have e1 := Lib.hid (adA_step a t.data.toList k (by simpa using hlt) t[k] (by simp; rfl))
      have e2 := Lib.hid (adB_step a b t.data.toList k (by simpa using hlt))
      generalize adA a (t.data.toList.take k) = A at *
      generalize adB a b (t.data.toList.take k) = B at *
      go_wp2_with fail
      refine ⟨⟨k + 1, by omega, by go_num, ?_, ?_⟩, ?_⟩
      · rw [e1.out, ← stepA A t[k] ba.1 ba.2]
      · rw [e2.out, e1.out, ← stepB _ B (Int.emod_nonneg _ (by decide)) (by omega) bb.1 bb.2, ← stepA A t[k] ba.1 ba.2]
      · simp [intOf]; omega
    · obtain rfl : k = t.size := by omega
      have e : t.data.toList.take t.size = t.data.toList := List.take_of_length_le (by simp)
      rw [e] at ba bb ⊢
      go_wp2_with fail
      go_ret
      exact ⟨rfl, rfl⟩

/-- The sum of parts. -/
def sumV (ts : List ByteArray) : Int := ts.foldl (fun s t => moreV s t.data.toList) 1

theorem sumV_step (ts : List ByteArray) (k : Nat) (h : k < ts.length) : sumV (ts.take (k + 1)) = moreV (sumV (ts.take k)) ts[k].data.toList := by
  unfold sumV
  rw [List.take_succ_eq_append_getElem h, List.foldl_append]; rfl

set_option maxHeartbeats 1000000 in
theorem sum_any (ts : List ByteArray) (a : Addr) (n c : Nat) (w : World) (hn : ts.length = n) (hl : n ≤ 1000) (hc : ∀ j (h : j < ts.length), w.cell? (a.add j) = some (.string ts[j])) (hz : ∀ t ∈ ts, t.size ≤ 1000000) :
    Calls Try.prog 10 #[.slice (some a) n c] w fun e w' => e = .returned (.int .i64 (sumV ts)) ∧ w = w' := by
  have HC := Lib.hid hc
  clear hc
  go_enter Try.func10, Try.ntmps10
  go_wp2_with fail
  go_loop [3, 8] (fun x i => ∃ k : Nat, k ≤ n ∧ i = .int .i64 k ∧ x = .int .i64 (sumV (ts.take k))) (fun _ i => n - (intOf i).toNat)
  case atStart => exact ⟨0, Nat.zero_le _, rfl, rfl⟩
  case round =>
    obtain ⟨k, hk, rfl, rfl⟩ := hrel
    by_cases hlt : k < n
    · have hcc := HC.out k (by omega)
      have hzz := hz ts[k] (List.getElem_mem _)
      have e1 := Lib.hid (sumV_step ts k (by omega))
      generalize sumV (ts.take k) = A at *
      generalize ts[k] = t at *
      go_wp2_with fail
      refine (more_any _ _ _ hzz).mono ?_
      rintro r w' ⟨rfl, rfl⟩
      go_wp2_with fail
      refine ⟨⟨k + 1, by omega, by go_num, ?_⟩, ?_⟩
      · rw [e1.out]
      · simp [intOf]; omega
    · obtain rfl : k = n := by omega
      go_wp2_with fail
      go_ret
      exact ⟨by rw [List.take_of_length_le (by omega)]; rfl, rfl⟩

theorem sum_nil (w : World) :
    Calls Try.prog 10 #[.slice none 0 0] w fun e w' => e = .returned (.int .i64 1) ∧ w = w' := by
  go_enter Try.func10, Try.ntmps10
  go_wp2_with fail
  refine wp_loop_rounds 1 ?_
  rw [rounds_succ]
  go_wp2_with fail
  go_ret
  exact ⟨rfl, rfl⟩

theorem joinV_bd (n l h1 h2 : Int) (a0 : 0 ≤ l) (a1 : l < 65536) (c0 : 0 ≤ h1) (c1 : h1 < 65536) (d0 : 0 ≤ h2) (d1 : h2 < 65536) :
    let m := (max n 0) % 65521
    0 ≤ m ∧ m < 65521 ∧ 0 ≤ m * (l + 65520) ∧ m * (l + 65520) < 65521 * 131056 := by
  have h0 : 0 ≤ (max n 0) % 65521 := Int.emod_nonneg _ (by decide)
  have h3 : (max n 0) % 65521 < 65521 := Int.emod_lt_of_pos _ (by decide)
  refine ⟨h0, h3, Int.mul_nonneg h0 (by omega), ?_⟩
  exact Int.lt_of_le_of_lt (Int.mul_le_mul (Int.le_of_lt h3) (show l + 65520 ≤ 131055 by omega) (by omega) (by decide)) (by decide)

theorem max_if (n : Int) : (if n < 0 then (0 : Int) else n) = max n 0 := by split <;> omega

set_option maxHeartbeats 1000000 in
theorem join_any (a b n : Int) (w : World) :
    Calls Try.prog 11 #[.int .i64 a, .int .i64 b, .int .i64 n] w fun e w' => e = .returned (.int .i64 (joinV a b n)) ∧ w = w' := by
  unfold joinV
  have la := lo_bd a
  have ha := hi_bd a
  have lb := lo_bd b
  have hb := hi_bd b
  have bd := joinV_bd n (lo a) (hi a) (hi b) la.1 la.2 ha.1 ha.2 hb.1 hb.2
  have hm := max_if n
  have hh := halves_any a w
  have hh2 := halves_any b w
  generalize lo a = x at *
  generalize hi a = y at *
  generalize lo b = x2 at *
  generalize hi b = y2 at *
  have m0 : 0 ≤ max n 0 := by omega
  generalize max n 0 = m at *
  have hmod : m.tmod 65521 = m % 65521 := Int.tmod_eq_emod_of_nonneg m0
  generalize m % 65521 = q at *
  obtain ⟨q0, q1, q2, q3⟩ := bd
  have e1 : (wrap64 (y + y2 + wrap64 (q * (x + 65521 - 1)))).tmod 65521 = (y + y2 + q * (x + 65520)) % 65521 := by
    rw [show x + 65521 - 1 = x + 65520 by omega]
    generalize q * (x + 65520) = p at *
    rw [IntWalk.wrap64_in p (by omega), IntWalk.wrap64_in _ (by omega), Int.tmod_eq_emod_of_nonneg (by omega)]
  have e2 : x + 65521 - 1 + x2 = x + 65520 + x2 := by omega
  obtain ⟨P, hP⟩ : ∃ P, (y + y2 + q * (x + 65520)) % 65521 = P := ⟨_, rfl⟩
  have p0 : 0 ≤ P := by rw [← hP]; exact Int.emod_nonneg _ (by decide)
  have p1 : P < 65521 := by rw [← hP]; exact Int.emod_lt_of_pos _ (by decide)
  rw [hP] at e1 ⊢
  clear hP
  have E1 := Lib.hid e1
  have E2 := Lib.hid e2
  clear e1 e2 q2 q3
  have HH := Lib.hid hh
  have HH2 := Lib.hid hh2
  clear hh hh2
  go_enter Try.func11, Try.ntmps11
  go_wp2_with fail
  refine HH.out.mono ?_
  rintro r w' ⟨rfl, rfl⟩
  go_wp2_with fail
  refine HH2.out.mono ?_
  rintro r w' ⟨rfl, rfl⟩
  go_wp2_with fail
  rw [E1.out, E2.out]
  refine (whole_any _ _ _ (by omega) (by omega) (by omega) (by omega)).mono ?_
  rintro r w' ⟨rfl, rfl⟩
  go_wp2_with fail
  go_ret
  exact ⟨rfl, rfl⟩

set_option maxHeartbeats 1000000 in
theorem refJoin_any (a b n : Int) (w : World) :
    Calls Try.prog 12 #[.int .i64 a, .int .i64 b, .int .i64 n] w fun e w' => e = .returned (.int .i64 (joinV a b n)) ∧ w = w' := by
  unfold joinV
  have la := lo_bd a
  have ha := hi_bd a
  have lb := lo_bd b
  have hb := hi_bd b
  have bd := joinV_bd n (lo a) (hi a) (hi b) la.1 la.2 ha.1 ha.2 hb.1 hb.2
  have hm := max_if n
  have h1 := low_any a w
  have h2 := low_any b w
  have h3 := high_any a w
  have h4 := high_any b w
  generalize lo a = x at *
  generalize hi a = y at *
  generalize lo b = x2 at *
  generalize hi b = y2 at *
  have m0 : 0 ≤ max n 0 := by omega
  generalize max n 0 = m at *
  have hmod : m.tmod 65521 = m % 65521 := Int.tmod_eq_emod_of_nonneg m0
  generalize m % 65521 = q at *
  obtain ⟨q0, q1, q2, q3⟩ := bd
  have e1 : (wrap64 (y + y2 + wrap64 (q * (x + 65521 - 1)))).tmod 65521 = (y + y2 + q * (x + 65520)) % 65521 := by
    rw [show x + 65521 - 1 = x + 65520 by omega]
    generalize q * (x + 65520) = p at *
    rw [IntWalk.wrap64_in p (by omega), IntWalk.wrap64_in _ (by omega), Int.tmod_eq_emod_of_nonneg (by omega)]
  have e2 : x + x2 + 65521 - 1 = x + 65520 + x2 := by omega
  obtain ⟨P, hP⟩ : ∃ P, (y + y2 + q * (x + 65520)) % 65521 = P := ⟨_, rfl⟩
  have p0 : 0 ≤ P := by rw [← hP]; exact Int.emod_nonneg _ (by decide)
  have p1 : P < 65521 := by rw [← hP]; exact Int.emod_lt_of_pos _ (by decide)
  rw [hP] at e1 ⊢
  have E2 := Lib.hid e2
  clear q2 q3 hP e2
  have H1 := Lib.hid h1
  have H2 := Lib.hid h2
  have H3 := Lib.hid h3
  have H4 := Lib.hid h4
  clear h1 h2 h3 h4
  go_enter Try.func12, Try.ntmps12
  go_wp2_with fail
  refine H1.out.mono ?_
  rintro r w' ⟨rfl, rfl⟩
  go_wp2_with fail
  refine H2.out.mono ?_
  rintro r w' ⟨rfl, rfl⟩
  go_wp2_with fail
  refine H3.out.mono ?_
  rintro r w' ⟨rfl, rfl⟩
  go_wp2_with fail
  refine H4.out.mono ?_
  rintro r w' ⟨rfl, rfl⟩
  go_wp2_with fail
  refine H1.out.mono ?_
  rintro r w' ⟨rfl, rfl⟩
  go_wp2_with fail
  go_ret
  refine ⟨?_, rfl⟩
  rw [← E2.out]
  rfl

theorem sum_new (ts : List ByteArray) (n : Nat) (T : TypeId) (w : World) (hn : ts.length = n) (hl : n ≤ 1000) (hz : ∀ t ∈ ts, t.size ≤ 1000000) (o : Array Value) (ho : o = (ts.map Value.string).toArray) :
    Calls Try.prog 10 #[.slice (some ⟨w.heap.size, 0, none⟩) n n] (w.alloc (.cells o T)) fun e w' => e = .returned (.int .i64 (sumV ts)) ∧ w.alloc (.cells o T) = w' := by
  subst ho
  refine sum_any ts _ n n _ hn hl ?_ hz
  intro j h
  have e : (⟨w.heap.size, 0, none⟩ : Addr).add j = ⟨w.heap.size, j, none⟩ := by
    unfold Addr.add
    split
    · next h => simp_all
    · simp
  rw [e]
  have hb : (w.alloc (.cells (ts.map Value.string).toArray T)).heap[w.heap.size]? = some (.cells (ts.map Value.string).toArray T (0, 0)) := heap_alloc_new _ _
  unfold World.cell?
  rw [hb]
  simp [h]

theorem v_works : sumV [⟨#[87, 105, 107, 105]⟩, ⟨#[112, 101, 100, 105, 97]⟩] = 300286872 := by decide +kernel

theorem works_any (w : World) :
    Calls Try.prog 7 #[] w fun e w' => e = .returned (.bool true) ∧ Below w.heap.size w w' := by
  go_enter Try.func7, Try.ntmps7
  go_wp2_with fail
  refine (sum_nil _).mono ?_
  rintro r w' ⟨rfl, rfl⟩
  go_wp2_with fail
  refine (sum_new [⟨#[87, 105, 107, 105]⟩, ⟨#[112, 101, 100, 105, 97]⟩] 2 _ _ rfl (by decide) (by decide) _ rfl).mono ?_
  rintro r w' ⟨rfl, rfl⟩
  rw [v_works]
  go_wp2_with fail
  go_ret
  exact ⟨rfl, (Below.refl _ _).alloc (Nat.le_refl _) _⟩

end Go.Proofs.Ythfehckdlogbaaa.Adl
