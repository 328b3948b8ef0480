/-
  Contracts of the reference of layer 15 (region): which places are in a set.
-/
import Derived.Test.YtedlhfemmofbpaaRegRefA
namespace Go.Proofs.Ytedlhfemmofbpaa.Reg
open Go.ChangeShapes Go.WideShapes Go.ChangeAt Go.RowKit Lz RowG
set_option linter.unusedVariables false
set_option maxRecDepth 100000

theorem hasL_take {l : List Rc} {k : Nat} (hk : k < l.length) (x y : Int) : hasL (l.take (k + 1)) x y = (hasL (l.take k) x y || inR l[k] x y) := by
  rw [List.take_succ_eq_append_getElem hk, hasL_append]
  simp [hasL]
theorem hasL_of_take {l : List Rc} {k : Nat} {x y : Int} (h : hasL (l.take k) x y = true) : hasL l x y = true := by
  unfold hasL at *
  rw [List.any_eq_true] at *
  obtain ⟨r, hr, h1⟩ := h
  exact ⟨r, List.mem_of_mem_take hr, h1⟩
theorem inR_eq (r : Rc) (x y : Int) : inR r x y = (counts r && (decide (r.x ≤ x) && (decide (x < r.x + r.w) && (decide (r.y ≤ y) && decide (y < r.y + r.h))))) := by
  rw [Bool.eq_iff_iff, inR_iff]
  simp only [Bool.and_eq_true, decide_eq_true_eq]
set_option maxHeartbeats 4000000 in
theorem refHas_any (l : List Rc) (v : Value) (x y : Int) (w : World) (hl : l.length ≤ 1000000000) (h : SeesR w v l) :
    Calls Try.prog 22 #[v, .int .i64 x, .int .i64 y] w fun e w' => e = .returned (.bool (hasL l x y)) ∧ Below w.heap.size w w' := by
  obtain ⟨a, cap, rfl, hn, hs⟩ := h
  obtain ⟨n, hlen⟩ : ∃ n, l.length = n := ⟨_, rfl⟩
  have HT : RowKit.Hid (∀ k r, l[k]? = some r → hasL (l.take (k + 1)) x y = (hasL (l.take k) x y || inR r x y)) := Lib.hid (fun k r hr => by
    obtain ⟨hk, rfl⟩ := List.getElem?_eq_some_iff.1 hr
    exact hasL_take hk x y)
  have HR : RowKit.Hid (∀ k, k < n → ∃ r, l[k]? = some r) := Lib.hid (fun k hk => ⟨l[k]'(by omega), List.getElem?_eq_getElem (by omega)⟩)
  have HE : RowKit.Hid (hasL (l.take n) x y = hasL l x y) := Lib.hid (by rw [List.take_of_length_le (by omega)])
  have HO : RowKit.Hid (∀ k, hasL (l.take k) x y = true → hasL l x y = true) := Lib.hid (fun k => hasL_of_take)
  have HS := Lib.hid hs
  have HL := Lib.hid hlen
  rw [hlen] at hl ⊢
  clear hs hn hlen
  generalize hasL l x y = R at *
  go_enter Try.func22, Try.ntmps22
  go_wp2_with fail
  go_loopw [7] (fun i wr => ∃ k : Nat, k ≤ n ∧ i = .int .i64 k ∧ RowKit.Hid (hasL (l.take k) x y = false) ∧ Below w.heap.size w wr) (fun i _ => n - (intOf i).toNat)
  case atStart => exact ⟨0, Nat.zero_le _, rfl, rfl, Below.refl _ _⟩
  case round =>
    obtain ⟨k, hk, rfl, hno, hbr⟩ := hrel
    by_cases hlt : k < n
    · obtain ⟨b, off, rfl, hb, hc⟩ := HS.out.below hbr (Nat.le_refl _) (by rw [HL.out]; omega)
      obtain ⟨r, hr⟩ := HR.out k hlt
      obtain ⟨q0, q1, q2, q3⟩ : RcAt wr b (off + k * 4) r := by
        obtain ⟨hk', rfl⟩ := List.getElem?_eq_some_iff.1 hr
        exact hc k hk'
      have hT := Lib.hid (HT.out k r hr)
      have hI := Lib.hid (inR_eq r x y)
      have C := Lib.hid (fun w => refCounts_any r w)
      have HCI : RowKit.Hid (counts r = true → _) := Lib.hid (fun h => counts_iff.1 h)
      have AT := box4 wr r 32
      have B2 := Lib.hid hbr
      clear hr
      obtain ⟨rx, ry, ru, rv⟩ := r
      unfold Rc.v at C
      simp only at q0 q1 q2 q3 C hI AT HCI
      have bel := hbr.alloc hbr.size (.cells #[.int .i64 rx, .int .i64 ry, .int .i64 ru, .int .i64 rv] 32)
      have z := alloc_size wr (.cells #[.int .i64 rx, .int .i64 ry, .int .i64 ru, .int .i64 rv] 32)
      have K := Lib.hid (fun W' (h : Below (wr.alloc (.cells #[.int .i64 rx, .int .i64 ry, .int .i64 ru, .int .i64 rv] 32)).heap.size (wr.alloc (.cells #[.int .i64 rx, .int .i64 ry, .int .i64 ru, .int .i64 rv] 32)) W') => AT.below h (by rw [z]; omega))
      clear hc hbr AT z
      obtain ⟨c0, c1, c2, c3⟩ := K.out _ (Below.refl _ _)
      simp only [Nat.zero_add] at c0 c1 c2 c3
      go_wp2_with fail
      generalize wr.alloc (.cells #[.int .i64 rx, .int .i64 ry, .int .i64 ru, .int .i64 rv] 32) = w1 at *
      refine (C.out _).mono ?_
      rintro r w3 ⟨rfl, b3⟩
      obtain ⟨c0, c1, c2, c3⟩ := K.out _ b3
      simp only [Nat.zero_add] at c0 c1 c2 c3
      have b3 := bel.trans (b3.mono bel.size)
      clear C K bel q0 q1 q2 q3 hb
      generalize counts ⟨rx, ry, ru, rv⟩ = CO at *
      cases CO with
      | false =>
        clear HCI
        go_wp2_with fail
        exact ⟨⟨k + 1, by omega, by go_num, Lib.hid (by rw [hT.out, hno.out, hI.out]; simp), b3⟩, by simp [intOf]; omega⟩
      | true =>
        have hci := HCI.out (by simp)
        have w1' : IntKind.i64.wrap (rx + ru) = rx + ru := IntWalk.i64_in _ (by omega)
        have w2' : IntKind.i64.wrap (ry + rv) = ry + rv := IntWalk.i64_in _ (by omega)
        clear HCI hci
        by_cases h1 : rx ≤ x
        · have d1 : decide (rx ≤ x) = true := decide_eq_true h1
          by_cases h2 : x < rx + ru
          · have d2 : decide (x < rx + ru) = true := decide_eq_true h2
            by_cases h3 : ry ≤ y
            · have d3 : decide (ry ≤ y) = true := decide_eq_true h3
              by_cases h4 : y < ry + rv
              · have d4 : decide (y < ry + rv) = true := decide_eq_true h4
                have hR : R = true := HO.out (k + 1) (by rw [hT.out, hno.out, hI.out, d1, d2, d3, d4]; rfl)
                clear hT hI HO HT
                go_wp2_with fail
                go_ret
                exact ⟨retB hR.symm, b3⟩
              · have d4 : decide (y < ry + rv) = false := decide_eq_false h4
                go_wp2_with fail
                exact ⟨⟨k + 1, by omega, by go_num, Lib.hid (by rw [hT.out, hno.out, hI.out, d4]; simp), b3⟩, by simp [intOf]; omega⟩
            · have d3 : decide (ry ≤ y) = false := decide_eq_false h3
              go_wp2_with fail
              exact ⟨⟨k + 1, by omega, by go_num, Lib.hid (by rw [hT.out, hno.out, hI.out, d3]; simp), b3⟩, by simp [intOf]; omega⟩
          · have d2 : decide (x < rx + ru) = false := decide_eq_false h2
            go_wp2_with fail
            exact ⟨⟨k + 1, by omega, by go_num, Lib.hid (by rw [hT.out, hno.out, hI.out, d2]; simp), b3⟩, by simp [intOf]; omega⟩
        · have d1 : decide (rx ≤ x) = false := decide_eq_false h1
          go_wp2_with fail
          exact ⟨⟨k + 1, by omega, by go_num, Lib.hid (by rw [hT.out, hno.out, hI.out, d1]; simp), b3⟩, by simp [intOf]; omega⟩
    · obtain rfl : k = n := by omega
      have hR : R = false := by rw [← HE.out]; exact hno.out
      have B2 := Lib.hid hbr
      clear hbr
      go_wp2_with fail
      go_ret
      exact ⟨retB hR.symm, B2.out⟩
end Go.Proofs.Ytedlhfemmofbpaa.Reg
