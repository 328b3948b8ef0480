/-
  Contracts of the reference of layer 15 (region): are two rows the same, or two bands?
-/
import Derived.Test.YtedlhfemmofbpaaRegRefB
import Derived.BigQuiet
import Derived.BigGuardPart
namespace Go.Proofs.Ytedlhfemmofbpaa.Reg
open Go.ChangeShapes Go.WideShapes Go.ChangeAt Go.RowKit Lz RowG RegVal
set_option linter.unusedVariables false
set_option maxRecDepth 100000

instance : DecidableEq Rc := fun r s => decidable_of_iff (r.x = s.x ∧ r.y = s.y ∧ r.w = s.w ∧ r.h = s.h) ⟨fun h => Rc.eq h.1 h.2.1 h.2.2.1 h.2.2.2, fun h => by rw [h]; exact ⟨rfl, rfl, rfl, rfl⟩⟩
theorem SeesR.drewN {w : World} {v : Value} {l : List Rc} (h : SeesR w v l) (n : Nat) : SeesR (w.drewN n) v l := h
theorem take_eq_succ {α : Type} {a b : List α} {k : Nat} {x y : α} (h : a.take k = b.take k) (hx : a[k]? = some x) (hy : b[k]? = some y) : (a.take (k + 1) = b.take (k + 1) ↔ x = y) := by
  obtain ⟨ha, rfl⟩ := List.getElem?_eq_some_iff.1 hx
  obtain ⟨hb, rfl⟩ := List.getElem?_eq_some_iff.1 hy
  rw [List.take_succ_eq_append_getElem ha, List.take_succ_eq_append_getElem hb, h]
  constructor
  · intro h
    have := List.append_cancel_left h
    simpa using this
  · intro h
    rw [h]
theorem drewN_two (w : World) (p q : Nat) : (w.drewN p).drewN q = w.drewN (p + q) := by
  unfold World.drewN
  simp [Nat.add_assoc]
set_option maxHeartbeats 4000000 in
theorem refSame_any (a b : List Rc) (va vb : Value) (w : World) (hla : a.length ≤ 1000000000) (hlb : b.length ≤ 1000000000) (ha : SeesR w va a) (hb : SeesR w vb b) :
    Calls Try.prog 11 #[va, vb] w fun e w' => e = .returned (.bool (decide (a = b))) ∧ ∃ m, w' = w.drewN m := by
  obtain ⟨aa, ca, rfl, hna, hsa⟩ := ha
  obtain ⟨ab, cb, rfl, hnb, hsb⟩ := hb
  obtain ⟨n, hlen⟩ : ∃ n, a.length = n := ⟨_, rfl⟩
  obtain ⟨m, hlen2⟩ : ∃ m, b.length = m := ⟨_, rfl⟩
  by_cases hnm : n = m
  · subst hnm
    have HA := Lib.hid hsa
    have HBb := Lib.hid hsb
    have HRA : RowKit.Hid (∀ k, k < n → ∃ r, a[k]? = some r) := Lib.hid (fun k hk => ⟨a[k]'(by omega), List.getElem?_eq_getElem (by omega)⟩)
    have HRB : RowKit.Hid (∀ k, k < n → ∃ r, b[k]? = some r) := Lib.hid (fun k hk => ⟨b[k]'(by omega), List.getElem?_eq_getElem (by omega)⟩)
    have HTS : RowKit.Hid (∀ k x y, a.take k = b.take k → a[k]? = some x → b[k]? = some y → (a.take (k + 1) = b.take (k + 1) ↔ x = y)) := Lib.hid (fun k x y h hx hy => take_eq_succ h hx hy)
    have HNO : RowKit.Hid (∀ k, a.take k ≠ b.take k → a ≠ b) := Lib.hid (fun k h e => h (by rw [e]))
    have HYES : RowKit.Hid (a.take n = b.take n → a = b) := Lib.hid (fun h => by rw [← List.take_of_length_le (show a.length ≤ n by omega), h, List.take_of_length_le (by omega)])
    have HLa := Lib.hid hlen
    have HLb := Lib.hid hlen2
    rw [hlen] at hla ⊢
    rw [hlen2]
    clear hsa hsb hna hnb hlen hlen2 hlb
    go_enter Try.func11, Try.ntmps11
    go_wp2_with fail
    go_loopw [5] (fun i wr => ∃ k : Nat, k ≤ n ∧ i = .int .i64 k ∧ RowKit.Hid (a.take k = b.take k) ∧ ∃ q, wr = w.drewN q) (fun i _ => n - (intOf i).toNat)
    case atStart => exact ⟨0, Nat.zero_le _, rfl, rfl, 0, rfl⟩
    case round =>
      obtain ⟨k, hk, rfl, hT, q, rfl⟩ := hrel
      by_cases hlt : k < n
      · obtain ⟨g, og, rfl, hg, hcg⟩ := HA.out (by rw [HLa.out]; omega)
        obtain ⟨p, op, rfl, hp, hcp⟩ := HBb.out (by rw [HLb.out]; omega)
        obtain ⟨r, hr⟩ := HRA.out k hlt
        obtain ⟨s, hs⟩ := HRB.out k hlt
        obtain ⟨c0, c1, c2, c3⟩ : RcAt (w.drewN q) g (og + k * 4) r := by
          obtain ⟨hk', rfl⟩ := List.getElem?_eq_some_iff.1 hr
          exact hcg k hk'
        obtain ⟨e0, e1, e2, e3⟩ : RcAt (w.drewN q) p (op + k * 4) s := by
          obtain ⟨hk', rfl⟩ := List.getElem?_eq_some_iff.1 hs
          exact hcp k hk'
        have hts := HTS.out k r s hT.out hr hs
        clear hcg hcp hr hs HA HBb HRA HRB
        obtain ⟨wr, hwr⟩ : ∃ wr, w.drewN q = wr := ⟨_, rfl⟩
        rw [hwr] at c0 c1 c2 c3 e0 e1 e2 e3 ⊢
        have HW := Lib.hid hwr
        by_cases hrs : r = s
        · have HT2 := Lib.hid (hts.2 hrs)
          subst hrs
          clear hts hwr
          go_wp2_with fail
          go_quiet (fail)
          go_wp2_with fail
          exact ⟨⟨k + 1, by omega, by go_num, HT2, by rw [← HW.out]; exact ⟨_, drewN_two _ _ _⟩⟩, by simp [intOf]; omega⟩
        · have HNN : RowKit.Hid (a ≠ b) := Lib.hid (HNO.out (k + 1) fun h => hrs (hts.1 h))
          clear hts hwr HTS HNO HYES
          obtain ⟨rx, ry, ru, rv⟩ := r
          obtain ⟨sx, sy, su, sv⟩ := s
          simp only at c0 c1 c2 c3 e0 e1 e2 e3
          have hz : sx ≠ rx ∨ (sx = rx ∧ sy ≠ ry) ∨ (sx = rx ∧ sy = ry ∧ su ≠ ru) ∨ (sx = rx ∧ sy = ry ∧ su = ru ∧ sv ≠ rv) := by
            by_cases z0 : sx = rx
            · by_cases z1 : sy = ry
              · by_cases z2 : su = ru
                · exact .inr (.inr (.inr ⟨z0, z1, z2, fun z3 => hrs (by rw [z0, z1, z2, z3])⟩))
                · exact .inr (.inr (.inl ⟨z0, z1, z2⟩))
              · exact .inr (.inl ⟨z0, z1⟩)
            · exact .inl z0
          clear hrs
          rcases hz with z0 | ⟨rfl, z0⟩ | ⟨rfl, rfl, z0⟩ | ⟨rfl, rfl, rfl, z0⟩
          · have g1 : (rx == sx) = false := by simpa using fun e => z0 e.symm
            clear z0
            go_wp2_with fail
            go_quiet (fail)
            go_wp2_with fail
            go_ret
            exact ⟨retB (decide_eq_false HNN.out).symm, by rw [← HW.out]; exact ⟨_, drewN_two _ _ _⟩⟩
          · have g1 : (ry == sy) = false := by simpa using fun e => z0 e.symm
            clear z0
            go_wp2_with fail
            go_quiet (fail)
            go_wp2_with fail
            go_ret
            exact ⟨retB (decide_eq_false HNN.out).symm, by rw [← HW.out]; exact ⟨_, drewN_two _ _ _⟩⟩
          · have g1 : (ru == su) = false := by simpa using fun e => z0 e.symm
            clear z0
            go_wp2_with fail
            go_quiet (fail)
            go_wp2_with fail
            go_ret
            exact ⟨retB (decide_eq_false HNN.out).symm, by rw [← HW.out]; exact ⟨_, drewN_two _ _ _⟩⟩
          · have g1 : (rv == sv) = false := by simpa using fun e => z0 e.symm
            clear z0
            go_wp2_with fail
            go_quiet (fail)
            go_wp2_with fail
            go_ret
            exact ⟨retB (decide_eq_false HNN.out).symm, by rw [← HW.out]; exact ⟨_, drewN_two _ _ _⟩⟩
      · obtain rfl : k = n := by omega
        have e := Lib.hid (HYES.out hT.out)
        go_wp2_with fail
        go_ret
        exact ⟨retB (decide_eq_true e.out).symm, q, rfl⟩
  · have hne : a ≠ b := fun e => hnm (by rw [← hlen, ← hlen2, e])
    have HN := Lib.hid hne
    have d1 : ((n : Int) == m) = false := by rw [beq_eq_false_iff_ne]; omega
    rw [hlen] at hla ⊢
    rw [hlen2] at hlb ⊢
    clear hsa hsb hna hnb hlen hlen2 hnm hne
    go_enter Try.func11, Try.ntmps11
    go_wp2_with fail
    go_ret
    exact ⟨retB (decide_eq_false HN.out).symm, 0, rfl⟩
/-- What of a band's pieces must be the same. -/
def keys (l : List Rc) : List (Int × Int) := l.map fun r => (r.x, r.w)
theorem keys_get {l : List Rc} {k : Nat} {r : Rc} (h : l[k]? = some r) : (keys l)[k]? = some (r.x, r.w) := by simp [keys, h]
set_option maxHeartbeats 4000000 in
theorem refsame_any (a b : List Rc) (va vb : Value) (w : World) (hla : a.length ≤ 1000000000) (hlb : b.length ≤ 1000000000) (ha : SeesR w va a) (hb : SeesR w vb b) :
    Calls Try.prog 27 #[va, vb] w fun e w' => e = .returned (.bool (decide (keys a = keys b))) ∧ ∃ m, w' = w.drewN m := by
  obtain ⟨aa, ca, rfl, hna, hsa⟩ := ha
  obtain ⟨ab, cb, rfl, hnb, hsb⟩ := hb
  obtain ⟨n, hlen⟩ : ∃ n, a.length = n := ⟨_, rfl⟩
  obtain ⟨m, hlen2⟩ : ∃ m, b.length = m := ⟨_, rfl⟩
  by_cases hnm : n = m
  · subst hnm
    have HA := Lib.hid hsa
    have HBb := Lib.hid hsb
    have HRA : RowKit.Hid (∀ k, k < n → ∃ r, a[k]? = some r) := Lib.hid (fun k hk => ⟨a[k]'(by omega), List.getElem?_eq_getElem (by omega)⟩)
    have HRB : RowKit.Hid (∀ k, k < n → ∃ r, b[k]? = some r) := Lib.hid (fun k hk => ⟨b[k]'(by omega), List.getElem?_eq_getElem (by omega)⟩)
    have HTS : RowKit.Hid (∀ k x y, (keys a).take k = (keys b).take k → a[k]? = some x → b[k]? = some y → ((keys a).take (k + 1) = (keys b).take (k + 1) ↔ (x.x, x.w) = (y.x, y.w))) := Lib.hid (fun k x y h hx hy => take_eq_succ h (keys_get hx) (keys_get hy))
    have HNO : RowKit.Hid (∀ k, (keys a).take k ≠ (keys b).take k → keys a ≠ keys b) := Lib.hid (fun k h e => h (by rw [e]))
    have HYES : RowKit.Hid ((keys a).take n = (keys b).take n → keys a = keys b) := Lib.hid (fun h => by rw [← List.take_of_length_le (show (keys a).length ≤ n by simp [keys]; omega), h, List.take_of_length_le (by simp [keys]; omega)])
    have HLa := Lib.hid hlen
    have HLb := Lib.hid hlen2
    rw [hlen] at hla ⊢
    rw [hlen2]
    clear hsa hsb hna hnb hlen hlen2 hlb
    go_enter Try.func27, Try.ntmps27
    go_wp2_with fail
    go_loopw [5] (fun i wr => ∃ k : Nat, k ≤ n ∧ i = .int .i64 k ∧ RowKit.Hid ((keys a).take k = (keys b).take k) ∧ ∃ q, wr = w.drewN q) (fun i _ => n - (intOf i).toNat)
    case atStart => exact ⟨0, Nat.zero_le _, rfl, rfl, 0, rfl⟩
    case round =>
      obtain ⟨k, hk, rfl, hT, q, rfl⟩ := hrel
      by_cases hlt : k < n
      · obtain ⟨g, og, rfl, hg, hcg⟩ := HA.out (by rw [HLa.out]; omega)
        obtain ⟨p, op, rfl, hp, hcp⟩ := HBb.out (by rw [HLb.out]; omega)
        obtain ⟨r, hr⟩ := HRA.out k hlt
        obtain ⟨s, hs⟩ := HRB.out k hlt
        obtain ⟨c0, c1, c2, c3⟩ : RcAt (w.drewN q) g (og + k * 4) r := by
          obtain ⟨hk', rfl⟩ := List.getElem?_eq_some_iff.1 hr
          exact hcg k hk'
        obtain ⟨e0, e1, e2, e3⟩ : RcAt (w.drewN q) p (op + k * 4) s := by
          obtain ⟨hk', rfl⟩ := List.getElem?_eq_some_iff.1 hs
          exact hcp k hk'
        have hts := HTS.out k r s hT.out hr hs
        clear hcg hcp hr hs HA HBb HRA HRB
        obtain ⟨wr, hwr⟩ : ∃ wr, w.drewN q = wr := ⟨_, rfl⟩
        rw [hwr] at c0 c1 c2 c3 e0 e1 e2 e3 ⊢
        have HW := Lib.hid hwr
        by_cases hrs : (r.x, r.w) = (s.x, s.w)
        · have HT2 := Lib.hid (hts.2 hrs)
          obtain ⟨i1, i2⟩ := Prod.mk.inj hrs
          have g1 : (r.x == s.x) = true := by simpa using i1
          have g2 : (r.w == s.w) = true := by simpa using i2
          have g3 : (r.x != s.x) = false := by simpa using i1
          have g4 : (r.w != s.w) = false := by simpa using i2
          clear hts hwr hrs i1 i2
          go_wp2_with fail
          go_quiet (fail)
          go_wp2_with fail
          exact ⟨⟨k + 1, by omega, by go_num, HT2, by rw [← HW.out]; exact ⟨_, drewN_two _ _ _⟩⟩, by simp [intOf]; omega⟩
        · have HNN : RowKit.Hid (keys a ≠ keys b) := Lib.hid (HNO.out (k + 1) fun h => hrs (hts.1 h))
          clear hts hwr HTS HNO HYES
          obtain ⟨rx, ry, ru, rv⟩ := r
          obtain ⟨sx, sy, su, sv⟩ := s
          simp only at c0 c1 c2 c3 e0 e1 e2 e3
          by_cases z0 : rx = sx
          · have g1 : (rx == sx) = true := by simpa using z0
            have g2 : (ru == su) = false := by simpa using fun e => hrs (by rw [z0, e])
            have g3 : (rx != sx) = false := by simpa using z0
            have g4 : (ru != su) = true := by simpa using fun e => hrs (by rw [z0, e])
            clear z0 hrs
            go_wp2_with fail
            go_quiet (fail)
            go_wp2_with fail
            go_ret
            exact ⟨retB (decide_eq_false HNN.out).symm, by rw [← HW.out]; exact ⟨_, drewN_two _ _ _⟩⟩
          · have g1 : (rx == sx) = false := by simpa using z0
            have g3 : (rx != sx) = true := by simpa using z0
            clear z0 hrs
            go_wp2_with fail
            go_quiet (fail)
            go_wp2_with fail
            go_ret
            exact ⟨retB (decide_eq_false HNN.out).symm, by rw [← HW.out]; exact ⟨_, drewN_two _ _ _⟩⟩
      · obtain rfl : k = n := by omega
        have e := Lib.hid (HYES.out hT.out)
        go_wp2_with fail
        go_ret
        exact ⟨retB (decide_eq_true e.out).symm, q, rfl⟩
  · have hne : keys a ≠ keys b := fun e => hnm (by have := congrArg List.length e; simp [keys] at this; omega)
    have HN := Lib.hid hne
    have d1 : ((n : Int) == m) = false := by rw [beq_eq_false_iff_ne]; omega
    rw [hlen] at hla ⊢
    rw [hlen2] at hlb ⊢
    clear hsa hsb hna hnb hlen hlen2 hnm hne
    go_enter Try.func27, Try.ntmps27
    go_wp2_with fail
    go_ret
    exact ⟨retB (decide_eq_false HN.out).symm, 0, rfl⟩
end Go.Proofs.Ytedlhfemmofbpaa.Reg
