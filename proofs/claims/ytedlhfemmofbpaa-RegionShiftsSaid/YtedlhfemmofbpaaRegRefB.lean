/-
  Contracts of the reference of layer 15 (region): all borders.
-/
import Derived.Test.YtedlhfemmofbpaaRegRefP
import Derived.Test.YtedlhfemmofbpaaRegPred
namespace Go.Proofs.Ytedlhfemmofbpaa.Reg
open Go.ChangeShapes Go.WideShapes Go.ChangeAt Go.RowKit Lz RowG RegVal
set_option linter.unusedVariables false
set_option maxRecDepth 100000

theorem bordX_snoc (q : List Rc) (r : Rc) (l : List Int) : bordX (q ++ [r]) l = if counts r = true then put (put (bordX q l) r.x) (r.x + r.w) else bordX q l := by
  induction q generalizing l with
  | nil => rfl
  | cons s q ih => exact ih _
theorem bordY_snoc (q : List Rc) (r : Rc) (l : List Int) : bordY (q ++ [r]) l = if counts r = true then put (put (bordY q l) r.y) (r.y + r.h) else bordY q l := by
  induction q generalizing l with
  | nil => rfl
  | cons s q ih => exact ih _
theorem put_length (l : List Int) (n : Int) : (put l n).length ≤ l.length + 1 := by
  induction l with
  | nil => simp [put]
  | cons x r ih =>
    unfold put
    by_cases h1 : n < x
    · rw [if_pos h1]; simp
    · rw [if_neg h1]
      by_cases h2 : n = x
      · rw [if_pos h2]; simp
      · rw [if_neg h2]; simp; omega
theorem bordX_length (q : List Rc) (l : List Int) : (bordX q l).length ≤ l.length + 2 * q.length := by
  induction q generalizing l with
  | nil => simp [bordX]
  | cons r q ih =>
    have h1 := ih (if counts r = true then put (put l r.x) (r.x + r.w) else l)
    have h2 : (if counts r = true then put (put l r.x) (r.x + r.w) else l).length ≤ l.length + 2 := by
      by_cases h : counts r = true
      · rw [if_pos h]
        have := put_length (put l r.x) (r.x + r.w)
        have := put_length l r.x
        omega
      · rw [if_neg h]; omega
    show (bordX q (if counts r = true then put (put l r.x) (r.x + r.w) else l)).length ≤ _
    simp only [List.length_cons]
    omega
theorem bordY_length (q : List Rc) (l : List Int) : (bordY q l).length ≤ l.length + 2 * q.length := by
  induction q generalizing l with
  | nil => simp [bordY]
  | cons r q ih =>
    have h1 := ih (if counts r = true then put (put l r.y) (r.y + r.h) else l)
    have h2 : (if counts r = true then put (put l r.y) (r.y + r.h) else l).length ≤ l.length + 2 := by
      by_cases h : counts r = true
      · rw [if_pos h]
        have := put_length (put l r.y) (r.y + r.h)
        have := put_length l r.y
        omega
      · rw [if_neg h]; omega
    show (bordY q (if counts r = true then put (put l r.y) (r.y + r.h) else l)).length ≤ _
    simp only [List.length_cons]
    omega
/-- What the operations leave: the values that are known ahead; the rows. -/
def boV (vx sl p p1 q : Value) (k a s c : Int) : Nat → Option Value
  | 0 => some vx
  | 1 => some sl
  | 2 => some (.int .i64 k)
  | 3 => some p
  | 4 => some p1
  | 5 => some (.int .i64 a)
  | 7 => some sl
  | 8 => some (.int .i64 k)
  | 9 => some p
  | 10 => some p1
  | 11 => some (.int .i64 a)
  | 12 => some sl
  | 13 => some (.int .i64 k)
  | 14 => some p
  | 15 => some q
  | 16 => some (.int .i64 s)
  | 17 => some (.int .i64 c)
  | _ => none
def boR (N : Nat) (X : List Int) (a c : Int) : Nat → Value → World → Prop
  | 6, v, w => IntsAt N w v (put X a)
  | 18, v, w => IntsAt N w v (put (put X a) c)
  | 19, v, w => IntsAt N w v (put (put X a) c)
  | _, _, _ => True
theorem boR_keep {N : Nat} {X : List Int} {a c : Int} {j : Nat} {u : Value} {w w' : World} (h : boR N X a c j u w) (k : Below w.heap.size w w') : boR N X a c j u w' := by
  unfold boR at h ⊢
  split at h
  · exact h.below k
  · exact h.below k
  · exact h.below k
  · trivial
set_option maxHeartbeats 8000000 in
theorem refBorders_any (l : List Rc) (v : Value) (w : World) (hl : l.length ≤ 10000000) (h : SeesR w v l) :
    Calls Try.prog 25 #[v] w fun e w' => ∃ u1 u2, e = .returned (.tuple #[u1, u2]) ∧ IntsAt w.heap.size w' u1 (bordX l []) ∧ IntsAt w.heap.size w' u2 (bordY l []) ∧ Below w.heap.size w w' := by
  obtain ⟨a, cap, rfl, hn, hs⟩ := h
  obtain ⟨n, hlen⟩ : ∃ n, l.length = n := ⟨_, rfl⟩
  have HX : RowKit.Hid (∀ k r, l[k]? = some r → bordX (l.take (k + 1)) [] = if counts r = true then put (put (bordX (l.take k) []) r.x) (r.x + r.w) else bordX (l.take k) []) := Lib.hid (fun k r hr => by
    obtain ⟨hk, rfl⟩ := List.getElem?_eq_some_iff.1 hr
    rw [List.take_succ_eq_append_getElem hk, bordX_snoc])
  have HY : RowKit.Hid (∀ k r, l[k]? = some r → bordY (l.take (k + 1)) [] = if counts r = true then put (put (bordY (l.take k) []) r.y) (r.y + r.h) else bordY (l.take k) []) := Lib.hid (fun k r hr => by
    obtain ⟨hk, rfl⟩ := List.getElem?_eq_some_iff.1 hr
    rw [List.take_succ_eq_append_getElem hk, bordY_snoc])
  have HLX : RowKit.Hid (∀ k, k ≤ n → (bordX (l.take k) []).length ≤ 20000000 ∧ (bordY (l.take k) []).length ≤ 20000000) := Lib.hid (fun k hk => by
    have h1 := bordX_length (l.take k) []
    have h2 := bordY_length (l.take k) []
    have h3 : (l.take k).length ≤ k := by simp; omega
    simp only [List.length_nil] at h1 h2
    omega)
  have HE : RowKit.Hid (bordX (l.take n) [] = bordX l [] ∧ bordY (l.take n) [] = bordY l []) := Lib.hid (by rw [List.take_of_length_le (by omega)]; exact ⟨rfl, rfl⟩)
  have HR : RowKit.Hid (∀ k, k < n → ∃ r, l[k]? = some r) := Lib.hid (fun k hk => ⟨l[k]'(by omega), List.getElem?_eq_getElem (by omega)⟩)
  have HS := Lib.hid hs
  have HL := Lib.hid hlen
  rw [hlen] at hl ⊢
  clear hs hn hlen
  generalize bordX l [] = BX at *
  generalize bordY l [] = BY at *
  have hB := Nat.le_refl w.heap.size
  go_enter Try.func25, Try.ntmps25
  go_wp2_with fail
  go_loopw [4, 5, 6] (fun vx vy i wr => ∃ k : Nat, k ≤ n ∧ i = .int .i64 k ∧ IntsAt w.heap.size wr vx (bordX (l.take k) []) ∧ IntsAt w.heap.size wr vy (bordY (l.take k) []) ∧ Below w.heap.size w wr) (fun _ _ i _ => n - (intOf i).toNat)
  case atStart => exact ⟨0, Nat.zero_le _, rfl, RowAt.nil _ _ _ _, RowAt.nil _ _ _ _, Below.refl _ _⟩
  case round =>
    obtain ⟨k, hk, rfl, hox, hoy, hbr⟩ := hrel
    have HOX := Lib.hid hox
    have HOY := Lib.hid hoy
    have HB := Lib.hid hbr
    by_cases hlt : k < n
    · obtain ⟨r, hr⟩ := HR.out k hlt
      obtain ⟨b, off, rfl, hb, hc⟩ := HS.out (by rw [HL.out]; omega)
      have hcell : RcAt w b (off + k * 4) r := by
        obtain ⟨hk', rfl⟩ := List.getElem?_eq_some_iff.1 hr
        exact hc k hk'
      have HC : RowKit.Hid (∀ W, Below w.heap.size w W → RcAt W b (off + k * 4) r) := Lib.hid (fun W hW => hcell.below hW hb)
      have hX := Lib.hid (HX.out k r hr)
      have hY := Lib.hid (HY.out k r hr)
      have C := Lib.hid (fun w => refCounts_any r w)
      have HCI : RowKit.Hid (counts r = true → _) := Lib.hid (fun h => counts_iff.1 h)
      obtain ⟨l1, l2⟩ := HLX.out k hk
      obtain ⟨q0, q1, q2, q3⟩ := HC.out wr hbr
      clear hr hc hcell hox hoy hbr HX HY HR HLX
      obtain ⟨rx, ry, ru, rv⟩ := r
      unfold Rc.v at C
      simp only at q0 q1 q2 q3 C HCI hX hY
      generalize bordX (l.take k) [] = X at *
      generalize bordY (l.take k) [] = Y at *
      obtain ⟨X1, hX1⟩ : ∃ X1, bordX (l.take (k + 1)) [] = X1 := ⟨_, rfl⟩
      obtain ⟨Y1, hY1⟩ : ∃ Y1, bordY (l.take (k + 1)) [] = Y1 := ⟨_, rfl⟩
      rw [hX1] at hX
      rw [hY1] at hY
      have EX := Lib.hid hX1
      have EY := Lib.hid hY1
      clear hX1 hY1
      go_wp2_with fail
      refine (C.out _).mono ?_
      rintro r w2 ⟨rfl, b2⟩
      have HB2 := Lib.hid (HB.out.trans (b2.mono HB.out.size))
      have HX2 := Lib.hid (HOX.out.below b2)
      have HY2 := Lib.hid (HOY.out.below b2)
      clear C b2 HB HOX HOY q0 q1 q2 q3
      generalize counts ⟨rx, ry, ru, rv⟩ = CO at *
      cases CO with
      | false =>
        have hX' := hX.out
        have hY' := hY.out
        rw [if_neg (by decide)] at hX' hY'
        subst hX' hY'
        clear hX hY
        go_wp2_with fail
        exact ⟨⟨k + 1, by omega, by go_num, by rw [EX.out]; exact HX2.out, by rw [EY.out]; exact HY2.out, HB2.out⟩, by simp [intOf]; omega⟩
      | true =>
        have hci := HCI.out (by simp)
        have w1' : IntKind.i64.wrap (rx + ru) = rx + ru := IntWalk.i64_in _ (by omega)
        have w2' : IntKind.i64.wrap (ry + rv) = ry + rv := IntWalk.i64_in _ (by omega)
        have hX' := Lib.hid hX.out
        have hY' := Lib.hid hY.out
        clear HCI hci hX hY
        have CELL := Lib.hid (fun W (h : Below w2.heap.size w2 W) => HC.out W (HB2.out.trans (h.mono HB2.out.size)))
        have PUT1 := Lib.hid (fun W (h : Below w2.heap.size w2 W) => (refPut_any X w.heap.size u4 rx W (by omega) (HX2.out.below h)).mono fun e w' ⟨u, he, hu, hb⟩ => (⟨u, he, RowAt.base hu (by have := HB2.out.size; have := h.size; omega), hb⟩ : ∃ u, e = Ending.returned u ∧ IntsAt w.heap.size w' u (put X rx) ∧ Below W.heap.size W w'))
        have lp := put_length X rx
        have PUT2 := Lib.hid (fun W v6 (h : Below w2.heap.size w2 W) (h6 : IntsAt w.heap.size W v6 (put X rx)) => (refPut_any (put X rx) w.heap.size v6 (rx + ru) W (by omega) h6).mono fun e w' ⟨u, he, hu, hb⟩ => (⟨u, he, RowAt.base hu (by have := HB2.out.size; have := h.size; omega), hb⟩ : ∃ u, e = Ending.returned u ∧ IntsAt w.heap.size w' u (put (put X rx) (rx + ru)) ∧ Below W.heap.size W w'))
        clear lp
        go_wp2_with fail
        refine region_preds (by kernel_rfl) (boV u4 (.slice (some ⟨b, off, none⟩) n cap) (.pointer (some ⟨b, off + k * 4, none⟩)) (.pointer (some ⟨b, off + k * 4, none⟩)) (.pointer (some ⟨b, off + k * 4 + 2, none⟩)) (k : Nat) rx ru (rx + ru)) (boR w.heap.size X rx (rx + ru)) (fun _ Wz => Below w2.heap.size w2 Wz) [0, 6] [none, none, none, none, some 19, none, none, none, none, none, none, none, none, none, none, none, none, none, some 0, some 1, some 2, some 3, some 4, some 5, some 6, some 7, some 8, some 9, some 10, some 11, some 12, some 13, some 14, some 15, some 16, some 17, some 18, none, none, none, none, none, none, none, none, none, none, none, none, none, none, none, none, none, none, none, none, none] (by kernel_rfl) (by kernel_rfl) (by rfl) (by kernel_rfl) (by kernel_rfl) (by kernel_rfl) ((Below.refl _ _).drew) ⟨?_, ?_, ?_, ?_, ?_, ?_, ?_, ?_, ?_, ?_, ?_, ?_, ?_, ?_, ?_, ?_, ?_, ?_, ?_, ?_, trivial⟩ ?_
        case refine_21 =>
          intro vs ℓ W hl hS hR
          have h19 := Lib.hid (hR 19 4 (by rfl) rfl)
          clear hR
          simp only [zipF, boV, Option.getD_some, Option.getD_none]
          generalize vs 19 = nx at *
          generalize vs 18 = z18 at *
          generalize vs 6 = z6 at *
          have HB3 := Lib.hid (HB2.out.trans (hS.mono HB2.out.size))
          have HY3 := Lib.hid (HY2.out.below hS)
          clear hS hl CELL PUT1 PUT2 HB2 HY2 HX2
          have CELL := Lib.hid (fun W' (h : Below W.heap.size W W') => HC.out W' (HB3.out.trans (h.mono HB3.out.size)))
          have PUT1 := Lib.hid (fun W' (h : Below W.heap.size W W') => (refPut_any Y w.heap.size u5 ry W' (by omega) (HY3.out.below h)).mono fun e w' ⟨u, he, hu, hb⟩ => (⟨u, he, RowAt.base hu (by have := HB3.out.size; have := h.size; omega), hb⟩ : ∃ u, e = Ending.returned u ∧ IntsAt w.heap.size w' u (put Y ry) ∧ Below W'.heap.size W' w'))
          have lp := put_length Y ry
          have PUT2 := Lib.hid (fun W' v6 (h : Below W.heap.size W W') (h6 : IntsAt w.heap.size W' v6 (put Y ry)) => (refPut_any (put Y ry) w.heap.size v6 (ry + rv) W' (by omega) h6).mono fun e w' ⟨u, he, hu, hb⟩ => (⟨u, he, RowAt.base hu (by have := HB3.out.size; have := h.size; omega), hb⟩ : ∃ u, e = Ending.returned u ∧ IntsAt w.heap.size w' u (put (put Y ry) (ry + rv)) ∧ Below W'.heap.size W' w'))
          clear lp
          go_wp2_with fail
          refine region_preds (by kernel_rfl) (boV u5 (.slice (some ⟨b, off, none⟩) n cap) (.pointer (some ⟨b, off + k * 4, none⟩)) (.pointer (some ⟨b, off + k * 4 + 1, none⟩)) (.pointer (some ⟨b, off + k * 4 + 3, none⟩)) (k : Nat) ry rv (ry + rv)) (boR w.heap.size Y ry (ry + rv)) (fun _ Wz => Below W.heap.size W Wz) [0, 6] [none, none, none, none, none, some 19, none, none, none, none, none, none, none, none, none, none, none, none, none, none, none, none, none, none, none, none, none, none, none, none, none, none, none, none, none, none, none, some 0, some 1, some 2, some 3, some 4, some 5, some 6, some 7, some 8, some 9, some 10, some 11, some 12, some 13, some 14, some 15, some 16, some 17, some 18, none, none] (by kernel_rfl) (by kernel_rfl) (by rfl) (by kernel_rfl) (by kernel_rfl) (by kernel_rfl) ((Below.refl _ _).drew) ⟨?_, ?_, ?_, ?_, ?_, ?_, ?_, ?_, ?_, ?_, ?_, ?_, ?_, ?_, ?_, ?_, ?_, ?_, ?_, ?_, trivial⟩ ?_
          case refine_21 =>
            intro vs ℓ W3 hl hS hR
            have k19 := Lib.hid (hR 19 5 (by rfl) rfl)
            have g19 := Lib.hid (h19.out.below hS)
            have HB4 := Lib.hid (HB3.out.trans (hS.mono HB3.out.size))
            have eX := hX'.out
            have eY := hY'.out
            simp only [if_true] at eX eY
            have EX1 := Lib.hid (EX.out.trans eX)
            have EY1 := Lib.hid (EY.out.trans eY)
            clear hR hS hl eX eY hX' hY' EX EY h19 HB3
            simp only [zipF, boV, Option.getD_some, Option.getD_none]
            generalize vs 19 = ny at *
            generalize vs 18 = y18 at *
            generalize vs 6 = y6 at *
            go_wp2_with fail
            refine ⟨⟨k + 1, by omega, by go_num, ?_, ?_, HB4.out⟩, by simp [intOf]; omega⟩
            · rw [EX1.out]; exact g19.out
            · rw [EY1.out]; exact k19.out
          case refine_1 =>
            intro ℓ act W9 hl hS hw hx hr hd
            have e4 : act.tmps[5]? = some u5 := hx 5 19 (by rfl) (by kernel_rfl)
            clear hw hx hr hd
            refine ⟨wanted_none (by rfl), fun K hK => ?_⟩
            go_simp
            exact hK _ _ rfl hS (fun _ _ _ _ h => h)
          case refine_19 =>
            intro ℓ act W9 hl hS hw hx hr hd
            clear hw hx
            simp [readFacts, depFactsP, dstOf, Region.binds, boV, boR] at hr hd
            refine ⟨wanted_none (by rfl), fun K hK => ?_⟩
            obtain ⟨⟨v6, e6, y6⟩, hd2⟩ := hd
            go_simp
            refine (PUT2.out W9 v6 hS y6).mono ?_
            rintro r w' ⟨u, rfl, hu, b⟩
            exact hK _ _ hu (hS.trans (b.mono hS.size)) (fun _ _ _ _ h => boR_keep h b)
          case refine_20 =>
            intro ℓ act W9 hl hS hw hx hr hd
            clear hw hx
            simp [readFacts, depFactsP, dstOf, Region.binds, boV, boR] at hr hd
            refine ⟨wanted_none (by rfl), fun K hK => ?_⟩
            obtain ⟨⟨v6, e6, y6⟩, hd2⟩ := hd
            clear hd2
            go_simp
            exact hK _ _ y6 hS (fun _ _ _ _ h => h)
          all_goals
            intro ℓ act W9 hl hS hw hx hr hd
            clear hw hx
            simp [readFacts, depFactsP, dstOf, Region.binds, boV] at hr hd
            refine ⟨wanted_none (by rfl), fun K hK => ?_⟩
            obtain ⟨q0, q1, q2, q3⟩ := CELL.out W9 hS
            go_simp
            first
              | (refine (PUT1.out W9 hS).mono ?_
                 rintro r w' ⟨u, rfl, hu, b⟩
                 exact hK _ _ hu (hS.trans (b.mono hS.size)) (fun _ _ _ _ h => boR_keep h b))
              | exact hK _ _ rfl hS (fun _ _ _ _ h => h)
        case refine_1 =>
          intro ℓ act W hl hS hw hx hr hd
          have e4 : act.tmps[4]? = some u4 := hx 4 19 (by rfl) (by kernel_rfl)
          clear hw hx hr hd
          refine ⟨wanted_none (by rfl), fun K hK => ?_⟩
          go_simp
          exact hK _ _ rfl hS (fun _ _ _ _ h => h)
        case refine_19 =>
          intro ℓ act W hl hS hw hx hr hd
          clear hw hx
          simp [readFacts, depFactsP, dstOf, Region.binds, boV, boR] at hr hd
          refine ⟨wanted_none (by rfl), fun K hK => ?_⟩
          obtain ⟨⟨v6, e6, y6⟩, hd2⟩ := hd
          go_simp
          refine (PUT2.out W v6 hS y6).mono ?_
          rintro r w' ⟨u, rfl, hu, b⟩
          exact hK _ _ hu (hS.trans (b.mono hS.size)) (fun _ _ _ _ h => boR_keep h b)
        case refine_20 =>
          intro ℓ act W hl hS hw hx hr hd
          clear hw hx
          simp [readFacts, depFactsP, dstOf, Region.binds, boV, boR] at hr hd
          refine ⟨wanted_none (by rfl), fun K hK => ?_⟩
          obtain ⟨⟨v6, e6, y6⟩, hd2⟩ := hd
          clear hd2
          go_simp
          exact hK _ _ y6 hS (fun _ _ _ _ h => h)
        all_goals
          intro ℓ act W hl hS hw hx hr hd
          clear hw hx
          simp [readFacts, depFactsP, dstOf, Region.binds, boV] at hr hd
          refine ⟨wanted_none (by rfl), fun K hK => ?_⟩
          obtain ⟨q0, q1, q2, q3⟩ := CELL.out W hS
          go_simp
          first
            | (refine (PUT1.out W hS).mono ?_
               rintro r w' ⟨u, rfl, hu, b⟩
               exact hK _ _ hu (hS.trans (b.mono hS.size)) (fun _ _ _ _ h => boR_keep h b))
            | exact hK _ _ rfl hS (fun _ _ _ _ h => h)
    · obtain rfl : k = n := by omega
      have e1 := Lib.hid HE.out
      clear hox hoy hbr
      go_wp2_with fail
      go_ret2
      refine ⟨_, _, rfl, ?_, ?_, HB.out⟩
      · rw [← e1.out.1]; exact HOX.out
      · rw [← e1.out.2]; exact HOY.out
end Go.Proofs.Ytedlhfemmofbpaa.Reg
