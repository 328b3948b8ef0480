/-
  The same inside a fence (a round of a loop over an iterator, too): a region that leaves its order open, all operations by one block of tactics. Nothing of the program is named here.
-/
import Derived.OrdersIn
import Derived.Test.YtbdlmcpdplmdnaaRegVal
import Derived.Test.YtbdlmcpdplmdnaaRegPred
namespace Go.Proofs.Ytbdlmcpdplmdnaa.RegVal
open Go

section
variable {F : Fence} {n : Nat} {P : Program} {ops : Array Oper} {Q : Exit → Act → World → Prop} {md : Region.Mode}

/-- EACH OPERATION ONCE: if each, where what it waits for has left its value, leaves its own, then so does any order. -/
theorem wpAnyIn_invP (a1 : Act) (U : Nat → Value → World → Prop) (S : (Nat → Bool) → World → Prop)
    (hd1 : ∀ i j t, dstOf ops i = some t → dstOf ops j = some t → i = j)
    (hd2 : ∀ i o, ops[i]? = some o → ∀ e ∈ o.after, Region.binds md e = true → e.on < i)
    (hd3 : ∀ i t, dstOf ops i = some t → t < a1.tmps.size)
    (hstep : ∀ i o, ops[i]? = some o → ∀ (ℓ : Nat → Bool) a w, ℓ i = false → S ℓ w → (∀ e ∈ o.after, Region.binds md e = true → ℓ e.on = true) → (∀ t j, dstOf ops j = some t → ℓ j = false → a.tmps[t]? = a1.tmps[t]?) → (∀ j o, ops[j]? = some o → ℓ j = true → ∀ e ∈ o.after, Region.binds md e = true → ℓ e.on = true) → (∀ t, (∀ j, dstOf ops j ≠ some t) → a.tmps[t]? = a1.tmps[t]?) →
      (∀ e ∈ o.after, Region.binds md e = true → ∀ t, dstOf ops e.on = some t → ∃ v, a.tmps[t]? = some v ∧ U e.on v w) →
      Region.wanted o (yielded ops a.tmps) = true ∧ o.wpIn F n P a w (fun a' w' => ∃ v, a' = a.put o.dst v ∧ U i v w' ∧ S (fun j => if j = i then true else ℓ j) w' ∧ ∀ j u, ℓ j = true → U j u w → U j u w') Q)
    (hend : ∀ ℓ a w, (∀ i, i < ops.size → ℓ i = true) → S ℓ w → a.defers = a1.defers → a.tmps.size = a1.tmps.size → (∀ t, (∀ i, dstOf ops i ≠ some t) → a.tmps[t]? = a1.tmps[t]?) →
      (∀ i t, dstOf ops i = some t → ∃ v, a.tmps[t]? = some v ∧ U i v w) → Q .normal a w) :
    ∀ (fuel : Nat) (listed : Array Bool) (a : Act) (w : World), listed.size = ops.size → left ops listed ≤ fuel → InvP md ops a1 U S listed a w → wpAnyIn F n P md ops Q fuel listed a w := by
  have hfin : ∀ (listed : Array Bool) (a : Act) (w : World), listed.size = ops.size → InvP md ops a1 U S listed a w → Region.ready md ops listed = [] → Q .normal a w := by
    intro listed a w hs I hr
    have hall := all_of_none hd2 listed hs hr
    have hlt : ∀ i t, dstOf ops i = some t → i < ops.size := by
      intro i t h
      apply Classical.byContradiction
      intro hn
      unfold dstOf at h
      rw [Array.getElem?_eq_none (Nat.le_of_not_lt hn)] at h
      cases h
    exact hend _ a w hall I.s I.defers I.size (fun t ht => I.same t fun i _ => ht i) (fun i t h => I.done i t (hall i (hlt i t h)) h)
  intro fuel
  induction fuel with
  | zero =>
    intro listed a w hs hl I
    have hr := none_of_left (ops := ops) (md := md) listed (by omega)
    exact ⟨hr, hfin listed a w hs I hr⟩
  | succ fuel ih =>
    intro listed a w hs hl I
    refine ⟨hfin listed a w hs I, fun i hi => ?_⟩
    have hcount := left_set listed hs i hi
    obtain ⟨h0, o, ho, hdeps⟩ := mem_ready.1 hi
    have hlt : i < ops.size := (Array.getElem?_eq_some_iff.1 ho).1
    have hni : listed.getD i false = false := by
      have : i < listed.size := by omega
      simp [this] at h0 ⊢; exact h0
    obtain ⟨hw, hwp⟩ := hstep i o ho (fun j => listed.getD j false) a w hni I.s hdeps (fun t j hj hl => I.same t fun i hi he => by rw [hd1 i j t he hj, hl] at hi; cases hi) I.closed (fun t ht => I.same t fun j _ => ht j) (fun e he hb t ht => I.done e.on t (hdeps e he hb) ht)
    unfold wpOpIn
    simp only [ho, hw, if_true]
    refine Oper.wpIn_mono ?_ hwp
    rintro a' w' ⟨v, rfl, hv, hS, hk⟩
    refine ih _ _ _ (by simpa using hs) (by omega) ?_
    have hnew : ∀ j, (listed.setIfInBounds i true).getD j false = true → j = i ∨ listed.getD j false = true := by
      intro j hj
      by_cases e : i = j
      · exact .inl e.symm
      · rw [getD_set_ne false e] at hj; exact .inr hj
    have hold : ∀ j, listed.getD j false = true → (listed.setIfInBounds i true).getD j false = true := fun j hj => getD_set_true hj
    have hme : (listed.setIfInBounds i true).getD i false = true := by
      have : i < listed.size := by omega
      simp [this]
    have hS' : S (fun j => (listed.setIfInBounds i true).getD j false) w' := by
      have : (fun j => (listed.setIfInBounds i true).getD j false) = fun j => if j = i then true else listed.getD j false := by
        funext j
        by_cases e : j = i
        · subst e; rw [if_pos rfl]; exact hme
        · rw [if_neg e, getD_set_ne false (Ne.symm e)]
      rw [this]; exact hS
    have hcl' : ∀ j o', ops[j]? = some o' → (listed.setIfInBounds i true).getD j false = true → ∀ e ∈ o'.after, Region.binds md e = true → (listed.setIfInBounds i true).getD e.on false = true := by
      intro j o' ho' hj e he hb
      rcases hnew j hj with rfl | hj
      · rw [ho] at ho'
        obtain rfl := Option.some.inj ho'
        exact hold _ (hdeps e he hb)
      · exact hold _ (I.closed j o' ho' hj e he hb)
    have hdst : dstOf ops i = o.dst := by unfold dstOf; rw [ho]; rfl
    cases hd : o.dst with
    | none =>
      show InvP md ops a1 U S _ a w'
      exact ⟨hS', I.defers, I.size, fun t ht => I.same t fun j hj => ht j (hold j hj), fun j t hj ht => by
        rcases hnew j hj with rfl | hj
        · rw [hdst, hd] at ht; cases ht
        · obtain ⟨u, hu, hU⟩ := I.done j t hj ht
          exact ⟨u, hu, hk j u hj hU⟩, hcl'⟩
    | some t0 =>
      have ht0 : t0 < a.tmps.size := by rw [I.size]; exact hd3 i t0 (by rw [hdst, hd])
      show InvP md ops a1 U S _ { a with tmps := a.tmps.setIfInBounds t0 v } w'
      refine ⟨hS', I.defers, by simpa using I.size, fun t ht => ?_, fun j t hj ht => ?_, hcl'⟩
      · have hne : t0 ≠ t := by
          rintro rfl
          exact ht i hme (by rw [hdst, hd])
        show (a.tmps.setIfInBounds t0 v)[t]? = _
        rw [Array.getElem?_setIfInBounds_ne hne]
        exact I.same t fun j hj => ht j (hold j hj)
      · rcases hnew j hj with rfl | hj
        · rw [hdst, hd] at ht
          cases ht
          exact ⟨v, by show (a.tmps.setIfInBounds t0 v)[t0]? = _; simp [ht0], hv⟩
        · obtain ⟨u, hu, hU⟩ := I.done j t hj ht
          have hne : t0 ≠ t := by
            rintro rfl
            have := hd1 i j t0 (by rw [hdst, hd]) ht
            subst this
            rw [hni] at hj
            cases hj
          refine ⟨u, ?_, hk j u hj hU⟩
          show (a.tmps.setIfInBounds t0 v)[t]? = _
          rw [Array.getElem?_setIfInBounds_ne hne]
          exact hu

/-- What is asked of one operation. -/
def StepPI (F : Fence) (n : Nat) (P : Program) (ops : Array Oper) (Q : Exit → Act → World → Prop) (a1 : Act) (V : Nat → Option Value) (R : Nat → Value → World → Prop) (S : (Nat → Bool) → World → Prop) (reads : List Nat) (i : Nat) (o : Oper) : Prop :=
  ∀ (ℓ : Nat → Bool) a w, ℓ i = false → S ℓ w → (∀ e ∈ o.after, Region.binds .any e = true → ℓ e.on = true) → (∀ t j, dstOf ops j = some t → waitsB ops j i = true → a.tmps[t]? = a1.tmps[t]?) → readFacts a a1 reads → depFactsP ops V R a w o.after.toList →
    Region.wanted o (yielded ops a.tmps) = true ∧ ∀ K : Act → World → Prop, (∀ v w', UV V R i v w' → S (fun j => if j = i then true else ℓ j) w' → (∀ j u, V j = none → ℓ j = true → R j u w → R j u w') → K (a.put o.dst v) w') → o.wpIn F n P a w K Q
def StepsPI (F : Fence) (n : Nat) (P : Program) (ops : Array Oper) (Q : Exit → Act → World → Prop) (a1 : Act) (V : Nat → Option Value) (R : Nat → Value → World → Prop) (S : (Nat → Bool) → World → Prop) (reads : List Nat) : Nat → List Oper → Prop
  | _, [] => True
  | i, o :: r => StepPI F n P ops Q a1 V R S reads i o ∧ StepsPI F n P ops Q a1 V R S reads (i + 1) r
theorem StepsPI.get {a1 : Act} {V : Nat → Option Value} {R : Nat → Value → World → Prop} {S : (Nat → Bool) → World → Prop} {reads : List Nat} : ∀ (l : List Oper) (k i : Nat) (o : Oper), StepsPI F n P ops Q a1 V R S reads k l → l[i]? = some o → StepPI F n P ops Q a1 V R S reads (k + i) o
  | [], _, _, _, _, h => by simp at h
  | x :: r, k, 0, o, ⟨h1, _⟩, h => by
    simp at h; subst h; exact h1
  | x :: r, k, i + 1, o, ⟨_, h2⟩, h => by
    have := StepsPI.get r (k + 1) i o h2 (by simpa using h)
    rw [show k + (i + 1) = k + 1 + i by omega]
    exact this
/-- ALL AT ONCE: behind the region the slots stand written out; of what was not known ahead R is told. -/
theorem regionIn_preds {id : Nat} {ts : Array Value} {w : World} (hm : P.follows .mixedOrders = true) (V : Nat → Option Value) (R : Nat → Value → World → Prop) (S : (Nat → Bool) → World → Prop) (reads : List Nat) (ws : List (Option Nat))
    (h1 : okDst ops = true) (h2 : okDep .any ops = true) (hws : ws.length = ts.size) (h3 : okSize ws.length ops = true) (h4 : reads.all (notDst ops) = true) (h5 : okWs ops ws = true) (hS : S (fun _ => false) w.drew)
    (hsteps : StepsPI F n P ops Q ⟨ts, []⟩ V R S reads 0 ops.toList)
    (hend : ∀ (vs : Nat → Value) ℓ w, (∀ i, i < ops.size → ℓ i = true) → S ℓ w → (∀ i t, dstOf ops i = some t → V i = none → R i (vs i) w) → Q .normal ⟨(zipF (fun i => (V i).getD (vs i)) ws ts.toList).toArray, []⟩ w) :
    (Code.region id ops true).wpIn F n P Q ⟨ts, []⟩ w := by
  refine wpIn_region_any hm (wpAnyIn_invP ⟨ts, []⟩ (UV V R) S (okDst_spec h1) (okDep_spec h2) (by rw [show (Act.tmps ⟨ts, []⟩).size = ws.length from hws.symm]; exact okSize_spec h3) ?_ ?_ _ _ _ _ (by simp) ?_ ?_)
  · intro i o ho ℓ a w hl hw hwait hlate hclosed hsame hdeps
    have hg := StepsPI.get ops.toList 0 i o hsteps (by rw [Array.getElem?_toList]; exact ho)
    rw [Nat.zero_add] at hg
    obtain ⟨x, y⟩ := hg ℓ a w hl hw hwait (fun t j hj hwt => hlate t j hj (by
      cases hlj : ℓ j with
      | false => rfl
      | true =>
        unfold waitsB at hwt
        cases hoj : ops[j]? with
        | none => rw [hoj] at hwt; simp at hwt
        | some oj =>
          rw [hoj] at hwt
          simp only [Option.map_some, Option.getD_some, List.any_eq_true, Bool.and_eq_true, beq_iff_eq] at hwt
          obtain ⟨e, he, hb, rfl⟩ := hwt
          have := hclosed j oj hoj hlj e (Array.mem_toList_iff.1 he) hb
          rw [hl] at this
          cases this)) (readFacts_of _ fun t ht => hsame t (notDst_spec (List.all_eq_true.1 h4 t ht))) (depFactsP_of _ fun e he hb t ht => hdeps e (Array.mem_toList_iff.1 he) hb t ht)
    refine ⟨x, y _ fun v w' q1 q2 q3 => ⟨v, rfl, q1, q2, fun j u hj hU => ?_⟩⟩
    unfold UV at hU ⊢
    split at hU
    · exact hU
    · rename_i hV
      exact q3 j u hV hj hU
  · intro ℓ a w hl hw hd hz hsame hdone
    let vs : Nat → Value := fun i => match dstOf ops i with | some t => a.tmps.getD t undef | none => undef
    have hvs : ∀ i t, dstOf ops i = some t → a.tmps[t]? = some (vs i) ∧ UV V R i (vs i) w := by
      intro i t ht
      obtain ⟨v, hv, hU⟩ := hdone i t ht
      have e : vs i = v := by
        show (match dstOf ops i with | some t => a.tmps.getD t undef | none => undef) = v
        rw [ht]
        show a.tmps.getD t undef = v
        rw [Array.getD_eq_getD_getElem?, hv]
        rfl
      rw [e]
      exact ⟨hv, hU⟩
    have hval : ∀ i t, dstOf ops i = some t → a.tmps[t]? = some ((V i).getD (vs i)) := by
      intro i t ht
      obtain ⟨h6, h7⟩ := hvs i t ht
      unfold UV at h7
      cases hV : V i with
      | none => exact h6
      | some c =>
        rw [hV] at h7
        rw [h6, show vs i = c from h7]
        rfl
    have he : a = ⟨(zipF (fun i => (V i).getD (vs i)) ws ts.toList).toArray, []⟩ := by
      obtain ⟨tm, df⟩ := a
      obtain rfl : df = [] := hd
      have hz' : tm.size = ws.length := (show tm.size = ts.size from hz).trans hws.symm
      have : tm = (zipF (fun i => (V i).getD (vs i)) ws ts.toList).toArray := by
        apply Array.ext_getElem?
        intro t
        rw [show ((zipF (fun i => (V i).getD (vs i)) ws ts.toList).toArray)[t]? = (zipF (fun i => (V i).getD (vs i)) ws ts.toList)[t]? by simp, zipF_get _ ws ts.toList t (by rw [hws]; simp)]
        by_cases ht : t < ws.length
        · have h6 := List.all_eq_true.1 h5 t (List.mem_range.2 ht)
          rw [List.getElem?_eq_getElem ht] at h6 ⊢
          cases hv : ws[t] with
          | none =>
            rw [hv] at h6
            have := hsame t (notDst_spec h6)
            simp only at this ⊢
            rw [this]
            simp
          | some i =>
            rw [hv] at h6
            exact hval i t (by simpa using h6)
        · rw [List.getElem?_eq_none (by omega), Array.getElem?_eq_none (by omega)]
      rw [this]
    rw [he]
    refine hend vs ℓ w hl hw fun i t ht hV => ?_
    have := (hvs i t ht).2
    unfold UV at this
    rw [hV] at this
    exact this
  · unfold left
    refine Nat.le_trans (List.length_filter_le _ _) ?_
    simp
  · have hf : ∀ i, (Array.replicate ops.size false).getD i false ≠ true := by
      intro i
      by_cases h : i < ops.size <;> simp [h]
    have e0 : (fun j => (Array.replicate ops.size false).getD j false) = fun _ => false := by
      funext j; simpa using hf j
    exact ⟨by rw [e0]; exact hS, rfl, rfl, fun _ _ => rfl, fun i t h => absurd h (hf i), fun j o _ h => absurd h (hf j)⟩
end
end Go.Proofs.Ytbdlmcpdplmdnaa.RegVal
