/-
  A region that leaves its order open, by what holds of each operation's value: each operation is looked at once, in whatever order they come; an operation that leaves no value is told of, too, and keeps only what can have come ahead of it. Nothing of the program is named here.
-/
import Derived.Orders
import Derived.WalkKit
namespace Go.Proofs.Ytlamdgdegmjljaa.RegAct
open Go

/-- Where an operation leaves its value. -/
def dstOf (ops : Array Oper) (i : Nat) : Option Tmp := (ops[i]?).bind (·.dst)
/-- How many have not come up. -/
def left (ops : Array Oper) (listed : Array Bool) : Nat := ((List.range ops.size).filter fun i => !listed.getD i true).length

section
variable {P : Program} {ops : Array Oper} {Q : Exit → Act → World → Prop} {md : Region.Mode}

theorem filter_less {p q : Nat → Bool} (i : Nat) (hp : p i = true) (hq : q i = false) (hn : ∀ j, j ≠ i → q j = p j) : ∀ (l : List Nat), l.Nodup → i ∈ l → (l.filter q).length + 1 = (l.filter p).length := by
  intro l
  induction l with
  | nil => intro _ h; simp at h
  | cons a r ih =>
    intro hd hi
    obtain ⟨h1, h2⟩ := List.nodup_cons.1 hd
    by_cases e : a = i
    · subst e
      have : r.filter q = r.filter p := List.filter_congr (fun j hj => hn j (by rintro rfl; exact h1 hj))
      simp [hp, hq, this]
    · have hi' : i ∈ r := by
        rcases List.mem_cons.1 hi with h | h
        · exact absurd h.symm e
        · exact h
      have := ih h2 hi'
      by_cases hpa : p a
      · simp [hpa, hn a e]; omega
      · simp [hpa, hn a e]; omega

theorem left_set (listed : Array Bool) (hs : listed.size = ops.size) (i : Nat) (hi : i ∈ Region.ready md ops listed) : left ops (listed.setIfInBounds i true) + 1 = left ops listed := by
  obtain ⟨h0, o, ho, _⟩ := mem_ready.1 hi
  have hlt : i < ops.size := (Array.getElem?_eq_some_iff.1 ho).1
  unfold left
  refine filter_less i (by simp [h0]) ?_ ?_ _ List.nodup_range (List.mem_range.2 hlt)
  · have : i < listed.size := by omega
    simp [this]
  · intro j hj
    rw [getD_set_ne true (Ne.symm hj)]

theorem all_of_none (hd2 : ∀ i o, ops[i]? = some o → ∀ e ∈ o.after, Region.binds md e = true → e.on < i) (listed : Array Bool) (hs : listed.size = ops.size) (h : Region.ready md ops listed = []) :
    ∀ i, i < ops.size → listed.getD i false = true := by
  intro i
  induction i using Nat.strongRecOn with
  | ind i ih =>
    intro hi
    apply Classical.byContradiction
    intro hn
    have hi' : i < listed.size := by omega
    have h0 : listed.getD i true = false := by
      simp [hi'] at hn ⊢; exact hn
    obtain ⟨o, ho⟩ : ∃ o, ops[i]? = some o := ⟨ops[i], by simp [hi]⟩
    have : i ∈ Region.ready md ops listed := mem_ready.2 ⟨h0, o, ho, fun e he hb => by
      have hlt := hd2 i o ho e he hb
      exact ih e.on hlt (by omega)⟩
    rw [h] at this
    cases this

theorem none_of_left (listed : Array Bool) (h : left ops listed = 0) : Region.ready md ops listed = [] := by
  apply List.eq_nil_iff_forall_not_mem.2
  intro i hi
  obtain ⟨h0, o, ho, _⟩ := mem_ready.1 hi
  have hlt : i < ops.size := (Array.getElem?_eq_some_iff.1 ho).1
  unfold left at h
  have := List.length_eq_zero_iff.1 h
  have hm : i ∈ (List.range ops.size).filter fun i => !listed.getD i true := List.mem_filter.2 ⟨List.mem_range.2 hlt, by simp [h0]⟩
  rw [this] at hm
  cases hm

/-- Is it for a value that it is waited? -/
def byValue : Ground → Bool
  | .data => true
  | .guard => true
  | _ => false
/-- Does m ask for what j left? -/
def asks (md : Region.Mode) (ops : Array Oper) (m j : Nat) : Bool := ((ops[m]?).map fun o => o.after.toList.any fun e => Region.binds md e && byValue e.ground && e.on == j).getD false
theorem asks_iff {md : Region.Mode} {ops : Array Oper} {m j : Nat} : asks md ops m j = true ↔ ∃ o, ops[m]? = some o ∧ ∃ e ∈ o.after, Region.binds md e = true ∧ byValue e.ground = true ∧ e.on = j := by
  unfold asks
  cases ho : ops[m]? with
  | none => simp
  | some o =>
    simp only [Option.map_some, Option.getD_some, List.any_eq_true, Bool.and_eq_true, beq_iff_eq, Option.some.injEq, exists_eq_left']
    constructor
    · rintro ⟨e, he, ⟨h1, h2⟩, h3⟩; exact ⟨e, Array.mem_toList_iff.1 he, h1, h2, h3⟩
    · rintro ⟨e, he, h1, h2, h3⟩; exact ⟨e, Array.mem_toList_iff.2 he, ⟨h1, h2⟩, h3⟩
/-- Does m wait for j? -/
def waits (md : Region.Mode) (ops : Array Oper) (m j : Nat) : Bool := ((ops[m]?).map fun o => o.after.toList.any fun e => Region.binds md e && e.on == j).getD false
theorem waits_iff {md : Region.Mode} {ops : Array Oper} {m j : Nat} : waits md ops m j = true ↔ ∃ o, ops[m]? = some o ∧ ∃ e ∈ o.after, Region.binds md e = true ∧ e.on = j := by
  unfold waits
  cases ho : ops[m]? with
  | none => simp
  | some o =>
    simp only [Option.map_some, Option.getD_some, List.any_eq_true, Bool.and_eq_true, beq_iff_eq, Option.some.injEq, exists_eq_left']
    constructor
    · rintro ⟨e, he, h⟩; exact ⟨e, Array.mem_toList_iff.1 he, h⟩
    · rintro ⟨e, he, h⟩; exact ⟨e, Array.mem_toList_iff.2 he, h⟩
/-- Is what j left asked for behind i, by one that i does not wait for? -/
def needed (md : Region.Mode) (ops : Array Oper) (i j : Nat) : Bool := i != j && (List.range ops.size).any fun m => m != i && asks md ops m j && !waits md ops i m
theorem needed_of {md : Region.Mode} {ops : Array Oper} {i j m : Nat} (h1 : i ≠ j) (h2 : m ≠ i) (h3 : asks md ops m j = true) (h4 : waits md ops i m ≠ true) : needed md ops i j = true := by
  unfold needed
  simp only [bne_iff_ne, ne_eq, h1, not_false_eq_true, Bool.and_eq_true, List.any_eq_true, Bool.not_eq_true']
  refine ⟨by simp, m, ?_, ⟨by simp [h2], h3⟩, by simpa using h4⟩
  obtain ⟨o, ho, _⟩ := asks_iff.1 h3
  exact List.mem_range.2 (Array.getElem?_eq_some_iff.1 ho).1

/-- Can j have come ahead of i? Not where it is i, or waits for it. -/
def mayLead (md : Region.Mode) (ops : Array Oper) (i j : Nat) : Bool := i != j && ((ops[j]?).map fun o => o.after.toList.all fun e => !Region.binds md e || e.on != i).getD true
theorem lead_of {md : Region.Mode} {ops : Array Oper} {i j : Nat} (h1 : i ≠ j) (h2 : ∀ o, ops[j]? = some o → ∀ e ∈ o.after, Region.binds md e = true → e.on ≠ i) : mayLead md ops i j = true := by
  unfold mayLead
  simp only [bne_iff_ne, ne_eq, h1, not_false_eq_true, Bool.and_eq_true]
  refine ⟨by simp, ?_⟩
  cases ho : ops[j]? with
  | none => rfl
  | some o =>
    simp only [Option.map_some, Option.getD_some]
    rw [List.all_eq_true]
    intro e he
    have := h2 o ho e (Array.mem_toList_iff.1 he)
    cases hb : Region.binds md e with
    | true => simp [this hb]
    | false => simp

/-- What is so on the way. -/
structure Inv (md : Region.Mode) (ops : Array Oper) (a1 : Act) (use fin : Nat → Value → World → Prop) (S : (Nat → Bool) → Act → World → Prop) (listed : Array Bool) (a : Act) (w : World) : Prop where
  s : S (fun j => listed.getD j false) a w
  defers : a.defers = a1.defers
  size : a.tmps.size = a1.tmps.size
  same : ∀ t, (∀ i, listed.getD i false = true → dstOf ops i ≠ some t) → a.tmps[t]? = a1.tmps[t]?
  done : ∀ i, listed.getD i false = true → ∃ v, (∀ t, dstOf ops i = some t → a.tmps[t]? = some v) ∧ fin i v w ∧ ((∃ m, listed.getD m false ≠ true ∧ asks md ops m i = true) → use i v w)
  closed : ∀ j o, ops[j]? = some o → listed.getD j false = true → ∀ e ∈ o.after, Region.binds md e = true → listed.getD e.on false = true

/-- EACH OPERATION ONCE: if each, where what it waits for has left what it should, leaves what it should and keeps what the others left, then so does any order. -/
theorem wpAny_inv (a1 : Act) (use fin : Nat → Value → World → Prop) (S : (Nat → Bool) → Act → World → Prop)
    (hd1 : ∀ i j t, dstOf ops i = some t → dstOf ops j = some t → i = j)
    (hd2 : ∀ i o, ops[i]? = some o → ∀ e ∈ o.after, Region.binds md e = true → e.on < i)
    (hd3 : ∀ i t, dstOf ops i = some t → t < a1.tmps.size)
    (hstep : ∀ i o, ops[i]? = some o → ∀ (ℓ : Nat → Bool) a w, ℓ i = false → (∀ m j, waits md ops m j = true → ℓ m = true → ℓ j = true) → (∀ j, waits md ops i j = true → ℓ j = true) → a.tmps.size = a1.tmps.size → S ℓ a w → (∀ t, (∀ j, dstOf ops j ≠ some t) → a.tmps[t]? = a1.tmps[t]?) →
      (∀ e ∈ o.after, Region.binds md e = true → byValue e.ground = true → ∀ t, dstOf ops e.on = some t → ∃ v, a.tmps[t]? = some v ∧ use e.on v w) →
      Region.wanted o (yielded ops a.tmps) = true ∧ o.wp P a w (fun a' w' => ∃ v, a' = a.put o.dst v ∧ use i v w' ∧ fin i v w' ∧ S (fun j => if j = i then true else ℓ j) (a.put o.dst v) w' ∧ (∀ j u, needed md ops i j = true → use j u w → use j u w') ∧ ∀ j u, mayLead md ops i j = true → fin j u w → fin j u w') Q)
    (hend : ∀ a w, a.defers = a1.defers → a.tmps.size = a1.tmps.size → (∀ t, (∀ i, dstOf ops i ≠ some t) → a.tmps[t]? = a1.tmps[t]?) →
      (∀ i, i < ops.size → ∃ v, (∀ t, dstOf ops i = some t → a.tmps[t]? = some v) ∧ fin i v w) → (∃ ℓ, (∀ i, i < ops.size → ℓ i = true) ∧ S ℓ a w) → Q .normal a w) :
    ∀ (fuel : Nat) (listed : Array Bool) (a : Act) (w : World), listed.size = ops.size → left ops listed ≤ fuel → Inv md ops a1 use fin S listed a w → wpAny P md ops Q fuel listed a w := by
  have hfin : ∀ (listed : Array Bool) (a : Act) (w : World), listed.size = ops.size → Inv md ops a1 use fin S listed a w → Region.ready md ops listed = [] → Q .normal a w := by
    intro listed a w hs I hr
    have hall := all_of_none hd2 listed hs hr
    exact hend a w I.defers I.size (fun t ht => I.same t fun i _ => ht i) (fun i h => by obtain ⟨v, h1, h2, _⟩ := I.done i (hall i h); exact ⟨v, h1, h2⟩) ⟨_, hall, I.s⟩
  intro fuel
  induction fuel with
  | zero =>
    intro listed a w hs hl I
    have hr := none_of_left (ops := ops) (md := md) listed (by omega)
    exact ⟨hr, hfin listed a w hs I hr⟩
  | succ fuel ih =>
    intro listed a w hs hl I
    refine ⟨hfin listed a w hs I, fun i hi => ?_⟩
    have hcount := left_set listed hs i hi
    obtain ⟨h0, o, ho, hdeps⟩ := mem_ready.1 hi
    have hlt : i < ops.size := (Array.getElem?_eq_some_iff.1 ho).1
    have hni : listed.getD i false ≠ true := by
      have : i < listed.size := by omega
      simp [this] at h0 ⊢; exact h0
    obtain ⟨hw, hwp⟩ := hstep i o ho (fun j => listed.getD j false) a w (by simpa using hni) (fun m j hm hl => by
      obtain ⟨o', ho', e, he, hb, rfl⟩ := waits_iff.1 hm
      exact I.closed m o' ho' hl e he hb) (fun j hm => by
      obtain ⟨o', ho', e, he, hb, rfl⟩ := waits_iff.1 hm
      rw [ho] at ho'
      cases ho'
      exact hdeps e he hb) I.size I.s (fun t ht => I.same t fun j _ => ht j) (fun e he hb hv t ht => by obtain ⟨v, h1, _, h2⟩ := I.done e.on (hdeps e he hb); exact ⟨v, h1 t ht, h2 ⟨i, hni, asks_iff.2 ⟨o, ho, e, he, hb, hv, rfl⟩⟩⟩)
    unfold wpOp
    simp only [ho, hw, if_true]
    refine .inl (Oper.wp_mono ?_ hwp)
    rintro a' w' ⟨v, rfl, hv, hvf, hS, hku, hk⟩
    refine ih _ _ _ (by simpa using hs) (by omega) ?_
    have hnew : ∀ j, (listed.setIfInBounds i true).getD j false = true → j = i ∨ listed.getD j false = true := by
      intro j hj
      by_cases e : i = j
      · exact .inl e.symm
      · rw [getD_set_ne false e] at hj; exact .inr hj
    have hold : ∀ j, listed.getD j false = true → (listed.setIfInBounds i true).getD j false = true := fun j hj => getD_set_true hj
    have hme : (listed.setIfInBounds i true).getD i false = true := by
      have : i < listed.size := by omega
      simp [this]
    have hdst : dstOf ops i = o.dst := by unfold dstOf; rw [ho]; rfl
    have hcl : ∀ j o, ops[j]? = some o → (listed.setIfInBounds i true).getD j false = true → ∀ e ∈ o.after, Region.binds md e = true → (listed.setIfInBounds i true).getD e.on false = true := by
      intro j o' ho' hj e he hb
      rcases hnew j hj with rfl | hj
      · rw [ho] at ho'
        cases ho'
        exact hold _ (hdeps e he hb)
      · exact hold _ (I.closed j o' ho' hj e he hb)
    have hah : ∀ j, listed.getD j false = true → mayLead md ops i j = true := by
      intro j hj
      refine lead_of (by rintro rfl; exact hni hj) fun o' ho' e he hb h => ?_
      exact hni (h ▸ I.closed j o' ho' hj e he hb)
    have hnx : ∀ j u, listed.getD j false = true → fin j u w → ((∃ m, listed.getD m false ≠ true ∧ asks md ops m j = true) → use j u w) →
        fin j u w' ∧ ((∃ m, (listed.setIfInBounds i true).getD m false ≠ true ∧ asks md ops m j = true) → use j u w') := by
      intro j u hj hf hu
      refine ⟨hk j u (hah j hj) hf, ?_⟩
      rintro ⟨m, hm1, hm2⟩
      have hmi : m ≠ i := by rintro rfl; exact hm1 hme
      have hml : listed.getD m false ≠ true := fun h => hm1 (hold m h)
      refine hku j u (needed_of (by rintro rfl; exact hni hj) hmi hm2 ?_) (hu ⟨m, hml, hm2⟩)
      intro h
      obtain ⟨o', ho', e, he, hb, rfl⟩ := waits_iff.1 h
      rw [ho] at ho'
      cases ho'
      exact hml (hdeps e he hb)
    have hS' : S (fun j => (listed.setIfInBounds i true).getD j false) (a.put o.dst v) w' := by
      have e : (fun j => (listed.setIfInBounds i true).getD j false) = fun j => if j = i then true else listed.getD j false := by
        funext j
        by_cases hj : j = i
        · rw [if_pos hj, hj]; exact hme
        · rw [if_neg hj, getD_set_ne false (Ne.symm hj)]
      rw [e]; exact hS
    cases hd : o.dst with
    | none =>
      rw [hd] at hS'
      show Inv md ops a1 use fin S _ a w'
      exact ⟨hS', I.defers, I.size, fun t ht => I.same t fun j hj => ht j (hold j hj), fun j hj => by
        rcases hnew j hj with rfl | hj
        · exact ⟨v, fun t ht => (by rw [hdst, hd] at ht; cases ht), hvf, fun _ => hv⟩
        · obtain ⟨u, hu, hf, hv⟩ := I.done j hj
          exact ⟨u, hu, hnx j u hj hf hv⟩, hcl⟩
    | some t0 =>
      rw [hd] at hS'
      have ht0 : t0 < a.tmps.size := by rw [I.size]; exact hd3 i t0 (by rw [hdst, hd])
      show Inv md ops a1 use fin S _ { a with tmps := a.tmps.setIfInBounds t0 v } w'
      refine ⟨hS', I.defers, by simpa using I.size, fun t ht => ?_, fun j hj => ?_, hcl⟩
      · have hne : t0 ≠ t := by
          rintro rfl
          exact ht i hme (by rw [hdst, hd])
        show (a.tmps.setIfInBounds t0 v)[t]? = _
        rw [Array.getElem?_setIfInBounds_ne hne]
        exact I.same t fun j hj => ht j (hold j hj)
      · rcases hnew j hj with rfl | hj
        · refine ⟨v, fun t ht => ?_, hvf, fun _ => hv⟩
          rw [hdst, hd] at ht
          cases ht
          show (a.tmps.setIfInBounds t0 v)[t0]? = _; simp [ht0]
        · obtain ⟨u, hu, hf, hv2⟩ := I.done j hj
          refine ⟨u, fun t ht => ?_, hnx j u hj hf hv2⟩
          have hne : t0 ≠ t := by
            rintro rfl
            have := hd1 i j t0 (by rw [hdst, hd]) ht
            subst this
            exact hni hj
          show (a.tmps.setIfInBounds t0 v)[t]? = _
          rw [Array.getElem?_setIfInBounds_ne hne]
          exact hu t ht

/-- The same, from the region's beginning. -/
theorem region_inv {id : Nat} {a1 : Act} {w : World} (hm : P.follows .mixedOrders = true) (use fin : Nat → Value → World → Prop) (S : (Nat → Bool) → Act → World → Prop)
    (hd1 : ∀ i j t, dstOf ops i = some t → dstOf ops j = some t → i = j)
    (hd2 : ∀ i o, ops[i]? = some o → ∀ e ∈ o.after, Region.binds .any e = true → e.on < i)
    (hd3 : ∀ i t, dstOf ops i = some t → t < a1.tmps.size)
    (hS : S (fun _ => false) a1 w.drew)
    (hstep : ∀ i o, ops[i]? = some o → ∀ (ℓ : Nat → Bool) a w, ℓ i = false → (∀ m j, waits .any ops m j = true → ℓ m = true → ℓ j = true) → (∀ j, waits .any ops i j = true → ℓ j = true) → a.tmps.size = a1.tmps.size → S ℓ a w → (∀ t, (∀ j, dstOf ops j ≠ some t) → a.tmps[t]? = a1.tmps[t]?) →
      (∀ e ∈ o.after, Region.binds .any e = true → byValue e.ground = true → ∀ t, dstOf ops e.on = some t → ∃ v, a.tmps[t]? = some v ∧ use e.on v w) →
      Region.wanted o (yielded ops a.tmps) = true ∧ o.wp P a w (fun a' w' => ∃ v, a' = a.put o.dst v ∧ use i v w' ∧ fin i v w' ∧ S (fun j => if j = i then true else ℓ j) (a.put o.dst v) w' ∧ (∀ j u, needed .any ops i j = true → use j u w → use j u w') ∧ ∀ j u, mayLead .any ops i j = true → fin j u w → fin j u w') Q)
    (hend : ∀ a w, a.defers = a1.defers → a.tmps.size = a1.tmps.size → (∀ t, (∀ i, dstOf ops i ≠ some t) → a.tmps[t]? = a1.tmps[t]?) →
      (∀ i, i < ops.size → ∃ v, (∀ t, dstOf ops i = some t → a.tmps[t]? = some v) ∧ fin i v w) → (∃ ℓ, (∀ i, i < ops.size → ℓ i = true) ∧ S ℓ a w) → Q .normal a w) :
    (Code.region id ops true).wp P Q a1 w := by
  refine wp_region_any hm (wpAny_inv a1 use fin S hd1 hd2 hd3 hstep hend _ _ _ _ (by simp) ?_ ?_)
  · unfold left
    refine Nat.le_trans (List.length_filter_le _ _) ?_
    simp
  · have hf : ∀ i, (Array.replicate ops.size false).getD i false ≠ true := by
      intro i
      by_cases h : i < ops.size <;> simp [h]
    have e0 : (fun j => (Array.replicate ops.size false).getD j false) = fun _ => false := by
      funext j; simpa using hf j
    exact ⟨by rw [e0]; exact hS, rfl, rfl, fun _ _ => rfl, fun i h => absurd h (hf i), fun j o _ h => absurd h (hf j)⟩

/-! ### The side conditions, to be computed; the operations, one by one. -/

def okDst (ops : Array Oper) : Bool := (List.range ops.size).all fun i => (List.range ops.size).all fun j => i == j || dstOf ops i == none || dstOf ops i != dstOf ops j
def okDep (md : Region.Mode) (ops : Array Oper) : Bool := (List.range ops.size).all fun i => ((ops[i]?).map fun o => o.after.toList.all fun e => !Region.binds md e || decide (e.on < i)).getD true
def okSize (n : Nat) (ops : Array Oper) : Bool := (List.range ops.size).all fun i => ((dstOf ops i).map fun t => decide (t < n)).getD true
def notDst (ops : Array Oper) (t : Tmp) : Bool := (List.range ops.size).all fun i => dstOf ops i != some t

theorem dst_lt {i t : Nat} (h : dstOf ops i = some t) : i < ops.size := by
  apply Classical.byContradiction
  intro hn
  unfold dstOf at h
  rw [Array.getElem?_eq_none (Nat.le_of_not_lt hn)] at h
  cases h
theorem okDst_spec (h : okDst ops = true) : ∀ i j t, dstOf ops i = some t → dstOf ops j = some t → i = j := by
  intro i j t hi hj
  unfold okDst at h
  rw [List.all_eq_true] at h
  have h1 := h i (List.mem_range.2 (dst_lt hi))
  rw [List.all_eq_true] at h1
  have h2 := h1 j (List.mem_range.2 (dst_lt hj))
  rw [hi, hj] at h2
  simpa using h2
theorem okDep_spec (h : okDep md ops = true) : ∀ i o, ops[i]? = some o → ∀ e ∈ o.after, Region.binds md e = true → e.on < i := by
  intro i o ho e he hb
  unfold okDep at h
  rw [List.all_eq_true] at h
  have h1 := h i (List.mem_range.2 (Array.getElem?_eq_some_iff.1 ho).1)
  rw [ho] at h1
  simp only [Option.map_some, Option.getD_some] at h1
  rw [List.all_eq_true] at h1
  have h2 := h1 e (Array.mem_toList_iff.2 he)
  rw [hb] at h2
  simpa using h2
theorem okSize_spec {n : Nat} (h : okSize n ops = true) : ∀ i t, dstOf ops i = some t → t < n := by
  intro i t hi
  unfold okSize at h
  rw [List.all_eq_true] at h
  have h1 := h i (List.mem_range.2 (dst_lt hi))
  rw [hi] at h1
  simpa using h1
theorem notDst_spec {t : Tmp} (h : notDst ops t = true) : ∀ j, dstOf ops j ≠ some t := by
  intro j hj
  unfold notDst at h
  rw [List.all_eq_true] at h
  have h1 := h j (List.mem_range.2 (dst_lt hj))
  rw [hj] at h1
  simp at h1

/-- What m waits for, by whatever way. -/
def downs (ops : Array Oper) (m : Nat) : List Nat := (List.range m).reverse.foldl (fun R j => if R.any (fun r => waits .any ops r j) then j :: R else R) [m]
def reach (ops : Array Oper) (m i : Nat) : Bool := (downs ops m).contains i
theorem downs_spec {ℓ : Nat → Bool} (hc : ∀ m j, waits .any ops m j = true → ℓ m = true → ℓ j = true) (m : Nat) (hm : ℓ m = true) : ∀ j ∈ downs ops m, ℓ j = true := by
  have key : ∀ (l R : List Nat), (∀ j ∈ R, ℓ j = true) → ∀ j ∈ l.foldl (fun R j => if R.any (fun r => waits .any ops r j) then j :: R else R) R, ℓ j = true := by
    intro l
    induction l with
    | nil => intro R h; exact h
    | cons x l ih =>
      intro R h
      refine ih _ ?_
      show ∀ j ∈ (if R.any (fun r => waits .any ops r x) then x :: R else R), ℓ j = true
      by_cases hx : R.any (fun r => waits .any ops r x) = true
      · rw [if_pos hx]
        intro j hj
        rcases List.mem_cons.1 hj with rfl | hj
        · obtain ⟨r, hr, hw⟩ := List.any_eq_true.1 hx
          exact hc r j hw (h r hr)
        · exact h j hj
      · rw [if_neg hx]; exact h
  exact key _ _ (by simpa using hm)

/-- What is asked of one operation. -/
def StepOk (P : Program) (ops : Array Oper) (Q : Exit → Act → World → Prop) (a1 : Act) (use fin : Nat → Value → World → Prop) (S : (Nat → Bool) → Act → World → Prop) (i : Nat) (o : Oper) : Prop :=
  ∀ (ℓ : Nat → Bool) a w, ℓ i = false → (∀ m, reach ops m i = true → ℓ m = false) → (∀ j, waits .any ops i j = true → ℓ j = true) → a.tmps.size = a1.tmps.size → S ℓ a w → (∀ t, notDst ops t = true → a.tmps[t]? = a1.tmps[t]?) →
    (∀ e ∈ o.after, Region.binds .any e = true → byValue e.ground = true → ∀ t, dstOf ops e.on = some t → ∃ v, a.tmps[t]? = some v ∧ use e.on v w) →
    Region.wanted o (yielded ops a.tmps) = true ∧ ∀ K : Act → World → Prop, (∀ v w', use i v w' → fin i v w' → S (fun j => if j = i then true else ℓ j) (a.put o.dst v) w' → (∀ j u, needed .any ops i j = true → use j u w → use j u w') → (∀ j u, mayLead .any ops i j = true → fin j u w → fin j u w') → K (a.put o.dst v) w') → o.wp P a w K Q
def StepsOk (P : Program) (ops : Array Oper) (Q : Exit → Act → World → Prop) (a1 : Act) (use fin : Nat → Value → World → Prop) (S : (Nat → Bool) → Act → World → Prop) : Nat → List Oper → Prop
  | _, [] => True
  | i, o :: r => StepOk P ops Q a1 use fin S i o ∧ StepsOk P ops Q a1 use fin S (i + 1) r
theorem StepsOk.get {a1 : Act} {use fin : Nat → Value → World → Prop} {S : (Nat → Bool) → Act → World → Prop} : ∀ (l : List Oper) (k i : Nat) (o : Oper), StepsOk P ops Q a1 use fin S k l → l[i]? = some o → StepOk P ops Q a1 use fin S (k + i) o
  | [], _, _, _, _, h => by simp at h
  | x :: r, k, 0, o, ⟨h1, _⟩, h => by
    simp at h; subst h; exact h1
  | x :: r, k, i + 1, o, ⟨_, h2⟩, h => by
    have := StepsOk.get r (k + 1) i o h2 (by simpa using h)
    rw [show k + (i + 1) = k + 1 + i by omega]
    exact this

theorem wanted_none {o : Oper} {f : Nat → Option Bool} (h : o.guard = none) : Region.wanted o f = true := by
  unfold Region.wanted; rw [h]
theorem wanted_guard {o : Oper} {a : Act} {j : Nat} {b : Bool} {t : Tmp} (h : o.guard = some (j, b)) (hd : dstOf ops j = some t) (ht : a.tmps[t]? = some (.bool b)) : Region.wanted o (yielded ops a.tmps) = true := by
  have hy : yielded ops a.tmps j = some b := by
    unfold yielded
    have : (ops[j]?).bind (·.dst) = some t := hd
    rw [this]
    show (match a.tmps[t]? with | some (.bool b) => some b | _ => none) = _
    rw [ht]
  unfold Region.wanted
  rw [h]
  simp [hy]

theorem region_ops {id n : Nat} {a1 : Act} {w : World} (hm : P.follows .mixedOrders = true) (use fin : Nat → Value → World → Prop) (S : (Nat → Bool) → Act → World → Prop)
    (h1 : okDst ops = true) (h2 : okDep .any ops = true) (hn : a1.tmps.size = n) (h3 : okSize n ops = true) (hS : S (fun _ => false) a1 w.drew) (hsteps : StepsOk P ops Q a1 use fin S 0 ops.toList)
    (hend : ∀ a w, a.defers = a1.defers → a.tmps.size = a1.tmps.size → (∀ t, notDst ops t = true → a.tmps[t]? = a1.tmps[t]?) →
      (∀ i, i < ops.size → ∃ v, (∀ t, dstOf ops i = some t → a.tmps[t]? = some v) ∧ fin i v w) → (∃ ℓ, (∀ i, i < ops.size → ℓ i = true) ∧ S ℓ a w) → Q .normal a w) :
    (Code.region id ops true).wp P Q a1 w := by
  subst hn
  refine region_inv hm use fin S (okDst_spec h1) (okDep_spec h2) (okSize_spec h3) hS ?_ ?_
  · intro i o ho ℓ a w hl hc hd hz hw hsame hdeps
    have hg := StepsOk.get ops.toList 0 i o hsteps (by rw [Array.getElem?_toList]; exact ho)
    rw [Nat.zero_add] at hg
    obtain ⟨x, y⟩ := hg ℓ a w hl (fun m hm => by
      cases h : ℓ m with
      | false => rfl
      | true =>
        have := downs_spec hc m h i (by unfold reach at hm; simpa using hm)
        rw [hl] at this
        cases this) hd hz hw (fun t ht => hsame t (notDst_spec ht)) hdeps
    exact ⟨x, y _ fun v w' p q r x y => ⟨v, rfl, p, q, r, x, y⟩⟩
  · intro a w hd hz hsame hdone hs
    exact hend a w hd hz (fun t ht => hsame t (notDst_spec ht)) hdone hs

/-- A frame, slot by slot. -/
theorem arr_all (tm : Array Value) (n : Nat) (h : tm.size = n) : tm = ((List.range n).map fun j => tm.getD j undef).toArray := by
  subst h
  apply Array.ext_getElem?
  intro j
  by_cases hj : j < tm.size
  · simp [hj]
  · rw [Array.getElem?_eq_none (by omega), Array.getElem?_eq_none (by simp; omega)]
theorem getD_same {tm : Array Value} {t : Nat} {v : Value} (h : tm[t]? = some v) : tm.getD t undef = v := by
  rw [Array.getD_eq_getD_getElem?, h]; rfl

end
end Go.Proofs.Ytlamdgdegmjljaa.RegAct
