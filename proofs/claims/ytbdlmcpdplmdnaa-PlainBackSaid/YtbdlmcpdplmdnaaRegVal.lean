/-
  A region that leaves its order open, where each operation leaves one value that is known ahead: all operations by one block of tactics. Nothing of the program is named here.
-/
import Derived.Orders
import Derived.WalkKit
namespace Go.Proofs.Ytbdlmcpdplmdnaa.RegVal
open Go

/-- Where an operation leaves its value. -/
def dstOf (ops : Array Oper) (i : Nat) : Option Tmp := (ops[i]?).bind (·.dst)
/-- How many have not come up. -/
def left (ops : Array Oper) (listed : Array Bool) : Nat := ((List.range ops.size).filter fun i => !listed.getD i true).length

section
variable {P : Program} {ops : Array Oper} {Q : Exit → Act → World → Prop} {md : Region.Mode}

theorem filter_less {p q : Nat → Bool} (i : Nat) (hp : p i = true) (hq : q i = false) (hn : ∀ j, j ≠ i → q j = p j) : ∀ (l : List Nat), l.Nodup → i ∈ l → (l.filter q).length + 1 = (l.filter p).length := by
  intro l
  induction l with
  | nil => intro _ h; simp at h
  | cons a r ih =>
    intro hd hi
    obtain ⟨h1, h2⟩ := List.nodup_cons.1 hd
    by_cases e : a = i
    · subst e
      have : r.filter q = r.filter p := List.filter_congr (fun j hj => hn j (by rintro rfl; exact h1 hj))
      simp [hp, hq, this]
    · have hi' : i ∈ r := by
        rcases List.mem_cons.1 hi with h | h
        · exact absurd h.symm e
        · exact h
      have := ih h2 hi'
      by_cases hpa : p a
      · simp [hpa, hn a e]; omega
      · simp [hpa, hn a e]; omega

theorem left_set (listed : Array Bool) (hs : listed.size = ops.size) (i : Nat) (hi : i ∈ Region.ready md ops listed) : left ops (listed.setIfInBounds i true) + 1 = left ops listed := by
  obtain ⟨h0, o, ho, _⟩ := mem_ready.1 hi
  have hlt : i < ops.size := (Array.getElem?_eq_some_iff.1 ho).1
  unfold left
  refine filter_less i (by simp [h0]) ?_ ?_ _ List.nodup_range (List.mem_range.2 hlt)
  · have : i < listed.size := by omega
    simp [this]
  · intro j hj
    rw [getD_set_ne true (Ne.symm hj)]

theorem all_of_none (hd2 : ∀ i o, ops[i]? = some o → ∀ e ∈ o.after, Region.binds md e = true → e.on < i) (listed : Array Bool) (hs : listed.size = ops.size) (h : Region.ready md ops listed = []) :
    ∀ i, i < ops.size → listed.getD i false = true := by
  intro i
  induction i using Nat.strongRecOn with
  | ind i ih =>
    intro hi
    apply Classical.byContradiction
    intro hn
    have hi' : i < listed.size := by omega
    have h0 : listed.getD i true = false := by
      simp [hi'] at hn ⊢; exact hn
    obtain ⟨o, ho⟩ : ∃ o, ops[i]? = some o := ⟨ops[i], by simp [hi]⟩
    have : i ∈ Region.ready md ops listed := mem_ready.2 ⟨h0, o, ho, fun e he hb => by
      have hlt := hd2 i o ho e he hb
      exact ih e.on hlt (by omega)⟩
    rw [h] at this
    cases this

theorem none_of_left (listed : Array Bool) (h : left ops listed = 0) : Region.ready md ops listed = [] := by
  apply List.eq_nil_iff_forall_not_mem.2
  intro i hi
  obtain ⟨h0, o, ho, _⟩ := mem_ready.1 hi
  have hlt : i < ops.size := (Array.getElem?_eq_some_iff.1 ho).1
  unfold left at h
  have := List.length_eq_zero_iff.1 h
  have hm : i ∈ (List.range ops.size).filter fun i => !listed.getD i true := List.mem_filter.2 ⟨List.mem_range.2 hlt, by simp [h0]⟩
  rw [this] at hm
  cases hm

/-- What is so on the way. -/
structure Inv (ops : Array Oper) (a1 : Act) (V : Nat → Value) (S : (Nat → Bool) → World → Prop) (listed : Array Bool) (a : Act) (w : World) : Prop where
  s : S (fun j => listed.getD j false) w
  defers : a.defers = a1.defers
  size : a.tmps.size = a1.tmps.size
  same : ∀ t, (∀ i, listed.getD i false = true → dstOf ops i ≠ some t) → a.tmps[t]? = a1.tmps[t]?
  done : ∀ i t, listed.getD i false = true → dstOf ops i = some t → a.tmps[t]? = some (V i)

/-- EACH OPERATION ONCE: if each, where what it waits for has left its value, leaves its own, then so does any order. -/
theorem wpAny_inv (a1 : Act) (V : Nat → Value) (S : (Nat → Bool) → World → Prop)
    (hd1 : ∀ i j t, dstOf ops i = some t → dstOf ops j = some t → i = j)
    (hd2 : ∀ i o, ops[i]? = some o → ∀ e ∈ o.after, Region.binds md e = true → e.on < i)
    (hd3 : ∀ i t, dstOf ops i = some t → t < a1.tmps.size)
    (hstep : ∀ i o, ops[i]? = some o → ∀ (ℓ : Nat → Bool) a w, ℓ i = false → S ℓ w → (∀ e ∈ o.after, Region.binds md e = true → ℓ e.on = true) → (∀ t, (∀ j, dstOf ops j ≠ some t) → a.tmps[t]? = a1.tmps[t]?) →
      (∀ e ∈ o.after, Region.binds md e = true → ∀ t, dstOf ops e.on = some t → a.tmps[t]? = some (V e.on)) →
      Region.wanted o (yielded ops a.tmps) = true ∧ o.wp P a w (fun a' w' => a' = a.put o.dst (V i) ∧ S (fun j => if j = i then true else ℓ j) w') Q)
    (hend : ∀ ℓ a w, (∀ i, i < ops.size → ℓ i = true) → S ℓ w → a.defers = a1.defers → a.tmps.size = a1.tmps.size → (∀ t, (∀ i, dstOf ops i ≠ some t) → a.tmps[t]? = a1.tmps[t]?) →
      (∀ i t, dstOf ops i = some t → a.tmps[t]? = some (V i)) → Q .normal a w) :
    ∀ (fuel : Nat) (listed : Array Bool) (a : Act) (w : World), listed.size = ops.size → left ops listed ≤ fuel → Inv ops a1 V S listed a w → wpAny P md ops Q fuel listed a w := by
  have hfin : ∀ (listed : Array Bool) (a : Act) (w : World), listed.size = ops.size → Inv ops a1 V S listed a w → Region.ready md ops listed = [] → Q .normal a w := by
    intro listed a w hs I hr
    have hall := all_of_none hd2 listed hs hr
    have hlt : ∀ i t, dstOf ops i = some t → i < ops.size := by
      intro i t h
      apply Classical.byContradiction
      intro hn
      unfold dstOf at h
      rw [Array.getElem?_eq_none (Nat.le_of_not_lt hn)] at h
      cases h
    exact hend _ a w hall I.s I.defers I.size (fun t ht => I.same t fun i _ => ht i) (fun i t h => I.done i t (hall i (hlt i t h)) h)
  intro fuel
  induction fuel with
  | zero =>
    intro listed a w hs hl I
    have hr := none_of_left (ops := ops) (md := md) listed (by omega)
    exact ⟨hr, hfin listed a w hs I hr⟩
  | succ fuel ih =>
    intro listed a w hs hl I
    refine ⟨hfin listed a w hs I, fun i hi => ?_⟩
    have hcount := left_set listed hs i hi
    obtain ⟨h0, o, ho, hdeps⟩ := mem_ready.1 hi
    have hlt : i < ops.size := (Array.getElem?_eq_some_iff.1 ho).1
    have hni : listed.getD i false = false := by
      have : i < listed.size := by omega
      simp [this] at h0 ⊢; exact h0
    obtain ⟨hw, hwp⟩ := hstep i o ho (fun j => listed.getD j false) a w hni I.s hdeps (fun t ht => I.same t fun j _ => ht j) (fun e he hb t ht => I.done e.on t (hdeps e he hb) ht)
    unfold wpOp
    simp only [ho, hw, if_true]
    refine .inl (Oper.wp_mono ?_ hwp)
    rintro a' w' ⟨rfl, hS⟩
    refine ih _ _ _ (by simpa using hs) (by omega) ?_
    have hnew : ∀ j, (listed.setIfInBounds i true).getD j false = true → j = i ∨ listed.getD j false = true := by
      intro j hj
      by_cases e : i = j
      · exact .inl e.symm
      · rw [getD_set_ne false e] at hj; exact .inr hj
    have hold : ∀ j, listed.getD j false = true → (listed.setIfInBounds i true).getD j false = true := fun j hj => getD_set_true hj
    have hme : (listed.setIfInBounds i true).getD i false = true := by
      have : i < listed.size := by omega
      simp [this]
    have hS' : S (fun j => (listed.setIfInBounds i true).getD j false) w' := by
      have : (fun j => (listed.setIfInBounds i true).getD j false) = fun j => if j = i then true else listed.getD j false := by
        funext j
        by_cases e : j = i
        · subst e; rw [if_pos rfl]; exact hme
        · rw [if_neg e, getD_set_ne false (Ne.symm e)]
      rw [this]; exact hS
    have hdst : dstOf ops i = o.dst := by unfold dstOf; rw [ho]; rfl
    cases hd : o.dst with
    | none =>
      show Inv ops a1 V S _ a w'
      exact ⟨hS', I.defers, I.size, fun t ht => I.same t fun j hj => ht j (hold j hj), fun j t hj ht => by
        rcases hnew j hj with rfl | hj
        · rw [hdst, hd] at ht; cases ht
        · exact I.done j t hj ht⟩
    | some t0 =>
      have ht0 : t0 < a.tmps.size := by rw [I.size]; exact hd3 i t0 (by rw [hdst, hd])
      show Inv ops a1 V S _ { a with tmps := a.tmps.setIfInBounds t0 (V i) } w'
      refine ⟨hS', I.defers, by simpa using I.size, fun t ht => ?_, fun j t hj ht => ?_⟩
      · have hne : t0 ≠ t := by
          rintro rfl
          exact ht i hme (by rw [hdst, hd])
        show (a.tmps.setIfInBounds t0 (V i))[t]? = _
        rw [Array.getElem?_setIfInBounds_ne hne]
        exact I.same t fun j hj => ht j (hold j hj)
      · rcases hnew j hj with rfl | hj
        · rw [hdst, hd] at ht
          cases ht
          show (a.tmps.setIfInBounds t0 (V j))[t0]? = _
          simp [ht0]
        · have hu := I.done j t hj ht
          have hne : t0 ≠ t := by
            rintro rfl
            have := hd1 i j t0 (by rw [hdst, hd]) ht
            subst this
            rw [hni] at hj
            cases hj
          show (a.tmps.setIfInBounds t0 (V i))[t]? = _
          rw [Array.getElem?_setIfInBounds_ne hne]
          exact hu

/-! ### The side conditions, to be computed; the operations, one by one. -/

def okDst (ops : Array Oper) : Bool := (List.range ops.size).all fun i => (List.range ops.size).all fun j => i == j || dstOf ops i == none || dstOf ops i != dstOf ops j
def okDep (md : Region.Mode) (ops : Array Oper) : Bool := (List.range ops.size).all fun i => ((ops[i]?).map fun o => o.after.toList.all fun e => !Region.binds md e || decide (e.on < i)).getD true
def okSize (n : Nat) (ops : Array Oper) : Bool := (List.range ops.size).all fun i => ((dstOf ops i).map fun t => decide (t < n)).getD true
def notDst (ops : Array Oper) (t : Tmp) : Bool := (List.range ops.size).all fun i => dstOf ops i != some t

theorem dst_lt {i t : Nat} (h : dstOf ops i = some t) : i < ops.size := by
  apply Classical.byContradiction
  intro hn
  unfold dstOf at h
  rw [Array.getElem?_eq_none (Nat.le_of_not_lt hn)] at h
  cases h
theorem okDst_spec (h : okDst ops = true) : ∀ i j t, dstOf ops i = some t → dstOf ops j = some t → i = j := by
  intro i j t hi hj
  unfold okDst at h
  rw [List.all_eq_true] at h
  have h1 := h i (List.mem_range.2 (dst_lt hi))
  rw [List.all_eq_true] at h1
  have h2 := h1 j (List.mem_range.2 (dst_lt hj))
  rw [hi, hj] at h2
  simpa using h2
theorem okDep_spec (h : okDep md ops = true) : ∀ i o, ops[i]? = some o → ∀ e ∈ o.after, Region.binds md e = true → e.on < i := by
  intro i o ho e he hb
  unfold okDep at h
  rw [List.all_eq_true] at h
  have h1 := h i (List.mem_range.2 (Array.getElem?_eq_some_iff.1 ho).1)
  rw [ho] at h1
  simp only [Option.map_some, Option.getD_some] at h1
  rw [List.all_eq_true] at h1
  have h2 := h1 e (Array.mem_toList_iff.2 he)
  rw [hb] at h2
  simpa using h2
theorem okSize_spec {n : Nat} (h : okSize n ops = true) : ∀ i t, dstOf ops i = some t → t < n := by
  intro i t hi
  unfold okSize at h
  rw [List.all_eq_true] at h
  have h1 := h i (List.mem_range.2 (dst_lt hi))
  rw [hi] at h1
  simpa using h1
theorem notDst_spec {t : Tmp} (h : notDst ops t = true) : ∀ j, dstOf ops j ≠ some t := by
  intro j hj
  unfold notDst at h
  rw [List.all_eq_true] at h
  have h1 := h j (List.mem_range.2 (dst_lt hj))
  rw [hj] at h1
  simp at h1

theorem wanted_none {o : Oper} {f : Nat → Option Bool} (h : o.guard = none) : Region.wanted o f = true := by
  unfold Region.wanted; rw [h]
theorem wanted_guard {o : Oper} {a : Act} {j : Nat} {b : Bool} {t : Tmp} (h : o.guard = some (j, b)) (hd : dstOf ops j = some t) (ht : a.tmps[t]? = some (.bool b)) : Region.wanted o (yielded ops a.tmps) = true := by
  have hy : yielded ops a.tmps j = some b := by
    unfold yielded
    have : (ops[j]?).bind (·.dst) = some t := hd
    rw [this]
    show (match a.tmps[t]? with | some (.bool b) => some b | _ => none) = _
    rw [ht]
  unfold Region.wanted
  rw [h]
  simp [hy]

/-- What an operation waits for has left its value. -/
def depFacts (ops : Array Oper) (V : Nat → Value) (a : Act) : List Edge → Prop
  | [] => True
  | e :: r => (match Region.binds .any e, dstOf ops e.on with | true, some t => a.tmps[t]? = some (V e.on) | _, _ => True) ∧ depFacts ops V a r
/-- What it reads that the region does not write. -/
def readFacts (a a1 : Act) : List Nat → Prop
  | [] => True
  | t :: r => a.tmps[t]? = a1.tmps[t]? ∧ readFacts a a1 r
/-- What is asked of one operation. -/
def StepV (P : Program) (ops : Array Oper) (Q : Exit → Act → World → Prop) (a1 : Act) (V : Nat → Value) (S : (Nat → Bool) → World → Prop) (reads : List Nat) (i : Nat) (o : Oper) : Prop :=
  ∀ (ℓ : Nat → Bool) a w, ℓ i = false → S ℓ w → (∀ e ∈ o.after, Region.binds .any e = true → ℓ e.on = true) → readFacts a a1 reads → depFacts ops V a o.after.toList →
    Region.wanted o (yielded ops a.tmps) = true ∧ ∀ K : Act → World → Prop, (∀ w', S (fun j => if j = i then true else ℓ j) w' → K (a.put o.dst (V i)) w') → o.wp P a w K Q
def StepsV (P : Program) (ops : Array Oper) (Q : Exit → Act → World → Prop) (a1 : Act) (V : Nat → Value) (S : (Nat → Bool) → World → Prop) (reads : List Nat) : Nat → List Oper → Prop
  | _, [] => True
  | i, o :: r => StepV P ops Q a1 V S reads i o ∧ StepsV P ops Q a1 V S reads (i + 1) r
theorem StepsV.get {a1 : Act} {V : Nat → Value} {S : (Nat → Bool) → World → Prop} {reads : List Nat} : ∀ (l : List Oper) (k i : Nat) (o : Oper), StepsV P ops Q a1 V S reads k l → l[i]? = some o → StepV P ops Q a1 V S reads (k + i) o
  | [], _, _, _, _, h => by simp at h
  | x :: r, k, 0, o, ⟨h1, _⟩, h => by
    simp at h; subst h; exact h1
  | x :: r, k, i + 1, o, ⟨_, h2⟩, h => by
    have := StepsV.get r (k + 1) i o h2 (by simpa using h)
    rw [show k + (i + 1) = k + 1 + i by omega]
    exact this
theorem depFacts_of {V : Nat → Value} {a : Act} : ∀ (l : List Edge), (∀ e ∈ l, Region.binds .any e = true → ∀ t, dstOf ops e.on = some t → a.tmps[t]? = some (V e.on)) → depFacts ops V a l
  | [], _ => trivial
  | e :: r, h => by
    refine ⟨?_, depFacts_of r fun f hf => h f (List.mem_cons_of_mem _ hf)⟩
    split
    · rename_i t h1 h2
      exact h e (by simp) h1 t h2
    · trivial
theorem readFacts_of {a a1 : Act} : ∀ (l : List Nat), (∀ t ∈ l, a.tmps[t]? = a1.tmps[t]?) → readFacts a a1 l
  | [], _ => trivial
  | t :: r, h => ⟨h t (by simp), readFacts_of r fun u hu => h u (List.mem_cons_of_mem _ hu)⟩

theorem region_vals {id n : Nat} {a1 : Act} {w : World} (hm : P.follows .mixedOrders = true) (V : Nat → Value) (S : (Nat → Bool) → World → Prop) (reads : List Nat)
    (h1 : okDst ops = true) (h2 : okDep .any ops = true) (hn : a1.tmps.size = n) (h3 : okSize n ops = true) (h4 : reads.all (notDst ops) = true) (hS : S (fun _ => false) w.drew) (hsteps : StepsV P ops Q a1 V S reads 0 ops.toList)
    (hend : ∀ ℓ a w, (∀ i, i < ops.size → ℓ i = true) → S ℓ w → a.defers = a1.defers → a.tmps.size = n → (∀ t, notDst ops t = true → a.tmps[t]? = a1.tmps[t]?) →
      (∀ i t, dstOf ops i = some t → a.tmps[t]? = some (V i)) → Q .normal a w) :
    (Code.region id ops true).wp P Q a1 w := by
  subst hn
  refine wp_region_any hm (wpAny_inv a1 V S (okDst_spec h1) (okDep_spec h2) (okSize_spec h3) ?_ ?_ _ _ _ _ (by simp) ?_ ?_)
  · intro i o ho ℓ a w hl hw hwait hsame hdeps
    have hg := StepsV.get ops.toList 0 i o hsteps (by rw [Array.getElem?_toList]; exact ho)
    rw [Nat.zero_add] at hg
    obtain ⟨x, y⟩ := hg ℓ a w hl hw hwait (readFacts_of _ fun t ht => hsame t (notDst_spec (List.all_eq_true.1 h4 t ht))) (depFacts_of _ fun e he hb t ht => hdeps e (Array.mem_toList_iff.1 he) hb t ht)
    exact ⟨x, y _ fun w' q => ⟨rfl, q⟩⟩
  · intro ℓ a w hl hw hd hz hsame hdone
    exact hend ℓ a w hl hw hd hz (fun t ht => hsame t (notDst_spec ht)) hdone
  · unfold left
    refine Nat.le_trans (List.length_filter_le _ _) ?_
    simp
  · have hf : ∀ i, (Array.replicate ops.size false).getD i false ≠ true := by
      intro i
      by_cases h : i < ops.size <;> simp [h]
    have e0 : (fun j => (Array.replicate ops.size false).getD j false) = fun _ => false := by
      funext j; simpa using hf j
    exact ⟨by rw [e0]; exact hS, rfl, rfl, fun _ _ => rfl, fun i t h => absurd h (hf i)⟩
/-- The slots behind a region: which operation wrote each. -/
def zipF (V : Nat → Value) : List (Option Nat) → List Value → List Value
  | some i :: r, _ :: l => V i :: zipF V r l
  | none :: r, v :: l => v :: zipF V r l
  | _, _ => []
def okWs (ops : Array Oper) (ws : List (Option Nat)) : Bool := (List.range ws.length).all fun t => match ws[t]? with | some (some i) => dstOf ops i == some t | some none => notDst ops t | none => false
theorem zipF_get (V : Nat → Value) : ∀ (ws : List (Option Nat)) (l : List Value) (t : Nat), ws.length = l.length → (zipF V ws l)[t]? = match ws[t]? with | some (some i) => some (V i) | some none => l[t]? | none => none
  | [], l, t, h => by
    have : l = [] := List.length_eq_zero_iff.1 h.symm
    subst this
    simp [zipF]
  | o :: r, [], t, h => by simp at h
  | some i :: r, v :: l, 0, h => by simp [zipF]
  | none :: r, v :: l, 0, h => by simp [zipF]
  | some i :: r, v :: l, t + 1, h => by
    have := zipF_get V r l t (by simpa using h)
    simp only [zipF, List.getElem?_cons_succ]
    exact this
  | none :: r, v :: l, t + 1, h => by
    have := zipF_get V r l t (by simpa using h)
    simp only [zipF, List.getElem?_cons_succ]
    exact this
theorem zipF_length (V : Nat → Value) : ∀ (ws : List (Option Nat)) (l : List Value), ws.length = l.length → (zipF V ws l).length = l.length
  | [], l, h => by
    have : l = [] := List.length_eq_zero_iff.1 h.symm
    subst this
    rfl
  | o :: r, [], h => by simp at h
  | some i :: r, v :: l, h => by simp [zipF, zipF_length V r l (by simpa using h)]
  | none :: r, v :: l, h => by simp [zipF, zipF_length V r l (by simpa using h)]
/-- ALL AT ONCE: a region in open order whose operations leave known values; behind it the slots stand written out. -/
theorem region_alls {id : Nat} {ts : Array Value} {w : World} (hm : P.follows .mixedOrders = true) (V : Nat → Value) (S : (Nat → Bool) → World → Prop) (reads : List Nat) (ws : List (Option Nat))
    (h1 : okDst ops = true) (h2 : okDep .any ops = true) (hn : ws.length = ts.size) (h3 : okSize ws.length ops = true) (h4 : reads.all (notDst ops) = true) (h5 : okWs ops ws = true) (hS : S (fun _ => false) w.drew)
    (hsteps : StepsV P ops Q ⟨ts, []⟩ V S reads 0 ops.toList)
    (hend : ∀ ℓ w, (∀ i, i < ops.size → ℓ i = true) → S ℓ w → Q .normal ⟨(zipF V ws ts.toList).toArray, []⟩ w) :
    (Code.region id ops true).wp P Q ⟨ts, []⟩ w := by
  refine region_vals hm V S reads h1 h2 hn.symm h3 h4 hS hsteps ?_
  intro ℓ a w hl hw hd hz hsame hdone
  have he : a = ⟨(zipF V ws ts.toList).toArray, []⟩ := by
    obtain ⟨tm, df⟩ := a
    obtain rfl : df = [] := hd
    have hz' : tm.size = ws.length := hz
    have : tm = (zipF V ws ts.toList).toArray := by
      apply Array.ext_getElem?
      intro t
      rw [show ((zipF V ws ts.toList).toArray)[t]? = (zipF V ws ts.toList)[t]? by simp, zipF_get V ws ts.toList t (by rw [hn]; simp)]
      by_cases ht : t < ws.length
      · have h6 := List.all_eq_true.1 h5 t (List.mem_range.2 ht)
        rw [List.getElem?_eq_getElem ht] at h6 ⊢
        cases hv : ws[t] with
        | none =>
          rw [hv] at h6
          have := hsame t h6
          simp only at this ⊢
          rw [this]
          simp
        | some i =>
          rw [hv] at h6
          exact hdone i t (by simpa using h6)
      · rw [List.getElem?_eq_none (by omega), Array.getElem?_eq_none (by omega)]
    rw [this]
  rw [he]
  exact hend ℓ w hl hw
/-- The same, where one thing holds of all worlds on the way. -/
theorem region_all {id : Nat} {ts : Array Value} {w : World} (hm : P.follows .mixedOrders = true) (V : Nat → Value) (S : World → Prop) (reads : List Nat) (ws : List (Option Nat))
    (h1 : okDst ops = true) (h2 : okDep .any ops = true) (hn : ws.length = ts.size) (h3 : okSize ws.length ops = true) (h4 : reads.all (notDst ops) = true) (h5 : okWs ops ws = true) (hS : S w.drew)
    (hsteps : StepsV P ops Q ⟨ts, []⟩ V (fun _ => S) reads 0 ops.toList)
    (hend : ∀ w, S w → Q .normal ⟨(zipF V ws ts.toList).toArray, []⟩ w) :
    (Code.region id ops true).wp P Q ⟨ts, []⟩ w :=
  region_alls hm V (fun _ => S) reads ws h1 h2 hn h3 h4 h5 hS hsteps fun _ w _ h => hend w h
end
end Go.Proofs.Ytbdlmcpdplmdnaa.RegVal
