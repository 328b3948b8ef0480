/-
  The program's sets of rectangles: halves of those that are not in order are joined.
-/
import Derived.Test.YtedlhfemmofbpaaRegPrgJ
namespace Go.Proofs.Ytedlhfemmofbpaa.Reg
open Go.ChangeShapes Go.WideShapes Go.ChangeAt Go.RowKit Go.Shelf Lz RowG RegVal OwnL
set_option linter.unusedVariables false
set_option linter.unusedSimpArgs false
set_option maxRecDepth 100000

/-- A set of rectangles. -/
structure SetOf (V : Bnd) (q : List Rc) : Prop extends Okb V where
  has : ∀ x y, hasV V x y = hasL q x y
  n1 : V.length ≤ 2 * q.length
  n2 : ∀ e ∈ V, e.2.length ≤ 2 * q.length
theorem Laid.set {V : Bnd} {l : List Rc} (h : Laid V l []) : SetOf V l := ⟨h.toOkb, h.has, h.n1, h.n2⟩
theorem SetOf.join {A B : Bnd} {a b : List Rc} (hA : SetOf A a) (hB : SetOf B b) : SetOf (bndJ fOr A B) (a ++ b) := by
  obtain ⟨h1, h2, h3, h4⟩ := bndJ_all (f := fOr) rfl hA.toOkb hB.toOkb
  refine ⟨h1.toOkb, fun x y => ?_, ?_, fun e he => ?_⟩
  · rw [h2, hA.has, hB.has, hasL_append]
    rfl
  · have := hA.n1
    have := hB.n1
    rw [List.length_append]
    omega
  · have := h4 _ _ hA.n2 hB.n2 e he
    rw [List.length_append]
    omega
theorem CR.take {w : World} {p : Option Addr} {n c : Nat} {l : List Rc} (h : CR w (.slice p n c) l) (k : Nat) (hk : k ≤ n) : CR w (.slice p k c) (l.take k) := by
  obtain ⟨a, cap, e, hn, hr⟩ := h.sees
  obtain ⟨rfl, rfl, rfl⟩ := Value.slice.inj e
  have hc := h.room _ _ _ rfl
  have hl : (l.take k).length = k := by rw [List.length_take]; omega
  refine ⟨⟨p, c, by rw [hl], fun e => ?_, fun h0 => ?_⟩, room_of (by omega), fun r hr' => h.counts r (List.mem_of_mem_take hr')⟩
  · obtain ⟨h1, h2⟩ := hn e
    rw [hl]; exact ⟨by omega, h2⟩
  · rw [hl] at h0
    obtain ⟨b, off, e2, hb, hcc⟩ := hr (by omega)
    refine ⟨b, off, e2, hb, fun i hi => ?_⟩
    have hi' : i < l.length := by rw [hl] at hi; omega
    have := hcc i hi'
    rw [List.getElem_take]
    exact this
def fromR (p : Option Addr) (n c lo : Nat) : Value := .slice (if c = lo then p else p.map (·.add (lo * 4))) (n - lo) (c - lo)
theorem CR.drop {w : World} {p : Option Addr} {n c : Nat} {l : List Rc} (h : CR w (.slice p n c) l) (k : Nat) (hk : k ≤ n) : CR w (fromR p n c k) (l.drop k) := by
  obtain ⟨a, cap, e, hn, hr⟩ := h.sees
  obtain ⟨rfl, rfl, rfl⟩ := Value.slice.inj e
  have hc := h.room _ _ _ rfl
  refine ⟨⟨_, _, by rw [List.length_drop]; rfl, fun e => ?_, fun h0 => ?_⟩, room_of (by omega), fun r hr' => h.counts r (List.mem_of_mem_drop hr')⟩
  · have : p = none := by
      by_cases hc : c = k
      · rwa [if_pos hc] at e
      · rw [if_neg hc] at e; cases p with
        | none => rfl
        | some x => simp at e
    obtain ⟨h1, h2⟩ := hn this
    rw [List.length_drop]
    omega
  · rw [List.length_drop] at h0
    obtain ⟨b, off, rfl, hb, hcc⟩ := hr (by omega)
    refine ⟨b, off + k * 4, ?_, hb, fun i hi => ?_⟩
    · rw [if_neg (by omega), Option.map_some, Go.WideShapes.add_plain]
    · rw [List.length_drop] at hi
      have := hcc (k + i) (by omega)
      rw [List.getElem_drop]
      rwa [show off + k * 4 + i * 4 = off + (k + i) * 4 by omega]
theorem run_fromR (W : World) (p : Option Addr) (n c lo : Nat) (h1 : lo ≤ n) :
    (Instr.slice 22 (.slice p n c) (some (.int .i64 (lo : Int))) none none).run Try.prog W = .ok (fromR p n c lo) W := by
  have h3 : (lo : Int) ≤ n := by omega
  have hc := run_sliceBound (P := Try.prog) (w := W) .i64 (lo : Int) n .sliceB (by omega) h3
  simp [Instr.slice, run_underlying Try.underlying22, Instr.sliceBounds, hc, fromR]
theorem run_takeR (W : World) (b off : Nat) (n c hi : Nat) (h1 : hi ≤ c) :
    (Instr.slice 22 (.slice (some ⟨b, off, none⟩) n c) none (some (.int .i64 (hi : Int))) none).run Try.prog W = .ok (.slice (some ⟨b, off, none⟩) hi c) W := by
  have h3 : (hi : Int) ≤ c := by omega
  have hb := run_sliceBound (P := Try.prog) (w := W) .i64 (hi : Int) c .sliceAcap (by omega) h3
  simp [Instr.slice, run_underlying Try.underlying22, Instr.sliceBounds, hb, Addr.add]
/-- What the operations leave that join the halves. -/
def halfV (v v1 v2 : Value) (k : Int) : Nat → Option Value
  | 0 => some v
  | 1 => some (.int .i64 k)
  | 2 => some v1
  | 4 => some v
  | 5 => some (.int .i64 k)
  | 6 => some v2
  | 9 => some undef
  | _ => none
def halfR (n : Nat) (a b : List Rc) : Nat → Value → World → Prop
  | 3, v, w => ∃ V, FreshB n w v V ∧ SetOf V a
  | 7, v, w => ∃ V, FreshB n w v V ∧ SetOf V b
  | 8, v, w => ∃ V, FreshB n w v V ∧ SetOf V (a ++ b)
  | _, _, _ => True
theorem halfR_keep {n : Nat} {a b : List Rc} {i : Nat} {v : Value} {w w' : World} (h : halfR n a b i v w) (k : ∀ u V, FreshB n w u V → FreshB n w' u V) : halfR n a b i v w' := by
  unfold halfR at *
  split
  · obtain ⟨V, h1, h2⟩ := h
    exact ⟨V, k _ _ h1, h2⟩
  · obtain ⟨V, h1, h2⟩ := h
    exact ⟨V, k _ _ h1, h2⟩
  · obtain ⟨V, h1, h2⟩ := h
    exact ⟨V, k _ _ h1, h2⟩
  · trivial
/-- What came ahead of what. -/
structure Chain (t : Nat → Bool) : Prop where
  c9 : t 9 = true → t 8 = true
  c8 : t 8 = true → t 3 = true ∧ t 7 = true
  c3 : t 3 = true → t 2 = true
  c2 : t 2 = true → t 0 = true ∧ t 1 = true
  c7 : t 7 = true → t 6 = true
  c6 : t 6 = true → t 4 = true ∧ t 5 = true
theorem Chain.not {t : Nat → Bool} (h : Chain t) {i : Nat} (hi : i < 9) (hf : t i = false) : t 9 = false := by
  cases h9 : t 9 with
  | false => rfl
  | true =>
    exfalso
    have h8 := h.c9 h9
    obtain ⟨h3, h7⟩ := h.c8 h8
    have h2 := h.c3 h3
    obtain ⟨h0, h1⟩ := h.c2 h2
    have h6 := h.c7 h7
    obtain ⟨h4, h5⟩ := h.c6 h6
    match i, hi with
    | 0, _ => rw [h0] at hf; cases hf
    | 1, _ => rw [h1] at hf; cases hf
    | 2, _ => rw [h2] at hf; cases hf
    | 3, _ => rw [h3] at hf; cases hf
    | 4, _ => rw [h4] at hf; cases hf
    | 5, _ => rw [h5] at hf; cases hf
    | 6, _ => rw [h6] at hf; cases hf
    | 7, _ => rw [h7] at hf; cases hf
    | 8, _ => rw [h8] at hf; cases hf
theorem Chain.on {t : Nat → Bool} (h : Chain t) (i : Nat) (h2 : i = 2 → t 0 = true ∧ t 1 = true) (h3 : i = 3 → t 2 = true) (h6 : i = 6 → t 4 = true ∧ t 5 = true) (h7 : i = 7 → t 6 = true) (h8 : i = 8 → t 3 = true ∧ t 7 = true) (h9 : i = 9 → t 8 = true) : Chain (fun j => if j = i then true else t j) := by
  have up : ∀ j, t j = true → (if j = i then true else t j) = true := fun j hj => by
    by_cases e : j = i
    · rw [if_pos e]
    · rw [if_neg e]; exact hj
  have inv : ∀ j, (if j = i then true else t j) = true → i = j ∨ t j = true := fun j hj => by
    by_cases e : j = i
    · exact .inl e.symm
    · rw [if_neg e] at hj; exact .inr hj
  refine ⟨fun q => ?_, fun q => ?_, fun q => ?_, fun q => ?_, fun q => ?_, fun q => ?_⟩
  · exact up _ ((inv 9 q).elim h9 h.c9)
  · have := (inv 8 q).elim h8 h.c8
    exact ⟨up _ this.1, up _ this.2⟩
  · exact up _ ((inv 3 q).elim h3 h.c3)
  · have := (inv 2 q).elim h2 h.c2
    exact ⟨up _ this.1, up _ this.2⟩
  · exact up _ ((inv 7 q).elim h7 h.c7)
  · have := (inv 6 q).elim h6 h.c6
    exact ⟨up _ this.1, up _ this.2⟩
/-- What setOf answers. -/
def setPost (l : List Rc) (w : World) (e : Ending) (w' : World) : Prop := ∃ u V, e = .returned u ∧ FreshB w.heap.size w' u V ∧ SetOf V l ∧ Below w.heap.size w w'
set_option maxHeartbeats 16000000 in
theorem setOf_any (m : Nat) : ∀ (l : List Rc) (v : Value) (w : World), l.length = m → l.length ≤ 20000 → CR w v l → Calls Try.prog 40 #[v] w (setPost l w) := by
  induction m using Nat.strongRecOn with
  | _ m ih =>
    intro l v w hm hl h
    obtain ⟨n0, hn0⟩ : ∃ n0, w.heap.size = n0 := ⟨_, rfl⟩
    have z1 := alloc_size w (.cells #[.slice none 0 0, .slice none 0 0] 51)
    have o1 := heap_alloc_new w (.cells #[.slice none 0 0, .slice none 0 0] 51)
    have k1 := (Below.refl w.heap.size w).alloc (Nat.le_refl _) (.cells #[.slice none 0 0, .slice none 0 0] 51)
    obtain ⟨w1, hw1⟩ : ∃ w1, w.alloc (.cells #[.slice none 0 0, .slice none 0 0] 51) = w1 := ⟨_, rfl⟩
    rw [hw1] at z1 o1 k1
    have h1 := h.below k1
    rw [hn0] at z1 o1 k1
    have C1 := Lib.hid (inOrder_any l v w1 (by omega) h1)
    have HH := Lib.hid h1
    have HM := Lib.hid hm
    have HL := Lib.hid hl
    obtain ⟨p, c, hv, _⟩ := h.sees
    obtain ⟨n, hn⟩ : ∃ n, l.length = n := ⟨_, rfl⟩
    rw [hn] at hv
    have HN := Lib.hid hn
    subst hv
    clear h h1 hm hl hn
    go_enter Try.func40, Try.ntmps40
    go_wp2_with fail
    refine C1.out.mono ?_
    rintro e w2 ⟨⟨bb, rfl, ho, h2⟩, k2⟩
    have HO := Lib.hid ho
    have H2 := Lib.hid h2
    have hlow : Below n0 w w2 := k1.trans (k2.mono (by omega))
    have hres : w2.heap[n0]? = some (.cells #[.slice none 0 0, .slice none 0 0] 51 (0, 0)) := (k2.block _ (by omega)).trans o1
    have HLOW := Lib.hid hlow
    have HRES := Lib.hid hres
    have HC2 := Lib.hid (HH.out.below k2)
    clear C1 HH ho h2 hlow hres k1 k2 o1
    cases bb with
    | true =>
      have C2 := Lib.hid (lay_any l _ w2 HL.out HC2.out (HO.out rfl))
      go_wp2_with fail
      refine C2.out.mono ?_
      rintro e w3 ⟨u, V, rfl, hs, hld, k3⟩
      obtain ⟨Bx, s1, s2, rfl, hbx, hband⟩ := hs
      obtain ⟨xs, hx, _⟩ := hband.rw
      obtain ⟨q1, e1, g1⟩ := RowAt.shape hband.bd
      obtain ⟨q2, e2, g2⟩ := RowAt.shape hx
      have hz2 : n0 < w2.heap.size := (Array.getElem?_eq_some_iff.1 HRES.out).1
      have hr3 := (k3.block _ hz2).trans HRES.out
      have d0 := cellAt (o := 0) hr3 rfl
      have d1 := cellAt (o := 1) hr3 rfl
      have f0 := frozenAt (o := 0) hr3
      have f1 := frozenAt (o := 1) hr3
      have HF : RowKit.Hid (FreshB w2.heap.size w3 (.agg #[s1, s2]) V) := Lib.hid ⟨Bx, s1, s2, rfl, hbx, hband⟩
      have HK := Lib.hid k3
      have HR3 := Lib.hid hr3
      have HS := Lib.hid hld.set
      obtain ⟨m1, hm1⟩ : ∃ m1, (V.map (·.1)).length = m1 := ⟨_, rfl⟩
      obtain ⟨m2, hm2⟩ : ∃ m2, V.length = m2 := ⟨_, rfl⟩
      rw [hm1] at g1
      rw [hm2] at g2
      subst g1 g2
      clear C2 hband hx hbx hr3 k3 hld hm1 hm2
      go_wp2_with fail
      have hr4 := setRowAt (i := 1) (v := .slice q2 m2 e2) (setRowAt (i := 0) (v := .slice q1 m1 e1) HR3.out rfl) rfl
      have hf4 := (HF.out.set (i := 0) (v := .slice q1 m1 e1) hz2 HR3.out (by decide)).set (i := 1) (v := .slice q2 m2 e2) hz2 (setRowAt HR3.out rfl) (by decide)
      refine bodyPost_ret (Ret.ret_cell rfl _ _ n0 51 _ (0, 0) _ rfl hr4 Try.underlying51 rfl (by kernel_rfl)) rfl ⟨_, V, rfl, ?_, HS.out, ?_⟩
      · rw [hn0]
        exact hf4.base (by omega)
      · rw [hn0]
        have k5 := HLOW.out.trans (HK.out.mono (by omega))
        exact (k5.trans (Touch.below (F := fun k => k = n0) (Touch.set rfl) (fun k hk => by omega) (by have := k5.size; omega))).trans (Touch.below (F := fun k => k = n0) (Touch.set rfl) (fun k hk => by omega) (by have := k5.size; simp [World.setCell]; omega))
    | false =>
      have hn2 := H2.out rfl
      rw [HN.out] at hn2
      obtain ⟨p1, c1, e1, hcr, hh⟩ := HC2.out.rs
      obtain ⟨rfl, e1b, rfl⟩ := Value.slice.inj e1
      clear e1 e1b
      obtain ⟨b, off, rfl, _, _⟩ := hh (by have := HN.out; omega)
      obtain ⟨k, hk⟩ : ∃ k, n / 2 = k := ⟨_, rfl⟩
      have hk1 : k < n := by omega
      have hk2 : 1 ≤ k := by omega
      have f1 : (n : Int) / 2 = k := by omega
      have f2 : (n : Int).tdiv 2 = k := by rw [Int.tdiv_eq_ediv_of_nonneg (by omega)]; exact f1
      have HF3 : RowKit.Hid (wrap64 (k : Int) = k) := Lib.hid (IntWalk.wrap64_in _ (by have := HL.out; have := HN.out; omega))
      have HF4 : RowKit.Hid (IntKind.i64.wrap (k : Int) = k) := Lib.hid (IntWalk.i64_in _ (by have := HL.out; have := HN.out; omega))
      have hnc : n ≤ c := by have := HN.out; omega
      have hs1 := fun W => run_takeR W b off n c k (by omega)
      have hs2 := fun W => run_fromR W (some ⟨b, off, none⟩) n c k (by omega)
      have hta : (l.take k).length = k := by have := HN.out; rw [List.length_take]; omega
      have htb : (l.drop k).length = n - k := by have := HN.out; rw [List.length_drop]; omega
      have I1 := Lib.hid (fun (W : World) (q : Below w2.heap.size w2 W) => ih k (by have := HN.out; have := HM.out; omega) (l.take k) _ W hta (by have := HL.out; have := HN.out; omega) ((HC2.out.below q).take k (by omega)))
      have I2 := Lib.hid (fun (W : World) (q : Below w2.heap.size w2 W) => ih (n - k) (by have := HN.out; have := HM.out; omega) (l.drop k) _ W htb (by have := HL.out; have := HN.out; omega) ((HC2.out.below q).drop k (by omega)))
      have HTL : RowKit.Hid (l.take k ++ l.drop k = l) := Lib.hid (List.take_append_drop k l)
      have HJ := Lib.hid (fun (A B : Bnd) (va vb : Value) (W : World) (q1 : SetOf A (l.take k)) (q2 : SetOf B (l.drop k)) (q3 : SeesB W va A) (q4 : SeesB W vb B) => join_any keeps_or A B va vb W (by have := q1.n1; have := HL.out; have := HN.out; omega) (by have := q2.n1; have := HL.out; have := HN.out; omega) (fun e he => by have := q1.n2 e he; have := HL.out; have := HN.out; omega) (fun e he => by have := q2.n2 e he; have := HL.out; have := HN.out; omega) q3 q4)
      have hz2 : n0 < w2.heap.size := (Array.getElem?_eq_some_iff.1 HRES.out).1
      clear hk hta htb hh hcr hn2 hnc ih
      generalize fromR (some ⟨b, off, none⟩) n c k = v2 at *
      have f3 := HF3.out
      have f4 := HF4.out
      go_upto_region 4 with fail
      clear f3 f4 HF3 HF4
      refine region_preds (by kernel_rfl) (halfV (.slice (some ⟨b, off, none⟩) n c) (.slice (some ⟨b, off, none⟩) k c) v2 k) (halfR w2.heap.size (l.take k) (l.drop k)) (fun ℓ W => Chain ℓ ∧ (ℓ 9 = false → Below w2.heap.size w2 W) ∧ (ℓ 9 = true → ∃ s1 s2 V, W.heap[n0]? = some (.cells #[s1, s2] 51 (0, 0)) ∧ FreshB w2.heap.size W (.agg #[s1, s2]) V ∧ SetOf V l) ∧ Below n0 w2 W) [0, 2, 3]
        [none, none, none, none, none, none, none, none, none, none, none, some 0, some 1, some 2, some 3, some 4, some 5, some 6, some 7, some 8]
        (by kernel_rfl) (by kernel_rfl) (by rfl) (by kernel_rfl) (by kernel_rfl) (by kernel_rfl) ⟨⟨fun h => by simp at h, fun h => by simp at h, fun h => by simp at h, fun h => by simp at h, fun h => by simp at h, fun h => by simp at h⟩, fun _ => below_q (Below.refl _ _) 1, fun h => by simp at h, below_q (Below.refl _ _) 1⟩ ⟨?_, ?_, ?_, ?_, ?_, ?_, ?_, ?_, ?_, ?_, trivial⟩ ?_
      case refine_11 =>
        intro vs ℓ W hl hS hR
        obtain ⟨s1, s2, V, g1, g2, g3⟩ := hS.2.2.1 (hl 9 (by decide))
        have k3 := hS.2.2.2
        clear hR hS hl
        simp only [zipF, halfV, Option.getD_some, Option.getD_none]
        generalize vs 3 = u3 at *
        generalize vs 7 = u7 at *
        generalize vs 8 = u8 at *
        have G := Lib.hid (And.intro g1 (And.intro g2 (And.intro g3 k3)))
        clear g1 g2 g3 k3
        go_wp2_with fail
        refine bodyPost_ret (Ret.ret_cell rfl _ _ n0 51 _ (0, 0) _ rfl G.out.1 Try.underlying51 rfl (by kernel_rfl)) rfl ⟨_, V, rfl, ?_, G.out.2.2.1, ?_⟩
        · rw [hn0]
          exact G.out.2.1.base (by omega)
        · rw [hn0]
          exact HLOW.out.trans G.out.2.2.2
      case refine_1 =>
        intro ℓ act W hl hS hw hx hr hd
        obtain ⟨hch, hS1, hS2, hS3⟩ := hS
        have h9 : ℓ 9 = false := hch.not (by decide) hl
        have hb := hS1 h9
        have hc2 := Chain.on hch 0 (fun h => by cases h) (fun h => by cases h) (fun h => by cases h) (fun h => by cases h) (fun h => by cases h) (fun h => by cases h)
        clear hw hx hch
        simp only [readFacts, depFactsP] at hr hd
        simp [dstOf, Region.binds, halfV] at hr hd
        refine ⟨wanted_none (by rfl), fun K hK => ?_⟩
        go_simp
        exact hK _ _ rfl ⟨hc2, fun _ => hb, fun h => by simp [h9] at h, hS3⟩ (fun _ _ _ _ h => h)
      case refine_2 =>
        intro ℓ act W hl hS hw hx hr hd
        obtain ⟨hch, hS1, hS2, hS3⟩ := hS
        have h9 : ℓ 9 = false := hch.not (by decide) hl
        have hb := hS1 h9
        have hc2 := Chain.on hch 1 (fun h => by cases h) (fun h => by cases h) (fun h => by cases h) (fun h => by cases h) (fun h => by cases h) (fun h => by cases h)
        clear hw hx hch
        simp only [readFacts, depFactsP] at hr hd
        simp [dstOf, Region.binds, halfV] at hr hd
        refine ⟨wanted_none (by rfl), fun K hK => ?_⟩
        go_simp
        exact hK _ _ rfl ⟨hc2, fun _ => hb, fun h => by simp [h9] at h, hS3⟩ (fun _ _ _ _ h => h)
      case refine_3 =>
        intro ℓ act W hl hS hw hx hr hd
        have g0 : ℓ 0 = true := hw ⟨0, .data⟩ (by simp) (by rfl)
        have g1 : ℓ 1 = true := hw ⟨1, .data⟩ (by simp) (by rfl)
        obtain ⟨hch, hS1, hS2, hS3⟩ := hS
        have h9 : ℓ 9 = false := hch.not (by decide) hl
        have hb := hS1 h9
        have hc2 := Chain.on hch 2 (fun _ => ⟨g0, g1⟩) (fun h => by cases h) (fun h => by cases h) (fun h => by cases h) (fun h => by cases h) (fun h => by cases h)
        clear hw hx hch
        simp only [readFacts, depFactsP] at hr hd
        simp [dstOf, Region.binds, halfV] at hr hd
        refine ⟨wanted_none (by rfl), fun K hK => ?_⟩
        go_simp
        exact hK _ _ rfl ⟨hc2, fun _ => hb, fun h => by simp [h9] at h, hS3⟩ (fun _ _ _ _ h => h)
      case refine_4 =>
        intro ℓ act W hl hS hw hx hr hd
        have g2 : ℓ 2 = true := hw ⟨2, .data⟩ (by simp) (by rfl)
        obtain ⟨hch, hS1, hS2, hS3⟩ := hS
        have h9 : ℓ 9 = false := hch.not (by decide) hl
        have hb := hS1 h9
        have hc2 := Chain.on hch 3 (fun h => by cases h) (fun _ => g2) (fun h => by cases h) (fun h => by cases h) (fun h => by cases h) (fun h => by cases h)
        clear hw hx hch
        simp only [readFacts, depFactsP] at hr hd
        simp [dstOf, Region.binds, halfV] at hr hd
        refine ⟨wanted_none (by rfl), fun K hK => ?_⟩
        go_simp
        refine (I1.out W hb).mono ?_
        rintro e w' ⟨u, V, rfl, q1, q2, q3⟩
        exact hK _ _ ⟨V, q1.base hb.size, q2⟩ ⟨hc2, fun _ => hb.trans (q3.mono hb.size), fun h => by simp [h9] at h, hS3.trans (q3.mono (by have := hS3.size; omega))⟩ (fun j u _ _ h => halfR_keep h (fun _ _ h => h.below q3))
      case refine_5 =>
        intro ℓ act W hl hS hw hx hr hd
        obtain ⟨hch, hS1, hS2, hS3⟩ := hS
        have h9 : ℓ 9 = false := hch.not (by decide) hl
        have hb := hS1 h9
        have hc2 := Chain.on hch 4 (fun h => by cases h) (fun h => by cases h) (fun h => by cases h) (fun h => by cases h) (fun h => by cases h) (fun h => by cases h)
        clear hw hx hch
        simp only [readFacts, depFactsP] at hr hd
        simp [dstOf, Region.binds, halfV] at hr hd
        refine ⟨wanted_none (by rfl), fun K hK => ?_⟩
        go_simp
        exact hK _ _ rfl ⟨hc2, fun _ => hb, fun h => by simp [h9] at h, hS3⟩ (fun _ _ _ _ h => h)
      case refine_6 =>
        intro ℓ act W hl hS hw hx hr hd
        obtain ⟨hch, hS1, hS2, hS3⟩ := hS
        have h9 : ℓ 9 = false := hch.not (by decide) hl
        have hb := hS1 h9
        have hc2 := Chain.on hch 5 (fun h => by cases h) (fun h => by cases h) (fun h => by cases h) (fun h => by cases h) (fun h => by cases h) (fun h => by cases h)
        clear hw hx hch
        simp only [readFacts, depFactsP] at hr hd
        simp [dstOf, Region.binds, halfV] at hr hd
        refine ⟨wanted_none (by rfl), fun K hK => ?_⟩
        go_simp
        exact hK _ _ rfl ⟨hc2, fun _ => hb, fun h => by simp [h9] at h, hS3⟩ (fun _ _ _ _ h => h)
      case refine_7 =>
        intro ℓ act W hl hS hw hx hr hd
        have g4 : ℓ 4 = true := hw ⟨4, .data⟩ (by simp) (by rfl)
        have g5 : ℓ 5 = true := hw ⟨5, .data⟩ (by simp) (by rfl)
        obtain ⟨hch, hS1, hS2, hS3⟩ := hS
        have h9 : ℓ 9 = false := hch.not (by decide) hl
        have hb := hS1 h9
        have hc2 := Chain.on hch 6 (fun h => by cases h) (fun h => by cases h) (fun _ => ⟨g4, g5⟩) (fun h => by cases h) (fun h => by cases h) (fun h => by cases h)
        clear hw hx hch
        simp only [readFacts, depFactsP] at hr hd
        simp [dstOf, Region.binds, halfV] at hr hd
        refine ⟨wanted_none (by rfl), fun K hK => ?_⟩
        go_simp
        exact hK _ _ rfl ⟨hc2, fun _ => hb, fun h => by simp [h9] at h, hS3⟩ (fun _ _ _ _ h => h)
      case refine_8 =>
        intro ℓ act W hl hS hw hx hr hd
        have g6 : ℓ 6 = true := hw ⟨6, .data⟩ (by simp) (by rfl)
        obtain ⟨hch, hS1, hS2, hS3⟩ := hS
        have h9 : ℓ 9 = false := hch.not (by decide) hl
        have hb := hS1 h9
        have hc2 := Chain.on hch 7 (fun h => by cases h) (fun h => by cases h) (fun h => by cases h) (fun _ => g6) (fun h => by cases h) (fun h => by cases h)
        clear hw hx hch
        simp only [readFacts, depFactsP] at hr hd
        simp [dstOf, Region.binds, halfV] at hr hd
        refine ⟨wanted_none (by rfl), fun K hK => ?_⟩
        go_simp
        refine (I2.out W hb).mono ?_
        rintro e w' ⟨u, V, rfl, q1, q2, q3⟩
        exact hK _ _ ⟨V, q1.base hb.size, q2⟩ ⟨hc2, fun _ => hb.trans (q3.mono hb.size), fun h => by simp [h9] at h, hS3.trans (q3.mono (by have := hS3.size; omega))⟩ (fun j u _ _ h => halfR_keep h (fun _ _ h => h.below q3))
      case refine_9 =>
        intro ℓ act W hl hS hw hx hr hd
        have g3 : ℓ 3 = true := hw ⟨3, .data⟩ (by simp) (by rfl)
        have g7 : ℓ 7 = true := hw ⟨7, .data⟩ (by simp) (by rfl)
        obtain ⟨hch, hS1, hS2, hS3⟩ := hS
        have h9 : ℓ 9 = false := hch.not (by decide) hl
        have hb := hS1 h9
        have hc2 := Chain.on hch 8 (fun h => by cases h) (fun h => by cases h) (fun h => by cases h) (fun h => by cases h) (fun _ => ⟨g3, g7⟩) (fun h => by cases h)
        clear hw hx hch
        simp only [readFacts, depFactsP] at hr hd
        simp [dstOf, Region.binds, halfV] at hr hd
        refine ⟨wanted_none (by rfl), fun K hK => ?_⟩
        simp only [halfR] at hd
        obtain ⟨⟨u1, e1, V1, q1, q2⟩, ⟨u2, e2, V2, q3, q4⟩⟩ := hd
        go_simp
        refine (HJ.out V1 V2 u1 u2 W q2 q4 q1.sees q3.sees).mono ?_
        rintro e w' ⟨u, rfl, r1, r2⟩
        have hset := q2.join q4
        exact hK _ _ ⟨_, r1.base hb.size, hset⟩ ⟨hc2, fun _ => hb.trans (r2.mono hb.size), fun h => by simp [h9] at h, hS3.trans (r2.mono (by have := hS3.size; omega))⟩ (fun j u _ _ h => halfR_keep h (fun _ _ h => h.below r2))
      case refine_10 =>
        intro ℓ act W hl hS hw hx hr hd
        have g8 : ℓ 8 = true := hw ⟨8, .data⟩ (by simp) (by rfl)
        obtain ⟨hch, hS1, hS2, hS3⟩ := hS
        have hc2 := Chain.on hch 9 (fun h => by cases h) (fun h => by cases h) (fun h => by cases h) (fun h => by cases h) (fun h => by cases h) (fun _ => g8)
        clear hw hx hch
        simp only [readFacts, depFactsP] at hr hd
        simp [dstOf, Region.binds, halfV] at hr hd
        refine ⟨wanted_none (by rfl), fun K hK => ?_⟩
        simp only [halfR] at hd
        obtain ⟨⟨v8, e8, V, q1, q2⟩, _⟩ := hd
        rw [HTL.out] at q2
        obtain ⟨e0, e2, e3⟩ := hr
        have hb := hS1 hl
        obtain ⟨Bx, s1, s2, rfl, hbx, hband⟩ := q1
        obtain ⟨xs, hx, _⟩ := hband.rw
        obtain ⟨p1, c1, x1⟩ := RowAt.shape hband.bd
        obtain ⟨p2, c2, x2⟩ := RowAt.shape hx
        have hr3 := (hb.block _ hz2).trans HRES.out
        have d0 := cellAt (o := 0) hr3 rfl
        have d1 := cellAt (o := 1) hr3 rfl
        have f0 := frozenAt (o := 0) hr3
        have f1' := frozenAt (o := 1) hr3
        have hf : FreshB w2.heap.size W (.agg #[s1, s2]) V := ⟨Bx, s1, s2, rfl, hbx, hband⟩
        obtain ⟨m1, hm1⟩ : ∃ m1, (V.map (·.1)).length = m1 := ⟨_, rfl⟩
        obtain ⟨m2, hm2⟩ : ∃ m2, V.length = m2 := ⟨_, rfl⟩
        rw [hm1] at x1
        rw [hm2] at x2
        subst x1 x2
        have hr4 := setRowAt (i := 1) (v := .slice p2 m2 c2) (setRowAt (i := 0) (v := .slice p1 m1 c1) hr3 rfl) rfl
        have keepF : ∀ u V, FreshB w2.heap.size W u V → FreshB w2.heap.size ((W.setCell ⟨n0, 0, none⟩ (.slice p1 m1 c1)).setCell ⟨n0, 1, none⟩ (.slice p2 m2 c2)) u V := fun u V h => (h.set hz2 hr3 (by decide)).set hz2 (setRowAt hr3 rfl) (by decide)
        have kk := (hS3.trans (Touch.below (F := fun k => k = n0) (Touch.set (i := 0) (v := .slice p1 m1 c1) rfl) (fun k hk => by omega) (by have := hS3.size; omega))).trans (Touch.below (F := fun k => k = n0) (Touch.set (i := 1) (v := .slice p2 m2 c2) rfl) (fun k hk => by omega) (by have := hS3.size; simp [World.setCell]; omega))
        have KF := Lib.hid keepF
        have KK := Lib.hid kk
        have HF := Lib.hid (keepF _ _ hf)
        have HR4 := Lib.hid hr4
        clear hm1 hm2 keepF kk hf hr4 hband hx hbx hr3
        go_simp
        exact hK undef _ rfl ⟨hc2, fun h => by simp at h, fun _ => ⟨_, _, V, HR4.out, HF.out, q2⟩, KK.out⟩ (fun j u _ _ h => halfR_keep h KF.out)
end Go.Proofs.Ytedlhfemmofbpaa.Reg
