/-
  The program's rectangles that are in order, laid down as borders and rows.
-/
import Derived.Test.YtedlhfemmofbpaaRegPrgI
namespace Go.Proofs.Ytedlhfemmofbpaa.Reg
open Go.ChangeShapes Go.WideShapes Go.ChangeAt Go.RowKit Go.Shelf Lz RowG RegVal OwnL
set_option linter.unusedVariables false
set_option maxRecDepth 100000

/-- What is left of some rectangles that lay in w. -/
def RS (w : World) (v : Value) (R : List Rc) : Prop := ∃ p c, v = .slice p R.length c ∧ R.length ≤ c ∧ (0 < R.length → ∃ b off, p = some ⟨b, off, none⟩ ∧ b < w.heap.size ∧ ∀ i, (h : i < R.length) → RcAt w b (off + i * 4) R[i])
theorem CR.rs {w : World} {v : Value} {l : List Rc} (h : CR w v l) : RS w v l := by
  obtain ⟨a, cap, e, _, hr⟩ := h.sees
  exact ⟨a, cap, e, h.room _ _ _ e, fun h0 => by
    obtain ⟨b, off, e2, hb, hc⟩ := hr h0
    exact ⟨b, off, e2, hb, fun i hi => hc i hi⟩⟩
def restV (p : Option Addr) (n c : Nat) : Value := .slice (if c = 1 then p else p.map (·.add 4)) (n - 1) (c - 1)
theorem run_restV (W : World) (p : Option Addr) (n c : Nat) (h1 : 1 ≤ n) :
    (Instr.slice 22 (.slice p n c) (some (.int .i64 1)) none none).run Try.prog W = .ok (restV p n c) W := by
  have h3 : ((1 : Nat) : Int) ≤ n := by omega
  have hc := run_sliceBound (P := Try.prog) (w := W) .i64 ((1 : Nat) : Int) n .sliceB (by omega) h3
  rw [show ((1 : Nat) : Int) = 1 from rfl] at hc
  simp [Instr.slice, run_underlying Try.underlying22, Instr.sliceBounds, hc, restV]
theorem RS.rest {w : World} {p : Option Addr} {n c : Nat} {r : Rc} {R : List Rc} (h : RS w (.slice p n c) (r :: R)) : RS w (restV p n c) R := by
  obtain ⟨p', c', e, hc, hr⟩ := h
  obtain ⟨rfl, rfl, rfl⟩ := Value.slice.inj e
  refine ⟨_, _, rfl, by simp only [List.length_cons] at hc; omega, fun h0 => ?_⟩
  obtain ⟨b, off, rfl, hb, hcc⟩ := hr (by simp)
  refine ⟨b, off + 4, ?_, hb, fun i hi => ?_⟩
  · simp only [List.length_cons] at hc
    rw [if_neg (by omega), Option.map_some, Go.WideShapes.add_plain]
  · have := hcc (i + 1) (by simp only [List.length_cons]; omega)
    rw [List.getElem_cons_succ] at this
    rwa [show off + 4 + i * 4 = off + (i + 1) * 4 by omega]
/-- What the operations leave that add a rectangle's two borders to a row. -/
def addV (u v pt pw : Value) (x q X : Int) : Nat → Option Value
  | 0 => some u
  | 1 => some v
  | 2 => some pt
  | 3 => some pt
  | 4 => some (.int .i64 x)
  | 5 => some v
  | 6 => some pt
  | 7 => some pt
  | 8 => some (.int .i64 x)
  | 9 => some v
  | 10 => some pt
  | 11 => some pw
  | 12 => some (.int .i64 q)
  | 13 => some (.int .i64 X)
  | _ => none
def addR (n B : Nat) (l : List Int) (x X : Int) : Nat → Value → World → Prop
  | 14, v, w => ∃ p, v = .slice (some ⟨p, 0, none⟩) 2 2 ∧ n ≤ p ∧ p < w.heap.size ∧ w.cell? ⟨p, 0, none⟩ = some (.int .i64 x) ∧ w.cell? ⟨p, 1, none⟩ = some (.int .i64 X)
  | 15, v, w => IntsAt B w v (l ++ [x, X])
  | 16, v, w => IntsAt B w v (l ++ [x, X])
  | _, _, _ => True
theorem addR_below {n B : Nat} {l : List Int} {x X : Int} {i : Nat} {v : Value} {w w' : World} (h : addR n B l x X i v w) (b : Below w.heap.size w w') : addR n B l x X i v w' := by
  unfold addR at *
  split
  · obtain ⟨p, e, h1, h2, h3, h4⟩ := h
    exact ⟨p, e, h1, Nat.lt_of_lt_of_le h2 b.size, (b.cell (p := ⟨p, 0, none⟩) h2).trans h3, (b.cell (p := ⟨p, 1, none⟩) h2).trans h4⟩
  · exact IntsAt.below h b
  · exact IntsAt.below h b
  · trivial
/-- 'append' of two numbers, as one operation of a region in open order. -/
theorem wp_ints2 {w : World} {o : Oper} {a : Act} {K : Act → World → Prop} {Q : Exit → Act → World → Prop} (s x : Operand)
    (ho : o.op = .call { callee := .builtin .append, args := #[s, x], argTypes := #[38, 38] })
    (v : Value) (B : Nat) (l : List Int) (hs : a.eval s = v) (hown : IntsAt B w v l) (hB : B ≤ w.heap.size) (hl : l.length ≤ 1000000000) (p : Nat) (y z : Int) (hx : a.eval x = .slice (some ⟨p, 0, none⟩) 2 2) (h0 : w.cell? ⟨p, 0, none⟩ = some (.int .i64 y)) (h1 : w.cell? ⟨p, 1, none⟩ = some (.int .i64 z))
    (h : ∀ v' w', IntsAt B w' v' (l ++ [y, z]) → Below B w w' → Touch (fun k => v.ownBlock = some k) w w' → K (a.put o.dst v') w') : o.wp Try.prog a w K Q := by
  obtain ⟨i0, hi, hz0, hz1, hz2⟩ := info_parts info_num
  refine wp_append_near s x 38 ho 3 i0 (.int .i64 0) 1 8 Try.underlying38 hi hz0 hz1 hz2 rfl (by decide) v l.length (ints l) hs hown.1 ⟨p, 0, none⟩ 2 2 (ints [y, z]) hx rfl (fun j u hj => ?_) (fun u hu => ?_) (by unfold maxLen; omega) (by omega) ?_
  · rw [Go.WideShapes.add_plain, Nat.zero_add]
    match j with
    | 0 => simp [ints] at hj; subst hj; exact h0
    | 1 => simp [ints] at hj; subst hj; exact h1
    | j + 2 => simp [ints] at hj
  · unfold ints at hu
    obtain ⟨q, _, rfl⟩ := List.mem_map.1 hu
    rfl
  · intro v' w' q1 q2 q3
    refine h v' w' ⟨?_, fun k hk => ?_, fun u hu => ?_⟩ (grown_below q2 hown.2.1 hB) (Touch.grown q2 (fun k e => e))
    · rw [List.length_append, ints_append]
      exact q1
    · rcases q3 k hk with h4 | h4
      · exact hown.2.1 k h4
      · omega
    · unfold ints at hu
      obtain ⟨q, _, rfl⟩ := List.mem_map.1 hu
      rfl
/-- A band is laid down. -/
theorem lay_round {w w9 wx w3 w4 : World} {n0 : Nat} {l D g R R' : List Rc} {r : Rc} {V : Bnd} {v1 v2 a1 a2 : Value} (hn0 : w.heap.size = n0) (hDR : l = D ++ (r :: R)) (hs : r :: R = g ++ R') (hl : Laid V D (r :: R)) (ho : ord l) (hc : ∀ r ∈ l, counts r = true) (hy : ∀ s ∈ g, s.y = r.y) (hx : ∀ s ∈ R'.head?, s.y ≠ r.y)
    (hb : BandAt (n0 + 2) w9 (n0 + 1) v1 v2 V) (hr : w9.heap[n0]? = some (.cells #[.slice none 0 0, .slice none 0 0] 51 (0, 0))) (hlow : Below n0 w w9) (k : Below w9.heap.size w9 wx) (q2 : Touch (foot (n0 + 1) v1 v2) wx w3) (q3 : ∀ k, foot (n0 + 1) a1 a2 k → foot (n0 + 1) v1 v2 k ∨ wx.heap.size ≤ k) (q5 : Touch (foot (n0 + 1) a1 a2) w3 w4) :
    g ≠ [] ∧ l = (D ++ g) ++ R' ∧ Laid (V ++ [(r.y, rowL g)] ++ [(r.y + r.h, [])]) (D ++ g) R' ∧ w4.heap[n0]? = some (.cells #[.slice none 0 0, .slice none 0 0] 51 (0, 0)) ∧ Below n0 w w4 := by
  have hg : r ∈ g.head? := by
    cases g with
    | nil =>
      simp at hs
      exact absurd rfl (hx r (by rw [← hs]; simp))
    | cons q g =>
      simp at hs
      simp [hs.1]
  have ft : ∀ k, foot (n0 + 1) v1 v2 k → n0 + 1 ≤ k := fun i hi => by rcases (hb.foot_lt hi).1 with h | h <;> omega
  have lt := (Array.getElem?_eq_some_iff.1 hr).1
  have l1 := k.size
  have l2 := q2.size
  have ft2 : ∀ k, foot (n0 + 1) a1 a2 k → n0 + 1 ≤ k := fun i hi => by rcases q3 i hi with h | h; exact ft i h; omega
  refine ⟨fun e => by subst e; simp at hg, by rw [hDR, hs, List.append_assoc], ?_, ?_, ?_⟩
  · rw [hs] at hl
    exact hl.band (ord.drop (by rw [hDR, hs] at ho; exact ho)) (fun s hs' => hc s (by rw [hDR, hs]; exact List.mem_append_right _ hs')) hy hx hg
  · exact (q5.block n0 (by omega) (fun e => by have := ft2 _ e; omega)).trans ((q2.block n0 (by omega) (fun e => by have := ft _ e; omega)).trans ((k.block n0 lt).trans hr))
  · exact ((hlow.trans (k.mono (by omega))).trans (q2.below (fun i hi => by have := ft i hi; omega) (by omega))).trans (q5.below (fun i hi => by have := ft2 i hi; omega) (by omega))
def lenOf (v : Value) : Nat := match v with | .slice _ n _ => n | _ => 0
set_option maxHeartbeats 16000000 in
theorem lay_any (l : List Rc) (v : Value) (w : World) (hl : l.length ≤ 20000) (h : CR w v l) (ho : ord l) :
    Calls Try.prog 54 #[v] w fun e w' => ∃ u V, e = .returned u ∧ FreshB w.heap.size w' u V ∧ Laid V l [] ∧ Below w.heap.size w w' := by
  have hrs := h.rs
  obtain ⟨p0, c0, rfl, _⟩ := hrs
  obtain ⟨n0, hn0⟩ : ∃ n0, w.heap.size = n0 := ⟨_, rfl⟩
  have step := fun (w : World) (cs : Array Value) (T : TypeId) => And.intro (alloc_size w (.cells cs T)) (And.intro (heap_alloc_new w (.cells cs T)) ((Below.refl w.heap.size w).alloc (Nat.le_refl _) (.cells cs T)))
  obtain ⟨z1, o1, k1⟩ := step w #[.slice none 0 0, .slice none 0 0] 51
  obtain ⟨w1, hw1⟩ : ∃ w1, w.alloc (.cells #[.slice none 0 0, .slice none 0 0] 51) = w1 := ⟨_, rfl⟩
  rw [hw1] at z1 o1 k1
  obtain ⟨z2, o2, k2⟩ := step w1 #[.slice none 0 0, .slice none 0 0] 51
  obtain ⟨w2, hw2⟩ : ∃ w2, w1.alloc (.cells #[.slice none 0 0, .slice none 0 0] 51) = w2 := ⟨_, rfl⟩
  rw [hw2] at z2 o2 k2
  rw [hn0] at z1 o1 k1
  rw [z1] at z2 o2 k2
  replace z2 : w2.heap.size = n0 + 2 := by omega
  have hI0 : w2.heap[n0]? = some (.cells #[.slice none 0 0, .slice none 0 0] 51 (0, 0)) ∧ BandAt (n0 + 2) w2 (n0 + 1) (.slice none 0 0) (.slice none 0 0) [] ∧ Below n0 w w2 :=
    ⟨(k2.block _ (by omega)).trans o1, ⟨o2, RowAt.nil _ _ _ _, [], RowAt.nil _ _ _ _, fun i hi => absurd hi (by simp)⟩, k1.trans (k2.mono (by omega))⟩
  have HI0 := Lib.hid hI0
  have HCC := Lib.hid h.counts
  have HO := Lib.hid ho
  have HRS := Lib.hid h.rs
  have HLL := Lib.hid hl
  obtain ⟨nl, hnl⟩ : ∃ nl, l.length = nl := ⟨_, rfl⟩
  rw [hnl] at HRS ⊢
  clear h hI0 o1 o2 k1 k2 step ho
  go_enter Try.func54, Try.ntmps54
  go_wp2_with fail
  go_loopw [0] (fun p wr => ∃ (D R : List Rc) (V : Bnd) (v1 v2 : Value), l = D ++ R ∧ RS w p R ∧ Laid V D R ∧ BandAt (n0 + 2) wr (n0 + 1) v1 v2 V ∧ wr.heap[n0]? = some (.cells #[.slice none 0 0, .slice none 0 0] 51 (0, 0)) ∧ Below n0 w wr) (fun p _ => lenOf p)
  case atStart => exact ⟨[], l, [], _, _, rfl, HRS.out, Laid.nil l, HI0.out.2.1, HI0.out.1, HI0.out.2.2⟩
  case round =>
    obtain ⟨D, R, V, v1, v2, hDR, hrs, hlaid, hband, hres, hlow⟩ := hrel
    have HLAID := Lib.hid hlaid
    have HBAND := Lib.hid hband
    have HRES := Lib.hid hres
    have HLOW := Lib.hid hlow
    have HDR := Lib.hid hDR
    have HRR := Lib.hid hrs
    cases R with
    | nil =>
      obtain ⟨p, c, rfl, _⟩ := hrs
      obtain ⟨xs, hx, _⟩ := hband.rw
      obtain ⟨q1, e1, s1⟩ := RowAt.shape hband.bd
      obtain ⟨q2, e2, s2⟩ := RowAt.shape hx
      obtain ⟨m, hm⟩ : ∃ m, V.length = m := ⟨_, rfl⟩
      rw [List.length_map, hm] at s1
      rw [hm] at s2
      subst s1 s2
      have c0 := cellAt (o := 0) hband.cell rfl
      have c1 := cellAt (o := 1) hband.cell rfl
      have d0 := cellAt (o := 0) hres rfl
      have d1 := cellAt (o := 1) hres rfl
      have f0 := frozenAt (o := 0) hres
      have f1 := frozenAt (o := 1) hres
      clear hband hx hres hlaid hlow
      go_wp2_with fail
      obtain ⟨W2, hW2⟩ : ∃ W2, (wr.setCell ⟨n0, 0, none⟩ (.slice q1 m e1)).setCell ⟨n0, 1, none⟩ (.slice q2 m e2) = W2 := ⟨_, rfl⟩
      rw [hW2]
      have hr2 : W2.heap[n0]? = some (.cells #[.slice q1 m e1, .slice q2 m e2] 51 (0, 0)) := by
        rw [← hW2]
        exact setRowAt (setRowAt HRES.out rfl) rfl
      have t2 : Touch (fun k => k = n0) wr W2 := by
        rw [← hW2]
        exact (Touch.set (F := fun k => k = n0) rfl).trans (Touch.set (F := fun k => k = n0) rfl)
      have hb2 := HBAND.out.touch t2 (fun k hk => by
        subst hk
        refine ⟨fun hf => ?_, fun cs hc => ?_⟩
        · have := (HBAND.out.foot_lt hf).1
          omega
        · rw [HRES.out] at hc; cases hc)
      refine bodyPost_ret (Ret.ret_cell rfl _ _ n0 51 _ (0, 0) _ rfl hr2 Try.underlying51 rfl (by kernel_rfl)) rfl ⟨_, V, rfl, by rw [hn0]; exact ⟨n0 + 1, _, _, rfl, by omega, hb2.base (by omega)⟩, ?_, ?_⟩
      · have := HLAID.out
        have e := HDR.out
        rw [List.append_nil] at e
        rw [e]
        exact this
      · rw [hn0]
        exact HLOW.out.trans (t2.below (fun k hk => by omega) (by have := HLOW.out.size; omega))
    | cons r R =>
      obtain ⟨p, c, rfl, hc, hh⟩ := hrs
      obtain ⟨b, off, rfl, hb, hcells⟩ := hh (by simp)
      have h0 := (hcells 0 (by simp)).below (HLOW.out.mono (Nat.le_refl _)) (by omega)
      rw [Nat.zero_mul, Nat.add_zero, List.getElem_cons_zero] at h0
      have hq := counts_iff.1 (HCC.out r (by rw [hDR]; simp))
      obtain ⟨d0, d1, d2, d3⟩ := h0
      obtain ⟨n, hn⟩ : ∃ n, (r :: R).length = n := ⟨_, rfl⟩
      have hn1 : 0 < n := by rw [← hn]; simp
      have hnl2 : n ≤ 20000 := by rw [← hn]; have := HLL.out; rw [HDR.out, List.length_append] at this; omega
      rw [hn] at HRR
      rw [hn] at hc
      rw [hn]
      obtain ⟨Y, hY⟩ : ∃ Y, r.y + r.h = Y := ⟨_, rfl⟩
      have f1 : IntKind.i64.wrap (r.y + r.h) = Y := (IntWalk.i64_in _ (by omega)).trans hY
      have f2 : wrap64 (r.y + r.h) = Y := (IntWalk.wrap64_in _ (by omega)).trans hY
      have d1' : decide (0 < (n : Int)) = true := decide_eq_true (by omega)
      have d2' : decide (0 < n) = true := decide_eq_true hn1
      clear hcells hh hlaid hband hres hlow hDR
      go_wp2_with fail
      go_quiet (fail)
      have HB1 := Lib.hid (HBAND.out.below (below_q (Below.refl _ _) nq))
      have HR1 : RowKit.Hid ((wr.drewN nq).heap[n0]? = some (.cells #[.slice none 0 0, .slice none 0 0] 51 (0, 0))) := HRES
      have HL1 := Lib.hid (below_q HLOW.out nq)
      clear HBAND HRES HLOW d0 d1 d2 d3
      generalize wr.drewN nq = w9 at *
      go_wp2_with fail
      go_loopw [0, 6] (fun p u wx => ∃ (g R' : List Rc), r :: R = g ++ R' ∧ RS w p R' ∧ (∀ s ∈ g, s.y = r.y) ∧ IntsAt w9.heap.size wx u (rowL g) ∧ Below w9.heap.size w9 wx) (fun p _ _ => lenOf p)
      case atStart => exact ⟨[], r :: R, rfl, by have := HRR.out; exact this, fun s hs => absurd hs (by simp), RowAt.nil _ _ _ _, Below.refl _ _⟩
      case round =>
        obtain ⟨g, R', hspl, hrs2, hgy, hu, hbx⟩ := hrel
        have HSPL := Lib.hid hspl
        have HRS2 := Lib.hid hrs2
        have HGY := Lib.hid hgy
        have HU := Lib.hid hu
        have HBX := Lib.hid hbx
        obtain ⟨pu, cu, hpu⟩ := RowAt.shape hu
        obtain ⟨mu, hmu⟩ : ∃ mu, (rowL g).length = mu := ⟨_, rfl⟩
        rw [hmu] at hpu
        subst hpu
        obtain ⟨RL, hRL⟩ : ∃ RL, R'.length = RL := ⟨_, rfl⟩
        have HRL := Lib.hid hRL
        cases R' with
        | nil =>
          obtain ⟨p2, c2, rfl, _⟩ := hrs2
          rw [hRL] at HRS2 ⊢
          have hRL0 : RL = 0 := by rw [← hRL]; rfl
          have HEX : RowKit.Hid (∀ s ∈ ([] : List Rc).head?, s.y ≠ r.y) := Lib.hid (fun s hs => by simp at hs)
          subst hRL0
          clear hspl hgy hu hbx
          go_wp2_with fail
          have HBX2 := HB1.out.below HBX.out
          have hoff : Off (.slice pu mu cu) (foot (n0 + 1) v1 v2) := fun i hk hf => by
            obtain ⟨_, cs, T', hcc, _⟩ := HB1.out.foot_lt hf
            have := (Array.getElem?_eq_some_iff.1 hcc).1
            have := (own_type HU.out i hk).1
            omega
          have hvl : V.length ≤ 40000 := by have := HLAID.out.n1; have := HLL.out; have e := HDR.out; rw [e, List.length_append] at this; omega
          have hz9 : n0 + 2 ≤ w9.heap.size := by have := (Array.getElem?_eq_some_iff.1 HB1.out.cell).1; omega
          have A1 := Lib.hid (add_any HBX2 (by have := HBX.out.size; omega) (by omega) r.y (.slice pu mu cu) (rowL g) HU.out.ir hoff HU.out.intB)
          have HVL := Lib.hid hvl
          have HZ9 := Lib.hid hz9
          clear HBX2 hoff hvl hz9
          go_wp2_with fail
          refine A1.out.mono ?_
          rintro e w3 ⟨rfl, a1, a2, b1, t1, n1⟩
          have A2 := Lib.hid (add_any b1 (by have := HBX.out.size; have := t1.size; have := HZ9.out; omega) (by have := HVL.out; simp; omega) Y (.slice none 0 0) [] (IR.nil _) (fun k hk => by simp [Value.ownBlock] at hk) (IntB.nil _))
          have T1 := Lib.hid t1
          have N1 := Lib.hid n1
          clear A1 b1 t1 n1
          go_wp2_with fail
          refine A2.out.mono ?_
          rintro e w4 ⟨rfl, b1, b2, e4, t4, n4⟩
          obtain ⟨g1, g2, g3, g4, g5⟩ := lay_round hn0 HDR.out HSPL.out HLAID.out HO.out HCC.out HGY.out HEX.out HB1.out HR1.out HL1.out HBX.out T1.out N1.out t4
          rw [hY] at g3
          have G := Lib.hid (And.intro g2 (And.intro g3 (And.intro e4 (And.intro g4 g5))))
          have hgl : 0 < g.length := List.length_pos_iff.2 g1
          have hlt : 0 < n := by have := congrArg List.length HSPL.out; rw [hn, List.length_append, HRL.out] at this; omega
          clear A2 e4 t4 n4 g1 g2 g3 g4 g5 hgl
          go_wp2_with fail
          go_roundw
          case rel => exact ⟨D ++ g, _, _, b1, b2, G.out.1, HRS2.out, G.out.2.1, G.out.2.2.1, G.out.2.2.2.1, G.out.2.2.2.2⟩
          case measure => simp [lenOf]; omega
        | cons s R2 =>
          obtain ⟨p2, c2, rfl, hc2, hh2⟩ := hrs2
          obtain ⟨b2, off2, rfl, hb2, hcells2⟩ := hh2 (by simp)
          have hlow2 : Below n0 w wr := HL1.out.trans (hbx.mono (by have := HL1.out.size; omega))
          rw [hRL] at HRS2 hc2 ⊢
          have hRL1 : 0 < RL := by rw [← hRL]; simp
          have h0 := hcells2 0 (by simp)
          rw [Nat.zero_mul, Nat.add_zero, List.getElem_cons_zero] at h0
          have CELL := Lib.hid (fun (W : World) (k : Below n0 w W) => h0.below k (by omega))
          have hqs := counts_iff.1 (HCC.out s (by rw [HDR.out, hspl]; simp))
          obtain ⟨d0, d1, d2, d3⟩ := CELL.out wr hlow2
          have e1 : decide (0 < (RL : Int)) = true := decide_eq_true (by omega)
          have e2 : decide (0 < RL) = true := decide_eq_true hRL1
          have HLW := Lib.hid hlow2
          clear hcells2 hh2 hspl hgy hu hbx hlow2 h0
          by_cases hy : s.y = r.y
          · have e3 : (s.y == r.y) = true := by simpa using hy
            obtain ⟨X, hX⟩ : ∃ X, s.x + s.w = X := ⟨_, rfl⟩
            have g1 : IntKind.i64.wrap (s.x + s.w) = X := (IntWalk.i64_in _ (by omega)).trans hX
            have HGY2 : RowKit.Hid (∀ q ∈ g ++ [s], q.y = r.y) := Lib.hid (fun q hq => by
              rcases List.mem_append.1 hq with h | h
              · exact HGY.out q h
              · simp at h; rw [h]; exact hy)
            have HROW : RowKit.Hid (rowL (g ++ [s]) = rowL g ++ [s.x, X]) := Lib.hid (by rw [rowL_snoc, hX])
            have hsl := fun W => run_restV W (some ⟨b2, off2, none⟩) RL c2 hRL1
            have HRS3 := Lib.hid (HRS2.out.rest)
            have HLG : RowKit.Hid ((rowL g).length ≤ 1000000000) := Lib.hid (by rw [rowL_len]; have := congrArg List.length HSPL.out; rw [hn, List.length_append] at this; omega)
            have HZ : RowKit.Hid (lenOf (restV (some ⟨b2, off2, none⟩) RL c2) < RL) := Lib.hid (by unfold restV lenOf; simp only; omega)
            clear hy hX
            go_upto_region 6 with fail
            refine region_preds (by kernel_rfl) (addV (.slice pu mu cu) (.slice (some ⟨b2, off2, none⟩) RL c2) (.pointer (some ⟨b2, off2, none⟩)) (.pointer (some ⟨b2, off2 + 2, none⟩)) s.x s.w X) (addR wr.heap.size w9.heap.size (rowL g) s.x X) (fun ℓ W => (ℓ 15 = false → Below wr.heap.size wr W ∧ ℓ 16 = false) ∧ Below w9.heap.size w9 W ∧ (ℓ 15 = true → ℓ 14 = true)) [0]
              [none, none, none, none, none, none, some 16, none, none, none, none, none, none, none, none, none, none, none, none, none, none, none, none, none, none, none, none, none, none, some 0, some 1, some 2, some 3, some 4, some 5, some 6, some 7, some 8, some 9, some 10, some 11, some 12, some 13, some 14, some 15, none, none, none, none, none, none, none, none, none, none]
              (by kernel_rfl) (by kernel_rfl) (by rfl) (by kernel_rfl) (by kernel_rfl) (by kernel_rfl) ⟨fun _ => ⟨below_q (Below.refl _ _) 1, rfl⟩, below_q HBX.out 1, fun h => by cases h⟩ ⟨?_, ?_, ?_, ?_, ?_, ?_, ?_, ?_, ?_, ?_, ?_, ?_, ?_, ?_, ?_, ?_, ?_, trivial⟩ ?_
            case refine_18 =>
              intro vs ℓ W hl hS hR
              have h16 : IntsAt w9.heap.size W (vs 16) (rowL g ++ [s.x, X]) := hR 16 6 (by rfl) rfl
              have HU2 := Lib.hid h16
              have HBX3 := Lib.hid hS.2.1
              clear hR hS hl h16
              simp only [zipF, addV, Option.getD_some, Option.getD_none]
              generalize vs 16 = u2 at *
              generalize vs 15 = u3 at *
              generalize vs 14 = u4 at *
              generalize restV (some ⟨b2, off2, none⟩) RL c2 = VR at *
              go_wp2_with fail
              go_roundw
              case rel => exact ⟨g ++ [s], R2, by rw [HSPL.out, List.append_assoc]; rfl, HRS3.out, HGY2.out, by rw [HROW.out]; exact HU2.out, HBX3.out⟩
              case measure => exact HZ.out
            case refine_1 =>
              intro ℓ act W hl hS hw hx hr hd
              have e6 : act.tmps[6]? = some (.slice pu mu cu) := hx 6 16 (by rfl) (by kernel_rfl)
              clear hw hx hr hd
              refine ⟨wanted_none (by rfl), fun K hK => ?_⟩
              go_simp
              exact hK _ _ rfl ⟨fun h => hS.1 (by simpa using h), hS.2.1, fun h => by simpa using hS.2.2 (by simpa using h)⟩ (fun _ _ _ _ h => h)
            case refine_15 =>
              intro ℓ act W hl hS hw hx hr hd
              have hwt : ℓ 15 = true → ℓ 14 = true := fun h => hS.2.2 h
              clear hw hx
              simp only [readFacts, depFactsP] at hr hd
              simp [dstOf, Region.binds, addV] at hr hd
              refine ⟨wanted_none (by rfl), fun K hK => ?_⟩
              go_simp
              have hA := hS.2.1
              have hz := alloc_size W (Obj.cells #[.int .i64 s.x, .int .i64 X] 3)
              have kA := (Below.refl W.heap.size W).alloc (Nat.le_refl _) (Obj.cells #[.int .i64 s.x, .int .i64 X] 3)
              have nA := heap_alloc_new W (Obj.cells #[.int .i64 s.x, .int .i64 X] 3)
              refine hK _ _ ⟨W.heap.size, rfl, ?_, by omega, cellAt nA rfl, cellAt nA rfl⟩ ⟨fun h => ?_, hS.2.1.trans (kA.mono hS.2.1.size), fun _ => by simp⟩ (fun j u _ _ h => addR_below h kA)
              · by_cases h15 : ℓ 15 = false
                · exact (hS.1 h15).1.size
                · have h15 : ℓ 15 = true := by simpa using h15
                  have := hwt h15
                  rw [hl] at this
                  cases this
              · obtain ⟨q1, q2⟩ := hS.1 (by simpa using h)
                exact ⟨q1.trans (kA.mono q1.size), by simpa using q2⟩
            case refine_16 =>
              intro ℓ act W hl hS hw hx hr hd
              have hw14 : ℓ 14 = true := by have := hw ⟨14, .data⟩ (by simp) (by rfl); exact this
              clear hw hx
              simp only [readFacts, depFactsP] at hr hd
              simp [dstOf, Region.binds, addV, addR] at hr hd
              refine ⟨wanted_none (by rfl), fun K hK => ?_⟩
              obtain ⟨e1, _, e2, p, rfl, q1, q2, q3, q4⟩ := hd
              obtain ⟨b1, h16⟩ := hS.1 hl
              refine wp_ints2 (.tmp 29) (.tmp 43) rfl (.slice pu mu cu) w9.heap.size (rowL g) (eval_tmp e1) (HU.out.below b1) hS.2.1.size HLG.out p s.x X (eval_tmp e2) q3 q4 ?_
              intro v' w' i1 i2 i3
              refine hK v' w' i1 ⟨fun h => by simp at h, hS.2.1.trans i2, fun _ => by simpa using hw14⟩ (fun j u _ hlj hR => ?_)
              unfold addR at hR ⊢
              split
              · obtain ⟨p', ee, r1, r2, r3, r4⟩ := hR
                have hn : ¬ (Value.slice pu mu cu).ownBlock = some p' := fun e => by
                  obtain ⟨_, cs, hc⟩ := own_type HU.out p' e
                  have := (Array.getElem?_eq_some_iff.1 hc).1
                  omega
                exact ⟨p', ee, r1, Nat.lt_of_lt_of_le r2 i3.size, sameBlock (i3.block p' r2 hn) r3, sameBlock (i3.block p' r2 hn) r4⟩
              · rw [hl] at hlj; cases hlj
              · rw [h16] at hlj; cases hlj
              · trivial
            case refine_17 =>
              intro ℓ act W hl hS hw hx hr hd
              have hw15 : ℓ 15 = true := by have := hw ⟨15, .data⟩ (by simp) (by rfl); exact this
              clear hw hx
              simp only [readFacts, depFactsP] at hr hd
              simp [dstOf, Region.binds, addV, addR] at hr hd
              refine ⟨wanted_none (by rfl), fun K hK => ?_⟩
              obtain ⟨⟨u, e1, hu⟩, _⟩ := hd
              go_simp
              exact hK _ _ hu ⟨fun h => by simp [hw15] at h, hS.2.1, fun h => by simpa using hS.2.2 (by simpa using h)⟩ (fun _ _ _ _ h => h)
            all_goals
              intro ℓ act W hl hS hw hx hr hd
              clear hw hx
              simp only [readFacts, depFactsP] at hr hd
              simp [dstOf, Region.binds, addV] at hr hd
              refine ⟨wanted_none (by rfl), fun K hK => ?_⟩
              obtain ⟨d0, d1, d2, d3⟩ := CELL.out W (HL1.out.trans (hS.2.1.mono (by have := HL1.out.size; omega)))
              go_simp
              exact hK _ _ rfl ⟨fun h => hS.1 (by simpa using h), hS.2.1, fun h => by simpa using hS.2.2 (by simpa using h)⟩ (fun _ _ _ _ h => h)
          · have e3 : (s.y == r.y) = false := by simpa using hy
            have HEX : RowKit.Hid (∀ q ∈ (s :: R2).head?, q.y ≠ r.y) := Lib.hid (fun q hq => by simp at hq; rw [← hq]; exact hy)
            clear hy CELL
            go_wp2_with fail
            have HBX2 := HB1.out.below HBX.out
            have hoff : Off (.slice pu mu cu) (foot (n0 + 1) v1 v2) := fun i hk hf => by
              obtain ⟨_, cs, T', hcc, _⟩ := HB1.out.foot_lt hf
              have := (Array.getElem?_eq_some_iff.1 hcc).1
              have := (own_type HU.out i hk).1
              omega
            have hvl : V.length ≤ 40000 := by have := HLAID.out.n1; have := HLL.out; have e := HDR.out; rw [e, List.length_append] at this; omega
            have hz9 : n0 + 2 ≤ w9.heap.size := by have := (Array.getElem?_eq_some_iff.1 HB1.out.cell).1; omega
            have A1 := Lib.hid (add_any HBX2 (by have := HBX.out.size; omega) (by omega) r.y (.slice pu mu cu) (rowL g) HU.out.ir hoff HU.out.intB)
            have HVL := Lib.hid hvl
            have HZ9 := Lib.hid hz9
            clear HBX2 hoff hvl hz9
            go_wp2_with fail
            refine A1.out.mono ?_
            rintro e w3 ⟨rfl, a1, a2, b1, t1, n1⟩
            have A2 := Lib.hid (add_any b1 (by have := HBX.out.size; have := t1.size; have := HZ9.out; omega) (by have := HVL.out; simp; omega) Y (.slice none 0 0) [] (IR.nil _) (fun k hk => by simp [Value.ownBlock] at hk) (IntB.nil _))
            have T1 := Lib.hid t1
            have N1 := Lib.hid n1
            clear A1 b1 t1 n1
            go_wp2_with fail
            refine A2.out.mono ?_
            rintro e w4 ⟨rfl, b1, b2, e4, t4, n4⟩
            obtain ⟨g1, g2, g3, g4, g5⟩ := lay_round hn0 HDR.out HSPL.out HLAID.out HO.out HCC.out HGY.out HEX.out HB1.out HR1.out HL1.out HBX.out T1.out N1.out t4
            rw [hY] at g3
            have G := Lib.hid (And.intro g2 (And.intro g3 (And.intro e4 (And.intro g4 g5))))
            have hgl : 0 < g.length := List.length_pos_iff.2 g1
            have hlt : RL < n := by have := congrArg List.length HSPL.out; rw [hn, List.length_append, HRL.out] at this; omega
            clear A2 e4 t4 n4 g1 g2 g3 g4 g5 hgl
            go_wp2_with fail
            go_roundw
            case rel => exact ⟨D ++ g, _, _, b1, b2, G.out.1, HRS2.out, G.out.2.1, G.out.2.2.1, G.out.2.2.2.1, G.out.2.2.2.2⟩
            case measure => simp [lenOf]; omega
end Go.Proofs.Ytedlhfemmofbpaa.Reg
