/-
  The program of layer 16 (plain): colours as bytes.
-/
import Derived.Test.YtbdlmcpdplmdnaaPlnPrgC
import Derived.Test.YtbdlmcpdplmdnaaPlnBld
namespace Go.Proofs.Ytbdlmcpdplmdnaa.Pln
open Go.ChangeShapes Go.WideShapes Go.ChangeAt Go.RowKit Go.Shelf Lz RowG RegVal Fmt Oct OwnB
set_option linter.unusedVariables false
set_option linter.unusedSimpArgs false
set_option maxRecDepth 100000
attribute [local go_sem] Oper.semAt_some

/-- The bytes of colours, whatever the format. -/
def putB (f : Fm) (c : Int) : ByteArray := f.put (f.valI c)
def rawB (f : Fm) (L : List Int) : List UInt8 := L.flatMap fun c => (putB f c).data.toList
theorem putB_size (f : Fm) (c : Int) : (putB f c).size = f.size := by
  unfold putB
  cases h : f.ok with
  | true =>
    have := (put_back h (f.valI c) ⟨#[]⟩).2.2
    exact this
  | false =>
    unfold Fm.put Fm.size
    rw [h]
    rfl
theorem rawB_snoc (f : Fm) (L : List Int) (c : Int) : rawB f (L ++ [c]) = rawB f L ++ (putB f c).data.toList := by unfold rawB; simp
theorem rawB_len (f : Fm) (L : List Int) : (rawB f L).length = L.length * f.size := by
  unfold rawB
  induction L with
  | nil => simp
  | cons c L ih =>
    have := putB_size f c
    rw [List.flatMap_cons, List.length_append, ih, List.length_cons, Nat.succ_mul]
    have e : (putB f c).data.toList.length = (putB f c).size := by simp
    omega
theorem bd_turn {W W' : World} {B b m Bt : Nat} {p v : Value} {l : List UInt8} (h : Bld.BdAt W B b p v l m) (t : Turn (mine 9) Bt W W') : Bld.BdAt W' B b p v l m := by
  refine ⟨h.far, box_turn t h.blk (by decide), ⟨h.own.1, ?_⟩, h.ne, h.full⟩
  rcases h.own.2 with h1 | ⟨g, cap, cur, fz, h1, h2, h3, h4⟩
  · exact .inl h1
  · exact .inr ⟨g, cap, cur, fz, h1, h2, box_turn t h3 (by decide), h4⟩
/-- What the loop that writes values holds. -/
structure RaJ (w : World) (n0 sg m : Nat) (pv : Value) (F : Array Value) (l : List UInt8) (W : World) : Prop where
  bd : ∃ v, Bld.BdAt W (n0 + 1) (n0 + 1) (.pointer (some ⟨n0 + 1, 0, none⟩)) v l m
  f0 : W.heap[n0]? = some (.cells F 23 (0, 0))
  fb : W.heap[sg]? = some (.cells F 23 (0, 0))
  pb : W.heap[sg + 1]? = some (.cells #[pv] 24 (0, 0))
  low : Below n0 w W
theorem RaJ.turn {w : World} {n0 sg m : Nat} {pv : Value} {F : Array Value} {l : List UInt8} {W W' : World} (h : RaJ w n0 sg m pv F l W) (hn : n0 ≤ w.heap.size) (t : Turn (mine 9) n0 W W') : RaJ w n0 sg m pv F l W' := by
  obtain ⟨v, h1⟩ := h.bd
  exact ⟨⟨v, bd_turn h1 t⟩, box_turn t h.f0 (by decide), box_turn t h.fb (by decide), box_turn t h.pb (by decide), h.low.trans (t.below (Nat.le_refl _) (Nat.le_trans hn h.low.size))⟩
theorem RaJ.below {w : World} {n0 sg m : Nat} {pv : Value} {F : Array Value} {l : List UInt8} {W W' : World} (h : RaJ w n0 sg m pv F l W) (hn : n0 ≤ w.heap.size) (t : Below W.heap.size W W') : RaJ w n0 sg m pv F l W' := h.turn hn (turn_below t)
theorem RaJ.more {w : World} {n0 sg m : Nat} {pv : Value} {F : Array Value} {l l' : List UInt8} {Wb w1 : World} {v : Value} (h : RaJ w n0 sg m pv F l Wb) (hn : n0 ≤ w.heap.size) (hsg : n0 + 2 ≤ sg) (hb : Bld.BdAt Wb (n0 + 1) (n0 + 1) (.pointer (some ⟨n0 + 1, 0, none⟩)) v l m)
    (h2 : ∃ v', Bld.BdAt w1 (n0 + 1) (n0 + 1) (.pointer (some ⟨n0 + 1, 0, none⟩)) v' l' m) (hbel : Below (n0 + 1) Wb w1) (ho : Bld.Oth Wb w1 (n0 + 1) v) :
    (∀ B, KeepsFrom B Wb w1) ∧ VoK n0 (sg + 1) sg Wb w1 ∧ RaJ w n0 sg m pv F l' w1 := by
  have lt := fun {k : Nat} {o : Obj} (e : Wb.heap[k]? = some o) => (Array.getElem?_eq_some_iff.1 e).1
  have typ : ∀ k, v.ownBlock = some k → ∃ cs fz, Wb.heap[k]? = some (.cells cs 5 fz) := fun k hk => by
    rcases hb.own.2 with ⟨rfl, _⟩ | ⟨g, cap, cur, fz, rfl, _, hg, _⟩
    · simp [Value.ownBlock] at hk
    · simp [Value.ownBlock] at hk
      subst hk
      exact ⟨cur, fz, hg⟩
  have keep : ∀ (k : Nat) (o : Obj), Wb.heap[k]? = some o → k ≠ n0 + 1 → (∀ cs fz, o ≠ .cells cs 5 fz) → w1.heap[k]? = some o := fun k o hk hne ho2 => by
    refine (ho k (lt hk) hne (fun e => ?_)).trans hk
    obtain ⟨cs, fz, hc⟩ := typ k e
    rw [hk] at hc
    exact ho2 cs fz (Option.some.inj hc)
  have e0 := keep _ _ h.f0 (by omega) (fun cs fz e => by cases e)
  have e1 := keep _ _ h.fb (by omega) (fun cs fz e => by cases e)
  have e2 := keep _ _ h.pb (by omega) (fun cs fz e => by cases e)
  have hsz : n0 ≤ Wb.heap.size := Nat.le_trans hn h.low.size
  refine ⟨fun B => ⟨hbel.size, fun k o _ hk hc => keep k o hk (fun e => ?_) (fun cs fz e => by subst e; simp [Obj.isCells] at hc)⟩, ⟨fun k hk => hbel.block k (by omega), e2.trans h.pb.symm, e1.trans h.fb.symm, hbel.size⟩, h2, e0, e1, e2, h.low.trans (hbel.mono (by omega))⟩
  subst e
  rw [hb.blk] at hk
  cases hk
  simp [Obj.isCells] at hc
theorem keeps_below {B : Nat} {W W' : World} (h : Below W.heap.size W W') : KeepsFrom B W W' := ⟨h.size, fun k o _ hk _ => (h.block k (Array.getElem?_eq_some_iff.1 hk).1).trans hk⟩
def raI (w : World) (n0 sg m : Nat) (pv : Value) (F : Array Value) (RB : List Int → List UInt8) (L : List Int) (N : Nat) (pre : List (Fin N)) (W : World) : Prop := RaJ w n0 sg m pv F (RB (pre.map fun x => px L x.1)) W
set_option maxHeartbeats 8000000 in
theorem raw_any (f : Fm) (hf : f.Wf) (vp : Value) (L : List Int) (w : World) (hL : SW w vp L) (hwf : ∀ c ∈ L, (Lit.int .i64 c).wf = true) (hn : L.length ≤ 1000000) :
    Calls Try.prog 14 #[f.v, vp] w fun e w' => e = .returned (.string ⟨(rawB f L).toArray⟩) ∧ Below w.heap.size w w' := by
  obtain ⟨pa, cp, hvp, _⟩ := hL.cells
  obtain ⟨N, hN⟩ : ∃ N, L.length = N := ⟨_, rfl⟩
  rw [hN] at hvp hn
  obtain ⟨n0, hn0⟩ : ∃ n0, w.heap.size = n0 := ⟨_, rfl⟩
  obtain ⟨m, hm⟩ : ∃ m, N * f.size = m := ⟨_, rfl⟩
  have hs4 := (size_le4 f).1
  have hm4 : m ≤ 4000000 := by rw [← hm]; exact Nat.le_trans (Nat.mul_le_mul hn hs4) (by decide)
  have wm : IntKind.i64.wrap ((N : Int) * (f.size : Nat)) = (m : Int) := by
    rw [show ((N : Int) * (f.size : Nat)) = (m : Int) by rw [← hm]; rfl]
    exact IntWalk.i64_in _ (by omega)
  have step := fun (w : World) (cs : Array Value) (T : TypeId) => And.intro (alloc_size w (.cells cs T)) (And.intro (heap_alloc_new w (.cells cs T)) ((Below.refl w.heap.size w).alloc (Nat.le_refl _) (.cells cs T)))
  obtain ⟨z1, o1, k1⟩ := step w #[.int .i64 f.B, .int .i64 f.D, .bool f.big, .bool f.tr, .int .i64 f.rm, .int .i64 f.gm, .int .i64 f.bm, .int .i64 f.rs, .int .i64 f.gs, .int .i64 f.bs] 23
  obtain ⟨w1, hw1⟩ : ∃ w1, w.alloc (.cells #[.int .i64 f.B, .int .i64 f.D, .bool f.big, .bool f.tr, .int .i64 f.rm, .int .i64 f.gm, .int .i64 f.bm, .int .i64 f.rs, .int .i64 f.gs, .int .i64 f.bs] 23) = w1 := ⟨_, rfl⟩
  rw [hw1] at z1 o1 k1
  rw [hn0] at z1 o1 k1
  obtain ⟨z2, o2, k2⟩ := step w1 #[.pointer none, .slice none 0 0] 59
  obtain ⟨w2, hw2⟩ : ∃ w2, w1.alloc (.cells #[.pointer none, .slice none 0 0] 59) = w2 := ⟨_, rfl⟩
  rw [hw2] at z2 o2 k2
  rw [z1] at z2 o2 k2
  rw [show n0 + 1 + 1 = n0 + 2 from rfl] at z2
  have k02 : Below n0 w w2 := k1.trans (k2.mono (by omega))
  have f02 : w2.heap[n0]? = some (.cells #[.int .i64 f.B, .int .i64 f.D, .bool f.big, .bool f.tr, .int .i64 f.rm, .int .i64 f.gm, .int .i64 f.bm, .int .i64 f.rs, .int .i64 f.gs, .int .i64 f.bs] 23 (0, 0)) := (k2.block n0 (by omega)).trans o1
  have bd2 : Bld.BdAt w2 (n0 + 1) (n0 + 1) (.pointer none) (.slice none 0 0) [] m := ⟨Nat.le_refl _, o2, ⟨rfl, .inl ⟨rfl, rfl⟩⟩, by simp [Value.ownBlock], .inl rfl⟩
  have SZ := Lib.hid (fun w => size_any f hf w)
  have GR := Lib.hid (fun W (h : Bld.BdAt W (n0 + 1) (n0 + 1) (.pointer none) (.slice none 0 0) [] m) (hB : n0 + 1 ≤ W.heap.size) => Bld.room_any (n0 + 1) (n0 + 1) m W h hB (by omega))
  have VO := Lib.hid (fun W => valuesOf_any f vp pa N cp hvp W)
  have VI := Lib.hid (fun w5 sg (hb : Below n0 w w5) c1 c2 => by
    have := valsOf_in 4 (by decide) f hf L hwf N hN hn vp w w5 hL (by rw [hn0]; exact hb) (sg + 1) sg n0 c1 c2
    rw [hn0] at this
    exact this)
  have PU := Lib.hid (fun (c : Int) w => (fput_any f hf (f.valI c) (valI_wf f c) w : _))
  have PS := Lib.hid (fun c => putB_size f c)
  have hput : ∀ c, f.put (f.valI c) = putB f c := fun c => rfl
  obtain ⟨RB, hRB⟩ : ∃ RB, rawB f = RB := ⟨_, rfl⟩
  have RS := Lib.hid (fun l c => (rawB_snoc f l c))
  have RL := Lib.hid (fun l => rawB_len f l)
  have RN : RowKit.Hid (rawB f [] = []) := Lib.hid rfl
  simp only [hput] at PU
  obtain ⟨PB, hPB⟩ : ∃ PB, putB f = PB := ⟨_, rfl⟩
  obtain ⟨G, hG⟩ : ∃ G, f.valI = G := ⟨_, rfl⟩
  rw [hPB] at PU PS RS
  rw [hRB] at RS RL RN ⊢
  rw [hG] at PU VI
  have HF : f.v = .agg #[.int .i64 f.B, .int .i64 f.D, .bool f.big, .bool f.tr, .int .i64 f.rm, .int .i64 f.gm, .int .i64 f.bm, .int .i64 f.rs, .int .i64 f.gs, .int .i64 f.bs] := rfl
  rw [HF] at SZ VO PU ⊢
  have HM := Lib.hid hm
  generalize f.size = sz at *
  clear hput hRB hPB hG HF hf hL hwf hm
  rename_i hrow
  clear hrow
  have HFM : RowKit.Hid (∀ (W : World) (k : Nat), W.heap[k]? = some (.cells #[.int .i64 f.B, .int .i64 f.D, .bool f.big, .bool f.tr, .int .i64 f.rm, .int .i64 f.gm, .int .i64 f.bm, .int .i64 f.rs, .int .i64 f.gs, .int .i64 f.bs] 23 (0, 0)) → FmAt W k f) := Lib.hid (fun W k h => ⟨cellAt h rfl, cellAt h rfl, cellAt h rfl, cellAt h rfl, cellAt h rfl, cellAt h rfl, cellAt h rfl, cellAt h rfl, cellAt h rfl, cellAt h rfl⟩)
  obtain ⟨B, D, big, tr, rm, gm, bm, rs, gs, bs⟩ := f
  simp only at *
  have HK02 := Lib.hid k02
  have HF02 := Lib.hid f02
  have HB02 := Lib.hid bd2
  obtain ⟨d0, d1, d2, d3, d4, d5, d6, d7, d8, d9⟩ := HFM.out _ _ f02
  clear o1 o2 k1 k2 k02 f02 bd2 step
  subst hvp
  refine (callsIn_wide (n := 5)).1 ?_
  refine callsIn_of_wp_marks Try.func14 rfl trivial ?_ rfl
  simp only [Try.ntmps14, List.size_toArray, List.length_cons, List.length_nil, Nat.reduceAdd, Nat.reduceSub, Array.replicate_succ, Array.replicate_zero, List.push_toArray, List.append_toArray, List.nil_append, List.cons_append]
  gi_wp2
  refine ⟨trivial, (callsIn_wide.2 (SZ.out _)).mono ?_⟩
  rintro e w3 ⟨rfl, b3⟩
  have hz3 : n0 + 2 ≤ w3.heap.size := by have := b3.size; omega
  have GC := Lib.hid (GR.out w3 (HB02.out.below b3) (by omega))
  have HF03 := Lib.hid ((b3.block n0 (by omega)).trans HF02.out)
  have HK03 := Lib.hid (HK02.out.trans (b3.mono (by omega)))
  clear b3 SZ GR HB02 HF02 HK02 d0 d1 d2 d3 d4 d5 d6 d7 d8 d9
  gi_wp2
  refine ⟨trivial, (callsIn_wide.2 GC.out).mono ?_⟩
  rintro e w4 ⟨rfl, v4, g1, g2, g3⟩
  have HBD4 := Lib.hid g1
  have f04 := (g2.block n0 (by omega)).trans HF03.out
  have HK04 := Lib.hid (HK03.out.trans (g2.mono (by omega)))
  obtain ⟨sg, hsg⟩ : ∃ sg, w4.heap.size = sg := ⟨_, rfl⟩
  have hsg2 : n0 + 2 ≤ sg := by have := g2.size; omega
  obtain ⟨d0, d1, d2, d3, d4, d5, d6, d7, d8, d9⟩ := HFM.out _ _ f04
  have HF04 := Lib.hid f04
  have VC := Lib.hid (VO.out w4)
  clear g1 g2 g3 f04 GC HF03 HK03 VO
  gi_wp2
  refine ⟨trivial, (callsIn_wide.2 VC.out).mono ?_⟩
  rintro e w' ⟨rfl, hw'⟩
  have step := fun (w : World) (cs : Array Value) (T : TypeId) => And.intro (alloc_size w (.cells cs T)) (And.intro (heap_alloc_new w (.cells cs T)) ((Below.refl w.heap.size w).alloc (Nat.le_refl _) (.cells cs T)))
  obtain ⟨z5, o5, k5⟩ := step w4 #[.int .i64 B, .int .i64 D, .bool big, .bool tr, .int .i64 rm, .int .i64 gm, .int .i64 bm, .int .i64 rs, .int .i64 gs, .int .i64 bs] 23
  obtain ⟨w5, hw5⟩ : ∃ w5, w4.alloc (.cells #[.int .i64 B, .int .i64 D, .bool big, .bool tr, .int .i64 rm, .int .i64 gm, .int .i64 bm, .int .i64 rs, .int .i64 gs, .int .i64 bs] 23) = w5 := ⟨_, rfl⟩
  rw [hw5] at z5 o5 k5 hw'
  obtain ⟨z6, o6, k6⟩ := step w5 #[.slice pa N cp] 24
  obtain ⟨w6, hw6⟩ : ∃ w6, w5.alloc (.cells #[.slice pa N cp] 24) = w6 := ⟨_, rfl⟩
  rw [hw6] at z6 o6 k6 hw'
  subst hw'
  rw [hsg] at z5 o5 k5
  rw [z5] at z6 o6 k6
  rw [show sg + 1 + 1 = sg + 2 from rfl] at z6
  have k46 : Below sg w4 w' := k5.trans (k6.mono (by omega))
  have b5 := (k6.block sg (by omega)).trans o5
  have hlow : Below n0 w w' := HK04.out.trans (k46.mono (by omega))
  have hseq := VI.out w' sg hlow (cellAt o6 rfl) (HFM.out _ _ b5)
  have hI0 : raI w n0 sg m (.slice pa N cp) #[.int .i64 B, .int .i64 D, .bool big, .bool tr, .int .i64 rm, .int .i64 gm, .int .i64 bm, .int .i64 rs, .int .i64 gs, .int .i64 bs] RB L N [] w' := by
    unfold raI
    rw [List.map_nil, RN.out]
    exact ⟨⟨v4, HBD4.out.below (by rw [hsg]; exact k46)⟩, (k46.block n0 (by omega)).trans HF04.out, b5, o6, hlow⟩
  have HSEQ := Lib.hid hseq
  have HI0 := Lib.hid hI0
  rw [hsg]
  clear hseq hI0 hlow b5 k46 k5 k6 o5 o6 hw5 hw6 step VC VI HBD4 HF04 HK04 d0 d1 d2 d3 d4 d5 d6 d7 d8 d9
  gi_wp2
  refine range_own (n := 5) (by decide) (gf := 60) (lb := #[.pointer (some ⟨sg + 1, 0, none⟩), .pointer (some ⟨sg, 0, none⟩)]) rfl (enters_of Try.func60 (by kernel_rfl) rfl) (Bt := n0) (by omega) HSEQ.out (Below.refl _ _)
    (fun h k => h.trans k) (fun hs t => VoK.turn t (by omega) (by omega) (by omega) (by omega) (by omega) (by omega)) (fun _ => rfl) (raI w n0 sg m (.slice pa N cp) #[.int .i64 B, .int .i64 D, .bool big, .bool tr, .int .i64 rm, .int .i64 gm, .int .i64 bm, .int .i64 rs, .int .i64 gs, .int .i64 bs] RB L N)
    (fun s W W' h t => RaJ.turn h (by omega) t) HI0.out ?round ?done
  case round =>
    intro l pre x W hl hI hlen
    rw [List.length_finRange] at hlen
    have HII := Lib.hid hI
    unfold raI at HII
    simp only [voE]
    have hx : (pre ++ [x]).map (fun x => px L x.1) = pre.map (fun x => px L x.1) ++ [px L x.1] := by rw [List.map_append]; rfl
    have hlb := RL.out (pre.map fun x => px L x.1)
    rw [List.length_map] at hlb
    have hNx : 0 < N := by omega
    have HSN : RowKit.Hid (∀ W, RaJ w n0 sg m (.slice pa N cp) #[.int .i64 B, .int .i64 D, .bool big, .bool tr, .int .i64 rm, .int .i64 gm, .int .i64 bm, .int .i64 rs, .int .i64 gs, .int .i64 bs] (RB (pre.map fun x => px L x.1) ++ (PB (px L x.1)).data.toList) W → raI w n0 sg m (.slice pa N cp) #[.int .i64 B, .int .i64 D, .bool big, .bool tr, .int .i64 rm, .int .i64 gm, .int .i64 bm, .int .i64 rs, .int .i64 gs, .int .i64 bs] RB L N (pre ++ [x]) W) := Lib.hid (fun W h => by
      unfold raI
      rw [hx, RS.out]
      exact h)
    have hlb2 : (RB (pre.map fun x => px L x.1)).length ≤ 4000000 := by
      rw [hlb]
      exact Nat.le_trans (Nat.mul_le_mul (by omega) hs4) (show 1000000 * 4 ≤ 4000000 by decide)
    have hpm : 0 < (PB (px L x.1)).size → 0 < m := fun h => by
      rw [PS.out] at h
      rw [← HM.out]
      exact Nat.mul_pos hNx h
    have hps : (PB (px L x.1)).size ≤ 4 := by rw [PS.out]; exact hs4
    have P1 := Lib.hid (PU.out (px L x.1))
    have HPM := Lib.hid (And.intro hlb2 (And.intro hpm hps))
    generalize RB (pre.map fun x => px L x.1) = S at *
    generalize PB (px L x.1) = pb at *
    generalize px L x.1 = c at *
    clear hI hlen hx hlb hlb2 hpm hps
    gi_wp2
    refine ⟨KeepsFrom.refl _ _, ⟨fun _ _ => rfl, rfl, rfl, Nat.le_refl _⟩, fun Wb t => ?_⟩
    have hIb := HII.out.turn (by omega) (t.weak (fun o h => .inl h) (show n0 ≤ w'.heap.size by omega))
    obtain ⟨d0, d1, d2, d3, d4, d5, d6, d7, d8, d9⟩ := HFM.out _ _ hIb.f0
    have HIB := Lib.hid hIb
    clear hIb HII t
    gi_wp2
    refine ⟨trivial, (CallsIn.inRound l (callsIn_wide.2 (P1.out _))).mono ?_⟩
    rintro e w7 ⟨rfl, b7⟩
    have hI7 := HIB.out.below (by omega) b7
    obtain ⟨v, hv⟩ := hI7.bd
    have hw7 : n0 + 1 ≤ w7.heap.size := by have := (Array.getElem?_eq_some_iff.1 hI7.fb).1; omega
    have W1 := Lib.hid (Bld.write_any (n0 + 1) (n0 + 1) m _ v S pb w7 hv (.inr rfl) hw7 (by have := HPM.out; omega) HPM.out.2.1)
    have K7 := Lib.hid (keeps_below (B := sg + 2) b7)
    have V7 := Lib.hid (VoK.below (Bk := n0) (B1 := sg + 1) (B2 := sg) b7 (by have := (Array.getElem?_eq_some_iff.1 HIB.out.fb).1; omega) (Array.getElem?_eq_some_iff.1 HIB.out.pb).1 (Array.getElem?_eq_some_iff.1 HIB.out.fb).1)
    have HI7 := Lib.hid hI7
    have HV := Lib.hid hv
    clear P1 b7 hI7 hv d0 d1 d2 d3 d4 d5 d6 d7 d8 d9
    gi_wp2
    refine ⟨trivial, (CallsIn.inRound l (callsIn_wide.2 W1.out)).mono ?_⟩
    rintro e w8 ⟨rfl, v8, g1, g2, g3⟩
    have hd := HI7.out.more (by omega) hsg2 HV.out ⟨v8, g1⟩ g2 g3
    have HD := Lib.hid (And.intro (K7.out.trans (hd.1 _)) (And.intro (V7.out.trans hd.2.1) (HSN.out _ hd.2.2)))
    clear g1 g2 g3 hd W1
    gi_wp2
    rw [z6]
    exact HD.out
  case done =>
    intro D' W hD hI hdef
    unfold raI at hI
    have hall := fin_map L N hN (fun c => c)
    rw [List.map_id'] at hall
    rw [hall] at hI
    obtain ⟨v, hv⟩ := hI.bd
    have hlen : (RB L).length = m := by rw [RL.out, hN, HM.out]
    have hwW : n0 + 1 ≤ W.heap.size := by have := (Array.getElem?_eq_some_iff.1 hI.fb).1; omega
    have S1 := Lib.hid (Bld.string_any (n0 + 1) (n0 + 1) m _ v (RB L) W hv (by omega) hlen hwW)
    have HLO := Lib.hid hI.low
    have hne1 : D' ≠ n0 + 1 := fun e => by
      rw [e, hv.blk] at hdef
      cases hdef
    have hne2 : v.ownBlock ≠ some D' := fun e => by
      rcases hv.own.2 with ⟨rfl, _⟩ | ⟨g, cap, cur, fz, rfl, _, hg, _⟩
      · simp [Value.ownBlock] at e
      · simp [Value.ownBlock] at e
        subst e
        rw [hdef] at hg
        cases hg
    have HNE := Lib.hid (And.intro hne1 hne2)
    clear hne1 hne2
    have HDF := Lib.hid hdef
    clear hv hI hdef hall hlen
    gi_wp2
    refine ⟨trivial, (callsIn_wide.2 S1.out).mono ?_⟩
    rintro e w8 ⟨rfl, g2, g3⟩
    have hd8 : w8.heap[D']? = some (.deferred (some [])) := (g3 D' (Array.getElem?_eq_some_iff.1 HDF.out).1 HNE.out.1 HNE.out.2).trans HDF.out
    have HL8 := Lib.hid (HLO.out.trans (g2.mono (by omega)))
    have HD8 := Lib.hid hd8
    clear g2 g3 S1 hd8
    gi_wp2
    refine ⟨by simp, .inl ⟨_, _, rfl, run_takeDeferred HD8.out, ?_⟩⟩
    refine ⟨_, results_tmp rfl _ _ _, ⟨rfl, ?_⟩⟩
    rw [hn0]
    exact HL8.out.trans ((Turn.putObj (p := noC) _ hD HD8.out rfl).below (by omega) (by have := HL8.out.size; omega))
end Go.Proofs.Ytbdlmcpdplmdnaa.Pln
