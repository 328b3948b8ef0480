/-
  Contract of the library's symMerge_func, whatever the sides.
-/
import Derived.Test.YtildikdoimobhaaSrtSymA
import Derived.Deep.DeepCutAuto
namespace Go.Proofs.Ytildikdoimobhaa.Srt
open Go.Sort Go.RowKit
variable {α : Type} [Inhabited α]
set_option linter.unusedVariables false

/-- What merging two stretches comes to. -/
def Merges (enc : α → List Value) (k : Nat) (key : α → Nat) (g : Nat) (lb : Array Value) (sf : Nat) (sb : Array Value) (w0 : World) (blk size : Nat) (a m b : Nat) : Prop :=
  ∀ (d : Array α) (W : World), St enc k w0 blk d W → d.size = size → Up key a m d → Up key m b d →
    Calls Try.prog 72 #[.agg (dataV g lb sf sb), .int .i64 a, .int .i64 m, .int .i64 b] W fun e w' =>
      e = .returned (.tuple #[]) ∧ ∃ d', PermIn a b d d' ∧ Up key a b d' ∧ St enc k w0 blk d' w' ∧ W.grownBy w' (some blk)

set_option maxRecDepth 100000 in
set_option maxHeartbeats 16000000 in
theorem symC_any (enc : α → List Value) (k : Nat) (hk : ∀ x, (enc x).length = k) (key : α → Nat) (g : Nat) (lb : Array Value) (sf : Nat) (sb : Array Value) (w0 : World) (blk size : Nat) (hblk : blk < w0.heap.size)
    (eg : ∀ args w, (callFunc g args).run Try.prog w = .ok (.enter g args) w) (hless : LessAt Try.prog g lb enc k key blk size w0)
    (hswap : Go.Proofs.SwapSwapsK Try.prog sf sb enc k blk 0 size) (a m b : Nat) (hsz : size ≤ 1000000)
    (h1 : a + 1 < m) (h2 : m + 1 < b) (h3 : b ≤ size)
    (ih : ∀ a' m' b', b' - a' < b - a → a' < m' → m' < b' → b' ≤ size → Merges enc k key g lb sf sb w0 blk size a' m' b') :
    Merges enc k key g lb sf sb w0 blk size a m b := by
  intro d W hst hs hu hv
  have hle := hst.le
  have hst1 := hst.alloc hblk (.cells (dataV g lb sf sb) 99)
  have HST1 := Lib.hid hst1
  have HLS := Lib.hid hless
  have HUP := Lib.hid hu
  have HVP := Lib.hid hv
  have IH := Lib.hid ih
  have ROT := Lib.hid (fun x e dk wr (h : St enc k w0 blk dk wr) (hd : dk.size = size) (q1 : x < m) (q2 : m < e) (q3 : e ≤ size) => rotate_any enc k hk g lb sf sb w0 blk size hblk hswap x m e dk wr h hd hsz q1 q2 q3)
  obtain ⟨M, hM⟩ : ∃ M, (a + b) / 2 = M := ⟨_, rfl⟩
  have HMM := Lib.hid hM
  have hma : ((m : Int) - (a : Int) == 1) = false := by simp; omega
  have hmb : ((b : Int) - (m : Int) == 1) = false := by simp; omega
  clear hst hst1 hswap hless hu hv ih
  unfold Merges dataV at *
  go_enter Try.func72, Try.ntmps72
  go_upto_if 106 with fail
  clear hma hmb
  go_cut [18, 19] (fun s18 s19 wx => (W.alloc (.cells #[.func (.func g) #[] lb, .func (.func sf) #[] sb] 99)) = wx ∧ ∃ s0 r0 : Nat, s18 = .int .i64 s0 ∧ s19 = .int .i64 r0 ∧ a ≤ s0 ∧ s0 ≤ r0 ∧ r0 ≤ m ∧ r0 ≤ M ∧ M + m ≤ b + s0 ∧ (s0 = a ∨ M + m = b + s0) ∧ (r0 = m ∨ r0 = M))
  case first =>
    by_cases hg : M < m
    · have hd : ((a : Int) + b) / 2 < m := by omega
      go_wp2_with fail
      go_meet
      exact ⟨rfl, M + m - b, M, by congr 1; omega, by congr 1; omega, by omega, by omega, by omega, by omega, by omega, .inr (by omega), .inr rfl⟩
    · have hd : ¬ ((a : Int) + b) / 2 < m := by omega
      go_wp2_with fail
      go_meet
      exact ⟨rfl, a, m, rfl, rfl, by omega, by omega, by omega, by omega, by omega, .inl rfl, .inl rfl⟩
  case rest =>
  obtain ⟨hwc, s0, r0, rfl, rfl, q1, q2, q3, q4, q5, q6, q7⟩ := hcut
  subst hwc
  rw [show ((a : Int) + (b : Int)) / 2 = (M : Int) by omega]
  clear hM
  have hMs : M ≤ size := by have := HMM.out; omega
  go_wp2_with fail
  go_loopw [18, 19] (fun vi vj wr => ∃ (x r : Nat), vi = .int .i64 x ∧ vj = .int .i64 r ∧ s0 ≤ x ∧ x ≤ r ∧ r ≤ r0 ∧ (x = s0 ∨ key d[x - 1]! ≤ key d[M + m - x]!) ∧ (r = r0 ∨ key d[M + m - 1 - r]! ≤ key d[r]!) ∧ St enc k w0 blk d wr ∧ (W.alloc (.cells #[.func (.func g) #[] lb, .func (.func sf) #[] sb] 99)).grownBy wr (some blk)) (fun vi vj _ => (intOf vj).toNat - (intOf vi).toNat)
  case atStart => exact ⟨s0, r0, rfl, rfl, Nat.le_refl _, q2, Nat.le_refl _, .inl rfl, .inl rfl, HST1.out, World.grownBy.refl _ _⟩
  case round =>
    obtain ⟨x, r, rfl, rfl, hsx, hxr, hrr, hb1, hb2, hst, hg⟩ := hrel
    have c0 : wr.cell? ⟨W.heap.size, 0, none⟩ = some (.func (.func g) #[] lb) := by
      rw [World.cell?_of_block (a := ⟨W.heap.size, 0, none⟩) (hg.block W.heap.size (by simp) (by simp; omega))]
      simp
    have HB1 := Lib.hid hb1
    have HB2 := Lib.hid hb2
    have HST := Lib.hid hst
    have HG := Lib.hid hg
    clear hb1 hb2 hst hg
    by_cases hlt : x < r
    · obtain ⟨h, hh⟩ : ∃ h, (x + r) / 2 = h := ⟨_, rfl⟩
      have hl := HLS.out wr d HST.out hs (M + m - 1 - h) h (by omega) (by omega)
      have eh : ((h : Nat) : Int) = ((x : Int) + r) / 2 := by omega
      have eh2 : ((M + m - 1 - h : Nat) : Int) = (M : Int) + m - 1 - ((x : Int) + r) / 2 := by omega
      rw [eh2, eh] at hl
      have EH := Lib.hid eh
      clear eh eh2
      by_cases hlv : key d[M + m - 1 - h]! < key d[h]!
      · rw [decide_eq_true hlv] at hl
        have HL := Lib.hid hl
        have HLV := Lib.hid hlv
        clear hl hlv hh
        go_wp2_with fail
        refine HL.out.mono ?_
        rintro rr w2 ⟨rfl, q, rfl⟩
        clear c0 HL
        go_wp2_with fail
        have e3 := EH.out
        refine ⟨⟨x, h, rfl, by congr 1; omega, by omega, by omega, by omega, HB1.out, .inr (Nat.le_of_lt HLV.out), HST.out.drewN q, grown_trans HG.out (grown_drewN wr q _)⟩, ?_⟩
        simp [intOf]; omega
      · rw [decide_eq_false hlv] at hl
        have HL := Lib.hid hl
        have HLV := Lib.hid hlv
        clear hl hlv hh
        go_wp2_with fail
        refine HL.out.mono ?_
        rintro rr w2 ⟨rfl, q, rfl⟩
        clear c0 HL
        go_wp2_with fail
        have e3 := EH.out
        refine ⟨⟨h + 1, r, by congr 1; omega, rfl, by omega, by omega, hrr, .inr (by rw [Nat.add_sub_cancel, show M + m - (h + 1) = M + m - 1 - h by omega]; exact Nat.le_of_not_lt HLV.out), HB2.out, HST.out.drewN q, grown_trans HG.out (grown_drewN wr q _)⟩, ?_⟩
        simp [intOf]; omega
    · obtain rfl : x = r := by omega
      have c1 : wr.cell? ⟨W.heap.size, 1, none⟩ = some (.func (.func sf) #[] sb) := by
        rw [World.cell?_of_block (a := ⟨W.heap.size, 1, none⟩) (HG.out.block W.heap.size (by simp) (by simp; omega))]
        simp
      obtain ⟨e, he⟩ : ∃ e, M + m - x = e := ⟨_, rfl⟩
      have hME := HMM.out
      have hl1 : x = a ∨ e = b ∨ key d[x - 1]! ≤ key d[e]! := by
        rcases HB1.out with h | h
        · rcases q6 with h6 | h6
          · exact .inl (by omega)
          · exact .inr (.inl (by omega))
        · exact .inr (.inr (by rw [← he]; exact h))
      have hl2 : x = m ∨ e = m ∨ key d[e - 1]! ≤ key d[x]! := by
        rcases HB2.out with h | h
        · rcases q7 with h7 | h7
          · exact .inl (by omega)
          · exact .inr (.inl (by omega))
        · exact .inr (.inr (by rw [← he, show M + m - x - 1 = M + m - 1 - x by omega]; exact h))
      have HL1 := Lib.hid hl1
      have HL2 := Lib.hid hl2
      have z1 : a ≤ x := by omega
      have z2 : x ≤ m := by omega
      have z3 : m ≤ e := by omega
      have z4 : e ≤ b := by omega
      have z5 : x ≤ M := by omega
      have z6 : M ≤ e := by omega
      have z7 : e + x = M + m := by omega
      have z8 : a < M ∧ M < b := by omega
      have eE : (M : Int) + m - x = (e : Int) := by omega
      clear hl1 hl2 HB1 HB2 he hME q1 q2 q3 q4 q5 q6 q7 hsx hxr hrr hlt
      go_upto_region 40 with fail
      clear eE
      go_cut [145] (fun sv wx => wr = wx ∧ sv = .bool (decide (x < m ∧ m < e)))
      case first =>
        by_cases t1 : x < m
        · by_cases t2 : m < e
          · go_wp2_with fail
            go_meet
            exact ⟨rfl, by rw [decide_eq_true ⟨t1, t2⟩]⟩
          · go_wp2_with fail
            go_meet
            exact ⟨rfl, by rw [decide_eq_false (fun h => t2 h.2)]⟩
        · go_wp2_with fail
          go_meet
          exact ⟨rfl, by rw [decide_eq_false (fun h => t1 h.1)]⟩
      case rest =>
      obtain ⟨hwc, rfl⟩ := hcut
      subst hwc
      go_upto_if 145 with fail
      go_cut [] (fun wx => ∃ d1, RotOf x m e d d1 ∧ PermIn a b d d1 ∧ St enc k w0 blk d1 wx ∧ (W.alloc (.cells #[.func (.func g) #[] lb, .func (.func sf) #[] sb] 99)).grownBy wx (some blk))
      case first =>
        by_cases t : x < m ∧ m < e
        · rw [decide_eq_true t]
          have RC := Lib.hid (ROT.out x e d wr HST.out hs t.1 t.2 (by omega))
          go_wp2_with fail
          refine RC.out.mono ?_
          rintro rr w2 ⟨rfl, d2, f1, f2, f3, f4⟩
          have F1 := Lib.hid f1
          have F2 := Lib.hid (perm_mono f2 z1 z4 (by omega))
          have F3 := Lib.hid f3
          have F4 := Lib.hid (grown_trans HG.out f4)
          clear f1 f2 f3 f4 RC
          go_wp2_with fail
          go_meet
          exact ⟨d2, F1.out, F2.out, F3.out, F4.out⟩
        · rw [decide_eq_false t]
          have F1 : Hid (RotOf x m e d d) := by
            show RotOf x m e d d
            by_cases t1 : x = m
            · rw [t1]; exact RotOf.left m e d
            · rw [show e = m by omega]; exact RotOf.right x m d
          go_wp2_with fail
          go_meet
          exact ⟨d, F1.out, perm_refl _ _ _, HST.out, HG.out⟩
      case rest =>
      obtain ⟨d1, f1, f2, f3, f4⟩ := hcut
      obtain ⟨m1, m2, m3, m4, m5⟩ := merge_half (key := key) HUP.out HVP.out f1 z7 z1 z2 z3 z4 z5 z6 HL1.out HL2.out
      have M1 := Lib.hid m1
      have M2 := Lib.hid m2
      have M3 := Lib.hid m3
      have M4 := Lib.hid m4
      have M5 := Lib.hid m5
      have F2 := Lib.hid f2
      have F3 := Lib.hid f3
      have F4 := Lib.hid f4
      have hs1 : d1.size = size := f2.1.trans hs
      have c0 : wc.cell? ⟨W.heap.size, 0, none⟩ = some (.func (.func g) #[] lb) := by
        rw [World.cell?_of_block (a := ⟨W.heap.size, 0, none⟩) (f4.block W.heap.size (by simp) (by simp; omega))]
        simp
      have c1 : wc.cell? ⟨W.heap.size, 1, none⟩ = some (.func (.func sf) #[] sb) := by
        rw [World.cell?_of_block (a := ⟨W.heap.size, 1, none⟩) (f4.block W.heap.size (by simp) (by simp; omega))]
        simp
      clear m1 m2 m3 m4 m5 f1 f2 f3 f4 HL1 HL2 HST HG
      rename_i wr0
      generalize wc = w1 at *
      go_upto_region 42 with fail
      go_cut [158] (fun sv wx => w1 = wx ∧ sv = .bool (decide (a < x ∧ x < M)))
      case first =>
        by_cases t1 : a < x
        · by_cases t2 : x < M
          · go_wp2_with fail
            go_meet
            exact ⟨rfl, by rw [decide_eq_true ⟨t1, t2⟩]⟩
          · go_wp2_with fail
            go_meet
            exact ⟨rfl, by rw [decide_eq_false (fun h => t2 h.2)]⟩
        · go_wp2_with fail
          go_meet
          exact ⟨rfl, by rw [decide_eq_false (fun h => t1 h.1)]⟩
      case rest =>
      obtain ⟨hwc, rfl⟩ := hcut
      subst hwc
      go_upto_if 158 with fail
      go_cut [] (fun wx => ∃ d2, PermIn a M d1 d2 ∧ Up key a M d2 ∧ St enc k w0 blk d2 wx ∧ (W.alloc (.cells #[.func (.func g) #[] lb, .func (.func sf) #[] sb] 99)).grownBy wx (some blk))
      case first =>
        by_cases t : a < x ∧ x < M
        · rw [decide_eq_true t]
          have RC := Lib.hid (IH.out a x M (by omega) t.1 t.2 hMs d1 w1 F3.out hs1 M1.out M2.out)
          go_wp2_with fail
          refine RC.out.mono ?_
          rintro rr w2 ⟨rfl, d2, f1, f2, f3, f4⟩
          have G1 := Lib.hid f1
          have G2 := Lib.hid f2
          have G3 := Lib.hid f3
          have G4 := Lib.hid (grown_trans F4.out f4)
          clear f1 f2 f3 f4 RC
          go_wp2_with fail
          go_meet
          exact ⟨d2, G1.out, G2.out, G3.out, G4.out⟩
        · rw [decide_eq_false t]
          have G1 : Hid (Up key a M d1) := by
            show Up key a M d1
            by_cases t1 : a = x
            · rw [t1]; exact M2.out
            · rw [show M = x by omega]; exact M1.out
          go_wp2_with fail
          go_meet
          exact ⟨d1, perm_refl _ _ _, G1.out, F3.out, F4.out⟩
      case rest =>
      obtain ⟨d2, g1, g2, g3, g4⟩ := hcut
      have hs2 : d2.size = size := g1.1.trans hs1
      have c0 : wc.cell? ⟨W.heap.size, 0, none⟩ = some (.func (.func g) #[] lb) := by
        rw [World.cell?_of_block (a := ⟨W.heap.size, 0, none⟩) (g4.block W.heap.size (by simp) (by simp; omega))]
        simp
      have c1 : wc.cell? ⟨W.heap.size, 1, none⟩ = some (.func (.func sf) #[] sb) := by
        rw [World.cell?_of_block (a := ⟨W.heap.size, 1, none⟩) (g4.block W.heap.size (by simp) (by simp; omega))]
        simp
      have G1 := Lib.hid g1
      have G2 := Lib.hid g2
      have G3 := Lib.hid g3
      have G4 := Lib.hid g4
      have P2 := Lib.hid (perm_trans F2.out (perm_mono g1 (Nat.le_refl _) (show M ≤ b by omega) (by omega)))
      have N3 : Hid (Up key M e d2) := M3.out.same fun i hi _ => g1.2.1 i (.inr hi)
      have N4 : Hid (Up key e b d2) := M4.out.same fun i hi _ => g1.2.1 i (.inr (by omega))
      clear g1 g2 g3 g4 F3 F4
      generalize wc = w3 at *
      have JOIN : Hid (∀ d3, PermIn M b d2 d3 → Up key M b d3 → PermIn a b d d3 ∧ Up key a b d3) := fun d3 p u =>
        ⟨perm_trans P2.out (perm_mono p (show a ≤ M by omega) (Nat.le_refl _) (by omega)), up_join (by omega) (by omega) (by omega) G1.out G2.out p u M5.out⟩
      by_cases t1 : M < e
      · by_cases t2 : e < b
        · have RC := Lib.hid (IH.out M e b (by omega) t1 t2 h3 d2 w3 G3.out hs2 N3.out N4.out)
          go_wp2_with fail
          refine RC.out.mono ?_
          rintro rr w4 ⟨rfl, d3, f1, f2, f3, f4⟩
          have K1 := Lib.hid (JOIN.out d3 f1 f2)
          have K3 := Lib.hid f3
          have K4 := Lib.hid (grown_trans (grown_alloc W _ _) (grown_trans G4.out f4))
          clear f1 f2 f3 f4 RC
          go_wp2_with fail
          go_end0
          exact ⟨rfl, d3, K1.out.1, K1.out.2, K3.out, K4.out⟩
        · have K1 := Lib.hid (JOIN.out d2 (perm_refl _ _ _) (by rw [show b = e by omega]; exact N3.out))
          have K4 := Lib.hid (grown_trans (grown_alloc W _ _) G4.out)
          go_wp2_with fail
          go_end0
          exact ⟨rfl, d2, K1.out.1, K1.out.2, G3.out, K4.out⟩
      · have K1 := Lib.hid (JOIN.out d2 (perm_refl _ _ _) (by rw [show M = e by omega]; exact N4.out))
        have K4 := Lib.hid (grown_trans (grown_alloc W _ _) G4.out)
        go_wp2_with fail
        go_end0
        exact ⟨rfl, d2, K1.out.1, K1.out.2, G3.out, K4.out⟩

theorem symMerge_any (enc : α → List Value) (k : Nat) (hk : ∀ x, (enc x).length = k) (key : α → Nat) (g : Nat) (lb : Array Value) (sf : Nat) (sb : Array Value) (w0 : World) (blk size : Nat) (hblk : blk < w0.heap.size)
    (eg : ∀ args w, (callFunc g args).run Try.prog w = .ok (.enter g args) w) (hless : LessAt Try.prog g lb enc k key blk size w0)
    (hswap : Go.Proofs.SwapSwapsK Try.prog sf sb enc k blk 0 size) (hsz : size ≤ 1000000) :
    ∀ (n a m b : Nat), b - a ≤ n → a < m → m < b → b ≤ size → Merges enc k key g lb sf sb w0 blk size a m b := by
  intro n
  induction n with
  | zero => intro a m b h0 h1 h2; omega
  | succ n ih =>
    intro a m b hn h1 h2 h3
    by_cases ha : m = a + 1
    · intro d W hst hs _ hv
      exact symA_any enc k hk key g lb sf sb w0 blk size hblk eg hless hswap a m b d W hst hs hsz ha h2 h3 hv
    · by_cases hb : b = m + 1
      · intro d W hst hs hu _
        exact symB_any enc k hk key g lb sf sb w0 blk size hblk eg hless hswap a m b d W hst hs hsz (by omega) hb h3 hu
      · exact symC_any enc k hk key g lb sf sb w0 blk size hblk eg hless hswap a m b hsz (by omega) (by omega) h3 (fun a' m' b' hlt q1 q2 q3 => ih a' m' b' (by omega) q1 q2 q3)

end Go.Proofs.Ytildikdoimobhaa.Srt
