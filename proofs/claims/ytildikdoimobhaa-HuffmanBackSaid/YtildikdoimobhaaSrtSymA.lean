/-
  Contract of the library's symMerge_func where one side is of one element.
-/
import Derived.Test.YtildikdoimobhaaSrtIns
namespace Go.Proofs.Ytildikdoimobhaa.Srt
open Go.Sort Go.RowKit
variable {α : Type} [Inhabited α]
set_option linter.unusedVariables false

set_option maxRecDepth 100000 in
set_option maxHeartbeats 8000000 in
theorem symA_any (enc : α → List Value) (k : Nat) (hk : ∀ x, (enc x).length = k) (key : α → Nat) (g : Nat) (lb : Array Value) (sf : Nat) (sb : Array Value) (w0 : World) (blk size : Nat) (hblk : blk < w0.heap.size)
    (eg : ∀ args w, (callFunc g args).run Try.prog w = .ok (.enter g args) w) (hless : LessAt Try.prog g lb enc k key blk size w0)
    (hswap : Go.Proofs.SwapSwapsK Try.prog sf sb enc k blk 0 size) (a m b : Nat) (d : Array α) (W : World) (hst : St enc k w0 blk d W) (hs : d.size = size) (hsz : size ≤ 1000000)
    (h1 : m = a + 1) (h2 : m < b) (h3 : b ≤ size) (hu : Up key m b d) :
    Calls Try.prog 72 #[.agg (dataV g lb sf sb), .int .i64 a, .int .i64 m, .int .i64 b] W fun e w' =>
      e = .returned (.tuple #[]) ∧ ∃ d', PermIn a b d d' ∧ Up key a b d' ∧ St enc k w0 blk d' w' ∧ W.grownBy w' (some blk) := by
  have hle := hst.le
  have hst1 := hst.alloc hblk (.cells (dataV g lb sf sb) 99)
  have HST1 := Lib.hid hst1
  have HSW := Lib.hid hswap
  have HLS := Lib.hid hless
  have HUP := Lib.hid hu
  have hma : (m : Int) - (a : Int) = 1 := by omega
  have H1 := Lib.hid h1
  clear hst hst1 hswap hless hu h1
  unfold dataV at *
  go_enter Try.func72, Try.ntmps72
  go_wp2_with fail
  clear hma
  have h1 := H1.out
  go_loopw [8, 9] (fun vi vj wr => ∃ (i j : Nat), vi = .int .i64 i ∧ vj = .int .i64 j ∧ m ≤ i ∧ i ≤ j ∧ j ≤ b ∧ (i = m ∨ key d[i - 1]! ≤ key d[a]!) ∧ (j = b ∨ key d[a]! ≤ key d[j]!) ∧ St enc k w0 blk d wr ∧ (W.alloc (.cells #[.func (.func g) #[] lb, .func (.func sf) #[] sb] 99)).grownBy wr (some blk)) (fun vi vj _ => (intOf vj).toNat - (intOf vi).toNat)
  case atStart => exact ⟨m, b, rfl, rfl, Nat.le_refl _, by omega, Nat.le_refl _, .inl rfl, .inl rfl, HST1.out, World.grownBy.refl _ _⟩
  case round =>
    obtain ⟨i, j, rfl, rfl, hmi, hij, hjb, hb1, hb2, hst, hg⟩ := hrel
    have c0 : wr.cell? ⟨W.heap.size, 0, none⟩ = some (.func (.func g) #[] lb) := by
      rw [World.cell?_of_block (a := ⟨W.heap.size, 0, none⟩) (hg.block W.heap.size (by simp) (by simp; omega))]
      simp
    have HB1 := Lib.hid hb1
    have HB2 := Lib.hid hb2
    have HST := Lib.hid hst
    have HG := Lib.hid hg
    clear hb1 hb2 hst hg
    by_cases hlt : i < j
    · obtain ⟨h, hh⟩ : ∃ h, (i + j) / 2 = h := ⟨_, rfl⟩
      have hl := HLS.out wr d HST.out hs h a (by omega) (by omega)
      have eh : ((h : Nat) : Int) = ((i : Int) + j) / 2 := by omega
      rw [eh] at hl
      have EH := Lib.hid eh
      clear eh h1
      by_cases hlv : key d[h]! < key d[a]!
      · rw [decide_eq_true hlv] at hl
        have HL := Lib.hid hl
        have HLV := Lib.hid hlv
        clear hl hlv
        go_wp2_with fail
        refine HL.out.mono ?_
        rintro r w2 ⟨rfl, q, rfl⟩
        clear c0 HL
        go_wp2_with fail
        refine ⟨⟨h + 1, j, by have := EH.out; congr 1; omega, rfl, by omega, by omega, hjb, .inr (by rw [Nat.add_sub_cancel]; exact Nat.le_of_lt HLV.out), HB2.out, HST.out.drewN q, grown_trans HG.out (grown_drewN wr q _)⟩, ?_⟩
        have := EH.out
        simp [intOf]; omega
      · rw [decide_eq_false hlv] at hl
        have HL := Lib.hid hl
        have HLV := Lib.hid hlv
        clear hl hlv
        go_wp2_with fail
        refine HL.out.mono ?_
        rintro r w2 ⟨rfl, q, rfl⟩
        clear c0 HL
        go_wp2_with fail
        refine ⟨⟨i, h, rfl, by have := EH.out; congr 1; omega, by omega, by omega, by omega, HB1.out, .inr (Nat.le_of_not_lt HLV.out), HST.out.drewN q, grown_trans HG.out (grown_drewN wr q _)⟩, ?_⟩
        have := EH.out
        simp [intOf]; omega
    · obtain rfl : i = j := by omega
      clear h1
      go_wp2_with fail
      go_loopw [11] (fun vx wr2 => ∃ (x : Nat) (dk : Array α), vx = .int .i64 x ∧ a ≤ x ∧ x + 1 ≤ i ∧ RotOf a (a + 1) (x + 1) d dk ∧ PermIn a b d dk ∧ St enc k w0 blk dk wr2 ∧ (W.alloc (.cells #[.func (.func g) #[] lb, .func (.func sf) #[] sb] 99)).grownBy wr2 (some blk)) (fun vx _ => i - (intOf vx).toNat)
      case atStart => exact ⟨a, d, rfl, Nat.le_refl _, by have := H1.out; omega, RotOf.right a (a + 1) d, perm_refl _ _ _, HST.out, HG.out⟩
      case round =>
        obtain ⟨x, dk, rfl, hax, hxi, hrot, hp, hst, hg⟩ := hrel
        have c1 : wr.cell? ⟨W.heap.size, 1, none⟩ = some (.func (.func sf) #[] sb) := by
          rw [World.cell?_of_block (a := ⟨W.heap.size, 1, none⟩) (hg.block W.heap.size (by simp) (by simp; omega))]
          simp
        by_cases hlt2 : x + 1 < i
        · have hsk : dk.size = size := hp.1.trans hs
          have hsw2 := HSW.out wr dk hst.holds hsk x (x + 1) (by omega) (by omega)
          rw [show ((x + 1 : Nat) : Int) = (x : Int) + 1 by omega] at hsw2
          have K1 := Lib.hid (hst.swap hk x (x + 1) (by omega) (by omega))
          have K2 := Lib.hid (grown_trans hg (grown_swap wr blk (0 + x * k) (0 + (x + 1) * k) (enc dk[x + 1]!) (enc dk[x]!)))
          have K3 := Lib.hid (hrot.right1 hax (by omega))
          have K4 := Lib.hid (perm_swp hp (by omega) hax (show x < b by omega) (show a ≤ x + 1 by omega) (show x + 1 < b by omega))
          have HH := Lib.hid hsw2
          clear hsw2 hrot hp hst hg HST HG c0 HB1 HB2
          have hlt3 : (x : Int) < (i : Int) - 1 := by omega
          go_wp2_with fail
          rw [HH.out, Oper.upon_value]
          clear HH c1
          generalize (World.setCells _ _ _ _).setCells blk _ (enc dk[x]!) = w2 at *
          generalize swp dk x (x + 1) = d2 at *
          go_wp2_with fail
          refine ⟨⟨x + 1, d2, by go_num, by omega, by omega, K3.out, K4.out, K1.out, K2.out⟩, ?_⟩
          simp [intOf]; omega
        · have hR : RotOf a (a + 1) i d dk := by rwa [show x + 1 = i by omega] at hrot
          have hmm := H1.out
          have K3 := Lib.hid (up_right (key := key) (by rw [← hmm]; exact HUP.out) hR (by omega) hjb (by rw [← hmm]; exact HB1.out) HB2.out)
          have K4 := Lib.hid hp
          have K1 := Lib.hid hst
          have K2 := Lib.hid (grown_trans (grown_alloc W _ _) hg)
          have hlt3 : ¬ ((x : Int) < (i : Int) - 1) := by omega
          clear hR hmm hrot hp hst hg HST HG c0 HB1 HB2 c1
          go_wp2_with fail
          refine bodyPost_ret (results_none rfl _ _ _) rfl ?_
          exact ⟨rfl, dk, K4.out, K3.out, K1.out, K2.out⟩

set_option maxRecDepth 100000 in
set_option maxHeartbeats 8000000 in
theorem symB_any (enc : α → List Value) (k : Nat) (hk : ∀ x, (enc x).length = k) (key : α → Nat) (g : Nat) (lb : Array Value) (sf : Nat) (sb : Array Value) (w0 : World) (blk size : Nat) (hblk : blk < w0.heap.size)
    (eg : ∀ args w, (callFunc g args).run Try.prog w = .ok (.enter g args) w) (hless : LessAt Try.prog g lb enc k key blk size w0)
    (hswap : Go.Proofs.SwapSwapsK Try.prog sf sb enc k blk 0 size) (a m b : Nat) (d : Array α) (W : World) (hst : St enc k w0 blk d W) (hs : d.size = size) (hsz : size ≤ 1000000)
    (h0 : a + 1 < m) (h1 : b = m + 1) (h3 : b ≤ size) (hu : Up key a m d) :
    Calls Try.prog 72 #[.agg (dataV g lb sf sb), .int .i64 a, .int .i64 m, .int .i64 b] W fun e w' =>
      e = .returned (.tuple #[]) ∧ ∃ d', PermIn a b d d' ∧ Up key a b d' ∧ St enc k w0 blk d' w' ∧ W.grownBy w' (some blk) := by
  have hle := hst.le
  have hst1 := hst.alloc hblk (.cells (dataV g lb sf sb) 99)
  have HST1 := Lib.hid hst1
  have HSW := Lib.hid hswap
  have HLS := Lib.hid hless
  have HUP := Lib.hid hu
  have hma : ((m : Int) - (a : Int) == 1) = false := by simp; omega
  have hmb : ((b : Int) - (m : Int) == 1) = true := by simp; omega
  have hmlt : m < b := by omega
  have H1 := Lib.hid h1
  clear hst hst1 hswap hless hu h1
  unfold dataV at *
  go_enter Try.func72, Try.ntmps72
  go_wp2_with fail
  clear hma hmb
  have h1 := H1.out
  go_loopw [12, 13] (fun vi vj wr => ∃ (i j : Nat), vi = .int .i64 i ∧ vj = .int .i64 j ∧ a ≤ i ∧ i ≤ j ∧ j ≤ m ∧ (i = a ∨ key d[i - 1]! ≤ key d[m]!) ∧ (j = m ∨ key d[m]! ≤ key d[j]!) ∧ St enc k w0 blk d wr ∧ (W.alloc (.cells #[.func (.func g) #[] lb, .func (.func sf) #[] sb] 99)).grownBy wr (some blk)) (fun vi vj _ => (intOf vj).toNat - (intOf vi).toNat)
  case atStart => exact ⟨a, m, rfl, rfl, Nat.le_refl _, by omega, Nat.le_refl _, .inl rfl, .inl rfl, HST1.out, World.grownBy.refl _ _⟩
  case round =>
    obtain ⟨i, j, rfl, rfl, hmi, hij, hjb, hb1, hb2, hst, hg⟩ := hrel
    have c0 : wr.cell? ⟨W.heap.size, 0, none⟩ = some (.func (.func g) #[] lb) := by
      rw [World.cell?_of_block (a := ⟨W.heap.size, 0, none⟩) (hg.block W.heap.size (by simp) (by simp; omega))]
      simp
    have HB1 := Lib.hid hb1
    have HB2 := Lib.hid hb2
    have HST := Lib.hid hst
    have HG := Lib.hid hg
    clear hb1 hb2 hst hg
    by_cases hlt : i < j
    · obtain ⟨h, hh⟩ : ∃ h, (i + j) / 2 = h := ⟨_, rfl⟩
      have hl := HLS.out wr d HST.out hs m h (by omega) (by omega)
      have eh : ((h : Nat) : Int) = ((i : Int) + j) / 2 := by omega
      rw [eh] at hl
      have EH := Lib.hid eh
      clear eh h1
      by_cases hlv : key d[m]! < key d[h]!
      · rw [decide_eq_true hlv] at hl
        have HL := Lib.hid hl
        have HLV := Lib.hid hlv
        clear hl hlv
        go_wp2_with fail
        refine HL.out.mono ?_
        rintro r w2 ⟨rfl, q, rfl⟩
        clear c0 HL
        go_wp2_with fail
        refine ⟨⟨i, h, rfl, by have := EH.out; congr 1; omega, by omega, by omega, by omega, HB1.out, .inr (Nat.le_of_lt HLV.out), HST.out.drewN q, grown_trans HG.out (grown_drewN wr q _)⟩, ?_⟩
        have := EH.out
        simp [intOf]; omega
      · rw [decide_eq_false hlv] at hl
        have HL := Lib.hid hl
        have HLV := Lib.hid hlv
        clear hl hlv
        go_wp2_with fail
        refine HL.out.mono ?_
        rintro r w2 ⟨rfl, q, rfl⟩
        clear c0 HL
        go_wp2_with fail
        refine ⟨⟨h + 1, j, by have := EH.out; congr 1; omega, rfl, by omega, by omega, hjb, .inr (by rw [Nat.add_sub_cancel]; exact Nat.le_of_not_lt HLV.out), HB2.out, HST.out.drewN q, grown_trans HG.out (grown_drewN wr q _)⟩, ?_⟩
        have := EH.out
        simp [intOf]; omega
    · obtain rfl : i = j := by omega
      clear h1
      go_wp2_with fail
      go_loopw [15] (fun vx wr2 => ∃ (x : Nat) (dk : Array α), vx = .int .i64 x ∧ i ≤ x ∧ x ≤ m ∧ RotOf x m (m + 1) d dk ∧ PermIn a b d dk ∧ St enc k w0 blk dk wr2 ∧ (W.alloc (.cells #[.func (.func g) #[] lb, .func (.func sf) #[] sb] 99)).grownBy wr2 (some blk)) (fun vx _ => (intOf vx).toNat)
      case atStart => exact ⟨m, d, rfl, hjb, Nat.le_refl _, RotOf.left m (m + 1) d, perm_refl _ _ _, HST.out, HG.out⟩
      case round =>
        obtain ⟨x, dk, rfl, hix, hxm, hrot, hp, hst, hg⟩ := hrel
        have c1 : wr.cell? ⟨W.heap.size, 1, none⟩ = some (.func (.func sf) #[] sb) := by
          rw [World.cell?_of_block (a := ⟨W.heap.size, 1, none⟩) (hg.block W.heap.size (by simp) (by simp; omega))]
          simp
        by_cases hlt2 : i < x
        · have hsk : dk.size = size := hp.1.trans hs
          have hbm := H1.out
          have hsw2 := HSW.out wr dk hst.holds hsk x (x - 1) (by omega) (by omega)
          rw [show ((x - 1 : Nat) : Int) = (x : Int) - 1 by omega] at hsw2
          have K1 := Lib.hid (hst.swap hk x (x - 1) (by omega) (by omega))
          have K2 := Lib.hid (grown_trans hg (grown_swap wr blk (0 + x * k) (0 + (x - 1) * k) (enc dk[x - 1]!) (enc dk[x]!)))
          have K3 := Lib.hid (hrot.left1 (by omega) hxm (by omega))
          have K4 := Lib.hid (perm_swp hp (by omega) (show a ≤ x by omega) (show x < b by omega) (show a ≤ x - 1 by omega) (show x - 1 < b by omega))
          have HH := Lib.hid hsw2
          clear hsw2 hrot hp hst hg HST HG c0 HB1 HB2 hbm
          go_wp2_with fail
          rw [HH.out, Oper.upon_value]
          clear HH c1
          generalize (World.setCells _ _ _ _).setCells blk _ (enc dk[x]!) = w2 at *
          generalize swp dk x (x - 1) = d2 at *
          go_wp2_with fail
          refine ⟨⟨x - 1, d2, by go_num, by omega, by omega, K3.out, K4.out, K1.out, K2.out⟩, ?_⟩
          simp [intOf]; omega
        · have hR : RotOf i m (m + 1) d dk := by rwa [show x = i by omega] at hrot
          have hmm := H1.out
          have K3 := Lib.hid (show Up key a b dk by rw [hmm]; exact up_left (key := key) HUP.out hR hmi hjb HB1.out HB2.out)
          have K4 := Lib.hid hp
          have K1 := Lib.hid hst
          have K2 := Lib.hid (grown_trans (grown_alloc W _ _) hg)
          clear hR hmm hrot hp hst hg HST HG c0 HB1 HB2 c1
          go_wp2_with fail
          refine bodyPost_ret (results_none rfl _ _ _) rfl ?_
          exact ⟨rfl, dk, K4.out, K3.out, K1.out, K2.out⟩

end Go.Proofs.Ytildikdoimobhaa.Srt
