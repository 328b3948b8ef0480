/-
  Contract of the library's stable_func.
-/
import Derived.Test.YtildikdoimobhaaSrtSymC
namespace Go.Proofs.Ytildikdoimobhaa.Srt
open Go.Sort Go.RowKit
variable {α : Type} [Inhabited α]
set_option linter.unusedVariables false

theorem dvd_next {c s a : Nat} (h1 : c ∣ s) (h2 : c ∣ a) (h : s < a) : s + c ≤ a := by
  obtain ⟨x, rfl⟩ := h1
  obtain ⟨y, rfl⟩ := h2
  have hxy : x < y := Nat.lt_of_mul_lt_mul_left h
  rw [← Nat.mul_succ]
  exact Nat.mul_le_mul_left c hxy

/-- Stretches of bs are sorted, each. -/
def Blk (key : α → Nat) (bs n : Nat) (d : Array α) : Prop := ∀ s, bs ∣ s → s < n → Up key s (min (s + bs) n) d
/-- Up to a they are. -/
def Front (key : α → Nat) (bs a : Nat) (d : Array α) : Prop := ∀ s, bs ∣ s → s + bs ≤ a → Up key s (s + bs) d
theorem Front.start (key : α → Nat) (bs : Nat) (hb : 0 < bs) (d : Array α) : Front key bs 0 d := fun s _ h => by omega
theorem Front.step {key : α → Nat} {bs a : Nat} {d d' : Array α} (h : Front key bs a d) (ha : bs ∣ a) (hp : PermIn a (a + bs) d d') (hu : Up key a (a + bs) d') : Front key bs (a + bs) d' := by
  intro s hs hle
  by_cases e : s = a
  · subst e; exact hu
  · have hlt : s < a := by omega
    have := dvd_next hs ha hlt
    exact (h s hs this).same fun i _ hi => hp.2.1 i (.inl (by omega))
theorem Front.close {key : α → Nat} {bs a n : Nat} {d d' : Array α} (h : Front key bs a d) (ha : bs ∣ a) (han : a ≤ n) (hna : n < a + bs) (hp : PermIn a n d d') (hu : Up key a n d') : Blk key bs n d' := by
  intro s hs hsn
  by_cases e : s = a
  · subst e; rw [Nat.min_eq_right (by omega)]; exact hu
  · by_cases hlt : s < a
    · have := dvd_next hs ha hlt
      rw [Nat.min_eq_left (by omega)]
      exact (h s hs this).same fun i _ hi => hp.2.1 i (.inl (by omega))
    · have := dvd_next ha hs (by omega); omega

/-- Up to a by twos, from a on by ones. -/
def Half (key : α → Nat) (bs n a : Nat) (d : Array α) : Prop := Front key (2 * bs) a d ∧ ∀ s, a ≤ s → bs ∣ s → s < n → Up key s (min (s + bs) n) d
theorem Half.start {key : α → Nat} {bs n : Nat} {d : Array α} (h : Blk key bs n d) (hb : 0 < bs) : Half key bs n 0 d := ⟨Front.start key _ (by omega) d, fun s _ h1 h2 => h s h1 h2⟩
theorem Half.step {key : α → Nat} {bs n a : Nat} {d d' : Array α} (h : Half key bs n a d) (ha : 2 * bs ∣ a) (hp : PermIn a (a + 2 * bs) d d') (hu : Up key a (a + 2 * bs) d') : Half key bs n (a + 2 * bs) d' :=
  ⟨h.1.step ha hp hu, fun s h1 h2 h3 => (h.2 s (by omega) h2 h3).same fun i hi _ => hp.2.1 i (.inr (by omega))⟩
theorem Half.two {key : α → Nat} {bs n a : Nat} {d : Array α} (h : Half key bs n a d) (ha : 2 * bs ∣ a) (hb : 0 < bs) (hn : a + bs < n) : Up key a (a + bs) d ∧ Up key (a + bs) (min (a + 2 * bs) n) d := by
  have hd : bs ∣ a := Nat.dvd_trans ⟨2, by omega⟩ ha
  have h1 := h.2 a (Nat.le_refl _) hd (by omega)
  have h2 := h.2 (a + bs) (by omega) (Nat.dvd_add hd (Nat.dvd_refl _)) hn
  rw [Nat.min_eq_left (by omega)] at h1
  rw [show a + bs + bs = a + 2 * bs by omega] at h2
  exact ⟨h1, h2⟩
theorem Half.close {key : α → Nat} {bs n a : Nat} {d d' : Array α} (h : Half key bs n a d) (ha : 2 * bs ∣ a) (han : a ≤ n) (hna : n < a + 2 * bs) (hp : PermIn a n d d') (hu : Up key a n d') : Blk key (2 * bs) n d' :=
  h.1.close ha han hna hp hu
theorem Half.rest {key : α → Nat} {bs n a : Nat} {d : Array α} (h : Half key bs n a d) (ha : 2 * bs ∣ a) (hn : n ≤ a + bs) : Up key a n d := by
  by_cases e : a < n
  · have h1 := h.2 a (Nat.le_refl _) (Nat.dvd_trans ⟨2, by omega⟩ ha) e
    rwa [Nat.min_eq_right (by omega)] at h1
  · exact Up.one key a n d (by omega)

set_option maxRecDepth 100000 in
set_option maxHeartbeats 16000000 in
theorem stable_any (enc : α → List Value) (k : Nat) (hk : ∀ x, (enc x).length = k) (key : α → Nat) (g : Nat) (lb : Array Value) (sf : Nat) (sb : Array Value) (w0 : World) (blk n : Nat) (hblk : blk < w0.heap.size)
    (eg : ∀ args w, (callFunc g args).run Try.prog w = .ok (.enter g args) w) (hless : LessAt Try.prog g lb enc k key blk n w0)
    (hswap : Go.Proofs.SwapSwapsK Try.prog sf sb enc k blk 0 n) (d : Array α) (W : World) (hst : St enc k w0 blk d W) (hs : d.size = n) (hsz : n ≤ 1000000) :
    Calls Try.prog 59 #[.agg (dataV g lb sf sb), .int .i64 n] W fun e w' =>
      e = .returned (.tuple #[]) ∧ ∃ d', PermIn 0 n d d' ∧ Up key 0 n d' ∧ St enc k w0 blk d' w' ∧ W.grownBy w' (some blk) := by
  have hle := hst.le
  have hst1 := hst.alloc hblk (.cells (dataV g lb sf sb) 99)
  have HST1 := Lib.hid hst1
  have INS := Lib.hid (fun a b dk wr (h : St enc k w0 blk dk wr) (hd : dk.size = n) (q1 : a ≤ b) (q2 : b ≤ n) => insertion_any enc k hk key g lb sf sb w0 blk n hblk eg hless hswap a b dk wr h hd hsz q1 q2)
  have SYM := Lib.hid (fun a m b (q1 : a < m) (q2 : m < b) (q3 : b ≤ n) => symMerge_any enc k hk key g lb sf sb w0 blk n hblk eg hless hswap hsz (b - a) a m b (Nat.le_refl _) q1 q2 q3)
  clear hst hst1 hswap hless
  unfold Merges dataV at *
  go_enter Try.func59, Try.ntmps59
  go_wp2_with fail
  go_loopw [5, 6] (fun vi vj wr => ∃ (a : Nat) (dk : Array α), vi = .int .i64 a ∧ vj = .int .i64 (a + 20 : Nat) ∧ a ≤ n ∧ 20 ∣ a ∧ Front key 20 a dk ∧ PermIn 0 n d dk ∧ St enc k w0 blk dk wr ∧ (W.alloc (.cells #[.func (.func g) #[] lb, .func (.func sf) #[] sb] 99)).grownBy wr (some blk)) (fun vi _ _ => n + 20 - (intOf vi).toNat)
  case atStart => exact ⟨0, d, rfl, rfl, Nat.zero_le _, ⟨0, rfl⟩, Front.start key 20 (by omega) d, perm_refl _ _ _, HST1.out, World.grownBy.refl _ _⟩
  case round =>
    obtain ⟨a, dk, rfl, rfl, han, hda, hfr, hp, hst, hg⟩ := hrel
    have hsk : dk.size = n := hp.1.trans hs
    have c0 : wr.cell? ⟨W.heap.size, 0, none⟩ = some (.func (.func g) #[] lb) := by
      rw [World.cell?_of_block (a := ⟨W.heap.size, 0, none⟩) (hg.block W.heap.size (by simp) (by simp; omega))]
      simp
    have c1 : wr.cell? ⟨W.heap.size, 1, none⟩ = some (.func (.func sf) #[] sb) := by
      rw [World.cell?_of_block (a := ⟨W.heap.size, 1, none⟩) (hg.block W.heap.size (by simp) (by simp; omega))]
      simp
    have HF := Lib.hid hfr
    have HP := Lib.hid hp
    have HST := Lib.hid hst
    have HG := Lib.hid hg
    have HDA := Lib.hid hda
    clear hfr hp hst hg hda
    by_cases hlt : a + 20 ≤ n
    · have IC := Lib.hid (INS.out a (a + 20) dk wr HST.out hsk (by omega) hlt)
      have e1 : ((a + 20 : Nat) : Int) = (a : Int) + 20 := by omega
      go_wp2_with fail
      refine IC.out.mono ?_
      rintro rr w2 ⟨rfl, d2, f1, f2, f3, f4⟩
      have F1 := Lib.hid (HF.out.step HDA.out f1 f2)
      have F2 := Lib.hid (perm_trans HP.out (perm_mono f1 (Nat.zero_le _) hlt (by omega)))
      have F3 := Lib.hid f3
      have F4 := Lib.hid (grown_trans HG.out f4)
      clear f1 f2 f3 f4 IC c0 c1
      go_wp2_with fail
      refine ⟨⟨a + 20, d2, rfl, by go_num, hlt, Nat.dvd_add HDA.out (Nat.dvd_refl _), F1.out, F2.out, F3.out, F4.out⟩, ?_⟩
      simp [intOf]; omega
    · have IC := Lib.hid (INS.out a n dk wr HST.out hsk han (Nat.le_refl _))
      go_wp2_with fail
      refine IC.out.mono ?_
      rintro rr w2 ⟨rfl, d2, f1, f2, f3, f4⟩
      have F1 := Lib.hid (HF.out.close HDA.out han (by omega) f1 f2)
      have F2 := Lib.hid (perm_trans HP.out (perm_mono f1 (Nat.zero_le _) (Nat.le_refl _) (by omega)))
      have F3 := Lib.hid f3
      have F4 := Lib.hid (grown_trans HG.out f4)
      clear f1 f2 f3 f4 IC c0 c1 HF HP HST HG HDA han hlt hsk
      go_wp2_with fail
      go_loopw [4] (fun vb wr => ∃ (bs : Nat) (dk : Array α), vb = .int .i64 bs ∧ 0 < bs ∧ bs ≤ 2 * n + 20 ∧ Blk key bs n dk ∧ PermIn 0 n d dk ∧ St enc k w0 blk dk wr ∧ (W.alloc (.cells #[.func (.func g) #[] lb, .func (.func sf) #[] sb] 99)).grownBy wr (some blk)) (fun vb _ => 2 * n + 20 - (intOf vb).toNat)
      case atStart => exact ⟨20, d2, rfl, by omega, by omega, F1.out, F2.out, F3.out, F4.out⟩
      case round =>
        obtain ⟨bs, dk, rfl, hb0, hbn, hblk2, hp, hst, hg⟩ := hrel
        clear F1 F2 F3 F4
        have HB := Lib.hid hblk2
        have HP := Lib.hid hp
        have HST := Lib.hid hst
        have HG := Lib.hid hg
        clear hblk2 hp hst hg
        by_cases hlt : bs < n
        · go_wp2_with fail
          go_loopw [5, 6] (fun vi vj wr => ∃ (a : Nat) (dj : Array α), vi = .int .i64 a ∧ vj = .int .i64 (a + 2 * bs : Nat) ∧ a ≤ n ∧ 2 * bs ∣ a ∧ Half key bs n a dj ∧ PermIn 0 n d dj ∧ St enc k w0 blk dj wr ∧ (W.alloc (.cells #[.func (.func g) #[] lb, .func (.func sf) #[] sb] 99)).grownBy wr (some blk)) (fun vi _ _ => n + 1 - (intOf vi).toNat)
          case atStart => exact ⟨0, dk, rfl, by go_num, Nat.zero_le _, ⟨0, rfl⟩, Half.start HB.out hb0, HP.out, HST.out, HG.out⟩
          case round =>
            obtain ⟨a, dj, rfl, rfl, han, hda, hhf, hp, hst, hg⟩ := hrel
            clear HB HP HST HG
            have hsk : dj.size = n := hp.1.trans hs
            have c0 : wr.cell? ⟨W.heap.size, 0, none⟩ = some (.func (.func g) #[] lb) := by
              rw [World.cell?_of_block (a := ⟨W.heap.size, 0, none⟩) (hg.block W.heap.size (by simp) (by simp; omega))]
              simp
            have c1 : wr.cell? ⟨W.heap.size, 1, none⟩ = some (.func (.func sf) #[] sb) := by
              rw [World.cell?_of_block (a := ⟨W.heap.size, 1, none⟩) (hg.block W.heap.size (by simp) (by simp; omega))]
              simp
            have HF := Lib.hid hhf
            have HP := Lib.hid hp
            have HST := Lib.hid hst
            have HG := Lib.hid hg
            have HDA := Lib.hid hda
            clear hhf hp hst hg hda
            obtain ⟨e, he⟩ : ∃ e, a + 2 * bs = e := ⟨_, rfl⟩
            rw [he]
            by_cases hle2 : e ≤ n
            · obtain ⟨u1, u2⟩ := HF.out.two HDA.out hb0 (by omega)
              rw [he, Nat.min_eq_left hle2] at u2
              have SC := Lib.hid (SYM.out a (a + bs) e (by omega) (by omega) hle2 dj wr HST.out hsk u1 u2)
              rw [show ((a + bs : Nat) : Int) = (a : Int) + bs by omega] at SC
              have HE := Lib.hid he
              clear u1 u2 he
              go_wp2_with fail
              refine SC.out.mono ?_
              rintro rr w3 ⟨rfl, d3, f1, f2, f3, f4⟩
              have F1 : Hid (Half key bs n e d3) := by
                show Half key bs n e d3
                rw [← HE.out] at f1 f2 ⊢
                exact HF.out.step HDA.out f1 f2
              have F2 := Lib.hid (perm_trans HP.out (perm_mono f1 (Nat.zero_le _) hle2 (by omega)))
              have F3 := Lib.hid f3
              have F4 := Lib.hid (grown_trans HG.out f4)
              clear f1 f2 f3 f4 SC c0 c1
              go_wp2_with fail
              have he := HE.out
              refine ⟨⟨e, d3, rfl, by go_num, hle2, by rw [← he]; exact Nat.dvd_add HDA.out (Nat.dvd_refl _), F1.out, F2.out, F3.out, F4.out⟩, ?_⟩
              simp [intOf]; omega
            · by_cases hmn : a + bs < n
              · obtain ⟨u1, u2⟩ := HF.out.two HDA.out hb0 hmn
                rw [he, Nat.min_eq_right (by omega)] at u2
                have SC := Lib.hid (SYM.out a (a + bs) n (by omega) hmn (Nat.le_refl _) dj wr HST.out hsk u1 u2)
                rw [show ((a + bs : Nat) : Int) = (a : Int) + bs by omega] at SC
                have HE := Lib.hid he
                have hmn2 : (a : Int) + bs < n := by omega
                clear u1 u2 he
                go_wp2_with fail
                refine SC.out.mono ?_
                rintro rr w3 ⟨rfl, d3, f1, f2, f3, f4⟩
                have F1 := Lib.hid (HF.out.close HDA.out han (by have := HE.out; omega) f1 f2)
                have F2 := Lib.hid (perm_trans HP.out (perm_mono f1 (Nat.zero_le _) (Nat.le_refl _) (by omega)))
                have F3 := Lib.hid f3
                have F4 := Lib.hid (grown_trans HG.out f4)
                clear f1 f2 f3 f4 SC c0 c1
                go_wp2_with fail
                refine ⟨⟨2 * bs, d3, by go_num, by omega, by omega, F1.out, F2.out, F3.out, F4.out⟩, ?_⟩
                simp [intOf]; omega
              · have F1 := Lib.hid (HF.out.close HDA.out han (by omega) (perm_refl _ _ _) (HF.out.rest HDA.out (by omega)))
                have hmn2 : ¬ ((a : Int) + bs < n) := by omega
                clear c0 c1
                go_wp2_with fail
                refine ⟨⟨2 * bs, dj, by go_num, by omega, by omega, F1.out, HP.out, HST.out, HG.out⟩, ?_⟩
                simp [intOf]; omega
        · have F1 : Hid (Up key 0 n dk) := by
            show Up key 0 n dk
            by_cases h0 : 0 < n
            · have := HB.out 0 ⟨0, rfl⟩ h0
              rwa [Nat.min_eq_right (by omega)] at this
            · exact Up.one key 0 n dk (by omega)
          have F4 := Lib.hid (grown_trans (grown_alloc W _ _) HG.out)
          go_wp2_with fail
          go_end0
          exact ⟨rfl, dk, HP.out, F1.out, HST.out, F4.out⟩

end Go.Proofs.Ytildikdoimobhaa.Srt
