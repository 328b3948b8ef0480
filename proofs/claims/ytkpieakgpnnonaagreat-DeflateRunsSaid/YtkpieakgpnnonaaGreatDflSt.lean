/-
  Blocks that could be: contracts of deflate's storedBlock and its closure, of the comparison, of cmp.Compare.
-/
import Derived.Test.YtkpieakgpnnonaaGreatDflCoded
namespace Go.Proofs.YtkpieakgpnnonaaGreat.Dfl
open Go.ChangeShapes Go.WideShapes Go.ChangeAt Go.RowKit
open Go.Proofs.YtkpieakgpnnonaaGreat.Bit (WrAt But Near bitsOf bitsOf_length tb)
open Go.Proofs.YtkpieakgpnnonaaGreat.Lz (Tok okT IsToks expL expE byteT exp_plain Chain tailL pack_any plain_any)
open Go.Proofs.YtkpieakgpnnonaaGreat.Def
open Go.Proofs.YtkpieakgpnnonaaGreat.Sym
set_option linter.unusedVariables false
set_option maxRecDepth 100000

/-- Bits that make s behind a window. -/
def Mks (win : List UInt8) (last : Bool) (l0 : List Bool) (s : List UInt8) (l1 : List Bool) : Prop := ∃ Kd, ∀ T, Has T 0 l1 → Blk T win l0.length last Kd s l1.length
/-- What is not ahead of N is as it was. -/
structure Keep (N : Nat) (w w2 : World) : Prop where
  size : w.heap.size ≤ w2.heap.size
  block : ∀ k, N ≤ k → k < w.heap.size → w2.heap[k]? = w.heap[k]?
theorem Keep.refl (N : Nat) (w : World) : Keep N w w := ⟨Nat.le_refl _, fun _ _ _ => rfl⟩
theorem Keep.trans {N : Nat} {w w2 w3 : World} (h : Keep N w w2) (k : Keep N w2 w3) : Keep N w w3 := ⟨Nat.le_trans h.size k.size, fun p hp hl => (k.block p hp (Nat.lt_of_lt_of_le hl h.size)).trans (h.block p hp hl)⟩
theorem Keep.below {N : Nat} {w w2 : World} (h : Below w.heap.size w w2) : Keep N w w2 := ⟨h.size, fun p _ hl => h.block p hl⟩
/-- A closure that makes l0 longer by K bits. -/
structure PutP (B N : Nat) (l0 : List Bool) (G : List Bool → Prop) (K : Nat) (fid : FuncId) (caps : Array Value) (w : World) : Prop where
  lit : (fid = 111 ∧ ∃ P, caps = #[.pointer (some ⟨P, 0, none⟩)]) ∨
    (fid = 71 ∧ ∃ p1 p2 p3 p4 p5 p6, caps = #[.pointer (some ⟨p1, 0, none⟩), .pointer (some ⟨p2, 0, none⟩), .pointer (some ⟨p3, 0, none⟩), .pointer (some ⟨p4, 0, none⟩), .pointer (some ⟨p5, 0, none⟩), .pointer (some ⟨p6, 0, none⟩)])
  small : K ≤ 1000000
  puts : ∀ w2, Keep N w w2 → ∀ b v, WrAt w2 b v l0 → b < B → (∀ k, v.ownBlock = some k → k < B) →
    Calls Tryz.prog fid (#[.pointer (some ⟨b, 0, none⟩)] ++ caps) w2 fun r w3 => r = .returned (.tuple #[]) ∧ ∃ v' l1, Wt b v w2 w3 v' l1 ∧ l1.length = l0.length + K ∧ G l1
theorem PutP.keep {B N : Nat} {l0 : List Bool} {G : List Bool → Prop} {K : Nat} {fid : FuncId} {caps : Array Value} {w w' : World} (h : PutP B N l0 G K fid caps w) (k : Keep N w w') : PutP B N l0 G K fid caps w' :=
  ⟨h.lit, h.small, fun w2 h2 => h.puts w2 (k.trans h2)⟩

theorem stOne_len (last : Bool) (l : List Bool) (s : List UInt8) : (stOne last l s).length = 8 * ((l.length + 10) / 8) + 32 + 8 * s.length := by
  unfold stOne
  rw [List.length_append, pad_length, plB_length, List.length_append]
  simp only [List.length_cons, List.length_nil]
  unfold Bit.fre
  rw [List.length_append]
  simp only [List.length_cons, List.length_nil]
  omega
theorem mks_stored (win : List UInt8) (last : Bool) (l0 : List Bool) (s : List UInt8) (hs : s.length ≤ 65535) : Mks win last l0 s (stOne last l0 s) := ⟨0, fun T hT => blk_stored win hs hT⟩
theorem mks_coded {win : List UInt8} {own last : Bool} {l0 X : List Bool} {l : List Tok} {s : List UInt8} (h : CodY own last l X) (he : expL win l = s ∧ expE win l = 0) : Mks win last l0 s (l0 ++ X) := by
  refine ⟨if own then 2 else 1, fun T hT => ?_⟩
  have h1 := hT.right
  rw [Nat.zero_add] at h1
  obtain ⟨e1, e2⟩ := he
  rcases h with ⟨rfl, hF, rfl⟩ | ⟨rfl, N, M, k, O, Y, hH, hF, rfl⟩
  · have := Blk.code (win := win) 1 l _ (Coded.fixed (last := last) l hF h1) e2
    rw [e1] at this
    have e : (l0 ++ ([last, true, false] ++ wrBits fxL fxD l)).length = l0.length + 3 + (wrBits fxL fxD l).length := by simp only [List.length_append, List.length_cons, List.length_nil]; omega
    rw [e]; exact this
  · have := Blk.code (win := win) 2 l _ (Coded.own (last := last) N M k O Y l hH hF h1) e2
    rw [e1] at this
    have e : (l0 ++ ([last, false, true] ++ (hdrB N M k O Y ++ wrBits N M l))).length = l0.length + 3 + (hdrB N M k O Y).length + (wrBits N M l).length := by simp only [List.length_append, List.length_cons, List.length_nil]; omega
    rw [e]; exact this

set_option maxHeartbeats 1000000 in
theorem stClo_any (b : Nat) (v : Value) (l0 : List Bool) (P : Nat) (s : ByteArray) (last : Bool) (w : World) (hw : WrAt w b v l0) (hl : l0.length ≤ 1000000) (hs : s.size ≤ 65535) (hP : w.heap[P]? = some (.cells #[.string s, .bool last] 70 (0, 0))) :
    Calls Tryz.prog 111 #[.pointer (some ⟨b, 0, none⟩), .pointer (some ⟨P, 0, none⟩)] w fun r w' => r = .returned (.tuple #[]) ∧ ∃ v', Wt b v w w' v' (stOne last l0 s.data.toList) := by
  have CS := Lib.hid (stored_any b v l0 s last w hw hl (by omega))
  rw [stB_last _ _ _ (by rw [size_list]; exact hs)] at CS
  have c0 : w.cell? ⟨P, 0, none⟩ = some (.string s) := (cell_of_row _ _ 0 _ _ _ hP).trans rfl
  have c1 : w.cell? ⟨P, 1, none⟩ = some (.bool last) := (cell_of_row _ _ 1 _ _ _ hP).trans rfl
  clear hw hl hP
  go_enter Tryz.func111, Tryz.ntmps111
  go_wp2_with fail
  refine CS.out.mono ?_
  rintro r w1 ⟨rfl, v1, h1⟩
  have H1 := Lib.hid h1
  clear h1 CS c0 c1
  go_wp2_with fail
  go_end0
  exact ⟨rfl, v1, H1.out⟩

theorem ret_st (tmps : Array Value) (w : World) (R : Nat) (K : Nat) (f : Value) (hp : tmps.getD 4 undef = .pointer (some ⟨R, 0, none⟩)) (hg : w.heap[R]? = some (.cells #[.int .i64 (K : Nat), f] 94 (0, 0))) :
    (results Tryz.f97 tmps).run Tryz.prog w = .ok (.agg #[.int .i64 (K : Nat), f]) w :=
  results_cell_row rfl tmps w R 94 #[.int .i64 (K : Nat), f] (0, 0) _ hp hg Tryz.underlying94 rfl (by kernel_rfl)

set_option maxHeartbeats 2000000 in
theorem storedBlock_any (l0 : List Bool) (win : List UInt8) (s : ByteArray) (last : Bool) (w : World) (B N : Nat) (hN : N ≤ w.heap.size) (hl : l0.length ≤ 800000) (hs : s.size ≤ 65535) :
    Calls Tryz.prog 97 #[.agg #[.string s, .bool last], .int .i64 l0.length] w fun r w' => ∃ K fid caps, r = .returned (.agg #[.int .i64 (K : Nat), .func (.func fid) #[] caps]) ∧ l0.length + K = (stOne last l0 s.data.toList).length ∧ PutP B N l0 (Mks win last l0 s.data.toList) K fid caps w' ∧ Below w.heap.size w w' := by
  obtain ⟨at_, hat⟩ : ∃ at_, l0.length = at_ := ⟨_, rfl⟩
  rw [hat]
  obtain ⟨n, hn⟩ : ∃ n, s.size = n := ⟨_, rfl⟩
  have HA := Lib.hid (And.intro hat hn)
  have hl2 : at_ ≤ 800000 := by omega
  have hs2 : n ≤ 65535 := by omega
  obtain ⟨d, hd⟩ : ∃ d, (at_ + 10) / 8 = d := ⟨_, rfl⟩
  obtain ⟨K, hK⟩ : ∃ K, 8 * (d + 4 + n) - at_ = K := ⟨_, rfl⟩
  have a1 : Int.tdiv ((at_ : Int) + 1 + 2 + 7) 8 = d := by
    rw [show ((at_ : Int) + 1 + 2 + 7) = ((at_ + 10 : Nat) : Int) by omega]
    show Int.tdiv ((at_ + 10 : Nat) : Int) ((8 : Nat) : Int) = d
    rw [← hd]; rfl
  have a2 : ((at_ : Int) + 1 + 2 + 7) / 8 = d := by omega
  have a3 : 8 * ((d : Int) + 2 + 2 + n) - at_ = K := by omega
  have HK : Hid (at_ + K = (stOne last l0 s.data.toList).length ∧ K ≤ 1000000) := Lib.hid (by
    rw [stOne_len, size_list, hat, hn]; omega)
  obtain ⟨x1, x2, x3⟩ := two_new w (.cells #[.string s, .bool last] 70) (.cells #[.int .i64 (K : Nat), .nilFunc] 94)
  have hst := store_at (f := .func (.func 111) #[] #[.pointer (some ⟨w.heap.size, 0, none⟩)]) ((cell_of_row _ _ 1 _ _ _ x2).trans rfl) (frozen_of_row _ _ 1 _ _ x2) rfl
  have hz : ((w.alloc (.cells #[.string s, .bool last] 70)).alloc (.cells #[.int .i64 (K : Nat), .nilFunc] 94)).heap.size = w.heap.size + 2 := by simp
  generalize hW : ((w.alloc (.cells #[.string s, .bool last] 70)).alloc (.cells #[.int .i64 (K : Nat), .nilFunc] 94)) = W at *
  have FIN : Hid ((W.setCell ⟨w.heap.size + 1, 1, none⟩ (.func (.func 111) #[] #[.pointer (some ⟨w.heap.size, 0, none⟩)])).heap[w.heap.size + 1]? = some (.cells #[.int .i64 (K : Nat), .func (.func 111) #[] #[.pointer (some ⟨w.heap.size, 0, none⟩)]] 94 (0, 0)) ∧
      (W.setCell ⟨w.heap.size + 1, 1, none⟩ (.func (.func 111) #[] #[.pointer (some ⟨w.heap.size, 0, none⟩)])).heap[w.heap.size]? = some (.cells #[.string s, .bool last] 70 (0, 0)) ∧
      Below w.heap.size w (W.setCell ⟨w.heap.size + 1, 1, none⟩ (.func (.func 111) #[] #[.pointer (some ⟨w.heap.size, 0, none⟩)]))) := Lib.hid (by
    refine ⟨?_, ?_, x3.setCell (by show w.heap.size ≤ w.heap.size + 1; omega) _⟩
    · rw [heap_setCell_same W (w.heap.size + 1) 1 _ _ _ x2]; rfl
    · rw [heap_setCell_other W ⟨w.heap.size + 1, 1, none⟩ w.heap.size _ (by show w.heap.size ≠ w.heap.size + 1; omega)]; exact x1)
  clear x1 x2 x3 hz hd hK hat hl hs
  go_enter Tryz.func97, Tryz.ntmps97
  go_wp2_with fail
  refine bodyPost_ret (ret_st _ _ (w.heap.size + 1) K _ rfl FIN.out.1) rfl ?_
  refine ⟨K, _, _, rfl, HK.out.1, ⟨.inl ⟨rfl, _, rfl⟩, HK.out.2, fun w2 hb b v hw hbB hvB => ?_⟩, FIN.out.2.2⟩
  refine (stClo_any b v l0 w.heap.size s last w2 hw (by have := HA.out.1; omega) (by have := HA.out.2; omega) ?_).mono ?_
  · rw [hb.block _ hN (Array.getElem?_eq_some_iff.1 FIN.out.2.1).1]; exact FIN.out.2.1
  · rintro r w3 ⟨rfl, v', hW3⟩
    refine ⟨rfl, v', _, hW3, ?_, mks_stored _ _ _ _ (by rw [size_list]; have := HA.out.2; omega)⟩
    rw [← HK.out.1, HA.out.1]
end Go.Proofs.YtkpieakgpnnonaaGreat.Dfl
