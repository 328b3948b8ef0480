/-
  Packages of symbols in memory; the library's SliceStable over them, by their cost.
-/
import Derived.Test.YtildikdoimobhaaSrtStable
import Derived.Test.YtildikdoimobhaaHufCodes
namespace Go.Proofs.Ytildikdoimobhaa.Huf
open Go.ChangeShapes Go.WideShapes Go.ChangeAt Go.RowKit Go.Sort
open Go.Proofs.Ytildikdoimobhaa.Srt
set_option linter.unusedVariables false

/-- A package: which symbols, and where they lie. -/
structure Pk where
  t : Tr
  g : Nat
  cap : Nat
instance : Inhabited Pk := ⟨⟨.leaf 0, 0, 0⟩⟩

def Pk.s (p : Pk) : Value := .slice (some ⟨p.g, 0, none⟩) p.t.syms.length p.cap
def enc (f : Nat → Nat) (p : Pk) : List Value := [.int .i64 (p.t.wt f : Nat), p.s]
def key (f : Nat → Nat) (p : Pk) : Nat := p.t.wt f
theorem enc_length (f : Nat → Nat) (p : Pk) : (enc f p).length = 2 := rfl
theorem enc_one (f : Nat → Nat) (p : Pk) : ∀ v ∈ enc f p, v.oneCell' = true := by
  intro v hv
  simp only [enc, List.mem_cons, List.not_mem_nil, or_false] at hv
  rcases hv with rfl | rfl <;> rfl

/-- Block b holds packages. -/
def PksAt (f : Nat → Nat) (w : World) (b : Nat) (d : Array Pk) : Prop := b < w.heap.size ∧ HoldsK (enc f) 2 w b 0 d
theorem PksAt.cost {f : Nat → Nat} {w : World} {b : Nat} {d : Array Pk} (h : PksAt f w b d) (i : Nat) (hi : i < d.size) :
    w.cell? ⟨b, i * 2, none⟩ = some (.int .i64 (d[i]!.t.wt f : Nat)) ∧ w.cell? ⟨b, i * 2 + 1, none⟩ = some d[i]!.s := by
  have h0 := (h.2.cell (i := i) (c := 0) hi (by decide)).1
  have h1 := (h.2.cell (i := i) (c := 1) hi (by decide)).1
  rw [Nat.zero_add, Nat.add_zero] at h0
  rw [Nat.zero_add] at h1
  exact ⟨h0, h1⟩

set_option maxHeartbeats 2000000 in
theorem less_any (f : Nat → Nat) (b Bs n cap : Nat) (d : Array Pk) (W : World) (h : PksAt f W b d) (hd : d.size = n) (hs : W.cell? ⟨Bs, 0, none⟩ = some (.slice (some ⟨b, 0, none⟩) n cap)) (i j : Nat) (hi : i < n) (hj : j < n) (hn : n ≤ 1000000) :
    Calls Try.prog 54 #[.int .i64 i, .int .i64 j, .pointer (some ⟨Bs, 0, none⟩)] W fun e w' => e = .returned (.bool (decide (key f d[i]! < key f d[j]!))) ∧ ∃ q, w' = W.drewN q := by
  have ci := (h.cost i (by omega)).1
  have cj := (h.cost j (by omega)).1
  have HD : Hid (key f d[i]! = d[i]!.t.wt f ∧ key f d[j]! = d[j]!.t.wt f) := ⟨rfl, rfl⟩
  rw [HD.out.1, HD.out.2]
  clear h hd HD
  generalize d[i]!.t.wt f = x at *
  generalize d[j]!.t.wt f = y at *
  go_enter Try.func54, Try.ntmps54
  go_wp2
  go_quiet (fail)
  go_wp2
  go_ret
  exact ⟨rfl, nq, rfl⟩

noncomputable def infT : TypeInfo := (Try.prog.info? 76).get (by kernel_rfl)
noncomputable def infE : TypeInfo := (Try.prog.info? 80).get (by kernel_rfl)
theorem swK (n : Nat) (h2 : 2 ≤ n) : Lib.swapperK n infE 25 = 9 := by
  have a : infE.hasPointers = true := by kernel_rfl
  have b : infE.bytes = 32 := by kernel_rfl
  have c : (n == 0) = false := by simp; omega
  have d : (n == 1) = false := by simp; omega
  simp [Lib.swapperK, a, b, c, d]

set_option maxRecDepth 10000 in
set_option maxHeartbeats 2000000 in
theorem sliceStable_any (f : Nat → Nat) (b Bs n cap : Nat) (d : Array Pk) (w : World) (h : PksAt f w b d) (hd : d.size = n) (h2 : 2 ≤ n) (hn : n ≤ 1000000) (hs : w.cell? ⟨Bs, 0, none⟩ = some (.slice (some ⟨b, 0, none⟩) n cap)) (hBs : Bs ≠ b) (hBl : Bs < w.heap.size) :
    Calls Try.prog 53 #[.iface 76 (.slice (some ⟨b, 0, none⟩) n cap), .func (.func 54) #[] #[.pointer (some ⟨Bs, 0, none⟩)]] w fun e w' =>
      e = .returned (.tuple #[]) ∧ ∃ d', PermIn 0 n d d' ∧ Up (key f) 0 n d' ∧ PksAt f w' b d' ∧ w.grownBy w' (some b) := by
  have hk9 : Try.prog.funcs.findIdx? (·.name == "internal/reflectlite" ++ ".Swapper$" ++ toString (Lib.swapperK n infE 25)) = some 70 := by rw [swK n h2]; kernel_rfl
  have hi : Try.prog.info? 76 = some infT := by kernel_rfl
  have hie : Try.prog.info? 80 = some infE := by kernel_rfl
  have hde : infT.desc = .slice 80 := by kernel_rfl
  have hke : ∀ W, (Extern.Rtype.kind 80).run Try.prog W = .ok 25 W := fun _ => by kernel_rfl
  have hv := Lib.run_valueOf_slice (P := Try.prog) _ _ infT hi hde (some ⟨b, 0, none⟩) n cap w
  have hsw := fun W => Lib.run_swapper_slice (P := Try.prog) _ _ infT infE hi hde hie 25 hke (some ⟨b, 0, none⟩) n cap _ hk9 W
  have hl := fun a W ha => Lib.run_valueLen_slice (P := Try.prog) _ _ infT hi hde (by kernel_rfl) a (some ⟨b, 0, none⟩) n cap W ha
  rw [swK n h2, if_neg (by decide)] at hsw
  have hSW : SwapSwapsK Try.prog 70 #[.slice (some ⟨b, 0, none⟩) n cap, typeHandle Try.prog 80] (enc f) 2 b 0 n :=
    swapSwapsK_of_literal false 70 (fun args W => run_callFunc_extern Try.func70 (by kernel_rfl) (by kernel_rfl) (by kernel_rfl) (e := Extern.ReflectliteSwapper.swap false) (by kernel_rfl) args W)
      80 infE hie (enc f) 2 (enc_length f) (by kernel_rfl) (fun _ => by kernel_rfl) (enc_one f) b 0 n cap
  obtain ⟨W2, hW2⟩ : ∃ W2, (w.alloc (.cells #[.slice (some ⟨b, 0, none⟩) n cap] 76)).alloc (.cells #[.pointer (some ⟨Try.prog.globals.size, 76, none⟩), .pointer (some ⟨w.heap.size, 0, none⟩), .int .u64 151] 94) = W2 := ⟨_, rfl⟩
  have hB2 : Below w.heap.size w W2 := by rw [← hW2]; exact ((Below.refl _ _).alloc (Nat.le_refl _) _).alloc (by simp) _
  have hg2 : w.grownBy W2 (some b) := ⟨hB2.os, hB2.tape, hB2.output, hB2.size, fun i hi _ => hB2.block i hi⟩
  have hst : St (enc f) 2 W2 b d W2 := ⟨holdsK_block h.2 (hB2.block b h.1), World.grownBy.refl _ _⟩
  have hb2 : b < W2.heap.size := Nat.lt_of_lt_of_le h.1 hB2.size
  have hless : LessAt Try.prog 54 #[.pointer (some ⟨Bs, 0, none⟩)] (enc f) 2 (key f) b n W2 := by
    intro W dk hst hs2 i j hi hj
    refine less_any f b Bs n cap dk W ⟨Nat.lt_of_lt_of_le hb2 hst.le, hst.holds⟩ hs2 ?_ i j hi hj hn
    rw [World.cell?_of_block (a := ⟨Bs, 0, none⟩) (hst.grown.block Bs (Nat.lt_of_lt_of_le hBl hB2.size) (by simp; exact hBs)), hB2.cell (p := ⟨Bs, 0, none⟩) hBl]
    exact hs
  have hS := stable_any (enc f) 2 (enc_length f) (key f) 54 #[.pointer (some ⟨Bs, 0, none⟩)] 70 #[.slice (some ⟨b, 0, none⟩) n cap, typeHandle Try.prog 80] W2 b n hb2
    (enters_of Try.func54 (by kernel_rfl) rfl) hless hSW d W2 hst hd hn
  have HG := Lib.hid hg2
  have HB := Lib.hid h.1
  clear hst hless hSW hk9 hi hie hde hke hb2 hB2 hg2 h hd hs
  unfold dataV at hS
  have HS := Lib.hid hS
  clear hS
  subst hW2
  have hgz : Try.prog.globals.size = 0 := by kernel_rfl
  simp only [typeHandle, hgz] at hv hl hsw HS HG
  go_enter Try.func53, Try.ntmps53
  go_wp2_with fail
  rw [run_callFunc_extern Try.func57 (by kernel_rfl) (by kernel_rfl) (by kernel_rfl) (e := fun args => Extern.ReflectliteValue.unpack (args.getD 0 (.tuple #[]))) (by kernel_rfl),
    show Sem.run Try.prog ((fun args : Array Value => Extern.ReflectliteValue.unpack (args.getD 0 (.tuple #[]))) #[.iface 76 (.slice (some ⟨b, 0, none⟩) n cap)]) w = _ from hv]
  simp only [Result.andThen]
  rw [Oper.upon_value]
  go_wp2_with fail
  rw [run_callFunc_extern Try.func58 (by kernel_rfl) (by kernel_rfl) (by kernel_rfl) (e := Extern.ReflectliteSwapper.swapper "internal/reflectlite" (Extern.ReflectliteValue.valueError "Swapper")) (by kernel_rfl), hsw]
  simp only [Result.andThen]
  rw [Oper.upon_value]
  go_wp2_with fail
  rw [run_callFunc_extern Try.func60 (by kernel_rfl) (by kernel_rfl) (by kernel_rfl) (e := Extern.ReflectliteValue.method (Extern.ReflectliteValue.valueError "reflectlite.Value.Len" 0) Extern.ReflectliteValue.len) (by kernel_rfl),
    hl _ _ (by simp)]
  simp only [Result.andThen]
  rw [Oper.upon_value]
  go_wp2_with fail
  refine HS.out.mono ?_
  rintro e w' ⟨rfl, d', hp, hu, hst, hg⟩
  have H1 := Lib.hid hp
  have H2 := Lib.hid hu
  have H3 := Lib.hid hst.holds
  have H4 := Lib.hid (Srt.grown_trans HG.out hg)
  clear hp hu hst hg HS HG hv hsw hl
  go_wp2_with fail
  go_end0
  exact ⟨rfl, d', H1.out, H2.out, ⟨Nat.lt_of_lt_of_le HB.out H4.out.size, H3.out⟩, H4.out⟩

end Go.Proofs.Ytildikdoimobhaa.Huf
