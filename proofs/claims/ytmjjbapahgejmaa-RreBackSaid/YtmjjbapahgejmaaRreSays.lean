/-
  What is asked of the program's calls of layer 17 (rre), and the document's example.
-/
import Derived.Test.YtmjjbapahgejmaaRreBackM
import Derived.Test.YtmjjbapahgejmaaRreLaw
import Derived.Test.YtmjjbapahgejmaaPlnRefG
import Derived.Test.YtmjjbapahgejmaaAllFmtP
import Derived.Test.YtmjjbapahgejmaaAllFmtM
namespace Go.Proofs.Ytmjjbapahgejmaa.Rre
open Go.ChangeShapes Go.WideShapes Go.ChangeAt Go.RowKit Lz RowG RegVal Pln
open Go.Proofs.Ytmjjbapahgejmaa.Fmt (Fm FmAt standard_any std_wf)
set_option linter.unusedVariables false
set_option maxRecDepth 100000

/-- What is decoded: colours, where it ends, what is wrong. -/
structure Out where
  l : List Int
  i : Int
  e : Int
  deriving DecidableEq
def decOut (f : Fm) (a b : Int) (s : ByteArray) : Out :=
  if fitsB f a b then
    if (decL f a.toNat b.toNat s).e = 0 then ⟨(decL f a.toNat b.toNat s).l.map (fun c => ((f.col c : Nat) : Int)), (decL f a.toNat b.toNat s).i, 0⟩ else ⟨[], 0, (decL f a.toNat b.toNat s).e⟩
  else ⟨[], 0, 1⟩
def Wfs (l : List Int) : Prop := ∀ c ∈ l, (Lit.int .i64 c).wf = true
def Side (n : Int) : Prop := -9223372036854775808 ≤ n ∧ n ≤ 9223372036854775807
/-- What the calls of rre answer. -/
structure Says : Prop where
  ground : ∀ vals vv, Wfs vals → vals.length ≤ 1000 → ∀ w, SW w vv vals → Calls Try.prog 12 #[vv] w fun e w' => e = .returned (.int .i64 (groundL vals)) ∧ Below w.heap.size w w'
  pieces : ∀ a b vals vv g, Side a → Side b → Side g → Wfs vals → vals.length ≤ 1000 → ∀ w, SW w vv vals → Calls Try.prog 10 #[.int .i64 a, .int .i64 b, vv, .int .i64 g] w fun e w' => ∃ u, e = .returned u ∧ SP w' u (piecesL a b vals g) ∧ Below w.heap.size w w'
  encode : ∀ f : Fm, f.Wf → ∀ a b L vp, Side a → Side b → Wfs L → L.length ≤ 1000 → ∀ w, SW w vp L → Calls Try.prog 14 #[f.v, .int .i64 a, .int .i64 b, vp] w fun e w' => e = .returned (.tuple #[.string (encS f a b L), .int .i64 (encE f a b L)]) ∧ Below w.heap.size w w'
  decode : ∀ f : Fm, f.Wf → ∀ a b s, Side a → Side b → (fitsB f a b = true → a * b ≤ 1000) → s.size ≤ 100000 → ∀ w, Calls Try.prog 18 #[f.v, .int .i64 a, .int .i64 b, .string s] w fun e w' => ∃ u, e = .returned (.tuple #[u, .int .i64 (decOut f a b s).i, .int .i64 (decOut f a b s).e]) ∧ SI w' u (decOut f a b s).l ∧ Below w.heap.size w w'
def exL : List Int := [1, 2, 2, 2]
def exS : ByteArray := ⟨#[0, 0, 0, 1, 2, 0, 0, 0, 1, 0, 0, 0, 0, 0, 0, 0, 0, 1, 0, 1]⟩
def exT : ByteArray := ⟨#[0, 0, 0, 1, 2, 0, 0, 0, 1, 0, 0, 0, 0, 0, 0, 0, 0, 1, 0, 1, 120]⟩
theorem ex_pieces : piecesL 2 2 exL 2 = [⟨1, 0, 0, 1, 1⟩] := by decide +kernel
theorem ex_enc : encS Fm.std 2 2 exL = exS ∧ encE Fm.std 2 2 exL = 0 := by decide +kernel
theorem ex_dec : decOut Fm.std 2 2 exT = ⟨exL, 20, 0⟩ := by decide +kernel
theorem ex_ground : groundL [3, 2, 2] = 2 := by decide +kernel
theorem ex_tail : exS ++ (⟨#[120]⟩ : ByteArray) = exT ∧ exS.size = 20 := by decide +kernel
theorem lit4 (w : World) (a b c d : Int) (T : TypeId) : SW (w.alloc (.cells #[.int .i64 a, .int .i64 b, .int .i64 c, .int .i64 d] T)) (.slice (some ⟨w.heap.size, 0, none⟩) 4 4) [a, b, c, d] := by
  refine ⟨_, _, rfl, fun e => by simp at e, fun _ => ⟨w.heap.size, 0, rfl, by simp, fun i hi => ?_⟩⟩
  have h := (box1 w #[.int .i64 a, .int .i64 b, .int .i64 c, .int .i64 d] T).2
  have hi' : i < 4 := hi
  obtain rfl | rfl | rfl | rfl : i = 0 ∨ i = 1 ∨ i = 2 ∨ i = 3 := by omega
  · exact h 0 _ rfl
  · exact h 1 _ rfl
  · exact h 2 _ rfl
  · exact h 3 _ rfl
theorem lit3 (w : World) (a b c : Int) (T : TypeId) : SW (w.alloc (.cells #[.int .i64 a, .int .i64 b, .int .i64 c] T)) (.slice (some ⟨w.heap.size, 0, none⟩) 3 3) [a, b, c] := by
  refine ⟨_, _, rfl, fun e => by simp at e, fun _ => ⟨w.heap.size, 0, rfl, by simp, fun i hi => ?_⟩⟩
  have h := (box1 w #[.int .i64 a, .int .i64 b, .int .i64 c] T).2
  have hi' : i < 3 := hi
  obtain rfl | rfl | rfl : i = 0 ∨ i = 1 ∨ i = 2 := by omega
  · exact h 0 _ rfl
  · exact h 1 _ rfl
  · exact h 2 _ rfl
end Go.Proofs.Ytmjjbapahgejmaa.Rre
