/-
  What the program's region answers, over what rects answers.
-/
import Derived.Test.YtedlhfemmofbpaaRegPrgU
namespace Go.Proofs.Ytedlhfemmofbpaa.Reg
open Go.ChangeShapes Go.WideShapes Go.ChangeAt Go.RowKit Go.Shelf Lz RowG RegVal OwnL
set_option linter.unusedVariables false
set_option maxRecDepth 100000

theorem seen {B n : Nat} {w : World} {e : Ending} {w' : World} {l : List Rc} (h : ∃ u, e = .returned u ∧ RectsAt B w' u l ∧ Below n w w') : ∃ u, e = .returned u ∧ SeesR w' u l ∧ Below n w w' := by
  obtain ⟨u, h1, h2, h3⟩ := h
  exact ⟨u, h1, RectsAt.sees h2, h3⟩
theorem says_of (RS : RectsSays) : Says where
  make a va w hl hw ha := (make_any RS a va w hl hw ha).mono fun _ _ h => seen h
  union a b va vb w hl hwa hwb ha hb := (union_any RS a b va vb w hl hwa hwb ha hb).mono fun _ _ h => seen h
  minus a b va vb w hl hwa hwb ha hb := (minus_any RS a b va vb w hl hwa hwb ha hb).mono fun _ _ h => seen h
  both a b va vb w hl hwa hwb ha hb := (both_any RS a b va vb w hl hwa hwb ha hb).mono fun _ _ h => seen h
  shift a va dx dy w hl hm hw _ _ ha := shift_any (make_any RS) a va dx dy w (by omega) hm hw ha
  area a va w hl hw ha := area_any (make_any RS) a va w hl hw ha
  has a va x y w hl hw _ _ ha := has_any a va x y w (by omega) hw ha
  bounds a va w hl hw ha := bounds_any a va w (by omega) hw ha
end Go.Proofs.Ytedlhfemmofbpaa.Reg
