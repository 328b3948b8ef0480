/-
  What the program's screen answers.
-/
import Derived.Test.YtlamdgdegmjljaaScrPrgM
namespace Go.Proofs.Ytlamdgdegmjljaa.Scr
open Go.RowKit Lz RowG Reg
set_option linter.unusedVariables false
set_option maxRecDepth 100000

theorem says : Says lies where
  lt h := lies_lt h
  ok h := lies_ok h
  keep h k z := lies_keep h k z
  inside r W H w _ hW hH := inside_any r W H w hW hH
  whole W H w _ _ := whole_any W H w
  meet a b w ha hb := meet_any a b ha hb w
  newY W H w hW hH := newY_any W H w hW hH
  newN W H w h _ _ := newN_any W H w h
  size h := by
    obtain ⟨g, rfl, h⟩ := h
    exact (size_any h).mono fun e w' ⟨he, q, hq⟩ => ⟨he, by rw [hq]; exact below_q (Below.refl _ _) q⟩
  place h x y _ _ := by
    obtain ⟨g, rfl, h⟩ := h
    exact place_any h x y
  fill h r c _ _ := fill_any h r c
  blit h r q qv _ hq hrm hoff hql := blit_any h r q qv hq hrm hoff hql
  move h r s _ _ := move_any h r s
  resize h X Y _ _ := resize_any h X Y
  part h r _ := part_any h r
  image h := image_any h
end Go.Proofs.Ytlamdgdegmjljaa.Scr
