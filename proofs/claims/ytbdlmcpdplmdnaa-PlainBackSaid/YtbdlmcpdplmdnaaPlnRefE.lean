/-
  Contracts of the reference of layer 16 (plain): from where a rectangle is copied.
-/
import Derived.Test.YtbdlmcpdplmdnaaPlnRefD
import Derived.Deep.RegionWith
namespace Go.Proofs.Ytbdlmcpdplmdnaa.Pln
open Go.ChangeShapes Go.WideShapes Go.ChangeAt Go.RowKit Lz RowG RegVal Fmt Oct
set_option linter.unusedVariables false
set_option maxRecDepth 100000

def cpB (x y : Int) : Bool := okB 2 x && okB 2 y
def cpS (x y : Int) : ByteArray := ⟨(if cpB x y then beL 2 x ++ beL 2 y else []).toArray⟩
def cpE (x y : Int) : Int := if cpB x y then 0 else 1
theorem putS_size (s n : Int) (h : s = 2) : (putS s n).size ≤ 2 := by
  subst h
  unfold putS
  show ((if okB 2 n then beL (2 : Int).toNat n else []).toArray).size ≤ 2
  split <;> simp [beL_length]
theorem refCopy_any (x y : Int) (w : World) :
    Calls Try.prog 19 #[.int .i64 x, .int .i64 y] w fun e w' => e = .returned (.tuple #[.string (cpS x y), .int .i64 (cpE x y)]) ∧ Below w.heap.size w w' := by
  have PX := Lib.hid (fun w => refPut_any 2 x w)
  have PY := Lib.hid (fun w => refPut_any 2 y w)
  have hS : RowKit.Hid (cpS x y = if okB 2 x && okB 2 y then putS 2 x ++ putS 2 y else ⟨#[]⟩) := Lib.hid (by
    unfold cpS cpB putS
    cases okB 2 x <;> cases okB 2 y <;> simp [ByteArray.mk_append_mk])
  have hE : RowKit.Hid (cpE x y = if okB 2 x && okB 2 y then 0 else 1) := Lib.hid rfl
  have hx : putE 2 x = if okB 2 x then 0 else 1 := rfl
  have hy : putE 2 y = if okB 2 y then 0 else 1 := rfl
  have hadd : ∀ W : World, (Op.stringOp .add (putS 2 x) (putS 2 y)).run Try.prog W = .ok (.string (putS 2 x ++ putS 2 y)) W := fun W => run_string_add_sum W _ _ (by
    have := putS_size 2 x rfl
    have := putS_size 2 y rfl
    omega)
  generalize cpS x y = S at *
  generalize cpE x y = E at *
  generalize putS 2 x = sx at *
  generalize putS 2 y = sy at *
  generalize hex : putE 2 x = ex at *
  generalize hey : putE 2 y = ey at *
  clear hex hey
  go_enter Try.func19, Try.ntmps19
  generalize okB 2 x = bx at *
  generalize okB 2 y = bY at *
  have fin : ∀ (w3 : World), Below w.heap.size w w3 → Below w.heap.size w w3 := fun _ h => h
  cases bx <;> cases bY
  all_goals
    simp only [Bool.and_true, Bool.and_false, if_true, Bool.false_eq_true, if_false] at hS hE hx hy
    subst hx hy
    have e1 := hS.out
    have e2 := hE.out
    subst e1 e2
    clear hS hE
    go_wp2_with fail
    refine (PX.out _).mono ?_
    rintro r w2 ⟨rfl, b⟩
    have HB := Lib.hid b
    clear b
    go_wp2_with fail
    refine (PY.out _).mono ?_
    rintro r w3 ⟨rfl, b⟩
    have HB2 := Lib.hid (HB.out.trans (b.mono HB.out.size))
    clear b HB
    go_wp2_with fail
    go_ret2
    exact ⟨rfl, HB2.out⟩
end Go.Proofs.Ytbdlmcpdplmdnaa.Pln
