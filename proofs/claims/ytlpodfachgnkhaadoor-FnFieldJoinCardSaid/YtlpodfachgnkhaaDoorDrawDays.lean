/-
  CONTRACTS OF THE MODEL's DRAWS OF DAYS.
-/
import Derived.Test.YtlpodfachgnkhaaDoorDraw
import Derived.Test.YtlpodfachgnkhaaDoorDates
set_option linter.unusedVariables false
set_option linter.unusedSimpArgs false
namespace Go.Proofs.YtlpodfachgnkhaaDoor
open Go.ChangeShapes Go.WideShapes Go.ChangeAt Go.RowKit Law Cal

theorem alive_any (w : World) : Calls Tryd.prog 12 #[] w fun e w' => e = .returned (.bool true) ∧ w = w' := by
  have e : Hid (dim 2024 2 = 29) := by rfl
  go_enter Tryd.func12, Tryd.ntmps12
  go_wp2_with fail
  refine (iDaysIn _ _ _).mono ?_
  rw [e.out]
  rintro e w' ⟨rfl, rfl⟩
  go_wp2
  go_ret
  exact ⟨rfl, rfl⟩

/-- A number was drawn; the reader has moved on. -/
def Num (B r K : Nat) (lo hi : Int) (w : World) (e : Ending) (w' : World) : Prop := ∃ y : Int, e = .returned (.int .i64 y) ∧ lo ≤ y ∧ y ≤ hi ∧ Rd w' B r K ∧ Moved r w w'


/-- A draw's answer of one number, whatever the code is. -/
def Num1 (lo hi : Int) (w : World) (e : Ending) (w' : World) : Prop := ∃ y : Int, e = .returned (.int .i64 y) ∧ lo ≤ y ∧ y ≤ hi ∧ Below w.heap.size w w'
def Num2 (lo hi lo2 hi2 : Int) (w : World) (e : Ending) (w' : World) : Prop := ∃ y z : Int, e = .returned (.tuple #[.int .i64 y, .int .i64 z]) ∧ lo ≤ y ∧ y ≤ hi ∧ lo2 ≤ z ∧ z ≤ hi2 ∧ Below w.heap.size w w'
def Num3 (lo hi lo2 hi2 lo3 hi3 : Int) (w : World) (e : Ending) (w' : World) : Prop := ∃ y z x : Int, e = .returned (.tuple #[.int .i64 y, .int .i64 z, .int .i64 x]) ∧ lo ≤ y ∧ y ≤ hi ∧ lo2 ≤ z ∧ z ≤ hi2 ∧ lo3 ≤ x ∧ x ≤ hi3 ∧ Below w.heap.size w w'





end Go.Proofs.YtlpodfachgnkhaaDoor
