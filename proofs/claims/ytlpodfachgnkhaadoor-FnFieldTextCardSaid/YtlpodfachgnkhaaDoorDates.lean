/-
  CONTRACTS OF CHAPTER 1, going on: DayOf, DateOf, WeekdayOf.
-/
import Derived.Test.YtlpodfachgnkhaaDoorDays
import Derived.WalkKit
import Derived.ProofKit
import Derived.Outline
import Derived.Lib.Hide
set_option linter.unusedVariables false
set_option linter.unusedSimpArgs false
namespace Go.Proofs.YtlpodfachgnkhaaDoor
open Go.ChangeShapes Go.WideShapes Go.ChangeAt Go.RowKit Cal

theorem dayOf_false {y m d : Int} (h : ¬ isDate y m d) (a : 1 ≤ d) : dim y m < d := by
  by_cases c : 1 ≤ y ∧ y ≤ 4000 ∧ 1 ≤ m ∧ m ≤ 12
  · have := dim_of c.1 c.2.1 c.2.2.1 c.2.2.2
    by_cases k : d ≤ len y m
    · exact absurd ⟨c.1, c.2.1, c.2.2.1, c.2.2.2, by omega, k⟩ h
    · omega
  · rw [dim_no c]; omega

theorem ret_tuple3 {a b c a' b' c' : Int} (h1 : a = a') (h2 : b = b') (h3 : c = c') : Ending.returned (.tuple #[.int .i64 a, .int .i64 b, .int .i64 c]) = .returned (.tuple #[.int .i64 a', .int .i64 b', .int .i64 c']) := by rw [h1, h2, h3]


theorem mby_succ (y : Int) : mby (y + 1) = mby y + 365 + lp (y + 1) := by unfold mby lp; split <;> omega

theorem l1In_yes (n lo hi : Int) (w : World) (h1 : lo ≤ n) (h2 : n ≤ hi) :
    Calls Tryd.prog 35 #[.int .i64 n, .int .i64 lo, .int .i64 hi] w fun e w' => e = .returned (.bool true) ∧ w = w' := by
  go_enter Tryd.func35, Tryd.ntmps35
  go_wp2
  go_ret
  exact ⟨rfl, rfl⟩
theorem l1In_no (n lo hi : Int) (w : World) (h : n < lo ∨ hi < n) :
    Calls Tryd.prog 35 #[.int .i64 n, .int .i64 lo, .int .i64 hi] w fun e w' => e = .returned (.bool false) ∧ w = w' := by
  by_cases h1 : n < lo
  · have h1' : decide (lo ≤ n) = false := by simpa using h1
    clear h
    go_enter Tryd.func35, Tryd.ntmps35
    go_wp2
    go_ret
    exact ⟨rfl, rfl⟩
  · have h2 : hi < n := by omega
    have h2' : decide (n ≤ hi) = false := by simpa using h2
    have h1' : lo ≤ n := by omega
    clear h h1
    go_enter Tryd.func35, Tryd.ntmps35
    go_wp2
    go_ret
    exact ⟨rfl, rfl⟩

theorem guess_low {n : Int} (h0 : 0 ≤ n) (h9 : n ≤ 1460969) : before (n / 366 + 1) ≤ n := by unfold before; omega



end Go.Proofs.YtlpodfachgnkhaaDoor
