/-
  CONTRACTS OF CHAPTER 1: what the functions on days of the program and of the model return.
-/
import Derived.Test.YtlpodfachgnkhaaDoorChecked
import Derived.Test.YtlpodfachgnkhaaDoorCal
import Derived.WalkKit
import Derived.ProofKit
import Derived.Outline
import Derived.Lib.Hide
set_option linter.unusedVariables false
set_option linter.unusedSimpArgs false
namespace Go.Proofs.YtlpodfachgnkhaaDoor
open Go.ChangeShapes Go.WideShapes Go.ChangeAt Go.RowKit Cal

theorem ret_int {k : IntKind} {a b : Int} (h : a = b) : Ending.returned (.int k a) = .returned (.int k b) := by rw [h]
theorem ret_bool {a b : Bool} (h : a = b) : Ending.returned (.bool a) = .returned (.bool b) := by rw [h]

theorem iLeap (y : Int) (w : World) :
    Calls Tryd.prog 42 #[.int .i64 y] w fun e w' => e = .returned (.bool (leapB y)) ∧ w = w' := by
  by_cases h1 : y < 1
  · go_enter Tryd.func42, Tryd.ntmps42
    go_wp2
    go_ret
    exact ⟨ret_bool (by simp [leapB]; omega), rfl⟩
  · by_cases h2 : 4000 < y
    · go_enter Tryd.func42, Tryd.ntmps42
      go_wp2
      go_ret
      exact ⟨ret_bool (by simp [leapB]; omega), rfl⟩
    · have h1' : 1 ≤ y := by omega
      have h2' : y ≤ 4000 := by omega
      by_cases h3 : y % 4 = 0 <;> by_cases h4 : y % 100 = 0 <;> by_cases h5 : y % 400 = 0
      all_goals
        go_enter Tryd.func42, Tryd.ntmps42
        go_wp2
        go_ret
        exact ⟨ret_bool (by rw [Bool.eq_iff_iff]; simp [leapB]; omega), rfl⟩

theorem marchMonth_any (y m : Int) (w : World) (h1 : 1 ≤ y ∧ y ≤ 4000) (h2 : 1 ≤ m ∧ m ≤ 12) :
    Calls Tryd.prog 43 #[.int .i64 y, .int .i64 m] w fun e w' => e = .returned (.tuple #[.int .i64 (if m < 3 then y - 1 else y), .int .i64 (if m < 3 then m + 9 else m - 3)]) ∧ w = w' := by
  by_cases h : m < 3
  · rw [if_pos h, if_pos h]
    go_enter Tryd.func43, Tryd.ntmps43
    go_wp2
    go_ret2
    exact ⟨rfl, rfl⟩
  · rw [if_neg h, if_neg h]
    go_enter Tryd.func43, Tryd.ntmps43
    go_wp2
    go_ret2
    exact ⟨rfl, rfl⟩

theorem mcum_any (p : Int) (w : World) (h : 0 ≤ p ∧ p ≤ 1000) :
    Calls Tryd.prog 44 #[.int .i64 p] w fun e w' => e = .returned (.int .i64 (mcum p)) ∧ w = w' := by
  go_enter Tryd.func44, Tryd.ntmps44
  go_wp2
  go_ret
  exact ⟨ret_int (by unfold mcum; omega), rfl⟩

theorem iDaysIn (y m : Int) (w : World) :
    Calls Tryd.prog 27 #[.int .i64 y, .int .i64 m] w fun e w' => e = .returned (.int .i64 (dim y m)) ∧ w = w' := by
  by_cases h1 : 1 ≤ y ∧ y ≤ 4000 ∧ 1 ≤ m ∧ m ≤ 12
  · obtain ⟨h1, h2, h3, h4⟩ := h1
    rw [dim_of h1 h2 h3 h4]
    by_cases hm : m = 2
    · subst hm
      cases hl : leapB y
      · have e : len y 2 = 28 := by simp [len, lp_of_false hl h1 h2]
        have E := Lib.hid e; have Hl := Lib.hid hl; clear hl e
        go_enter Tryd.func27, Tryd.ntmps27
        go_wp2_with (go_at_call 42; refine (iLeap _ _).mono ?_; rintro e w' ⟨rfl, rfl⟩; rw [Hl.out])
        go_ret
        exact ⟨ret_int E.out.symm, rfl⟩
      · have e : len y 2 = 29 := by simp [len, lp_of_true hl]
        have E := Lib.hid e; have Hl := Lib.hid hl; clear hl e
        go_enter Tryd.func27, Tryd.ntmps27
        go_wp2_with (go_at_call 42; refine (iLeap _ _).mono ?_; rintro e w' ⟨rfl, rfl⟩; rw [Hl.out])
        go_ret
        exact ⟨ret_int E.out.symm, rfl⟩
    · have hm' : (m == 2) = false := by simpa using hm
      have E := Lib.hid (mlen (y := y) h3 h4 hm)
      by_cases h : m < 3
      · go_enter Tryd.func27, Tryd.ntmps27
        go_wp2
        go_ret
        exact ⟨ret_int (by have := E.out; rw [if_pos h] at this; unfold mcum at this; omega), rfl⟩
      · go_enter Tryd.func27, Tryd.ntmps27
        go_wp2
        go_ret
        exact ⟨ret_int (by have := E.out; rw [if_neg (by omega)] at this; unfold mcum at this; omega), rfl⟩
  · rw [dim_no h1]
    by_cases a : y < 1
    · go_enter Tryd.func27, Tryd.ntmps27
      go_wp2
      go_ret
      exact ⟨rfl, rfl⟩
    · by_cases b : 4000 < y
      · go_enter Tryd.func27, Tryd.ntmps27
        go_wp2
        go_ret
        exact ⟨rfl, rfl⟩
      · by_cases c : m < 1
        · go_enter Tryd.func27, Tryd.ntmps27
          go_wp2
          go_ret
          exact ⟨rfl, rfl⟩
        · have d : 12 < m := by omega
          clear h1
          go_enter Tryd.func27, Tryd.ntmps27
          go_wp2
          go_ret
          exact ⟨rfl, rfl⟩


end Go.Proofs.YtlpodfachgnkhaaDoor
