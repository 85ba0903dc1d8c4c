/-
  CONTRACTS OF THE MODEL's DRAWS OF DAYS.
-/
import Derived.Test.YthiogmkicdgpiaaDraw
import Derived.Test.YthiogmkicdgpiaaDates
set_option linter.unusedVariables false
set_option linter.unusedSimpArgs false
namespace Go.Proofs.Ythiogmkicdgpiaa
open Go.ChangeShapes Go.WideShapes Go.ChangeAt Go.RowKit Law Cal

theorem alive_any (w : World) : Calls Try.prog 15 #[] w fun e w' => e = .returned (.bool true) ∧ w = w' := by
  have e : Hid (dim 2024 2 = 29) := by rfl
  go_enter Try.func15, Try.ntmps15
  go_wp2_with fail
  refine (iDaysIn _ _ _).mono ?_
  rw [e.out]
  rintro e w' ⟨rfl, rfl⟩
  go_wp2
  go_ret
  exact ⟨rfl, rfl⟩

/-- A number was drawn; the reader has moved on. -/
def Num (B r K : Nat) (lo hi : Int) (w : World) (e : Ending) (w' : World) : Prop := ∃ y : Int, e = .returned (.int .i64 y) ∧ lo ≤ y ∧ y ≤ hi ∧ Rd w' B r K ∧ Moved r w w'


theorem sDayOf_some (y m d : Int) (w : World) :
    Calls Try.prog 32 #[.int .i64 y, .int .i64 m, .int .i64 d] w fun e w' => ∃ n : Int, e = .returned (.int .i64 n) ∧ -1 ≤ n ∧ n ≤ 1460969 ∧ Below w.heap.size w w' :=
  (sDayOf y m d w).mono fun e w' ⟨he, hb⟩ => ⟨_, he, (dayOf_bd y m d).1, (dayOf_bd y m d).2, hb⟩

set_option maxHeartbeats 1000000 in
theorem day_any (r : Nat) (w : World) (B K : Nat) (h : Rd w B r K) (hK : K < 999999000) :
    Calls Try.prog 40 #[.pointer (some ⟨r, 0, none⟩)] w (Num B r (K + 5) (-10) 1500000 w) := by
  have hr := h.2.1
  go_enter Try.func40, Try.ntmps40
  (go_wp2_with fail; refine (pick_pos _ _ _ _ _ (by repeat (first | with_reducible assumption | apply Rd.alloc | apply Rd.drew | (refine Rd.store ?_ (by simp; omega) _) | (refine Rd.below ?_ (by with_reducible assumption)))) (by omega) (by omega) (by omega)).mono ?_; rintro e wp ⟨a, rfl, a0, a9, hR, hM⟩; have hr := hR.2.1)
  (go_wp2_with fail; refine (pick_pos _ _ _ _ _ (by repeat (first | with_reducible assumption | apply Rd.alloc | apply Rd.drew | (refine Rd.store ?_ (by simp; omega) _) | (refine Rd.below ?_ (by with_reducible assumption)))) (by omega) (by omega) (by omega)).mono ?_; rintro e wp ⟨b, rfl, b0, b9, hR, hM⟩; have hr := hR.2.1)
  (go_wp2_with fail; refine (pick_pos _ _ _ _ _ (by repeat (first | with_reducible assumption | apply Rd.alloc | apply Rd.drew | (refine Rd.store ?_ (by simp; omega) _) | (refine Rd.below ?_ (by with_reducible assumption)))) (by omega) (by omega) (by omega)).mono ?_; rintro e wp ⟨c, rfl, c0, c9, hR, hM⟩; have hr := hR.2.1)
  go_wp2_with fail
  refine (sDayOf_some _ _ _ _).mono ?_
  rintro e w1 ⟨n, rfl, n0, n9, hb⟩
  have hR := hR.below hb
  have hr := hR.2.1
  go_wp2_with fail
  all_goals
    (go_wp2_with fail; refine (pick_pos _ _ _ _ _ (by repeat (first | with_reducible assumption | apply Rd.alloc | apply Rd.drew | (refine Rd.store ?_ (by simp; omega) _) | (refine Rd.below ?_ (by with_reducible assumption)))) (by omega) (by omega) (by omega)).mono ?_; rintro e wp ⟨d, rfl, d0, d9, hR, hM⟩; have hr := hR.2.1)
    (go_wp2_with fail; refine (pick_pos _ _ _ _ _ (by repeat (first | with_reducible assumption | apply Rd.alloc | apply Rd.drew | (refine Rd.store ?_ (by simp; omega) _) | (refine Rd.below ?_ (by with_reducible assumption)))) (by omega) (by omega) (by omega)).mono ?_; rintro e wp ⟨c, rfl, c0, c9, hR, hM⟩; have hr := hR.2.1)
    (obtain ⟨x, x0, x9, hx⟩ := tabB hM (by first | omega | (simp only [World.size_alloc]; omega) | (simp only [World.size_alloc, World.size_setCell]; omega)) 0 5 c rfl (by omega) (by first | (simp [nums]; done) | (simp [nums]; omega)) (by first | (simp [nums, intOf]; done) | (simp [nums, intOf]; omega)); obtain ⟨y, y0, y9, hy⟩ := tabA hM (by first | omega | (simp only [World.size_alloc]; omega) | (simp only [World.size_alloc, World.size_setCell]; omega)) (-10) 1500000 x rfl (by omega) (by first | (simp [nums]; done) | (simp [nums]; omega)) (by first | (simp [nums, intOf]; done) | (simp [nums, intOf]; omega)); try simp only [World.size_alloc, World.size_setCell] at hx)
    go_wp2
    go_ret
    exact ⟨_, rfl, by omega, by omega, (by repeat (first | with_reducible assumption | apply Rd.alloc | apply Rd.drew | (refine Rd.store ?_ (by simp; omega) _) | (refine Rd.below ?_ (by with_reducible assumption)))), (by repeat (first | with_reducible assumption | exact Moved.refl _ _ | apply Moved.alloc | (refine Moved.store ?_ (by simp; omega) _) | (refine Moved.trans ?_ (by with_reducible assumption)) | (refine Moved.below ?_ (by with_reducible assumption))))⟩

/-- A draw's answer of one number, whatever the code is. -/
def Num1 (lo hi : Int) (w : World) (e : Ending) (w' : World) : Prop := ∃ y : Int, e = .returned (.int .i64 y) ∧ lo ≤ y ∧ y ≤ hi ∧ Below w.heap.size w w'
def Num2 (lo hi lo2 hi2 : Int) (w : World) (e : Ending) (w' : World) : Prop := ∃ y z : Int, e = .returned (.tuple #[.int .i64 y, .int .i64 z]) ∧ lo ≤ y ∧ y ≤ hi ∧ lo2 ≤ z ∧ z ≤ hi2 ∧ Below w.heap.size w w'
def Num3 (lo hi lo2 hi2 lo3 hi3 : Int) (w : World) (e : Ending) (w' : World) : Prop := ∃ y z x : Int, e = .returned (.tuple #[.int .i64 y, .int .i64 z, .int .i64 x]) ∧ lo ≤ y ∧ y ≤ hi ∧ lo2 ≤ z ∧ z ≤ hi2 ∧ lo3 ≤ x ∧ x ≤ hi3 ∧ Below w.heap.size w w'





end Go.Proofs.Ythiogmkicdgpiaa
