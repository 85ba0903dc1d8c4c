/-
  CONTRACTS OF CHAPTER 3: what the functions on rules of the program and of the model return.
-/
import Derived.Test.YtlmmianaplahaaaRule
import Derived.Test.YtlmmianaplahaaaKeep
import Derived.Test.YtlmmianaplahaaaDates
import Derived.LoopN
import Derived.IntWalk
import Derived.Deep.RegionHeld3
set_option linter.unusedVariables false
set_option linter.unusedSimpArgs false
namespace Go.Proofs.Ytlmmianaplahaaa
open Go.ChangeShapes Go.WideShapes Go.ChangeAt Go.RowKit Cal

theorem sIn (n lo hi : Int) (w : World) :
    Calls Try.prog 51 #[.int .i64 n, .int .i64 lo, .int .i64 hi] w fun e w' => e = .returned (.bool (decide (lo ≤ n ∧ n ≤ hi))) ∧ w = w' := by
  by_cases c : lo ≤ n ∧ n ≤ hi
  · rw [decide_eq_true c]; exact l1In_yes _ _ _ _ c.1 c.2
  · rw [decide_eq_false c]; exact l1In_no _ _ _ _ (by omega)

theorem iRuleValid (m k d i : Int) (w : World) :
    Calls Try.prog 67 #[(.agg #[.int .i64 (m), .int .i64 (k), .int .i64 (d), .int .i64 (i)])] w fun e w' => e = .returned (.bool (rvB m k d i)) ∧ Below w.heap.size w w' := by
  go_enter Try.func67, Try.ntmps67
  go_wp2
  all_goals
    go_ret
    exact ⟨ret_bool (by unfold rvB; rw [Bool.eq_iff_iff]; simp; omega), (Below.refl _ _).alloc (Nat.le_refl _) _⟩

theorem sRuleValid (m k d i : Int) (w : World) :
    Calls Try.prog 62 #[(.agg #[.int .i64 (m), .int .i64 (k), .int .i64 (d), .int .i64 (i)])] w fun e w' => e = .returned (.bool (rvB m k d i)) ∧ Below w.heap.size w w' := by
  go_enter Try.func62, Try.ntmps62
  go_wp2_with (go_at_call 51; refine (sIn _ _ _ _).mono ?_; rintro e wx ⟨rfl, rfl⟩)
  all_goals
    go_ret
    exact ⟨ret_bool (by unfold rvB; rw [Bool.eq_iff_iff]; simp; omega), (Below.refl _ _).alloc (Nat.le_refl _) _⟩

theorem weekdayFrom_any (n d : Int) (w : World) (h : 0 ≤ n ∧ n ≤ 1460969) (hd : 0 ≤ d ∧ d ≤ 6) :
    Calls Try.prog 87 #[.int .i64 n, .int .i64 d] w fun e w' => e = .returned (.int .i64 (n + (d - n) % 7)) ∧ w = w' := by
  have e : wdy n = n % 7 := by unfold wdy; rw [if_pos h]
  have E := Lib.hid e; clear e
  obtain ⟨h0, h9⟩ := h
  go_enter Try.func87, Try.ntmps87
  go_wp2_with (go_at_call 89; refine (iWeekdayOf _ _).mono ?_; rw [E.out]; rintro e wx ⟨rfl, rfl⟩)
  go_ret
  exact ⟨ret_int (by omega), rfl⟩

/-- The table of a year. -/
def startsOf (y : Int) : List Value := [.int .i64 0, .int .i64 (dayOf y 1 1), .int .i64 (dayOf y 2 1), .int .i64 (dayOf y 3 1), .int .i64 (dayOf y 4 1), .int .i64 (dayOf y 5 1), .int .i64 (dayOf y 6 1), .int .i64 (dayOf y 7 1), .int .i64 (dayOf y 8 1), .int .i64 (dayOf y 9 1), .int .i64 (dayOf y 10 1), .int .i64 (dayOf y 11 1), .int .i64 (dayOf y 12 1)]

set_option maxHeartbeats 4000000 in
theorem monthStarts_any (y : Int) (w : World) :
    Calls Try.prog 86 #[.int .i64 y] w fun e w' => e = .returned (.agg #[.int .i64 0, .int .i64 (dayOf y 1 1), .int .i64 (dayOf y 2 1), .int .i64 (dayOf y 3 1), .int .i64 (dayOf y 4 1), .int .i64 (dayOf y 5 1), .int .i64 (dayOf y 6 1), .int .i64 (dayOf y 7 1), .int .i64 (dayOf y 8 1), .int .i64 (dayOf y 9 1), .int .i64 (dayOf y 10 1), .int .i64 (dayOf y 11 1), .int .i64 (dayOf y 12 1)]) ∧ Below w.heap.size w w' := by
  go_enter Try.func86, Try.ntmps86
  go_wp2
  refine wp_loop_rounds 13 ?_
  iterate 12
    rw [rounds_succ]
    go_wp2_with (go_at_call 88; refine (iDayOf _ _ _ _).mono ?_; rintro e wx ⟨rfl, rfl⟩)
  rw [rounds_succ]
  go_wp2
  ((try simp only [Exit.inBlock, Exit.then]); refine bodyPost_ret (v := .agg (startsOf y).toArray) (by simp [results, Try.results86, go_sem, *]; try rfl) rfl ?_)
  exact ⟨rfl, (by repeat' (first | with_reducible assumption | with_reducible exact Below.refl _ _ | with_reducible refine Below.setCell ?_ ?_ _ | with_reducible refine Below.alloc ?_ ?_ _ | with_reducible apply Below.drew | with_reducible apply Below.drewn | (simp; done) | (simp; omega)))⟩

theorem starts_at (y : Int) (j : Int) (w : World) (T : TypeId) (h : 1 ≤ j ∧ j ≤ 12) : (w.alloc (.cells (startsOf y).toArray T)).cell? ⟨w.heap.size, j.toNat, none⟩ = some (.int .i64 (dayOf y j 1)) := by
  rw [World.cell?_alloc_new]
  have : j = 1 ∨ j = 2 ∨ j = 3 ∨ j = 4 ∨ j = 5 ∨ j = 6 ∨ j = 7 ∨ j = 8 ∨ j = 9 ∨ j = 10 ∨ j = 11 ∨ j = 12 := by omega
  rcases this with rfl | rfl | rfl | rfl | rfl | rfl | rfl | rfl | rfl | rfl | rfl | rfl <;> rfl
theorem four_made (w : World) (v0 v1 v2 v3 : Value) (T : TypeId) : (fun w' => Below w.heap.size w w' ∧ w'.cell? ⟨w.heap.size, 0, none⟩ = some v0 ∧ w'.cell? ⟨w.heap.size, 1, none⟩ = some v1 ∧ w'.cell? ⟨w.heap.size, 2, none⟩ = some v2 ∧ w'.cell? ⟨w.heap.size, 3, none⟩ = some v3) (w.alloc (.cells #[v0, v1, v2, v3] T)) :=
  ⟨(Below.refl _ _).alloc (Nat.le_refl _) _, World.cell?_alloc_new _ _ _ _, World.cell?_alloc_new _ _ _ _, World.cell?_alloc_new _ _ _ _, World.cell?_alloc_new _ _ _ _⟩
theorem four_stays (w : World) (b : Nat) (v0 v1 v2 v3 : Value) : Stays (fun w' => Below w.heap.size w w' ∧ w'.cell? ⟨b, 0, none⟩ = some v0 ∧ w'.cell? ⟨b, 1, none⟩ = some v1 ∧ w'.cell? ⟨b, 2, none⟩ = some v2 ∧ w'.cell? ⟨b, 3, none⟩ = some v3) := (by repeat' (first | with_reducible exact Stays.below _ | with_reducible exact Stays.cell _ _ _ | with_reducible exact Stays.size _ | with_reducible refine Stays.and ?_ ?_))
theorem five_stays (w : World) (b c j : Nat) (v0 v1 v2 v3 v4 : Value) : Stays (fun w' => Below w.heap.size w w' ∧ w'.cell? ⟨b, 0, none⟩ = some v0 ∧ w'.cell? ⟨b, 1, none⟩ = some v1 ∧ w'.cell? ⟨b, 2, none⟩ = some v2 ∧ w'.cell? ⟨b, 3, none⟩ = some v3 ∧ w'.cell? ⟨c, j, none⟩ = some v4) := (by repeat' (first | with_reducible exact Stays.below _ | with_reducible exact Stays.cell _ _ _ | with_reducible exact Stays.size _ | with_reducible refine Stays.and ?_ ?_))

set_option maxHeartbeats 4000000 in
theorem iRuleDay (m k d i y : Int) (w : World) :
    Calls Try.prog 77 #[(.agg #[.int .i64 (m), .int .i64 (k), .int .i64 (d), .int .i64 (i)]), .int .i64 y] w fun e w' => e = .returned (.int .i64 (ruleDay m k d i y)) ∧ Below w.heap.size w w' := by
  cases c : ruleOk m k d i y
  · rw [ruleDay_no c]
    rcases ok_no c with a | a
    · have A := Lib.hid a; clear a c
      go_enter Try.func77, Try.ntmps77
      (go_wp2_with fail; refine (iRuleValid _ _ _ _ _).mono ?_; rw [A.out]; rintro e wx ⟨rfl, hbx⟩; have hC := Below_at hbx; have hF := Below_fr hbx; have hb := Below.trans (show Below w.heap.size w _ from (by repeat' (first | with_reducible assumption | with_reducible exact Below.refl _ _ | with_reducible refine Below.setCell ?_ ?_ _ | with_reducible refine Below.alloc ?_ ?_ _ | with_reducible apply Below.drew | with_reducible apply Below.drewn | (simp; done) | (simp; omega)))) (hbx.mono (by first | omega | (simp; done) | (simp; omega))); have hz := hb.size; have hl := hbx.size; (try simp only [World.size_alloc, World.size_setCell, World.size_drew] at hl); (try have hs0 : w.heap.size < wx.heap.size := by omega); (try have hs1 : w.heap.size + 1 < wx.heap.size := by omega); clear hl)
      go_wp2
      go_ret
      exact ⟨rfl, (by repeat' (first | with_reducible assumption | with_reducible exact Below.refl _ _ | with_reducible refine Below.setCell ?_ ?_ _ | with_reducible refine Below.alloc ?_ ?_ _ | with_reducible apply Below.drew | with_reducible apply Below.drewn | (simp; done) | (simp; omega)))⟩
    · cases v : rvB m k d i
      all_goals
        have A := Lib.hid v; clear v c
        by_cases y1 : y < 1
        · clear a
          go_enter Try.func77, Try.ntmps77
          (go_wp2_with fail; refine (iRuleValid _ _ _ _ _).mono ?_; rw [A.out]; rintro e wx ⟨rfl, hbx⟩; have hC := Below_at hbx; have hF := Below_fr hbx; have hb := Below.trans (show Below w.heap.size w _ from (by repeat' (first | with_reducible assumption | with_reducible exact Below.refl _ _ | with_reducible refine Below.setCell ?_ ?_ _ | with_reducible refine Below.alloc ?_ ?_ _ | with_reducible apply Below.drew | with_reducible apply Below.drewn | (simp; done) | (simp; omega)))) (hbx.mono (by first | omega | (simp; done) | (simp; omega))); have hz := hb.size; have hl := hbx.size; (try simp only [World.size_alloc, World.size_setCell, World.size_drew] at hl); (try have hs0 : w.heap.size < wx.heap.size := by omega); (try have hs1 : w.heap.size + 1 < wx.heap.size := by omega); clear hl)
          go_wp2
          go_ret
          exact ⟨rfl, (by repeat' (first | with_reducible assumption | with_reducible exact Below.refl _ _ | with_reducible refine Below.setCell ?_ ?_ _ | with_reducible refine Below.alloc ?_ ?_ _ | with_reducible apply Below.drew | with_reducible apply Below.drewn | (simp; done) | (simp; omega)))⟩
        · have y9 : 4000 < y := by omega
          clear a
          go_enter Try.func77, Try.ntmps77
          (go_wp2_with fail; refine (iRuleValid _ _ _ _ _).mono ?_; rw [A.out]; rintro e wx ⟨rfl, hbx⟩; have hC := Below_at hbx; have hF := Below_fr hbx; have hb := Below.trans (show Below w.heap.size w _ from (by repeat' (first | with_reducible assumption | with_reducible exact Below.refl _ _ | with_reducible refine Below.setCell ?_ ?_ _ | with_reducible refine Below.alloc ?_ ?_ _ | with_reducible apply Below.drew | with_reducible apply Below.drewn | (simp; done) | (simp; omega)))) (hbx.mono (by first | omega | (simp; done) | (simp; omega))); have hz := hb.size; have hl := hbx.size; (try simp only [World.size_alloc, World.size_setCell, World.size_drew] at hl); (try have hs0 : w.heap.size < wx.heap.size := by omega); (try have hs1 : w.heap.size + 1 < wx.heap.size := by omega); clear hl)
          go_wp2
          go_ret
          exact ⟨rfl, (by repeat' (first | with_reducible assumption | with_reducible exact Below.refl _ _ | with_reducible refine Below.setCell ?_ ?_ _ | with_reducible refine Below.alloc ?_ ?_ _ | with_reducible apply Below.drew | with_reducible apply Below.drewn | (simp; done) | (simp; omega)))⟩
  · rw [ruleDay_yes c]
    obtain ⟨v, y1, y9⟩ := ok_yes c
    obtain ⟨m1, m9, k1, k9, d1, d9, i1, i9⟩ := rv_yes v
    have A := Lib.hid v; clear v c
    have f := dayOf_first (m := m) ⟨y1, y9⟩ ⟨by omega, by omega⟩
    have g := dayOf_first (m := m + 1) ⟨y1, y9⟩ ⟨by omega, by omega⟩
    have e := num_next (y := y) (m := m) ⟨by omega, by omega⟩
    have f0 : 0 ≤ dayOf y m 1 ∧ dayOf y m 1 ≤ 1460942 := by omega
    have g0 : 7 ≤ dayOf y (m + 1) 1 ∧ dayOf y (m + 1) 1 ≤ 1460970 := by omega
    clear f g e
    have hS := four_made w (.int .i64 m) (.int .i64 k) (.int .i64 d) (.int .i64 i) 24
    by_cases k5 : k = 5
    · subst k5
      rw [rDay_last ⟨y1, y9⟩ ⟨m1, m9⟩ ⟨d1, d9⟩]
      go_enter Try.func77, Try.ntmps77
      (go_wp2_with fail; refine (iRuleValid _ _ _ _ _).mono ?_; rw [A.out]; rintro e wx ⟨rfl, hbx⟩; have hC := Below_at hbx; have hF := Below_fr hbx; have hb := Below.trans (show Below w.heap.size w _ from (by repeat' (first | with_reducible assumption | with_reducible exact Below.refl _ _ | with_reducible refine Below.setCell ?_ ?_ _ | with_reducible refine Below.alloc ?_ ?_ _ | with_reducible apply Below.drew | with_reducible apply Below.drewn | (simp; done) | (simp; omega)))) (hbx.mono (by first | omega | (simp; done) | (simp; omega))); have hz := hb.size; have hl := hbx.size; (try simp only [World.size_alloc, World.size_setCell, World.size_drew] at hl); (try have hs0 : w.heap.size < wx.heap.size := by omega); (try have hs1 : w.heap.size + 1 < wx.heap.size := by omega); clear hl)
      have hS := four_stays _ _ _ _ _ _ _ _ hbx hS
      (go_wp2_with fail; refine (monthStarts_any _ _).mono ?_; rintro e wx ⟨rfl, hbx⟩; have hC := Below_at hbx; have hF := Below_fr hbx; have hb := Below.trans (show Below w.heap.size w _ from (by repeat' (first | with_reducible assumption | with_reducible exact Below.refl _ _ | with_reducible refine Below.setCell ?_ ?_ _ | with_reducible refine Below.alloc ?_ ?_ _ | with_reducible apply Below.drew | with_reducible apply Below.drewn | (simp; done) | (simp; omega)))) (hbx.mono (by first | omega | (simp; done) | (simp; omega))); have hz := hb.size; have hl := hbx.size; (try simp only [World.size_alloc, World.size_setCell, World.size_drew] at hl); (try have hs0 : w.heap.size < wx.heap.size := by omega); (try have hs1 : w.heap.size + 1 < wx.heap.size := by omega); clear hl)
      have hS := four_stays _ _ _ _ _ _ _ _ hbx hS
      have hS1 := four_stays _ _ _ _ _ _ _ _ ((Below.refl _ _).alloc (Nat.le_refl _) (.cells (startsOf y).toArray 82)) hS
      have hT := starts_at y (m + 1) wx 82 ⟨by omega, by omega⟩
      have hS2 : (fun w' => Below w.heap.size w w' ∧ w'.cell? ⟨w.heap.size, 0, none⟩ = some (.int .i64 (m)) ∧ w'.cell? ⟨w.heap.size, 1, none⟩ = some (.int .i64 (5)) ∧ w'.cell? ⟨w.heap.size, 2, none⟩ = some (.int .i64 (d)) ∧ w'.cell? ⟨w.heap.size, 3, none⟩ = some (.int .i64 (i)) ∧ w'.cell? ⟨wx.heap.size, (m + 1).toNat, none⟩ = some (.int .i64 (dayOf y (m + 1) 1))) (wx.alloc (.cells (startsOf y).toArray 82)) := ⟨hS1.1, hS1.2.1, hS1.2.2.1, hS1.2.2.2.1, hS1.2.2.2.2, hT⟩
      clear hS1 hT hS
      have hw1 : IntKind.i64.wrap (m + 1) = m + 1 := IntWalk.i64_in _ (by omega)
      have hw2 : IntKind.i64.wrap (dayOf y (m + 1) 1 - 7) = dayOf y (m + 1) 1 - 7 := IntWalk.i64_in _ (by omega)
      have hj0 : (0 : Int) ≤ m + 1 := by omega
      have hj9 : m + 1 < (13 : Int) := by omega
      go_wp2_with fail
      go_region_held3 (fun w' => Below w.heap.size w w' ∧ w'.cell? ⟨w.heap.size, 0, none⟩ = some (.int .i64 (m)) ∧ w'.cell? ⟨w.heap.size, 1, none⟩ = some (.int .i64 (5)) ∧ w'.cell? ⟨w.heap.size, 2, none⟩ = some (.int .i64 (d)) ∧ w'.cell? ⟨w.heap.size, 3, none⟩ = some (.int .i64 (i)) ∧ w'.cell? ⟨wx.heap.size, (m + 1).toNat, none⟩ = some (.int .i64 (dayOf y (m + 1) 1)))
        (first | exact five_stays _ _ _ _ _ _ _ _ _ _ _ (Below.refl _ _).drew hS2)
        (first | (go_at_call 87; refine (weekdayFrom_any _ _ _ (by omega) (by omega)).mono ?_; rintro e wy ⟨rfl, rfl⟩))
      go_wp2
      go_ret
      exact ⟨rfl, (by repeat' (first | with_reducible assumption | with_reducible exact Below.refl _ _ | with_reducible refine Below.setCell ?_ ?_ _ | with_reducible refine Below.alloc ?_ ?_ _ | with_reducible apply Below.drew | with_reducible apply Below.drewn | (simp; done) | (simp; omega)))⟩
    · rw [rDay_nth ⟨y1, y9⟩ ⟨m1, m9⟩ ⟨k1, by omega⟩ ⟨d1, d9⟩]
      have k5' : (k == 5) = false := by simpa using k5
      go_enter Try.func77, Try.ntmps77
      (go_wp2_with fail; refine (iRuleValid _ _ _ _ _).mono ?_; rw [A.out]; rintro e wx ⟨rfl, hbx⟩; have hC := Below_at hbx; have hF := Below_fr hbx; have hb := Below.trans (show Below w.heap.size w _ from (by repeat' (first | with_reducible assumption | with_reducible exact Below.refl _ _ | with_reducible refine Below.setCell ?_ ?_ _ | with_reducible refine Below.alloc ?_ ?_ _ | with_reducible apply Below.drew | with_reducible apply Below.drewn | (simp; done) | (simp; omega)))) (hbx.mono (by first | omega | (simp; done) | (simp; omega))); have hz := hb.size; have hl := hbx.size; (try simp only [World.size_alloc, World.size_setCell, World.size_drew] at hl); (try have hs0 : w.heap.size < wx.heap.size := by omega); (try have hs1 : w.heap.size + 1 < wx.heap.size := by omega); clear hl)
      have hS := four_stays _ _ _ _ _ _ _ _ hbx hS
      (go_wp2_with fail; refine (monthStarts_any _ _).mono ?_; rintro e wx ⟨rfl, hbx⟩; have hC := Below_at hbx; have hF := Below_fr hbx; have hb := Below.trans (show Below w.heap.size w _ from (by repeat' (first | with_reducible assumption | with_reducible exact Below.refl _ _ | with_reducible refine Below.setCell ?_ ?_ _ | with_reducible refine Below.alloc ?_ ?_ _ | with_reducible apply Below.drew | with_reducible apply Below.drewn | (simp; done) | (simp; omega)))) (hbx.mono (by first | omega | (simp; done) | (simp; omega))); have hz := hb.size; have hl := hbx.size; (try simp only [World.size_alloc, World.size_setCell, World.size_drew] at hl); (try have hs0 : w.heap.size < wx.heap.size := by omega); (try have hs1 : w.heap.size + 1 < wx.heap.size := by omega); clear hl)
      have hS := four_stays _ _ _ _ _ _ _ _ hbx hS
      have hS1 := four_stays _ _ _ _ _ _ _ _ ((Below.refl _ _).alloc (Nat.le_refl _) (.cells (startsOf y).toArray 82)) hS
      have hT := starts_at y m wx 82 ⟨by omega, by omega⟩
      have hS2 : (fun w' => Below w.heap.size w w' ∧ w'.cell? ⟨w.heap.size, 0, none⟩ = some (.int .i64 (m)) ∧ w'.cell? ⟨w.heap.size, 1, none⟩ = some (.int .i64 (k)) ∧ w'.cell? ⟨w.heap.size, 2, none⟩ = some (.int .i64 (d)) ∧ w'.cell? ⟨w.heap.size, 3, none⟩ = some (.int .i64 (i)) ∧ w'.cell? ⟨wx.heap.size, m.toNat, none⟩ = some (.int .i64 (dayOf y m 1))) (wx.alloc (.cells (startsOf y).toArray 82)) := ⟨hS1.1, hS1.2.1, hS1.2.2.1, hS1.2.2.2.1, hS1.2.2.2.2, hT⟩
      clear hS1 hT hS
      have hw1 : IntKind.i64.wrap (k - 1) = k - 1 := IntWalk.i64_in _ (by omega)
      have hw2 : IntKind.i64.wrap (7 * (k - 1)) = 7 * (k - 1) := IntWalk.i64_in _ (by omega)
      have hw3 : IntKind.i64.wrap (dayOf y m 1 + 7 * (k - 1)) = dayOf y m 1 + 7 * (k - 1) := IntWalk.i64_in _ (by omega)
      have hj0 : (0 : Int) ≤ m := by omega
      have hj9 : m < (13 : Int) := by omega
      go_wp2_with fail
      go_region_held3 (fun w' => Below w.heap.size w w' ∧ w'.cell? ⟨w.heap.size, 0, none⟩ = some (.int .i64 (m)) ∧ w'.cell? ⟨w.heap.size, 1, none⟩ = some (.int .i64 (k)) ∧ w'.cell? ⟨w.heap.size, 2, none⟩ = some (.int .i64 (d)) ∧ w'.cell? ⟨w.heap.size, 3, none⟩ = some (.int .i64 (i)) ∧ w'.cell? ⟨wx.heap.size, m.toNat, none⟩ = some (.int .i64 (dayOf y m 1)))
        (first | exact five_stays _ _ _ _ _ _ _ _ _ _ _ (Below.refl _ _).drew hS2)
        (first | (go_at_call 87; refine (weekdayFrom_any _ _ _ (by omega) (by omega)).mono ?_; rintro e wy ⟨rfl, rfl⟩))
      go_wp2
      go_ret
      exact ⟨rfl, (by repeat' (first | with_reducible assumption | with_reducible exact Below.refl _ _ | with_reducible refine Below.setCell ?_ ?_ _ | with_reducible refine Below.alloc ?_ ?_ _ | with_reducible apply Below.drew | with_reducible apply Below.drewn | (simp; done) | (simp; omega)))⟩

set_option maxHeartbeats 4000000 in
theorem sRuleDay (m k d i y : Int) (w : World) :
    Calls Try.prog 81 #[(.agg #[.int .i64 (m), .int .i64 (k), .int .i64 (d), .int .i64 (i)]), .int .i64 y] w fun e w' => e = .returned (.int .i64 (ruleDay m k d i y)) ∧ Below w.heap.size w w' := by
  cases c : ruleOk m k d i y
  · rw [ruleDay_no c]
    rcases ok_no c with a | a
    · have A := Lib.hid a; clear a c
      go_enter Try.func81, Try.ntmps81
      (go_wp2_with fail; refine (sRuleValid _ _ _ _ _).mono ?_; rw [A.out]; rintro e wx ⟨rfl, hbx⟩; have hC := Below_at hbx; have hF := Below_fr hbx; have hb := Below.trans (show Below w.heap.size w _ from (by repeat' (first | with_reducible assumption | with_reducible exact Below.refl _ _ | with_reducible refine Below.setCell ?_ ?_ _ | with_reducible refine Below.alloc ?_ ?_ _ | with_reducible apply Below.drew | with_reducible apply Below.drewn | (simp; done) | (simp; omega)))) (hbx.mono (by first | omega | (simp; done) | (simp; omega))); have hz := hb.size; have hl := hbx.size; (try simp only [World.size_alloc, World.size_setCell, World.size_drew] at hl); (try have hs0 : w.heap.size < wx.heap.size := by omega); (try have hs1 : w.heap.size + 1 < wx.heap.size := by omega); clear hl)
      go_wp2
      go_ret
      exact ⟨rfl, (by repeat' (first | with_reducible assumption | with_reducible exact Below.refl _ _ | with_reducible refine Below.setCell ?_ ?_ _ | with_reducible refine Below.alloc ?_ ?_ _ | with_reducible apply Below.drew | with_reducible apply Below.drewn | (simp; done) | (simp; omega)))⟩
    · cases v : rvB m k d i
      all_goals
        have A := Lib.hid v; clear v c
        have a' : y < 1 ∨ 4000 < y := by omega
        have B := Lib.hid a'; clear a a'
        go_enter Try.func81, Try.ntmps81
        (go_wp2_with fail; refine (sRuleValid _ _ _ _ _).mono ?_; rw [A.out]; rintro e wx ⟨rfl, hbx⟩; have hC := Below_at hbx; have hF := Below_fr hbx; have hb := Below.trans (show Below w.heap.size w _ from (by repeat' (first | with_reducible assumption | with_reducible exact Below.refl _ _ | with_reducible refine Below.setCell ?_ ?_ _ | with_reducible refine Below.alloc ?_ ?_ _ | with_reducible apply Below.drew | with_reducible apply Below.drewn | (simp; done) | (simp; omega)))) (hbx.mono (by first | omega | (simp; done) | (simp; omega))); have hz := hb.size; have hl := hbx.size; (try simp only [World.size_alloc, World.size_setCell, World.size_drew] at hl); (try have hs0 : w.heap.size < wx.heap.size := by omega); (try have hs1 : w.heap.size + 1 < wx.heap.size := by omega); clear hl)
        go_wp2_with (go_at_call 51; refine (l1In_no _ _ _ _ B.out).mono ?_; rintro e wq ⟨rfl, rfl⟩)
        go_ret
        exact ⟨rfl, (by repeat' (first | with_reducible assumption | with_reducible exact Below.refl _ _ | with_reducible refine Below.setCell ?_ ?_ _ | with_reducible refine Below.alloc ?_ ?_ _ | with_reducible apply Below.drew | with_reducible apply Below.drewn | (simp; done) | (simp; omega)))⟩
  · rw [ruleDay_yes c]
    obtain ⟨v, y1, y9⟩ := ok_yes c
    obtain ⟨m1, m9, k1, k9, d1, d9, i1, i9⟩ := rv_yes v
    have A := Lib.hid v; clear v c
    obtain ⟨f1, f2, f3, f4, f5⟩ := dayOf_first (m := m) ⟨y1, y9⟩ ⟨by omega, by omega⟩
    have hD := dim_of y1 y9 (show 1 ≤ m by omega) (show m ≤ 12 by omega)
    unfold rDay rAt
    generalize num y m 1 = f at *
    generalize hl : len y m = l at *
    have F := Lib.hid f1; have D := Lib.hid hD
    clear f1 hl hD
    by_cases h : f + l ≤ f + (d - f % 7 + 7) % 7 + 7 * (k - 1)
    · rw [if_pos h]
      go_enter Try.func81, Try.ntmps81
      (go_wp2_with fail; refine (sRuleValid _ _ _ _ _).mono ?_; rw [A.out]; rintro e wx ⟨rfl, hbx⟩; have hC := Below_at hbx; have hF := Below_fr hbx; have hb := Below.trans (show Below w.heap.size w _ from (by repeat' (first | with_reducible assumption | with_reducible exact Below.refl _ _ | with_reducible refine Below.setCell ?_ ?_ _ | with_reducible refine Below.alloc ?_ ?_ _ | with_reducible apply Below.drew | with_reducible apply Below.drewn | (simp; done) | (simp; omega)))) (hbx.mono (by first | omega | (simp; done) | (simp; omega))); have hz := hb.size; have hl := hbx.size; (try simp only [World.size_alloc, World.size_setCell, World.size_drew] at hl); (try have hs0 : w.heap.size < wx.heap.size := by omega); (try have hs1 : w.heap.size + 1 < wx.heap.size := by omega); clear hl)
      go_wp2_with (first | (go_at_call 51; refine (l1In_yes _ _ _ _ (by omega) (by omega)).mono ?_; rintro e wq ⟨rfl, rfl⟩) | fail)
      (refine (sDayOf _ _ _ _).mono ?_; (rw [F.out]); rintro e wx ⟨rfl, hbx⟩; have hC := Below_at hbx; have hF := Below_fr hbx; have hb := Below.trans (show Below w.heap.size w _ from (by repeat' (first | with_reducible assumption | with_reducible exact Below.refl _ _ | with_reducible refine Below.setCell ?_ ?_ _ | with_reducible refine Below.alloc ?_ ?_ _ | with_reducible apply Below.drew | with_reducible apply Below.drewn | (simp; done) | (simp; omega)))) (hbx.mono (by first | omega | (simp; done) | (simp; omega))); have hz := hb.size; have hl := hbx.size; (try simp only [World.size_alloc, World.size_setCell, World.size_drew] at hl); (try have hs0 : w.heap.size < wx.heap.size := by omega); (try have hs1 : w.heap.size + 1 < wx.heap.size := by omega); clear hl)
      go_wp2
      refine wp_loop_rounds 2 ?_
      rw [rounds_succ]
      (go_wp2_with fail; refine (sDaysIn _ _ _).mono ?_; rw [D.out]; rintro e wx ⟨rfl, hbx⟩; have hC := Below_at hbx; have hF := Below_fr hbx; have hb := Below.trans (show Below w.heap.size w _ from (by repeat' (first | with_reducible assumption | with_reducible exact Below.refl _ _ | with_reducible refine Below.setCell ?_ ?_ _ | with_reducible refine Below.alloc ?_ ?_ _ | with_reducible apply Below.drew | with_reducible apply Below.drewn | (simp; done) | (simp; omega)))) (hbx.mono (by first | omega | (simp; done) | (simp; omega))); have hz := hb.size; have hl := hbx.size; (try simp only [World.size_alloc, World.size_setCell, World.size_drew] at hl); (try have hs0 : w.heap.size < wx.heap.size := by omega); (try have hs1 : w.heap.size + 1 < wx.heap.size := by omega); clear hl)
      go_wp2_with fail
      rw [rounds_succ]
      (go_wp2_with fail; refine (sDaysIn _ _ _).mono ?_; rw [D.out]; rintro e wx ⟨rfl, hbx⟩; have hC := Below_at hbx; have hF := Below_fr hbx; have hb := Below.trans (show Below w.heap.size w _ from (by repeat' (first | with_reducible assumption | with_reducible exact Below.refl _ _ | with_reducible refine Below.setCell ?_ ?_ _ | with_reducible refine Below.alloc ?_ ?_ _ | with_reducible apply Below.drew | with_reducible apply Below.drewn | (simp; done) | (simp; omega)))) (hbx.mono (by first | omega | (simp; done) | (simp; omega))); have hz := hb.size; have hl := hbx.size; (try simp only [World.size_alloc, World.size_setCell, World.size_drew] at hl); (try have hs0 : w.heap.size < wx.heap.size := by omega); (try have hs1 : w.heap.size + 1 < wx.heap.size := by omega); clear hl)
      go_wp2
      go_ret
      exact ⟨ret_int (by omega), (by repeat' (first | with_reducible assumption | with_reducible exact Below.refl _ _ | with_reducible refine Below.setCell ?_ ?_ _ | with_reducible refine Below.alloc ?_ ?_ _ | with_reducible apply Below.drew | with_reducible apply Below.drewn | (simp; done) | (simp; omega)))⟩
    · rw [if_neg h]
      have h' : f + (d - f % 7 + 7) % 7 + 7 * (k - 1) < f + l := by omega
      clear h
      go_enter Try.func81, Try.ntmps81
      (go_wp2_with fail; refine (sRuleValid _ _ _ _ _).mono ?_; rw [A.out]; rintro e wx ⟨rfl, hbx⟩; have hC := Below_at hbx; have hF := Below_fr hbx; have hb := Below.trans (show Below w.heap.size w _ from (by repeat' (first | with_reducible assumption | with_reducible exact Below.refl _ _ | with_reducible refine Below.setCell ?_ ?_ _ | with_reducible refine Below.alloc ?_ ?_ _ | with_reducible apply Below.drew | with_reducible apply Below.drewn | (simp; done) | (simp; omega)))) (hbx.mono (by first | omega | (simp; done) | (simp; omega))); have hz := hb.size; have hl := hbx.size; (try simp only [World.size_alloc, World.size_setCell, World.size_drew] at hl); (try have hs0 : w.heap.size < wx.heap.size := by omega); (try have hs1 : w.heap.size + 1 < wx.heap.size := by omega); clear hl)
      go_wp2_with (first | (go_at_call 51; refine (l1In_yes _ _ _ _ (by omega) (by omega)).mono ?_; rintro e wq ⟨rfl, rfl⟩) | fail)
      (refine (sDayOf _ _ _ _).mono ?_; (rw [F.out]); rintro e wx ⟨rfl, hbx⟩; have hC := Below_at hbx; have hF := Below_fr hbx; have hb := Below.trans (show Below w.heap.size w _ from (by repeat' (first | with_reducible assumption | with_reducible exact Below.refl _ _ | with_reducible refine Below.setCell ?_ ?_ _ | with_reducible refine Below.alloc ?_ ?_ _ | with_reducible apply Below.drew | with_reducible apply Below.drewn | (simp; done) | (simp; omega)))) (hbx.mono (by first | omega | (simp; done) | (simp; omega))); have hz := hb.size; have hl := hbx.size; (try simp only [World.size_alloc, World.size_setCell, World.size_drew] at hl); (try have hs0 : w.heap.size < wx.heap.size := by omega); (try have hs1 : w.heap.size + 1 < wx.heap.size := by omega); clear hl)
      go_wp2
      refine wp_loop_rounds 1 ?_
      rw [rounds_succ]
      (go_wp2_with fail; refine (sDaysIn _ _ _).mono ?_; rw [D.out]; rintro e wx ⟨rfl, hbx⟩; have hC := Below_at hbx; have hF := Below_fr hbx; have hb := Below.trans (show Below w.heap.size w _ from (by repeat' (first | with_reducible assumption | with_reducible exact Below.refl _ _ | with_reducible refine Below.setCell ?_ ?_ _ | with_reducible refine Below.alloc ?_ ?_ _ | with_reducible apply Below.drew | with_reducible apply Below.drewn | (simp; done) | (simp; omega)))) (hbx.mono (by first | omega | (simp; done) | (simp; omega))); have hz := hb.size; have hl := hbx.size; (try simp only [World.size_alloc, World.size_setCell, World.size_drew] at hl); (try have hs0 : w.heap.size < wx.heap.size := by omega); (try have hs1 : w.heap.size + 1 < wx.heap.size := by omega); clear hl)
      go_wp2
      go_ret
      exact ⟨ret_int (by omega), (by repeat' (first | with_reducible assumption | with_reducible exact Below.refl _ _ | with_reducible refine Below.setCell ?_ ?_ _ | with_reducible refine Below.alloc ?_ ?_ _ | with_reducible apply Below.drew | with_reducible apply Below.drewn | (simp; done) | (simp; omega)))⟩

theorem ruleOk_day {m k d i y : Int} (c : ruleOk m k d i y = true) : 0 ≤ rDay m k d y ∧ rDay m k d y ≤ 1460969 ∧ 0 ≤ i ∧ i ≤ 1439 := by
  have h := (rDay_is c).2.2.2.2
  obtain ⟨v, _⟩ := ok_yes c
  have r := rv_yes v
  omega

theorem iRuleMoment (m k d i y : Int) (w : World) :
    Calls Try.prog 68 #[(.agg #[.int .i64 (m), .int .i64 (k), .int .i64 (d), .int .i64 (i)]), .int .i64 y] w fun e w' => e = .returned (.int .i64 (ruleMom m k d i y)) ∧ Below w.heap.size w w' := by
  cases c : ruleOk m k d i y
  · rw [ruleMom_no c]
    have A := Lib.hid (ruleDay_no c); clear c
    go_enter Try.func68, Try.ntmps68
    (go_wp2_with fail; refine (iRuleDay _ _ _ _ _ _).mono ?_; rw [A.out]; rintro e wx ⟨rfl, hbx⟩; have hC := Below_at hbx; have hF := Below_fr hbx; have hb := Below.trans (show Below w.heap.size w _ from (by repeat' (first | with_reducible assumption | with_reducible exact Below.refl _ _ | with_reducible refine Below.setCell ?_ ?_ _ | with_reducible refine Below.alloc ?_ ?_ _ | with_reducible apply Below.drew | with_reducible apply Below.drewn | (simp; done) | (simp; omega)))) (hbx.mono (by first | omega | (simp; done) | (simp; omega))); have hz := hb.size; have hl := hbx.size; (try simp only [World.size_alloc, World.size_setCell, World.size_drew] at hl); (try have hs0 : w.heap.size < wx.heap.size := by omega); (try have hs1 : w.heap.size + 1 < wx.heap.size := by omega); clear hl)
    go_wp2
    go_ret
    exact ⟨rfl, (by repeat' (first | with_reducible assumption | with_reducible exact Below.refl _ _ | with_reducible refine Below.setCell ?_ ?_ _ | with_reducible refine Below.alloc ?_ ?_ _ | with_reducible apply Below.drew | with_reducible apply Below.drewn | (simp; done) | (simp; omega)))⟩
  · rw [ruleMom_yes c]
    obtain ⟨r1, r2, i1, i9⟩ := ruleOk_day c
    have A := Lib.hid (ruleDay_yes c); clear c
    generalize rDay m k d y = n at *
    go_enter Try.func68, Try.ntmps68
    (go_wp2_with fail; refine (iRuleDay _ _ _ _ _ _).mono ?_; rw [A.out]; rintro e wx ⟨rfl, hbx⟩; have hC := Below_at hbx; have hF := Below_fr hbx; have hb := Below.trans (show Below w.heap.size w _ from (by repeat' (first | with_reducible assumption | with_reducible exact Below.refl _ _ | with_reducible refine Below.setCell ?_ ?_ _ | with_reducible refine Below.alloc ?_ ?_ _ | with_reducible apply Below.drew | with_reducible apply Below.drewn | (simp; done) | (simp; omega)))) (hbx.mono (by first | omega | (simp; done) | (simp; omega))); have hz := hb.size; have hl := hbx.size; (try simp only [World.size_alloc, World.size_setCell, World.size_drew] at hl); (try have hs0 : w.heap.size < wx.heap.size := by omega); (try have hs1 : w.heap.size + 1 < wx.heap.size := by omega); clear hl)
    go_wp2
    go_ret
    exact ⟨rfl, (by repeat' (first | with_reducible assumption | with_reducible exact Below.refl _ _ | with_reducible refine Below.setCell ?_ ?_ _ | with_reducible refine Below.alloc ?_ ?_ _ | with_reducible apply Below.drew | with_reducible apply Below.drewn | (simp; done) | (simp; omega)))⟩

theorem sRuleMoment (m k d i y : Int) (w : World) :
    Calls Try.prog 72 #[(.agg #[.int .i64 (m), .int .i64 (k), .int .i64 (d), .int .i64 (i)]), .int .i64 y] w fun e w' => e = .returned (.int .i64 (ruleMom m k d i y)) ∧ Below w.heap.size w w' := by
  cases c : ruleOk m k d i y
  · rw [ruleMom_no c]
    have A := Lib.hid (ruleDay_no c); clear c
    go_enter Try.func72, Try.ntmps72
    (go_wp2_with fail; refine (sRuleDay _ _ _ _ _ _).mono ?_; rw [A.out]; rintro e wx ⟨rfl, hbx⟩; have hC := Below_at hbx; have hF := Below_fr hbx; have hb := Below.trans (show Below w.heap.size w _ from (by repeat' (first | with_reducible assumption | with_reducible exact Below.refl _ _ | with_reducible refine Below.setCell ?_ ?_ _ | with_reducible refine Below.alloc ?_ ?_ _ | with_reducible apply Below.drew | with_reducible apply Below.drewn | (simp; done) | (simp; omega)))) (hbx.mono (by first | omega | (simp; done) | (simp; omega))); have hz := hb.size; have hl := hbx.size; (try simp only [World.size_alloc, World.size_setCell, World.size_drew] at hl); (try have hs0 : w.heap.size < wx.heap.size := by omega); (try have hs1 : w.heap.size + 1 < wx.heap.size := by omega); clear hl)
    go_wp2
    go_ret
    exact ⟨rfl, (by repeat' (first | with_reducible assumption | with_reducible exact Below.refl _ _ | with_reducible refine Below.setCell ?_ ?_ _ | with_reducible refine Below.alloc ?_ ?_ _ | with_reducible apply Below.drew | with_reducible apply Below.drewn | (simp; done) | (simp; omega)))⟩
  · rw [ruleMom_yes c]
    obtain ⟨r1, r2, i1, i9⟩ := ruleOk_day c
    have A := Lib.hid (ruleDay_yes c); clear c
    generalize rDay m k d y = n at *
    go_enter Try.func72, Try.ntmps72
    (go_wp2_with fail; refine (sRuleDay _ _ _ _ _ _).mono ?_; rw [A.out]; rintro e wx ⟨rfl, hbx⟩; have hC := Below_at hbx; have hF := Below_fr hbx; have hb := Below.trans (show Below w.heap.size w _ from (by repeat' (first | with_reducible assumption | with_reducible exact Below.refl _ _ | with_reducible refine Below.setCell ?_ ?_ _ | with_reducible refine Below.alloc ?_ ?_ _ | with_reducible apply Below.drew | with_reducible apply Below.drewn | (simp; done) | (simp; omega)))) (hbx.mono (by first | omega | (simp; done) | (simp; omega))); have hz := hb.size; have hl := hbx.size; (try simp only [World.size_alloc, World.size_setCell, World.size_drew] at hl); (try have hs0 : w.heap.size < wx.heap.size := by omega); (try have hs1 : w.heap.size + 1 < wx.heap.size := by omega); clear hl)
    go_wp2
    go_ret
    exact ⟨rfl, (by repeat' (first | with_reducible assumption | with_reducible exact Below.refl _ _ | with_reducible refine Below.setCell ?_ ?_ _ | with_reducible refine Below.alloc ?_ ?_ _ | with_reducible apply Below.drew | with_reducible apply Below.drewn | (simp; done) | (simp; omega)))⟩
end Go.Proofs.Ytlmmianaplahaaa
