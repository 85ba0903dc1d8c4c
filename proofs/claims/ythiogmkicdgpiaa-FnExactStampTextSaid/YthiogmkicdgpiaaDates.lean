/-
  CONTRACTS OF CHAPTER 1, going on: DayOf, DateOf, WeekdayOf.
-/
import Derived.Test.YthiogmkicdgpiaaDays
import Derived.WalkKit
import Derived.ProofKit
import Derived.Outline
import Derived.Lib.Hide
set_option linter.unusedVariables false
set_option linter.unusedSimpArgs false
namespace Go.Proofs.Ythiogmkicdgpiaa
open Go.ChangeShapes Go.WideShapes Go.ChangeAt Go.RowKit Cal

theorem iDayOf (y m d : Int) (w : World) :
    Calls Try.prog 49 #[.int .i64 y, .int .i64 m, .int .i64 d] w fun e w' => e = .returned (.int .i64 (dayOf y m d)) ∧ w = w' := by
  by_cases h : isDate y m d
  · rw [dayOf_yes h]
    have h0 := h
    obtain ⟨h1, h2, h3, h4, h5, h6⟩ := h0
    have hd := dim_of h1 h2 h3 h4
    have hb := len_bd y m
    rw [← hd] at h6 hb
    clear hd
    generalize hD : dim y m = D at *
    have HD := Lib.hid hD; clear hD
    by_cases c : m < 3
    · have E := Lib.hid (march_low h1 h3 c d)
      have H := Lib.hid h; clear h
      go_enter Try.func49, Try.ntmps49
      go_wp2_with (first | (go_at_call 34; refine (iDaysIn _ _ _).mono ?_; rintro e w' ⟨rfl, rfl⟩; rw [HD.out]) | go_in)
      go_ret
      exact ⟨ret_int (by have := E.out; unfold mby mcum at this; omega), rfl⟩
    · have E := Lib.hid (march_high h1 (by omega) h4 d)
      have H := Lib.hid h; clear h
      go_enter Try.func49, Try.ntmps49
      go_wp2_with (first | (go_at_call 34; refine (iDaysIn _ _ _).mono ?_; rintro e w' ⟨rfl, rfl⟩; rw [HD.out]) | go_in)
      go_ret
      exact ⟨ret_int (by have := E.out; unfold mby mcum at this; omega), rfl⟩
  · rw [dayOf_no h]
    by_cases a : d < 1
    · clear h
      go_enter Try.func49, Try.ntmps49
      go_wp2
      go_ret
      exact ⟨rfl, rfl⟩
    · have b : dim y m < d := by
        by_cases c : 1 ≤ y ∧ y ≤ 4000 ∧ 1 ≤ m ∧ m ≤ 12
        · have := dim_of c.1 c.2.1 c.2.2.1 c.2.2.2
          by_cases k : d ≤ len y m
          · exact absurd ⟨c.1, c.2.1, c.2.2.1, c.2.2.2, by omega, k⟩ h
          · omega
        · rw [dim_no c]; omega
      clear h
      have hb := dim_bd y m
      generalize hD : dim y m = D at *
      have HD := Lib.hid hD; clear hD
      go_enter Try.func49, Try.ntmps49
      go_wp2_with (first | (go_at_call 34; refine (iDaysIn _ _ _).mono ?_; rintro e w' ⟨rfl, rfl⟩; rw [HD.out]) | go_in)
      go_ret
      exact ⟨rfl, rfl⟩

theorem sBefore (y : Int) (w : World) (h : 1 ≤ y ∧ y ≤ 100000) :
    Calls Try.prog 44 #[.int .i64 y] w fun e w' => e = .returned (.int .i64 (before y)) ∧ w = w' := by
  go_enter Try.func44, Try.ntmps44
  go_wp2
  go_ret
  exact ⟨ret_int (by unfold before; omega), rfl⟩

theorem dayOf_false {y m d : Int} (h : ¬ isDate y m d) (a : 1 ≤ d) : dim y m < d := by
  by_cases c : 1 ≤ y ∧ y ≤ 4000 ∧ 1 ≤ m ∧ m ≤ 12
  · have := dim_of c.1 c.2.1 c.2.2.1 c.2.2.2
    by_cases k : d ≤ len y m
    · exact absurd ⟨c.1, c.2.1, c.2.2.1, c.2.2.2, by omega, k⟩ h
    · omega
  · rw [dim_no c]; omega

set_option maxHeartbeats 1000000 in
theorem sDayOf (y m d : Int) (w : World) :
    Calls Try.prog 32 #[.int .i64 y, .int .i64 m, .int .i64 d] w fun e w' => e = .returned (.int .i64 (dayOf y m d)) ∧ Below w.heap.size w w' := by
  by_cases h : isDate y m d
  · rw [dayOf_yes h]
    have h0 := h
    obtain ⟨h1, h2, h3, h4, h5, h6⟩ := h0
    have hd := dim_of h1 h2 h3 h4
    have hb := len_bd y m
    have hB := before_bd h1 (by omega)
    rw [← hd] at h6 hb
    clear hd
    have H := Lib.hid h; clear h
    generalize hD : dim y m = D at *
    have HD := Lib.hid hD; clear hD
    have HB : Hid (∀ k, before k = before k) := fun _ => rfl
    go_enter Try.func32, Try.ntmps32
    go_wp2_with (first | (go_at_call 43; refine (sDaysIn _ _ _).mono ?_; rw [HD.out]; rintro e w1 ⟨rfl, hb1⟩) | (go_at_call 44; refine (sBefore _ _ ⟨by omega, by omega⟩).mono ?_; rintro e w' ⟨rfl, rfl⟩) | go_in)
    go_loopw [7, 8] (fun n k wr => ∃ j : Int, 1 ≤ j ∧ j ≤ m ∧ k = .int .i64 j ∧ n = .int .i64 (before y + cum y j) ∧ Below w.heap.size w wr) (fun _ k _ => (m - intOf k).toNat)
    case atStart => exact ⟨1, by omega, by omega, rfl, by simp [cum], by assumption⟩
    case round =>
      obtain ⟨j, hj1, hj2, rfl, rfl, hw⟩ := hrel
      have hc := cum_bd y j hj1 (by omega)
      have hl := lp01 y
      by_cases hlt : j < m
      · have hs := cum_succ y j hj1 (by omega)
        have hk := dim_of h1 h2 hj1 (show j ≤ 12 by omega)
        have hkb := len_bd y j
        rw [← hk] at hs hkb
        have HS := Lib.hid hs; clear hs hk
        go_wp2_with (first | (go_at_call 43; refine (sDaysIn _ _ _).mono ?_; rintro e w2 ⟨rfl, hb2⟩) | go_in)
        go_roundw
        case rel => exact ⟨j + 1, by omega, by omega, by go_num, by rw [HS.out]; go_num, hw.trans (hb2.mono hw.size)⟩
        case measure => simp [intOf]; omega
      · obtain rfl : j = m := by omega
        go_wp2
        go_ret
        exact ⟨ret_int (by unfold num; omega), hw⟩
  · rw [dayOf_no h]
    have hb := dim_bd y m
    by_cases a : d < 1
    · clear h
      have a' : decide (1 ≤ d) = false := by simpa using a
      go_enter Try.func32, Try.ntmps32
      go_wp2_with (first | (go_at_call 43; refine (sDaysIn _ _ _).mono ?_; rintro e w1 ⟨rfl, hb1⟩) | go_in)
      go_ret
      exact ⟨rfl, hb1⟩
    · have b := dayOf_false h (by omega)
      clear h
      generalize hD : dim y m = D at *
      have HD := Lib.hid hD; clear hD
      have b' : decide (d ≤ D) = false := by simpa using b
      go_enter Try.func32, Try.ntmps32
      go_wp2_with (first | (go_at_call 43; refine (sDaysIn _ _ _).mono ?_; rw [HD.out]; rintro e w1 ⟨rfl, hb1⟩) | go_in)
      go_ret
      exact ⟨rfl, hb1⟩

theorem ret_tuple3 {a b c a' b' c' : Int} (h1 : a = a') (h2 : b = b') (h3 : c = c') : Ending.returned (.tuple #[.int .i64 a, .int .i64 b, .int .i64 c]) = .returned (.tuple #[.int .i64 a', .int .i64 b', .int .i64 c']) := by rw [h1, h2, h3]


theorem mby_succ (y : Int) : mby (y + 1) = mby y + 365 + lp (y + 1) := by unfold mby lp; split <;> omega

theorem l1In_yes (n lo hi : Int) (w : World) (h1 : lo ≤ n) (h2 : n ≤ hi) :
    Calls Try.prog 33 #[.int .i64 n, .int .i64 lo, .int .i64 hi] w fun e w' => e = .returned (.bool true) ∧ w = w' := by
  go_enter Try.func33, Try.ntmps33
  go_wp2
  go_ret
  exact ⟨rfl, rfl⟩
theorem l1In_no (n lo hi : Int) (w : World) (h : n < lo ∨ hi < n) :
    Calls Try.prog 33 #[.int .i64 n, .int .i64 lo, .int .i64 hi] w fun e w' => e = .returned (.bool false) ∧ w = w' := by
  by_cases h1 : n < lo
  · have h1' : decide (lo ≤ n) = false := by simpa using h1
    clear h
    go_enter Try.func33, Try.ntmps33
    go_wp2
    go_ret
    exact ⟨rfl, rfl⟩
  · have h2 : hi < n := by omega
    have h2' : decide (n ≤ hi) = false := by simpa using h2
    have h1' : lo ≤ n := by omega
    clear h h1
    go_enter Try.func33, Try.ntmps33
    go_wp2
    go_ret
    exact ⟨rfl, rfl⟩

theorem guess_low {n : Int} (h0 : 0 ≤ n) (h9 : n ≤ 1460969) : before (n / 366 + 1) ≤ n := by unfold before; omega

set_option maxHeartbeats 1000000 in
theorem sDateOf (n : Int) (w : World) :
    Calls Try.prog 48 #[.int .i64 n] w fun e w' => e = .returned (.tuple #[.int .i64 (dY n), .int .i64 (dM n), .int .i64 (dD n)]) ∧ Below w.heap.size w w' := by
  by_cases h : 0 ≤ n ∧ n ≤ 1460969
  · obtain ⟨h0, h9⟩ := h
    have g0 := guess_low h0 h9
    have D : Hid (∀ y m d, isDate y m d → num y m d = n → dY n = y ∧ dM n = m ∧ dD n = d) := fun y m d h e => date_of h e
    go_enter Try.func48, Try.ntmps48
    go_wp2_with (first | (go_at_call 33; refine (l1In_yes _ _ _ _ (by omega) (by omega)).mono ?_; rintro e w' ⟨rfl, rfl⟩) | go_in)
    go_loop [5] (fun t => ∃ y : Int, 1 ≤ y ∧ y ≤ 4000 ∧ before y ≤ n ∧ t = .int .i64 y) (fun t => (4000 - intOf t).toNat)
    case atStart => exact ⟨_, by omega, by omega, g0, rfl⟩
    case round =>
      obtain ⟨y, hy1, hy2, hy3, rfl⟩ := hrel
      have hb1 := before_bd hy1 (by omega)
      by_cases hc : y < 4000 ∧ before (y + 1) ≤ n
      · obtain ⟨hlt, hd⟩ := hc
        go_wp2_with (first | (go_at_call 44; refine (sBefore _ _ ⟨by omega, by omega⟩).mono ?_; rintro e w' ⟨rfl, rfl⟩) | go_in)
        go_round
        case rel => exact ⟨y + 1, by omega, by omega, hd, rfl⟩
        case measure => simp [intOf]; omega
      · have hz : n < before (y + 1) := by
          by_cases e : y = 4000
          · have e9 : before 4001 = 1460970 := rfl
            rw [e]; show n < before 4001; omega
          · omega
        have hs := before_succ hy1
        have hl := lp01 y
        have hz' : decide (before (y + 1) ≤ n) = false := by simpa using hz
        have HS := Lib.hid hs; clear hs hc g0
        rcases Bool.eq_false_or_eq_true (decide (y < 4000)) with hlt | hlt
        all_goals
          go_wp2_with (first | (go_at_call 44; refine (sBefore _ _ ⟨by omega, by omega⟩).mono ?_; rintro e w' ⟨rfl, rfl⟩) | go_in)
          go_loopw [6, 7] (fun r k wr => ∃ m : Int, 1 ≤ m ∧ m ≤ 12 ∧ k = .int .i64 m ∧ 0 ≤ n - before y - cum y m ∧ r = .int .i64 (n - before y - cum y m) ∧ Below w.heap.size w wr) (fun _ k _ => (12 - intOf k).toNat)
          case atStart => exact ⟨1, by omega, by omega, rfl, by simp [cum]; omega, by simp [cum], Below.refl _ _⟩
          case round =>
            obtain ⟨m, hm1, hm2, rfl, hr, rfl, hw⟩ := hrel
            have hcb := cum_bd y m hm1 (by omega)
            have hlb := len_bd y m
            have hcs := cum_succ y m hm1 hm2
            have hD := dim_of hy1 hy2 hm1 hm2
            have h13 := cum13 y
            by_cases hc : len y m ≤ n - before y - cum y m
            · have hm : m < 12 := by
                by_cases e : m = 12
                · subst e
                  have := HS.out
                  rw [show (12 : Int) + 1 = 13 from rfl] at hcs
                  omega
                · omega
              rw [← hD] at hc hlb hcs
              have HC := Lib.hid hcs; have H13 := Lib.hid h13; have HD := Lib.hid hD
              clear hcs h13 hD
              go_wp2_with (first | (go_at_call 43; refine (sDaysIn _ _ _).mono ?_; rintro e w1 ⟨rfl, hb⟩; have hw := hw.trans (hb.mono hw.size); clear hb) | go_in)
              go_roundw
              case rel => exact ⟨m + 1, by omega, by omega, rfl, by rw [HC.out]; omega, by rw [HC.out]; go_num, hw⟩
              case measure => simp [intOf]; omega
            · have hd : isDate y m (n - before y - cum y m + 1) := ⟨hy1, hy2, hm1, hm2, by omega, by omega⟩
              have F := Lib.hid (D.out _ _ _ hd (by unfold num; omega))
              have hc' : decide (dim y m ≤ n - before y - cum y m) = false := by rw [hD]; simp; omega
              rw [← hD] at hlb
              have HC := Lib.hid hcs; have H13 := Lib.hid h13; have HD := Lib.hid hD; have Hd := Lib.hid hd
              clear hcs h13 hD hd hc
              go_wp2_with (first | (go_at_call 43; refine (sDaysIn _ _ _).mono ?_; rintro e w1 ⟨rfl, hb⟩; have hw := hw.trans (hb.mono hw.size); clear hb) | go_in)
              go_ret3
              exact ⟨ret_tuple3 F.out.1.symm F.out.2.1.symm F.out.2.2.symm, hw⟩
  · have hz := date_no h
    rw [hz.1, hz.2.1, hz.2.2]
    clear hz
    by_cases a : n < 0
    · clear h
      go_enter Try.func48, Try.ntmps48
      go_wp2
      go_ret3
      exact ⟨rfl, Below.refl _ _⟩
    · have b : 1460969 < n := by omega
      have b' : decide (n ≤ 1460969) = false := by simpa using b
      clear h
      go_enter Try.func48, Try.ntmps48
      go_wp2
      go_ret3
      exact ⟨rfl, Below.refl _ _⟩


end Go.Proofs.Ythiogmkicdgpiaa
