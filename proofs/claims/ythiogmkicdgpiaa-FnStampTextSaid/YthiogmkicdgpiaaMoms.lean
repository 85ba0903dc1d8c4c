/-
  CONTRACTS OF CHAPTER 2: what the functions on stamps and moments of the program and of the model return.
-/
import Derived.Test.YthiogmkicdgpiaaMom
import Derived.Test.YthiogmkicdgpiaaKeep
import Derived.Test.YthiogmkicdgpiaaDates
import Derived.Deep.RegionHeld3
set_option linter.unusedVariables false
set_option linter.unusedSimpArgs false
namespace Go.Proofs.Ythiogmkicdgpiaa
open Go.ChangeShapes Go.WideShapes Go.ChangeAt Go.RowKit Cal

theorem iDay (y m d h i s : Int) (w : World) :
    Calls Try.prog 41 #[(.agg #[.int .i64 (y), .int .i64 (m), .int .i64 (d), .int .i64 (h), .int .i64 (i), .int .i64 (s)])] w fun e w' => e = .returned (.int .i64 (dayOf y m d)) ∧ Below w.heap.size w w' := by
  go_enter Try.func41, Try.ntmps41
  (go_wp2_with fail; refine (iDayOf _ _ _ _).mono ?_; rintro e wx ⟨rfl, rfl⟩)
  go_wp2
  go_ret
  exact ⟨rfl, (Below.refl _ _).alloc (Nat.le_refl _) _⟩

theorem iHasTime (y m d h i s : Int) (w : World) :
    Calls Try.prog 42 #[(.agg #[.int .i64 (y), .int .i64 (m), .int .i64 (d), .int .i64 (h), .int .i64 (i), .int .i64 (s)])] w fun e w' => e = .returned (.bool (tmB h i s)) ∧ Below w.heap.size w w' := by
  go_enter Try.func42, Try.ntmps42
  go_wp2
  all_goals
    go_ret
    exact ⟨ret_bool (by unfold tmB; rw [Bool.eq_iff_iff]; simp; omega), (Below.refl _ _).alloc (Nat.le_refl _) _⟩

theorem iStampValid (y m d h i s : Int) (w : World) :
    Calls Try.prog 29 #[(.agg #[.int .i64 (y), .int .i64 (m), .int .i64 (d), .int .i64 (h), .int .i64 (i), .int .i64 (s)])] w fun e w' => e = .returned (.bool (svB y m d h i s)) ∧ Below w.heap.size w w' := by
  have hS := made (W := w) (.int .i64 y) (.int .i64 m) (.int .i64 d) (.int .i64 h) (.int .i64 i) (.int .i64 s) 24
  by_cases a : 0 ≤ dayOf y m d
  · have e : Hid (svB y m d h i s = tmB h i s) := sv_tm a
    go_enter Try.func29, Try.ntmps29
    go_wp2_with fail
    refine (iDay _ _ _ _ _ _ _).mono ?_
    rintro e w1 ⟨rfl, hb⟩
    have hC := Below_at hb
    have hS := kept hb hS
    go_wp2_with fail
    refine (iHasTime _ _ _ _ _ _ _).mono ?_
    rintro e w2 ⟨rfl, hb2⟩
    go_wp2
    go_ret
    exact ⟨ret_bool e.out.symm, (kept hb2 hS).1⟩
  · have e : Hid (svB y m d h i s = false) := sv_no fun c => a c.1
    have a' : decide (0 ≤ dayOf y m d) = false := decide_eq_false a
    go_enter Try.func29, Try.ntmps29
    go_wp2_with fail
    refine (iDay _ _ _ _ _ _ _).mono ?_
    rintro e w1 ⟨rfl, hb⟩
    go_wp2
    go_ret
    exact ⟨ret_bool e.out.symm, (kept hb hS).1⟩

theorem sStampValid (y m d h i s : Int) (w : World) :
    Calls Try.prog 14 #[(.agg #[.int .i64 (y), .int .i64 (m), .int .i64 (d), .int .i64 (h), .int .i64 (i), .int .i64 (s)])] w fun e w' => e = .returned (.bool (svB y m d h i s)) ∧ Below w.heap.size w w' := by
  have hS := made (W := w) (.int .i64 y) (.int .i64 m) (.int .i64 d) (.int .i64 h) (.int .i64 i) (.int .i64 s) 24
  go_enter Try.func14, Try.ntmps14
  go_wp2_with fail
  refine (sDayOf _ _ _ _).mono ?_
  rintro e w1 ⟨rfl, hb⟩
  have hC := Below_at hb
  have hS := (kept hb hS).1
  go_wp2
  all_goals
    go_ret
    exact ⟨ret_bool (by unfold svB; rw [Bool.eq_iff_iff]; simp; omega), hS⟩

theorem ret_st {a b c d e f a' b' c' d' e' f' : Int} (h1 : a = a') (h2 : b = b') (h3 : c = c') (h4 : d = d') (h5 : e = e') (h6 : f = f') : Ending.returned (.agg #[.int .i64 (a), .int .i64 (b), .int .i64 (c), .int .i64 (d), .int .i64 (e), .int .i64 (f)]) = .returned (.agg #[.int .i64 (a'), .int .i64 (b'), .int .i64 (c'), .int .i64 (d'), .int .i64 (e'), .int .i64 (f')]) := by rw [h1, h2, h3, h4, h5, h6]

theorem sStampOf (n : Int) (w : World) :
    Calls Try.prog 39 #[.int .i64 n] w fun e w' => e = .returned (.agg #[.int .i64 (tY n), .int .i64 (tO n), .int .i64 (tD n), .int .i64 (tH n), .int .i64 (tI n), .int .i64 (tS n)]) ∧ Below w.heap.size w w' := by
  by_cases c : 0 ≤ n ∧ n ≤ 126227807999
  · obtain ⟨h0, h9⟩ := c
    obtain ⟨a1, a2, a3⟩ := stamp_hms h0 h9
    have A1 := Lib.hid a1; have A2 := Lib.hid a2; have A3 := Lib.hid a3; clear a1 a2 a3
    go_enter Try.func39, Try.ntmps39
    go_wp2_with (go_at_call 33; refine (l1In_yes _ _ _ _ (by omega) (by omega)).mono ?_; rintro e wx ⟨rfl, rfl⟩)
    refine (sDateOf _ _).mono ?_
    rintro e w1 ⟨rfl, hb⟩
    have hC := Below_at hb; have hF := Below_fr hb
    have hb' := ((Below.refl w.heap.size w).alloc (Nat.le_refl _) _).trans (hb.mono (by simp))
    go_wp2
    all_goals
      ((try simp only [Exit.inBlock, Exit.then]); refine bodyPost_ret (v := (.agg #[.int .i64 (_), .int .i64 (_), .int .i64 (_), .int .i64 (_), .int .i64 (_), .int .i64 (_)])) (by simp [results, Try.results39, go_sem, *]; first | exact ⟨rfl, rfl, rfl, rfl, rfl, rfl⟩ | rfl) rfl ?_)
      exact ⟨ret_st rfl rfl rfl (by rw [A1.out]) (by rw [A2.out]; omega) (by rw [A3.out]), (by repeat' (first | with_reducible assumption | with_reducible exact Below.refl _ _ | with_reducible refine Below.setCell ?_ ?_ _ | with_reducible refine Below.alloc ?_ ?_ _ | with_reducible apply Below.drew | with_reducible apply Below.drewn | (simp; done) | (simp; omega)))⟩
  · obtain ⟨e1, e2, e3, e4, e5, e6⟩ := stamp_no c
    rw [e1, e2, e3, e4, e5, e6]
    clear e1 e2 e3 e4 e5 e6
    have k : n < 0 ∨ 126227807999 < n := by omega
    have K := Lib.hid k; clear k c
    go_enter Try.func39, Try.ntmps39
    go_wp2_with (go_at_call 33; refine (l1In_no _ _ _ _ K.out).mono ?_; rintro e wx ⟨rfl, rfl⟩)
    ((try simp only [Exit.inBlock, Exit.then]); refine bodyPost_ret (v := (.agg #[.int .i64 (_), .int .i64 (_), .int .i64 (_), .int .i64 (_), .int .i64 (_), .int .i64 (_)])) (by simp [results, Try.results39, go_sem, *]; first | exact ⟨rfl, rfl, rfl, rfl, rfl, rfl⟩ | rfl) rfl ?_)
    exact ⟨rfl, (by repeat' (first | with_reducible assumption | with_reducible exact Below.refl _ _ | with_reducible refine Below.setCell ?_ ?_ _ | with_reducible refine Below.alloc ?_ ?_ _ | with_reducible apply Below.drew | with_reducible apply Below.drewn | (simp; done) | (simp; omega)))⟩
end Go.Proofs.Ythiogmkicdgpiaa
