/-
  CONTRACTS OF CHAPTER 2: what the functions on stamps and moments of the program and of the model return.
-/
import Derived.Test.YtlmmianaplahaaaMom
import Derived.Test.YtlmmianaplahaaaKeep
import Derived.Test.YtlmmianaplahaaaDates
import Derived.Deep.RegionHeld3
set_option linter.unusedVariables false
set_option linter.unusedSimpArgs false
namespace Go.Proofs.Ytlmmianaplahaaa
open Go.ChangeShapes Go.WideShapes Go.ChangeAt Go.RowKit Cal

theorem sStampValid (y m d h i s : Int) (w : World) :
    Calls Try.prog 82 #[(.agg #[.int .i64 (y), .int .i64 (m), .int .i64 (d), .int .i64 (h), .int .i64 (i), .int .i64 (s)])] w fun e w' => e = .returned (.bool (svB y m d h i s)) ∧ Below w.heap.size w w' := by
  have hS := made (W := w) (.int .i64 y) (.int .i64 m) (.int .i64 d) (.int .i64 h) (.int .i64 i) (.int .i64 s) 56
  go_enter Try.func82, Try.ntmps82
  go_wp2_with fail
  refine (sDayOf _ _ _ _).mono ?_
  rintro e w1 ⟨rfl, hb⟩
  have hC := Below_at hb
  have hS := (kept hb hS).1
  go_wp2
  all_goals
    go_ret
    exact ⟨ret_bool (by unfold svB; rw [Bool.eq_iff_iff]; simp; omega), hS⟩

set_option maxHeartbeats 1000000 in
theorem sMomentOf (y m d h i s : Int) (w : World) :
    Calls Try.prog 75 #[(.agg #[.int .i64 (y), .int .i64 (m), .int .i64 (d), .int .i64 (h), .int .i64 (i), .int .i64 (s)])] w fun e w' => e = .returned (.int .i64 (mom y m d h i s)) ∧ Below w.heap.size w w' := by
  have hS := made (W := w) (.int .i64 y) (.int .i64 m) (.int .i64 d) (.int .i64 h) (.int .i64 i) (.int .i64 s) 56
  cases c : svB y m d h i s
  · rw [mom_no c]
    have C := Lib.hid c; clear c
    go_enter Try.func75, Try.ntmps75
    go_wp2_with fail
    refine (sStampValid _ _ _ _ _ _ _).mono ?_
    rw [C.out]
    rintro e w1 ⟨rfl, hb⟩
    go_wp2
    go_ret
    exact ⟨rfl, (kept hb hS).1⟩
  · rw [mom_yes c]
    obtain ⟨v0, v1, v2, v3, v4, v5, v6⟩ := sv_yes c
    have v9 := (dayOf_bd y m d).2
    have C := Lib.hid c; clear c
    go_enter Try.func75, Try.ntmps75
    go_wp2_with fail
    refine (sStampValid _ _ _ _ _ _ _).mono ?_
    rw [C.out]
    rintro e w1 ⟨rfl, hb⟩
    have hS := kept hb hS
    go_wp2_with fail
    go_region_held3 (fun w' => Below w.heap.size w w' ∧ w.heap.size < w'.heap.size ∧ w'.cell? ⟨w.heap.size, 0, none⟩ = some (.int .i64 (y)) ∧ w'.cell? ⟨w.heap.size, 1, none⟩ = some (.int .i64 (m)) ∧ w'.cell? ⟨w.heap.size, 2, none⟩ = some (.int .i64 (d)) ∧ w'.cell? ⟨w.heap.size, 3, none⟩ = some (.int .i64 (h)) ∧ w'.cell? ⟨w.heap.size, 4, none⟩ = some (.int .i64 (i)) ∧ w'.cell? ⟨w.heap.size, 5, none⟩ = some (.int .i64 (s)))
      (first | exact kept (Below.refl _ _).drew hS | exact kept hb2 (by assumption))
      (first | (go_at_call 83; refine (sDayOf _ _ _ _).mono ?_; rintro e w2 ⟨rfl, hb2⟩))
    all_goals go_wp2
    all_goals
      go_ret
      exact ⟨ret_int (by simp only [IntKind.wrap_i64]; omega), (kept hb2 (kept (Below.refl _ _).drew hS)).1⟩

theorem ret_st {a b c d e f a' b' c' d' e' f' : Int} (h1 : a = a') (h2 : b = b') (h3 : c = c') (h4 : d = d') (h5 : e = e') (h6 : f = f') : Ending.returned (.agg #[.int .i64 (a), .int .i64 (b), .int .i64 (c), .int .i64 (d), .int .i64 (e), .int .i64 (f)]) = .returned (.agg #[.int .i64 (a'), .int .i64 (b'), .int .i64 (c'), .int .i64 (d'), .int .i64 (e'), .int .i64 (f')]) := by rw [h1, h2, h3, h4, h5, h6]

theorem iStampOf (n : Int) (w : World) :
    Calls Try.prog 54 #[.int .i64 n] w fun e w' => e = .returned (.agg #[.int .i64 (tY n), .int .i64 (tO n), .int .i64 (tD n), .int .i64 (tH n), .int .i64 (tI n), .int .i64 (tS n)]) ∧ Below w.heap.size w w' := by
  by_cases c : 0 ≤ n ∧ n ≤ 126227807999
  · obtain ⟨h0, h9⟩ := c
    obtain ⟨a1, a2, a3⟩ := stamp_hms h0 h9
    have A1 := Lib.hid a1; have A2 := Lib.hid a2; have A3 := Lib.hid a3; clear a1 a2 a3
    go_enter Try.func54, Try.ntmps54
    go_wp2_with fail
    refine (iDateOf _ _).mono ?_
    rintro e w1 ⟨rfl, rfl⟩
    go_wp2
    all_goals
      ((try simp only [Exit.inBlock, Exit.then]); refine bodyPost_ret (v := (.agg #[.int .i64 (_), .int .i64 (_), .int .i64 (_), .int .i64 (_), .int .i64 (_), .int .i64 (_)])) (by simp [results, Try.results54, go_sem, *]; first | exact ⟨rfl, rfl, rfl, rfl, rfl, rfl⟩ | rfl) rfl ?_)
      exact ⟨ret_st rfl rfl rfl (by rw [A1.out]) (by rw [A2.out]) (by rw [A3.out]), (by repeat' (first | with_reducible assumption | with_reducible exact Below.refl _ _ | with_reducible refine Below.setCell ?_ ?_ _ | with_reducible refine Below.alloc ?_ ?_ _ | with_reducible apply Below.drew | with_reducible apply Below.drewn | (simp; done) | (simp; omega)))⟩
  · obtain ⟨e1, e2, e3, e4, e5, e6⟩ := stamp_no c
    rw [e1, e2, e3, e4, e5, e6]
    clear e1 e2 e3 e4 e5 e6
    by_cases a : n < 0
    · clear c
      go_enter Try.func54, Try.ntmps54
      go_wp2
      ((try simp only [Exit.inBlock, Exit.then]); refine bodyPost_ret (v := (.agg #[.int .i64 (_), .int .i64 (_), .int .i64 (_), .int .i64 (_), .int .i64 (_), .int .i64 (_)])) (by simp [results, Try.results54, go_sem, *]; first | exact ⟨rfl, rfl, rfl, rfl, rfl, rfl⟩ | rfl) rfl ?_)
      exact ⟨rfl, (by repeat' (first | with_reducible assumption | with_reducible exact Below.refl _ _ | with_reducible refine Below.setCell ?_ ?_ _ | with_reducible refine Below.alloc ?_ ?_ _ | with_reducible apply Below.drew | with_reducible apply Below.drewn | (simp; done) | (simp; omega)))⟩
    · have b : 126227807999 < n := by omega
      clear c
      go_enter Try.func54, Try.ntmps54
      go_wp2
      ((try simp only [Exit.inBlock, Exit.then]); refine bodyPost_ret (v := (.agg #[.int .i64 (_), .int .i64 (_), .int .i64 (_), .int .i64 (_), .int .i64 (_), .int .i64 (_)])) (by simp [results, Try.results54, go_sem, *]; first | exact ⟨rfl, rfl, rfl, rfl, rfl, rfl⟩ | rfl) rfl ?_)
      exact ⟨rfl, (by repeat' (first | with_reducible assumption | with_reducible exact Below.refl _ _ | with_reducible refine Below.setCell ?_ ?_ _ | with_reducible refine Below.alloc ?_ ?_ _ | with_reducible apply Below.drew | with_reducible apply Below.drewn | (simp; done) | (simp; omega)))⟩

theorem sStampOf (n : Int) (w : World) :
    Calls Try.prog 84 #[.int .i64 n] w fun e w' => e = .returned (.agg #[.int .i64 (tY n), .int .i64 (tO n), .int .i64 (tD n), .int .i64 (tH n), .int .i64 (tI n), .int .i64 (tS n)]) ∧ Below w.heap.size w w' := by
  by_cases c : 0 ≤ n ∧ n ≤ 126227807999
  · obtain ⟨h0, h9⟩ := c
    obtain ⟨a1, a2, a3⟩ := stamp_hms h0 h9
    have A1 := Lib.hid a1; have A2 := Lib.hid a2; have A3 := Lib.hid a3; clear a1 a2 a3
    go_enter Try.func84, Try.ntmps84
    go_wp2_with (go_at_call 51; refine (l1In_yes _ _ _ _ (by omega) (by omega)).mono ?_; rintro e wx ⟨rfl, rfl⟩)
    refine (sDateOf _ _).mono ?_
    rintro e w1 ⟨rfl, hb⟩
    have hC := Below_at hb; have hF := Below_fr hb
    have hb' := ((Below.refl w.heap.size w).alloc (Nat.le_refl _) _).trans (hb.mono (by simp))
    go_wp2
    all_goals
      ((try simp only [Exit.inBlock, Exit.then]); refine bodyPost_ret (v := (.agg #[.int .i64 (_), .int .i64 (_), .int .i64 (_), .int .i64 (_), .int .i64 (_), .int .i64 (_)])) (by simp [results, Try.results84, go_sem, *]; first | exact ⟨rfl, rfl, rfl, rfl, rfl, rfl⟩ | rfl) rfl ?_)
      exact ⟨ret_st rfl rfl rfl (by rw [A1.out]) (by rw [A2.out]; omega) (by rw [A3.out]), (by repeat' (first | with_reducible assumption | with_reducible exact Below.refl _ _ | with_reducible refine Below.setCell ?_ ?_ _ | with_reducible refine Below.alloc ?_ ?_ _ | with_reducible apply Below.drew | with_reducible apply Below.drewn | (simp; done) | (simp; omega)))⟩
  · obtain ⟨e1, e2, e3, e4, e5, e6⟩ := stamp_no c
    rw [e1, e2, e3, e4, e5, e6]
    clear e1 e2 e3 e4 e5 e6
    have k : n < 0 ∨ 126227807999 < n := by omega
    have K := Lib.hid k; clear k c
    go_enter Try.func84, Try.ntmps84
    go_wp2_with (go_at_call 51; refine (l1In_no _ _ _ _ K.out).mono ?_; rintro e wx ⟨rfl, rfl⟩)
    ((try simp only [Exit.inBlock, Exit.then]); refine bodyPost_ret (v := (.agg #[.int .i64 (_), .int .i64 (_), .int .i64 (_), .int .i64 (_), .int .i64 (_), .int .i64 (_)])) (by simp [results, Try.results84, go_sem, *]; first | exact ⟨rfl, rfl, rfl, rfl, rfl, rfl⟩ | rfl) rfl ?_)
    exact ⟨rfl, (by repeat' (first | with_reducible assumption | with_reducible exact Below.refl _ _ | with_reducible refine Below.setCell ?_ ?_ _ | with_reducible refine Below.alloc ?_ ?_ _ | with_reducible apply Below.drew | with_reducible apply Below.drewn | (simp; done) | (simp; omega)))⟩
end Go.Proofs.Ytlmmianaplahaaa
