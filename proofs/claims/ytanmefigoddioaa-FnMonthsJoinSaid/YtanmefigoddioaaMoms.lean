/-
  CONTRACTS OF CHAPTER 2: what the functions on stamps and moments of the program and of the model return.
-/
import Derived.Test.YtanmefigoddioaaMom
import Derived.Test.YtanmefigoddioaaDates
import Derived.Deep.RegionHeld3
set_option linter.unusedVariables false
set_option linter.unusedSimpArgs false
namespace Go.Proofs.Ytanmefigoddioaa
open Go.ChangeShapes Go.WideShapes Go.ChangeAt Go.RowKit Cal

theorem Below_at {B : Nat} {w w' : World} (h : Below B w w') : ∀ b o, b < B → w'.cell? ⟨b, o, none⟩ = w.cell? ⟨b, o, none⟩ := fun b o hb => h.cell (p := ⟨b, o, none⟩) hb
theorem Below_fr {B : Nat} {w w' : World} (h : Below B w w') : ∀ b o, b < B → w'.frozen? ⟨b, o, none⟩ = w.frozen? ⟨b, o, none⟩ := fun b o hb => h.frozen (p := ⟨b, o, none⟩) hb
/-- What a stamp's block holds stays. -/
theorem kept {b : Nat} {W w1 w2 : World} {v0 v1 v2 v3 v4 v5 : Value} (k : Below w1.heap.size w1 w2) (h : Below W.heap.size W w1 ∧ b < w1.heap.size ∧ w1.cell? ⟨b, 0, none⟩ = some v0 ∧ w1.cell? ⟨b, 1, none⟩ = some v1 ∧ w1.cell? ⟨b, 2, none⟩ = some v2 ∧ w1.cell? ⟨b, 3, none⟩ = some v3 ∧ w1.cell? ⟨b, 4, none⟩ = some v4 ∧ w1.cell? ⟨b, 5, none⟩ = some v5) :
    Below W.heap.size W w2 ∧ b < w2.heap.size ∧ w2.cell? ⟨b, 0, none⟩ = some v0 ∧ w2.cell? ⟨b, 1, none⟩ = some v1 ∧ w2.cell? ⟨b, 2, none⟩ = some v2 ∧ w2.cell? ⟨b, 3, none⟩ = some v3 ∧ w2.cell? ⟨b, 4, none⟩ = some v4 ∧ w2.cell? ⟨b, 5, none⟩ = some v5 := by
  have hs := h.1.size
  have ks := k.size
  have c : ∀ o, w2.cell? ⟨b, o, none⟩ = w1.cell? ⟨b, o, none⟩ := fun o => Below_at k b o h.2.1
  exact ⟨h.1.trans (k.mono hs), by omega, (c 0).trans h.2.2.1, (c 1).trans h.2.2.2.1, (c 2).trans h.2.2.2.2.1, (c 3).trans h.2.2.2.2.2.1, (c 4).trans h.2.2.2.2.2.2.1, (c 5).trans h.2.2.2.2.2.2.2⟩
theorem made {W : World} (v0 v1 v2 v3 v4 v5 : Value) (T : TypeId) :
    Below W.heap.size W (W.alloc (.cells #[v0, v1, v2, v3, v4, v5] T)) ∧ W.heap.size < (W.alloc (.cells #[v0, v1, v2, v3, v4, v5] T)).heap.size ∧ (W.alloc (.cells #[v0, v1, v2, v3, v4, v5] T)).cell? ⟨W.heap.size, 0, none⟩ = some v0 ∧ (W.alloc (.cells #[v0, v1, v2, v3, v4, v5] T)).cell? ⟨W.heap.size, 1, none⟩ = some v1 ∧ (W.alloc (.cells #[v0, v1, v2, v3, v4, v5] T)).cell? ⟨W.heap.size, 2, none⟩ = some v2 ∧ (W.alloc (.cells #[v0, v1, v2, v3, v4, v5] T)).cell? ⟨W.heap.size, 3, none⟩ = some v3 ∧ (W.alloc (.cells #[v0, v1, v2, v3, v4, v5] T)).cell? ⟨W.heap.size, 4, none⟩ = some v4 ∧ (W.alloc (.cells #[v0, v1, v2, v3, v4, v5] T)).cell? ⟨W.heap.size, 5, none⟩ = some v5 :=
  ⟨(Below.refl _ _).alloc (Nat.le_refl _) _, by simp, World.cell?_alloc_new _ _ _ _, World.cell?_alloc_new _ _ _ _, World.cell?_alloc_new _ _ _ _, World.cell?_alloc_new _ _ _ _, World.cell?_alloc_new _ _ _ _, World.cell?_alloc_new _ _ _ _⟩

/-- Six cells of a block that are written in order, behind a cell of another block. -/
theorem chain6 {w2 : World} {b c : Nat} (p : Nat) (hbc : b ≠ c) {u0 u1 u2 u3 u4 u5 : Value} (h0 : w2.cell? ⟨c, 0, none⟩ = some u0) (h1 : w2.cell? ⟨c, 1, none⟩ = some u1) (h2 : w2.cell? ⟨c, 2, none⟩ = some u2) (h3 : w2.cell? ⟨c, 3, none⟩ = some u3) (h4 : w2.cell? ⟨c, 4, none⟩ = some u4) (h5 : w2.cell? ⟨c, 5, none⟩ = some u5) : ∀ v v0 v1 v2 v3 v4 v5,
    ((w2.setCell ⟨b, p, none⟩ v).setCell ⟨c, 0, none⟩ v0).cell? ⟨c, 0, none⟩ = some v0 ∧
    (((w2.setCell ⟨b, p, none⟩ v).setCell ⟨c, 0, none⟩ v0).setCell ⟨c, 1, none⟩ v1).cell? ⟨c, 1, none⟩ = some v1 ∧
    ((((w2.setCell ⟨b, p, none⟩ v).setCell ⟨c, 0, none⟩ v0).setCell ⟨c, 1, none⟩ v1).setCell ⟨c, 2, none⟩ v2).cell? ⟨c, 2, none⟩ = some v2 ∧
    (((((w2.setCell ⟨b, p, none⟩ v).setCell ⟨c, 0, none⟩ v0).setCell ⟨c, 1, none⟩ v1).setCell ⟨c, 2, none⟩ v2).setCell ⟨c, 3, none⟩ v3).cell? ⟨c, 3, none⟩ = some v3 ∧
    ((((((w2.setCell ⟨b, p, none⟩ v).setCell ⟨c, 0, none⟩ v0).setCell ⟨c, 1, none⟩ v1).setCell ⟨c, 2, none⟩ v2).setCell ⟨c, 3, none⟩ v3).setCell ⟨c, 4, none⟩ v4).cell? ⟨c, 4, none⟩ = some v4 ∧
    (((((((w2.setCell ⟨b, p, none⟩ v).setCell ⟨c, 0, none⟩ v0).setCell ⟨c, 1, none⟩ v1).setCell ⟨c, 2, none⟩ v2).setCell ⟨c, 3, none⟩ v3).setCell ⟨c, 4, none⟩ v4).setCell ⟨c, 5, none⟩ v5).cell? ⟨c, 5, none⟩ = some v5 := by
  intro v v0 v1 v2 v3 v4 v5
  have o : ∀ (W : World) (i j : Nat) (x : Value), i ≠ j → (W.setCell ⟨c, i, none⟩ x).cell? ⟨c, j, none⟩ = W.cell? ⟨c, j, none⟩ := fun W i j x hij => World.cell?_setCell_other _ _ _ _ (by simp [hij])
  have f : ∀ j, (w2.setCell ⟨b, p, none⟩ v).cell? ⟨c, j, none⟩ = w2.cell? ⟨c, j, none⟩ := fun j => World.cell?_setCell_other _ _ _ _ (by simp [hbc])
  refine ⟨World.cell?_setCell_same _ _ _ (u := u0) ?_, World.cell?_setCell_same _ _ _ (u := u1) ?_, World.cell?_setCell_same _ _ _ (u := u2) ?_, World.cell?_setCell_same _ _ _ (u := u3) ?_, World.cell?_setCell_same _ _ _ (u := u4) ?_, World.cell?_setCell_same _ _ _ (u := u5) ?_⟩
  · rw [f]; exact h0
  · rw [o _ _ _ _ (by omega), f]; exact h1
  · rw [o _ _ _ _ (by omega), o _ _ _ _ (by omega), f]; exact h2
  · rw [o _ _ _ _ (by omega), o _ _ _ _ (by omega), o _ _ _ _ (by omega), f]; exact h3
  · rw [o _ _ _ _ (by omega), o _ _ _ _ (by omega), o _ _ _ _ (by omega), o _ _ _ _ (by omega), f]; exact h4
  · rw [o _ _ _ _ (by omega), o _ _ _ _ (by omega), o _ _ _ _ (by omega), o _ _ _ _ (by omega), o _ _ _ _ (by omega), f]; exact h5

theorem iDay (y m d h i s : Int) (w : World) :
    Calls Try.prog 29 #[(.agg #[.int .i64 (y), .int .i64 (m), .int .i64 (d), .int .i64 (h), .int .i64 (i), .int .i64 (s)])] w fun e w' => e = .returned (.int .i64 (dayOf y m d)) ∧ Below w.heap.size w w' := by
  go_enter Try.func29, Try.ntmps29
  (go_wp2_with fail; refine (iDayOf _ _ _ _).mono ?_; rintro e wx ⟨rfl, rfl⟩)
  go_wp2
  go_ret
  exact ⟨rfl, (Below.refl _ _).alloc (Nat.le_refl _) _⟩

theorem iHasTime (y m d h i s : Int) (w : World) :
    Calls Try.prog 38 #[(.agg #[.int .i64 (y), .int .i64 (m), .int .i64 (d), .int .i64 (h), .int .i64 (i), .int .i64 (s)])] w fun e w' => e = .returned (.bool (tmB h i s)) ∧ Below w.heap.size w w' := by
  go_enter Try.func38, Try.ntmps38
  go_wp2
  all_goals
    go_ret
    exact ⟨ret_bool (by unfold tmB; rw [Bool.eq_iff_iff]; simp; omega), (Below.refl _ _).alloc (Nat.le_refl _) _⟩

theorem iStampValid (y m d h i s : Int) (w : World) :
    Calls Try.prog 22 #[(.agg #[.int .i64 (y), .int .i64 (m), .int .i64 (d), .int .i64 (h), .int .i64 (i), .int .i64 (s)])] w fun e w' => e = .returned (.bool (svB y m d h i s)) ∧ Below w.heap.size w w' := by
  have hS := made (W := w) (.int .i64 y) (.int .i64 m) (.int .i64 d) (.int .i64 h) (.int .i64 i) (.int .i64 s) 24
  by_cases a : 0 ≤ dayOf y m d
  · have e : Hid (svB y m d h i s = tmB h i s) := sv_tm a
    go_enter Try.func22, Try.ntmps22
    go_wp2_with fail
    refine (iDay _ _ _ _ _ _ _).mono ?_
    rintro e w1 ⟨rfl, hb⟩
    have hC := Below_at hb
    have hS := kept hb hS
    go_wp2_with fail
    refine (iHasTime _ _ _ _ _ _ _).mono ?_
    rintro e w2 ⟨rfl, hb2⟩
    go_wp2
    go_ret
    exact ⟨ret_bool e.out.symm, (kept hb2 hS).1⟩
  · have e : Hid (svB y m d h i s = false) := sv_no fun c => a c.1
    have a' : decide (0 ≤ dayOf y m d) = false := decide_eq_false a
    go_enter Try.func22, Try.ntmps22
    go_wp2_with fail
    refine (iDay _ _ _ _ _ _ _).mono ?_
    rintro e w1 ⟨rfl, hb⟩
    go_wp2
    go_ret
    exact ⟨ret_bool e.out.symm, (kept hb hS).1⟩

theorem sStampValid (y m d h i s : Int) (w : World) :
    Calls Try.prog 15 #[(.agg #[.int .i64 (y), .int .i64 (m), .int .i64 (d), .int .i64 (h), .int .i64 (i), .int .i64 (s)])] w fun e w' => e = .returned (.bool (svB y m d h i s)) ∧ Below w.heap.size w w' := by
  have hS := made (W := w) (.int .i64 y) (.int .i64 m) (.int .i64 d) (.int .i64 h) (.int .i64 i) (.int .i64 s) 24
  go_enter Try.func15, Try.ntmps15
  go_wp2_with fail
  refine (sDayOf _ _ _ _).mono ?_
  rintro e w1 ⟨rfl, hb⟩
  have hC := Below_at hb
  have hS := (kept hb hS).1
  go_wp2
  all_goals
    go_ret
    exact ⟨ret_bool (by unfold svB; rw [Bool.eq_iff_iff]; simp; omega), hS⟩

set_option maxHeartbeats 1000000 in
theorem iMomentOf (y m d h i s : Int) (w : World) :
    Calls Try.prog 13 #[(.agg #[.int .i64 (y), .int .i64 (m), .int .i64 (d), .int .i64 (h), .int .i64 (i), .int .i64 (s)])] w fun e w' => e = .returned (.int .i64 (mom y m d h i s)) ∧ Below w.heap.size w w' := by
  have hS := made (W := w) (.int .i64 y) (.int .i64 m) (.int .i64 d) (.int .i64 h) (.int .i64 i) (.int .i64 s) 24
  cases c : svB y m d h i s
  · rw [mom_no c]
    have C := Lib.hid c; clear c
    go_enter Try.func13, Try.ntmps13
    go_wp2_with fail
    refine (iStampValid _ _ _ _ _ _ _).mono ?_
    rw [C.out]
    rintro e w1 ⟨rfl, hb⟩
    go_wp2
    go_ret
    exact ⟨rfl, (kept hb hS).1⟩
  · rw [mom_yes c]
    obtain ⟨v0, v1, v2, v3, v4, v5, v6⟩ := sv_yes c
    have v9 := (dayOf_bd y m d).2
    have C := Lib.hid c; clear c
    go_enter Try.func13, Try.ntmps13
    go_wp2_with fail
    refine (iStampValid _ _ _ _ _ _ _).mono ?_
    rw [C.out]
    rintro e w1 ⟨rfl, hb⟩
    have hS := kept hb hS
    go_wp2_with fail
    go_region_held3 (fun w' => Below w.heap.size w w' ∧ w.heap.size < w'.heap.size ∧ w'.cell? ⟨w.heap.size, 0, none⟩ = some (.int .i64 (y)) ∧ w'.cell? ⟨w.heap.size, 1, none⟩ = some (.int .i64 (m)) ∧ w'.cell? ⟨w.heap.size, 2, none⟩ = some (.int .i64 (d)) ∧ w'.cell? ⟨w.heap.size, 3, none⟩ = some (.int .i64 (h)) ∧ w'.cell? ⟨w.heap.size, 4, none⟩ = some (.int .i64 (i)) ∧ w'.cell? ⟨w.heap.size, 5, none⟩ = some (.int .i64 (s)))
      (first | exact kept (Below.refl _ _).drew hS | exact kept hb2 (by assumption))
      (first | (go_at_call 29; refine (iDay _ _ _ _ _ _ _).mono ?_; rintro e w2 ⟨rfl, hb2⟩))
    all_goals go_wp2
    all_goals
      go_ret
      exact ⟨ret_int (by simp only [IntKind.wrap_i64]; omega), (kept hb2 (kept (Below.refl _ _).drew hS)).1⟩

set_option maxHeartbeats 1000000 in
theorem sMomentOf (y m d h i s : Int) (w : World) :
    Calls Try.prog 14 #[(.agg #[.int .i64 (y), .int .i64 (m), .int .i64 (d), .int .i64 (h), .int .i64 (i), .int .i64 (s)])] w fun e w' => e = .returned (.int .i64 (mom y m d h i s)) ∧ Below w.heap.size w w' := by
  have hS := made (W := w) (.int .i64 y) (.int .i64 m) (.int .i64 d) (.int .i64 h) (.int .i64 i) (.int .i64 s) 24
  cases c : svB y m d h i s
  · rw [mom_no c]
    have C := Lib.hid c; clear c
    go_enter Try.func14, Try.ntmps14
    go_wp2_with fail
    refine (sStampValid _ _ _ _ _ _ _).mono ?_
    rw [C.out]
    rintro e w1 ⟨rfl, hb⟩
    go_wp2
    go_ret
    exact ⟨rfl, (kept hb hS).1⟩
  · rw [mom_yes c]
    obtain ⟨v0, v1, v2, v3, v4, v5, v6⟩ := sv_yes c
    have v9 := (dayOf_bd y m d).2
    have C := Lib.hid c; clear c
    go_enter Try.func14, Try.ntmps14
    go_wp2_with fail
    refine (sStampValid _ _ _ _ _ _ _).mono ?_
    rw [C.out]
    rintro e w1 ⟨rfl, hb⟩
    have hS := kept hb hS
    go_wp2_with fail
    go_region_held3 (fun w' => Below w.heap.size w w' ∧ w.heap.size < w'.heap.size ∧ w'.cell? ⟨w.heap.size, 0, none⟩ = some (.int .i64 (y)) ∧ w'.cell? ⟨w.heap.size, 1, none⟩ = some (.int .i64 (m)) ∧ w'.cell? ⟨w.heap.size, 2, none⟩ = some (.int .i64 (d)) ∧ w'.cell? ⟨w.heap.size, 3, none⟩ = some (.int .i64 (h)) ∧ w'.cell? ⟨w.heap.size, 4, none⟩ = some (.int .i64 (i)) ∧ w'.cell? ⟨w.heap.size, 5, none⟩ = some (.int .i64 (s)))
      (first | exact kept (Below.refl _ _).drew hS | exact kept hb2 (by assumption))
      (first | (go_at_call 30; refine (sDayOf _ _ _ _).mono ?_; rintro e w2 ⟨rfl, hb2⟩))
    all_goals go_wp2
    all_goals
      go_ret
      exact ⟨ret_int (by simp only [IntKind.wrap_i64]; omega), (kept hb2 (kept (Below.refl _ _).drew hS)).1⟩

theorem ret_st {a b c d e f a' b' c' d' e' f' : Int} (h1 : a = a') (h2 : b = b') (h3 : c = c') (h4 : d = d') (h5 : e = e') (h6 : f = f') : Ending.returned (.agg #[.int .i64 (a), .int .i64 (b), .int .i64 (c), .int .i64 (d), .int .i64 (e), .int .i64 (f)]) = .returned (.agg #[.int .i64 (a'), .int .i64 (b'), .int .i64 (c'), .int .i64 (d'), .int .i64 (e'), .int .i64 (f')]) := by rw [h1, h2, h3, h4, h5, h6]

theorem iStampOf (n : Int) (w : World) :
    Calls Try.prog 17 #[.int .i64 n] w fun e w' => e = .returned (.agg #[.int .i64 (tY n), .int .i64 (tO n), .int .i64 (tD n), .int .i64 (tH n), .int .i64 (tI n), .int .i64 (tS n)]) ∧ Below w.heap.size w w' := by
  by_cases c : 0 ≤ n ∧ n ≤ 126227807999
  · obtain ⟨h0, h9⟩ := c
    obtain ⟨a1, a2, a3⟩ := stamp_hms h0 h9
    have A1 := Lib.hid a1; have A2 := Lib.hid a2; have A3 := Lib.hid a3; clear a1 a2 a3
    go_enter Try.func17, Try.ntmps17
    go_wp2_with fail
    refine (iDateOf _ _).mono ?_
    rintro e w1 ⟨rfl, rfl⟩
    go_wp2
    all_goals
      ((try simp only [Exit.inBlock, Exit.then]); refine bodyPost_ret (v := (.agg #[.int .i64 (_), .int .i64 (_), .int .i64 (_), .int .i64 (_), .int .i64 (_), .int .i64 (_)])) (by simp [results, Try.results17, go_sem, *]; first | exact ⟨rfl, rfl, rfl, rfl, rfl, rfl⟩ | rfl) rfl ?_)
      exact ⟨ret_st rfl rfl rfl (by rw [A1.out]) (by rw [A2.out]) (by rw [A3.out]), (by repeat' (first | with_reducible assumption | with_reducible exact Below.refl _ _ | with_reducible refine Below.setCell ?_ ?_ _ | with_reducible refine Below.alloc ?_ ?_ _ | with_reducible apply Below.drew | (simp; done) | (simp; omega)))⟩
  · obtain ⟨e1, e2, e3, e4, e5, e6⟩ := stamp_no c
    rw [e1, e2, e3, e4, e5, e6]
    clear e1 e2 e3 e4 e5 e6
    by_cases a : n < 0
    · clear c
      go_enter Try.func17, Try.ntmps17
      go_wp2
      ((try simp only [Exit.inBlock, Exit.then]); refine bodyPost_ret (v := (.agg #[.int .i64 (_), .int .i64 (_), .int .i64 (_), .int .i64 (_), .int .i64 (_), .int .i64 (_)])) (by simp [results, Try.results17, go_sem, *]; first | exact ⟨rfl, rfl, rfl, rfl, rfl, rfl⟩ | rfl) rfl ?_)
      exact ⟨rfl, (by repeat' (first | with_reducible assumption | with_reducible exact Below.refl _ _ | with_reducible refine Below.setCell ?_ ?_ _ | with_reducible refine Below.alloc ?_ ?_ _ | with_reducible apply Below.drew | (simp; done) | (simp; omega)))⟩
    · have b : 126227807999 < n := by omega
      clear c
      go_enter Try.func17, Try.ntmps17
      go_wp2
      ((try simp only [Exit.inBlock, Exit.then]); refine bodyPost_ret (v := (.agg #[.int .i64 (_), .int .i64 (_), .int .i64 (_), .int .i64 (_), .int .i64 (_), .int .i64 (_)])) (by simp [results, Try.results17, go_sem, *]; first | exact ⟨rfl, rfl, rfl, rfl, rfl, rfl⟩ | rfl) rfl ?_)
      exact ⟨rfl, (by repeat' (first | with_reducible assumption | with_reducible exact Below.refl _ _ | with_reducible refine Below.setCell ?_ ?_ _ | with_reducible refine Below.alloc ?_ ?_ _ | with_reducible apply Below.drew | (simp; done) | (simp; omega)))⟩

theorem sStampOf (n : Int) (w : World) :
    Calls Try.prog 23 #[.int .i64 n] w fun e w' => e = .returned (.agg #[.int .i64 (tY n), .int .i64 (tO n), .int .i64 (tD n), .int .i64 (tH n), .int .i64 (tI n), .int .i64 (tS n)]) ∧ Below w.heap.size w w' := by
  by_cases c : 0 ≤ n ∧ n ≤ 126227807999
  · obtain ⟨h0, h9⟩ := c
    obtain ⟨a1, a2, a3⟩ := stamp_hms h0 h9
    have A1 := Lib.hid a1; have A2 := Lib.hid a2; have A3 := Lib.hid a3; clear a1 a2 a3
    go_enter Try.func23, Try.ntmps23
    go_wp2_with (go_at_call 31; refine (l1In_yes _ _ _ _ (by omega) (by omega)).mono ?_; rintro e wx ⟨rfl, rfl⟩)
    refine (sDateOf _ _).mono ?_
    rintro e w1 ⟨rfl, hb⟩
    have hC := Below_at hb; have hF := Below_fr hb
    have hb' := ((Below.refl w.heap.size w).alloc (Nat.le_refl _) _).trans (hb.mono (by simp))
    go_wp2
    all_goals
      ((try simp only [Exit.inBlock, Exit.then]); refine bodyPost_ret (v := (.agg #[.int .i64 (_), .int .i64 (_), .int .i64 (_), .int .i64 (_), .int .i64 (_), .int .i64 (_)])) (by simp [results, Try.results23, go_sem, *]; first | exact ⟨rfl, rfl, rfl, rfl, rfl, rfl⟩ | rfl) rfl ?_)
      exact ⟨ret_st rfl rfl rfl (by rw [A1.out]) (by rw [A2.out]; omega) (by rw [A3.out]), (by repeat' (first | with_reducible assumption | with_reducible exact Below.refl _ _ | with_reducible refine Below.setCell ?_ ?_ _ | with_reducible refine Below.alloc ?_ ?_ _ | with_reducible apply Below.drew | (simp; done) | (simp; omega)))⟩
  · obtain ⟨e1, e2, e3, e4, e5, e6⟩ := stamp_no c
    rw [e1, e2, e3, e4, e5, e6]
    clear e1 e2 e3 e4 e5 e6
    have k : n < 0 ∨ 126227807999 < n := by omega
    have K := Lib.hid k; clear k c
    go_enter Try.func23, Try.ntmps23
    go_wp2_with (go_at_call 31; refine (l1In_no _ _ _ _ K.out).mono ?_; rintro e wx ⟨rfl, rfl⟩)
    ((try simp only [Exit.inBlock, Exit.then]); refine bodyPost_ret (v := (.agg #[.int .i64 (_), .int .i64 (_), .int .i64 (_), .int .i64 (_), .int .i64 (_), .int .i64 (_)])) (by simp [results, Try.results23, go_sem, *]; first | exact ⟨rfl, rfl, rfl, rfl, rfl, rfl⟩ | rfl) rfl ?_)
    exact ⟨rfl, (by repeat' (first | with_reducible assumption | with_reducible exact Below.refl _ _ | with_reducible refine Below.setCell ?_ ?_ _ | with_reducible refine Below.alloc ?_ ?_ _ | with_reducible apply Below.drew | (simp; done) | (simp; omega)))⟩
end Go.Proofs.Ytanmefigoddioaa
