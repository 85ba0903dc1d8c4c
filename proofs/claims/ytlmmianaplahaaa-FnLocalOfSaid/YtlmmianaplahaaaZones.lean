/-
  CONTRACTS OF CHAPTER 4, of the model: what its functions on zones return.
-/
import Derived.Test.YtlmmianaplahaaaZone
import Derived.Test.YtlmmianaplahaaaTen
import Derived.Test.YtlmmianaplahaaaRules
import Derived.Test.YtlmmianaplahaaaInts
set_option linter.unusedVariables false
set_option linter.unusedSimpArgs false
namespace Go.Proofs.Ytlmmianaplahaaa
open Go.ChangeShapes Go.WideShapes Go.ChangeAt Go.RowKit Cal

set_option maxHeartbeats 4000000 in
theorem sZoneValid (z : Zn) (w : World) :
    Calls Try.prog 40 #[(.agg #[.int .i64 (z.o), .int .i64 (z.s), .int .i64 (z.m), .int .i64 (z.k), .int .i64 (z.d), .int .i64 (z.i), .int .i64 (z.m'), .int .i64 (z.k'), .int .i64 (z.d'), .int .i64 (z.i')])] w fun e w' => e = .returned (.bool (zvB z)) ∧ Below w.heap.size w w' := by
  by_cases c : z.s = 0
  · unfold zvB
    rw [if_pos c]
    go_enter Try.func40, Try.ntmps40
    go_wp2_with (go_at_call 51; refine (sIn _ _ _ _).mono ?_; rintro e wx ⟨rfl, rfl⟩)
    all_goals
      go_ret
      exact ⟨ret_bool (by simp [noRule, *] <;> omega), (by repeat' (first | with_reducible assumption | with_reducible exact Below.refl _ _ | with_reducible refine Below.setCell ?_ ?_ _ | with_reducible refine Below.alloc ?_ ?_ _ | with_reducible apply Below.drew | with_reducible apply Below.drewn | (simp; done) | (simp; omega)))⟩
  · unfold zvB
    rw [if_neg c]
    have c' : (z.s == 0) = false := by simpa using c
    have hap : apart z.m z.m' = decide (2 ≤ max (z.m - z.m') (z.m' - z.m)) := by unfold apart; rw [Bool.eq_iff_iff]; simp; omega
    rw [hap]
    by_cases c1 : -720 ≤ z.o ∧ z.o ≤ 840
    · by_cases c2 : 0 ≤ z.s ∧ z.s ≤ 120
      · rw [decide_eq_true c1, decide_eq_true c2]
        obtain ⟨c11, c12⟩ := c1
        obtain ⟨c21, c22⟩ := c2
        cases h1 : rvB z.m z.k z.d z.i
        · have H1 := Lib.hid h1; clear h1 hap
          go_enter Try.func40, Try.ntmps40
          go_wp2_with (go_at_call 51; refine (l1In_yes _ _ _ _ (by omega) (by omega)).mono ?_; rintro e wx ⟨rfl, rfl⟩)
          (refine (sRuleValid _ _ _ _ _).mono ?_; (rw [H1.out]); rintro e wx ⟨rfl, hbx⟩; have hC := Below_at hbx; have hF := Below_fr hbx; have hb := Below.trans (show Below w.heap.size w _ from (by repeat' (first | with_reducible assumption | with_reducible exact Below.refl _ _ | with_reducible refine Below.setCell ?_ ?_ _ | with_reducible refine Below.alloc ?_ ?_ _ | with_reducible apply Below.drew | with_reducible apply Below.drewn | (simp; done) | (simp; omega)))) (hbx.mono (by first | omega | (simp; done) | (simp; omega))); have hz := hb.size; have hl := hbx.size; (try simp only [World.size_alloc, World.size_setCell, World.size_drew] at hl); (try have hs0 : w.heap.size < wx.heap.size := by omega); (try have hs1 : w.heap.size + 1 < wx.heap.size := by omega); clear hl)
          go_wp2
          go_ret
          exact ⟨rfl, (by repeat' (first | with_reducible assumption | with_reducible exact Below.refl _ _ | with_reducible refine Below.setCell ?_ ?_ _ | with_reducible refine Below.alloc ?_ ?_ _ | with_reducible apply Below.drew | with_reducible apply Below.drewn | (simp; done) | (simp; omega)))⟩
        · have i1 := rv_yes h1
          have H1 := Lib.hid h1; clear h1 hap
          cases h2 : rvB z.m' z.k' z.d' z.i'
          · have H2 := Lib.hid h2; clear h2
            go_enter Try.func40, Try.ntmps40
            go_wp2_with (go_at_call 51; refine (l1In_yes _ _ _ _ (by omega) (by omega)).mono ?_; rintro e wx ⟨rfl, rfl⟩)
            (refine (sRuleValid _ _ _ _ _).mono ?_; (rw [H1.out]); rintro e wx ⟨rfl, hbx⟩; have hC := Below_at hbx; have hF := Below_fr hbx; have hb := Below.trans (show Below w.heap.size w _ from (by repeat' (first | with_reducible assumption | with_reducible exact Below.refl _ _ | with_reducible refine Below.setCell ?_ ?_ _ | with_reducible refine Below.alloc ?_ ?_ _ | with_reducible apply Below.drew | with_reducible apply Below.drewn | (simp; done) | (simp; omega)))) (hbx.mono (by first | omega | (simp; done) | (simp; omega))); have hz := hb.size; have hl := hbx.size; (try simp only [World.size_alloc, World.size_setCell, World.size_drew] at hl); (try have hs0 : w.heap.size < wx.heap.size := by omega); (try have hs1 : w.heap.size + 1 < wx.heap.size := by omega); clear hl)
            (go_wp2_with fail; refine (sRuleValid _ _ _ _ _).mono ?_; rw [H2.out]; rintro e wx ⟨rfl, hbx⟩; have hC := Below_at hbx; have hF := Below_fr hbx; have hb := Below.trans (show Below w.heap.size w _ from (by repeat' (first | with_reducible assumption | with_reducible exact Below.refl _ _ | with_reducible refine Below.setCell ?_ ?_ _ | with_reducible refine Below.alloc ?_ ?_ _ | with_reducible apply Below.drew | with_reducible apply Below.drewn | (simp; done) | (simp; omega)))) (hbx.mono (by first | omega | (simp; done) | (simp; omega))); have hz := hb.size; have hl := hbx.size; (try simp only [World.size_alloc, World.size_setCell, World.size_drew] at hl); (try have hs0 : w.heap.size < wx.heap.size := by omega); (try have hs1 : w.heap.size + 1 < wx.heap.size := by omega); clear hl)
            go_wp2
            go_ret
            exact ⟨rfl, (by repeat' (first | with_reducible assumption | with_reducible exact Below.refl _ _ | with_reducible refine Below.setCell ?_ ?_ _ | with_reducible refine Below.alloc ?_ ?_ _ | with_reducible apply Below.drew | with_reducible apply Below.drewn | (simp; done) | (simp; omega)))⟩
          · have i2 := rv_yes h2
            have H2 := Lib.hid h2; clear h2
            have w1 : IntKind.i64.wrap (z.m - z.m') = z.m - z.m' := IntWalk.i64_in _ (by omega)
            have w2 : IntKind.i64.wrap (z.m' - z.m) = z.m' - z.m := IntWalk.i64_in _ (by omega)
            go_enter Try.func40, Try.ntmps40
            go_wp2_with (go_at_call 51; refine (l1In_yes _ _ _ _ (by omega) (by omega)).mono ?_; rintro e wx ⟨rfl, rfl⟩)
            (refine (sRuleValid _ _ _ _ _).mono ?_; (rw [H1.out]); rintro e wx ⟨rfl, hbx⟩; have hC := Below_at hbx; have hF := Below_fr hbx; have hb := Below.trans (show Below w.heap.size w _ from (by repeat' (first | with_reducible assumption | with_reducible exact Below.refl _ _ | with_reducible refine Below.setCell ?_ ?_ _ | with_reducible refine Below.alloc ?_ ?_ _ | with_reducible apply Below.drew | with_reducible apply Below.drewn | (simp; done) | (simp; omega)))) (hbx.mono (by first | omega | (simp; done) | (simp; omega))); have hz := hb.size; have hl := hbx.size; (try simp only [World.size_alloc, World.size_setCell, World.size_drew] at hl); (try have hs0 : w.heap.size < wx.heap.size := by omega); (try have hs1 : w.heap.size + 1 < wx.heap.size := by omega); clear hl)
            (go_wp2_with fail; refine (sRuleValid _ _ _ _ _).mono ?_; rw [H2.out]; rintro e wx ⟨rfl, hbx⟩; have hC := Below_at hbx; have hF := Below_fr hbx; have hb := Below.trans (show Below w.heap.size w _ from (by repeat' (first | with_reducible assumption | with_reducible exact Below.refl _ _ | with_reducible refine Below.setCell ?_ ?_ _ | with_reducible refine Below.alloc ?_ ?_ _ | with_reducible apply Below.drew | with_reducible apply Below.drewn | (simp; done) | (simp; omega)))) (hbx.mono (by first | omega | (simp; done) | (simp; omega))); have hz := hb.size; have hl := hbx.size; (try simp only [World.size_alloc, World.size_setCell, World.size_drew] at hl); (try have hs0 : w.heap.size < wx.heap.size := by omega); (try have hs1 : w.heap.size + 1 < wx.heap.size := by omega); clear hl)
            go_wp2
            all_goals
              go_ret
              exact ⟨ret_bool (by rw [Bool.eq_iff_iff]; simp; omega), (by repeat' (first | with_reducible assumption | with_reducible exact Below.refl _ _ | with_reducible refine Below.setCell ?_ ?_ _ | with_reducible refine Below.alloc ?_ ?_ _ | with_reducible apply Below.drew | with_reducible apply Below.drewn | (simp; done) | (simp; omega)))⟩
      · rw [decide_eq_false c2]
        have C2 := Lib.hid (show z.s < 0 ∨ 120 < z.s by omega)
        obtain ⟨c11, c12⟩ := c1
        clear c2 hap
        go_enter Try.func40, Try.ntmps40
        go_wp2_with (first | (go_at_call_of 51 (Value.int IntKind.i64 z.o); refine (l1In_yes _ _ _ _ (by omega) (by omega)).mono ?_; rintro e wx ⟨rfl, rfl⟩) | (go_at_call 51; refine (l1In_no _ _ _ _ C2.out).mono ?_; rintro e wx ⟨rfl, rfl⟩))
        go_ret
        exact ⟨ret_bool (by simp), (by repeat' (first | with_reducible assumption | with_reducible exact Below.refl _ _ | with_reducible refine Below.setCell ?_ ?_ _ | with_reducible refine Below.alloc ?_ ?_ _ | with_reducible apply Below.drew | with_reducible apply Below.drewn | (simp; done) | (simp; omega)))⟩
    · rw [decide_eq_false c1]
      have C1 := Lib.hid (show z.o < -720 ∨ 840 < z.o by omega)
      clear c1 hap
      go_enter Try.func40, Try.ntmps40
      go_wp2_with (go_at_call 51; refine (l1In_no _ _ _ _ C1.out).mono ?_; rintro e wx ⟨rfl, rfl⟩)
      go_ret
      exact ⟨ret_bool (by simp), (by repeat' (first | with_reducible assumption | with_reducible exact Below.refl _ _ | with_reducible refine Below.setCell ?_ ?_ _ | with_reducible refine Below.alloc ?_ ?_ _ | with_reducible apply Below.drew | with_reducible apply Below.drewn | (simp; done) | (simp; omega)))⟩

theorem sGood (n : Int) (w : World) :
    Calls Try.prog 41 #[.int .i64 n] w fun e w' => e = .returned (.bool (zGood n)) ∧ w = w' := by
  go_enter Try.func41, Try.ntmps41
  go_wp2_with (go_at_call 51; refine (sIn _ _ _ _).mono ?_; rintro e wx ⟨rfl, rfl⟩)
  go_ret
  exact ⟨ret_bool (by unfold zGood; rw [Bool.eq_iff_iff]; simp), rfl⟩

theorem ruleMom_bd (m k d i y : Int) : -1 ≤ ruleMom m k d i y ∧ ruleMom m k d i y ≤ 126227807999 := by
  cases c : ruleOk m k d i y
  · rw [ruleMom_no c]; omega
  · rw [ruleMom_yes c]
    have := ruleOk_day c
    omega

set_option maxHeartbeats 4000000 in
theorem sStarts (z : Zn) (y : Int) (w : World) (ho : -100000 ≤ z.o ∧ z.o ≤ 100000) (hs : -100000 ≤ z.s ∧ z.s ≤ 100000) :
    Calls Try.prog 56 #[(.agg #[.int .i64 (z.o), .int .i64 (z.s), .int .i64 (z.m), .int .i64 (z.k), .int .i64 (z.d), .int .i64 (z.i), .int .i64 (z.m'), .int .i64 (z.k'), .int .i64 (z.d'), .int .i64 (z.i')]), .int .i64 y] w fun e w' => e = .returned (.tuple #[.int .i64 (zA z y), .int .i64 (zB z y)]) ∧ Below w.heap.size w w' := by
  have b1 := ruleMom_bd z.m z.k z.d z.i y
  have b2 := ruleMom_bd z.m' z.k' z.d' z.i' y
  have hS := (ten_at (Below.refl w.heap.size w) (.int .i64 (z.o)) (.int .i64 (z.s)) (.int .i64 (z.m)) (.int .i64 (z.k)) (.int .i64 (z.d)) (.int .i64 (z.i)) (.int .i64 (z.m')) (.int .i64 (z.k')) (.int .i64 (z.d')) (.int .i64 (z.i')) 26)
  unfold zA zB
  generalize hA : ruleMom z.m z.k z.d z.i y = A at *
  generalize hB : ruleMom z.m' z.k' z.d' z.i' y = B at *
  have HA := Lib.hid hA; have HB := Lib.hid hB
  clear hA hB
  have w1 : IntKind.i64.wrap (z.o * 60) = z.o * 60 := IntWalk.i64_in _ (by omega)
  have w2 : IntKind.i64.wrap (A - z.o * 60) = A - z.o * 60 := IntWalk.i64_in _ (by omega)
  have w3 : IntKind.i64.wrap (z.o + z.s) = z.o + z.s := IntWalk.i64_in _ (by omega)
  have w4 : IntKind.i64.wrap ((z.o + z.s) * 60) = (z.o + z.s) * 60 := IntWalk.i64_in _ (by omega)
  have w5 : IntKind.i64.wrap (B - (z.o + z.s) * 60) = B - (z.o + z.s) * 60 := IntWalk.i64_in _ (by omega)
  go_enter Try.func56, Try.ntmps56
  go_wp2_with fail
  go_region_held3 (fun w' => Below w.heap.size w w' ∧ w'.cell? ⟨w.heap.size, 0, none⟩ = some (.int .i64 (z.o)) ∧ w'.cell? ⟨w.heap.size, 1, none⟩ = some (.int .i64 (z.s)) ∧ w'.cell? ⟨w.heap.size, 2, none⟩ = some (.int .i64 (z.m)) ∧ w'.cell? ⟨w.heap.size, 3, none⟩ = some (.int .i64 (z.k)) ∧ w'.cell? ⟨w.heap.size, 4, none⟩ = some (.int .i64 (z.d)) ∧ w'.cell? ⟨w.heap.size, 5, none⟩ = some (.int .i64 (z.i)) ∧ w'.cell? ⟨w.heap.size, 6, none⟩ = some (.int .i64 (z.m')) ∧ w'.cell? ⟨w.heap.size, 7, none⟩ = some (.int .i64 (z.k')) ∧ w'.cell? ⟨w.heap.size, 8, none⟩ = some (.int .i64 (z.d')) ∧ w'.cell? ⟨w.heap.size, 9, none⟩ = some (.int .i64 (z.i')))
    (first | exact ten_stays _ _ _ _ _ _ _ _ _ _ _ _ _ _ (Below.refl _ _).drew hS | exact ten_stays _ _ _ _ _ _ _ _ _ _ _ _ _ _ hb2 (by assumption))
    (first | (go_at_call 72; refine (sRuleMoment _ _ _ _ _ _).mono ?_; (first | rw [HA.out] | rw [HB.out]); rintro e w2 ⟨rfl, hb2⟩))
  all_goals go_wp2
  (have hhh : (fun w' => Below w.heap.size w w' ∧ w'.cell? ⟨w.heap.size, 0, none⟩ = some (.int .i64 (z.o)) ∧ w'.cell? ⟨w.heap.size, 1, none⟩ = some (.int .i64 (z.s)) ∧ w'.cell? ⟨w.heap.size, 2, none⟩ = some (.int .i64 (z.m)) ∧ w'.cell? ⟨w.heap.size, 3, none⟩ = some (.int .i64 (z.k)) ∧ w'.cell? ⟨w.heap.size, 4, none⟩ = some (.int .i64 (z.d)) ∧ w'.cell? ⟨w.heap.size, 5, none⟩ = some (.int .i64 (z.i)) ∧ w'.cell? ⟨w.heap.size, 6, none⟩ = some (.int .i64 (z.m')) ∧ w'.cell? ⟨w.heap.size, 7, none⟩ = some (.int .i64 (z.k')) ∧ w'.cell? ⟨w.heap.size, 8, none⟩ = some (.int .i64 (z.d')) ∧ w'.cell? ⟨w.heap.size, 9, none⟩ = some (.int .i64 (z.i'))) _ := (by assumption); have hhb := hhh.1)
  go_ret2
  exact ⟨rfl, hhb⟩

set_option maxHeartbeats 4000000 in
theorem sOffset (z : Zn) (n : Int) (w : World) (v : zvB z = true) (hn : 1000000 ≤ n ∧ n ≤ 126227807999) :
    Calls Try.prog 42 #[(.agg #[.int .i64 (z.o), .int .i64 (z.s), .int .i64 (z.m), .int .i64 (z.k), .int .i64 (z.d), .int .i64 (z.i), .int .i64 (z.m'), .int .i64 (z.k'), .int .i64 (z.d'), .int .i64 (z.i')]), .int .i64 n] w fun e w' => e = .returned (.int .i64 (zOff z n)) ∧ Below w.heap.size w w' := by
  obtain ⟨o1, o9, s1, s9, _, _⟩ := zv_yes v
  have hS := (ten_at (Below.refl w.heap.size w) (.int .i64 (z.o)) (.int .i64 (z.s)) (.int .i64 (z.m)) (.int .i64 (z.k)) (.int .i64 (z.d)) (.int .i64 (z.i)) (.int .i64 (z.m')) (.int .i64 (z.k')) (.int .i64 (z.d')) (.int .i64 (z.i')) 26)
  clear v
  by_cases c : z.s = 0
  · rw [zOff_none c]
    go_enter Try.func42, Try.ntmps42
    go_wp2
    go_ret
    exact ⟨rfl, (by repeat' (first | with_reducible assumption | with_reducible exact Below.refl _ _ | with_reducible refine Below.setCell ?_ ?_ _ | with_reducible refine Below.alloc ?_ ?_ _ | with_reducible apply Below.drew | with_reducible apply Below.drewn | (simp; done) | (simp; omega)))⟩
  · rw [zOff_sum c]
    have c' : (z.s == 0) = false := by simpa using c
    unfold zSum zY
    have hq : (n + z.o * 60).tdiv 86400 = (n + z.o * 60) / 86400 := Int.tdiv_eq_ediv_of_nonneg (by omega)
    have w1 : IntKind.i64.wrap (z.o * 60) = z.o * 60 := IntWalk.i64_in _ (by omega)
    have w2 : IntKind.i64.wrap (n + z.o * 60) = n + z.o * 60 := IntWalk.i64_in _ (by omega)
    have w3 : IntKind.i64.wrap ((n + z.o * 60) / 86400) = (n + z.o * 60) / 86400 := IntWalk.i64_in _ (by omega)
    generalize hd : (n + z.o * 60) / 86400 = D at *
    generalize hy : dY D = Y at *
    have HY := Lib.hid hy; clear hy hd
    generalize hA : zA z Y = A at *
    generalize hB : zB z Y = B at *
    have HA := Lib.hid hA; have HB := Lib.hid hB; clear hA hB
    generalize hR : (if (if B < A then decide (A ≤ n) || decide (n < B) else decide (A ≤ n) && decide (n < B)) = true then z.o + z.s else z.o) = R
    have HR := Lib.hid hR; clear hR
    by_cases h1 : B < A <;> by_cases h2 : A ≤ n <;> by_cases h3 : n < B
    all_goals try (exfalso; omega)
    all_goals
      go_enter Try.func42, Try.ntmps42
      (go_wp2_with fail; refine (sDateOf _ _).mono ?_; rw [HY.out]; rintro e wx ⟨rfl, hbx⟩; have hC := Below_at hbx; have hF := Below_fr hbx; have hb := Below.trans (show Below w.heap.size w _ from (by repeat' (first | with_reducible assumption | with_reducible exact Below.refl _ _ | with_reducible refine Below.setCell ?_ ?_ _ | with_reducible refine Below.alloc ?_ ?_ _ | with_reducible apply Below.drew | with_reducible apply Below.drewn | (simp; done) | (simp; omega)))) (hbx.mono (by first | omega | (simp; done) | (simp; omega))); have hz := hb.size; have hl := hbx.size; (try simp only [World.size_alloc, World.size_setCell, World.size_drew] at hl); (try have hs0 : w.heap.size < wx.heap.size := by omega); (try have hs1 : w.heap.size + 1 < wx.heap.size := by omega); clear hl)
      (go_wp2_with fail; refine (sStarts z _ _ (by omega) (by omega)).mono ?_; rw [HA.out, HB.out]; rintro e wx ⟨rfl, hbx⟩; have hC := Below_at hbx; have hF := Below_fr hbx; have hb := Below.trans (show Below w.heap.size w _ from (by repeat' (first | with_reducible assumption | with_reducible exact Below.refl _ _ | with_reducible refine Below.setCell ?_ ?_ _ | with_reducible refine Below.alloc ?_ ?_ _ | with_reducible apply Below.drew | with_reducible apply Below.drewn | (simp; done) | (simp; omega)))) (hbx.mono (by first | omega | (simp; done) | (simp; omega))); have hz := hb.size; have hl := hbx.size; (try simp only [World.size_alloc, World.size_setCell, World.size_drew] at hl); (try have hs0 : w.heap.size < wx.heap.size := by omega); (try have hs1 : w.heap.size + 1 < wx.heap.size := by omega); clear hl)
      go_wp2
      go_ret
      exact ⟨ret_int (by have := HR.out; simp [h1, h2, h3] at this; omega), (by repeat' (first | with_reducible assumption | with_reducible exact Below.refl _ _ | with_reducible refine Below.setCell ?_ ?_ _ | with_reducible refine Below.alloc ?_ ?_ _ | with_reducible apply Below.drew | with_reducible apply Below.drewn | (simp; done) | (simp; omega)))⟩

theorem sOffsetAt (z : Zn) (n : Int) (w : World) :
    Calls Try.prog 36 #[(.agg #[.int .i64 (z.o), .int .i64 (z.s), .int .i64 (z.m), .int .i64 (z.k), .int .i64 (z.d), .int .i64 (z.i), .int .i64 (z.m'), .int .i64 (z.k'), .int .i64 (z.d'), .int .i64 (z.i')]), .int .i64 n] w fun e w' => e = .returned (.int .i64 (offAt z n)) ∧ Below w.heap.size w w' := by
  cases v : zvB z
  · rw [offAt_no (.inl v)]
    have V := Lib.hid v; clear v
    go_enter Try.func36, Try.ntmps36
    (go_wp2_with fail; refine (sZoneValid z _).mono ?_; rw [V.out]; rintro e wx ⟨rfl, hbx⟩; have hC := Below_at hbx; have hF := Below_fr hbx; have hb := Below.trans (show Below w.heap.size w _ from (by repeat' (first | with_reducible assumption | with_reducible exact Below.refl _ _ | with_reducible refine Below.setCell ?_ ?_ _ | with_reducible refine Below.alloc ?_ ?_ _ | with_reducible apply Below.drew | with_reducible apply Below.drewn | (simp; done) | (simp; omega)))) (hbx.mono (by first | omega | (simp; done) | (simp; omega))); have hz := hb.size; have hl := hbx.size; (try simp only [World.size_alloc, World.size_setCell, World.size_drew] at hl); (try have hs0 : w.heap.size < wx.heap.size := by omega); (try have hs1 : w.heap.size + 1 < wx.heap.size := by omega); clear hl)
    go_wp2
    go_ret
    exact ⟨rfl, (by repeat' (first | with_reducible assumption | with_reducible exact Below.refl _ _ | with_reducible refine Below.setCell ?_ ?_ _ | with_reducible refine Below.alloc ?_ ?_ _ | with_reducible apply Below.drew | with_reducible apply Below.drewn | (simp; done) | (simp; omega)))⟩
  · cases g : zGood n
    · rw [offAt_no (.inr g)]
      have V := Lib.hid v; have G := Lib.hid g; clear v g
      go_enter Try.func36, Try.ntmps36
      (go_wp2_with fail; refine (sZoneValid z _).mono ?_; rw [V.out]; rintro e wx ⟨rfl, hbx⟩; have hC := Below_at hbx; have hF := Below_fr hbx; have hb := Below.trans (show Below w.heap.size w _ from (by repeat' (first | with_reducible assumption | with_reducible exact Below.refl _ _ | with_reducible refine Below.setCell ?_ ?_ _ | with_reducible refine Below.alloc ?_ ?_ _ | with_reducible apply Below.drew | with_reducible apply Below.drewn | (simp; done) | (simp; omega)))) (hbx.mono (by first | omega | (simp; done) | (simp; omega))); have hz := hb.size; have hl := hbx.size; (try simp only [World.size_alloc, World.size_setCell, World.size_drew] at hl); (try have hs0 : w.heap.size < wx.heap.size := by omega); (try have hs1 : w.heap.size + 1 < wx.heap.size := by omega); clear hl)
      go_wp2_with (go_at_call 41; refine (sGood _ _).mono ?_; rw [G.out]; rintro e wq ⟨rfl, rfl⟩)
      go_ret
      exact ⟨rfl, (by repeat' (first | with_reducible assumption | with_reducible exact Below.refl _ _ | with_reducible refine Below.setCell ?_ ?_ _ | with_reducible refine Below.alloc ?_ ?_ _ | with_reducible apply Below.drew | with_reducible apply Below.drewn | (simp; done) | (simp; omega)))⟩
    · rw [offAt_yes v g]
      have V := Lib.hid v; have G := Lib.hid g
      have gg := zGood_yes g
      clear v g
      go_enter Try.func36, Try.ntmps36
      (go_wp2_with fail; refine (sZoneValid z _).mono ?_; rw [V.out]; rintro e wx ⟨rfl, hbx⟩; have hC := Below_at hbx; have hF := Below_fr hbx; have hb := Below.trans (show Below w.heap.size w _ from (by repeat' (first | with_reducible assumption | with_reducible exact Below.refl _ _ | with_reducible refine Below.setCell ?_ ?_ _ | with_reducible refine Below.alloc ?_ ?_ _ | with_reducible apply Below.drew | with_reducible apply Below.drewn | (simp; done) | (simp; omega)))) (hbx.mono (by first | omega | (simp; done) | (simp; omega))); have hz := hb.size; have hl := hbx.size; (try simp only [World.size_alloc, World.size_setCell, World.size_drew] at hl); (try have hs0 : w.heap.size < wx.heap.size := by omega); (try have hs1 : w.heap.size + 1 < wx.heap.size := by omega); clear hl)
      go_wp2_with (go_at_call 41; refine (sGood _ _).mono ?_; rw [G.out]; rintro e wq ⟨rfl, rfl⟩)
      (refine (sOffset z _ _ V.out (by omega)).mono ?_; rintro e wx ⟨rfl, hbx⟩; have hC := Below_at hbx; have hF := Below_fr hbx; have hb := Below.trans (show Below w.heap.size w _ from (by repeat' (first | with_reducible assumption | with_reducible exact Below.refl _ _ | with_reducible refine Below.setCell ?_ ?_ _ | with_reducible refine Below.alloc ?_ ?_ _ | with_reducible apply Below.drew | with_reducible apply Below.drewn | (simp; done) | (simp; omega)))) (hbx.mono (by first | omega | (simp; done) | (simp; omega))); have hz := hb.size; have hl := hbx.size; (try simp only [World.size_alloc, World.size_setCell, World.size_drew] at hl); (try have hs0 : w.heap.size < wx.heap.size := by omega); (try have hs1 : w.heap.size + 1 < wx.heap.size := by omega); clear hl)
      go_wp2
      go_ret
      exact ⟨rfl, (by repeat' (first | with_reducible assumption | with_reducible exact Below.refl _ _ | with_reducible refine Below.setCell ?_ ?_ _ | with_reducible refine Below.alloc ?_ ?_ _ | with_reducible apply Below.drew | with_reducible apply Below.drewn | (simp; done) | (simp; omega)))⟩

theorem sLocalOf (z : Zn) (n : Int) (w : World) :
    Calls Try.prog 18 #[(.agg #[.int .i64 (z.o), .int .i64 (z.s), .int .i64 (z.m), .int .i64 (z.k), .int .i64 (z.d), .int .i64 (z.i), .int .i64 (z.m'), .int .i64 (z.k'), .int .i64 (z.d'), .int .i64 (z.i')]), .int .i64 n] w fun e w' => e = .returned (.int .i64 (locOf z n)) ∧ Below w.heap.size w w' := by
  cases v : zvB z
  · rw [locOf_no (.inl v)]
    have V := Lib.hid v; clear v
    go_enter Try.func18, Try.ntmps18
    (go_wp2_with fail; refine (sZoneValid z _).mono ?_; rw [V.out]; rintro e wx ⟨rfl, hbx⟩; have hC := Below_at hbx; have hF := Below_fr hbx; have hb := Below.trans (show Below w.heap.size w _ from (by repeat' (first | with_reducible assumption | with_reducible exact Below.refl _ _ | with_reducible refine Below.setCell ?_ ?_ _ | with_reducible refine Below.alloc ?_ ?_ _ | with_reducible apply Below.drew | with_reducible apply Below.drewn | (simp; done) | (simp; omega)))) (hbx.mono (by first | omega | (simp; done) | (simp; omega))); have hz := hb.size; have hl := hbx.size; (try simp only [World.size_alloc, World.size_setCell, World.size_drew] at hl); (try have hs0 : w.heap.size < wx.heap.size := by omega); (try have hs1 : w.heap.size + 1 < wx.heap.size := by omega); clear hl)
    go_wp2
    go_ret
    exact ⟨rfl, (by repeat' (first | with_reducible assumption | with_reducible exact Below.refl _ _ | with_reducible refine Below.setCell ?_ ?_ _ | with_reducible refine Below.alloc ?_ ?_ _ | with_reducible apply Below.drew | with_reducible apply Below.drewn | (simp; done) | (simp; omega)))⟩
  · cases g : zGood n
    · rw [locOf_no (.inr g)]
      have V := Lib.hid v; have G := Lib.hid g; clear v g
      go_enter Try.func18, Try.ntmps18
      (go_wp2_with fail; refine (sZoneValid z _).mono ?_; rw [V.out]; rintro e wx ⟨rfl, hbx⟩; have hC := Below_at hbx; have hF := Below_fr hbx; have hb := Below.trans (show Below w.heap.size w _ from (by repeat' (first | with_reducible assumption | with_reducible exact Below.refl _ _ | with_reducible refine Below.setCell ?_ ?_ _ | with_reducible refine Below.alloc ?_ ?_ _ | with_reducible apply Below.drew | with_reducible apply Below.drewn | (simp; done) | (simp; omega)))) (hbx.mono (by first | omega | (simp; done) | (simp; omega))); have hz := hb.size; have hl := hbx.size; (try simp only [World.size_alloc, World.size_setCell, World.size_drew] at hl); (try have hs0 : w.heap.size < wx.heap.size := by omega); (try have hs1 : w.heap.size + 1 < wx.heap.size := by omega); clear hl)
      go_wp2_with (go_at_call 41; refine (sGood _ _).mono ?_; rw [G.out]; rintro e wq ⟨rfl, rfl⟩)
      go_ret
      exact ⟨rfl, (by repeat' (first | with_reducible assumption | with_reducible exact Below.refl _ _ | with_reducible refine Below.setCell ?_ ?_ _ | with_reducible refine Below.alloc ?_ ?_ _ | with_reducible apply Below.drew | with_reducible apply Below.drewn | (simp; done) | (simp; omega)))⟩
    · rw [locOf_yes v g]
      obtain ⟨o1, o9, s1, s9, _, _⟩ := zv_yes v
      have V := Lib.hid v; have G := Lib.hid g
      have gg := zGood_yes g
      have tw := zOff_two z n
      clear v g
      generalize hx : zOff z n = x at *
      have HX := Lib.hid hx; clear hx
      go_enter Try.func18, Try.ntmps18
      (go_wp2_with fail; refine (sZoneValid z _).mono ?_; rw [V.out]; rintro e wx ⟨rfl, hbx⟩; have hC := Below_at hbx; have hF := Below_fr hbx; have hb := Below.trans (show Below w.heap.size w _ from (by repeat' (first | with_reducible assumption | with_reducible exact Below.refl _ _ | with_reducible refine Below.setCell ?_ ?_ _ | with_reducible refine Below.alloc ?_ ?_ _ | with_reducible apply Below.drew | with_reducible apply Below.drewn | (simp; done) | (simp; omega)))) (hbx.mono (by first | omega | (simp; done) | (simp; omega))); have hz := hb.size; have hl := hbx.size; (try simp only [World.size_alloc, World.size_setCell, World.size_drew] at hl); (try have hs0 : w.heap.size < wx.heap.size := by omega); (try have hs1 : w.heap.size + 1 < wx.heap.size := by omega); clear hl)
      go_wp2_with (go_at_call 41; refine (sGood _ _).mono ?_; rw [G.out]; rintro e wq ⟨rfl, rfl⟩)
      (refine (sOffset z _ _ V.out (by omega)).mono ?_; (rw [HX.out]); rintro e wx ⟨rfl, hbx⟩; have hC := Below_at hbx; have hF := Below_fr hbx; have hb := Below.trans (show Below w.heap.size w _ from (by repeat' (first | with_reducible assumption | with_reducible exact Below.refl _ _ | with_reducible refine Below.setCell ?_ ?_ _ | with_reducible refine Below.alloc ?_ ?_ _ | with_reducible apply Below.drew | with_reducible apply Below.drewn | (simp; done) | (simp; omega)))) (hbx.mono (by first | omega | (simp; done) | (simp; omega))); have hz := hb.size; have hl := hbx.size; (try simp only [World.size_alloc, World.size_setCell, World.size_drew] at hl); (try have hs0 : w.heap.size < wx.heap.size := by omega); (try have hs1 : w.heap.size + 1 < wx.heap.size := by omega); clear hl)
      go_wp2
      go_ret
      exact ⟨rfl, (by repeat' (first | with_reducible assumption | with_reducible exact Below.refl _ _ | with_reducible refine Below.setCell ?_ ?_ _ | with_reducible refine Below.alloc ?_ ?_ _ | with_reducible apply Below.drew | with_reducible apply Below.drewn | (simp; done) | (simp; omega)))⟩

/-- The changes of a year. -/
def chg (z : Zn) (y : Int) : List Int := if zvB z && decide (3 ≤ y ∧ y ≤ 3998) && decide (z.s ≠ 0) then [min (zA z y) (zB z y), max (zA z y) (zB z y)] else []
theorem chg_no {z : Zn} {y : Int} (c : zvB z = false ∨ ¬ (3 ≤ y ∧ y ≤ 3998) ∨ z.s = 0) : chg z y = [] := by
  unfold chg
  rcases c with c | c | c <;> simp [c]
theorem chg_yes {z : Zn} {y : Int} (v : zvB z = true) (h : 3 ≤ y ∧ y ≤ 3998) (s : z.s ≠ 0) : chg z y = [min (zA z y) (zB z y), max (zA z y) (zB z y)] := by
  unfold chg; simp [v, h, s]

/-- A slice of numbers was handed back. -/
def GaveInts (xs : List Int) (w : World) (e : Ending) (w' : World) : Prop := ∃ v, e = .returned v ∧ Ints w' w.heap.size v xs ∧ Below w.heap.size w w'

set_option maxHeartbeats 4000000 in
theorem sChangesOf (z : Zn) (y : Int) (w : World) :
    Calls Try.prog 39 #[(.agg #[.int .i64 (z.o), .int .i64 (z.s), .int .i64 (z.m), .int .i64 (z.k), .int .i64 (z.d), .int .i64 (z.i), .int .i64 (z.m'), .int .i64 (z.k'), .int .i64 (z.d'), .int .i64 (z.i')]), .int .i64 y] w (GaveInts (chg z y) w) := by
  cases v : zvB z
  · rw [chg_no (.inl v)]
    have V := Lib.hid v; clear v
    go_enter Try.func39, Try.ntmps39
    (go_wp2_with fail; refine (sZoneValid z _).mono ?_; rw [V.out]; rintro e wx ⟨rfl, hbx⟩; have hC := Below_at hbx; have hF := Below_fr hbx; have hb := Below.trans (show Below w.heap.size w _ from (by repeat' (first | with_reducible assumption | with_reducible exact Below.refl _ _ | with_reducible refine Below.setCell ?_ ?_ _ | with_reducible refine Below.alloc ?_ ?_ _ | with_reducible apply Below.drew | with_reducible apply Below.drewn | (simp; done) | (simp; omega)))) (hbx.mono (by first | omega | (simp; done) | (simp; omega))); have hz := hb.size; have hl := hbx.size; (try simp only [World.size_alloc, World.size_setCell, World.size_drew] at hl); (try have hs0 : w.heap.size < wx.heap.size := by omega); (try have hs1 : w.heap.size + 1 < wx.heap.size := by omega); clear hl)
    go_wp2
    go_ret
    exact ⟨_, rfl, Ints.none _ _ _, (by repeat' (first | with_reducible assumption | with_reducible exact Below.refl _ _ | with_reducible refine Below.setCell ?_ ?_ _ | with_reducible refine Below.alloc ?_ ?_ _ | with_reducible apply Below.drew | with_reducible apply Below.drewn | (simp; done) | (simp; omega)))⟩
  · by_cases hy : 3 ≤ y ∧ y ≤ 3998
    · by_cases s0 : z.s = 0
      · rw [chg_no (.inr (.inr s0))]
        have V := Lib.hid v; clear v
        obtain ⟨y1, y9⟩ := hy
        have s0' : (z.s == 0) = true := by simpa using s0
        clear s0
        go_enter Try.func39, Try.ntmps39
        (go_wp2_with fail; refine (sZoneValid z _).mono ?_; rw [V.out]; rintro e wx ⟨rfl, hbx⟩; have hC := Below_at hbx; have hF := Below_fr hbx; have hb := Below.trans (show Below w.heap.size w _ from (by repeat' (first | with_reducible assumption | with_reducible exact Below.refl _ _ | with_reducible refine Below.setCell ?_ ?_ _ | with_reducible refine Below.alloc ?_ ?_ _ | with_reducible apply Below.drew | with_reducible apply Below.drewn | (simp; done) | (simp; omega)))) (hbx.mono (by first | omega | (simp; done) | (simp; omega))); have hz := hb.size; have hl := hbx.size; (try simp only [World.size_alloc, World.size_setCell, World.size_drew] at hl); (try have hs0 : w.heap.size < wx.heap.size := by omega); (try have hs1 : w.heap.size + 1 < wx.heap.size := by omega); clear hl)
        go_wp2_with (go_at_call 51; refine (l1In_yes _ _ _ _ (by omega) (by omega)).mono ?_; rintro e wq ⟨rfl, rfl⟩)
        go_ret
        exact ⟨_, rfl, Ints.none _ _ _, (by repeat' (first | with_reducible assumption | with_reducible exact Below.refl _ _ | with_reducible refine Below.setCell ?_ ?_ _ | with_reducible refine Below.alloc ?_ ?_ _ | with_reducible apply Below.drew | with_reducible apply Below.drewn | (simp; done) | (simp; omega)))⟩
      · rw [chg_yes v hy s0]
        obtain ⟨o1, o9, s1, s9, _, _⟩ := zv_yes v
        have V := Lib.hid v; clear v
        obtain ⟨y1, y9⟩ := hy
        have s0' : (z.s == 0) = false := by simpa using s0
        generalize hA : zA z y = A at *
        generalize hB : zB z y = B at *
        have HA := Lib.hid hA; have HB := Lib.hid hB; clear hA hB
        go_enter Try.func39, Try.ntmps39
        (go_wp2_with fail; refine (sZoneValid z _).mono ?_; rw [V.out]; rintro e wx ⟨rfl, hbx⟩; have hC := Below_at hbx; have hF := Below_fr hbx; have hb := Below.trans (show Below w.heap.size w _ from (by repeat' (first | with_reducible assumption | with_reducible exact Below.refl _ _ | with_reducible refine Below.setCell ?_ ?_ _ | with_reducible refine Below.alloc ?_ ?_ _ | with_reducible apply Below.drew | with_reducible apply Below.drewn | (simp; done) | (simp; omega)))) (hbx.mono (by first | omega | (simp; done) | (simp; omega))); have hz := hb.size; have hl := hbx.size; (try simp only [World.size_alloc, World.size_setCell, World.size_drew] at hl); (try have hs0 : w.heap.size < wx.heap.size := by omega); (try have hs1 : w.heap.size + 1 < wx.heap.size := by omega); clear hl)
        go_wp2_with (go_at_call 51; refine (l1In_yes _ _ _ _ (by omega) (by omega)).mono ?_; rintro e wq ⟨rfl, rfl⟩)
        (refine (sStarts z _ _ (by omega) (by omega)).mono ?_; (rw [HA.out, HB.out]); rintro e wx ⟨rfl, hbx⟩; have hC := Below_at hbx; have hF := Below_fr hbx; have hb := Below.trans (show Below w.heap.size w _ from (by repeat' (first | with_reducible assumption | with_reducible exact Below.refl _ _ | with_reducible refine Below.setCell ?_ ?_ _ | with_reducible refine Below.alloc ?_ ?_ _ | with_reducible apply Below.drew | with_reducible apply Below.drewn | (simp; done) | (simp; omega)))) (hbx.mono (by first | omega | (simp; done) | (simp; omega))); have hz := hb.size; have hl := hbx.size; (try simp only [World.size_alloc, World.size_setCell, World.size_drew] at hl); (try have hs0 : w.heap.size < wx.heap.size := by omega); (try have hs1 : w.heap.size + 1 < wx.heap.size := by omega); clear hl)
        go_wp2
        all_goals
          go_ret
          exact ⟨_, rfl, Ints.made _ _ _ [min A B, max A B] (by simp; omega) (by simp) (by have := hb.size; omega), (by repeat' (first | with_reducible assumption | with_reducible exact Below.refl _ _ | with_reducible refine Below.setCell ?_ ?_ _ | with_reducible refine Below.alloc ?_ ?_ _ | with_reducible apply Below.drew | with_reducible apply Below.drewn | (simp; done) | (simp; omega)))⟩
    · rw [chg_no (.inr (.inl hy))]
      have V := Lib.hid v; clear v
      have hy' : y < 3 ∨ 3998 < y := by omega
      have HY := Lib.hid hy'; clear hy hy'
      go_enter Try.func39, Try.ntmps39
      (go_wp2_with fail; refine (sZoneValid z _).mono ?_; rw [V.out]; rintro e wx ⟨rfl, hbx⟩; have hC := Below_at hbx; have hF := Below_fr hbx; have hb := Below.trans (show Below w.heap.size w _ from (by repeat' (first | with_reducible assumption | with_reducible exact Below.refl _ _ | with_reducible refine Below.setCell ?_ ?_ _ | with_reducible refine Below.alloc ?_ ?_ _ | with_reducible apply Below.drew | with_reducible apply Below.drewn | (simp; done) | (simp; omega)))) (hbx.mono (by first | omega | (simp; done) | (simp; omega))); have hz := hb.size; have hl := hbx.size; (try simp only [World.size_alloc, World.size_setCell, World.size_drew] at hl); (try have hs0 : w.heap.size < wx.heap.size := by omega); (try have hs1 : w.heap.size + 1 < wx.heap.size := by omega); clear hl)
      go_wp2_with (go_at_call 51; refine (l1In_no _ _ _ _ HY.out).mono ?_; rintro e wq ⟨rfl, rfl⟩)
      go_ret
      exact ⟨_, rfl, Ints.none _ _ _, (by repeat' (first | with_reducible assumption | with_reducible exact Below.refl _ _ | with_reducible refine Below.setCell ?_ ?_ _ | with_reducible refine Below.alloc ?_ ?_ _ | with_reducible apply Below.drew | with_reducible apply Below.drewn | (simp; done) | (simp; omega)))⟩
end Go.Proofs.Ytlmmianaplahaaa
