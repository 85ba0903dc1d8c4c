/-
  CONTRACTS OF CHAPTER 4 OF THE PROGRAM: what its functions on zones return.
-/
import Derived.Test.YtlmmianaplahaaaZones
import Derived.Test.YtlmmianaplahaaaMoms
import Derived.Deep.CutRange
set_option linter.unusedVariables false
set_option linter.unusedSimpArgs false
namespace Go.Proofs.Ytlmmianaplahaaa
open Go.ChangeShapes Go.WideShapes Go.ChangeAt Go.RowKit Cal

set_option maxHeartbeats 4000000 in
theorem iZoneValid (z : Zn) (w : World) :
    Calls Try.prog 46 #[(.agg #[.int .i64 (z.o), .int .i64 (z.s), .int .i64 (z.m), .int .i64 (z.k), .int .i64 (z.d), .int .i64 (z.i), .int .i64 (z.m'), .int .i64 (z.k'), .int .i64 (z.d'), .int .i64 (z.i')])] w fun e w' => e = .returned (.bool (zvB z)) ∧ Below w.heap.size w w' := by
  by_cases c : z.s = 0
  · unfold zvB
    rw [if_pos c]
    go_enter Try.func46, Try.ntmps46
    go_wp2
    all_goals
      go_ret
      exact ⟨ret_bool (by simp [noRule, *] <;> omega), (by repeat' (first | with_reducible assumption | with_reducible exact Below.refl _ _ | with_reducible refine Below.setCell ?_ ?_ _ | with_reducible refine Below.alloc ?_ ?_ _ | with_reducible apply Below.drew | with_reducible apply Below.drewn | (simp; done) | (simp; omega)))⟩
  · unfold zvB
    rw [if_neg c]
    have c' : (z.s == 0) = false := by simpa using c
    have hap : apart z.m z.m' = (decide (2 ≤ z.m - z.m') || decide (z.m - z.m' ≤ -2)) := by unfold apart; rw [Bool.eq_iff_iff]; simp; omega
    rw [hap]
    by_cases c1 : -720 ≤ z.o ∧ z.o ≤ 840
    · by_cases c2 : 0 ≤ z.s ∧ z.s ≤ 120
      · rw [decide_eq_true c1, decide_eq_true c2]
        obtain ⟨c11, c12⟩ := c1
        obtain ⟨c21, c22⟩ := c2
        cases h1 : rvB z.m z.k z.d z.i
        · have H1 := Lib.hid h1; clear h1 hap
          go_enter Try.func46, Try.ntmps46
          (go_wp2_with fail; refine (iRuleValid _ _ _ _ _).mono ?_; rw [H1.out]; rintro e wx ⟨rfl, hbx⟩; have hC := Below_at hbx; have hF := Below_fr hbx; have hb := Below.trans (show Below w.heap.size w _ from (by repeat' (first | with_reducible assumption | with_reducible exact Below.refl _ _ | with_reducible refine Below.setCell ?_ ?_ _ | with_reducible refine Below.alloc ?_ ?_ _ | with_reducible apply Below.drew | with_reducible apply Below.drewn | (simp; done) | (simp; omega)))) (hbx.mono (by first | omega | (simp; done) | (simp; omega))); have hz := hb.size; have hl := hbx.size; (try simp only [World.size_alloc, World.size_setCell, World.size_drew] at hl); (try have hs0 : w.heap.size < wx.heap.size := by omega); (try have hs1 : w.heap.size + 1 < wx.heap.size := by omega); clear hl)
          go_wp2
          go_ret
          exact ⟨rfl, (by repeat' (first | with_reducible assumption | with_reducible exact Below.refl _ _ | with_reducible refine Below.setCell ?_ ?_ _ | with_reducible refine Below.alloc ?_ ?_ _ | with_reducible apply Below.drew | with_reducible apply Below.drewn | (simp; done) | (simp; omega)))⟩
        · have i1 := rv_yes h1
          have H1 := Lib.hid h1; clear h1 hap
          cases h2 : rvB z.m' z.k' z.d' z.i'
          · have H2 := Lib.hid h2; clear h2
            go_enter Try.func46, Try.ntmps46
            (go_wp2_with fail; refine (iRuleValid _ _ _ _ _).mono ?_; rw [H1.out]; rintro e wx ⟨rfl, hbx⟩; have hC := Below_at hbx; have hF := Below_fr hbx; have hb := Below.trans (show Below w.heap.size w _ from (by repeat' (first | with_reducible assumption | with_reducible exact Below.refl _ _ | with_reducible refine Below.setCell ?_ ?_ _ | with_reducible refine Below.alloc ?_ ?_ _ | with_reducible apply Below.drew | with_reducible apply Below.drewn | (simp; done) | (simp; omega)))) (hbx.mono (by first | omega | (simp; done) | (simp; omega))); have hz := hb.size; have hl := hbx.size; (try simp only [World.size_alloc, World.size_setCell, World.size_drew] at hl); (try have hs0 : w.heap.size < wx.heap.size := by omega); (try have hs1 : w.heap.size + 1 < wx.heap.size := by omega); clear hl)
            (go_wp2_with fail; refine (iRuleValid _ _ _ _ _).mono ?_; rw [H2.out]; rintro e wx ⟨rfl, hbx⟩; have hC := Below_at hbx; have hF := Below_fr hbx; have hb := Below.trans (show Below w.heap.size w _ from (by repeat' (first | with_reducible assumption | with_reducible exact Below.refl _ _ | with_reducible refine Below.setCell ?_ ?_ _ | with_reducible refine Below.alloc ?_ ?_ _ | with_reducible apply Below.drew | with_reducible apply Below.drewn | (simp; done) | (simp; omega)))) (hbx.mono (by first | omega | (simp; done) | (simp; omega))); have hz := hb.size; have hl := hbx.size; (try simp only [World.size_alloc, World.size_setCell, World.size_drew] at hl); (try have hs0 : w.heap.size < wx.heap.size := by omega); (try have hs1 : w.heap.size + 1 < wx.heap.size := by omega); clear hl)
            go_wp2
            go_ret
            exact ⟨rfl, (by repeat' (first | with_reducible assumption | with_reducible exact Below.refl _ _ | with_reducible refine Below.setCell ?_ ?_ _ | with_reducible refine Below.alloc ?_ ?_ _ | with_reducible apply Below.drew | with_reducible apply Below.drewn | (simp; done) | (simp; omega)))⟩
          · have i2 := rv_yes h2
            have H2 := Lib.hid h2; clear h2
            have w1 : IntKind.i64.wrap (z.m - z.m') = z.m - z.m' := IntWalk.i64_in _ (by omega)
            go_enter Try.func46, Try.ntmps46
            (go_wp2_with fail; refine (iRuleValid _ _ _ _ _).mono ?_; rw [H1.out]; rintro e wx ⟨rfl, hbx⟩; have hC := Below_at hbx; have hF := Below_fr hbx; have hb := Below.trans (show Below w.heap.size w _ from (by repeat' (first | with_reducible assumption | with_reducible exact Below.refl _ _ | with_reducible refine Below.setCell ?_ ?_ _ | with_reducible refine Below.alloc ?_ ?_ _ | with_reducible apply Below.drew | with_reducible apply Below.drewn | (simp; done) | (simp; omega)))) (hbx.mono (by first | omega | (simp; done) | (simp; omega))); have hz := hb.size; have hl := hbx.size; (try simp only [World.size_alloc, World.size_setCell, World.size_drew] at hl); (try have hs0 : w.heap.size < wx.heap.size := by omega); (try have hs1 : w.heap.size + 1 < wx.heap.size := by omega); clear hl)
            (go_wp2_with fail; refine (iRuleValid _ _ _ _ _).mono ?_; rw [H2.out]; rintro e wx ⟨rfl, hbx⟩; have hC := Below_at hbx; have hF := Below_fr hbx; have hb := Below.trans (show Below w.heap.size w _ from (by repeat' (first | with_reducible assumption | with_reducible exact Below.refl _ _ | with_reducible refine Below.setCell ?_ ?_ _ | with_reducible refine Below.alloc ?_ ?_ _ | with_reducible apply Below.drew | with_reducible apply Below.drewn | (simp; done) | (simp; omega)))) (hbx.mono (by first | omega | (simp; done) | (simp; omega))); have hz := hb.size; have hl := hbx.size; (try simp only [World.size_alloc, World.size_setCell, World.size_drew] at hl); (try have hs0 : w.heap.size < wx.heap.size := by omega); (try have hs1 : w.heap.size + 1 < wx.heap.size := by omega); clear hl)
            go_wp2
            all_goals
              go_ret
              exact ⟨ret_bool (by rw [Bool.eq_iff_iff]; first | done | (simp; done) | (simp; omega)), (by repeat' (first | with_reducible assumption | with_reducible exact Below.refl _ _ | with_reducible refine Below.setCell ?_ ?_ _ | with_reducible refine Below.alloc ?_ ?_ _ | with_reducible apply Below.drew | with_reducible apply Below.drewn | (simp; done) | (simp; omega)))⟩
      · rw [decide_eq_false c2]
        obtain ⟨c11, c12⟩ := c1
        clear hap
        rcases (show z.s < 0 ∨ 120 < z.s by omega) with c3 | c3
        all_goals
          clear c2
          go_enter Try.func46, Try.ntmps46
          go_wp2
          go_ret
          exact ⟨ret_bool (by simp), (by repeat' (first | with_reducible assumption | with_reducible exact Below.refl _ _ | with_reducible refine Below.setCell ?_ ?_ _ | with_reducible refine Below.alloc ?_ ?_ _ | with_reducible apply Below.drew | with_reducible apply Below.drewn | (simp; done) | (simp; omega)))⟩
    · rw [decide_eq_false c1]
      clear hap
      rcases (show z.o < -720 ∨ 840 < z.o by omega) with c3 | c3
      all_goals
        clear c1
        go_enter Try.func46, Try.ntmps46
        go_wp2
        go_ret
        exact ⟨ret_bool (by simp), (by repeat' (first | with_reducible assumption | with_reducible exact Below.refl _ _ | with_reducible refine Below.setCell ?_ ?_ _ | with_reducible refine Below.alloc ?_ ?_ _ | with_reducible apply Below.drew | with_reducible apply Below.drewn | (simp; done) | (simp; omega)))⟩

theorem st_year (a b c d e f : Value) (w : World) : Sem.run Try.prog (Instr.field 56 (.agg #[a, b, c, d, e, f]) 0) w = .ok a w := by kernel_rfl

set_option maxHeartbeats 4000000 in
theorem iYearAt (z : Zn) (n : Int) (w : World) (ho : -100000 ≤ z.o ∧ z.o ≤ 100000) (hn : 10000000 ≤ n ∧ n ≤ 126220000000) :
    Calls Try.prog 48 #[(.agg #[.int .i64 (z.o), .int .i64 (z.s), .int .i64 (z.m), .int .i64 (z.k), .int .i64 (z.d), .int .i64 (z.i), .int .i64 (z.m'), .int .i64 (z.k'), .int .i64 (z.d'), .int .i64 (z.i')]), .int .i64 n] w fun e w' => e = .returned (.int .i64 (zY z n)) ∧ Below w.heap.size w w' := by
  have w1 : IntKind.i64.wrap (z.o * 60) = z.o * 60 := IntWalk.i64_in _ (by omega)
  have w2 : IntKind.i64.wrap (n + z.o * 60) = n + z.o * 60 := IntWalk.i64_in _ (by omega)
  have hy : tY (n + z.o * 60) = zY z n := by
    unfold tY zY
    first | rfl | (rw [if_pos (by omega)])
  have HY := Lib.hid hy; clear hy
  have SY := st_year
  go_enter Try.func48, Try.ntmps48
  (go_wp2_with fail; refine (iStampOf _ _).mono ?_; rw [HY.out]; rintro e wx ⟨rfl, hbx⟩; have hC := Below_at hbx; have hF := Below_fr hbx; have hb := Below.trans (show Below w.heap.size w _ from (by repeat' (first | with_reducible assumption | with_reducible exact Below.refl _ _ | with_reducible refine Below.setCell ?_ ?_ _ | with_reducible refine Below.alloc ?_ ?_ _ | with_reducible apply Below.drew | with_reducible apply Below.drewn | (simp; done) | (simp; omega)))) (hbx.mono (by first | omega | (simp; done) | (simp; omega))); have hz := hb.size; have hl := hbx.size; (try simp only [World.size_alloc, World.size_setCell, World.size_drew] at hl); (try have hs0 : w.heap.size < wx.heap.size := by omega); (try have hs1 : w.heap.size + 1 < wx.heap.size := by omega); clear hl)
  go_wp2
  go_ret
  exact ⟨rfl, (by repeat' (first | with_reducible assumption | with_reducible exact Below.refl _ _ | with_reducible refine Below.setCell ?_ ?_ _ | with_reducible refine Below.alloc ?_ ?_ _ | with_reducible apply Below.drew | with_reducible apply Below.drewn | (simp; done) | (simp; omega)))⟩

set_option maxHeartbeats 4000000 in
theorem iSummerStart (z : Zn) (y : Int) (w : World) (ho : -100000 ≤ z.o ∧ z.o ≤ 100000) :
    Calls Try.prog 53 #[(.agg #[.int .i64 (z.o), .int .i64 (z.s), .int .i64 (z.m), .int .i64 (z.k), .int .i64 (z.d), .int .i64 (z.i), .int .i64 (z.m'), .int .i64 (z.k'), .int .i64 (z.d'), .int .i64 (z.i')]), .int .i64 y] w fun e w' => e = .returned (.int .i64 (zA z y)) ∧ Below w.heap.size w w' := by
  have b1 := ruleMom_bd z.m z.k z.d z.i y
  have hS := (ten_at (Below.refl w.heap.size w) (.int .i64 (z.o)) (.int .i64 (z.s)) (.int .i64 (z.m)) (.int .i64 (z.k)) (.int .i64 (z.d)) (.int .i64 (z.i)) (.int .i64 (z.m')) (.int .i64 (z.k')) (.int .i64 (z.d')) (.int .i64 (z.i')) 26)
  unfold zA
  generalize hA : ruleMom z.m z.k z.d z.i y = A at *
  have HA := Lib.hid hA; clear hA
  have w1 : IntKind.i64.wrap (z.o * 60) = z.o * 60 := IntWalk.i64_in _ (by omega)
  have w2 : IntKind.i64.wrap (A - z.o * 60) = A - z.o * 60 := IntWalk.i64_in _ (by omega)
  go_enter Try.func53, Try.ntmps53
  go_wp2_with fail
  go_region_held3 (fun w' => Below w.heap.size w w' ∧ w'.cell? ⟨w.heap.size, 0, none⟩ = some (.int .i64 (z.o)) ∧ w'.cell? ⟨w.heap.size, 1, none⟩ = some (.int .i64 (z.s)) ∧ w'.cell? ⟨w.heap.size, 2, none⟩ = some (.int .i64 (z.m)) ∧ w'.cell? ⟨w.heap.size, 3, none⟩ = some (.int .i64 (z.k)) ∧ w'.cell? ⟨w.heap.size, 4, none⟩ = some (.int .i64 (z.d)) ∧ w'.cell? ⟨w.heap.size, 5, none⟩ = some (.int .i64 (z.i)) ∧ w'.cell? ⟨w.heap.size, 6, none⟩ = some (.int .i64 (z.m')) ∧ w'.cell? ⟨w.heap.size, 7, none⟩ = some (.int .i64 (z.k')) ∧ w'.cell? ⟨w.heap.size, 8, none⟩ = some (.int .i64 (z.d')) ∧ w'.cell? ⟨w.heap.size, 9, none⟩ = some (.int .i64 (z.i')))
    (first | exact ten_stays _ _ _ _ _ _ _ _ _ _ _ _ _ _ (Below.refl _ _).drew hS | exact ten_stays _ _ _ _ _ _ _ _ _ _ _ _ _ _ hb3 (by assumption))
    (first | (go_at_call 68; refine (iRuleMoment _ _ _ _ _ _).mono ?_; rw [HA.out]; rintro e w3 ⟨rfl, hb3⟩))
  all_goals go_wp2
  (have hhh : (fun w' => Below w.heap.size w w' ∧ w'.cell? ⟨w.heap.size, 0, none⟩ = some (.int .i64 (z.o)) ∧ w'.cell? ⟨w.heap.size, 1, none⟩ = some (.int .i64 (z.s)) ∧ w'.cell? ⟨w.heap.size, 2, none⟩ = some (.int .i64 (z.m)) ∧ w'.cell? ⟨w.heap.size, 3, none⟩ = some (.int .i64 (z.k)) ∧ w'.cell? ⟨w.heap.size, 4, none⟩ = some (.int .i64 (z.d)) ∧ w'.cell? ⟨w.heap.size, 5, none⟩ = some (.int .i64 (z.i)) ∧ w'.cell? ⟨w.heap.size, 6, none⟩ = some (.int .i64 (z.m')) ∧ w'.cell? ⟨w.heap.size, 7, none⟩ = some (.int .i64 (z.k')) ∧ w'.cell? ⟨w.heap.size, 8, none⟩ = some (.int .i64 (z.d')) ∧ w'.cell? ⟨w.heap.size, 9, none⟩ = some (.int .i64 (z.i'))) _ := (by assumption); have hhb := hhh.1)
  go_ret
  exact ⟨rfl, hhb⟩

theorem iOffsetBefore_none (z : Zn) (w : World) :
    Calls Try.prog 66 #[(.agg #[.int .i64 (z.o), .int .i64 (z.s), .int .i64 (z.m), .int .i64 (z.k), .int .i64 (z.d), .int .i64 (z.i), .int .i64 (z.m'), .int .i64 (z.k'), .int .i64 (z.d'), .int .i64 (z.i')]), .slice none 0 0] w fun e w' => e = .returned (.int .i64 z.o) ∧ Below w.heap.size w w' := by
  go_enter Try.func66, Try.ntmps66
  go_wp2
  go_ret
  exact ⟨rfl, (by repeat' (first | with_reducible assumption | with_reducible exact Below.refl _ _ | with_reducible refine Below.setCell ?_ ?_ _ | with_reducible refine Below.alloc ?_ ?_ _ | with_reducible apply Below.drew | with_reducible apply Below.drewn | (simp; done) | (simp; omega)))⟩
theorem iOffsetBefore_two (z : Zn) (g : Nat) (u : Int) (w : World) (hg : g < w.heap.size) (h3 : w.cell? ⟨g, 3, none⟩ = some (.int .i64 u)) :
    Calls Try.prog 66 #[(.agg #[.int .i64 (z.o), .int .i64 (z.s), .int .i64 (z.m), .int .i64 (z.k), .int .i64 (z.d), .int .i64 (z.i), .int .i64 (z.m'), .int .i64 (z.k'), .int .i64 (z.d'), .int .i64 (z.i')]), .slice (some ⟨g, 0, none⟩) 2 2] w fun e w' => e = .returned (.int .i64 u) ∧ Below w.heap.size w w' := by
  go_enter Try.func66, Try.ntmps66
  go_wp2
  go_ret
  exact ⟨rfl, (by repeat' (first | with_reducible assumption | with_reducible exact Below.refl _ _ | with_reducible refine Below.setCell ?_ ?_ _ | with_reducible refine Below.alloc ?_ ?_ _ | with_reducible apply Below.drew | with_reducible apply Below.drewn | (simp; done) | (simp; omega)))⟩
theorem alloc_swap (w : World) (o1 o2 : Obj) : Below w.heap.size (w.alloc o1) (w.alloc o2) := by
  refine ⟨rfl, rfl, rfl, by simp, fun b hb => ?_⟩
  rw [Below.heap_alloc _ _ _ hb, Below.heap_alloc _ _ _ hb]
theorem zsz_low {z : Zn} {w w1 w2 : World} {N b : Nat} (k : Below N w1 w2) (hN : b < N) (hw : w.heap.size ≤ b) (h : (fun w' => b < w'.heap.size ∧ Below w.heap.size w w' ∧ w'.cell? ⟨b, 0, none⟩ = some (.int .i64 (z.o)) ∧ w'.cell? ⟨b, 1, none⟩ = some (.int .i64 (z.s)) ∧ w'.cell? ⟨b, 2, none⟩ = some (.int .i64 (z.m)) ∧ w'.cell? ⟨b, 3, none⟩ = some (.int .i64 (z.k)) ∧ w'.cell? ⟨b, 4, none⟩ = some (.int .i64 (z.d)) ∧ w'.cell? ⟨b, 5, none⟩ = some (.int .i64 (z.i)) ∧ w'.cell? ⟨b, 6, none⟩ = some (.int .i64 (z.m')) ∧ w'.cell? ⟨b, 7, none⟩ = some (.int .i64 (z.k')) ∧ w'.cell? ⟨b, 8, none⟩ = some (.int .i64 (z.d')) ∧ w'.cell? ⟨b, 9, none⟩ = some (.int .i64 (z.i'))) w1) : (fun w' => b < w'.heap.size ∧ Below w.heap.size w w' ∧ w'.cell? ⟨b, 0, none⟩ = some (.int .i64 (z.o)) ∧ w'.cell? ⟨b, 1, none⟩ = some (.int .i64 (z.s)) ∧ w'.cell? ⟨b, 2, none⟩ = some (.int .i64 (z.m)) ∧ w'.cell? ⟨b, 3, none⟩ = some (.int .i64 (z.k)) ∧ w'.cell? ⟨b, 4, none⟩ = some (.int .i64 (z.d)) ∧ w'.cell? ⟨b, 5, none⟩ = some (.int .i64 (z.i)) ∧ w'.cell? ⟨b, 6, none⟩ = some (.int .i64 (z.m')) ∧ w'.cell? ⟨b, 7, none⟩ = some (.int .i64 (z.k')) ∧ w'.cell? ⟨b, 8, none⟩ = some (.int .i64 (z.d')) ∧ w'.cell? ⟨b, 9, none⟩ = some (.int .i64 (z.i'))) w2 := by
  obtain ⟨hs, hb, c0, c1, c2, c3, c4, c5, c6, c7, c8, c9⟩ := h
  have c := fun o => Below_at k b o hN
  exact ⟨Nat.lt_of_lt_of_le hs k.size, hb.trans (k.mono (by omega)), (c _).trans c0, (c _).trans c1, (c _).trans c2, (c _).trans c3, (c _).trans c4, (c _).trans c5, (c _).trans c6, (c _).trans c7, (c _).trans c8, (c _).trans c9⟩

theorem zsy_low {z : Zn} {w w1 w2 : World} {N b c : Nat} {p x : Int} (k : Below N w1 w2) (hN : b < N) (hM : c < N) (hw : w.heap.size ≤ b) (h : (fun w' => b < w'.heap.size ∧ Below w.heap.size w w' ∧ w'.cell? ⟨b, 0, none⟩ = some (.int .i64 (z.o)) ∧ w'.cell? ⟨b, 1, none⟩ = some (.int .i64 (z.s)) ∧ w'.cell? ⟨b, 2, none⟩ = some (.int .i64 (z.m)) ∧ w'.cell? ⟨b, 3, none⟩ = some (.int .i64 (z.k)) ∧ w'.cell? ⟨b, 4, none⟩ = some (.int .i64 (z.d)) ∧ w'.cell? ⟨b, 5, none⟩ = some (.int .i64 (z.i)) ∧ w'.cell? ⟨b, 6, none⟩ = some (.int .i64 (z.m')) ∧ w'.cell? ⟨b, 7, none⟩ = some (.int .i64 (z.k')) ∧ w'.cell? ⟨b, 8, none⟩ = some (.int .i64 (z.d')) ∧ w'.cell? ⟨b, 9, none⟩ = some (.int .i64 (z.i')) ∧ c < w'.heap.size ∧ w'.cell? ⟨c, 0, none⟩ = some (.int .i64 (p)) ∧ w'.cell? ⟨c, 1, none⟩ = some (.int .i64 (x))) w1) : (fun w' => b < w'.heap.size ∧ Below w.heap.size w w' ∧ w'.cell? ⟨b, 0, none⟩ = some (.int .i64 (z.o)) ∧ w'.cell? ⟨b, 1, none⟩ = some (.int .i64 (z.s)) ∧ w'.cell? ⟨b, 2, none⟩ = some (.int .i64 (z.m)) ∧ w'.cell? ⟨b, 3, none⟩ = some (.int .i64 (z.k)) ∧ w'.cell? ⟨b, 4, none⟩ = some (.int .i64 (z.d)) ∧ w'.cell? ⟨b, 5, none⟩ = some (.int .i64 (z.i)) ∧ w'.cell? ⟨b, 6, none⟩ = some (.int .i64 (z.m')) ∧ w'.cell? ⟨b, 7, none⟩ = some (.int .i64 (z.k')) ∧ w'.cell? ⟨b, 8, none⟩ = some (.int .i64 (z.d')) ∧ w'.cell? ⟨b, 9, none⟩ = some (.int .i64 (z.i')) ∧ c < w'.heap.size ∧ w'.cell? ⟨c, 0, none⟩ = some (.int .i64 (p)) ∧ w'.cell? ⟨c, 1, none⟩ = some (.int .i64 (x))) w2 := by
  obtain ⟨hs, hb, c0, c1, c2, c3, c4, c5, c6, c7, c8, c9, d, d0, d1⟩ := h
  have f := fun o => Below_at k b o hN
  have g := fun o => Below_at k c o hM
  exact ⟨Nat.lt_of_lt_of_le hs k.size, hb.trans (k.mono (by omega)), (f _).trans c0, (f _).trans c1, (f _).trans c2, (f _).trans c3, (f _).trans c4, (f _).trans c5, (f _).trans c6, (f _).trans c7, (f _).trans c8, (f _).trans c9, Nat.lt_of_lt_of_le d k.size, (g _).trans d0, (g _).trans d1⟩

theorem two_cells {W : World} {c : Nat} {u0 u1 : Value} (h0 : W.cell? ⟨c, 0, none⟩ = some u0) (h1 : W.cell? ⟨c, 1, none⟩ = some u1) (v0 v1 : Value) :
    ((W.setCell ⟨c, 0, none⟩ v0).setCell ⟨c, 1, none⟩ v1).cell? ⟨c, 0, none⟩ = some v0 ∧ ((W.setCell ⟨c, 0, none⟩ v0).setCell ⟨c, 1, none⟩ v1).cell? ⟨c, 1, none⟩ = some v1 := by
  refine ⟨?_, World.cell?_setCell_same _ _ _ (u := u1) ?_⟩
  · rw [World.cell?_setCell_other _ _ _ _ (by simp)]
    exact World.cell?_setCell_same _ _ _ h0
  · rw [World.cell?_setCell_other _ _ _ _ (by simp)]
    exact h1

theorem iChanges_none (z : Zn) (y : Int) (w : World) (s0 : (z.s == 0) = true) :
    Calls Try.prog 60 #[(.agg #[.int .i64 (z.o), .int .i64 (z.s), .int .i64 (z.m), .int .i64 (z.k), .int .i64 (z.d), .int .i64 (z.i), .int .i64 (z.m'), .int .i64 (z.k'), .int .i64 (z.d'), .int .i64 (z.i')]), .int .i64 y] w fun e w' => e = .returned (.slice none 0 0) ∧ Below w.heap.size w w' := by
  go_enter Try.func60, Try.ntmps60
  go_wp2
  go_ret
  exact ⟨rfl, (by repeat' (first | with_reducible assumption | with_reducible exact Below.refl _ _ | with_reducible refine Below.setCell ?_ ?_ _ | with_reducible refine Below.alloc ?_ ?_ _ | with_reducible apply Below.drew | with_reducible apply Below.drewn | (simp; done) | (simp; omega)))⟩

/-- Two changes were handed back: at p, from which on the offset is x, and at q, from which on it is u. -/
def GaveTwo (p x q u : Int) (w : World) (e : Ending) (w' : World) : Prop := ∃ g, e = .returned (.slice (some ⟨g, 0, none⟩) 2 2) ∧ w.heap.size ≤ g ∧ g < w'.heap.size ∧
  w'.cell? ⟨g, 0, none⟩ = some (.int .i64 p) ∧ w'.cell? ⟨g, 1, none⟩ = some (.int .i64 x) ∧ w'.cell? ⟨g, 2, none⟩ = some (.int .i64 q) ∧ w'.cell? ⟨g, 3, none⟩ = some (.int .i64 u) ∧ Below w.heap.size w w'

set_option maxHeartbeats 4000000 in
theorem iChanges_two (z : Zn) (y : Int) (w : World) (s0 : (z.s == 0) = false) (ho : -100000 ≤ z.o ∧ z.o ≤ 100000) (hs : -100000 ≤ z.s ∧ z.s ≤ 100000) :
    Calls Try.prog 60 #[(.agg #[.int .i64 (z.o), .int .i64 (z.s), .int .i64 (z.m), .int .i64 (z.k), .int .i64 (z.d), .int .i64 (z.i), .int .i64 (z.m'), .int .i64 (z.k'), .int .i64 (z.d'), .int .i64 (z.i')]), .int .i64 y] w (if zB z y < zA z y then GaveTwo (zB z y) z.o (zA z y) (z.o + z.s) w else GaveTwo (zA z y) (z.o + z.s) (zB z y) z.o w) := by
  have b2 := ruleMom_bd z.m' z.k' z.d' z.i' y
  have hS := (ten_at (Below.refl w.heap.size w) (.int .i64 (z.o)) (.int .i64 (z.s)) (.int .i64 (z.m)) (.int .i64 (z.k)) (.int .i64 (z.d)) (.int .i64 (z.i)) (.int .i64 (z.m')) (.int .i64 (z.k')) (.int .i64 (z.d')) (.int .i64 (z.i')) 26)
  have cs := fun w => iSummerStart z y w ho
  unfold zB
  generalize zA z y = P at *
  generalize hB : ruleMom z.m' z.k' z.d' z.i' y = B at *
  have HB := Lib.hid hB; have CS := Lib.hid cs
  clear hB cs
  have w3 : IntKind.i64.wrap (z.o + z.s) = z.o + z.s := IntWalk.i64_in _ (by omega)
  have w4 : IntKind.i64.wrap ((z.o + z.s) * 60) = (z.o + z.s) * 60 := IntWalk.i64_in _ (by omega)
  have w5 : IntKind.i64.wrap (B - (z.o + z.s) * 60) = B - (z.o + z.s) * 60 := IntWalk.i64_in _ (by omega)
  have hZ : (fun w' => w.heap.size < w'.heap.size ∧ Below w.heap.size w w' ∧ w'.cell? ⟨w.heap.size, 0, none⟩ = some (.int .i64 (z.o)) ∧ w'.cell? ⟨w.heap.size, 1, none⟩ = some (.int .i64 (z.s)) ∧ w'.cell? ⟨w.heap.size, 2, none⟩ = some (.int .i64 (z.m)) ∧ w'.cell? ⟨w.heap.size, 3, none⟩ = some (.int .i64 (z.k)) ∧ w'.cell? ⟨w.heap.size, 4, none⟩ = some (.int .i64 (z.d)) ∧ w'.cell? ⟨w.heap.size, 5, none⟩ = some (.int .i64 (z.i)) ∧ w'.cell? ⟨w.heap.size, 6, none⟩ = some (.int .i64 (z.m')) ∧ w'.cell? ⟨w.heap.size, 7, none⟩ = some (.int .i64 (z.k')) ∧ w'.cell? ⟨w.heap.size, 8, none⟩ = some (.int .i64 (z.d')) ∧ w'.cell? ⟨w.heap.size, 9, none⟩ = some (.int .i64 (z.i'))) (w.alloc (.cells #[.int .i64 z.o, .int .i64 z.s, .int .i64 z.m, .int .i64 z.k, .int .i64 z.d, .int .i64 z.i, .int .i64 z.m', .int .i64 z.k', .int .i64 z.d', .int .i64 z.i'] 26)) := ⟨by simp, hS⟩
  clear hS
  go_enter Try.func60, Try.ntmps60
  go_upto_region 4 with fail
  go_cut [6] from 16 to 20 (fun s6 wx => (∃ b, s6 = Value.pointer (some ⟨b, 0, none⟩) ∧ w.heap.size < b ∧ b < wx.heap.size ∧ wx.cell? ⟨b, 0, none⟩ = some (.int .i64 P) ∧ wx.cell? ⟨b, 1, none⟩ = some (.int .i64 (z.o + z.s))) ∧ (fun w' => w.heap.size < w'.heap.size ∧ Below w.heap.size w w' ∧ w'.cell? ⟨w.heap.size, 0, none⟩ = some (.int .i64 (z.o)) ∧ w'.cell? ⟨w.heap.size, 1, none⟩ = some (.int .i64 (z.s)) ∧ w'.cell? ⟨w.heap.size, 2, none⟩ = some (.int .i64 (z.m)) ∧ w'.cell? ⟨w.heap.size, 3, none⟩ = some (.int .i64 (z.k)) ∧ w'.cell? ⟨w.heap.size, 4, none⟩ = some (.int .i64 (z.d)) ∧ w'.cell? ⟨w.heap.size, 5, none⟩ = some (.int .i64 (z.i)) ∧ w'.cell? ⟨w.heap.size, 6, none⟩ = some (.int .i64 (z.m')) ∧ w'.cell? ⟨w.heap.size, 7, none⟩ = some (.int .i64 (z.k')) ∧ w'.cell? ⟨w.heap.size, 8, none⟩ = some (.int .i64 (z.d')) ∧ w'.cell? ⟨w.heap.size, 9, none⟩ = some (.int .i64 (z.i'))) wx)
  case first =>
    go_wp2_with fail
    refine (CS.out _).mono ?_
    rintro e w2 ⟨rfl, hb2⟩
    have hC2 := Below_at hb2
    have hF2 := Below_fr hb2
    have hz2 := hb2.size
    simp only [World.size_alloc, World.size_drew] at hz2
    have hZ2 := (show Stays (fun w' => w.heap.size < w'.heap.size ∧ Below w.heap.size w w' ∧ w'.cell? ⟨w.heap.size, 0, none⟩ = some (.int .i64 (z.o)) ∧ w'.cell? ⟨w.heap.size, 1, none⟩ = some (.int .i64 (z.s)) ∧ w'.cell? ⟨w.heap.size, 2, none⟩ = some (.int .i64 (z.m)) ∧ w'.cell? ⟨w.heap.size, 3, none⟩ = some (.int .i64 (z.k)) ∧ w'.cell? ⟨w.heap.size, 4, none⟩ = some (.int .i64 (z.d)) ∧ w'.cell? ⟨w.heap.size, 5, none⟩ = some (.int .i64 (z.i)) ∧ w'.cell? ⟨w.heap.size, 6, none⟩ = some (.int .i64 (z.m')) ∧ w'.cell? ⟨w.heap.size, 7, none⟩ = some (.int .i64 (z.k')) ∧ w'.cell? ⟨w.heap.size, 8, none⟩ = some (.int .i64 (z.d')) ∧ w'.cell? ⟨w.heap.size, 9, none⟩ = some (.int .i64 (z.i'))) from (by repeat' (first | with_reducible exact Stays.below _ | with_reducible exact Stays.cell _ _ _ | with_reducible exact Stays.size _ | with_reducible refine Stays.and ?_ ?_))) _ _ hb2 hZ
    have hZ3 := fun o => (show Stays (fun w' => w.heap.size < w'.heap.size ∧ Below w.heap.size w w' ∧ w'.cell? ⟨w.heap.size, 0, none⟩ = some (.int .i64 (z.o)) ∧ w'.cell? ⟨w.heap.size, 1, none⟩ = some (.int .i64 (z.s)) ∧ w'.cell? ⟨w.heap.size, 2, none⟩ = some (.int .i64 (z.m)) ∧ w'.cell? ⟨w.heap.size, 3, none⟩ = some (.int .i64 (z.k)) ∧ w'.cell? ⟨w.heap.size, 4, none⟩ = some (.int .i64 (z.d)) ∧ w'.cell? ⟨w.heap.size, 5, none⟩ = some (.int .i64 (z.i)) ∧ w'.cell? ⟨w.heap.size, 6, none⟩ = some (.int .i64 (z.m')) ∧ w'.cell? ⟨w.heap.size, 7, none⟩ = some (.int .i64 (z.k')) ∧ w'.cell? ⟨w.heap.size, 8, none⟩ = some (.int .i64 (z.d')) ∧ w'.cell? ⟨w.heap.size, 9, none⟩ = some (.int .i64 (z.i'))) from (by repeat' (first | with_reducible exact Stays.below _ | with_reducible exact Stays.cell _ _ _ | with_reducible exact Stays.size _ | with_reducible refine Stays.and ?_ ?_))) _ _ ((Below.refl _ _).alloc (Nat.le_refl _) o) hZ2
    go_wp2_with fail
    go_meet
    exact ⟨⟨_, rfl, by omega, by simp, by go_simp, by go_simp⟩, hZ3 _⟩
  case rest =>
    obtain ⟨⟨b, rfl, hb0, hb1, hc0, hc1⟩, hZc⟩ := hcut
    have hY : (fun w' => w.heap.size < w'.heap.size ∧ Below w.heap.size w w' ∧ w'.cell? ⟨w.heap.size, 0, none⟩ = some (.int .i64 (z.o)) ∧ w'.cell? ⟨w.heap.size, 1, none⟩ = some (.int .i64 (z.s)) ∧ w'.cell? ⟨w.heap.size, 2, none⟩ = some (.int .i64 (z.m)) ∧ w'.cell? ⟨w.heap.size, 3, none⟩ = some (.int .i64 (z.k)) ∧ w'.cell? ⟨w.heap.size, 4, none⟩ = some (.int .i64 (z.d)) ∧ w'.cell? ⟨w.heap.size, 5, none⟩ = some (.int .i64 (z.i)) ∧ w'.cell? ⟨w.heap.size, 6, none⟩ = some (.int .i64 (z.m')) ∧ w'.cell? ⟨w.heap.size, 7, none⟩ = some (.int .i64 (z.k')) ∧ w'.cell? ⟨w.heap.size, 8, none⟩ = some (.int .i64 (z.d')) ∧ w'.cell? ⟨w.heap.size, 9, none⟩ = some (.int .i64 (z.i')) ∧ b < w'.heap.size ∧ w'.cell? ⟨b, 0, none⟩ = some (.int .i64 (P)) ∧ w'.cell? ⟨b, 1, none⟩ = some (.int .i64 (z.o + z.s))) wc := ⟨hZc.1, hZc.2.1, hZc.2.2.1, hZc.2.2.2.1, hZc.2.2.2.2.1, hZc.2.2.2.2.2.1, hZc.2.2.2.2.2.2.1, hZc.2.2.2.2.2.2.2.1, hZc.2.2.2.2.2.2.2.2.1, hZc.2.2.2.2.2.2.2.2.2.1, hZc.2.2.2.2.2.2.2.2.2.2.1, hZc.2.2.2.2.2.2.2.2.2.2.2, hb1, hc0, hc1⟩
    clear hZ hZc hc0 hc1
    go_upto_region 5 with fail
    go_cut [7] from 21 to 30 (fun s7 wx => (∃ c, s7 = Value.pointer (some ⟨c, 0, none⟩) ∧ w.heap.size < c ∧ c < wx.heap.size ∧ wx.cell? ⟨c, 0, none⟩ = some (.int .i64 (B - (z.o + z.s) * 60)) ∧ wx.cell? ⟨c, 1, none⟩ = some (.int .i64 z.o)) ∧ (fun w' => w.heap.size < w'.heap.size ∧ Below w.heap.size w w' ∧ w'.cell? ⟨w.heap.size, 0, none⟩ = some (.int .i64 (z.o)) ∧ w'.cell? ⟨w.heap.size, 1, none⟩ = some (.int .i64 (z.s)) ∧ w'.cell? ⟨w.heap.size, 2, none⟩ = some (.int .i64 (z.m)) ∧ w'.cell? ⟨w.heap.size, 3, none⟩ = some (.int .i64 (z.k)) ∧ w'.cell? ⟨w.heap.size, 4, none⟩ = some (.int .i64 (z.d)) ∧ w'.cell? ⟨w.heap.size, 5, none⟩ = some (.int .i64 (z.i)) ∧ w'.cell? ⟨w.heap.size, 6, none⟩ = some (.int .i64 (z.m')) ∧ w'.cell? ⟨w.heap.size, 7, none⟩ = some (.int .i64 (z.k')) ∧ w'.cell? ⟨w.heap.size, 8, none⟩ = some (.int .i64 (z.d')) ∧ w'.cell? ⟨w.heap.size, 9, none⟩ = some (.int .i64 (z.i')) ∧ b < w'.heap.size ∧ w'.cell? ⟨b, 0, none⟩ = some (.int .i64 (P)) ∧ w'.cell? ⟨b, 1, none⟩ = some (.int .i64 (z.o + z.s))) wx)
    case first =>
      go_region_held3 (fun w' => w.heap.size < w'.heap.size ∧ Below w.heap.size w w' ∧ w'.cell? ⟨w.heap.size, 0, none⟩ = some (.int .i64 (z.o)) ∧ w'.cell? ⟨w.heap.size, 1, none⟩ = some (.int .i64 (z.s)) ∧ w'.cell? ⟨w.heap.size, 2, none⟩ = some (.int .i64 (z.m)) ∧ w'.cell? ⟨w.heap.size, 3, none⟩ = some (.int .i64 (z.k)) ∧ w'.cell? ⟨w.heap.size, 4, none⟩ = some (.int .i64 (z.d)) ∧ w'.cell? ⟨w.heap.size, 5, none⟩ = some (.int .i64 (z.i)) ∧ w'.cell? ⟨w.heap.size, 6, none⟩ = some (.int .i64 (z.m')) ∧ w'.cell? ⟨w.heap.size, 7, none⟩ = some (.int .i64 (z.k')) ∧ w'.cell? ⟨w.heap.size, 8, none⟩ = some (.int .i64 (z.d')) ∧ w'.cell? ⟨w.heap.size, 9, none⟩ = some (.int .i64 (z.i')) ∧ b < w'.heap.size ∧ w'.cell? ⟨b, 0, none⟩ = some (.int .i64 (P)) ∧ w'.cell? ⟨b, 1, none⟩ = some (.int .i64 (z.o + z.s)))
        (first | exact (show Stays (fun w' => w.heap.size < w'.heap.size ∧ Below w.heap.size w w' ∧ w'.cell? ⟨w.heap.size, 0, none⟩ = some (.int .i64 (z.o)) ∧ w'.cell? ⟨w.heap.size, 1, none⟩ = some (.int .i64 (z.s)) ∧ w'.cell? ⟨w.heap.size, 2, none⟩ = some (.int .i64 (z.m)) ∧ w'.cell? ⟨w.heap.size, 3, none⟩ = some (.int .i64 (z.k)) ∧ w'.cell? ⟨w.heap.size, 4, none⟩ = some (.int .i64 (z.d)) ∧ w'.cell? ⟨w.heap.size, 5, none⟩ = some (.int .i64 (z.i)) ∧ w'.cell? ⟨w.heap.size, 6, none⟩ = some (.int .i64 (z.m')) ∧ w'.cell? ⟨w.heap.size, 7, none⟩ = some (.int .i64 (z.k')) ∧ w'.cell? ⟨w.heap.size, 8, none⟩ = some (.int .i64 (z.d')) ∧ w'.cell? ⟨w.heap.size, 9, none⟩ = some (.int .i64 (z.i')) ∧ b < w'.heap.size ∧ w'.cell? ⟨b, 0, none⟩ = some (.int .i64 (P)) ∧ w'.cell? ⟨b, 1, none⟩ = some (.int .i64 (z.o + z.s))) from (by repeat' (first | with_reducible exact Stays.below _ | with_reducible exact Stays.cell _ _ _ | with_reducible exact Stays.size _ | with_reducible refine Stays.and ?_ ?_))) _ _ (Below.refl _ _).drew hY | exact (show Stays (fun w' => w.heap.size < w'.heap.size ∧ Below w.heap.size w w' ∧ w'.cell? ⟨w.heap.size, 0, none⟩ = some (.int .i64 (z.o)) ∧ w'.cell? ⟨w.heap.size, 1, none⟩ = some (.int .i64 (z.s)) ∧ w'.cell? ⟨w.heap.size, 2, none⟩ = some (.int .i64 (z.m)) ∧ w'.cell? ⟨w.heap.size, 3, none⟩ = some (.int .i64 (z.k)) ∧ w'.cell? ⟨w.heap.size, 4, none⟩ = some (.int .i64 (z.d)) ∧ w'.cell? ⟨w.heap.size, 5, none⟩ = some (.int .i64 (z.i)) ∧ w'.cell? ⟨w.heap.size, 6, none⟩ = some (.int .i64 (z.m')) ∧ w'.cell? ⟨w.heap.size, 7, none⟩ = some (.int .i64 (z.k')) ∧ w'.cell? ⟨w.heap.size, 8, none⟩ = some (.int .i64 (z.d')) ∧ w'.cell? ⟨w.heap.size, 9, none⟩ = some (.int .i64 (z.i')) ∧ b < w'.heap.size ∧ w'.cell? ⟨b, 0, none⟩ = some (.int .i64 (P)) ∧ w'.cell? ⟨b, 1, none⟩ = some (.int .i64 (z.o + z.s))) from (by repeat' (first | with_reducible exact Stays.below _ | with_reducible exact Stays.cell _ _ _ | with_reducible exact Stays.size _ | with_reducible refine Stays.and ?_ ?_))) _ _ hb2 (by assumption) | exact (show Stays (fun w' => w.heap.size < w'.heap.size ∧ Below w.heap.size w w' ∧ w'.cell? ⟨w.heap.size, 0, none⟩ = some (.int .i64 (z.o)) ∧ w'.cell? ⟨w.heap.size, 1, none⟩ = some (.int .i64 (z.s)) ∧ w'.cell? ⟨w.heap.size, 2, none⟩ = some (.int .i64 (z.m)) ∧ w'.cell? ⟨w.heap.size, 3, none⟩ = some (.int .i64 (z.k)) ∧ w'.cell? ⟨w.heap.size, 4, none⟩ = some (.int .i64 (z.d)) ∧ w'.cell? ⟨w.heap.size, 5, none⟩ = some (.int .i64 (z.i)) ∧ w'.cell? ⟨w.heap.size, 6, none⟩ = some (.int .i64 (z.m')) ∧ w'.cell? ⟨w.heap.size, 7, none⟩ = some (.int .i64 (z.k')) ∧ w'.cell? ⟨w.heap.size, 8, none⟩ = some (.int .i64 (z.d')) ∧ w'.cell? ⟨w.heap.size, 9, none⟩ = some (.int .i64 (z.i')) ∧ b < w'.heap.size ∧ w'.cell? ⟨b, 0, none⟩ = some (.int .i64 (P)) ∧ w'.cell? ⟨b, 1, none⟩ = some (.int .i64 (z.o + z.s))) from (by repeat' (first | with_reducible exact Stays.below _ | with_reducible exact Stays.cell _ _ _ | with_reducible exact Stays.size _ | with_reducible refine Stays.and ?_ ?_))) _ _ ((Below.refl _ _).alloc (Nat.le_refl _) _) (by assumption) | exact zsy_low (alloc_swap _ _ _) (by omega) (by omega) (Nat.le_refl _) (by assumption) | exact zsy_low (N := wc.heap.size) (by refine Below.setCell (Below.setCell (Below.refl _ _) ?_ _) ?_ _ <;> exact Nat.le_refl _) (by omega) (by omega) (Nat.le_refl _) (by assumption))
        (first | (go_at_call 68; refine (iRuleMoment _ _ _ _ _ _).mono ?_; rw [HB.out]; rintro e w2 ⟨rfl, hb2⟩; have hC2 := Below_at hb2; have hF2 := Below_fr hb2; have hz2 := hb2.size; (try simp only [World.size_alloc, World.size_drew] at hz2)))
      · go_wp2_with fail
        go_meet
        exact ⟨⟨_, rfl, by omega, by simp, by go_simp, by go_simp⟩, by assumption⟩
      · go_wp2_with fail
        go_meet
        have q := two_cells (u0 := .int .i64 0) (u1 := .int .i64 0) ((hC2 (wc.heap.size) 0 (by simp)).trans (by go_simp)) ((hC2 (wc.heap.size) 1 (by simp)).trans (by go_simp))
        exact ⟨⟨_, rfl, by omega, by (simp only [World.size_setCell]; omega), (q _ _).1, (q _ _).2⟩, by assumption⟩
    case rest =>
      clear hY
      obtain ⟨⟨c, rfl, hd0, hd1, hc0, hc1⟩, _, hb, _, _, _, _, _, _, _, _, _, _, he, he0, he1⟩ := hcut
      have hz := hb.size
      by_cases h : B - (z.o + z.s) * 60 < P
      · go_wp2
        go_ret
        exact ⟨_, rfl, by omega, by simp, by go_simp, by go_simp, by go_simp, by go_simp, (by repeat' (first | with_reducible assumption | with_reducible exact Below.refl _ _ | with_reducible refine Below.setCell ?_ ?_ _ | with_reducible refine Below.alloc ?_ ?_ _ | with_reducible apply Below.drew | with_reducible apply Below.drewn | (simp; done) | (simp; omega)))⟩
      · go_wp2
        go_ret
        exact ⟨_, rfl, by omega, by simp, by go_simp, by go_simp, by go_simp, by go_simp, (by repeat' (first | with_reducible assumption | with_reducible exact Below.refl _ _ | with_reducible refine Below.setCell ?_ ?_ _ | with_reducible refine Below.alloc ?_ ?_ _ | with_reducible apply Below.drew | with_reducible apply Below.drewn | (simp; done) | (simp; omega)))⟩

/-- The offset in a year. -/
def zOffY (z : Zn) (y n : Int) : Int := if z.s = 0 then z.o else if (if zB z y < zA z y then decide (zA z y ≤ n) || decide (n < zB z y) else decide (zA z y ≤ n) && decide (n < zB z y)) then z.o + z.s else z.o
theorem zOffY_is (z : Zn) (n : Int) : zOffY z (zY z n) n = zOff z n := rfl

set_option maxHeartbeats 4000000 in
theorem iOffsetIn (z : Zn) (y n : Int) (w : World) (ho : -100000 ≤ z.o ∧ z.o ≤ 100000) (hs : -100000 ≤ z.s ∧ z.s ≤ 100000) :
    Calls Try.prog 47 #[(.agg #[.int .i64 (z.o), .int .i64 (z.s), .int .i64 (z.m), .int .i64 (z.k), .int .i64 (z.d), .int .i64 (z.i), .int .i64 (z.m'), .int .i64 (z.k'), .int .i64 (z.d'), .int .i64 (z.i')]), .int .i64 y, .int .i64 n] w fun e w' => e = .returned (.int .i64 (zOffY z y n)) ∧ Below w.heap.size w w' := by
  unfold zOffY
  by_cases c : z.s = 0
  · rw [if_pos c]
    have c' : (z.s == 0) = true := by simpa using c
    have C := Lib.hid c'; clear c c'
    go_enter Try.func47, Try.ntmps47
    (go_wp2_with fail; refine (iChanges_none z _ _ C.out).mono ?_; rintro e wx ⟨rfl, hbx⟩; have hC := Below_at hbx; have hF := Below_fr hbx; have hb := Below.trans (show Below w.heap.size w _ from (by repeat' (first | with_reducible assumption | with_reducible exact Below.refl _ _ | with_reducible refine Below.setCell ?_ ?_ _ | with_reducible refine Below.alloc ?_ ?_ _ | with_reducible apply Below.drew | with_reducible apply Below.drewn | (simp; done) | (simp; omega)))) (hbx.mono (by first | omega | (simp; done) | (simp; omega))); have hz := hb.size; have hl := hbx.size; (try simp only [World.size_alloc, World.size_setCell, World.size_drew] at hl); (try have hs0 : w.heap.size < wx.heap.size := by omega); (try have hs1 : w.heap.size + 1 < wx.heap.size := by omega); clear hl)
    (go_wp2_with fail; refine (iOffsetBefore_none z _).mono ?_; rintro e w2 ⟨rfl, hbw2⟩; have hCw2 := Below_at hbw2; have hFw2 := Below_fr hbw2; have hb := Below.trans (show Below w.heap.size w _ from (by repeat' (first | with_reducible assumption | with_reducible exact Below.refl _ _ | with_reducible refine Below.setCell ?_ ?_ _ | with_reducible refine Below.alloc ?_ ?_ _ | with_reducible apply Below.drew | with_reducible apply Below.drewn | (simp; done) | (simp; omega)))) (hbw2.mono (by first | omega | (simp; done) | (simp; omega))); have hzw2 := hb.size; have hlw2 := hbw2.size; (try simp only [World.size_alloc, World.size_setCell, World.size_drew] at hlw2))
    go_wp2_with fail
    refine wp_loop_rounds 1 ?_
    rw [rounds_succ]
    go_wp2
    go_ret
    exact ⟨rfl, (by repeat' (first | with_reducible assumption | with_reducible exact Below.refl _ _ | with_reducible refine Below.setCell ?_ ?_ _ | with_reducible refine Below.alloc ?_ ?_ _ | with_reducible apply Below.drew | with_reducible apply Below.drewn | (simp; done) | (simp; omega)))⟩
  · rw [if_neg c]
    have c' : (z.s == 0) = false := by simpa using c
    have C := Lib.hid c'; clear c c'
    have hI := iChanges_two z y
    generalize zA z y = A at *
    generalize zB z y = B at *
    have HI := Lib.hid hI; clear hI
    by_cases h : B < A
    · rw [if_pos h]
      by_cases h1 : A ≤ n <;> by_cases h2 : n < B
      all_goals try (exfalso; omega)
      all_goals
        first | rw [if_pos (show (decide (A ≤ n) || decide (n < B)) = true by simp only [Bool.or_eq_true, decide_eq_true_eq]; omega)] | rw [if_neg (show ¬ (decide (A ≤ n) || decide (n < B)) = true by simp only [Bool.or_eq_true, decide_eq_true_eq]; omega)]
        go_enter Try.func47, Try.ntmps47
        go_wp2_with fail
        refine (HI.out _ C.out (by omega) (by omega)).mono ?_
        rw [if_pos h]
        rintro e wx ⟨g, rfl, hg0, hg1, c0, c1, c2, c3, hbx⟩
        have hC := Below_at hbx
        have hF := Below_fr hbx
        have hb := Below.trans (show Below w.heap.size w _ from (by repeat' (first | with_reducible assumption | with_reducible exact Below.refl _ _ | with_reducible refine Below.setCell ?_ ?_ _ | with_reducible refine Below.alloc ?_ ?_ _ | with_reducible apply Below.drew | with_reducible apply Below.drewn | (simp; done) | (simp; omega)))) (hbx.mono (by simp))
        have hz := hb.size
        simp only [World.size_alloc] at hg0
        have pw : w.heap.size < wx.heap.size := by omega
        have hS := (ten_at (Below.refl w.heap.size w) (.int .i64 (z.o)) (.int .i64 (z.s)) (.int .i64 (z.m)) (.int .i64 (z.k)) (.int .i64 (z.d)) (.int .i64 (z.i)) (.int .i64 (z.m')) (.int .i64 (z.k')) (.int .i64 (z.d')) (.int .i64 (z.i')) 26)
        have hS := (ten_stays _ _ _ _ _ _ _ _ _ _ _ _ _ _ hbx hS)
        obtain ⟨hbs, t0, t1, t2, t3, t4, t5, t6, t7, t8, t9⟩ := hS
        go_wp2_with fail
        refine (iOffsetBefore_two z g _ _ hg1 c3).mono ?_
        rintro e wy ⟨rfl, hby⟩
        have c0 := (Below_at hby g 0 hg1).trans c0
        have c1 := (Below_at hby g 1 hg1).trans c1
        have c2 := (Below_at hby g 2 hg1).trans c2
        have c3 := (Below_at hby g 3 hg1).trans c3
        have hb := Below.trans hb (hby.mono (by omega))
        have hz := hb.size
        have hzy := hby.size
        have hg1 := Nat.lt_of_lt_of_le hg1 hzy
        clear t0 t1 t2 t3 t4 t5 t6 t7 t8 t9 hbs hC hF
        go_wp2_with fail
        refine wp_loop_rounds 3 ?_
        rw [rounds_succ]
        go_wp2_with fail
        all_goals
          rw [rounds_succ]
          go_wp2_with fail
        all_goals
          rw [rounds_succ]
          go_wp2
        all_goals
          go_ret
          exact ⟨ret_int (by first | rfl | omega | (simp [*]; done) | (simp [*]; omega)), (by repeat' (first | with_reducible assumption | with_reducible exact Below.refl _ _ | with_reducible refine Below.setCell ?_ ?_ _ | with_reducible refine Below.alloc ?_ ?_ _ | with_reducible apply Below.drew | with_reducible apply Below.drewn | (simp; done) | (simp; omega)))⟩
    · rw [if_neg h]
      by_cases h1 : A ≤ n <;> by_cases h2 : n < B
      all_goals try (exfalso; omega)
      all_goals
        first | rw [if_pos (show (decide (A ≤ n) && decide (n < B)) = true by simp only [Bool.and_eq_true, decide_eq_true_eq]; omega)] | rw [if_neg (show ¬ (decide (A ≤ n) && decide (n < B)) = true by simp only [Bool.and_eq_true, decide_eq_true_eq]; omega)]
        go_enter Try.func47, Try.ntmps47
        go_wp2_with fail
        refine (HI.out _ C.out (by omega) (by omega)).mono ?_
        rw [if_neg (by omega)]
        rintro e wx ⟨g, rfl, hg0, hg1, c0, c1, c2, c3, hbx⟩
        have hC := Below_at hbx
        have hF := Below_fr hbx
        have hb := Below.trans (show Below w.heap.size w _ from (by repeat' (first | with_reducible assumption | with_reducible exact Below.refl _ _ | with_reducible refine Below.setCell ?_ ?_ _ | with_reducible refine Below.alloc ?_ ?_ _ | with_reducible apply Below.drew | with_reducible apply Below.drewn | (simp; done) | (simp; omega)))) (hbx.mono (by simp))
        have hz := hb.size
        simp only [World.size_alloc] at hg0
        have pw : w.heap.size < wx.heap.size := by omega
        have hS := (ten_at (Below.refl w.heap.size w) (.int .i64 (z.o)) (.int .i64 (z.s)) (.int .i64 (z.m)) (.int .i64 (z.k)) (.int .i64 (z.d)) (.int .i64 (z.i)) (.int .i64 (z.m')) (.int .i64 (z.k')) (.int .i64 (z.d')) (.int .i64 (z.i')) 26)
        have hS := (ten_stays _ _ _ _ _ _ _ _ _ _ _ _ _ _ hbx hS)
        obtain ⟨hbs, t0, t1, t2, t3, t4, t5, t6, t7, t8, t9⟩ := hS
        go_wp2_with fail
        refine (iOffsetBefore_two z g _ _ hg1 c3).mono ?_
        rintro e wy ⟨rfl, hby⟩
        have c0 := (Below_at hby g 0 hg1).trans c0
        have c1 := (Below_at hby g 1 hg1).trans c1
        have c2 := (Below_at hby g 2 hg1).trans c2
        have c3 := (Below_at hby g 3 hg1).trans c3
        have hb := Below.trans hb (hby.mono (by omega))
        have hz := hb.size
        have hzy := hby.size
        have hg1 := Nat.lt_of_lt_of_le hg1 hzy
        clear t0 t1 t2 t3 t4 t5 t6 t7 t8 t9 hbs hC hF
        go_wp2_with fail
        refine wp_loop_rounds 3 ?_
        rw [rounds_succ]
        go_wp2_with fail
        all_goals
          rw [rounds_succ]
          go_wp2_with fail
        all_goals
          rw [rounds_succ]
          go_wp2
        all_goals
          go_ret
          exact ⟨ret_int (by first | rfl | omega | (simp [*]; done) | (simp [*]; omega)), (by repeat' (first | with_reducible assumption | with_reducible exact Below.refl _ _ | with_reducible refine Below.setCell ?_ ?_ _ | with_reducible refine Below.alloc ?_ ?_ _ | with_reducible apply Below.drew | with_reducible apply Below.drewn | (simp; done) | (simp; omega)))⟩

set_option maxHeartbeats 4000000 in
theorem iOffsetAt (z : Zn) (n : Int) (w : World) :
    Calls Try.prog 21 #[(.agg #[.int .i64 (z.o), .int .i64 (z.s), .int .i64 (z.m), .int .i64 (z.k), .int .i64 (z.d), .int .i64 (z.i), .int .i64 (z.m'), .int .i64 (z.k'), .int .i64 (z.d'), .int .i64 (z.i')]), .int .i64 n] w fun e w' => e = .returned (.int .i64 (offAt z n)) ∧ Below w.heap.size w w' := by
  cases v : zvB z
  · rw [offAt_no (.inl v)]
    have V := Lib.hid v; clear v
    go_enter Try.func21, Try.ntmps21
    (go_wp2_with fail; refine (iZoneValid z _).mono ?_; rw [V.out]; rintro e wx ⟨rfl, hbx⟩; have hC := Below_at hbx; have hF := Below_fr hbx; have hb := Below.trans (show Below w.heap.size w _ from (by repeat' (first | with_reducible assumption | with_reducible exact Below.refl _ _ | with_reducible refine Below.setCell ?_ ?_ _ | with_reducible refine Below.alloc ?_ ?_ _ | with_reducible apply Below.drew | with_reducible apply Below.drewn | (simp; done) | (simp; omega)))) (hbx.mono (by first | omega | (simp; done) | (simp; omega))); have hz := hb.size; have hl := hbx.size; (try simp only [World.size_alloc, World.size_setCell, World.size_drew] at hl); (try have hs0 : w.heap.size < wx.heap.size := by omega); (try have hs1 : w.heap.size + 1 < wx.heap.size := by omega); clear hl)
    go_wp2
    go_ret
    exact ⟨rfl, (by repeat' (first | with_reducible assumption | with_reducible exact Below.refl _ _ | with_reducible refine Below.setCell ?_ ?_ _ | with_reducible refine Below.alloc ?_ ?_ _ | with_reducible apply Below.drew | with_reducible apply Below.drewn | (simp; done) | (simp; omega)))⟩
  · cases g : zGood n
    · rw [offAt_no (.inr g)]
      have V := Lib.hid v
      clear v
      rcases zGood_no g with g | g
      all_goals
        rename_i gg
        clear gg
        go_enter Try.func21, Try.ntmps21
        (go_wp2_with fail; refine (iZoneValid z _).mono ?_; rw [V.out]; rintro e wx ⟨rfl, hbx⟩; have hC := Below_at hbx; have hF := Below_fr hbx; have hb := Below.trans (show Below w.heap.size w _ from (by repeat' (first | with_reducible assumption | with_reducible exact Below.refl _ _ | with_reducible refine Below.setCell ?_ ?_ _ | with_reducible refine Below.alloc ?_ ?_ _ | with_reducible apply Below.drew | with_reducible apply Below.drewn | (simp; done) | (simp; omega)))) (hbx.mono (by first | omega | (simp; done) | (simp; omega))); have hz := hb.size; have hl := hbx.size; (try simp only [World.size_alloc, World.size_setCell, World.size_drew] at hl); (try have hs0 : w.heap.size < wx.heap.size := by omega); (try have hs1 : w.heap.size + 1 < wx.heap.size := by omega); clear hl)
        go_wp2
        go_ret
        exact ⟨rfl, (by repeat' (first | with_reducible assumption | with_reducible exact Below.refl _ _ | with_reducible refine Below.setCell ?_ ?_ _ | with_reducible refine Below.alloc ?_ ?_ _ | with_reducible apply Below.drew | with_reducible apply Below.drewn | (simp; done) | (simp; omega)))⟩
    · rw [offAt_yes v g]
      have V := Lib.hid v
      obtain ⟨o1, o9, s1, s9, _, _⟩ := zv_yes v
      obtain ⟨g1, g9⟩ := zGood_yes g
      have E := Lib.hid (zOffY_is z n)
      clear v g
      have hS := (ten_at (Below.refl w.heap.size w) (.int .i64 (z.o)) (.int .i64 (z.s)) (.int .i64 (z.m)) (.int .i64 (z.k)) (.int .i64 (z.d)) (.int .i64 (z.i)) (.int .i64 (z.m')) (.int .i64 (z.k')) (.int .i64 (z.d')) (.int .i64 (z.i')) 26)
      go_enter Try.func21, Try.ntmps21
      go_wp2_with fail
      refine (iZoneValid z _).mono ?_
      rw [V.out]
      rintro e w2 ⟨rfl, hb2⟩
      have hS := ten_stays _ _ _ _ _ _ _ _ _ _ _ _ _ _ hb2 hS
      go_wp2_with fail
      go_region_held3 (fun w' => Below w.heap.size w w' ∧ w'.cell? ⟨w.heap.size, 0, none⟩ = some (.int .i64 (z.o)) ∧ w'.cell? ⟨w.heap.size, 1, none⟩ = some (.int .i64 (z.s)) ∧ w'.cell? ⟨w.heap.size, 2, none⟩ = some (.int .i64 (z.m)) ∧ w'.cell? ⟨w.heap.size, 3, none⟩ = some (.int .i64 (z.k)) ∧ w'.cell? ⟨w.heap.size, 4, none⟩ = some (.int .i64 (z.d)) ∧ w'.cell? ⟨w.heap.size, 5, none⟩ = some (.int .i64 (z.i)) ∧ w'.cell? ⟨w.heap.size, 6, none⟩ = some (.int .i64 (z.m')) ∧ w'.cell? ⟨w.heap.size, 7, none⟩ = some (.int .i64 (z.k')) ∧ w'.cell? ⟨w.heap.size, 8, none⟩ = some (.int .i64 (z.d')) ∧ w'.cell? ⟨w.heap.size, 9, none⟩ = some (.int .i64 (z.i')))
        (first | exact ten_stays _ _ _ _ _ _ _ _ _ _ _ _ _ _ (Below.refl _ _).drew hS | exact ten_stays _ _ _ _ _ _ _ _ _ _ _ _ _ _ hb3 (by assumption))
        (first | (go_at_call 48; refine (iYearAt z _ _ (by omega) (by omega)).mono ?_; rintro e w3 ⟨rfl, hb3⟩) | (go_at_call 47; refine (iOffsetIn z _ _ _ (by omega) (by omega)).mono ?_; rw [E.out]; rintro e w3 ⟨rfl, hb3⟩))
      all_goals go_wp2
      (have hhh : (fun w' => Below w.heap.size w w' ∧ w'.cell? ⟨w.heap.size, 0, none⟩ = some (.int .i64 (z.o)) ∧ w'.cell? ⟨w.heap.size, 1, none⟩ = some (.int .i64 (z.s)) ∧ w'.cell? ⟨w.heap.size, 2, none⟩ = some (.int .i64 (z.m)) ∧ w'.cell? ⟨w.heap.size, 3, none⟩ = some (.int .i64 (z.k)) ∧ w'.cell? ⟨w.heap.size, 4, none⟩ = some (.int .i64 (z.d)) ∧ w'.cell? ⟨w.heap.size, 5, none⟩ = some (.int .i64 (z.i)) ∧ w'.cell? ⟨w.heap.size, 6, none⟩ = some (.int .i64 (z.m')) ∧ w'.cell? ⟨w.heap.size, 7, none⟩ = some (.int .i64 (z.k')) ∧ w'.cell? ⟨w.heap.size, 8, none⟩ = some (.int .i64 (z.d')) ∧ w'.cell? ⟨w.heap.size, 9, none⟩ = some (.int .i64 (z.i'))) _ := (by assumption); have hhb := hhh.1)
      go_ret
      exact ⟨rfl, hhb⟩

set_option maxHeartbeats 4000000 in
theorem iLocalOf (z : Zn) (n : Int) (w : World) :
    Calls Try.prog 17 #[(.agg #[.int .i64 (z.o), .int .i64 (z.s), .int .i64 (z.m), .int .i64 (z.k), .int .i64 (z.d), .int .i64 (z.i), .int .i64 (z.m'), .int .i64 (z.k'), .int .i64 (z.d'), .int .i64 (z.i')]), .int .i64 n] w fun e w' => e = .returned (.int .i64 (locOf z n)) ∧ Below w.heap.size w w' := by
  have hL : (offAt z n = -10000 ∧ locOf z n = -1) ∨ (offAt z n ≠ -10000 ∧ locOf z n = n + offAt z n * 60 ∧ (-720 ≤ offAt z n ∧ offAt z n ≤ 960) ∧ (34560000 ≤ n ∧ n ≤ 126193247999)) := by
    cases v : zvB z
    · exact .inl ⟨offAt_no (.inl v), locOf_no (.inl v)⟩
    · cases g : zGood n
      · exact .inl ⟨offAt_no (.inr g), locOf_no (.inr g)⟩
      · rw [offAt_yes v g, locOf_yes v g]
        have := zOff_two z n
        have := zv_yes v
        have := zGood_yes g
        exact .inr ⟨by omega, by omega, by omega, by omega⟩
  have hI := iOffsetAt z n
  generalize offAt z n = x at *
  generalize locOf z n = l at *
  have HI := Lib.hid hI; clear hI
  rcases hL with ⟨rfl, rfl⟩ | ⟨h1, rfl, ⟨h2, h3⟩, h4, h5⟩
  · go_enter Try.func17, Try.ntmps17
    (go_wp2_with fail; refine (HI.out _).mono ?_; rintro e wx ⟨rfl, hbx⟩; have hC := Below_at hbx; have hF := Below_fr hbx; have hb := Below.trans (show Below w.heap.size w _ from (by repeat' (first | with_reducible assumption | with_reducible exact Below.refl _ _ | with_reducible refine Below.setCell ?_ ?_ _ | with_reducible refine Below.alloc ?_ ?_ _ | with_reducible apply Below.drew | with_reducible apply Below.drewn | (simp; done) | (simp; omega)))) (hbx.mono (by first | omega | (simp; done) | (simp; omega))); have hz := hb.size; have hl := hbx.size; (try simp only [World.size_alloc, World.size_setCell, World.size_drew] at hl); (try have hs0 : w.heap.size < wx.heap.size := by omega); (try have hs1 : w.heap.size + 1 < wx.heap.size := by omega); clear hl)
    go_wp2
    go_ret
    exact ⟨rfl, (by repeat' (first | with_reducible assumption | with_reducible exact Below.refl _ _ | with_reducible refine Below.setCell ?_ ?_ _ | with_reducible refine Below.alloc ?_ ?_ _ | with_reducible apply Below.drew | with_reducible apply Below.drewn | (simp; done) | (simp; omega)))⟩
  · have w1 : IntKind.i64.wrap (x * 60) = x * 60 := IntWalk.i64_in _ (by omega)
    have w2 : IntKind.i64.wrap (n + x * 60) = n + x * 60 := IntWalk.i64_in _ (by omega)
    go_enter Try.func17, Try.ntmps17
    (go_wp2_with fail; refine (HI.out _).mono ?_; rintro e wx ⟨rfl, hbx⟩; have hC := Below_at hbx; have hF := Below_fr hbx; have hb := Below.trans (show Below w.heap.size w _ from (by repeat' (first | with_reducible assumption | with_reducible exact Below.refl _ _ | with_reducible refine Below.setCell ?_ ?_ _ | with_reducible refine Below.alloc ?_ ?_ _ | with_reducible apply Below.drew | with_reducible apply Below.drewn | (simp; done) | (simp; omega)))) (hbx.mono (by first | omega | (simp; done) | (simp; omega))); have hz := hb.size; have hl := hbx.size; (try simp only [World.size_alloc, World.size_setCell, World.size_drew] at hl); (try have hs0 : w.heap.size < wx.heap.size := by omega); (try have hs1 : w.heap.size + 1 < wx.heap.size := by omega); clear hl)
    go_wp2
    go_ret
    exact ⟨rfl, (by repeat' (first | with_reducible assumption | with_reducible exact Below.refl _ _ | with_reducible refine Below.setCell ?_ ?_ _ | with_reducible refine Below.alloc ?_ ?_ _ | with_reducible apply Below.drew | with_reducible apply Below.drewn | (simp; done) | (simp; omega)))⟩

set_option maxHeartbeats 4000000 in
theorem iChangesOf_two (z : Zn) (y : Int) (w : World) (v : zvB z = true) (y1 : 3 ≤ y) (y9 : y ≤ 3998) (p x q u : Int)
    (HI : Hid (∀ w1, Calls Try.prog 60 #[(.agg #[.int .i64 (z.o), .int .i64 (z.s), .int .i64 (z.m), .int .i64 (z.k), .int .i64 (z.d), .int .i64 (z.i), .int .i64 (z.m'), .int .i64 (z.k'), .int .i64 (z.d'), .int .i64 (z.i')]), .int .i64 y] w1 (GaveTwo p x q u w1))) :
    Calls Try.prog 37 #[(.agg #[.int .i64 (z.o), .int .i64 (z.s), .int .i64 (z.m), .int .i64 (z.k), .int .i64 (z.d), .int .i64 (z.i), .int .i64 (z.m'), .int .i64 (z.k'), .int .i64 (z.d'), .int .i64 (z.i')]), .int .i64 y] w (GaveInts [p, q] w) := by
  have V := Lib.hid v; clear v
  go_enter Try.func37, Try.ntmps37
  (go_wp2_with fail; refine (iZoneValid z _).mono ?_; rw [V.out]; rintro e wx ⟨rfl, hbx⟩; have hC := Below_at hbx; have hF := Below_fr hbx; have hb := Below.trans (show Below w.heap.size w _ from (by repeat' (first | with_reducible assumption | with_reducible exact Below.refl _ _ | with_reducible refine Below.setCell ?_ ?_ _ | with_reducible refine Below.alloc ?_ ?_ _ | with_reducible apply Below.drew | with_reducible apply Below.drewn | (simp; done) | (simp; omega)))) (hbx.mono (by first | omega | (simp; done) | (simp; omega))); have hz := hb.size; have hl := hbx.size; (try simp only [World.size_alloc, World.size_setCell, World.size_drew] at hl); (try have hs0 : w.heap.size < wx.heap.size := by omega); (try have hs1 : w.heap.size + 1 < wx.heap.size := by omega); clear hl)
  go_wp2_with fail
  refine (HI.out _).mono ?_
  rintro e w3 ⟨g, rfl, hg0, hg1, c0, c1, c2, c3, hb3⟩
  have hb := Below.trans (show Below w.heap.size w _ from (by repeat' (first | with_reducible assumption | with_reducible exact Below.refl _ _ | with_reducible refine Below.setCell ?_ ?_ _ | with_reducible refine Below.alloc ?_ ?_ _ | with_reducible apply Below.drew | with_reducible apply Below.drewn | (simp; done) | (simp; omega)))) (hb3.mono (by omega))
  have hz3 := hb.size
  have hC := Below_at hb3
  have hF := Below_fr hb3
  go_wp2_with fail
  refine wp_loop_rounds 3 ?_
  rw [rounds_succ]
  go_wp2_with (at_builtin; refine append_int rfl _ _ rfl w3.heap.size _ [] rfl (Own.nil _ _) _ 1 p rfl (by go_simp) (by simp) (by first | (simp; omega) | (simp; done) | omega) ?_)
  intro vw6 w6 hO hb6
  have k6 : Below w3.heap.size w3 w6 := Below.trans (show Below w3.heap.size w3 _ from (by repeat' (first | with_reducible assumption | with_reducible exact Below.refl _ _ | with_reducible refine Below.setCell ?_ ?_ _ | with_reducible refine Below.alloc ?_ ?_ _ | with_reducible apply Below.drew | with_reducible apply Below.drewn | (simp; done) | (simp; omega)))) hb6
  have d2 := (Below_at k6 g 2 hg1).trans c2
  have d3 := (Below_at k6 g 3 hg1).trans c3
  have hz6 := k6.size
  have hb := hb.trans (k6.mono (by omega))
  clear hb6 c0 c1 c2 c3 hC hF hbx
  go_wp2_with fail
  rw [rounds_succ]
  go_wp2_with (at_builtin; refine append_int rfl _ _ rfl w3.heap.size _ [p] rfl (Own.alloc (Own.alloc hO _) _) _ 1 q rfl (by go_simp) (by simp) (by first | (simp; omega) | (simp; done) | omega) ?_)
  intro vw7 w7 hO7 hb7
  have k7 : Below w3.heap.size w6 w7 := Below.trans (show Below w3.heap.size w6 _ from (by repeat' (first | with_reducible assumption | with_reducible exact Below.refl _ _ | with_reducible refine Below.setCell ?_ ?_ _ | with_reducible refine Below.alloc ?_ ?_ _ | with_reducible apply Below.drew | with_reducible apply Below.drewn | (simp; done) | (simp; omega)))) hb7
  have hb := hb.trans (k7.mono (by omega))
  go_wp2_with fail
  rw [rounds_succ]
  go_wp2
  go_ret
  exact ⟨_, rfl, (Own.ints hO7 (by simp)).lower (by omega), hb⟩

set_option maxHeartbeats 4000000 in
theorem iChangesOf (z : Zn) (y : Int) (w : World) :
    Calls Try.prog 37 #[(.agg #[.int .i64 (z.o), .int .i64 (z.s), .int .i64 (z.m), .int .i64 (z.k), .int .i64 (z.d), .int .i64 (z.i), .int .i64 (z.m'), .int .i64 (z.k'), .int .i64 (z.d'), .int .i64 (z.i')]), .int .i64 y] w (GaveInts (chg z y) w) := by
  cases v : zvB z
  · rw [chg_no (.inl v)]
    have V := Lib.hid v; clear v
    go_enter Try.func37, Try.ntmps37
    (go_wp2_with fail; refine (iZoneValid z _).mono ?_; rw [V.out]; rintro e wx ⟨rfl, hbx⟩; have hC := Below_at hbx; have hF := Below_fr hbx; have hb := Below.trans (show Below w.heap.size w _ from (by repeat' (first | with_reducible assumption | with_reducible exact Below.refl _ _ | with_reducible refine Below.setCell ?_ ?_ _ | with_reducible refine Below.alloc ?_ ?_ _ | with_reducible apply Below.drew | with_reducible apply Below.drewn | (simp; done) | (simp; omega)))) (hbx.mono (by first | omega | (simp; done) | (simp; omega))); have hz := hb.size; have hl := hbx.size; (try simp only [World.size_alloc, World.size_setCell, World.size_drew] at hl); (try have hs0 : w.heap.size < wx.heap.size := by omega); (try have hs1 : w.heap.size + 1 < wx.heap.size := by omega); clear hl)
    go_wp2
    go_ret
    exact ⟨_, rfl, Ints.none _ _ _, (by repeat' (first | with_reducible assumption | with_reducible exact Below.refl _ _ | with_reducible refine Below.setCell ?_ ?_ _ | with_reducible refine Below.alloc ?_ ?_ _ | with_reducible apply Below.drew | with_reducible apply Below.drewn | (simp; done) | (simp; omega)))⟩
  · by_cases hy : 3 ≤ y ∧ y ≤ 3998
    · obtain ⟨o1, o9, s1, s9, _, _⟩ := zv_yes v
      by_cases s0 : z.s = 0
      · rw [chg_no (.inr (.inr s0))]
        have V := Lib.hid v; clear v
        obtain ⟨y1, y9⟩ := hy
        have s0' : (z.s == 0) = true := by simpa using s0
        have S0 := Lib.hid s0'
        clear s0 s0'
        go_enter Try.func37, Try.ntmps37
        (go_wp2_with fail; refine (iZoneValid z _).mono ?_; rw [V.out]; rintro e wx ⟨rfl, hbx⟩; have hC := Below_at hbx; have hF := Below_fr hbx; have hb := Below.trans (show Below w.heap.size w _ from (by repeat' (first | with_reducible assumption | with_reducible exact Below.refl _ _ | with_reducible refine Below.setCell ?_ ?_ _ | with_reducible refine Below.alloc ?_ ?_ _ | with_reducible apply Below.drew | with_reducible apply Below.drewn | (simp; done) | (simp; omega)))) (hbx.mono (by first | omega | (simp; done) | (simp; omega))); have hz := hb.size; have hl := hbx.size; (try simp only [World.size_alloc, World.size_setCell, World.size_drew] at hl); (try have hs0 : w.heap.size < wx.heap.size := by omega); (try have hs1 : w.heap.size + 1 < wx.heap.size := by omega); clear hl)
        (go_wp2_with fail; refine (iChanges_none z _ _ S0.out).mono ?_; rintro e wx ⟨rfl, hbx⟩; have hC := Below_at hbx; have hF := Below_fr hbx; have hb := Below.trans (show Below w.heap.size w _ from (by repeat' (first | with_reducible assumption | with_reducible exact Below.refl _ _ | with_reducible refine Below.setCell ?_ ?_ _ | with_reducible refine Below.alloc ?_ ?_ _ | with_reducible apply Below.drew | with_reducible apply Below.drewn | (simp; done) | (simp; omega)))) (hbx.mono (by first | omega | (simp; done) | (simp; omega))); have hz := hb.size; have hl := hbx.size; (try simp only [World.size_alloc, World.size_setCell, World.size_drew] at hl); (try have hs0 : w.heap.size < wx.heap.size := by omega); (try have hs1 : w.heap.size + 1 < wx.heap.size := by omega); clear hl)
        go_wp2_with fail
        refine wp_loop_rounds 1 ?_
        rw [rounds_succ]
        go_wp2
        go_ret
        exact ⟨_, rfl, Ints.none _ _ _, (by repeat' (first | with_reducible assumption | with_reducible exact Below.refl _ _ | with_reducible refine Below.setCell ?_ ?_ _ | with_reducible refine Below.alloc ?_ ?_ _ | with_reducible apply Below.drew | with_reducible apply Below.drewn | (simp; done) | (simp; omega)))⟩
      · rw [chg_yes v hy s0]
        have s0' : (z.s == 0) = false := by simpa using s0
        by_cases h : zB z y < zA z y
        · rw [show min (zA z y) (zB z y) = zB z y by omega, show max (zA z y) (zB z y) = zA z y by omega]
          refine iChangesOf_two z y w v hy.1 hy.2 _ z.o _ (z.o + z.s) (Lib.hid (fun w1 => ?_))
          have := iChanges_two z y w1 s0' (by omega) (by omega)
          rwa [if_pos h] at this
        · rw [show min (zA z y) (zB z y) = zA z y by omega, show max (zA z y) (zB z y) = zB z y by omega]
          refine iChangesOf_two z y w v hy.1 hy.2 _ (z.o + z.s) _ z.o (Lib.hid (fun w1 => ?_))
          have := iChanges_two z y w1 s0' (by omega) (by omega)
          rwa [if_neg h] at this
    · rw [chg_no (.inr (.inl hy))]
      have V := Lib.hid v; clear v
      rcases (show y < 3 ∨ 3998 < y by omega) with h | h
      all_goals
        clear hy
        go_enter Try.func37, Try.ntmps37
        (go_wp2_with fail; refine (iZoneValid z _).mono ?_; rw [V.out]; rintro e wx ⟨rfl, hbx⟩; have hC := Below_at hbx; have hF := Below_fr hbx; have hb := Below.trans (show Below w.heap.size w _ from (by repeat' (first | with_reducible assumption | with_reducible exact Below.refl _ _ | with_reducible refine Below.setCell ?_ ?_ _ | with_reducible refine Below.alloc ?_ ?_ _ | with_reducible apply Below.drew | with_reducible apply Below.drewn | (simp; done) | (simp; omega)))) (hbx.mono (by first | omega | (simp; done) | (simp; omega))); have hz := hb.size; have hl := hbx.size; (try simp only [World.size_alloc, World.size_setCell, World.size_drew] at hl); (try have hs0 : w.heap.size < wx.heap.size := by omega); (try have hs1 : w.heap.size + 1 < wx.heap.size := by omega); clear hl)
        go_wp2
        go_ret
        exact ⟨_, rfl, Ints.none _ _ _, (by repeat' (first | with_reducible assumption | with_reducible exact Below.refl _ _ | with_reducible refine Below.setCell ?_ ?_ _ | with_reducible refine Below.alloc ?_ ?_ _ | with_reducible apply Below.drew | with_reducible apply Below.drewn | (simp; done) | (simp; omega)))⟩
end Go.Proofs.Ytlmmianaplahaaa
