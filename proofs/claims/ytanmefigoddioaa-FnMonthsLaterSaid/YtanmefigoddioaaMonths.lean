/-
  CONTRACTS OF CHAPTER 2, going on: MonthsLater of the program and of the model.
-/
import Derived.Test.YtanmefigoddioaaMoms
import Derived.Deep.RegionWith
set_option linter.unusedVariables false
set_option linter.unusedSimpArgs false
namespace Go.Proofs.Ytanmefigoddioaa
open Go.ChangeShapes Go.WideShapes Go.ChangeAt Go.RowKit Cal

theorem ret_later {a b c d e f a' b' c' d' e' f' : Int} {p q : Bool} (h1 : a = a') (h2 : b = b') (h3 : c = c') (h4 : d = d') (h5 : e = e') (h6 : f = f') (h7 : p = q) : Ending.returned (.tuple #[(.agg #[.int .i64 (a), .int .i64 (b), .int .i64 (c), .int .i64 (d), .int .i64 (e), .int .i64 (f)]), .bool p]) = .returned (.tuple #[(.agg #[.int .i64 (a'), .int .i64 (b'), .int .i64 (c'), .int .i64 (d'), .int .i64 (e'), .int .i64 (f')]), .bool q]) := by rw [h1, h2, h3, h4, h5, h6, h7]

set_option maxHeartbeats 8000000 in
theorem inMonth_any (y m d h i s k : Int) (w : World) (k0 : 0 ≤ k) (k9 : k ≤ 47999) :
    Calls Try.prog 37 #[(.agg #[.int .i64 (y), .int .i64 (m), .int .i64 (d), .int .i64 (h), .int .i64 (i), .int .i64 (s)]), .int .i64 k] w fun e w' => e = .returned (.agg #[.int .i64 (k / 12 + 1), .int .i64 (k % 12 + 1), .int .i64 (min d (dim (k / 12 + 1) (k % 12 + 1))), .int .i64 (h), .int .i64 (i), .int .i64 (s)]) ∧ Below w.heap.size w w' := by
  go_enter Try.func37, Try.ntmps37
  go_wp2_with fail
  go_region_with (first | (go_at_call 32; refine (iDaysIn _ _ _).mono ?_; rintro e w1 ⟨rfl, rfl⟩))
  all_goals go_wp2
  all_goals
    ((try simp only [Exit.inBlock, Exit.then]); refine bodyPost_ret (v := (.agg #[.int .i64 (_), .int .i64 (_), .int .i64 (_), .int .i64 (_), .int .i64 (_), .int .i64 (_)])) (by simp [results, Try.results37, go_sem, *]; first | exact ⟨rfl, rfl, rfl, rfl, rfl, rfl⟩ | rfl) rfl ?_)
    exact ⟨ret_st rfl rfl (by omega) rfl rfl rfl, (by repeat' (first | with_reducible assumption | with_reducible exact Below.refl _ _ | with_reducible refine Below.setCell ?_ ?_ _ | with_reducible refine Below.alloc ?_ ?_ _ | with_reducible apply Below.drew | (simp; done) | (simp; omega)))⟩

theorem monthCount_any (y m d h i s : Int) (w : World) (h0 : 0 ≤ y ∧ y ≤ 4000) (h1 : 0 ≤ m ∧ m ≤ 12) :
    Calls Try.prog 36 #[(.agg #[.int .i64 (y), .int .i64 (m), .int .i64 (d), .int .i64 (h), .int .i64 (i), .int .i64 (s)])] w fun e w' => e = .returned (.int .i64 (mc y m 0)) ∧ Below w.heap.size w w' := by
  go_enter Try.func36, Try.ntmps36
  go_wp2
  go_ret
  exact ⟨ret_int (by unfold mc; omega), (by repeat' (first | with_reducible assumption | with_reducible exact Below.refl _ _ | with_reducible refine Below.setCell ?_ ?_ _ | with_reducible refine Below.alloc ?_ ?_ _ | with_reducible apply Below.drew | (simp; done) | (simp; omega)))⟩

set_option maxHeartbeats 1000000 in
theorem iMonthsLater (y m d h i s k : Int) (w : World) :
    Calls Try.prog 19 #[(.agg #[.int .i64 (y), .int .i64 (m), .int .i64 (d), .int .i64 (h), .int .i64 (i), .int .i64 (s)]), .int .i64 k] w fun e w' => e = .returned (.tuple #[(.agg #[.int .i64 (later y m d h i s k (cY y m k)), .int .i64 (later y m d h i s k (cO y m k)), .int .i64 (later y m d h i s k (cD y m d k)), .int .i64 (later y m d h i s k h), .int .i64 (later y m d h i s k i), .int .i64 (later y m d h i s k s)]), .bool (canB y m d h i s k)]) ∧ Below w.heap.size w w' := by
  cases c : canB y m d h i s k
  · simp only [later_no c]
    cases v : svB y m d h i s
    · have V := Lib.hid v; clear c v
      go_enter Try.func19, Try.ntmps19
      (go_wp2_with fail; refine (iStampValid _ _ _ _ _ _ _).mono ?_; rw [V.out]; rintro e wx ⟨rfl, hbx⟩; have hC := Below_at hbx; have hF := Below_fr hbx; have hb := Below.trans (show Below w.heap.size w _ from (by repeat' (first | with_reducible assumption | with_reducible exact Below.refl _ _ | with_reducible refine Below.setCell ?_ ?_ _ | with_reducible refine Below.alloc ?_ ?_ _ | with_reducible apply Below.drew | (simp; done) | (simp; omega)))) (hbx.mono (by first | omega | (simp; done) | (simp; omega))); have hz := hb.size; have hl := hbx.size; (try simp only [World.size_alloc, World.size_setCell, World.size_drew] at hl); (try have hs0 : w.heap.size < wx.heap.size := by omega); (try have hs1 : w.heap.size + 1 < wx.heap.size := by omega); clear hl)
      go_wp2
      ((try simp only [Exit.inBlock, Exit.then]); refine bodyPost_ret (v := .tuple #[(.agg #[.int .i64 (_), .int .i64 (_), .int .i64 (_), .int .i64 (_), .int .i64 (_), .int .i64 (_)]), .bool _]) (by simp [results, Try.results19, go_sem, *]; first | exact ⟨⟨rfl, rfl, rfl, rfl, rfl, rfl⟩, rfl⟩ | exact ⟨rfl, rfl, rfl, rfl, rfl, rfl⟩ | rfl) rfl ?_)
      exact ⟨rfl, (by repeat' (first | with_reducible assumption | with_reducible exact Below.refl _ _ | with_reducible refine Below.setCell ?_ ?_ _ | with_reducible refine Below.alloc ?_ ?_ _ | with_reducible apply Below.drew | (simp; done) | (simp; omega)))⟩
    · have n : ¬ (-48000 ≤ k ∧ k ≤ 48000 ∧ 0 ≤ mc y m k ∧ mc y m k ≤ 47999) := by
        rcases can_no c with a | a
        · rw [v] at a; exact absurd a (by simp)
        · exact a
      have q := dayOf_is (sv_yes v).1
      obtain ⟨q1, q2, q3, q4, q5, q6⟩ := q
      have V := Lib.hid v; clear c v
      have mb : 0 ≤ mc y m 0 ∧ mc y m 0 ≤ 47999 := by unfold mc; omega
      have em : mc y m k = mc y m 0 + k := by unfold mc; omega
      obtain ⟨mb0, mb9⟩ := mb
      rw [em] at n
      clear em
      by_cases a : k < -48000
      · clear n
        go_enter Try.func19, Try.ntmps19
        (go_wp2_with fail; refine (iStampValid _ _ _ _ _ _ _).mono ?_; rw [V.out]; rintro e wx ⟨rfl, hbx⟩; have hC := Below_at hbx; have hF := Below_fr hbx; have hb := Below.trans (show Below w.heap.size w _ from (by repeat' (first | with_reducible assumption | with_reducible exact Below.refl _ _ | with_reducible refine Below.setCell ?_ ?_ _ | with_reducible refine Below.alloc ?_ ?_ _ | with_reducible apply Below.drew | (simp; done) | (simp; omega)))) (hbx.mono (by first | omega | (simp; done) | (simp; omega))); have hz := hb.size; have hl := hbx.size; (try simp only [World.size_alloc, World.size_setCell, World.size_drew] at hl); (try have hs0 : w.heap.size < wx.heap.size := by omega); (try have hs1 : w.heap.size + 1 < wx.heap.size := by omega); clear hl)
        go_wp2
        ((try simp only [Exit.inBlock, Exit.then]); refine bodyPost_ret (v := .tuple #[(.agg #[.int .i64 (_), .int .i64 (_), .int .i64 (_), .int .i64 (_), .int .i64 (_), .int .i64 (_)]), .bool _]) (by simp [results, Try.results19, go_sem, *]; first | exact ⟨⟨rfl, rfl, rfl, rfl, rfl, rfl⟩, rfl⟩ | exact ⟨rfl, rfl, rfl, rfl, rfl, rfl⟩ | rfl) rfl ?_)
        exact ⟨rfl, (by repeat' (first | with_reducible assumption | with_reducible exact Below.refl _ _ | with_reducible refine Below.setCell ?_ ?_ _ | with_reducible refine Below.alloc ?_ ?_ _ | with_reducible apply Below.drew | (simp; done) | (simp; omega)))⟩
      · by_cases b : 48000 < k
        · clear n
          go_enter Try.func19, Try.ntmps19
          (go_wp2_with fail; refine (iStampValid _ _ _ _ _ _ _).mono ?_; rw [V.out]; rintro e wx ⟨rfl, hbx⟩; have hC := Below_at hbx; have hF := Below_fr hbx; have hb := Below.trans (show Below w.heap.size w _ from (by repeat' (first | with_reducible assumption | with_reducible exact Below.refl _ _ | with_reducible refine Below.setCell ?_ ?_ _ | with_reducible refine Below.alloc ?_ ?_ _ | with_reducible apply Below.drew | (simp; done) | (simp; omega)))) (hbx.mono (by first | omega | (simp; done) | (simp; omega))); have hz := hb.size; have hl := hbx.size; (try simp only [World.size_alloc, World.size_setCell, World.size_drew] at hl); (try have hs0 : w.heap.size < wx.heap.size := by omega); (try have hs1 : w.heap.size + 1 < wx.heap.size := by omega); clear hl)
          go_wp2
          ((try simp only [Exit.inBlock, Exit.then]); refine bodyPost_ret (v := .tuple #[(.agg #[.int .i64 (_), .int .i64 (_), .int .i64 (_), .int .i64 (_), .int .i64 (_), .int .i64 (_)]), .bool _]) (by simp [results, Try.results19, go_sem, *]; first | exact ⟨⟨rfl, rfl, rfl, rfl, rfl, rfl⟩, rfl⟩ | exact ⟨rfl, rfl, rfl, rfl, rfl, rfl⟩ | rfl) rfl ?_)
          exact ⟨rfl, (by repeat' (first | with_reducible assumption | with_reducible exact Below.refl _ _ | with_reducible refine Below.setCell ?_ ?_ _ | with_reducible refine Below.alloc ?_ ?_ _ | with_reducible apply Below.drew | (simp; done) | (simp; omega)))⟩
        · by_cases g : mc y m 0 + k < 0
          · clear n
            go_enter Try.func19, Try.ntmps19
            (go_wp2_with fail; refine (iStampValid _ _ _ _ _ _ _).mono ?_; rw [V.out]; rintro e wx ⟨rfl, hbx⟩; have hC := Below_at hbx; have hF := Below_fr hbx; have hb := Below.trans (show Below w.heap.size w _ from (by repeat' (first | with_reducible assumption | with_reducible exact Below.refl _ _ | with_reducible refine Below.setCell ?_ ?_ _ | with_reducible refine Below.alloc ?_ ?_ _ | with_reducible apply Below.drew | (simp; done) | (simp; omega)))) (hbx.mono (by first | omega | (simp; done) | (simp; omega))); have hz := hb.size; have hl := hbx.size; (try simp only [World.size_alloc, World.size_setCell, World.size_drew] at hl); (try have hs0 : w.heap.size < wx.heap.size := by omega); (try have hs1 : w.heap.size + 1 < wx.heap.size := by omega); clear hl)
            (go_wp2_with fail; refine (monthCount_any _ _ _ _ _ _ _ (by omega) (by omega)).mono ?_; rintro e wx ⟨rfl, hbx⟩; have hC := Below_at hbx; have hF := Below_fr hbx; have hb := Below.trans (show Below w.heap.size w _ from (by repeat' (first | with_reducible assumption | with_reducible exact Below.refl _ _ | with_reducible refine Below.setCell ?_ ?_ _ | with_reducible refine Below.alloc ?_ ?_ _ | with_reducible apply Below.drew | (simp; done) | (simp; omega)))) (hbx.mono (by first | omega | (simp; done) | (simp; omega))); have hz := hb.size; have hl := hbx.size; (try simp only [World.size_alloc, World.size_setCell, World.size_drew] at hl); (try have hs0 : w.heap.size < wx.heap.size := by omega); (try have hs1 : w.heap.size + 1 < wx.heap.size := by omega); clear hl)
            go_wp2
            ((try simp only [Exit.inBlock, Exit.then]); refine bodyPost_ret (v := .tuple #[(.agg #[.int .i64 (_), .int .i64 (_), .int .i64 (_), .int .i64 (_), .int .i64 (_), .int .i64 (_)]), .bool _]) (by simp [results, Try.results19, go_sem, *]; first | exact ⟨⟨rfl, rfl, rfl, rfl, rfl, rfl⟩, rfl⟩ | exact ⟨rfl, rfl, rfl, rfl, rfl, rfl⟩ | rfl) rfl ?_)
            exact ⟨rfl, (by repeat' (first | with_reducible assumption | with_reducible exact Below.refl _ _ | with_reducible refine Below.setCell ?_ ?_ _ | with_reducible refine Below.alloc ?_ ?_ _ | with_reducible apply Below.drew | (simp; done) | (simp; omega)))⟩
          · have g' : 48000 ≤ mc y m 0 + k := by omega
            clear n
            go_enter Try.func19, Try.ntmps19
            (go_wp2_with fail; refine (iStampValid _ _ _ _ _ _ _).mono ?_; rw [V.out]; rintro e wx ⟨rfl, hbx⟩; have hC := Below_at hbx; have hF := Below_fr hbx; have hb := Below.trans (show Below w.heap.size w _ from (by repeat' (first | with_reducible assumption | with_reducible exact Below.refl _ _ | with_reducible refine Below.setCell ?_ ?_ _ | with_reducible refine Below.alloc ?_ ?_ _ | with_reducible apply Below.drew | (simp; done) | (simp; omega)))) (hbx.mono (by first | omega | (simp; done) | (simp; omega))); have hz := hb.size; have hl := hbx.size; (try simp only [World.size_alloc, World.size_setCell, World.size_drew] at hl); (try have hs0 : w.heap.size < wx.heap.size := by omega); (try have hs1 : w.heap.size + 1 < wx.heap.size := by omega); clear hl)
            (go_wp2_with fail; refine (monthCount_any _ _ _ _ _ _ _ (by omega) (by omega)).mono ?_; rintro e wx ⟨rfl, hbx⟩; have hC := Below_at hbx; have hF := Below_fr hbx; have hb := Below.trans (show Below w.heap.size w _ from (by repeat' (first | with_reducible assumption | with_reducible exact Below.refl _ _ | with_reducible refine Below.setCell ?_ ?_ _ | with_reducible refine Below.alloc ?_ ?_ _ | with_reducible apply Below.drew | (simp; done) | (simp; omega)))) (hbx.mono (by first | omega | (simp; done) | (simp; omega))); have hz := hb.size; have hl := hbx.size; (try simp only [World.size_alloc, World.size_setCell, World.size_drew] at hl); (try have hs0 : w.heap.size < wx.heap.size := by omega); (try have hs1 : w.heap.size + 1 < wx.heap.size := by omega); clear hl)
            go_wp2
            ((try simp only [Exit.inBlock, Exit.then]); refine bodyPost_ret (v := .tuple #[(.agg #[.int .i64 (_), .int .i64 (_), .int .i64 (_), .int .i64 (_), .int .i64 (_), .int .i64 (_)]), .bool _]) (by simp [results, Try.results19, go_sem, *]; first | exact ⟨⟨rfl, rfl, rfl, rfl, rfl, rfl⟩, rfl⟩ | exact ⟨rfl, rfl, rfl, rfl, rfl, rfl⟩ | rfl) rfl ?_)
            exact ⟨rfl, (by repeat' (first | with_reducible assumption | with_reducible exact Below.refl _ _ | with_reducible refine Below.setCell ?_ ?_ _ | with_reducible refine Below.alloc ?_ ?_ _ | with_reducible apply Below.drew | (simp; done) | (simp; omega)))⟩
  · simp only [later_yes c]
    obtain ⟨v, k0, k9, n0, n9⟩ := can_yes c
    have q := dayOf_is (sv_yes v).1
    obtain ⟨q1, q2, q3, q4, q5, q6⟩ := q
    have V := Lib.hid v; clear c v
    have mb : 0 ≤ mc y m 0 ∧ mc y m 0 ≤ 47999 := by unfold mc; omega
    have em : mc y m k = mc y m 0 + k := by unfold mc; omega
    obtain ⟨mb0, mb9⟩ := mb
    rw [em] at n0 n9
    have EM := Lib.hid em
    clear em
    go_enter Try.func19, Try.ntmps19
    (go_wp2_with fail; refine (iStampValid _ _ _ _ _ _ _).mono ?_; rw [V.out]; rintro e wx ⟨rfl, hbx⟩; have hC := Below_at hbx; have hF := Below_fr hbx; have hb := Below.trans (show Below w.heap.size w _ from (by repeat' (first | with_reducible assumption | with_reducible exact Below.refl _ _ | with_reducible refine Below.setCell ?_ ?_ _ | with_reducible refine Below.alloc ?_ ?_ _ | with_reducible apply Below.drew | (simp; done) | (simp; omega)))) (hbx.mono (by first | omega | (simp; done) | (simp; omega))); have hz := hb.size; have hl := hbx.size; (try simp only [World.size_alloc, World.size_setCell, World.size_drew] at hl); (try have hs0 : w.heap.size < wx.heap.size := by omega); (try have hs1 : w.heap.size + 1 < wx.heap.size := by omega); clear hl)
    (go_wp2_with fail; refine (monthCount_any _ _ _ _ _ _ _ (by omega) (by omega)).mono ?_; rintro e wx ⟨rfl, hbx⟩; have hC := Below_at hbx; have hF := Below_fr hbx; have hb := Below.trans (show Below w.heap.size w _ from (by repeat' (first | with_reducible assumption | with_reducible exact Below.refl _ _ | with_reducible refine Below.setCell ?_ ?_ _ | with_reducible refine Below.alloc ?_ ?_ _ | with_reducible apply Below.drew | (simp; done) | (simp; omega)))) (hbx.mono (by first | omega | (simp; done) | (simp; omega))); have hz := hb.size; have hl := hbx.size; (try simp only [World.size_alloc, World.size_setCell, World.size_drew] at hl); (try have hs0 : w.heap.size < wx.heap.size := by omega); (try have hs1 : w.heap.size + 1 < wx.heap.size := by omega); clear hl)
    (go_wp2_with fail; refine (inMonth_any _ _ _ _ _ _ _ _ (by omega) (by omega)).mono ?_; rintro e wx ⟨rfl, hbx⟩; have hC := Below_at hbx; have hF := Below_fr hbx; have hb := Below.trans (show Below w.heap.size w _ from (by repeat' (first | with_reducible assumption | with_reducible exact Below.refl _ _ | with_reducible refine Below.setCell ?_ ?_ _ | with_reducible refine Below.alloc ?_ ?_ _ | with_reducible apply Below.drew | (simp; done) | (simp; omega)))) (hbx.mono (by first | omega | (simp; done) | (simp; omega))); have hz := hb.size; have hl := hbx.size; (try simp only [World.size_alloc, World.size_setCell, World.size_drew] at hl); (try have hs0 : w.heap.size < wx.heap.size := by omega); (try have hs1 : w.heap.size + 1 < wx.heap.size := by omega); clear hl)
    go_wp2
    ((try simp only [Exit.inBlock, Exit.then]); refine bodyPost_ret (v := .tuple #[(.agg #[.int .i64 (_), .int .i64 (_), .int .i64 (_), .int .i64 (_), .int .i64 (_), .int .i64 (_)]), .bool _]) (by simp [results, Try.results19, go_sem, *]; first | exact ⟨⟨rfl, rfl, rfl, rfl, rfl, rfl⟩, rfl⟩ | exact ⟨rfl, rfl, rfl, rfl, rfl, rfl⟩ | rfl) rfl ?_)
    exact ⟨ret_later (by unfold cY; rw [EM.out]) (by unfold cO; rw [EM.out]) (by unfold cD cY cO; rw [EM.out]) rfl rfl rfl rfl, (by repeat' (first | with_reducible assumption | with_reducible exact Below.refl _ _ | with_reducible refine Below.setCell ?_ ?_ _ | with_reducible refine Below.alloc ?_ ?_ _ | with_reducible apply Below.drew | (simp; done) | (simp; omega)))⟩

theorem two_set {w : World} {b : Nat} {v0 v1 u0 u1 : Value} (h0 : w.cell? ⟨b, 0, none⟩ = some u0) (h1 : w.cell? ⟨b, 1, none⟩ = some u1) : ((w.setCell ⟨b, 0, none⟩ v0).setCell ⟨b, 1, none⟩ v1).cell? ⟨b, 0, none⟩ = some v0 ∧ ((w.setCell ⟨b, 0, none⟩ v0).setCell ⟨b, 1, none⟩ v1).cell? ⟨b, 1, none⟩ = some v1 := by
  have k : (w.setCell ⟨b, 0, none⟩ v0).cell? ⟨b, 1, none⟩ = some u1 := by rw [World.cell?_setCell_other _ _ _ _ (by simp)]; exact h1
  exact ⟨by rw [World.cell?_setCell_other _ _ _ _ (by simp)]; exact World.cell?_setCell_same _ _ _ h0, World.cell?_setCell_same _ _ _ k⟩

theorem two_behind {wx w2 : World} {b : Nat} {v0 v1 : Value} (k : Below wx.heap.size ((wx.setCell ⟨b, 0, none⟩ v0).setCell ⟨b, 1, none⟩ v1).drew w2) : (∀ a o, a < wx.heap.size → (a ≠ b ∨ 2 ≤ o) → w2.cell? ⟨a, o, none⟩ = wx.cell? ⟨a, o, none⟩) ∧ (∀ a o, a < wx.heap.size → w2.frozen? ⟨a, o, none⟩ = wx.frozen? ⟨a, o, none⟩) := by
  constructor
  · intro a o h c
    refine (Below_at k a o h).trans ?_
    show ((wx.setCell ⟨b, 0, none⟩ v0).setCell ⟨b, 1, none⟩ v1).cell? ⟨a, o, none⟩ = _
    rw [World.cell?_setCell_other _ _ _ _ (by simp; omega), World.cell?_setCell_other _ _ _ _ (by simp; omega)]
  · intro a o h
    refine (Below_fr k a o h).trans ?_
    show ((wx.setCell ⟨b, 0, none⟩ v0).setCell ⟨b, 1, none⟩ v1).frozen? ⟨a, o, none⟩ = _
    rw [World.frozen?_setCell, World.frozen?_setCell]

set_option maxHeartbeats 16000000 in
theorem sMonthsLater (y m d h i s k : Int) (w : World) :
    Calls Try.prog 20 #[(.agg #[.int .i64 (y), .int .i64 (m), .int .i64 (d), .int .i64 (h), .int .i64 (i), .int .i64 (s)]), .int .i64 k] w fun e w' => e = .returned (.tuple #[(.agg #[.int .i64 (later y m d h i s k (cY y m k)), .int .i64 (later y m d h i s k (cO y m k)), .int .i64 (later y m d h i s k (cD y m d k)), .int .i64 (later y m d h i s k h), .int .i64 (later y m d h i s k i), .int .i64 (later y m d h i s k s)]), .bool (canB y m d h i s k)]) ∧ Below w.heap.size w w' := by
  cases c : canB y m d h i s k
  · simp only [later_no c]
    cases v : svB y m d h i s
    · have V := Lib.hid v; clear c v
      go_enter Try.func20, Try.ntmps20
      (go_wp2_with fail; refine (sStampValid _ _ _ _ _ _ _).mono ?_; rw [V.out]; rintro e wx ⟨rfl, hbx⟩; have hC := Below_at hbx; have hF := Below_fr hbx; have hb := Below.trans (show Below w.heap.size w _ from (by repeat' (first | with_reducible assumption | with_reducible exact Below.refl _ _ | with_reducible refine Below.setCell ?_ ?_ _ | with_reducible refine Below.alloc ?_ ?_ _ | with_reducible apply Below.drew | (simp; done) | (simp; omega)))) (hbx.mono (by first | omega | (simp; done) | (simp; omega))); have hz := hb.size; have hl := hbx.size; (try simp only [World.size_alloc, World.size_setCell, World.size_drew] at hl); (try have hs0 : w.heap.size < wx.heap.size := by omega); (try have hs1 : w.heap.size + 1 < wx.heap.size := by omega); clear hl)
      go_wp2
      ((try simp only [Exit.inBlock, Exit.then]); refine bodyPost_ret (v := .tuple #[(.agg #[.int .i64 (_), .int .i64 (_), .int .i64 (_), .int .i64 (_), .int .i64 (_), .int .i64 (_)]), .bool _]) (by simp [results, Try.results20, go_sem, *]; first | exact ⟨⟨rfl, rfl, rfl, rfl, rfl, rfl⟩, rfl⟩ | exact ⟨rfl, rfl, rfl, rfl, rfl, rfl⟩ | rfl) rfl ?_)
      exact ⟨rfl, (by repeat' (first | with_reducible assumption | with_reducible exact Below.refl _ _ | with_reducible refine Below.setCell ?_ ?_ _ | with_reducible refine Below.alloc ?_ ?_ _ | with_reducible apply Below.drew | (simp; done) | (simp; omega)))⟩
    · have n : ¬ (-48000 ≤ k ∧ k ≤ 48000 ∧ 0 ≤ mc y m k ∧ mc y m k ≤ 47999) := by
        rcases can_no c with a | a
        · rw [v] at a; exact absurd a (by simp)
        · exact a
      have q := dayOf_is (sv_yes v).1
      obtain ⟨q1, q2, q3, q4, q5, q6⟩ := q
      have V := Lib.hid v; clear c v
      unfold mc at n
      by_cases a : k < -48000 ∨ 48000 < k
      · have A := Lib.hid a; clear n a
        go_enter Try.func20, Try.ntmps20
        (go_wp2_with fail; refine (sStampValid _ _ _ _ _ _ _).mono ?_; rw [V.out]; rintro e wx ⟨rfl, hbx⟩; have hC := Below_at hbx; have hF := Below_fr hbx; have hb := Below.trans (show Below w.heap.size w _ from (by repeat' (first | with_reducible assumption | with_reducible exact Below.refl _ _ | with_reducible refine Below.setCell ?_ ?_ _ | with_reducible refine Below.alloc ?_ ?_ _ | with_reducible apply Below.drew | (simp; done) | (simp; omega)))) (hbx.mono (by first | omega | (simp; done) | (simp; omega))); have hz := hb.size; have hl := hbx.size; (try simp only [World.size_alloc, World.size_setCell, World.size_drew] at hl); (try have hs0 : w.heap.size < wx.heap.size := by omega); (try have hs1 : w.heap.size + 1 < wx.heap.size := by omega); clear hl)
        go_wp2_with (go_at_call 31; refine (l1In_no _ _ _ _ A.out).mono ?_; rintro e wy ⟨rfl, rfl⟩)
        ((try simp only [Exit.inBlock, Exit.then]); refine bodyPost_ret (v := .tuple #[(.agg #[.int .i64 (_), .int .i64 (_), .int .i64 (_), .int .i64 (_), .int .i64 (_), .int .i64 (_)]), .bool _]) (by simp [results, Try.results20, go_sem, *]; first | exact ⟨⟨rfl, rfl, rfl, rfl, rfl, rfl⟩, rfl⟩ | exact ⟨rfl, rfl, rfl, rfl, rfl, rfl⟩ | rfl) rfl ?_)
        exact ⟨rfl, (by repeat' (first | with_reducible assumption | with_reducible exact Below.refl _ _ | with_reducible refine Below.setCell ?_ ?_ _ | with_reducible refine Below.alloc ?_ ?_ _ | with_reducible apply Below.drew | (simp; done) | (simp; omega)))⟩
      · have g := Lib.hid (show (y - 1) * 12 + m - 1 + k < 0 ∨ 47999 < (y - 1) * 12 + m - 1 + k by omega)
        have a1 : -48000 ≤ k := by omega
        have a2 : k ≤ 48000 := by omega
        clear n a
        go_enter Try.func20, Try.ntmps20
        (go_wp2_with fail; refine (sStampValid _ _ _ _ _ _ _).mono ?_; rw [V.out]; rintro e wx ⟨rfl, hbx⟩; have hC := Below_at hbx; have hF := Below_fr hbx; have hb := Below.trans (show Below w.heap.size w _ from (by repeat' (first | with_reducible assumption | with_reducible exact Below.refl _ _ | with_reducible refine Below.setCell ?_ ?_ _ | with_reducible refine Below.alloc ?_ ?_ _ | with_reducible apply Below.drew | (simp; done) | (simp; omega)))) (hbx.mono (by first | omega | (simp; done) | (simp; omega))); have hz := hb.size; have hl := hbx.size; (try simp only [World.size_alloc, World.size_setCell, World.size_drew] at hl); (try have hs0 : w.heap.size < wx.heap.size := by omega); (try have hs1 : w.heap.size + 1 < wx.heap.size := by omega); clear hl)
        go_wp2_with (first | (go_at_call 31; refine (l1In_yes _ _ _ _ (by omega) (by omega)).mono ?_; rintro e wy ⟨rfl, rfl⟩) | (go_at_call 31; refine (l1In_no _ _ _ _ (by have := g.out; omega)).mono ?_; rintro e wy ⟨rfl, rfl⟩))
        ((try simp only [Exit.inBlock, Exit.then]); refine bodyPost_ret (v := .tuple #[(.agg #[.int .i64 (_), .int .i64 (_), .int .i64 (_), .int .i64 (_), .int .i64 (_), .int .i64 (_)]), .bool _]) (by simp [results, Try.results20, go_sem, *]; first | exact ⟨⟨rfl, rfl, rfl, rfl, rfl, rfl⟩, rfl⟩ | exact ⟨rfl, rfl, rfl, rfl, rfl, rfl⟩ | rfl) rfl ?_)
        exact ⟨rfl, (by repeat' (first | with_reducible assumption | with_reducible exact Below.refl _ _ | with_reducible refine Below.setCell ?_ ?_ _ | with_reducible refine Below.alloc ?_ ?_ _ | with_reducible apply Below.drew | (simp; done) | (simp; omega)))⟩
  · simp only [later_yes c]
    obtain ⟨v, k0, k9, n0, n9⟩ := can_yes c
    have q := dayOf_is (sv_yes v).1
    obtain ⟨q1, q2, q3, q4, q5, q6⟩ := q
    have V := Lib.hid v; clear c v
    unfold cD cY cO mc
    unfold mc at n0 n9
    go_enter Try.func20, Try.ntmps20
    (go_wp2_with fail; refine (sStampValid _ _ _ _ _ _ _).mono ?_; rw [V.out]; rintro e wx ⟨rfl, hbx⟩; have hC := Below_at hbx; have hF := Below_fr hbx; have hb := Below.trans (show Below w.heap.size w _ from (by repeat' (first | with_reducible assumption | with_reducible exact Below.refl _ _ | with_reducible refine Below.setCell ?_ ?_ _ | with_reducible refine Below.alloc ?_ ?_ _ | with_reducible apply Below.drew | (simp; done) | (simp; omega)))) (hbx.mono (by first | omega | (simp; done) | (simp; omega))); have hz := hb.size; have hl := hbx.size; (try simp only [World.size_alloc, World.size_setCell, World.size_drew] at hl); (try have hs0 : w.heap.size < wx.heap.size := by omega); (try have hs1 : w.heap.size + 1 < wx.heap.size := by omega); clear hl)
    go_wp2_with (go_at_call 31; refine (l1In_yes _ _ _ _ (by omega) (by omega)).mono ?_; rintro e wy ⟨rfl, rfl⟩)
    have ca : ∀ (o : Nat) (v : Value), #[Value.int .i64 y, .int .i64 m, .int .i64 d, .int .i64 h, .int .i64 i, .int .i64 s][o]? = some v → wx.cell? ⟨w.heap.size, o, none⟩ = some v := fun o v hv => (hC _ _ (by simp; omega)).trans ((World.cell?_alloc_old _ _ _ (by simp)).trans ((World.cell?_alloc_new _ _ _ _).trans hv))
    have cz : ∀ (o : Nat) (v : Value), #[Value.int .i64 0, .int .i64 0, .int .i64 0, .int .i64 0, .int .i64 0, .int .i64 0][o]? = some v → wx.cell? ⟨w.heap.size + 1, o, none⟩ = some v := fun o v hv => (hC _ _ (by simp)).trans (((congrArg _ (by simp)).trans (World.cell?_alloc_new _ _ _ o)).trans hv)
    have hfz : ∀ b o, b < w.heap.size + 1 + 1 → w.heap.size ≤ b → wx.frozen? ⟨b, o, none⟩ = false := fun b o h1 h2 => by
      rw [hF b o (by simp; omega)]
      have : b = w.heap.size ∨ b = w.heap.size + 1 := by omega
      rcases this with rfl | rfl <;> go_simp
    have c0 := ca 0 _ rfl
    have c1 := ca 1 _ rfl
    have c2 := ca 2 _ rfl
    clear hC hF
    go_region_with
      (first | (go_at_call 35; refine (sDaysIn _ _ _).mono ?_; rintro e w2 ⟨rfl, hb2⟩; obtain ⟨hD, hE⟩ := two_behind (hb2.mono (by simp)); have r0 := (Below_at hb2 w.heap.size 0 (by simp; omega)).trans (two_set c0 c1).1; have r1 := (Below_at hb2 w.heap.size 1 (by simp; omega)).trans (two_set c0 c1).2; have r2 := (hD _ 2 hs0 (Or.inr (by omega))).trans (ca 2 _ rfl); have r3 := (hD _ 3 hs0 (Or.inr (by omega))).trans (ca 3 _ rfl); have r4 := (hD _ 4 hs0 (Or.inr (by omega))).trans (ca 4 _ rfl); have r5 := (hD _ 5 hs0 (Or.inr (by omega))).trans (ca 5 _ rfl); have q0 := (hD _ 0 hs1 (Or.inl (by omega))).trans (cz 0 _ rfl); have q1' := (hD _ 1 hs1 (Or.inl (by omega))).trans (cz 1 _ rfl); have q2' := (hD _ 2 hs1 (Or.inl (by omega))).trans (cz 2 _ rfl); have q3' := (hD _ 3 hs1 (Or.inl (by omega))).trans (cz 3 _ rfl); have q4' := (hD _ 4 hs1 (Or.inl (by omega))).trans (cz 4 _ rfl); have q5' := (hD _ 5 hs1 (Or.inl (by omega))).trans (cz 5 _ rfl); have f0 : ∀ o, w2.frozen? ⟨w.heap.size, o, none⟩ = false := fun o => (hE _ o hs0).trans (hfz _ o (by omega) (by omega)); have f1 : ∀ o, w2.frozen? ⟨w.heap.size + 1, o, none⟩ = false := fun o => (hE _ o hs1).trans (hfz _ o (by omega) (by omega)); have hb := Below.trans (show Below w.heap.size w _ from (by repeat' (first | with_reducible assumption | with_reducible exact Below.refl _ _ | with_reducible refine Below.setCell ?_ ?_ _ | with_reducible refine Below.alloc ?_ ?_ _ | with_reducible apply Below.drew | (simp; done) | (simp; omega)))) (hb2.mono (by first | omega | (simp; done) | (simp; omega))); have hne : w.heap.size ≠ w.heap.size + 1 := (by omega); have g6 := chain6 2 hne q0 q1' q2' q3' q4' q5'; have g0 := (fun v a => (g6 v a a a a a a).1); have g1 := (fun v a b => (g6 v a b b b b b).2.1); have g2 := (fun v a b c => (g6 v a b c c c c).2.2.1); have g3 := (fun v a b c d => (g6 v a b c d d d).2.2.2.1); have g4 := (fun v a b c d e => (g6 v a b c d e e).2.2.2.2.1); have g5 := (fun v a b c d e f => (g6 v a b c d e f).2.2.2.2.2); clear g6; clear hD hE))
    all_goals go_wp2
    all_goals
      ((try simp only [Exit.inBlock, Exit.then]); refine bodyPost_ret (v := .tuple #[(.agg #[.int .i64 (_), .int .i64 (_), .int .i64 (_), .int .i64 (_), .int .i64 (_), .int .i64 (_)]), .bool _]) (by simp [results, Try.results20, go_sem, *]; first | exact ⟨⟨rfl, rfl, rfl, rfl, rfl, rfl⟩, rfl⟩ | exact ⟨rfl, rfl, rfl, rfl, rfl, rfl⟩ | rfl) rfl ?_)
      exact ⟨ret_later rfl rfl (by omega) rfl rfl rfl rfl, (by repeat' (first | with_reducible assumption | with_reducible exact Below.refl _ _ | with_reducible refine Below.setCell ?_ ?_ _ | with_reducible refine Below.alloc ?_ ?_ _ | with_reducible apply Below.drew | (simp; done) | (simp; omega)))⟩
end Go.Proofs.Ytanmefigoddioaa
