/-
  CONTRACTS OF CHAPTER 5 OF THE PROGRAM (e0fbb504): what its functions on local times return.
-/
import Derived.Test.YtlmmianaplahaaaLocals
import Derived.Test.YtlmmianaplahaaaIZones
import Derived.Test.YtlmmianaplahaaaGrow
import Derived.Test.YtlmmianaplahaaaCalm
set_option linter.unusedVariables false
set_option linter.unusedSimpArgs false
namespace Go.Proofs.Ytlmmianaplahaaa
open Go.ChangeShapes Go.WideShapes Go.ChangeAt Go.RowKit Cal

set_option maxHeartbeats 4000000 in
theorem iLocalValid (z : Zn) (n : Int) (w : World) :
    Calls Try.prog 44 #[(.agg #[.int .i64 (z.o), .int .i64 (z.s), .int .i64 (z.m), .int .i64 (z.k), .int .i64 (z.d), .int .i64 (z.i), .int .i64 (z.m'), .int .i64 (z.k'), .int .i64 (z.d'), .int .i64 (z.i')]), .int .i64 n] w fun e w' => e = .returned (.bool (zvB z && lGood n)) ∧ Below w.heap.size w w' := by
  cases v : zvB z
  · have V := Lib.hid v; clear v
    go_enter Try.func44, Try.ntmps44
    (go_wp2_with fail; refine (iZoneValid z _).mono ?_; rw [V.out]; rintro e wx ⟨rfl, hbx⟩; have hC := Below_at hbx; have hF := Below_fr hbx; have hb := Below.trans (show Below w.heap.size w _ from (by repeat' (first | with_reducible assumption | with_reducible exact Below.refl _ _ | with_reducible refine Below.setCell ?_ ?_ _ | with_reducible refine Below.alloc ?_ ?_ _ | with_reducible apply Below.drew | with_reducible apply Below.drewn | (simp; done) | (simp; omega)))) (hbx.mono (by first | omega | (simp; done) | (simp; omega))); have hz := hb.size; have hl := hbx.size; (try simp only [World.size_alloc, World.size_setCell, World.size_drew] at hl); (try have hs0 : w.heap.size < wx.heap.size := by omega); (try have hs1 : w.heap.size + 1 < wx.heap.size := by omega); clear hl)
    go_wp2
    go_ret
    exact ⟨rfl, (by repeat' (first | with_reducible assumption | with_reducible exact Below.refl _ _ | with_reducible refine Below.setCell ?_ ?_ _ | with_reducible refine Below.alloc ?_ ?_ _ | with_reducible apply Below.drew | with_reducible apply Below.drewn | (simp; done) | (simp; omega)))⟩
  · cases g : lGood n
    · have gn := lGood_no g
      have V := Lib.hid v; clear v g
      rcases gn with h | h
      all_goals
        go_enter Try.func44, Try.ntmps44
        (go_wp2_with fail; refine (iZoneValid z _).mono ?_; rw [V.out]; rintro e wx ⟨rfl, hbx⟩; have hC := Below_at hbx; have hF := Below_fr hbx; have hb := Below.trans (show Below w.heap.size w _ from (by repeat' (first | with_reducible assumption | with_reducible exact Below.refl _ _ | with_reducible refine Below.setCell ?_ ?_ _ | with_reducible refine Below.alloc ?_ ?_ _ | with_reducible apply Below.drew | with_reducible apply Below.drewn | (simp; done) | (simp; omega)))) (hbx.mono (by first | omega | (simp; done) | (simp; omega))); have hz := hb.size; have hl := hbx.size; (try simp only [World.size_alloc, World.size_setCell, World.size_drew] at hl); (try have hs0 : w.heap.size < wx.heap.size := by omega); (try have hs1 : w.heap.size + 1 < wx.heap.size := by omega); clear hl)
        go_wp2
        go_ret
        exact ⟨ret_bool (by first | (simp; done) | (simp; omega)), (by repeat' (first | with_reducible assumption | with_reducible exact Below.refl _ _ | with_reducible refine Below.setCell ?_ ?_ _ | with_reducible refine Below.alloc ?_ ?_ _ | with_reducible apply Below.drew | with_reducible apply Below.drewn | (simp; done) | (simp; omega)))⟩
    · obtain ⟨g1, g9⟩ := lGood_yes g
      have V := Lib.hid v; clear v g
      go_enter Try.func44, Try.ntmps44
      (go_wp2_with fail; refine (iZoneValid z _).mono ?_; rw [V.out]; rintro e wx ⟨rfl, hbx⟩; have hC := Below_at hbx; have hF := Below_fr hbx; have hb := Below.trans (show Below w.heap.size w _ from (by repeat' (first | with_reducible assumption | with_reducible exact Below.refl _ _ | with_reducible refine Below.setCell ?_ ?_ _ | with_reducible refine Below.alloc ?_ ?_ _ | with_reducible apply Below.drew | with_reducible apply Below.drewn | (simp; done) | (simp; omega)))) (hbx.mono (by first | omega | (simp; done) | (simp; omega))); have hz := hb.size; have hl := hbx.size; (try simp only [World.size_alloc, World.size_setCell, World.size_drew] at hl); (try have hs0 : w.heap.size < wx.heap.size := by omega); (try have hs1 : w.heap.size + 1 < wx.heap.size := by omega); clear hl)
      go_wp2
      go_ret
      exact ⟨rfl, (by repeat' (first | with_reducible assumption | with_reducible exact Below.refl _ _ | with_reducible refine Below.setCell ?_ ?_ _ | with_reducible refine Below.alloc ?_ ?_ _ | with_reducible apply Below.drew | with_reducible apply Below.drewn | (simp; done) | (simp; omega)))⟩

theorem no_of {a b : Bool} (h : (a && b) = false) : a = false ∨ b = false := by cases a <;> simp_all
theorem lt_nil2 (N : Nat) : ∀ k, (Value.slice none 0 0).ownBlock = some k → k < N := by intro k hk; simp [Value.ownBlock] at hk
theorem tY_local {n : Int} (h : 34646400 ≤ n ∧ n ≤ 126193161599) : tY n = dY (n / 86400) := by
  unfold tY
  first | rfl | (rw [if_pos (by omega)])

set_option maxHeartbeats 4000000 in
theorem iOptions_none (z : Zn) (n : Int) (w : World) (s0 : z.s = 0) (ho : -100000 ≤ z.o ∧ z.o ≤ 100000) (hn : 34646400 ≤ n ∧ n ≤ 126193161599) :
    Calls Try.prog 45 #[(.agg #[.int .i64 (z.o), .int .i64 (z.s), .int .i64 (z.m), .int .i64 (z.k), .int .i64 (z.d), .int .i64 (z.i), .int .i64 (z.m'), .int .i64 (z.k'), .int .i64 (z.d'), .int .i64 (z.i')]), .int .i64 n] w (GaveInts [n - 60 * z.o] w) := by
  have c' : (z.s == 0) = true := by simpa using s0
  have C := Lib.hid c'; clear c' s0
  have w1 : IntKind.i64.wrap (z.o * 60) = z.o * 60 := IntWalk.i64_in _ (by omega)
  have ht : ∃ t, n - z.o * 60 = t := ⟨_, rfl⟩
  obtain ⟨t, ht⟩ := ht
  have w2 : IntKind.i64.wrap (n - z.o * 60) = t := by rw [IntWalk.i64_in _ (by omega), ht]
  rw [show n - 60 * z.o = t by omega]
  have hp : 0 ≤ t := by omega
  clear ht
  have hY := tY_local hn
  generalize dY (n / 86400) = y at *
  have HY := Lib.hid hY
  have SY := st_year
  have hS := (ten_at (Below.refl w.heap.size w) (.int .i64 (z.o)) (.int .i64 (z.s)) (.int .i64 (z.m)) (.int .i64 (z.k)) (.int .i64 (z.d)) (.int .i64 (z.i)) (.int .i64 (z.m')) (.int .i64 (z.k')) (.int .i64 (z.d')) (.int .i64 (z.i')) 26)
  go_enter Try.func45, Try.ntmps45
  go_wp2_with fail
  go_region_held3 (fun w' => Below w.heap.size w w' ∧ w'.cell? ⟨w.heap.size, 0, none⟩ = some (.int .i64 (z.o)) ∧ w'.cell? ⟨w.heap.size, 1, none⟩ = some (.int .i64 (z.s)) ∧ w'.cell? ⟨w.heap.size, 2, none⟩ = some (.int .i64 (z.m)) ∧ w'.cell? ⟨w.heap.size, 3, none⟩ = some (.int .i64 (z.k)) ∧ w'.cell? ⟨w.heap.size, 4, none⟩ = some (.int .i64 (z.d)) ∧ w'.cell? ⟨w.heap.size, 5, none⟩ = some (.int .i64 (z.i)) ∧ w'.cell? ⟨w.heap.size, 6, none⟩ = some (.int .i64 (z.m')) ∧ w'.cell? ⟨w.heap.size, 7, none⟩ = some (.int .i64 (z.k')) ∧ w'.cell? ⟨w.heap.size, 8, none⟩ = some (.int .i64 (z.d')) ∧ w'.cell? ⟨w.heap.size, 9, none⟩ = some (.int .i64 (z.i')))
    (first | exact ten_stays _ _ _ _ _ _ _ _ _ _ _ _ _ _ (Below.refl _ _).drew hS | exact ten_stays _ _ _ _ _ _ _ _ _ _ _ _ _ _ hb3 (by assumption))
    (first | (go_at_call 54; refine (iStampOf _ _).mono ?_; rw [HY.out]; rintro e w3 ⟨rfl, hb3⟩) | (go_at_call 60; refine (iChanges_none z _ _ C.out).mono ?_; rintro e w3 ⟨rfl, hb3⟩))
  go_wp2_with fail
  refine (iOffsetBefore_none z _).mono ?_
  rintro e wy ⟨rfl, hby⟩
  have hhh : (fun w' => Below w.heap.size w w' ∧ w'.cell? ⟨w.heap.size, 0, none⟩ = some (.int .i64 (z.o)) ∧ w'.cell? ⟨w.heap.size, 1, none⟩ = some (.int .i64 (z.s)) ∧ w'.cell? ⟨w.heap.size, 2, none⟩ = some (.int .i64 (z.m)) ∧ w'.cell? ⟨w.heap.size, 3, none⟩ = some (.int .i64 (z.k)) ∧ w'.cell? ⟨w.heap.size, 4, none⟩ = some (.int .i64 (z.d)) ∧ w'.cell? ⟨w.heap.size, 5, none⟩ = some (.int .i64 (z.i)) ∧ w'.cell? ⟨w.heap.size, 6, none⟩ = some (.int .i64 (z.m')) ∧ w'.cell? ⟨w.heap.size, 7, none⟩ = some (.int .i64 (z.k')) ∧ w'.cell? ⟨w.heap.size, 8, none⟩ = some (.int .i64 (z.d')) ∧ w'.cell? ⟨w.heap.size, 9, none⟩ = some (.int .i64 (z.i'))) w3 := (by assumption)
  have hb := hhh.1
  clear hhh
  have hzb := hb.size
  have hb := hb.trans (hby.mono hzb)
  have hsz := hb.size
  go_wp2_with fail
  refine wp_loop_rounds 1 ?_
  rw [rounds_succ]
  (go_wp2_with (at_builtin; refine append_grow rfl _ _ rfl (wy.heap.size + 1) (wy.heap.size) _ [] rfl (Own.below (Own.nil wy _) (by repeat' (first | with_reducible assumption | with_reducible exact Below.refl _ _ | with_reducible refine Below.setCell ?_ ?_ _ | with_reducible refine Below.alloc ?_ ?_ _ | with_reducible apply Below.drew | with_reducible apply Below.drewn | (simp; done) | (simp; omega)))) (lt_nil2 _) _ 1 t rfl (by go_simp) (by simp) (by first | (simp; omega) | (simp; done) | omega) ?_); intro vw8 w8 hOw8 hbw8 hKw8; have hzw8 := hbw8.size; (try simp only [World.size_alloc, World.size_drew] at hzw8))
  (have hb := Below.trans hb (Below.trans (show Below w.heap.size wy _ from (by repeat' (first | with_reducible assumption | with_reducible exact Below.refl _ _ | with_reducible refine Below.setCell ?_ ?_ _ | with_reducible refine Below.alloc ?_ ?_ _ | with_reducible apply Below.drew | with_reducible apply Below.drewn | (simp; done) | (simp; omega)))) (hbw8.mono (by omega))))
  go_wp2
  go_ret
  exact ⟨_, rfl, (Own.ints hOw8 (by simp)).lower (by omega), (by repeat' (first | with_reducible assumption | with_reducible exact Below.refl _ _ | with_reducible refine Below.setCell ?_ ?_ _ | with_reducible refine Below.alloc ?_ ?_ _ | with_reducible apply Below.drew | with_reducible apply Below.drewn | (simp; done) | (simp; omega)))⟩



set_option maxHeartbeats 8000000 in
theorem iOptions_two (z : Zn) (n : Int) (w : World) (p x q u : Int) (hx : -100000 ≤ x ∧ x ≤ 100000) (hu : -100000 ≤ u ∧ u ≤ 100000) (hn : 34646400 ≤ n ∧ n ≤ 126193161599) (hpq : p ≤ q)
    (HI : Hid (∀ w1, Calls Try.prog 60 #[(.agg #[.int .i64 (z.o), .int .i64 (z.s), .int .i64 (z.m), .int .i64 (z.k), .int .i64 (z.d), .int .i64 (z.i), .int .i64 (z.m'), .int .i64 (z.k'), .int .i64 (z.d'), .int .i64 (z.i')]), .int .i64 (dY (n / 86400))] w1 (GaveTwo p x q u w1))) :
    Calls Try.prog 45 #[(.agg #[.int .i64 (z.o), .int .i64 (z.s), .int .i64 (z.m), .int .i64 (z.k), .int .i64 (z.d), .int .i64 (z.i), .int .i64 (z.m'), .int .i64 (z.k'), .int .i64 (z.d'), .int .i64 (z.i')]), .int .i64 n] w (GaveInts (optL n p x q u) w) := by
  have w1 : IntKind.i64.wrap (u * 60) = u * 60 := IntWalk.i64_in _ (by omega)
  have w2 : IntKind.i64.wrap (x * 60) = x * 60 := IntWalk.i64_in _ (by omega)
  have ht : ∃ t, n - u * 60 = t := ⟨_, rfl⟩
  have hv : ∃ v, n - x * 60 = v := ⟨_, rfl⟩
  obtain ⟨t, ht⟩ := ht
  obtain ⟨v, hv⟩ := hv
  have w3 : IntKind.i64.wrap (n - u * 60) = t := by rw [IntWalk.i64_in _ (by omega), ht]
  have w4 : IntKind.i64.wrap (n - x * 60) = v := by rw [IntWalk.i64_in _ (by omega), hv]
  have hp : 0 ≤ n - u * 60 := by omega
  have hY := tY_local hn
  unfold optL
  generalize dY (n / 86400) = y at *
  rw [ht] at hp ⊢
  rw [hv]
  clear ht hv
  have HY := Lib.hid hY
  clear hY
  have SY := st_year
  have hS := (ten_at (Below.refl w.heap.size w) (.int .i64 (z.o)) (.int .i64 (z.s)) (.int .i64 (z.m)) (.int .i64 (z.k)) (.int .i64 (z.d)) (.int .i64 (z.i)) (.int .i64 (z.m')) (.int .i64 (z.k')) (.int .i64 (z.d')) (.int .i64 (z.i')) 26)
  rcases (show t < p ∨ (p ≤ t ∧ t < q) ∨ q ≤ t by omega) with k1 | ⟨k1, k2⟩ | k1 <;> rcases (show v < p ∨ (p ≤ v ∧ v < q) ∨ q ≤ v by omega) with j1 | ⟨j1, j2⟩ | j1
  · rw [show ((if 0 ≤ t ∧ t < p then [t] else []) ++ (if p ≤ v ∧ v < q then [v] else []) ++ (if q ≤ t then [t] else [])) = [t] by (repeat' split) <;> first | rfl | (exfalso; omega)]
    go_enter Try.func45, Try.ntmps45
    (go_wp2_with fail; go_region_held3 (fun w' => Below w.heap.size w w' ∧ w'.cell? ⟨w.heap.size, 0, none⟩ = some (.int .i64 (z.o)) ∧ w'.cell? ⟨w.heap.size, 1, none⟩ = some (.int .i64 (z.s)) ∧ w'.cell? ⟨w.heap.size, 2, none⟩ = some (.int .i64 (z.m)) ∧ w'.cell? ⟨w.heap.size, 3, none⟩ = some (.int .i64 (z.k)) ∧ w'.cell? ⟨w.heap.size, 4, none⟩ = some (.int .i64 (z.d)) ∧ w'.cell? ⟨w.heap.size, 5, none⟩ = some (.int .i64 (z.i)) ∧ w'.cell? ⟨w.heap.size, 6, none⟩ = some (.int .i64 (z.m')) ∧ w'.cell? ⟨w.heap.size, 7, none⟩ = some (.int .i64 (z.k')) ∧ w'.cell? ⟨w.heap.size, 8, none⟩ = some (.int .i64 (z.d')) ∧ w'.cell? ⟨w.heap.size, 9, none⟩ = some (.int .i64 (z.i'))) (first | exact ten_stays _ _ _ _ _ _ _ _ _ _ _ _ _ _ (Below.refl _ _).drew hS | exact ten_stays _ _ _ _ _ _ _ _ _ _ _ _ _ _ hb3 (by assumption)) (first | (go_at_call 54; refine (iStampOf _ _).mono ?_; rw [HY.out]; rintro e w3 ⟨rfl, hb3⟩) | (go_at_call 60; refine (HI.out _).mono ?_; rintro e w3 ⟨g, rfl, hg0, hg1, c0, c1, c2, c3, hb3⟩)); go_wp2_with fail; refine (iOffsetBefore_two z g _ _ hg1 c3).mono ?_; rintro e wy ⟨rfl, hby⟩; have hzy := hby.size; have hhh : (fun w' => Below w.heap.size w w' ∧ w'.cell? ⟨w.heap.size, 0, none⟩ = some (.int .i64 (z.o)) ∧ w'.cell? ⟨w.heap.size, 1, none⟩ = some (.int .i64 (z.s)) ∧ w'.cell? ⟨w.heap.size, 2, none⟩ = some (.int .i64 (z.m)) ∧ w'.cell? ⟨w.heap.size, 3, none⟩ = some (.int .i64 (z.k)) ∧ w'.cell? ⟨w.heap.size, 4, none⟩ = some (.int .i64 (z.d)) ∧ w'.cell? ⟨w.heap.size, 5, none⟩ = some (.int .i64 (z.i)) ∧ w'.cell? ⟨w.heap.size, 6, none⟩ = some (.int .i64 (z.m')) ∧ w'.cell? ⟨w.heap.size, 7, none⟩ = some (.int .i64 (z.k')) ∧ w'.cell? ⟨w.heap.size, 8, none⟩ = some (.int .i64 (z.d')) ∧ w'.cell? ⟨w.heap.size, 9, none⟩ = some (.int .i64 (z.i'))) w3 := (by assumption); have hb := hhh.1; clear hhh; have hzb := hb.size; have hb := hb.trans (hby.mono hzb); have hsz := hb.size; have c0 := (Below_at hby g 0 hg1).trans c0; have c1 := (Below_at hby g 1 hg1).trans c1; have c2 := (Below_at hby g 2 hg1).trans c2; have c3 := (Below_at hby g 3 hg1).trans c3; have hg1 := Nat.lt_of_lt_of_le hg1 hzy; go_wp2_with fail)
    refine wp_loop_rounds 3 ?_
    rw [rounds_succ]
    (go_wp2_with (at_builtin; refine append_grow rfl _ _ rfl (wy.heap.size + 1) (wy.heap.size) _ [] rfl (Own.below (Own.nil wy _) (by repeat' (first | with_reducible assumption | with_reducible exact Below.refl _ _ | with_reducible refine Below.setCell ?_ ?_ _ | with_reducible refine Below.alloc ?_ ?_ _ | with_reducible apply Below.drew | with_reducible apply Below.drewn | (simp; done) | (simp; omega)))) (lt_nil2 _) _ 1 t rfl (by go_simp) (by simp) (by first | (simp; omega) | (simp; done) | omega) ?_); intro vw6 w6 hOw6 hbw6 hKw6; have hzw6 := hbw6.size; (try simp only [World.size_alloc, World.size_drew] at hzw6))
    (have d0 : w6.cell? ⟨wy.heap.size, 0, none⟩ = some (.int .i64 p) := (hKw6 wy.heap.size 0 (by omega) (by first | omega | simp)).trans (by go_simp); have d1 : w6.cell? ⟨wy.heap.size, 1, none⟩ = some (.int .i64 x) := (hKw6 wy.heap.size 1 (by omega) (by first | omega | simp)).trans (by go_simp))
    (have c2 : w6.cell? ⟨g, 2, none⟩ = some (.int .i64 q) := (Below_at hbw6 g 2 (by omega)).trans (by go_simp); have c3 : w6.cell? ⟨g, 3, none⟩ = some (.int .i64 u) := (Below_at hbw6 g 3 (by omega)).trans (by go_simp))
    (have hb := Below.trans hb (Below.trans (show Below w.heap.size wy _ from (by repeat' (first | with_reducible assumption | with_reducible exact Below.refl _ _ | with_reducible refine Below.setCell ?_ ?_ _ | with_reducible refine Below.alloc ?_ ?_ _ | with_reducible apply Below.drew | with_reducible apply Below.drewn | (simp; done) | (simp; omega)))) (hbw6.mono (by omega))))
    go_wp2_with fail
    go_quiet (fail)
    go_wp2_with fail
    (generalize hWW : w6.drewN nq = W2; have kk : Below w6.heap.size w6 W2 := (by rw [← hWW]; exact (by repeat' (first | with_reducible assumption | with_reducible exact Below.refl _ _ | with_reducible refine Below.setCell ?_ ?_ _ | with_reducible refine Below.alloc ?_ ?_ _ | with_reducible apply Below.drew | with_reducible apply Below.drewn | (simp; done) | (simp; omega)))); have hzk := kk.size; clear hWW)
    have hO := hOw6.below kk
    have hlt := Own.lt hO
    have c2 := (Below_at kk g 2 (by omega)).trans c2
    have c3 := (Below_at kk g 3 (by omega)).trans c3
    have hb := hb.trans (kk.mono (by omega))
    have hg2 : g < W2.heap.size := by omega
    have hs2 := hb.size
    clear kk
    rw [rounds_succ]
    go_wp2_with fail
    go_quiet (fail)
    go_wp2_with fail
    (generalize hWW : (W2.alloc (.cells #[.int .i64 q, .int .i64 u] 68)).drewN nq = W3; have kk : Below W2.heap.size W2 W3 := (by rw [← hWW]; exact (by repeat' (first | with_reducible assumption | with_reducible exact Below.refl _ _ | with_reducible refine Below.setCell ?_ ?_ _ | with_reducible refine Below.alloc ?_ ?_ _ | with_reducible apply Below.drew | with_reducible apply Below.drewn | (simp; done) | (simp; omega)))); have hzk := kk.size; clear hWW)
    have hO := hO.below kk
    have hb := hb.trans (kk.mono (by omega))
    have hs3 := hb.size
    have hlt : ∀ k, _ = some k → k < W3.heap.size := Own.lt hO
    rw [rounds_succ]
    go_wp2
    go_ret
    exact ⟨_, rfl, (Own.ints (hO.below (by repeat' (first | with_reducible assumption | with_reducible exact Below.refl _ _ | with_reducible refine Below.setCell ?_ ?_ _ | with_reducible refine Below.alloc ?_ ?_ _ | with_reducible apply Below.drew | with_reducible apply Below.drewn | (simp; done) | (simp; omega)))) (by simp)).lower (by omega), (by repeat' (first | with_reducible assumption | with_reducible exact Below.refl _ _ | with_reducible refine Below.setCell ?_ ?_ _ | with_reducible refine Below.alloc ?_ ?_ _ | with_reducible apply Below.drew | with_reducible apply Below.drewn | (simp; done) | (simp; omega)))⟩
  · rw [show ((if 0 ≤ t ∧ t < p then [t] else []) ++ (if p ≤ v ∧ v < q then [v] else []) ++ (if q ≤ t then [t] else [])) = [t, v] by (repeat' split) <;> first | rfl | (exfalso; omega)]
    go_enter Try.func45, Try.ntmps45
    (go_wp2_with fail; go_region_held3 (fun w' => Below w.heap.size w w' ∧ w'.cell? ⟨w.heap.size, 0, none⟩ = some (.int .i64 (z.o)) ∧ w'.cell? ⟨w.heap.size, 1, none⟩ = some (.int .i64 (z.s)) ∧ w'.cell? ⟨w.heap.size, 2, none⟩ = some (.int .i64 (z.m)) ∧ w'.cell? ⟨w.heap.size, 3, none⟩ = some (.int .i64 (z.k)) ∧ w'.cell? ⟨w.heap.size, 4, none⟩ = some (.int .i64 (z.d)) ∧ w'.cell? ⟨w.heap.size, 5, none⟩ = some (.int .i64 (z.i)) ∧ w'.cell? ⟨w.heap.size, 6, none⟩ = some (.int .i64 (z.m')) ∧ w'.cell? ⟨w.heap.size, 7, none⟩ = some (.int .i64 (z.k')) ∧ w'.cell? ⟨w.heap.size, 8, none⟩ = some (.int .i64 (z.d')) ∧ w'.cell? ⟨w.heap.size, 9, none⟩ = some (.int .i64 (z.i'))) (first | exact ten_stays _ _ _ _ _ _ _ _ _ _ _ _ _ _ (Below.refl _ _).drew hS | exact ten_stays _ _ _ _ _ _ _ _ _ _ _ _ _ _ hb3 (by assumption)) (first | (go_at_call 54; refine (iStampOf _ _).mono ?_; rw [HY.out]; rintro e w3 ⟨rfl, hb3⟩) | (go_at_call 60; refine (HI.out _).mono ?_; rintro e w3 ⟨g, rfl, hg0, hg1, c0, c1, c2, c3, hb3⟩)); go_wp2_with fail; refine (iOffsetBefore_two z g _ _ hg1 c3).mono ?_; rintro e wy ⟨rfl, hby⟩; have hzy := hby.size; have hhh : (fun w' => Below w.heap.size w w' ∧ w'.cell? ⟨w.heap.size, 0, none⟩ = some (.int .i64 (z.o)) ∧ w'.cell? ⟨w.heap.size, 1, none⟩ = some (.int .i64 (z.s)) ∧ w'.cell? ⟨w.heap.size, 2, none⟩ = some (.int .i64 (z.m)) ∧ w'.cell? ⟨w.heap.size, 3, none⟩ = some (.int .i64 (z.k)) ∧ w'.cell? ⟨w.heap.size, 4, none⟩ = some (.int .i64 (z.d)) ∧ w'.cell? ⟨w.heap.size, 5, none⟩ = some (.int .i64 (z.i)) ∧ w'.cell? ⟨w.heap.size, 6, none⟩ = some (.int .i64 (z.m')) ∧ w'.cell? ⟨w.heap.size, 7, none⟩ = some (.int .i64 (z.k')) ∧ w'.cell? ⟨w.heap.size, 8, none⟩ = some (.int .i64 (z.d')) ∧ w'.cell? ⟨w.heap.size, 9, none⟩ = some (.int .i64 (z.i'))) w3 := (by assumption); have hb := hhh.1; clear hhh; have hzb := hb.size; have hb := hb.trans (hby.mono hzb); have hsz := hb.size; have c0 := (Below_at hby g 0 hg1).trans c0; have c1 := (Below_at hby g 1 hg1).trans c1; have c2 := (Below_at hby g 2 hg1).trans c2; have c3 := (Below_at hby g 3 hg1).trans c3; have hg1 := Nat.lt_of_lt_of_le hg1 hzy; go_wp2_with fail)
    refine wp_loop_rounds 3 ?_
    rw [rounds_succ]
    (go_wp2_with (at_builtin; refine append_grow rfl _ _ rfl (wy.heap.size + 1) (wy.heap.size) _ [] rfl (Own.below (Own.nil wy _) (by repeat' (first | with_reducible assumption | with_reducible exact Below.refl _ _ | with_reducible refine Below.setCell ?_ ?_ _ | with_reducible refine Below.alloc ?_ ?_ _ | with_reducible apply Below.drew | with_reducible apply Below.drewn | (simp; done) | (simp; omega)))) (lt_nil2 _) _ 1 t rfl (by go_simp) (by simp) (by first | (simp; omega) | (simp; done) | omega) ?_); intro vw6 w6 hOw6 hbw6 hKw6; have hzw6 := hbw6.size; (try simp only [World.size_alloc, World.size_drew] at hzw6))
    (have d0 : w6.cell? ⟨wy.heap.size, 0, none⟩ = some (.int .i64 p) := (hKw6 wy.heap.size 0 (by omega) (by first | omega | simp)).trans (by go_simp); have d1 : w6.cell? ⟨wy.heap.size, 1, none⟩ = some (.int .i64 x) := (hKw6 wy.heap.size 1 (by omega) (by first | omega | simp)).trans (by go_simp))
    (have c2 : w6.cell? ⟨g, 2, none⟩ = some (.int .i64 q) := (Below_at hbw6 g 2 (by omega)).trans (by go_simp); have c3 : w6.cell? ⟨g, 3, none⟩ = some (.int .i64 u) := (Below_at hbw6 g 3 (by omega)).trans (by go_simp))
    (have hb := Below.trans hb (Below.trans (show Below w.heap.size wy _ from (by repeat' (first | with_reducible assumption | with_reducible exact Below.refl _ _ | with_reducible refine Below.setCell ?_ ?_ _ | with_reducible refine Below.alloc ?_ ?_ _ | with_reducible apply Below.drew | with_reducible apply Below.drewn | (simp; done) | (simp; omega)))) (hbw6.mono (by omega))))
    go_wp2_with fail
    go_quiet (fail)
    go_wp2_with fail
    (generalize hWW : w6.drewN nq = W2; have kk : Below w6.heap.size w6 W2 := (by rw [← hWW]; exact (by repeat' (first | with_reducible assumption | with_reducible exact Below.refl _ _ | with_reducible refine Below.setCell ?_ ?_ _ | with_reducible refine Below.alloc ?_ ?_ _ | with_reducible apply Below.drew | with_reducible apply Below.drewn | (simp; done) | (simp; omega)))); have hzk := kk.size; clear hWW)
    have hO := hOw6.below kk
    have hlt := Own.lt hO
    have c2 := (Below_at kk g 2 (by omega)).trans c2
    have c3 := (Below_at kk g 3 (by omega)).trans c3
    have hb := hb.trans (kk.mono (by omega))
    have hg2 : g < W2.heap.size := by omega
    have hs2 := hb.size
    clear kk
    rw [rounds_succ]
    (go_wp2_with (at_builtin; refine append_grow rfl _ _ rfl (wy.heap.size + 1) (W2.heap.size) _ [t] rfl (Own.below hO (by repeat' (first | with_reducible assumption | with_reducible exact Below.refl _ _ | with_reducible refine Below.setCell ?_ ?_ _ | with_reducible refine Below.alloc ?_ ?_ _ | with_reducible apply Below.drew | with_reducible apply Below.drewn | (simp; done) | (simp; omega)))) hlt _ 1 v rfl (by go_simp) (by simp) (by first | (simp; omega) | (simp; done) | omega) ?_); intro vw7 w7 hOw7 hbw7 hKw7; have hzw7 := hbw7.size; (try simp only [World.size_alloc, World.size_drew] at hzw7))
    (have d0 : w7.cell? ⟨W2.heap.size, 0, none⟩ = some (.int .i64 q) := (hKw7 W2.heap.size 0 (by omega) (by first | omega | simp)).trans (by go_simp); have d1 : w7.cell? ⟨W2.heap.size, 1, none⟩ = some (.int .i64 u) := (hKw7 W2.heap.size 1 (by omega) (by first | omega | simp)).trans (by go_simp))
    (have hb := Below.trans hb (Below.trans (show Below w.heap.size W2 _ from (by repeat' (first | with_reducible assumption | with_reducible exact Below.refl _ _ | with_reducible refine Below.setCell ?_ ?_ _ | with_reducible refine Below.alloc ?_ ?_ _ | with_reducible apply Below.drew | with_reducible apply Below.drewn | (simp; done) | (simp; omega)))) (hbw7.mono (by omega))))
    go_wp2_with fail
    go_quiet (fail)
    go_wp2_with fail
    (generalize hWW : w7.drewN nq = W3; have kk : Below w7.heap.size w7 W3 := (by rw [← hWW]; exact (by repeat' (first | with_reducible assumption | with_reducible exact Below.refl _ _ | with_reducible refine Below.setCell ?_ ?_ _ | with_reducible refine Below.alloc ?_ ?_ _ | with_reducible apply Below.drew | with_reducible apply Below.drewn | (simp; done) | (simp; omega)))); have hzk := kk.size; clear hWW)
    have hO := hOw7.below kk
    have hb := hb.trans (kk.mono (by omega))
    have hs3 := hb.size
    have hlt : ∀ k, _ = some k → k < W3.heap.size := Own.lt hO
    rw [rounds_succ]
    go_wp2
    go_ret
    exact ⟨_, rfl, (Own.ints (hO.below (by repeat' (first | with_reducible assumption | with_reducible exact Below.refl _ _ | with_reducible refine Below.setCell ?_ ?_ _ | with_reducible refine Below.alloc ?_ ?_ _ | with_reducible apply Below.drew | with_reducible apply Below.drewn | (simp; done) | (simp; omega)))) (by simp)).lower (by omega), (by repeat' (first | with_reducible assumption | with_reducible exact Below.refl _ _ | with_reducible refine Below.setCell ?_ ?_ _ | with_reducible refine Below.alloc ?_ ?_ _ | with_reducible apply Below.drew | with_reducible apply Below.drewn | (simp; done) | (simp; omega)))⟩
  · rw [show ((if 0 ≤ t ∧ t < p then [t] else []) ++ (if p ≤ v ∧ v < q then [v] else []) ++ (if q ≤ t then [t] else [])) = [t] by (repeat' split) <;> first | rfl | (exfalso; omega)]
    go_enter Try.func45, Try.ntmps45
    (go_wp2_with fail; go_region_held3 (fun w' => Below w.heap.size w w' ∧ w'.cell? ⟨w.heap.size, 0, none⟩ = some (.int .i64 (z.o)) ∧ w'.cell? ⟨w.heap.size, 1, none⟩ = some (.int .i64 (z.s)) ∧ w'.cell? ⟨w.heap.size, 2, none⟩ = some (.int .i64 (z.m)) ∧ w'.cell? ⟨w.heap.size, 3, none⟩ = some (.int .i64 (z.k)) ∧ w'.cell? ⟨w.heap.size, 4, none⟩ = some (.int .i64 (z.d)) ∧ w'.cell? ⟨w.heap.size, 5, none⟩ = some (.int .i64 (z.i)) ∧ w'.cell? ⟨w.heap.size, 6, none⟩ = some (.int .i64 (z.m')) ∧ w'.cell? ⟨w.heap.size, 7, none⟩ = some (.int .i64 (z.k')) ∧ w'.cell? ⟨w.heap.size, 8, none⟩ = some (.int .i64 (z.d')) ∧ w'.cell? ⟨w.heap.size, 9, none⟩ = some (.int .i64 (z.i'))) (first | exact ten_stays _ _ _ _ _ _ _ _ _ _ _ _ _ _ (Below.refl _ _).drew hS | exact ten_stays _ _ _ _ _ _ _ _ _ _ _ _ _ _ hb3 (by assumption)) (first | (go_at_call 54; refine (iStampOf _ _).mono ?_; rw [HY.out]; rintro e w3 ⟨rfl, hb3⟩) | (go_at_call 60; refine (HI.out _).mono ?_; rintro e w3 ⟨g, rfl, hg0, hg1, c0, c1, c2, c3, hb3⟩)); go_wp2_with fail; refine (iOffsetBefore_two z g _ _ hg1 c3).mono ?_; rintro e wy ⟨rfl, hby⟩; have hzy := hby.size; have hhh : (fun w' => Below w.heap.size w w' ∧ w'.cell? ⟨w.heap.size, 0, none⟩ = some (.int .i64 (z.o)) ∧ w'.cell? ⟨w.heap.size, 1, none⟩ = some (.int .i64 (z.s)) ∧ w'.cell? ⟨w.heap.size, 2, none⟩ = some (.int .i64 (z.m)) ∧ w'.cell? ⟨w.heap.size, 3, none⟩ = some (.int .i64 (z.k)) ∧ w'.cell? ⟨w.heap.size, 4, none⟩ = some (.int .i64 (z.d)) ∧ w'.cell? ⟨w.heap.size, 5, none⟩ = some (.int .i64 (z.i)) ∧ w'.cell? ⟨w.heap.size, 6, none⟩ = some (.int .i64 (z.m')) ∧ w'.cell? ⟨w.heap.size, 7, none⟩ = some (.int .i64 (z.k')) ∧ w'.cell? ⟨w.heap.size, 8, none⟩ = some (.int .i64 (z.d')) ∧ w'.cell? ⟨w.heap.size, 9, none⟩ = some (.int .i64 (z.i'))) w3 := (by assumption); have hb := hhh.1; clear hhh; have hzb := hb.size; have hb := hb.trans (hby.mono hzb); have hsz := hb.size; have c0 := (Below_at hby g 0 hg1).trans c0; have c1 := (Below_at hby g 1 hg1).trans c1; have c2 := (Below_at hby g 2 hg1).trans c2; have c3 := (Below_at hby g 3 hg1).trans c3; have hg1 := Nat.lt_of_lt_of_le hg1 hzy; go_wp2_with fail)
    refine wp_loop_rounds 3 ?_
    rw [rounds_succ]
    (go_wp2_with (at_builtin; refine append_grow rfl _ _ rfl (wy.heap.size + 1) (wy.heap.size) _ [] rfl (Own.below (Own.nil wy _) (by repeat' (first | with_reducible assumption | with_reducible exact Below.refl _ _ | with_reducible refine Below.setCell ?_ ?_ _ | with_reducible refine Below.alloc ?_ ?_ _ | with_reducible apply Below.drew | with_reducible apply Below.drewn | (simp; done) | (simp; omega)))) (lt_nil2 _) _ 1 t rfl (by go_simp) (by simp) (by first | (simp; omega) | (simp; done) | omega) ?_); intro vw6 w6 hOw6 hbw6 hKw6; have hzw6 := hbw6.size; (try simp only [World.size_alloc, World.size_drew] at hzw6))
    (have d0 : w6.cell? ⟨wy.heap.size, 0, none⟩ = some (.int .i64 p) := (hKw6 wy.heap.size 0 (by omega) (by first | omega | simp)).trans (by go_simp); have d1 : w6.cell? ⟨wy.heap.size, 1, none⟩ = some (.int .i64 x) := (hKw6 wy.heap.size 1 (by omega) (by first | omega | simp)).trans (by go_simp))
    (have c2 : w6.cell? ⟨g, 2, none⟩ = some (.int .i64 q) := (Below_at hbw6 g 2 (by omega)).trans (by go_simp); have c3 : w6.cell? ⟨g, 3, none⟩ = some (.int .i64 u) := (Below_at hbw6 g 3 (by omega)).trans (by go_simp))
    (have hb := Below.trans hb (Below.trans (show Below w.heap.size wy _ from (by repeat' (first | with_reducible assumption | with_reducible exact Below.refl _ _ | with_reducible refine Below.setCell ?_ ?_ _ | with_reducible refine Below.alloc ?_ ?_ _ | with_reducible apply Below.drew | with_reducible apply Below.drewn | (simp; done) | (simp; omega)))) (hbw6.mono (by omega))))
    go_wp2_with fail
    go_quiet (fail)
    go_wp2_with fail
    (generalize hWW : w6.drewN nq = W2; have kk : Below w6.heap.size w6 W2 := (by rw [← hWW]; exact (by repeat' (first | with_reducible assumption | with_reducible exact Below.refl _ _ | with_reducible refine Below.setCell ?_ ?_ _ | with_reducible refine Below.alloc ?_ ?_ _ | with_reducible apply Below.drew | with_reducible apply Below.drewn | (simp; done) | (simp; omega)))); have hzk := kk.size; clear hWW)
    have hO := hOw6.below kk
    have hlt := Own.lt hO
    have c2 := (Below_at kk g 2 (by omega)).trans c2
    have c3 := (Below_at kk g 3 (by omega)).trans c3
    have hb := hb.trans (kk.mono (by omega))
    have hg2 : g < W2.heap.size := by omega
    have hs2 := hb.size
    clear kk
    rw [rounds_succ]
    go_wp2_with fail
    go_quiet (fail)
    go_wp2_with fail
    (generalize hWW : (W2.alloc (.cells #[.int .i64 q, .int .i64 u] 68)).drewN nq = W3; have kk : Below W2.heap.size W2 W3 := (by rw [← hWW]; exact (by repeat' (first | with_reducible assumption | with_reducible exact Below.refl _ _ | with_reducible refine Below.setCell ?_ ?_ _ | with_reducible refine Below.alloc ?_ ?_ _ | with_reducible apply Below.drew | with_reducible apply Below.drewn | (simp; done) | (simp; omega)))); have hzk := kk.size; clear hWW)
    have hO := hO.below kk
    have hb := hb.trans (kk.mono (by omega))
    have hs3 := hb.size
    have hlt : ∀ k, _ = some k → k < W3.heap.size := Own.lt hO
    rw [rounds_succ]
    go_wp2
    go_ret
    exact ⟨_, rfl, (Own.ints (hO.below (by repeat' (first | with_reducible assumption | with_reducible exact Below.refl _ _ | with_reducible refine Below.setCell ?_ ?_ _ | with_reducible refine Below.alloc ?_ ?_ _ | with_reducible apply Below.drew | with_reducible apply Below.drewn | (simp; done) | (simp; omega)))) (by simp)).lower (by omega), (by repeat' (first | with_reducible assumption | with_reducible exact Below.refl _ _ | with_reducible refine Below.setCell ?_ ?_ _ | with_reducible refine Below.alloc ?_ ?_ _ | with_reducible apply Below.drew | with_reducible apply Below.drewn | (simp; done) | (simp; omega)))⟩
  · rw [show ((if 0 ≤ t ∧ t < p then [t] else []) ++ (if p ≤ v ∧ v < q then [v] else []) ++ (if q ≤ t then [t] else [])) = [] by (repeat' split) <;> first | rfl | (exfalso; omega)]
    go_enter Try.func45, Try.ntmps45
    (go_wp2_with fail; go_region_held3 (fun w' => Below w.heap.size w w' ∧ w'.cell? ⟨w.heap.size, 0, none⟩ = some (.int .i64 (z.o)) ∧ w'.cell? ⟨w.heap.size, 1, none⟩ = some (.int .i64 (z.s)) ∧ w'.cell? ⟨w.heap.size, 2, none⟩ = some (.int .i64 (z.m)) ∧ w'.cell? ⟨w.heap.size, 3, none⟩ = some (.int .i64 (z.k)) ∧ w'.cell? ⟨w.heap.size, 4, none⟩ = some (.int .i64 (z.d)) ∧ w'.cell? ⟨w.heap.size, 5, none⟩ = some (.int .i64 (z.i)) ∧ w'.cell? ⟨w.heap.size, 6, none⟩ = some (.int .i64 (z.m')) ∧ w'.cell? ⟨w.heap.size, 7, none⟩ = some (.int .i64 (z.k')) ∧ w'.cell? ⟨w.heap.size, 8, none⟩ = some (.int .i64 (z.d')) ∧ w'.cell? ⟨w.heap.size, 9, none⟩ = some (.int .i64 (z.i'))) (first | exact ten_stays _ _ _ _ _ _ _ _ _ _ _ _ _ _ (Below.refl _ _).drew hS | exact ten_stays _ _ _ _ _ _ _ _ _ _ _ _ _ _ hb3 (by assumption)) (first | (go_at_call 54; refine (iStampOf _ _).mono ?_; rw [HY.out]; rintro e w3 ⟨rfl, hb3⟩) | (go_at_call 60; refine (HI.out _).mono ?_; rintro e w3 ⟨g, rfl, hg0, hg1, c0, c1, c2, c3, hb3⟩)); go_wp2_with fail; refine (iOffsetBefore_two z g _ _ hg1 c3).mono ?_; rintro e wy ⟨rfl, hby⟩; have hzy := hby.size; have hhh : (fun w' => Below w.heap.size w w' ∧ w'.cell? ⟨w.heap.size, 0, none⟩ = some (.int .i64 (z.o)) ∧ w'.cell? ⟨w.heap.size, 1, none⟩ = some (.int .i64 (z.s)) ∧ w'.cell? ⟨w.heap.size, 2, none⟩ = some (.int .i64 (z.m)) ∧ w'.cell? ⟨w.heap.size, 3, none⟩ = some (.int .i64 (z.k)) ∧ w'.cell? ⟨w.heap.size, 4, none⟩ = some (.int .i64 (z.d)) ∧ w'.cell? ⟨w.heap.size, 5, none⟩ = some (.int .i64 (z.i)) ∧ w'.cell? ⟨w.heap.size, 6, none⟩ = some (.int .i64 (z.m')) ∧ w'.cell? ⟨w.heap.size, 7, none⟩ = some (.int .i64 (z.k')) ∧ w'.cell? ⟨w.heap.size, 8, none⟩ = some (.int .i64 (z.d')) ∧ w'.cell? ⟨w.heap.size, 9, none⟩ = some (.int .i64 (z.i'))) w3 := (by assumption); have hb := hhh.1; clear hhh; have hzb := hb.size; have hb := hb.trans (hby.mono hzb); have hsz := hb.size; have c0 := (Below_at hby g 0 hg1).trans c0; have c1 := (Below_at hby g 1 hg1).trans c1; have c2 := (Below_at hby g 2 hg1).trans c2; have c3 := (Below_at hby g 3 hg1).trans c3; have hg1 := Nat.lt_of_lt_of_le hg1 hzy; go_wp2_with fail)
    refine wp_loop_rounds 3 ?_
    rw [rounds_succ]
    go_wp2_with fail
    go_quiet (fail)
    go_wp2_with fail
    (generalize hWW : (wy.alloc (.cells #[.int .i64 p, .int .i64 x] 68)).drewN nq = W2; have kk : Below wy.heap.size wy W2 := (by rw [← hWW]; exact (by repeat' (first | with_reducible assumption | with_reducible exact Below.refl _ _ | with_reducible refine Below.setCell ?_ ?_ _ | with_reducible refine Below.alloc ?_ ?_ _ | with_reducible apply Below.drew | with_reducible apply Below.drewn | (simp; done) | (simp; omega)))); have hzk := kk.size; clear hWW)
    have hO := Own.nil W2 (wy.heap.size + 1)
    have hlt := lt_nil2 W2.heap.size
    have c2 := (Below_at kk g 2 (by omega)).trans c2
    have c3 := (Below_at kk g 3 (by omega)).trans c3
    have hb := hb.trans (kk.mono (by omega))
    have hg2 : g < W2.heap.size := by omega
    have hs2 := hb.size
    clear kk
    rw [rounds_succ]
    go_wp2_with fail
    go_quiet (fail)
    go_wp2_with fail
    (generalize hWW : (W2.alloc (.cells #[.int .i64 q, .int .i64 u] 68)).drewN nq = W3; have kk : Below W2.heap.size W2 W3 := (by rw [← hWW]; exact (by repeat' (first | with_reducible assumption | with_reducible exact Below.refl _ _ | with_reducible refine Below.setCell ?_ ?_ _ | with_reducible refine Below.alloc ?_ ?_ _ | with_reducible apply Below.drew | with_reducible apply Below.drewn | (simp; done) | (simp; omega)))); have hzk := kk.size; clear hWW)
    have hO := hO.below kk
    have hb := hb.trans (kk.mono (by omega))
    have hs3 := hb.size
    have hlt : ∀ k, _ = some k → k < W3.heap.size := Own.lt hO
    rw [rounds_succ]
    go_wp2
    go_ret
    exact ⟨_, rfl, (Own.ints (hO.below (by repeat' (first | with_reducible assumption | with_reducible exact Below.refl _ _ | with_reducible refine Below.setCell ?_ ?_ _ | with_reducible refine Below.alloc ?_ ?_ _ | with_reducible apply Below.drew | with_reducible apply Below.drewn | (simp; done) | (simp; omega)))) (by simp)).lower (by omega), (by repeat' (first | with_reducible assumption | with_reducible exact Below.refl _ _ | with_reducible refine Below.setCell ?_ ?_ _ | with_reducible refine Below.alloc ?_ ?_ _ | with_reducible apply Below.drew | with_reducible apply Below.drewn | (simp; done) | (simp; omega)))⟩
  · rw [show ((if 0 ≤ t ∧ t < p then [t] else []) ++ (if p ≤ v ∧ v < q then [v] else []) ++ (if q ≤ t then [t] else [])) = [v] by (repeat' split) <;> first | rfl | (exfalso; omega)]
    go_enter Try.func45, Try.ntmps45
    (go_wp2_with fail; go_region_held3 (fun w' => Below w.heap.size w w' ∧ w'.cell? ⟨w.heap.size, 0, none⟩ = some (.int .i64 (z.o)) ∧ w'.cell? ⟨w.heap.size, 1, none⟩ = some (.int .i64 (z.s)) ∧ w'.cell? ⟨w.heap.size, 2, none⟩ = some (.int .i64 (z.m)) ∧ w'.cell? ⟨w.heap.size, 3, none⟩ = some (.int .i64 (z.k)) ∧ w'.cell? ⟨w.heap.size, 4, none⟩ = some (.int .i64 (z.d)) ∧ w'.cell? ⟨w.heap.size, 5, none⟩ = some (.int .i64 (z.i)) ∧ w'.cell? ⟨w.heap.size, 6, none⟩ = some (.int .i64 (z.m')) ∧ w'.cell? ⟨w.heap.size, 7, none⟩ = some (.int .i64 (z.k')) ∧ w'.cell? ⟨w.heap.size, 8, none⟩ = some (.int .i64 (z.d')) ∧ w'.cell? ⟨w.heap.size, 9, none⟩ = some (.int .i64 (z.i'))) (first | exact ten_stays _ _ _ _ _ _ _ _ _ _ _ _ _ _ (Below.refl _ _).drew hS | exact ten_stays _ _ _ _ _ _ _ _ _ _ _ _ _ _ hb3 (by assumption)) (first | (go_at_call 54; refine (iStampOf _ _).mono ?_; rw [HY.out]; rintro e w3 ⟨rfl, hb3⟩) | (go_at_call 60; refine (HI.out _).mono ?_; rintro e w3 ⟨g, rfl, hg0, hg1, c0, c1, c2, c3, hb3⟩)); go_wp2_with fail; refine (iOffsetBefore_two z g _ _ hg1 c3).mono ?_; rintro e wy ⟨rfl, hby⟩; have hzy := hby.size; have hhh : (fun w' => Below w.heap.size w w' ∧ w'.cell? ⟨w.heap.size, 0, none⟩ = some (.int .i64 (z.o)) ∧ w'.cell? ⟨w.heap.size, 1, none⟩ = some (.int .i64 (z.s)) ∧ w'.cell? ⟨w.heap.size, 2, none⟩ = some (.int .i64 (z.m)) ∧ w'.cell? ⟨w.heap.size, 3, none⟩ = some (.int .i64 (z.k)) ∧ w'.cell? ⟨w.heap.size, 4, none⟩ = some (.int .i64 (z.d)) ∧ w'.cell? ⟨w.heap.size, 5, none⟩ = some (.int .i64 (z.i)) ∧ w'.cell? ⟨w.heap.size, 6, none⟩ = some (.int .i64 (z.m')) ∧ w'.cell? ⟨w.heap.size, 7, none⟩ = some (.int .i64 (z.k')) ∧ w'.cell? ⟨w.heap.size, 8, none⟩ = some (.int .i64 (z.d')) ∧ w'.cell? ⟨w.heap.size, 9, none⟩ = some (.int .i64 (z.i'))) w3 := (by assumption); have hb := hhh.1; clear hhh; have hzb := hb.size; have hb := hb.trans (hby.mono hzb); have hsz := hb.size; have c0 := (Below_at hby g 0 hg1).trans c0; have c1 := (Below_at hby g 1 hg1).trans c1; have c2 := (Below_at hby g 2 hg1).trans c2; have c3 := (Below_at hby g 3 hg1).trans c3; have hg1 := Nat.lt_of_lt_of_le hg1 hzy; go_wp2_with fail)
    refine wp_loop_rounds 3 ?_
    rw [rounds_succ]
    go_wp2_with fail
    go_quiet (fail)
    go_wp2_with fail
    (generalize hWW : (wy.alloc (.cells #[.int .i64 p, .int .i64 x] 68)).drewN nq = W2; have kk : Below wy.heap.size wy W2 := (by rw [← hWW]; exact (by repeat' (first | with_reducible assumption | with_reducible exact Below.refl _ _ | with_reducible refine Below.setCell ?_ ?_ _ | with_reducible refine Below.alloc ?_ ?_ _ | with_reducible apply Below.drew | with_reducible apply Below.drewn | (simp; done) | (simp; omega)))); have hzk := kk.size; clear hWW)
    have hO := Own.nil W2 (wy.heap.size + 1)
    have hlt := lt_nil2 W2.heap.size
    have c2 := (Below_at kk g 2 (by omega)).trans c2
    have c3 := (Below_at kk g 3 (by omega)).trans c3
    have hb := hb.trans (kk.mono (by omega))
    have hg2 : g < W2.heap.size := by omega
    have hs2 := hb.size
    clear kk
    rw [rounds_succ]
    (go_wp2_with (at_builtin; refine append_grow rfl _ _ rfl (wy.heap.size + 1) (W2.heap.size) _ [] rfl (Own.below hO (by repeat' (first | with_reducible assumption | with_reducible exact Below.refl _ _ | with_reducible refine Below.setCell ?_ ?_ _ | with_reducible refine Below.alloc ?_ ?_ _ | with_reducible apply Below.drew | with_reducible apply Below.drewn | (simp; done) | (simp; omega)))) hlt _ 1 v rfl (by go_simp) (by simp) (by first | (simp; omega) | (simp; done) | omega) ?_); intro vw7 w7 hOw7 hbw7 hKw7; have hzw7 := hbw7.size; (try simp only [World.size_alloc, World.size_drew] at hzw7))
    (have d0 : w7.cell? ⟨W2.heap.size, 0, none⟩ = some (.int .i64 q) := (hKw7 W2.heap.size 0 (by omega) (by first | omega | simp)).trans (by go_simp); have d1 : w7.cell? ⟨W2.heap.size, 1, none⟩ = some (.int .i64 u) := (hKw7 W2.heap.size 1 (by omega) (by first | omega | simp)).trans (by go_simp))
    (have hb := Below.trans hb (Below.trans (show Below w.heap.size W2 _ from (by repeat' (first | with_reducible assumption | with_reducible exact Below.refl _ _ | with_reducible refine Below.setCell ?_ ?_ _ | with_reducible refine Below.alloc ?_ ?_ _ | with_reducible apply Below.drew | with_reducible apply Below.drewn | (simp; done) | (simp; omega)))) (hbw7.mono (by omega))))
    go_wp2_with fail
    go_quiet (fail)
    go_wp2_with fail
    (generalize hWW : w7.drewN nq = W3; have kk : Below w7.heap.size w7 W3 := (by rw [← hWW]; exact (by repeat' (first | with_reducible assumption | with_reducible exact Below.refl _ _ | with_reducible refine Below.setCell ?_ ?_ _ | with_reducible refine Below.alloc ?_ ?_ _ | with_reducible apply Below.drew | with_reducible apply Below.drewn | (simp; done) | (simp; omega)))); have hzk := kk.size; clear hWW)
    have hO := hOw7.below kk
    have hb := hb.trans (kk.mono (by omega))
    have hs3 := hb.size
    have hlt : ∀ k, _ = some k → k < W3.heap.size := Own.lt hO
    rw [rounds_succ]
    go_wp2
    go_ret
    exact ⟨_, rfl, (Own.ints (hO.below (by repeat' (first | with_reducible assumption | with_reducible exact Below.refl _ _ | with_reducible refine Below.setCell ?_ ?_ _ | with_reducible refine Below.alloc ?_ ?_ _ | with_reducible apply Below.drew | with_reducible apply Below.drewn | (simp; done) | (simp; omega)))) (by simp)).lower (by omega), (by repeat' (first | with_reducible assumption | with_reducible exact Below.refl _ _ | with_reducible refine Below.setCell ?_ ?_ _ | with_reducible refine Below.alloc ?_ ?_ _ | with_reducible apply Below.drew | with_reducible apply Below.drewn | (simp; done) | (simp; omega)))⟩
  · rw [show ((if 0 ≤ t ∧ t < p then [t] else []) ++ (if p ≤ v ∧ v < q then [v] else []) ++ (if q ≤ t then [t] else [])) = [] by (repeat' split) <;> first | rfl | (exfalso; omega)]
    go_enter Try.func45, Try.ntmps45
    (go_wp2_with fail; go_region_held3 (fun w' => Below w.heap.size w w' ∧ w'.cell? ⟨w.heap.size, 0, none⟩ = some (.int .i64 (z.o)) ∧ w'.cell? ⟨w.heap.size, 1, none⟩ = some (.int .i64 (z.s)) ∧ w'.cell? ⟨w.heap.size, 2, none⟩ = some (.int .i64 (z.m)) ∧ w'.cell? ⟨w.heap.size, 3, none⟩ = some (.int .i64 (z.k)) ∧ w'.cell? ⟨w.heap.size, 4, none⟩ = some (.int .i64 (z.d)) ∧ w'.cell? ⟨w.heap.size, 5, none⟩ = some (.int .i64 (z.i)) ∧ w'.cell? ⟨w.heap.size, 6, none⟩ = some (.int .i64 (z.m')) ∧ w'.cell? ⟨w.heap.size, 7, none⟩ = some (.int .i64 (z.k')) ∧ w'.cell? ⟨w.heap.size, 8, none⟩ = some (.int .i64 (z.d')) ∧ w'.cell? ⟨w.heap.size, 9, none⟩ = some (.int .i64 (z.i'))) (first | exact ten_stays _ _ _ _ _ _ _ _ _ _ _ _ _ _ (Below.refl _ _).drew hS | exact ten_stays _ _ _ _ _ _ _ _ _ _ _ _ _ _ hb3 (by assumption)) (first | (go_at_call 54; refine (iStampOf _ _).mono ?_; rw [HY.out]; rintro e w3 ⟨rfl, hb3⟩) | (go_at_call 60; refine (HI.out _).mono ?_; rintro e w3 ⟨g, rfl, hg0, hg1, c0, c1, c2, c3, hb3⟩)); go_wp2_with fail; refine (iOffsetBefore_two z g _ _ hg1 c3).mono ?_; rintro e wy ⟨rfl, hby⟩; have hzy := hby.size; have hhh : (fun w' => Below w.heap.size w w' ∧ w'.cell? ⟨w.heap.size, 0, none⟩ = some (.int .i64 (z.o)) ∧ w'.cell? ⟨w.heap.size, 1, none⟩ = some (.int .i64 (z.s)) ∧ w'.cell? ⟨w.heap.size, 2, none⟩ = some (.int .i64 (z.m)) ∧ w'.cell? ⟨w.heap.size, 3, none⟩ = some (.int .i64 (z.k)) ∧ w'.cell? ⟨w.heap.size, 4, none⟩ = some (.int .i64 (z.d)) ∧ w'.cell? ⟨w.heap.size, 5, none⟩ = some (.int .i64 (z.i)) ∧ w'.cell? ⟨w.heap.size, 6, none⟩ = some (.int .i64 (z.m')) ∧ w'.cell? ⟨w.heap.size, 7, none⟩ = some (.int .i64 (z.k')) ∧ w'.cell? ⟨w.heap.size, 8, none⟩ = some (.int .i64 (z.d')) ∧ w'.cell? ⟨w.heap.size, 9, none⟩ = some (.int .i64 (z.i'))) w3 := (by assumption); have hb := hhh.1; clear hhh; have hzb := hb.size; have hb := hb.trans (hby.mono hzb); have hsz := hb.size; have c0 := (Below_at hby g 0 hg1).trans c0; have c1 := (Below_at hby g 1 hg1).trans c1; have c2 := (Below_at hby g 2 hg1).trans c2; have c3 := (Below_at hby g 3 hg1).trans c3; have hg1 := Nat.lt_of_lt_of_le hg1 hzy; go_wp2_with fail)
    refine wp_loop_rounds 3 ?_
    rw [rounds_succ]
    go_wp2_with fail
    go_quiet (fail)
    go_wp2_with fail
    (generalize hWW : (wy.alloc (.cells #[.int .i64 p, .int .i64 x] 68)).drewN nq = W2; have kk : Below wy.heap.size wy W2 := (by rw [← hWW]; exact (by repeat' (first | with_reducible assumption | with_reducible exact Below.refl _ _ | with_reducible refine Below.setCell ?_ ?_ _ | with_reducible refine Below.alloc ?_ ?_ _ | with_reducible apply Below.drew | with_reducible apply Below.drewn | (simp; done) | (simp; omega)))); have hzk := kk.size; clear hWW)
    have hO := Own.nil W2 (wy.heap.size + 1)
    have hlt := lt_nil2 W2.heap.size
    have c2 := (Below_at kk g 2 (by omega)).trans c2
    have c3 := (Below_at kk g 3 (by omega)).trans c3
    have hb := hb.trans (kk.mono (by omega))
    have hg2 : g < W2.heap.size := by omega
    have hs2 := hb.size
    clear kk
    rw [rounds_succ]
    go_wp2_with fail
    go_quiet (fail)
    go_wp2_with fail
    (generalize hWW : (W2.alloc (.cells #[.int .i64 q, .int .i64 u] 68)).drewN nq = W3; have kk : Below W2.heap.size W2 W3 := (by rw [← hWW]; exact (by repeat' (first | with_reducible assumption | with_reducible exact Below.refl _ _ | with_reducible refine Below.setCell ?_ ?_ _ | with_reducible refine Below.alloc ?_ ?_ _ | with_reducible apply Below.drew | with_reducible apply Below.drewn | (simp; done) | (simp; omega)))); have hzk := kk.size; clear hWW)
    have hO := hO.below kk
    have hb := hb.trans (kk.mono (by omega))
    have hs3 := hb.size
    have hlt : ∀ k, _ = some k → k < W3.heap.size := Own.lt hO
    rw [rounds_succ]
    go_wp2
    go_ret
    exact ⟨_, rfl, (Own.ints (hO.below (by repeat' (first | with_reducible assumption | with_reducible exact Below.refl _ _ | with_reducible refine Below.setCell ?_ ?_ _ | with_reducible refine Below.alloc ?_ ?_ _ | with_reducible apply Below.drew | with_reducible apply Below.drewn | (simp; done) | (simp; omega)))) (by simp)).lower (by omega), (by repeat' (first | with_reducible assumption | with_reducible exact Below.refl _ _ | with_reducible refine Below.setCell ?_ ?_ _ | with_reducible refine Below.alloc ?_ ?_ _ | with_reducible apply Below.drew | with_reducible apply Below.drewn | (simp; done) | (simp; omega)))⟩
  · rw [show ((if 0 ≤ t ∧ t < p then [t] else []) ++ (if p ≤ v ∧ v < q then [v] else []) ++ (if q ≤ t then [t] else [])) = [t] by (repeat' split) <;> first | rfl | (exfalso; omega)]
    go_enter Try.func45, Try.ntmps45
    (go_wp2_with fail; go_region_held3 (fun w' => Below w.heap.size w w' ∧ w'.cell? ⟨w.heap.size, 0, none⟩ = some (.int .i64 (z.o)) ∧ w'.cell? ⟨w.heap.size, 1, none⟩ = some (.int .i64 (z.s)) ∧ w'.cell? ⟨w.heap.size, 2, none⟩ = some (.int .i64 (z.m)) ∧ w'.cell? ⟨w.heap.size, 3, none⟩ = some (.int .i64 (z.k)) ∧ w'.cell? ⟨w.heap.size, 4, none⟩ = some (.int .i64 (z.d)) ∧ w'.cell? ⟨w.heap.size, 5, none⟩ = some (.int .i64 (z.i)) ∧ w'.cell? ⟨w.heap.size, 6, none⟩ = some (.int .i64 (z.m')) ∧ w'.cell? ⟨w.heap.size, 7, none⟩ = some (.int .i64 (z.k')) ∧ w'.cell? ⟨w.heap.size, 8, none⟩ = some (.int .i64 (z.d')) ∧ w'.cell? ⟨w.heap.size, 9, none⟩ = some (.int .i64 (z.i'))) (first | exact ten_stays _ _ _ _ _ _ _ _ _ _ _ _ _ _ (Below.refl _ _).drew hS | exact ten_stays _ _ _ _ _ _ _ _ _ _ _ _ _ _ hb3 (by assumption)) (first | (go_at_call 54; refine (iStampOf _ _).mono ?_; rw [HY.out]; rintro e w3 ⟨rfl, hb3⟩) | (go_at_call 60; refine (HI.out _).mono ?_; rintro e w3 ⟨g, rfl, hg0, hg1, c0, c1, c2, c3, hb3⟩)); go_wp2_with fail; refine (iOffsetBefore_two z g _ _ hg1 c3).mono ?_; rintro e wy ⟨rfl, hby⟩; have hzy := hby.size; have hhh : (fun w' => Below w.heap.size w w' ∧ w'.cell? ⟨w.heap.size, 0, none⟩ = some (.int .i64 (z.o)) ∧ w'.cell? ⟨w.heap.size, 1, none⟩ = some (.int .i64 (z.s)) ∧ w'.cell? ⟨w.heap.size, 2, none⟩ = some (.int .i64 (z.m)) ∧ w'.cell? ⟨w.heap.size, 3, none⟩ = some (.int .i64 (z.k)) ∧ w'.cell? ⟨w.heap.size, 4, none⟩ = some (.int .i64 (z.d)) ∧ w'.cell? ⟨w.heap.size, 5, none⟩ = some (.int .i64 (z.i)) ∧ w'.cell? ⟨w.heap.size, 6, none⟩ = some (.int .i64 (z.m')) ∧ w'.cell? ⟨w.heap.size, 7, none⟩ = some (.int .i64 (z.k')) ∧ w'.cell? ⟨w.heap.size, 8, none⟩ = some (.int .i64 (z.d')) ∧ w'.cell? ⟨w.heap.size, 9, none⟩ = some (.int .i64 (z.i'))) w3 := (by assumption); have hb := hhh.1; clear hhh; have hzb := hb.size; have hb := hb.trans (hby.mono hzb); have hsz := hb.size; have c0 := (Below_at hby g 0 hg1).trans c0; have c1 := (Below_at hby g 1 hg1).trans c1; have c2 := (Below_at hby g 2 hg1).trans c2; have c3 := (Below_at hby g 3 hg1).trans c3; have hg1 := Nat.lt_of_lt_of_le hg1 hzy; go_wp2_with fail)
    refine wp_loop_rounds 3 ?_
    rw [rounds_succ]
    go_wp2_with fail
    go_quiet (fail)
    go_wp2_with fail
    (generalize hWW : (wy.alloc (.cells #[.int .i64 p, .int .i64 x] 68)).drewN nq = W2; have kk : Below wy.heap.size wy W2 := (by rw [← hWW]; exact (by repeat' (first | with_reducible assumption | with_reducible exact Below.refl _ _ | with_reducible refine Below.setCell ?_ ?_ _ | with_reducible refine Below.alloc ?_ ?_ _ | with_reducible apply Below.drew | with_reducible apply Below.drewn | (simp; done) | (simp; omega)))); have hzk := kk.size; clear hWW)
    have hO := Own.nil W2 (wy.heap.size + 1)
    have hlt := lt_nil2 W2.heap.size
    have c2 := (Below_at kk g 2 (by omega)).trans c2
    have c3 := (Below_at kk g 3 (by omega)).trans c3
    have hb := hb.trans (kk.mono (by omega))
    have hg2 : g < W2.heap.size := by omega
    have hs2 := hb.size
    clear kk
    rw [rounds_succ]
    go_wp2_with fail
    go_quiet (fail)
    go_wp2_with fail
    (generalize hWW : (W2.alloc (.cells #[.int .i64 q, .int .i64 u] 68)).drewN nq = W3; have kk : Below W2.heap.size W2 W3 := (by rw [← hWW]; exact (by repeat' (first | with_reducible assumption | with_reducible exact Below.refl _ _ | with_reducible refine Below.setCell ?_ ?_ _ | with_reducible refine Below.alloc ?_ ?_ _ | with_reducible apply Below.drew | with_reducible apply Below.drewn | (simp; done) | (simp; omega)))); have hzk := kk.size; clear hWW)
    have hO := hO.below kk
    have hb := hb.trans (kk.mono (by omega))
    have hs3 := hb.size
    have hlt : ∀ k, _ = some k → k < W3.heap.size := Own.lt hO
    rw [rounds_succ]
    (go_wp2_with (at_builtin; refine append_grow rfl _ _ rfl (wy.heap.size + 1) (W3.heap.size) _ [] rfl (Own.below hO (by repeat' (first | with_reducible assumption | with_reducible exact Below.refl _ _ | with_reducible refine Below.setCell ?_ ?_ _ | with_reducible refine Below.alloc ?_ ?_ _ | with_reducible apply Below.drew | with_reducible apply Below.drewn | (simp; done) | (simp; omega)))) hlt _ 1 t rfl (by go_simp) (by simp) (by first | (simp; omega) | (simp; done) | omega) ?_); intro vw8 w8 hOw8 hbw8 hKw8; have hzw8 := hbw8.size; (try simp only [World.size_alloc, World.size_drew] at hzw8))
    (have hb := Below.trans hb (Below.trans (show Below w.heap.size W3 _ from (by repeat' (first | with_reducible assumption | with_reducible exact Below.refl _ _ | with_reducible refine Below.setCell ?_ ?_ _ | with_reducible refine Below.alloc ?_ ?_ _ | with_reducible apply Below.drew | with_reducible apply Below.drewn | (simp; done) | (simp; omega)))) (hbw8.mono (by omega))))
    have hO := hOw8
    go_wp2
    go_ret
    exact ⟨_, rfl, (Own.ints (hO.below (by repeat' (first | with_reducible assumption | with_reducible exact Below.refl _ _ | with_reducible refine Below.setCell ?_ ?_ _ | with_reducible refine Below.alloc ?_ ?_ _ | with_reducible apply Below.drew | with_reducible apply Below.drewn | (simp; done) | (simp; omega)))) (by simp)).lower (by omega), (by repeat' (first | with_reducible assumption | with_reducible exact Below.refl _ _ | with_reducible refine Below.setCell ?_ ?_ _ | with_reducible refine Below.alloc ?_ ?_ _ | with_reducible apply Below.drew | with_reducible apply Below.drewn | (simp; done) | (simp; omega)))⟩
  · rw [show ((if 0 ≤ t ∧ t < p then [t] else []) ++ (if p ≤ v ∧ v < q then [v] else []) ++ (if q ≤ t then [t] else [])) = [v, t] by (repeat' split) <;> first | rfl | (exfalso; omega)]
    go_enter Try.func45, Try.ntmps45
    (go_wp2_with fail; go_region_held3 (fun w' => Below w.heap.size w w' ∧ w'.cell? ⟨w.heap.size, 0, none⟩ = some (.int .i64 (z.o)) ∧ w'.cell? ⟨w.heap.size, 1, none⟩ = some (.int .i64 (z.s)) ∧ w'.cell? ⟨w.heap.size, 2, none⟩ = some (.int .i64 (z.m)) ∧ w'.cell? ⟨w.heap.size, 3, none⟩ = some (.int .i64 (z.k)) ∧ w'.cell? ⟨w.heap.size, 4, none⟩ = some (.int .i64 (z.d)) ∧ w'.cell? ⟨w.heap.size, 5, none⟩ = some (.int .i64 (z.i)) ∧ w'.cell? ⟨w.heap.size, 6, none⟩ = some (.int .i64 (z.m')) ∧ w'.cell? ⟨w.heap.size, 7, none⟩ = some (.int .i64 (z.k')) ∧ w'.cell? ⟨w.heap.size, 8, none⟩ = some (.int .i64 (z.d')) ∧ w'.cell? ⟨w.heap.size, 9, none⟩ = some (.int .i64 (z.i'))) (first | exact ten_stays _ _ _ _ _ _ _ _ _ _ _ _ _ _ (Below.refl _ _).drew hS | exact ten_stays _ _ _ _ _ _ _ _ _ _ _ _ _ _ hb3 (by assumption)) (first | (go_at_call 54; refine (iStampOf _ _).mono ?_; rw [HY.out]; rintro e w3 ⟨rfl, hb3⟩) | (go_at_call 60; refine (HI.out _).mono ?_; rintro e w3 ⟨g, rfl, hg0, hg1, c0, c1, c2, c3, hb3⟩)); go_wp2_with fail; refine (iOffsetBefore_two z g _ _ hg1 c3).mono ?_; rintro e wy ⟨rfl, hby⟩; have hzy := hby.size; have hhh : (fun w' => Below w.heap.size w w' ∧ w'.cell? ⟨w.heap.size, 0, none⟩ = some (.int .i64 (z.o)) ∧ w'.cell? ⟨w.heap.size, 1, none⟩ = some (.int .i64 (z.s)) ∧ w'.cell? ⟨w.heap.size, 2, none⟩ = some (.int .i64 (z.m)) ∧ w'.cell? ⟨w.heap.size, 3, none⟩ = some (.int .i64 (z.k)) ∧ w'.cell? ⟨w.heap.size, 4, none⟩ = some (.int .i64 (z.d)) ∧ w'.cell? ⟨w.heap.size, 5, none⟩ = some (.int .i64 (z.i)) ∧ w'.cell? ⟨w.heap.size, 6, none⟩ = some (.int .i64 (z.m')) ∧ w'.cell? ⟨w.heap.size, 7, none⟩ = some (.int .i64 (z.k')) ∧ w'.cell? ⟨w.heap.size, 8, none⟩ = some (.int .i64 (z.d')) ∧ w'.cell? ⟨w.heap.size, 9, none⟩ = some (.int .i64 (z.i'))) w3 := (by assumption); have hb := hhh.1; clear hhh; have hzb := hb.size; have hb := hb.trans (hby.mono hzb); have hsz := hb.size; have c0 := (Below_at hby g 0 hg1).trans c0; have c1 := (Below_at hby g 1 hg1).trans c1; have c2 := (Below_at hby g 2 hg1).trans c2; have c3 := (Below_at hby g 3 hg1).trans c3; have hg1 := Nat.lt_of_lt_of_le hg1 hzy; go_wp2_with fail)
    refine wp_loop_rounds 3 ?_
    rw [rounds_succ]
    go_wp2_with fail
    go_quiet (fail)
    go_wp2_with fail
    (generalize hWW : (wy.alloc (.cells #[.int .i64 p, .int .i64 x] 68)).drewN nq = W2; have kk : Below wy.heap.size wy W2 := (by rw [← hWW]; exact (by repeat' (first | with_reducible assumption | with_reducible exact Below.refl _ _ | with_reducible refine Below.setCell ?_ ?_ _ | with_reducible refine Below.alloc ?_ ?_ _ | with_reducible apply Below.drew | with_reducible apply Below.drewn | (simp; done) | (simp; omega)))); have hzk := kk.size; clear hWW)
    have hO := Own.nil W2 (wy.heap.size + 1)
    have hlt := lt_nil2 W2.heap.size
    have c2 := (Below_at kk g 2 (by omega)).trans c2
    have c3 := (Below_at kk g 3 (by omega)).trans c3
    have hb := hb.trans (kk.mono (by omega))
    have hg2 : g < W2.heap.size := by omega
    have hs2 := hb.size
    clear kk
    rw [rounds_succ]
    (go_wp2_with (at_builtin; refine append_grow rfl _ _ rfl (wy.heap.size + 1) (W2.heap.size) _ [] rfl (Own.below hO (by repeat' (first | with_reducible assumption | with_reducible exact Below.refl _ _ | with_reducible refine Below.setCell ?_ ?_ _ | with_reducible refine Below.alloc ?_ ?_ _ | with_reducible apply Below.drew | with_reducible apply Below.drewn | (simp; done) | (simp; omega)))) hlt _ 1 v rfl (by go_simp) (by simp) (by first | (simp; omega) | (simp; done) | omega) ?_); intro vw7 w7 hOw7 hbw7 hKw7; have hzw7 := hbw7.size; (try simp only [World.size_alloc, World.size_drew] at hzw7))
    (have d0 : w7.cell? ⟨W2.heap.size, 0, none⟩ = some (.int .i64 q) := (hKw7 W2.heap.size 0 (by omega) (by first | omega | simp)).trans (by go_simp); have d1 : w7.cell? ⟨W2.heap.size, 1, none⟩ = some (.int .i64 u) := (hKw7 W2.heap.size 1 (by omega) (by first | omega | simp)).trans (by go_simp))
    (have hb := Below.trans hb (Below.trans (show Below w.heap.size W2 _ from (by repeat' (first | with_reducible assumption | with_reducible exact Below.refl _ _ | with_reducible refine Below.setCell ?_ ?_ _ | with_reducible refine Below.alloc ?_ ?_ _ | with_reducible apply Below.drew | with_reducible apply Below.drewn | (simp; done) | (simp; omega)))) (hbw7.mono (by omega))))
    go_wp2_with fail
    go_quiet (fail)
    go_wp2_with fail
    (generalize hWW : w7.drewN nq = W3; have kk : Below w7.heap.size w7 W3 := (by rw [← hWW]; exact (by repeat' (first | with_reducible assumption | with_reducible exact Below.refl _ _ | with_reducible refine Below.setCell ?_ ?_ _ | with_reducible refine Below.alloc ?_ ?_ _ | with_reducible apply Below.drew | with_reducible apply Below.drewn | (simp; done) | (simp; omega)))); have hzk := kk.size; clear hWW)
    have hO := hOw7.below kk
    have hb := hb.trans (kk.mono (by omega))
    have hs3 := hb.size
    have hlt : ∀ k, _ = some k → k < W3.heap.size := Own.lt hO
    rw [rounds_succ]
    (go_wp2_with (at_builtin; refine append_grow rfl _ _ rfl (wy.heap.size + 1) (W3.heap.size) _ [v] rfl (Own.below hO (by repeat' (first | with_reducible assumption | with_reducible exact Below.refl _ _ | with_reducible refine Below.setCell ?_ ?_ _ | with_reducible refine Below.alloc ?_ ?_ _ | with_reducible apply Below.drew | with_reducible apply Below.drewn | (simp; done) | (simp; omega)))) hlt _ 1 t rfl (by go_simp) (by simp) (by first | (simp; omega) | (simp; done) | omega) ?_); intro vw8 w8 hOw8 hbw8 hKw8; have hzw8 := hbw8.size; (try simp only [World.size_alloc, World.size_drew] at hzw8))
    (have hb := Below.trans hb (Below.trans (show Below w.heap.size W3 _ from (by repeat' (first | with_reducible assumption | with_reducible exact Below.refl _ _ | with_reducible refine Below.setCell ?_ ?_ _ | with_reducible refine Below.alloc ?_ ?_ _ | with_reducible apply Below.drew | with_reducible apply Below.drewn | (simp; done) | (simp; omega)))) (hbw8.mono (by omega))))
    have hO := hOw8
    go_wp2
    go_ret
    exact ⟨_, rfl, (Own.ints (hO.below (by repeat' (first | with_reducible assumption | with_reducible exact Below.refl _ _ | with_reducible refine Below.setCell ?_ ?_ _ | with_reducible refine Below.alloc ?_ ?_ _ | with_reducible apply Below.drew | with_reducible apply Below.drewn | (simp; done) | (simp; omega)))) (by simp)).lower (by omega), (by repeat' (first | with_reducible assumption | with_reducible exact Below.refl _ _ | with_reducible refine Below.setCell ?_ ?_ _ | with_reducible refine Below.alloc ?_ ?_ _ | with_reducible apply Below.drew | with_reducible apply Below.drewn | (simp; done) | (simp; omega)))⟩
  · rw [show ((if 0 ≤ t ∧ t < p then [t] else []) ++ (if p ≤ v ∧ v < q then [v] else []) ++ (if q ≤ t then [t] else [])) = [t] by (repeat' split) <;> first | rfl | (exfalso; omega)]
    go_enter Try.func45, Try.ntmps45
    (go_wp2_with fail; go_region_held3 (fun w' => Below w.heap.size w w' ∧ w'.cell? ⟨w.heap.size, 0, none⟩ = some (.int .i64 (z.o)) ∧ w'.cell? ⟨w.heap.size, 1, none⟩ = some (.int .i64 (z.s)) ∧ w'.cell? ⟨w.heap.size, 2, none⟩ = some (.int .i64 (z.m)) ∧ w'.cell? ⟨w.heap.size, 3, none⟩ = some (.int .i64 (z.k)) ∧ w'.cell? ⟨w.heap.size, 4, none⟩ = some (.int .i64 (z.d)) ∧ w'.cell? ⟨w.heap.size, 5, none⟩ = some (.int .i64 (z.i)) ∧ w'.cell? ⟨w.heap.size, 6, none⟩ = some (.int .i64 (z.m')) ∧ w'.cell? ⟨w.heap.size, 7, none⟩ = some (.int .i64 (z.k')) ∧ w'.cell? ⟨w.heap.size, 8, none⟩ = some (.int .i64 (z.d')) ∧ w'.cell? ⟨w.heap.size, 9, none⟩ = some (.int .i64 (z.i'))) (first | exact ten_stays _ _ _ _ _ _ _ _ _ _ _ _ _ _ (Below.refl _ _).drew hS | exact ten_stays _ _ _ _ _ _ _ _ _ _ _ _ _ _ hb3 (by assumption)) (first | (go_at_call 54; refine (iStampOf _ _).mono ?_; rw [HY.out]; rintro e w3 ⟨rfl, hb3⟩) | (go_at_call 60; refine (HI.out _).mono ?_; rintro e w3 ⟨g, rfl, hg0, hg1, c0, c1, c2, c3, hb3⟩)); go_wp2_with fail; refine (iOffsetBefore_two z g _ _ hg1 c3).mono ?_; rintro e wy ⟨rfl, hby⟩; have hzy := hby.size; have hhh : (fun w' => Below w.heap.size w w' ∧ w'.cell? ⟨w.heap.size, 0, none⟩ = some (.int .i64 (z.o)) ∧ w'.cell? ⟨w.heap.size, 1, none⟩ = some (.int .i64 (z.s)) ∧ w'.cell? ⟨w.heap.size, 2, none⟩ = some (.int .i64 (z.m)) ∧ w'.cell? ⟨w.heap.size, 3, none⟩ = some (.int .i64 (z.k)) ∧ w'.cell? ⟨w.heap.size, 4, none⟩ = some (.int .i64 (z.d)) ∧ w'.cell? ⟨w.heap.size, 5, none⟩ = some (.int .i64 (z.i)) ∧ w'.cell? ⟨w.heap.size, 6, none⟩ = some (.int .i64 (z.m')) ∧ w'.cell? ⟨w.heap.size, 7, none⟩ = some (.int .i64 (z.k')) ∧ w'.cell? ⟨w.heap.size, 8, none⟩ = some (.int .i64 (z.d')) ∧ w'.cell? ⟨w.heap.size, 9, none⟩ = some (.int .i64 (z.i'))) w3 := (by assumption); have hb := hhh.1; clear hhh; have hzb := hb.size; have hb := hb.trans (hby.mono hzb); have hsz := hb.size; have c0 := (Below_at hby g 0 hg1).trans c0; have c1 := (Below_at hby g 1 hg1).trans c1; have c2 := (Below_at hby g 2 hg1).trans c2; have c3 := (Below_at hby g 3 hg1).trans c3; have hg1 := Nat.lt_of_lt_of_le hg1 hzy; go_wp2_with fail)
    refine wp_loop_rounds 3 ?_
    rw [rounds_succ]
    go_wp2_with fail
    go_quiet (fail)
    go_wp2_with fail
    (generalize hWW : (wy.alloc (.cells #[.int .i64 p, .int .i64 x] 68)).drewN nq = W2; have kk : Below wy.heap.size wy W2 := (by rw [← hWW]; exact (by repeat' (first | with_reducible assumption | with_reducible exact Below.refl _ _ | with_reducible refine Below.setCell ?_ ?_ _ | with_reducible refine Below.alloc ?_ ?_ _ | with_reducible apply Below.drew | with_reducible apply Below.drewn | (simp; done) | (simp; omega)))); have hzk := kk.size; clear hWW)
    have hO := Own.nil W2 (wy.heap.size + 1)
    have hlt := lt_nil2 W2.heap.size
    have c2 := (Below_at kk g 2 (by omega)).trans c2
    have c3 := (Below_at kk g 3 (by omega)).trans c3
    have hb := hb.trans (kk.mono (by omega))
    have hg2 : g < W2.heap.size := by omega
    have hs2 := hb.size
    clear kk
    rw [rounds_succ]
    go_wp2_with fail
    go_quiet (fail)
    go_wp2_with fail
    (generalize hWW : (W2.alloc (.cells #[.int .i64 q, .int .i64 u] 68)).drewN nq = W3; have kk : Below W2.heap.size W2 W3 := (by rw [← hWW]; exact (by repeat' (first | with_reducible assumption | with_reducible exact Below.refl _ _ | with_reducible refine Below.setCell ?_ ?_ _ | with_reducible refine Below.alloc ?_ ?_ _ | with_reducible apply Below.drew | with_reducible apply Below.drewn | (simp; done) | (simp; omega)))); have hzk := kk.size; clear hWW)
    have hO := hO.below kk
    have hb := hb.trans (kk.mono (by omega))
    have hs3 := hb.size
    have hlt : ∀ k, _ = some k → k < W3.heap.size := Own.lt hO
    rw [rounds_succ]
    (go_wp2_with (at_builtin; refine append_grow rfl _ _ rfl (wy.heap.size + 1) (W3.heap.size) _ [] rfl (Own.below hO (by repeat' (first | with_reducible assumption | with_reducible exact Below.refl _ _ | with_reducible refine Below.setCell ?_ ?_ _ | with_reducible refine Below.alloc ?_ ?_ _ | with_reducible apply Below.drew | with_reducible apply Below.drewn | (simp; done) | (simp; omega)))) hlt _ 1 t rfl (by go_simp) (by simp) (by first | (simp; omega) | (simp; done) | omega) ?_); intro vw8 w8 hOw8 hbw8 hKw8; have hzw8 := hbw8.size; (try simp only [World.size_alloc, World.size_drew] at hzw8))
    (have hb := Below.trans hb (Below.trans (show Below w.heap.size W3 _ from (by repeat' (first | with_reducible assumption | with_reducible exact Below.refl _ _ | with_reducible refine Below.setCell ?_ ?_ _ | with_reducible refine Below.alloc ?_ ?_ _ | with_reducible apply Below.drew | with_reducible apply Below.drewn | (simp; done) | (simp; omega)))) (hbw8.mono (by omega))))
    have hO := hOw8
    go_wp2
    go_ret
    exact ⟨_, rfl, (Own.ints (hO.below (by repeat' (first | with_reducible assumption | with_reducible exact Below.refl _ _ | with_reducible refine Below.setCell ?_ ?_ _ | with_reducible refine Below.alloc ?_ ?_ _ | with_reducible apply Below.drew | with_reducible apply Below.drewn | (simp; done) | (simp; omega)))) (by simp)).lower (by omega), (by repeat' (first | with_reducible assumption | with_reducible exact Below.refl _ _ | with_reducible refine Below.setCell ?_ ?_ _ | with_reducible refine Below.alloc ?_ ?_ _ | with_reducible apply Below.drew | with_reducible apply Below.drewn | (simp; done) | (simp; omega)))⟩


theorem iOptions (z : Zn) (n : Int) (w : World) (v : zvB z = true) (g : lGood n = true) :
    Calls Try.prog 45 #[(.agg #[.int .i64 (z.o), .int .i64 (z.s), .int .i64 (z.m), .int .i64 (z.k), .int .i64 (z.d), .int .i64 (z.i), .int .i64 (z.m'), .int .i64 (z.k'), .int .i64 (z.d'), .int .i64 (z.i')]), .int .i64 n] w (GaveInts (cOpts z n) w) := by
  obtain ⟨o1, o9, s1, s9, _⟩ := zv_yes v
  have gg := lGood_yes g
  by_cases s : z.s = 0
  · have e : cOpts z n = [n - 60 * z.o] := by unfold cOpts; simp [v, g, s]
    rw [e]
    exact iOptions_none z n w s (by omega) gg
  · rw [opts_two v g s]
    have s0 : (z.s == 0) = false := by simpa using s
    by_cases h : zB z (dY (n / 86400)) < zA z (dY (n / 86400))
    · rw [if_pos h]
      refine iOptions_two z n w _ _ _ _ (by omega) (by omega) gg (by omega) (Lib.hid (fun w1 => ?_))
      have := iChanges_two z (dY (n / 86400)) w1 s0 (by omega) (by omega)
      rwa [if_pos h] at this
    · rw [if_neg h]
      refine iOptions_two z n w _ _ _ _ (by omega) (by omega) gg (by omega) (Lib.hid (fun w1 => ?_))
      have := iChanges_two z (dY (n / 86400)) w1 s0 (by omega) (by omega)
      rwa [if_neg h] at this

set_option maxHeartbeats 2000000 in
theorem iCommonOptions (z : Zn) (n : Int) (w : World) :
    Calls Try.prog 20 #[(.agg #[.int .i64 (z.o), .int .i64 (z.s), .int .i64 (z.m), .int .i64 (z.k), .int .i64 (z.d), .int .i64 (z.i), .int .i64 (z.m'), .int .i64 (z.k'), .int .i64 (z.d'), .int .i64 (z.i')]), .int .i64 n] w (GaveInts (cOpts z n) w) := by
  have hS := (ten_at (Below.refl w.heap.size w) (.int .i64 (z.o)) (.int .i64 (z.s)) (.int .i64 (z.m)) (.int .i64 (z.k)) (.int .i64 (z.d)) (.int .i64 (z.i)) (.int .i64 (z.m')) (.int .i64 (z.k')) (.int .i64 (z.d')) (.int .i64 (z.i')) 26)
  cases c : (zvB z && lGood n)
  · rw [cOpts_no (no_of c)]
    have C := Lib.hid c; clear c
    go_enter Try.func20, Try.ntmps20
    (go_wp2_with fail; refine (iLocalValid z n _).mono ?_; rw [C.out]; rintro e wx ⟨rfl, hbx⟩; have hC := Below_at hbx; have hF := Below_fr hbx; have hb := Below.trans (show Below w.heap.size w _ from (by repeat' (first | with_reducible assumption | with_reducible exact Below.refl _ _ | with_reducible refine Below.setCell ?_ ?_ _ | with_reducible refine Below.alloc ?_ ?_ _ | with_reducible apply Below.drew | with_reducible apply Below.drewn | (simp; done) | (simp; omega)))) (hbx.mono (by first | omega | (simp; done) | (simp; omega))); have hz := hb.size; have hl := hbx.size; (try simp only [World.size_alloc, World.size_setCell, World.size_drew] at hl); (try have hs0 : w.heap.size < wx.heap.size := by omega); (try have hs1 : w.heap.size + 1 < wx.heap.size := by omega); clear hl)
    go_wp2
    go_ret
    exact ⟨_, rfl, Ints.none _ _ _, (by repeat' (first | with_reducible assumption | with_reducible exact Below.refl _ _ | with_reducible refine Below.setCell ?_ ?_ _ | with_reducible refine Below.alloc ?_ ?_ _ | with_reducible apply Below.drew | with_reducible apply Below.drewn | (simp; done) | (simp; omega)))⟩
  · obtain ⟨v, g⟩ := Bool.and_eq_true_iff.1 c
    have C := Lib.hid c
    have HO := Lib.hid (fun w => iOptions z n w v g)
    clear c v g
    go_enter Try.func20, Try.ntmps20
    (go_wp2_with fail; refine (iLocalValid z n _).mono ?_; rw [C.out]; rintro e wx ⟨rfl, hbx⟩; have hC := Below_at hbx; have hF := Below_fr hbx; have hb := Below.trans (show Below w.heap.size w _ from (by repeat' (first | with_reducible assumption | with_reducible exact Below.refl _ _ | with_reducible refine Below.setCell ?_ ?_ _ | with_reducible refine Below.alloc ?_ ?_ _ | with_reducible apply Below.drew | with_reducible apply Below.drewn | (simp; done) | (simp; omega)))) (hbx.mono (by first | omega | (simp; done) | (simp; omega))); have hz := hb.size; have hl := hbx.size; (try simp only [World.size_alloc, World.size_setCell, World.size_drew] at hl); (try have hs0 : w.heap.size < wx.heap.size := by omega); (try have hs1 : w.heap.size + 1 < wx.heap.size := by omega); clear hl)
    have hS := (ten_stays _ _ _ _ _ _ _ _ _ _ _ _ _ _ hbx hS)
    obtain ⟨hbs, t0, t1, t2, t3, t4, t5, t6, t7, t8, t9⟩ := hS
    (go_wp2_with fail; refine (HO.out _).mono ?_; rintro e w3 ⟨u, rfl, hu, hbw3⟩; have hCw3 := Below_at hbw3; have hFw3 := Below_fr hbw3; have hb := Below.trans (show Below w.heap.size w _ from (by repeat' (first | with_reducible assumption | with_reducible exact Below.refl _ _ | with_reducible refine Below.setCell ?_ ?_ _ | with_reducible refine Below.alloc ?_ ?_ _ | with_reducible apply Below.drew | with_reducible apply Below.drewn | (simp; done) | (simp; omega)))) (hbw3.mono (by first | omega | (simp; done) | (simp; omega))); have hzw3 := hb.size; have hlw3 := hbw3.size; (try simp only [World.size_alloc, World.size_setCell, World.size_drew] at hlw3))
    go_wp2
    go_ret
    exact ⟨_, rfl, hu.lower (by omega), (by repeat' (first | with_reducible assumption | with_reducible exact Below.refl _ _ | with_reducible refine Below.setCell ?_ ?_ _ | with_reducible refine Below.alloc ?_ ?_ _ | with_reducible apply Below.drew | with_reducible apply Below.drewn | (simp; done) | (simp; omega)))⟩

set_option maxHeartbeats 2000000 in
theorem iTimeKind (z : Zn) (n : Int) (w : World) :
    Calls Try.prog 26 #[(.agg #[.int .i64 (z.o), .int .i64 (z.s), .int .i64 (z.m), .int .i64 (z.k), .int .i64 (z.d), .int .i64 (z.i), .int .i64 (z.m'), .int .i64 (z.k'), .int .i64 (z.d'), .int .i64 (z.i')]), .int .i64 n] w fun e w' => e = .returned (.int .i64 (tKind z n)) ∧ Below w.heap.size w w' := by
  have hS := (ten_at (Below.refl w.heap.size w) (.int .i64 (z.o)) (.int .i64 (z.s)) (.int .i64 (z.m)) (.int .i64 (z.k)) (.int .i64 (z.d)) (.int .i64 (z.i)) (.int .i64 (z.m')) (.int .i64 (z.k')) (.int .i64 (z.d')) (.int .i64 (z.i')) 26)
  cases c : (zvB z && lGood n)
  · rw [tKind_no (no_of c)]
    have C := Lib.hid c; clear c
    go_enter Try.func26, Try.ntmps26
    (go_wp2_with fail; refine (iLocalValid z n _).mono ?_; rw [C.out]; rintro e wx ⟨rfl, hbx⟩; have hC := Below_at hbx; have hF := Below_fr hbx; have hb := Below.trans (show Below w.heap.size w _ from (by repeat' (first | with_reducible assumption | with_reducible exact Below.refl _ _ | with_reducible refine Below.setCell ?_ ?_ _ | with_reducible refine Below.alloc ?_ ?_ _ | with_reducible apply Below.drew | with_reducible apply Below.drewn | (simp; done) | (simp; omega)))) (hbx.mono (by first | omega | (simp; done) | (simp; omega))); have hz := hb.size; have hl := hbx.size; (try simp only [World.size_alloc, World.size_setCell, World.size_drew] at hl); (try have hs0 : w.heap.size < wx.heap.size := by omega); (try have hs1 : w.heap.size + 1 < wx.heap.size := by omega); clear hl)
    go_wp2
    go_ret
    exact ⟨rfl, (by repeat' (first | with_reducible assumption | with_reducible exact Below.refl _ _ | with_reducible refine Below.setCell ?_ ?_ _ | with_reducible refine Below.alloc ?_ ?_ _ | with_reducible apply Below.drew | with_reducible apply Below.drewn | (simp; done) | (simp; omega)))⟩
  · obtain ⟨v, g⟩ := Bool.and_eq_true_iff.1 c
    have C := Lib.hid c
    have HO := Lib.hid (fun w => iOptions z n w v g)
    rw [tKind_yes v g]
    clear c v g
    go_enter Try.func26, Try.ntmps26
    (go_wp2_with fail; refine (iLocalValid z n _).mono ?_; rw [C.out]; rintro e wx ⟨rfl, hbx⟩; have hC := Below_at hbx; have hF := Below_fr hbx; have hb := Below.trans (show Below w.heap.size w _ from (by repeat' (first | with_reducible assumption | with_reducible exact Below.refl _ _ | with_reducible refine Below.setCell ?_ ?_ _ | with_reducible refine Below.alloc ?_ ?_ _ | with_reducible apply Below.drew | with_reducible apply Below.drewn | (simp; done) | (simp; omega)))) (hbx.mono (by first | omega | (simp; done) | (simp; omega))); have hz := hb.size; have hl := hbx.size; (try simp only [World.size_alloc, World.size_setCell, World.size_drew] at hl); (try have hs0 : w.heap.size < wx.heap.size := by omega); (try have hs1 : w.heap.size + 1 < wx.heap.size := by omega); clear hl)
    have hS := (ten_stays _ _ _ _ _ _ _ _ _ _ _ _ _ _ hbx hS)
    obtain ⟨hbs, t0, t1, t2, t3, t4, t5, t6, t7, t8, t9⟩ := hS
    (go_wp2_with fail; refine (HO.out _).mono ?_; rintro e w3 ⟨u, rfl, hu, hbw3⟩; have hCw3 := Below_at hbw3; have hFw3 := Below_fr hbw3; have hb := Below.trans (show Below w.heap.size w _ from (by repeat' (first | with_reducible assumption | with_reducible exact Below.refl _ _ | with_reducible refine Below.setCell ?_ ?_ _ | with_reducible refine Below.alloc ?_ ?_ _ | with_reducible apply Below.drew | with_reducible apply Below.drewn | (simp; done) | (simp; omega)))) (hbw3.mono (by first | omega | (simp; done) | (simp; omega))); have hzw3 := hb.size; have hlw3 := hbw3.size; (try simp only [World.size_alloc, World.size_setCell, World.size_drew] at hlw3))
    obtain ⟨p, cap, rfl, l1, l2, l3⟩ := hu
    clear l3
    go_wp2
    go_ret
    exact ⟨rfl, (by repeat' (first | with_reducible assumption | with_reducible exact Below.refl _ _ | with_reducible refine Below.setCell ?_ ?_ _ | with_reducible refine Below.alloc ?_ ?_ _ | with_reducible apply Below.drew | with_reducible apply Below.drewn | (simp; done) | (simp; omega)))⟩

set_option maxHeartbeats 4000000 in
theorem iCommonOf (z : Zn) (n : Int) (l : Bool) (w : World) :
    Calls Try.prog 29 #[(.agg #[.int .i64 (z.o), .int .i64 (z.s), .int .i64 (z.m), .int .i64 (z.k), .int .i64 (z.d), .int .i64 (z.i), .int .i64 (z.m'), .int .i64 (z.k'), .int .i64 (z.d'), .int .i64 (z.i')]), .int .i64 n, .bool l] w fun e w' => e = .returned (.int .i64 (comOf z n l)) ∧ Below w.heap.size w w' := by
  have hS := (ten_at (Below.refl w.heap.size w) (.int .i64 (z.o)) (.int .i64 (z.s)) (.int .i64 (z.m)) (.int .i64 (z.k)) (.int .i64 (z.d)) (.int .i64 (z.i)) (.int .i64 (z.m')) (.int .i64 (z.k')) (.int .i64 (z.d')) (.int .i64 (z.i')) 26)
  cases c : (zvB z && lGood n)
  · rw [comOf_no (no_of c)]
    have C := Lib.hid c; clear c
    go_enter Try.func29, Try.ntmps29
    (go_wp2_with fail; refine (iLocalValid z n _).mono ?_; rw [C.out]; rintro e wx ⟨rfl, hbx⟩; have hC := Below_at hbx; have hF := Below_fr hbx; have hb := Below.trans (show Below w.heap.size w _ from (by repeat' (first | with_reducible assumption | with_reducible exact Below.refl _ _ | with_reducible refine Below.setCell ?_ ?_ _ | with_reducible refine Below.alloc ?_ ?_ _ | with_reducible apply Below.drew | with_reducible apply Below.drewn | (simp; done) | (simp; omega)))) (hbx.mono (by first | omega | (simp; done) | (simp; omega))); have hz := hb.size; have hl := hbx.size; (try simp only [World.size_alloc, World.size_setCell, World.size_drew] at hl); (try have hs0 : w.heap.size < wx.heap.size := by omega); (try have hs1 : w.heap.size + 1 < wx.heap.size := by omega); clear hl)
    go_wp2
    go_ret
    exact ⟨rfl, (by repeat' (first | with_reducible assumption | with_reducible exact Below.refl _ _ | with_reducible refine Below.setCell ?_ ?_ _ | with_reducible refine Below.alloc ?_ ?_ _ | with_reducible apply Below.drew | with_reducible apply Below.drewn | (simp; done) | (simp; omega)))⟩
  · obtain ⟨v, g⟩ := Bool.and_eq_true_iff.1 c
    have C := Lib.hid c
    obtain ⟨o1, o9, s1, s9, _⟩ := zv_yes v
    have gg := lGood_yes g
    have ow := cOpts_way v g
    have ho := fun w => iOptions z n w v g
    have hy := tY_local gg
    rw [comOf_yes v g]
    unfold gapA
    generalize cOpts z n = xs at *
    have hz := fun y w => iSummerStart z y w (by omega)
    generalize dY (n / 86400) = y at *
    have HZ := Lib.hid (hz y)
    generalize zA z y = A at *
    have HO := Lib.hid ho
    have HY := Lib.hid hy
    have SY := st_year
    clear hz ho hy c v g
    rcases ow with rfl | ⟨a, rfl⟩ | ⟨a, b, rfl⟩
    · go_enter Try.func29, Try.ntmps29
      (go_wp2_with fail; refine (iLocalValid z n _).mono ?_; rw [C.out]; rintro e wx ⟨rfl, hbx⟩; have hC := Below_at hbx; have hF := Below_fr hbx; have hb := Below.trans (show Below w.heap.size w _ from (by repeat' (first | with_reducible assumption | with_reducible exact Below.refl _ _ | with_reducible refine Below.setCell ?_ ?_ _ | with_reducible refine Below.alloc ?_ ?_ _ | with_reducible apply Below.drew | with_reducible apply Below.drewn | (simp; done) | (simp; omega)))) (hbx.mono (by first | omega | (simp; done) | (simp; omega))); have hz := hb.size; have hl := hbx.size; (try simp only [World.size_alloc, World.size_setCell, World.size_drew] at hl); (try have hs0 : w.heap.size < wx.heap.size := by omega); (try have hs1 : w.heap.size + 1 < wx.heap.size := by omega); clear hl)
      have hS := (ten_stays _ _ _ _ _ _ _ _ _ _ _ _ _ _ hbx hS)
      (go_wp2_with fail; refine (HO.out _).mono ?_; rintro e w3 ⟨u, rfl, hu, hbw3⟩; have hCw3 := Below_at hbw3; have hFw3 := Below_fr hbw3; have hb := Below.trans (show Below w.heap.size w _ from (by repeat' (first | with_reducible assumption | with_reducible exact Below.refl _ _ | with_reducible refine Below.setCell ?_ ?_ _ | with_reducible refine Below.alloc ?_ ?_ _ | with_reducible apply Below.drew | with_reducible apply Below.drewn | (simp; done) | (simp; omega)))) (hbw3.mono (by first | omega | (simp; done) | (simp; omega))); have hzw3 := hb.size; have hlw3 := hbw3.size; (try simp only [World.size_alloc, World.size_setCell, World.size_drew] at hlw3))
      have hS := (ten_stays _ _ _ _ _ _ _ _ _ _ _ _ _ _ hbw3 hS)
      obtain ⟨p, cap, rfl, l1, l2, l3⟩ := hu
      clear l3
      go_wp2_with fail
      go_region_held3 (fun w' => Below w.heap.size w w' ∧ w'.cell? ⟨w.heap.size, 0, none⟩ = some (.int .i64 (z.o)) ∧ w'.cell? ⟨w.heap.size, 1, none⟩ = some (.int .i64 (z.s)) ∧ w'.cell? ⟨w.heap.size, 2, none⟩ = some (.int .i64 (z.m)) ∧ w'.cell? ⟨w.heap.size, 3, none⟩ = some (.int .i64 (z.k)) ∧ w'.cell? ⟨w.heap.size, 4, none⟩ = some (.int .i64 (z.d)) ∧ w'.cell? ⟨w.heap.size, 5, none⟩ = some (.int .i64 (z.i)) ∧ w'.cell? ⟨w.heap.size, 6, none⟩ = some (.int .i64 (z.m')) ∧ w'.cell? ⟨w.heap.size, 7, none⟩ = some (.int .i64 (z.k')) ∧ w'.cell? ⟨w.heap.size, 8, none⟩ = some (.int .i64 (z.d')) ∧ w'.cell? ⟨w.heap.size, 9, none⟩ = some (.int .i64 (z.i')))
        (first | exact ten_stays _ _ _ _ _ _ _ _ _ _ _ _ _ _ (Below.refl _ _).drew hS | exact ten_stays _ _ _ _ _ _ _ _ _ _ _ _ _ _ hb4 (by assumption))
        (first | (go_at_call 54; refine (iStampOf _ _).mono ?_; rw [HY.out]; rintro e w4 ⟨rfl, hb4⟩) | (go_at_call 53; refine (HZ.out _).mono ?_; rintro e w4 ⟨rfl, hb4⟩))
      all_goals go_wp2
      (have hhh : (fun w' => Below w.heap.size w w' ∧ w'.cell? ⟨w.heap.size, 0, none⟩ = some (.int .i64 (z.o)) ∧ w'.cell? ⟨w.heap.size, 1, none⟩ = some (.int .i64 (z.s)) ∧ w'.cell? ⟨w.heap.size, 2, none⟩ = some (.int .i64 (z.m)) ∧ w'.cell? ⟨w.heap.size, 3, none⟩ = some (.int .i64 (z.k)) ∧ w'.cell? ⟨w.heap.size, 4, none⟩ = some (.int .i64 (z.d)) ∧ w'.cell? ⟨w.heap.size, 5, none⟩ = some (.int .i64 (z.i)) ∧ w'.cell? ⟨w.heap.size, 6, none⟩ = some (.int .i64 (z.m')) ∧ w'.cell? ⟨w.heap.size, 7, none⟩ = some (.int .i64 (z.k')) ∧ w'.cell? ⟨w.heap.size, 8, none⟩ = some (.int .i64 (z.d')) ∧ w'.cell? ⟨w.heap.size, 9, none⟩ = some (.int .i64 (z.i'))) _ := (by assumption); have hhb := hhh.1)
      go_ret
      exact ⟨rfl, hhb⟩
    · have hSS := hS
      go_enter Try.func29, Try.ntmps29
      (go_wp2_with fail; refine (iLocalValid z n _).mono ?_; rw [C.out]; rintro e wx ⟨rfl, hbx⟩; have hC := Below_at hbx; have hF := Below_fr hbx; have hb := Below.trans (show Below w.heap.size w _ from (by repeat' (first | with_reducible assumption | with_reducible exact Below.refl _ _ | with_reducible refine Below.setCell ?_ ?_ _ | with_reducible refine Below.alloc ?_ ?_ _ | with_reducible apply Below.drew | with_reducible apply Below.drewn | (simp; done) | (simp; omega)))) (hbx.mono (by first | omega | (simp; done) | (simp; omega))); have hz := hb.size; have hl := hbx.size; (try simp only [World.size_alloc, World.size_setCell, World.size_drew] at hl); (try have hs0 : w.heap.size < wx.heap.size := by omega); (try have hs1 : w.heap.size + 1 < wx.heap.size := by omega); clear hl)
      have hS := (ten_stays _ _ _ _ _ _ _ _ _ _ _ _ _ _ hbx hS)
      obtain ⟨hbs, t0, t1, t2, t3, t4, t5, t6, t7, t8, t9⟩ := hS
      (go_wp2_with fail; refine (HO.out _).mono ?_; rintro e w3 ⟨u, rfl, hu, hbw3⟩; have hCw3 := Below_at hbw3; have hFw3 := Below_fr hbw3; have hb := Below.trans (show Below w.heap.size w _ from (by repeat' (first | with_reducible assumption | with_reducible exact Below.refl _ _ | with_reducible refine Below.setCell ?_ ?_ _ | with_reducible refine Below.alloc ?_ ?_ _ | with_reducible apply Below.drew | with_reducible apply Below.drewn | (simp; done) | (simp; omega)))) (hbw3.mono (by first | omega | (simp; done) | (simp; omega))); have hzw3 := hb.size; have hlw3 := hbw3.size; (try simp only [World.size_alloc, World.size_setCell, World.size_drew] at hlw3))
      obtain ⟨p, cap, rfl, l1, l2, l3⟩ := hu
      obtain ⟨c, off, rfl, e2, e3, e4, e5⟩ := l3 (by simp)
      have c0 : w3.cell? ⟨c, off, none⟩ = some (.int .i64 a) := e4 0 (by simp)
      clear e4 e5 l3
      cases l
      all_goals
        go_wp2
        go_ret
        exact ⟨rfl, (by repeat' (first | with_reducible assumption | with_reducible exact Below.refl _ _ | with_reducible refine Below.setCell ?_ ?_ _ | with_reducible refine Below.alloc ?_ ?_ _ | with_reducible apply Below.drew | with_reducible apply Below.drewn | (simp; done) | (simp; omega)))⟩
    · go_enter Try.func29, Try.ntmps29
      (go_wp2_with fail; refine (iLocalValid z n _).mono ?_; rw [C.out]; rintro e wx ⟨rfl, hbx⟩; have hC := Below_at hbx; have hF := Below_fr hbx; have hb := Below.trans (show Below w.heap.size w _ from (by repeat' (first | with_reducible assumption | with_reducible exact Below.refl _ _ | with_reducible refine Below.setCell ?_ ?_ _ | with_reducible refine Below.alloc ?_ ?_ _ | with_reducible apply Below.drew | with_reducible apply Below.drewn | (simp; done) | (simp; omega)))) (hbx.mono (by first | omega | (simp; done) | (simp; omega))); have hz := hb.size; have hl := hbx.size; (try simp only [World.size_alloc, World.size_setCell, World.size_drew] at hl); (try have hs0 : w.heap.size < wx.heap.size := by omega); (try have hs1 : w.heap.size + 1 < wx.heap.size := by omega); clear hl)
      have hS := (ten_stays _ _ _ _ _ _ _ _ _ _ _ _ _ _ hbx hS)
      obtain ⟨hbs, t0, t1, t2, t3, t4, t5, t6, t7, t8, t9⟩ := hS
      (go_wp2_with fail; refine (HO.out _).mono ?_; rintro e w3 ⟨u, rfl, hu, hbw3⟩; have hCw3 := Below_at hbw3; have hFw3 := Below_fr hbw3; have hb := Below.trans (show Below w.heap.size w _ from (by repeat' (first | with_reducible assumption | with_reducible exact Below.refl _ _ | with_reducible refine Below.setCell ?_ ?_ _ | with_reducible refine Below.alloc ?_ ?_ _ | with_reducible apply Below.drew | with_reducible apply Below.drewn | (simp; done) | (simp; omega)))) (hbw3.mono (by first | omega | (simp; done) | (simp; omega))); have hzw3 := hb.size; have hlw3 := hbw3.size; (try simp only [World.size_alloc, World.size_setCell, World.size_drew] at hlw3))
      obtain ⟨p, cap, rfl, l1, l2, l3⟩ := hu
      obtain ⟨c, off, rfl, e2, e3, e4, e5⟩ := l3 (by simp)
      have c0 : w3.cell? ⟨c, off, none⟩ = some (.int .i64 a) := e4 0 (by simp)
      have c1 : w3.cell? ⟨c, off + 1, none⟩ = some (.int .i64 b) := e4 1 (by simp)
      clear e4 e5 l3
      cases l
      all_goals
        go_wp2
        go_ret
        exact ⟨rfl, (by repeat' (first | with_reducible assumption | with_reducible exact Below.refl _ _ | with_reducible refine Below.setCell ?_ ?_ _ | with_reducible refine Below.alloc ?_ ?_ _ | with_reducible apply Below.drew | with_reducible apply Below.drewn | (simp; done) | (simp; omega)))⟩
end Go.Proofs.Ytlmmianaplahaaa
