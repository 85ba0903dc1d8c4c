/-
  FnOffsetAt holds: whatever the input, the law answers true and leaves its arguments as they were. Conditions: none.
-/
import Derived.Test.YtlmmianaplahaaaRows
import Derived.Test.YtlmmianaplahaaaLaw
import Derived.WalkKit
import Derived.ProofKit
import Derived.OpenShut
import Derived.Lib.Hide
import Derived.Outline
import Derived.LoopN
import Derived.IntWalk
import Derived.Deep.RegionHeld3
import Derived.Deep.RegionWith
import Derived.Test.YtlmmianaplahaaaInts
import Derived.Test.YtlmmianaplahaaaLawZone
import Derived.Test.YtlmmianaplahaaaDrawZone
import Derived.Test.YtlmmianaplahaaaIZones
import Derived.Test.YtlmmianaplahaaaZoneLaw
set_option linter.unusedVariables false
set_option linter.unusedSimpArgs false
namespace Go.Proofs.Ytlmmianaplahaaa.fnOffsetAt
open Go.ChangeShapes Go.WideShapes Go.ChangeAt Go.RowKit Cal
set_option maxHeartbeats 8000000 in
theorem walk (w : World) (code : Value) (B : Nat) (h_code : Law.BytesAt w B code) (hB : B = w.heap.size) :
    Calls Try.prog 10 #[code] w fun e w' => e = .returned (.bool true) ∧ Below w.heap.size w w' := by
  have hq := h_code
  obtain ⟨a, ln, cap, rfl, hl1, hl2, _⟩ := hq
  unfold maxLen at hl2
  subst hB
  by_cases hc : 1048576 < ln
  · go_enter Try.func10, Try.ntmps10
    go_wp2
    go_ret
    exact ⟨rfl, Below.refl _ _⟩
  have hc' : decide (1048576 < ln) = false := by simpa using hc
  go_enter Try.func10, Try.ntmps10
  go_wp2_with fail
  refine (drawOffsetAt _ _ _ h_code rfl).mono ?_
  rintro e w1 ⟨z, n, rfl, hzb, hn, hb⟩
  have hz := hb.size
  clear hzb
  obtain ⟨n1, n2⟩ := hn
  have ob := offAt_bd (z := z) (n := n)
  generalize ha : offAt z n = a at *
  have HA := Lib.hid ha; clear ha
  have hT := (ten_at hb (.int .i64 (z.o)) (.int .i64 (z.s)) (.int .i64 (z.m)) (.int .i64 (z.k)) (.int .i64 (z.d)) (.int .i64 (z.i)) (.int .i64 (z.m')) (.int .i64 (z.k')) (.int .i64 (z.d')) (.int .i64 (z.i')) 26)
  (go_wp2_with fail; refine (iOffsetAt z _ _).mono ?_; (rw [HA.out]); rintro e w2 ⟨rfl, hbw2⟩; have hCw2 := Below_at hbw2; have hFw2 := Below_fr hbw2; have hb := Below.trans (show Below w.heap.size w _ from (by repeat' (first | with_reducible assumption | with_reducible exact Below.refl _ _ | with_reducible refine Below.setCell ?_ ?_ _ | with_reducible refine Below.alloc ?_ ?_ _ | with_reducible apply Below.drew | with_reducible apply Below.drewn | (simp; done) | (simp; omega)))) (hbw2.mono (by first | omega | (simp; done) | (simp; omega))); have hzw2 := hb.size; have hlw2 := hbw2.size; (try simp only [World.size_alloc, World.size_setCell, World.size_drew] at hlw2))
  have p2 : w1.heap.size < w2.heap.size := by omega
  have hT := (ten_stays _ _ _ _ _ _ _ _ _ _ _ _ _ _ hbw2 hT)
  (go_wp2_with fail; refine (sOffsetAt z _ _).mono ?_; (rw [HA.out]); rintro e w3 ⟨rfl, hbw3⟩; have hCw3 := Below_at hbw3; have hFw3 := Below_fr hbw3; have hb := Below.trans (show Below w.heap.size w _ from (by repeat' (first | with_reducible assumption | with_reducible exact Below.refl _ _ | with_reducible refine Below.setCell ?_ ?_ _ | with_reducible refine Below.alloc ?_ ?_ _ | with_reducible apply Below.drew | with_reducible apply Below.drewn | (simp; done) | (simp; omega)))) (hbw3.mono (by first | omega | (simp; done) | (simp; omega))); have hzw3 := hb.size; have hlw3 := hbw3.size; (try simp only [World.size_alloc, World.size_setCell, World.size_drew] at hlw3))
  have p3 : w1.heap.size < w3.heap.size := by omega
  have hT := (ten_stays _ _ _ _ _ _ _ _ _ _ _ _ _ _ hbw3 hT)
  rcases ob with rfl | ⟨v, g, ab, a1, a9⟩
  · (go_wp2_with fail; refine (alive_any _).mono ?_; rintro e wx ⟨rfl, rfl⟩)
    go_wp2
    go_ret
    exact ⟨rfl, (by repeat' (first | with_reducible assumption | with_reducible exact Below.refl _ _ | with_reducible refine Below.setCell ?_ ?_ _ | with_reducible refine Below.alloc ?_ ?_ _ | with_reducible apply Below.drew | with_reducible apply Below.drewn | (simp; done) | (simp; omega)))⟩
  · obtain ⟨o1, o9, s1, s9, _⟩ := zv_yes v
    have a10 : (a == -10000) = false := by simp; omega
    (go_wp2_with fail; refine (iChangesOf z 2030 _).mono ?_; rintro e w4 ⟨u, rfl, hu, hbw4⟩; have hCw4 := Below_at hbw4; have hFw4 := Below_fr hbw4; have hb := Below.trans (show Below w.heap.size w _ from (by repeat' (first | with_reducible assumption | with_reducible exact Below.refl _ _ | with_reducible refine Below.setCell ?_ ?_ _ | with_reducible refine Below.alloc ?_ ?_ _ | with_reducible apply Below.drew | with_reducible apply Below.drewn | (simp; done) | (simp; omega)))) (hbw4.mono (by first | omega | (simp; done) | (simp; omega))); have hzw4 := hb.size; have hlw4 := hbw4.size; (try simp only [World.size_alloc, World.size_setCell, World.size_drew] at hlw4))
    have p4 : w1.heap.size < w4.heap.size := by omega
    have hT := (ten_stays _ _ _ _ _ _ _ _ _ _ _ _ _ _ hbw4 hT)
    by_cases s0 : z.s = 0
    · rw [chg_no (.inr (.inr s0))] at hu
      obtain ⟨p, cap, rfl, l1, l2, l3⟩ := hu
      have ao : a = z.o := by
        rcases ab with h | ⟨h, _⟩
        · exact h
        · rw [s0] at h; exact absurd h (by decide)
      subst ao
      clear s0 ab l3
      go_wp2_with fail
      refine wp_loop_rounds 1 ?_
      rw [rounds_succ]
      go_wp2
      go_ret
      exact ⟨rfl, (by repeat' (first | with_reducible assumption | with_reducible exact Below.refl _ _ | with_reducible refine Below.setCell ?_ ?_ _ | with_reducible refine Below.alloc ?_ ?_ _ | with_reducible apply Below.drew | with_reducible apply Below.drewn | (simp; done) | (simp; omega)))⟩
    · obtain ⟨x0, x1, e0, e1, hc, lt, ⟨b01, b02⟩, ⟨b11, b12⟩, q0, q1, q2, q3, ne, sm, ⟨be1, be2⟩, ⟨be3, be4⟩⟩ := chg_two v (show 3 ≤ 2030 ∧ 2030 ≤ 3998 by omega) s0
      rw [hc] at hu
      obtain ⟨p, cap, hu', l1, l2, l3⟩ := hu
      obtain ⟨cc, off, rfl, y2, y3, y4, y5⟩ := l3 (by simp)
      have hu2 : u = .slice (some ⟨cc, off, none⟩) 2 cap := hu'
      subst hu2
      have c0 : w4.cell? ⟨cc, off, none⟩ = some (.int .i64 x0) := y4 0 (by simp)
      have c1 : w4.cell? ⟨cc, off + 1, none⟩ = some (.int .i64 x1) := y4 1 (by simp)
      have hS : (fun w' => Below w.heap.size w w' ∧ w'.cell? ⟨w1.heap.size, 0, none⟩ = some (.int .i64 (z.o)) ∧ w'.cell? ⟨w1.heap.size, 1, none⟩ = some (.int .i64 (z.s)) ∧ w'.cell? ⟨w1.heap.size, 2, none⟩ = some (.int .i64 (z.m)) ∧ w'.cell? ⟨w1.heap.size, 3, none⟩ = some (.int .i64 (z.k)) ∧ w'.cell? ⟨w1.heap.size, 4, none⟩ = some (.int .i64 (z.d)) ∧ w'.cell? ⟨w1.heap.size, 5, none⟩ = some (.int .i64 (z.i)) ∧ w'.cell? ⟨w1.heap.size, 6, none⟩ = some (.int .i64 (z.m')) ∧ w'.cell? ⟨w1.heap.size, 7, none⟩ = some (.int .i64 (z.k')) ∧ w'.cell? ⟨w1.heap.size, 8, none⟩ = some (.int .i64 (z.d')) ∧ w'.cell? ⟨w1.heap.size, 9, none⟩ = some (.int .i64 (z.i')) ∧ w'.cell? ⟨cc, off, none⟩ = some (.int .i64 (x0)) ∧ w'.cell? ⟨cc, off + 1, none⟩ = some (.int .i64 (x1))) w4 := ⟨hT.1, hT.2.1, hT.2.2.1, hT.2.2.2.1, hT.2.2.2.2.1, hT.2.2.2.2.2.1, hT.2.2.2.2.2.2.1, hT.2.2.2.2.2.2.2.1, hT.2.2.2.2.2.2.2.2.1, hT.2.2.2.2.2.2.2.2.2.1, hT.2.2.2.2.2.2.2.2.2.2, c0, c1⟩
      have Q0 := Lib.hid q0; have Q1 := Lib.hid q1; have Q2 := Lib.hid q2; have Q3 := Lib.hid q3
      have s0' : 0 < z.s := by omega
      clear hT c0 c1 y4 y5 hc q0 q1 q2 q3 hu' l3 hCw2 hCw3 hCw4 hFw2 hFw3 hFw4
      have wx0 : IntKind.i64.wrap (x0 - 1) = x0 - 1 := IntWalk.i64_in _ (by omega)
      have wx1 : IntKind.i64.wrap (x1 - 1) = x1 - 1 := IntWalk.i64_in _ (by omega)
      have nb1 : (e1 == e0) = false := by simp; omega
      have nb2 : (e0 == e1) = false := by simp; omega
      have sb1 : (e1 + e0 == 2 * z.o + z.s) = true := by simp; omega
      have sb2 : (e0 + e1 == 2 * z.o + z.s) = true := by simp; omega
      go_wp2_with fail
      refine wp_loop_rounds 3 ?_
      rw [rounds_succ]
      go_wp2_with fail
      go_region_held3 (fun w' => Below w.heap.size w w' ∧ w'.cell? ⟨w1.heap.size, 0, none⟩ = some (.int .i64 (z.o)) ∧ w'.cell? ⟨w1.heap.size, 1, none⟩ = some (.int .i64 (z.s)) ∧ w'.cell? ⟨w1.heap.size, 2, none⟩ = some (.int .i64 (z.m)) ∧ w'.cell? ⟨w1.heap.size, 3, none⟩ = some (.int .i64 (z.k)) ∧ w'.cell? ⟨w1.heap.size, 4, none⟩ = some (.int .i64 (z.d)) ∧ w'.cell? ⟨w1.heap.size, 5, none⟩ = some (.int .i64 (z.i)) ∧ w'.cell? ⟨w1.heap.size, 6, none⟩ = some (.int .i64 (z.m')) ∧ w'.cell? ⟨w1.heap.size, 7, none⟩ = some (.int .i64 (z.k')) ∧ w'.cell? ⟨w1.heap.size, 8, none⟩ = some (.int .i64 (z.d')) ∧ w'.cell? ⟨w1.heap.size, 9, none⟩ = some (.int .i64 (z.i')) ∧ w'.cell? ⟨cc, off, none⟩ = some (.int .i64 (x0)) ∧ w'.cell? ⟨cc, off + 1, none⟩ = some (.int .i64 (x1)))
        (first | exact (show Stays (fun w' => Below w.heap.size w w' ∧ w'.cell? ⟨w1.heap.size, 0, none⟩ = some (.int .i64 (z.o)) ∧ w'.cell? ⟨w1.heap.size, 1, none⟩ = some (.int .i64 (z.s)) ∧ w'.cell? ⟨w1.heap.size, 2, none⟩ = some (.int .i64 (z.m)) ∧ w'.cell? ⟨w1.heap.size, 3, none⟩ = some (.int .i64 (z.k)) ∧ w'.cell? ⟨w1.heap.size, 4, none⟩ = some (.int .i64 (z.d)) ∧ w'.cell? ⟨w1.heap.size, 5, none⟩ = some (.int .i64 (z.i)) ∧ w'.cell? ⟨w1.heap.size, 6, none⟩ = some (.int .i64 (z.m')) ∧ w'.cell? ⟨w1.heap.size, 7, none⟩ = some (.int .i64 (z.k')) ∧ w'.cell? ⟨w1.heap.size, 8, none⟩ = some (.int .i64 (z.d')) ∧ w'.cell? ⟨w1.heap.size, 9, none⟩ = some (.int .i64 (z.i')) ∧ w'.cell? ⟨cc, off, none⟩ = some (.int .i64 (x0)) ∧ w'.cell? ⟨cc, off + 1, none⟩ = some (.int .i64 (x1))) from (by repeat' (first | with_reducible exact Stays.below _ | with_reducible exact Stays.cell _ _ _ | with_reducible exact Stays.size _ | with_reducible refine Stays.and ?_ ?_))) _ _ (Below.refl _ _).drew (by assumption) | exact (show Stays (fun w' => Below w.heap.size w w' ∧ w'.cell? ⟨w1.heap.size, 0, none⟩ = some (.int .i64 (z.o)) ∧ w'.cell? ⟨w1.heap.size, 1, none⟩ = some (.int .i64 (z.s)) ∧ w'.cell? ⟨w1.heap.size, 2, none⟩ = some (.int .i64 (z.m)) ∧ w'.cell? ⟨w1.heap.size, 3, none⟩ = some (.int .i64 (z.k)) ∧ w'.cell? ⟨w1.heap.size, 4, none⟩ = some (.int .i64 (z.d)) ∧ w'.cell? ⟨w1.heap.size, 5, none⟩ = some (.int .i64 (z.i)) ∧ w'.cell? ⟨w1.heap.size, 6, none⟩ = some (.int .i64 (z.m')) ∧ w'.cell? ⟨w1.heap.size, 7, none⟩ = some (.int .i64 (z.k')) ∧ w'.cell? ⟨w1.heap.size, 8, none⟩ = some (.int .i64 (z.d')) ∧ w'.cell? ⟨w1.heap.size, 9, none⟩ = some (.int .i64 (z.i')) ∧ w'.cell? ⟨cc, off, none⟩ = some (.int .i64 (x0)) ∧ w'.cell? ⟨cc, off + 1, none⟩ = some (.int .i64 (x1))) from (by repeat' (first | with_reducible exact Stays.below _ | with_reducible exact Stays.cell _ _ _ | with_reducible exact Stays.size _ | with_reducible refine Stays.and ?_ ?_))) _ _ hb2 (by assumption))
        (first | (go_at_call 21; refine (iOffsetAt z _ _).mono ?_; rw [Q1.out]; rintro e w5 ⟨rfl, hb2⟩))
      go_wp2_with fail
      go_region_held3 (fun w' => Below w.heap.size w w' ∧ w'.cell? ⟨w1.heap.size, 0, none⟩ = some (.int .i64 (z.o)) ∧ w'.cell? ⟨w1.heap.size, 1, none⟩ = some (.int .i64 (z.s)) ∧ w'.cell? ⟨w1.heap.size, 2, none⟩ = some (.int .i64 (z.m)) ∧ w'.cell? ⟨w1.heap.size, 3, none⟩ = some (.int .i64 (z.k)) ∧ w'.cell? ⟨w1.heap.size, 4, none⟩ = some (.int .i64 (z.d)) ∧ w'.cell? ⟨w1.heap.size, 5, none⟩ = some (.int .i64 (z.i)) ∧ w'.cell? ⟨w1.heap.size, 6, none⟩ = some (.int .i64 (z.m')) ∧ w'.cell? ⟨w1.heap.size, 7, none⟩ = some (.int .i64 (z.k')) ∧ w'.cell? ⟨w1.heap.size, 8, none⟩ = some (.int .i64 (z.d')) ∧ w'.cell? ⟨w1.heap.size, 9, none⟩ = some (.int .i64 (z.i')) ∧ w'.cell? ⟨cc, off, none⟩ = some (.int .i64 (x0)) ∧ w'.cell? ⟨cc, off + 1, none⟩ = some (.int .i64 (x1)))
        (first | exact (show Stays (fun w' => Below w.heap.size w w' ∧ w'.cell? ⟨w1.heap.size, 0, none⟩ = some (.int .i64 (z.o)) ∧ w'.cell? ⟨w1.heap.size, 1, none⟩ = some (.int .i64 (z.s)) ∧ w'.cell? ⟨w1.heap.size, 2, none⟩ = some (.int .i64 (z.m)) ∧ w'.cell? ⟨w1.heap.size, 3, none⟩ = some (.int .i64 (z.k)) ∧ w'.cell? ⟨w1.heap.size, 4, none⟩ = some (.int .i64 (z.d)) ∧ w'.cell? ⟨w1.heap.size, 5, none⟩ = some (.int .i64 (z.i)) ∧ w'.cell? ⟨w1.heap.size, 6, none⟩ = some (.int .i64 (z.m')) ∧ w'.cell? ⟨w1.heap.size, 7, none⟩ = some (.int .i64 (z.k')) ∧ w'.cell? ⟨w1.heap.size, 8, none⟩ = some (.int .i64 (z.d')) ∧ w'.cell? ⟨w1.heap.size, 9, none⟩ = some (.int .i64 (z.i')) ∧ w'.cell? ⟨cc, off, none⟩ = some (.int .i64 (x0)) ∧ w'.cell? ⟨cc, off + 1, none⟩ = some (.int .i64 (x1))) from (by repeat' (first | with_reducible exact Stays.below _ | with_reducible exact Stays.cell _ _ _ | with_reducible exact Stays.size _ | with_reducible refine Stays.and ?_ ?_))) _ _ (Below.refl _ _).drew (by assumption) | exact (show Stays (fun w' => Below w.heap.size w w' ∧ w'.cell? ⟨w1.heap.size, 0, none⟩ = some (.int .i64 (z.o)) ∧ w'.cell? ⟨w1.heap.size, 1, none⟩ = some (.int .i64 (z.s)) ∧ w'.cell? ⟨w1.heap.size, 2, none⟩ = some (.int .i64 (z.m)) ∧ w'.cell? ⟨w1.heap.size, 3, none⟩ = some (.int .i64 (z.k)) ∧ w'.cell? ⟨w1.heap.size, 4, none⟩ = some (.int .i64 (z.d)) ∧ w'.cell? ⟨w1.heap.size, 5, none⟩ = some (.int .i64 (z.i)) ∧ w'.cell? ⟨w1.heap.size, 6, none⟩ = some (.int .i64 (z.m')) ∧ w'.cell? ⟨w1.heap.size, 7, none⟩ = some (.int .i64 (z.k')) ∧ w'.cell? ⟨w1.heap.size, 8, none⟩ = some (.int .i64 (z.d')) ∧ w'.cell? ⟨w1.heap.size, 9, none⟩ = some (.int .i64 (z.i')) ∧ w'.cell? ⟨cc, off, none⟩ = some (.int .i64 (x0)) ∧ w'.cell? ⟨cc, off + 1, none⟩ = some (.int .i64 (x1))) from (by repeat' (first | with_reducible exact Stays.below _ | with_reducible exact Stays.cell _ _ _ | with_reducible exact Stays.size _ | with_reducible refine Stays.and ?_ ?_))) _ _ hb2 (by assumption))
        (first | (go_at_call 21; refine (iOffsetAt z _ _).mono ?_; rw [Q0.out]; rintro e w6 ⟨rfl, hb2⟩))
      have hhh : (fun w' => Below w.heap.size w w' ∧ w'.cell? ⟨w1.heap.size, 0, none⟩ = some (.int .i64 (z.o)) ∧ w'.cell? ⟨w1.heap.size, 1, none⟩ = some (.int .i64 (z.s)) ∧ w'.cell? ⟨w1.heap.size, 2, none⟩ = some (.int .i64 (z.m)) ∧ w'.cell? ⟨w1.heap.size, 3, none⟩ = some (.int .i64 (z.k)) ∧ w'.cell? ⟨w1.heap.size, 4, none⟩ = some (.int .i64 (z.d)) ∧ w'.cell? ⟨w1.heap.size, 5, none⟩ = some (.int .i64 (z.i)) ∧ w'.cell? ⟨w1.heap.size, 6, none⟩ = some (.int .i64 (z.m')) ∧ w'.cell? ⟨w1.heap.size, 7, none⟩ = some (.int .i64 (z.k')) ∧ w'.cell? ⟨w1.heap.size, 8, none⟩ = some (.int .i64 (z.d')) ∧ w'.cell? ⟨w1.heap.size, 9, none⟩ = some (.int .i64 (z.i')) ∧ w'.cell? ⟨cc, off, none⟩ = some (.int .i64 (x0)) ∧ w'.cell? ⟨cc, off + 1, none⟩ = some (.int .i64 (x1))) w6 := by assumption
      obtain ⟨hbx, t0, t1, t2, t3, t4, t5, t6, t7, t8, t9, c0, c1⟩ := hhh
      go_wp2_with fail
      clear t0 t1 t2 t3 t4 t5 t6 t7 t8 t9 c0 c1 hbx
      rw [rounds_succ]
      have hhh : (fun w' => Below w.heap.size w w' ∧ w'.cell? ⟨w1.heap.size, 0, none⟩ = some (.int .i64 (z.o)) ∧ w'.cell? ⟨w1.heap.size, 1, none⟩ = some (.int .i64 (z.s)) ∧ w'.cell? ⟨w1.heap.size, 2, none⟩ = some (.int .i64 (z.m)) ∧ w'.cell? ⟨w1.heap.size, 3, none⟩ = some (.int .i64 (z.k)) ∧ w'.cell? ⟨w1.heap.size, 4, none⟩ = some (.int .i64 (z.d)) ∧ w'.cell? ⟨w1.heap.size, 5, none⟩ = some (.int .i64 (z.i)) ∧ w'.cell? ⟨w1.heap.size, 6, none⟩ = some (.int .i64 (z.m')) ∧ w'.cell? ⟨w1.heap.size, 7, none⟩ = some (.int .i64 (z.k')) ∧ w'.cell? ⟨w1.heap.size, 8, none⟩ = some (.int .i64 (z.d')) ∧ w'.cell? ⟨w1.heap.size, 9, none⟩ = some (.int .i64 (z.i')) ∧ w'.cell? ⟨cc, off, none⟩ = some (.int .i64 (x0)) ∧ w'.cell? ⟨cc, off + 1, none⟩ = some (.int .i64 (x1))) w6 := by assumption
      obtain ⟨hbx, t0, t1, t2, t3, t4, t5, t6, t7, t8, t9, c0, c1⟩ := hhh
      go_wp2_with fail
      clear t0 t1 t2 t3 t4 t5 t6 t7 t8 t9 c0 c1 hbx
      go_region_held3 (fun w' => Below w.heap.size w w' ∧ w'.cell? ⟨w1.heap.size, 0, none⟩ = some (.int .i64 (z.o)) ∧ w'.cell? ⟨w1.heap.size, 1, none⟩ = some (.int .i64 (z.s)) ∧ w'.cell? ⟨w1.heap.size, 2, none⟩ = some (.int .i64 (z.m)) ∧ w'.cell? ⟨w1.heap.size, 3, none⟩ = some (.int .i64 (z.k)) ∧ w'.cell? ⟨w1.heap.size, 4, none⟩ = some (.int .i64 (z.d)) ∧ w'.cell? ⟨w1.heap.size, 5, none⟩ = some (.int .i64 (z.i)) ∧ w'.cell? ⟨w1.heap.size, 6, none⟩ = some (.int .i64 (z.m')) ∧ w'.cell? ⟨w1.heap.size, 7, none⟩ = some (.int .i64 (z.k')) ∧ w'.cell? ⟨w1.heap.size, 8, none⟩ = some (.int .i64 (z.d')) ∧ w'.cell? ⟨w1.heap.size, 9, none⟩ = some (.int .i64 (z.i')) ∧ w'.cell? ⟨cc, off, none⟩ = some (.int .i64 (x0)) ∧ w'.cell? ⟨cc, off + 1, none⟩ = some (.int .i64 (x1)))
        (first | exact (show Stays (fun w' => Below w.heap.size w w' ∧ w'.cell? ⟨w1.heap.size, 0, none⟩ = some (.int .i64 (z.o)) ∧ w'.cell? ⟨w1.heap.size, 1, none⟩ = some (.int .i64 (z.s)) ∧ w'.cell? ⟨w1.heap.size, 2, none⟩ = some (.int .i64 (z.m)) ∧ w'.cell? ⟨w1.heap.size, 3, none⟩ = some (.int .i64 (z.k)) ∧ w'.cell? ⟨w1.heap.size, 4, none⟩ = some (.int .i64 (z.d)) ∧ w'.cell? ⟨w1.heap.size, 5, none⟩ = some (.int .i64 (z.i)) ∧ w'.cell? ⟨w1.heap.size, 6, none⟩ = some (.int .i64 (z.m')) ∧ w'.cell? ⟨w1.heap.size, 7, none⟩ = some (.int .i64 (z.k')) ∧ w'.cell? ⟨w1.heap.size, 8, none⟩ = some (.int .i64 (z.d')) ∧ w'.cell? ⟨w1.heap.size, 9, none⟩ = some (.int .i64 (z.i')) ∧ w'.cell? ⟨cc, off, none⟩ = some (.int .i64 (x0)) ∧ w'.cell? ⟨cc, off + 1, none⟩ = some (.int .i64 (x1))) from (by repeat' (first | with_reducible exact Stays.below _ | with_reducible exact Stays.cell _ _ _ | with_reducible exact Stays.size _ | with_reducible refine Stays.and ?_ ?_))) _ _ (Below.refl _ _).drew (by assumption) | exact (show Stays (fun w' => Below w.heap.size w w' ∧ w'.cell? ⟨w1.heap.size, 0, none⟩ = some (.int .i64 (z.o)) ∧ w'.cell? ⟨w1.heap.size, 1, none⟩ = some (.int .i64 (z.s)) ∧ w'.cell? ⟨w1.heap.size, 2, none⟩ = some (.int .i64 (z.m)) ∧ w'.cell? ⟨w1.heap.size, 3, none⟩ = some (.int .i64 (z.k)) ∧ w'.cell? ⟨w1.heap.size, 4, none⟩ = some (.int .i64 (z.d)) ∧ w'.cell? ⟨w1.heap.size, 5, none⟩ = some (.int .i64 (z.i)) ∧ w'.cell? ⟨w1.heap.size, 6, none⟩ = some (.int .i64 (z.m')) ∧ w'.cell? ⟨w1.heap.size, 7, none⟩ = some (.int .i64 (z.k')) ∧ w'.cell? ⟨w1.heap.size, 8, none⟩ = some (.int .i64 (z.d')) ∧ w'.cell? ⟨w1.heap.size, 9, none⟩ = some (.int .i64 (z.i')) ∧ w'.cell? ⟨cc, off, none⟩ = some (.int .i64 (x0)) ∧ w'.cell? ⟨cc, off + 1, none⟩ = some (.int .i64 (x1))) from (by repeat' (first | with_reducible exact Stays.below _ | with_reducible exact Stays.cell _ _ _ | with_reducible exact Stays.size _ | with_reducible refine Stays.and ?_ ?_))) _ _ hb2 (by assumption))
        (first | (go_at_call 21; refine (iOffsetAt z _ _).mono ?_; rw [Q3.out]; rintro e w7 ⟨rfl, hb2⟩))
      go_wp2_with fail
      go_region_held3 (fun w' => Below w.heap.size w w' ∧ w'.cell? ⟨w1.heap.size, 0, none⟩ = some (.int .i64 (z.o)) ∧ w'.cell? ⟨w1.heap.size, 1, none⟩ = some (.int .i64 (z.s)) ∧ w'.cell? ⟨w1.heap.size, 2, none⟩ = some (.int .i64 (z.m)) ∧ w'.cell? ⟨w1.heap.size, 3, none⟩ = some (.int .i64 (z.k)) ∧ w'.cell? ⟨w1.heap.size, 4, none⟩ = some (.int .i64 (z.d)) ∧ w'.cell? ⟨w1.heap.size, 5, none⟩ = some (.int .i64 (z.i)) ∧ w'.cell? ⟨w1.heap.size, 6, none⟩ = some (.int .i64 (z.m')) ∧ w'.cell? ⟨w1.heap.size, 7, none⟩ = some (.int .i64 (z.k')) ∧ w'.cell? ⟨w1.heap.size, 8, none⟩ = some (.int .i64 (z.d')) ∧ w'.cell? ⟨w1.heap.size, 9, none⟩ = some (.int .i64 (z.i')) ∧ w'.cell? ⟨cc, off, none⟩ = some (.int .i64 (x0)) ∧ w'.cell? ⟨cc, off + 1, none⟩ = some (.int .i64 (x1)))
        (first | exact (show Stays (fun w' => Below w.heap.size w w' ∧ w'.cell? ⟨w1.heap.size, 0, none⟩ = some (.int .i64 (z.o)) ∧ w'.cell? ⟨w1.heap.size, 1, none⟩ = some (.int .i64 (z.s)) ∧ w'.cell? ⟨w1.heap.size, 2, none⟩ = some (.int .i64 (z.m)) ∧ w'.cell? ⟨w1.heap.size, 3, none⟩ = some (.int .i64 (z.k)) ∧ w'.cell? ⟨w1.heap.size, 4, none⟩ = some (.int .i64 (z.d)) ∧ w'.cell? ⟨w1.heap.size, 5, none⟩ = some (.int .i64 (z.i)) ∧ w'.cell? ⟨w1.heap.size, 6, none⟩ = some (.int .i64 (z.m')) ∧ w'.cell? ⟨w1.heap.size, 7, none⟩ = some (.int .i64 (z.k')) ∧ w'.cell? ⟨w1.heap.size, 8, none⟩ = some (.int .i64 (z.d')) ∧ w'.cell? ⟨w1.heap.size, 9, none⟩ = some (.int .i64 (z.i')) ∧ w'.cell? ⟨cc, off, none⟩ = some (.int .i64 (x0)) ∧ w'.cell? ⟨cc, off + 1, none⟩ = some (.int .i64 (x1))) from (by repeat' (first | with_reducible exact Stays.below _ | with_reducible exact Stays.cell _ _ _ | with_reducible exact Stays.size _ | with_reducible refine Stays.and ?_ ?_))) _ _ (Below.refl _ _).drew (by assumption) | exact (show Stays (fun w' => Below w.heap.size w w' ∧ w'.cell? ⟨w1.heap.size, 0, none⟩ = some (.int .i64 (z.o)) ∧ w'.cell? ⟨w1.heap.size, 1, none⟩ = some (.int .i64 (z.s)) ∧ w'.cell? ⟨w1.heap.size, 2, none⟩ = some (.int .i64 (z.m)) ∧ w'.cell? ⟨w1.heap.size, 3, none⟩ = some (.int .i64 (z.k)) ∧ w'.cell? ⟨w1.heap.size, 4, none⟩ = some (.int .i64 (z.d)) ∧ w'.cell? ⟨w1.heap.size, 5, none⟩ = some (.int .i64 (z.i)) ∧ w'.cell? ⟨w1.heap.size, 6, none⟩ = some (.int .i64 (z.m')) ∧ w'.cell? ⟨w1.heap.size, 7, none⟩ = some (.int .i64 (z.k')) ∧ w'.cell? ⟨w1.heap.size, 8, none⟩ = some (.int .i64 (z.d')) ∧ w'.cell? ⟨w1.heap.size, 9, none⟩ = some (.int .i64 (z.i')) ∧ w'.cell? ⟨cc, off, none⟩ = some (.int .i64 (x0)) ∧ w'.cell? ⟨cc, off + 1, none⟩ = some (.int .i64 (x1))) from (by repeat' (first | with_reducible exact Stays.below _ | with_reducible exact Stays.cell _ _ _ | with_reducible exact Stays.size _ | with_reducible refine Stays.and ?_ ?_))) _ _ hb2 (by assumption))
        (first | (go_at_call 21; refine (iOffsetAt z _ _).mono ?_; rw [Q2.out]; rintro e w8 ⟨rfl, hb2⟩))
      have hhh : (fun w' => Below w.heap.size w w' ∧ w'.cell? ⟨w1.heap.size, 0, none⟩ = some (.int .i64 (z.o)) ∧ w'.cell? ⟨w1.heap.size, 1, none⟩ = some (.int .i64 (z.s)) ∧ w'.cell? ⟨w1.heap.size, 2, none⟩ = some (.int .i64 (z.m)) ∧ w'.cell? ⟨w1.heap.size, 3, none⟩ = some (.int .i64 (z.k)) ∧ w'.cell? ⟨w1.heap.size, 4, none⟩ = some (.int .i64 (z.d)) ∧ w'.cell? ⟨w1.heap.size, 5, none⟩ = some (.int .i64 (z.i)) ∧ w'.cell? ⟨w1.heap.size, 6, none⟩ = some (.int .i64 (z.m')) ∧ w'.cell? ⟨w1.heap.size, 7, none⟩ = some (.int .i64 (z.k')) ∧ w'.cell? ⟨w1.heap.size, 8, none⟩ = some (.int .i64 (z.d')) ∧ w'.cell? ⟨w1.heap.size, 9, none⟩ = some (.int .i64 (z.i')) ∧ w'.cell? ⟨cc, off, none⟩ = some (.int .i64 (x0)) ∧ w'.cell? ⟨cc, off + 1, none⟩ = some (.int .i64 (x1))) w8 := by assumption
      obtain ⟨hbx, t0, t1, t2, t3, t4, t5, t6, t7, t8, t9, c0, c1⟩ := hhh
      go_wp2_with fail
      rw [rounds_succ]
      go_wp2
      all_goals
        go_ret
        first
          | exact ⟨rfl, (by repeat' (first | with_reducible assumption | with_reducible exact Below.refl _ _ | with_reducible refine Below.setCell ?_ ?_ _ | with_reducible refine Below.alloc ?_ ?_ _ | with_reducible apply Below.drew | with_reducible apply Below.drewn | (simp; done) | (simp; omega)))⟩
          | exact ⟨ret_bool (by rcases ab with h | ⟨_, h⟩ <;> simp [h]), (by repeat' (first | with_reducible assumption | with_reducible exact Below.refl _ _ | with_reducible refine Below.setCell ?_ ?_ _ | with_reducible refine Below.alloc ?_ ?_ _ | with_reducible apply Below.drew | with_reducible apply Below.drewn | (simp; done) | (simp; omega)))⟩

theorem own : ownKnob Try.prog.godebug = none := by kernel_rfl
theorem laid : laidOutB Try.prog = true := by kernel_rfl
theorem readable : ∀ t ∈ Try.f10.params.toList, Try.prog.readableRec t = true ∧ t < Try.prog.types.size := by
  have h : (Try.f10.params.toList.all fun t => Try.prog.readableRec t && decide (t < Try.prog.types.size)) = true := by kernel_rfl
  intro t ht
  have := List.all_eq_true.1 h t ht
  simpa using this

set_option maxRecDepth 100000 in
theorem lifted (os : Os) (started : os.Started) (H : Type) (enc : TypeId × Value → H) :
    ReturnsInHanded {} Try.checked os 10 .any (Rows.fnOffsetAtSpec.pre6 enc Try.prog Try.f10 Rows.fnOffsetAtRow.domain false) (Rows.fnOffsetAtSpec.post enc Try.prog Try.f10 false true false false) := by
  refine returnsInHanded_of_change (C := Try.checked) own started (by kernel_rfl) Try.func10
    (ChangeSpec.witness6 (enc := enc) (C := Try.checked) false ⟨#[], #[.slice none 0 0], []⟩ 8 (by kernel_rfl) (by kernel_rfl) (by kernel_rfl) (by kernel_rfl)) ?_
  intro W base args ds gs before hval0 hW hcnd _
  have hval : ∀ (j : Nat) t v, Try.f10.params[j]? = some t → args[j]? = some v → Value.okWide Try.prog W .any base t v := hval0
  have hW' := hW
  obtain ⟨p, q, hA0, hV, rfl, hfz, hnd⟩ := hW
  have hA : DataW.TrodAll enc Try.prog W 0 (fun _ => true) true Try.f10.params.toList args.toList ds p := hA0
  rw [Try.params10] at hA hval
  obtain ⟨v0, vs0, d0, ds0, p0, q0, hargs, rfl, rfl, h0, r0⟩ := trodAll_cons hA
  obtain ⟨rfl, rfl, rfl⟩ := trodAll_nil r0
  obtain rfl : args = #[v0] := by cases args; simp_all
  obtain ⟨rfl, rfl⟩ := trodVars_none hV
  have b0 := Law.bytes_arg Try.underlying22 Try.underlying5 (by kernel_rfl) (hval 0 22 v0 rfl rfl) h0 (fun x hx => hW'.lt x (by simp [hx]))
  clear hA0 hval0
  refine (walk W v0 W.heap.size b0 rfl).mono fun e W' ⟨he, hg⟩ => ?_
  subst he
  exact ⟨_, rfl, Law.law_post laid readable (B := 4) rfl Try.underlying4 rfl hW' rfl hg⟩

theorem over : Rows.fnOffsetAtRow.holds Try.pinned (OpenSpec.ofChange Rows.fnOffsetAtSpec) :=
  OpenClaim.holds_of_wide 10 Try.f10 rfl rfl rfl rfl rfl rfl rfl ⟨rfl, rfl, rfl, rfl, rfl⟩ rfl rfl rfl rfl rfl (by kernel_rfl) Try.func10 (by kernel_rfl)
    (of_decide_eq_true (by kernel_rfl)) (by unfold Func.isWrapper; first | (rw [if_pos (by decide +kernel)]; kernel_rfl) | (rw [if_neg (by decide +kernel)]; exact ⟨rfl, rfl⟩))
    (fun os started H enc _ => lifted os started H enc)

theorem proved : Rows.FnOffsetAtSaid :=
  over
end Go.Proofs.Ytlmmianaplahaaa.fnOffsetAt
