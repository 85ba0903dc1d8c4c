/-
  FnCommonOptions holds: whatever the input, the law answers true and leaves its arguments as they were. Conditions: none.
-/
import Derived.Test.YtlmmianaplahaaaRows
import Derived.Test.YtlmmianaplahaaaLaw
import Derived.WalkKit
import Derived.ProofKit
import Derived.OpenShut
import Derived.Lib.Hide
import Derived.Outline
import Derived.LoopN
import Derived.IntWalk
import Derived.Deep.RegionHeld3
import Derived.Deep.RegionWith
import Derived.Test.YtlmmianaplahaaaLawZone
import Derived.Test.YtlmmianaplahaaaDrawLocal
import Derived.Test.YtlmmianaplahaaaILocals
import Derived.Test.YtlmmianaplahaaaLocalLaw
import Derived.Test.YtlmmianaplahaaaInts
import Derived.Test.YtlmmianaplahaaaZoneLaw
import Derived.Test.YtlmmianaplahaaaCalm
set_option linter.unusedVariables false
set_option linter.unusedSimpArgs false
namespace Go.Proofs.Ytlmmianaplahaaa.fnCommonOptions
open Go.ChangeShapes Go.WideShapes Go.ChangeAt Go.RowKit Cal
set_option maxHeartbeats 8000000 in
theorem walk (w : World) (code : Value) (B : Nat) (h_code : Law.BytesAt w B code) (hB : B = w.heap.size) :
    Calls Try.prog 4 #[code] w fun e w' => e = .returned (.bool true) ∧ Below w.heap.size w w' := by
  have hq := h_code
  obtain ⟨a, ln, cap, rfl, hl1, hl2, _⟩ := hq
  unfold maxLen at hl2
  subst hB
  by_cases hc : 1048576 < ln
  · go_enter Try.func4, Try.ntmps4
    go_wp2
    go_ret
    exact ⟨rfl, Below.refl _ _⟩
  have hc' : decide (1048576 < ln) = false := by simpa using hc
  go_enter Try.func4, Try.ntmps4
  go_wp2_with fail
  refine (drawCommonOptions _ _ _ h_code rfl).mono ?_
  rintro e w1 ⟨z, n, rfl, hzb, hn, hb⟩
  have hz := hb.size
  have hS := (ten_at hb (.int .i64 (z.o)) (.int .i64 (z.s)) (.int .i64 (z.m)) (.int .i64 (z.k)) (.int .i64 (z.d)) (.int .i64 (z.i)) (.int .i64 (z.m')) (.int .i64 (z.k')) (.int .i64 (z.d')) (.int .i64 (z.i')) 26)
  clear hzb
  obtain ⟨n1, n2⟩ := hn
  have opt : cOpts z n = [] ∨ (∃ a, cOpts z n = [a] ∧ locOf z a = n) ∨ ∃ a b, cOpts z n = [a, b] ∧ locOf z a = n ∧ locOf z b = n ∧ a < b := by
    by_cases v : zvB z = true
    · by_cases g : lGood n = true
      · exact opt_back v g
      · exact .inl (cOpts_no (.inr (by simpa using g)))
    · exact .inl (cOpts_no (.inl (by simpa using v)))
  generalize hxs : cOpts z n = xs at *
  have HX := Lib.hid hxs; clear hxs
  have ci : ∀ w, Calls Try.prog 20 #[(.agg #[.int .i64 (z.o), .int .i64 (z.s), .int .i64 (z.m), .int .i64 (z.k), .int .i64 (z.d), .int .i64 (z.i), .int .i64 (z.m'), .int .i64 (z.k'), .int .i64 (z.d'), .int .i64 (z.i')]), .int .i64 n] w (GaveInts xs w) := fun w => HX.out ▸ iCommonOptions z n w
  have cs : ∀ w, Calls Try.prog 24 #[(.agg #[.int .i64 (z.o), .int .i64 (z.s), .int .i64 (z.m), .int .i64 (z.k), .int .i64 (z.d), .int .i64 (z.i), .int .i64 (z.m'), .int .i64 (z.k'), .int .i64 (z.d'), .int .i64 (z.i')]), .int .i64 n] w (GaveInts xs w) := fun w => HX.out ▸ sCommonOptions z n w
  have CI := Lib.hid ci; have CS := Lib.hid cs; clear ci cs
  (go_wp2_with fail; refine (CI.out _).mono ?_; rintro e w2 ⟨u, rfl, hu, hbw2⟩; have hCw2 := Below_at hbw2; have hFw2 := Below_fr hbw2; have hb := Below.trans (show Below w.heap.size w _ from (by repeat' (first | with_reducible assumption | with_reducible exact Below.refl _ _ | with_reducible refine Below.setCell ?_ ?_ _ | with_reducible refine Below.alloc ?_ ?_ _ | with_reducible apply Below.drew | with_reducible apply Below.drewn | (simp; done) | (simp; omega)))) (hbw2.mono (by first | omega | (simp; done) | (simp; omega))); have hzw2 := hb.size; have hlw2 := hbw2.size; (try simp only [World.size_alloc, World.size_setCell, World.size_drew] at hlw2))
  have hS := (ten_stays _ _ _ _ _ _ _ _ _ _ _ _ _ _ hbw2 hS)
  have p2 : w1.heap.size < w2.heap.size := by omega
  (go_wp2_with fail; refine (CS.out _).mono ?_; rintro e w3 ⟨u2, rfl, hu2, hbw3⟩; have hCw3 := Below_at hbw3; have hFw3 := Below_fr hbw3; have hb := Below.trans (show Below w.heap.size w _ from (by repeat' (first | with_reducible assumption | with_reducible exact Below.refl _ _ | with_reducible refine Below.setCell ?_ ?_ _ | with_reducible refine Below.alloc ?_ ?_ _ | with_reducible apply Below.drew | with_reducible apply Below.drewn | (simp; done) | (simp; omega)))) (hbw3.mono (by first | omega | (simp; done) | (simp; omega))); have hzw3 := hb.size; have hlw3 := hbw3.size; (try simp only [World.size_alloc, World.size_setCell, World.size_drew] at hlw3))
  have hS := (ten_stays _ _ _ _ _ _ _ _ _ _ _ _ _ _ hbw3 hS)
  have p3 : w1.heap.size < w3.heap.size := by omega
  have hu := hu.below hbw3
  (go_wp2_with fail; refine (sameInts_same xs _ _ _ _ _ hu hu2).mono ?_; rintro e w4 ⟨rfl, hbw4⟩; have hCw4 := Below_at hbw4; have hFw4 := Below_fr hbw4; have hb := Below.trans (show Below w.heap.size w _ from (by repeat' (first | with_reducible assumption | with_reducible exact Below.refl _ _ | with_reducible refine Below.setCell ?_ ?_ _ | with_reducible refine Below.alloc ?_ ?_ _ | with_reducible apply Below.drew | with_reducible apply Below.drewn | (simp; done) | (simp; omega)))) (hbw4.mono (by first | omega | (simp; done) | (simp; omega))); have hzw4 := hb.size; have hlw4 := hbw4.size; (try simp only [World.size_alloc, World.size_setCell, World.size_drew] at hlw4))
  have hS := (ten_stays _ _ _ _ _ _ _ _ _ _ _ _ _ _ hbw4 hS)
  have p4 : w1.heap.size < w4.heap.size := by omega
  have hu := hu.below hbw4
  clear hu2
  rcases opt with rfl | ⟨a, rfl, ha⟩ | ⟨a, b, rfl, ha, hbb, ab⟩
  · obtain ⟨p, cap, rfl, l1, l2, l3⟩ := hu
    clear l3
    go_wp2_with fail
    refine wp_loop_rounds 1 ?_
    rw [rounds_succ]
    (go_wp2_with fail; refine (alive_any _).mono ?_; rintro e wx ⟨rfl, rfl⟩)
    go_wp2
    go_ret
    exact ⟨rfl, (by repeat' (first | with_reducible assumption | with_reducible exact Below.refl _ _ | with_reducible refine Below.setCell ?_ ?_ _ | with_reducible refine Below.alloc ?_ ?_ _ | with_reducible apply Below.drew | with_reducible apply Below.drewn | (simp; done) | (simp; omega)))⟩
  · obtain ⟨p, cap, rfl, l1, l2, l3⟩ := hu
    obtain ⟨c, off, rfl, e2, pc4, e4, e5⟩ := l3 (by simp)
    have c0 : w4.cell? ⟨c, off, none⟩ = some (.int .i64 a) := e4 0 (by simp)
    clear e4 e5 l3
    have HA := Lib.hid ha; clear ha
    go_wp2_with fail
    refine wp_loop_rounds 2 ?_
    rw [rounds_succ]
    go_wp2_with fail
    have hX : (fun w' => Below w.heap.size w w' ∧ w'.cell? ⟨w1.heap.size, 0, none⟩ = some (.int .i64 (z.o)) ∧ w'.cell? ⟨w1.heap.size, 1, none⟩ = some (.int .i64 (z.s)) ∧ w'.cell? ⟨w1.heap.size, 2, none⟩ = some (.int .i64 (z.m)) ∧ w'.cell? ⟨w1.heap.size, 3, none⟩ = some (.int .i64 (z.k)) ∧ w'.cell? ⟨w1.heap.size, 4, none⟩ = some (.int .i64 (z.d)) ∧ w'.cell? ⟨w1.heap.size, 5, none⟩ = some (.int .i64 (z.i)) ∧ w'.cell? ⟨w1.heap.size, 6, none⟩ = some (.int .i64 (z.m')) ∧ w'.cell? ⟨w1.heap.size, 7, none⟩ = some (.int .i64 (z.k')) ∧ w'.cell? ⟨w1.heap.size, 8, none⟩ = some (.int .i64 (z.d')) ∧ w'.cell? ⟨w1.heap.size, 9, none⟩ = some (.int .i64 (z.i')) ∧ w'.cell? ⟨c, off, none⟩ = some (.int .i64 (a))) w4 := ⟨hS.1, hS.2.1, hS.2.2.1, hS.2.2.2.1, hS.2.2.2.2.1, hS.2.2.2.2.2.1, hS.2.2.2.2.2.2.1, hS.2.2.2.2.2.2.2.1, hS.2.2.2.2.2.2.2.2.1, hS.2.2.2.2.2.2.2.2.2.1, hS.2.2.2.2.2.2.2.2.2.2, c0⟩
    (refine wp_region_calm ((fun w' => Below w.heap.size w w' ∧ w'.cell? ⟨w1.heap.size, 0, none⟩ = some (.int .i64 (z.o)) ∧ w'.cell? ⟨w1.heap.size, 1, none⟩ = some (.int .i64 (z.s)) ∧ w'.cell? ⟨w1.heap.size, 2, none⟩ = some (.int .i64 (z.m)) ∧ w'.cell? ⟨w1.heap.size, 3, none⟩ = some (.int .i64 (z.k)) ∧ w'.cell? ⟨w1.heap.size, 4, none⟩ = some (.int .i64 (z.d)) ∧ w'.cell? ⟨w1.heap.size, 5, none⟩ = some (.int .i64 (z.i)) ∧ w'.cell? ⟨w1.heap.size, 6, none⟩ = some (.int .i64 (z.m')) ∧ w'.cell? ⟨w1.heap.size, 7, none⟩ = some (.int .i64 (z.k')) ∧ w'.cell? ⟨w1.heap.size, 8, none⟩ = some (.int .i64 (z.d')) ∧ w'.cell? ⟨w1.heap.size, 9, none⟩ = some (.int .i64 (z.i')) ∧ w'.cell? ⟨c, off, none⟩ = some (.int .i64 (a)))) (by kernel_rfl) (by kernel_rfl) ((show Stays (fun w' => Below w.heap.size w w' ∧ w'.cell? ⟨w1.heap.size, 0, none⟩ = some (.int .i64 (z.o)) ∧ w'.cell? ⟨w1.heap.size, 1, none⟩ = some (.int .i64 (z.s)) ∧ w'.cell? ⟨w1.heap.size, 2, none⟩ = some (.int .i64 (z.m)) ∧ w'.cell? ⟨w1.heap.size, 3, none⟩ = some (.int .i64 (z.k)) ∧ w'.cell? ⟨w1.heap.size, 4, none⟩ = some (.int .i64 (z.d)) ∧ w'.cell? ⟨w1.heap.size, 5, none⟩ = some (.int .i64 (z.i)) ∧ w'.cell? ⟨w1.heap.size, 6, none⟩ = some (.int .i64 (z.m')) ∧ w'.cell? ⟨w1.heap.size, 7, none⟩ = some (.int .i64 (z.k')) ∧ w'.cell? ⟨w1.heap.size, 8, none⟩ = some (.int .i64 (z.d')) ∧ w'.cell? ⟨w1.heap.size, 9, none⟩ = some (.int .i64 (z.i')) ∧ w'.cell? ⟨c, off, none⟩ = some (.int .i64 (a))) from (by repeat' (first | with_reducible exact Stays.below _ | with_reducible exact Stays.cell _ _ _ | with_reducible exact Stays.size _ | with_reducible refine Stays.and ?_ ?_))) _ _ (Below.refl _ _).drew hX) ?_; intro I W hNe hW hI; (try dsimp only at hW); have HI := Lib.hid hI; clear hI)
    repeat (go_big_quiet_step ((go_at_call 17; refine (iLocalOf z _ _).mono ?_; rw [HA.out]; rintro e w5 ⟨rfl, hbw5⟩; exact ⟨rfl, HI.out _ ((show Stays (fun w' => Below w.heap.size w w' ∧ w'.cell? ⟨w1.heap.size, 0, none⟩ = some (.int .i64 (z.o)) ∧ w'.cell? ⟨w1.heap.size, 1, none⟩ = some (.int .i64 (z.s)) ∧ w'.cell? ⟨w1.heap.size, 2, none⟩ = some (.int .i64 (z.m)) ∧ w'.cell? ⟨w1.heap.size, 3, none⟩ = some (.int .i64 (z.k)) ∧ w'.cell? ⟨w1.heap.size, 4, none⟩ = some (.int .i64 (z.d)) ∧ w'.cell? ⟨w1.heap.size, 5, none⟩ = some (.int .i64 (z.i)) ∧ w'.cell? ⟨w1.heap.size, 6, none⟩ = some (.int .i64 (z.m')) ∧ w'.cell? ⟨w1.heap.size, 7, none⟩ = some (.int .i64 (z.k')) ∧ w'.cell? ⟨w1.heap.size, 8, none⟩ = some (.int .i64 (z.d')) ∧ w'.cell? ⟨w1.heap.size, 9, none⟩ = some (.int .i64 (z.i')) ∧ w'.cell? ⟨c, off, none⟩ = some (.int .i64 (a))) from (by repeat' (first | with_reducible exact Stays.below _ | with_reducible exact Stays.cell _ _ _ | with_reducible exact Stays.size _ | with_reducible refine Stays.and ?_ ?_))) _ _ hbw5 (hW _))⟩)))
    (refine wpQuiet_nil ?_; intro _ hw'; obtain ⟨nq, hw''⟩ := hw'; subst hw''; have hN := hW nq; clear HI; generalize W nq = w9 at *; clear hW)
    have hb := hN.1
    go_wp2_with fail
    rw [rounds_succ]
    (go_wp2_with fail; refine (alive_any _).mono ?_; rintro e wx ⟨rfl, rfl⟩)
    go_wp2
    go_ret
    exact ⟨rfl, (by repeat' (first | with_reducible assumption | with_reducible exact Below.refl _ _ | with_reducible refine Below.setCell ?_ ?_ _ | with_reducible refine Below.alloc ?_ ?_ _ | with_reducible apply Below.drew | with_reducible apply Below.drewn | (simp; done) | (simp; omega)))⟩
  · obtain ⟨p, cap, rfl, l1, l2, l3⟩ := hu
    obtain ⟨c, off, rfl, e2, pc4, e4, e5⟩ := l3 (by simp)
    have c0 : w4.cell? ⟨c, off, none⟩ = some (.int .i64 a) := e4 0 (by simp)
    have c1 : w4.cell? ⟨c, off + 1, none⟩ = some (.int .i64 b) := e4 1 (by simp)
    clear e4 e5 l3
    have HA := Lib.hid ha; have HB := Lib.hid hbb; clear ha hbb
    have ab' : decide (b ≤ a) = false := by simpa using ab
    go_wp2_with fail
    refine wp_loop_rounds 3 ?_
    rw [rounds_succ]
    go_wp2_with fail
    have hX : (fun w' => Below w.heap.size w w' ∧ w'.cell? ⟨w1.heap.size, 0, none⟩ = some (.int .i64 (z.o)) ∧ w'.cell? ⟨w1.heap.size, 1, none⟩ = some (.int .i64 (z.s)) ∧ w'.cell? ⟨w1.heap.size, 2, none⟩ = some (.int .i64 (z.m)) ∧ w'.cell? ⟨w1.heap.size, 3, none⟩ = some (.int .i64 (z.k)) ∧ w'.cell? ⟨w1.heap.size, 4, none⟩ = some (.int .i64 (z.d)) ∧ w'.cell? ⟨w1.heap.size, 5, none⟩ = some (.int .i64 (z.i)) ∧ w'.cell? ⟨w1.heap.size, 6, none⟩ = some (.int .i64 (z.m')) ∧ w'.cell? ⟨w1.heap.size, 7, none⟩ = some (.int .i64 (z.k')) ∧ w'.cell? ⟨w1.heap.size, 8, none⟩ = some (.int .i64 (z.d')) ∧ w'.cell? ⟨w1.heap.size, 9, none⟩ = some (.int .i64 (z.i')) ∧ w'.cell? ⟨c, off, none⟩ = some (.int .i64 (a)) ∧ w'.cell? ⟨c, off + 1, none⟩ = some (.int .i64 (b))) w4 := ⟨hS.1, hS.2.1, hS.2.2.1, hS.2.2.2.1, hS.2.2.2.2.1, hS.2.2.2.2.2.1, hS.2.2.2.2.2.2.1, hS.2.2.2.2.2.2.2.1, hS.2.2.2.2.2.2.2.2.1, hS.2.2.2.2.2.2.2.2.2.1, hS.2.2.2.2.2.2.2.2.2.2, c0, c1⟩
    (refine wp_region_calm ((fun w' => Below w.heap.size w w' ∧ w'.cell? ⟨w1.heap.size, 0, none⟩ = some (.int .i64 (z.o)) ∧ w'.cell? ⟨w1.heap.size, 1, none⟩ = some (.int .i64 (z.s)) ∧ w'.cell? ⟨w1.heap.size, 2, none⟩ = some (.int .i64 (z.m)) ∧ w'.cell? ⟨w1.heap.size, 3, none⟩ = some (.int .i64 (z.k)) ∧ w'.cell? ⟨w1.heap.size, 4, none⟩ = some (.int .i64 (z.d)) ∧ w'.cell? ⟨w1.heap.size, 5, none⟩ = some (.int .i64 (z.i)) ∧ w'.cell? ⟨w1.heap.size, 6, none⟩ = some (.int .i64 (z.m')) ∧ w'.cell? ⟨w1.heap.size, 7, none⟩ = some (.int .i64 (z.k')) ∧ w'.cell? ⟨w1.heap.size, 8, none⟩ = some (.int .i64 (z.d')) ∧ w'.cell? ⟨w1.heap.size, 9, none⟩ = some (.int .i64 (z.i')) ∧ w'.cell? ⟨c, off, none⟩ = some (.int .i64 (a)) ∧ w'.cell? ⟨c, off + 1, none⟩ = some (.int .i64 (b)))) (by kernel_rfl) (by kernel_rfl) ((show Stays (fun w' => Below w.heap.size w w' ∧ w'.cell? ⟨w1.heap.size, 0, none⟩ = some (.int .i64 (z.o)) ∧ w'.cell? ⟨w1.heap.size, 1, none⟩ = some (.int .i64 (z.s)) ∧ w'.cell? ⟨w1.heap.size, 2, none⟩ = some (.int .i64 (z.m)) ∧ w'.cell? ⟨w1.heap.size, 3, none⟩ = some (.int .i64 (z.k)) ∧ w'.cell? ⟨w1.heap.size, 4, none⟩ = some (.int .i64 (z.d)) ∧ w'.cell? ⟨w1.heap.size, 5, none⟩ = some (.int .i64 (z.i)) ∧ w'.cell? ⟨w1.heap.size, 6, none⟩ = some (.int .i64 (z.m')) ∧ w'.cell? ⟨w1.heap.size, 7, none⟩ = some (.int .i64 (z.k')) ∧ w'.cell? ⟨w1.heap.size, 8, none⟩ = some (.int .i64 (z.d')) ∧ w'.cell? ⟨w1.heap.size, 9, none⟩ = some (.int .i64 (z.i')) ∧ w'.cell? ⟨c, off, none⟩ = some (.int .i64 (a)) ∧ w'.cell? ⟨c, off + 1, none⟩ = some (.int .i64 (b))) from (by repeat' (first | with_reducible exact Stays.below _ | with_reducible exact Stays.cell _ _ _ | with_reducible exact Stays.size _ | with_reducible refine Stays.and ?_ ?_))) _ _ (Below.refl _ _).drew hX) ?_; intro I W hNe hW hI; (try dsimp only at hW); have HI := Lib.hid hI; clear hI)
    repeat (go_big_quiet_step ((go_at_call 17; refine (iLocalOf z _ _).mono ?_; rw [HA.out]; rintro e w5 ⟨rfl, hbw5⟩; exact ⟨rfl, HI.out _ ((show Stays (fun w' => Below w.heap.size w w' ∧ w'.cell? ⟨w1.heap.size, 0, none⟩ = some (.int .i64 (z.o)) ∧ w'.cell? ⟨w1.heap.size, 1, none⟩ = some (.int .i64 (z.s)) ∧ w'.cell? ⟨w1.heap.size, 2, none⟩ = some (.int .i64 (z.m)) ∧ w'.cell? ⟨w1.heap.size, 3, none⟩ = some (.int .i64 (z.k)) ∧ w'.cell? ⟨w1.heap.size, 4, none⟩ = some (.int .i64 (z.d)) ∧ w'.cell? ⟨w1.heap.size, 5, none⟩ = some (.int .i64 (z.i)) ∧ w'.cell? ⟨w1.heap.size, 6, none⟩ = some (.int .i64 (z.m')) ∧ w'.cell? ⟨w1.heap.size, 7, none⟩ = some (.int .i64 (z.k')) ∧ w'.cell? ⟨w1.heap.size, 8, none⟩ = some (.int .i64 (z.d')) ∧ w'.cell? ⟨w1.heap.size, 9, none⟩ = some (.int .i64 (z.i')) ∧ w'.cell? ⟨c, off, none⟩ = some (.int .i64 (a)) ∧ w'.cell? ⟨c, off + 1, none⟩ = some (.int .i64 (b))) from (by repeat' (first | with_reducible exact Stays.below _ | with_reducible exact Stays.cell _ _ _ | with_reducible exact Stays.size _ | with_reducible refine Stays.and ?_ ?_))) _ _ hbw5 (hW _))⟩)))
    (refine wpQuiet_nil ?_; intro _ hw'; obtain ⟨nq, hw''⟩ := hw'; subst hw''; have hN := hW nq; clear HI; generalize W nq = w8 at *; clear hW)
    have hX := hN
    clear hN
    go_wp2_with fail
    rw [rounds_succ]
    go_wp2_with fail
    (refine wp_region_calm ((fun w' => Below w.heap.size w w' ∧ w'.cell? ⟨w1.heap.size, 0, none⟩ = some (.int .i64 (z.o)) ∧ w'.cell? ⟨w1.heap.size, 1, none⟩ = some (.int .i64 (z.s)) ∧ w'.cell? ⟨w1.heap.size, 2, none⟩ = some (.int .i64 (z.m)) ∧ w'.cell? ⟨w1.heap.size, 3, none⟩ = some (.int .i64 (z.k)) ∧ w'.cell? ⟨w1.heap.size, 4, none⟩ = some (.int .i64 (z.d)) ∧ w'.cell? ⟨w1.heap.size, 5, none⟩ = some (.int .i64 (z.i)) ∧ w'.cell? ⟨w1.heap.size, 6, none⟩ = some (.int .i64 (z.m')) ∧ w'.cell? ⟨w1.heap.size, 7, none⟩ = some (.int .i64 (z.k')) ∧ w'.cell? ⟨w1.heap.size, 8, none⟩ = some (.int .i64 (z.d')) ∧ w'.cell? ⟨w1.heap.size, 9, none⟩ = some (.int .i64 (z.i')) ∧ w'.cell? ⟨c, off, none⟩ = some (.int .i64 (a)) ∧ w'.cell? ⟨c, off + 1, none⟩ = some (.int .i64 (b)))) (by kernel_rfl) (by kernel_rfl) ((show Stays (fun w' => Below w.heap.size w w' ∧ w'.cell? ⟨w1.heap.size, 0, none⟩ = some (.int .i64 (z.o)) ∧ w'.cell? ⟨w1.heap.size, 1, none⟩ = some (.int .i64 (z.s)) ∧ w'.cell? ⟨w1.heap.size, 2, none⟩ = some (.int .i64 (z.m)) ∧ w'.cell? ⟨w1.heap.size, 3, none⟩ = some (.int .i64 (z.k)) ∧ w'.cell? ⟨w1.heap.size, 4, none⟩ = some (.int .i64 (z.d)) ∧ w'.cell? ⟨w1.heap.size, 5, none⟩ = some (.int .i64 (z.i)) ∧ w'.cell? ⟨w1.heap.size, 6, none⟩ = some (.int .i64 (z.m')) ∧ w'.cell? ⟨w1.heap.size, 7, none⟩ = some (.int .i64 (z.k')) ∧ w'.cell? ⟨w1.heap.size, 8, none⟩ = some (.int .i64 (z.d')) ∧ w'.cell? ⟨w1.heap.size, 9, none⟩ = some (.int .i64 (z.i')) ∧ w'.cell? ⟨c, off, none⟩ = some (.int .i64 (a)) ∧ w'.cell? ⟨c, off + 1, none⟩ = some (.int .i64 (b))) from (by repeat' (first | with_reducible exact Stays.below _ | with_reducible exact Stays.cell _ _ _ | with_reducible exact Stays.size _ | with_reducible refine Stays.and ?_ ?_))) _ _ (Below.refl _ _).drew hX) ?_; intro I W hNe hW hI; (try dsimp only at hW); have HI := Lib.hid hI; clear hI)
    repeat (go_big_quiet_step ((go_at_call 17; refine (iLocalOf z _ _).mono ?_; rw [HB.out]; rintro e w5 ⟨rfl, hbw5⟩; exact ⟨rfl, HI.out _ ((show Stays (fun w' => Below w.heap.size w w' ∧ w'.cell? ⟨w1.heap.size, 0, none⟩ = some (.int .i64 (z.o)) ∧ w'.cell? ⟨w1.heap.size, 1, none⟩ = some (.int .i64 (z.s)) ∧ w'.cell? ⟨w1.heap.size, 2, none⟩ = some (.int .i64 (z.m)) ∧ w'.cell? ⟨w1.heap.size, 3, none⟩ = some (.int .i64 (z.k)) ∧ w'.cell? ⟨w1.heap.size, 4, none⟩ = some (.int .i64 (z.d)) ∧ w'.cell? ⟨w1.heap.size, 5, none⟩ = some (.int .i64 (z.i)) ∧ w'.cell? ⟨w1.heap.size, 6, none⟩ = some (.int .i64 (z.m')) ∧ w'.cell? ⟨w1.heap.size, 7, none⟩ = some (.int .i64 (z.k')) ∧ w'.cell? ⟨w1.heap.size, 8, none⟩ = some (.int .i64 (z.d')) ∧ w'.cell? ⟨w1.heap.size, 9, none⟩ = some (.int .i64 (z.i')) ∧ w'.cell? ⟨c, off, none⟩ = some (.int .i64 (a)) ∧ w'.cell? ⟨c, off + 1, none⟩ = some (.int .i64 (b))) from (by repeat' (first | with_reducible exact Stays.below _ | with_reducible exact Stays.cell _ _ _ | with_reducible exact Stays.size _ | with_reducible refine Stays.and ?_ ?_))) _ _ hbw5 (hW _))⟩)))
    (refine wpQuiet_nil ?_; intro _ hw'; obtain ⟨nq, hw''⟩ := hw'; subst hw''; have hN := hW nq; clear HI; generalize W nq = w9 at *; clear hW)
    have hb := hN.1
    go_wp2_with fail
    rw [rounds_succ]
    (go_wp2_with fail; refine (alive_any _).mono ?_; rintro e wx ⟨rfl, rfl⟩)
    go_wp2
    go_ret
    exact ⟨rfl, (by repeat' (first | with_reducible assumption | with_reducible exact Below.refl _ _ | with_reducible refine Below.setCell ?_ ?_ _ | with_reducible refine Below.alloc ?_ ?_ _ | with_reducible apply Below.drew | with_reducible apply Below.drewn | (simp; done) | (simp; omega)))⟩

theorem own : ownKnob Try.prog.godebug = none := by kernel_rfl
theorem laid : laidOutB Try.prog = true := by kernel_rfl
theorem readable : ∀ t ∈ Try.f4.params.toList, Try.prog.readableRec t = true ∧ t < Try.prog.types.size := by
  have h : (Try.f4.params.toList.all fun t => Try.prog.readableRec t && decide (t < Try.prog.types.size)) = true := by kernel_rfl
  intro t ht
  have := List.all_eq_true.1 h t ht
  simpa using this

set_option maxRecDepth 100000 in
theorem lifted (os : Os) (started : os.Started) (H : Type) (enc : TypeId × Value → H) :
    ReturnsInHanded {} Try.checked os 4 .any (Rows.fnCommonOptionsSpec.pre6 enc Try.prog Try.f4 Rows.fnCommonOptionsRow.domain false) (Rows.fnCommonOptionsSpec.post enc Try.prog Try.f4 false true false false) := by
  refine returnsInHanded_of_change (C := Try.checked) own started (by kernel_rfl) Try.func4
    (ChangeSpec.witness6 (enc := enc) (C := Try.checked) false ⟨#[], #[.slice none 0 0], []⟩ 8 (by kernel_rfl) (by kernel_rfl) (by kernel_rfl) (by kernel_rfl)) ?_
  intro W base args ds gs before hval0 hW hcnd _
  have hval : ∀ (j : Nat) t v, Try.f4.params[j]? = some t → args[j]? = some v → Value.okWide Try.prog W .any base t v := hval0
  have hW' := hW
  obtain ⟨p, q, hA0, hV, rfl, hfz, hnd⟩ := hW
  have hA : DataW.TrodAll enc Try.prog W 0 (fun _ => true) true Try.f4.params.toList args.toList ds p := hA0
  rw [Try.params4] at hA hval
  obtain ⟨v0, vs0, d0, ds0, p0, q0, hargs, rfl, rfl, h0, r0⟩ := trodAll_cons hA
  obtain ⟨rfl, rfl, rfl⟩ := trodAll_nil r0
  obtain rfl : args = #[v0] := by cases args; simp_all
  obtain ⟨rfl, rfl⟩ := trodVars_none hV
  have b0 := Law.bytes_arg Try.underlying22 Try.underlying5 (by kernel_rfl) (hval 0 22 v0 rfl rfl) h0 (fun x hx => hW'.lt x (by simp [hx]))
  clear hA0 hval0
  refine (walk W v0 W.heap.size b0 rfl).mono fun e W' ⟨he, hg⟩ => ?_
  subst he
  exact ⟨_, rfl, Law.law_post laid readable (B := 4) rfl Try.underlying4 rfl hW' rfl hg⟩

theorem over : Rows.fnCommonOptionsRow.holds Try.pinned (OpenSpec.ofChange Rows.fnCommonOptionsSpec) :=
  OpenClaim.holds_of_wide 4 Try.f4 rfl rfl rfl rfl rfl rfl rfl ⟨rfl, rfl, rfl, rfl, rfl⟩ rfl rfl rfl rfl rfl (by kernel_rfl) Try.func4 (by kernel_rfl)
    (of_decide_eq_true (by kernel_rfl)) (by unfold Func.isWrapper; first | (rw [if_pos (by decide +kernel)]; kernel_rfl) | (rw [if_neg (by decide +kernel)]; exact ⟨rfl, rfl⟩))
    (fun os started H enc _ => lifted os started H enc)

theorem proved : Rows.FnCommonOptionsSaid :=
  over
end Go.Proofs.Ytlmmianaplahaaa.fnCommonOptions
