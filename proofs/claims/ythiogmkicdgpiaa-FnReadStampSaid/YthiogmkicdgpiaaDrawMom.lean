/-
  CONTRACTS OF THE MODEL's DRAWS OF STAMPS AND MOMENTS.
-/
import Derived.Test.YthiogmkicdgpiaaDrawDays
import Derived.Test.YthiogmkicdgpiaaOdd
import Derived.Test.YthiogmkicdgpiaaMoms
import Derived.Deep.RegionWith
import Derived.StillTailTactics
set_option linter.unusedVariables false
set_option linter.unusedSimpArgs false
namespace Go.Proofs.Ythiogmkicdgpiaa
open Go.ChangeShapes Go.WideShapes Go.ChangeAt Go.RowKit Law Cal

/-- A stamp was drawn; the reader has moved on. -/
def Stamped (B r K : Nat) (w : World) (e : Ending) (w' : World) : Prop := ∃ y m d h i s : Int, e = .returned (.agg #[.int .i64 (y), .int .i64 (m), .int .i64 (d), .int .i64 (h), .int .i64 (i), .int .i64 (s)]) ∧ (-1 ≤ y ∧ y ≤ 4000) ∧ (-1 ≤ m ∧ m ≤ 100) ∧ (-1 ≤ d ∧ d ≤ 100) ∧ (-1 ≤ h ∧ h ≤ 100) ∧ (-1 ≤ i ∧ i ≤ 100) ∧ (-1 ≤ s ∧ s ≤ 100) ∧ Rd w' B r K ∧ Moved r w w'

theorem sStampOf_some (n : Int) (w : World) :
    Calls Try.prog 39 #[.int .i64 n] w fun e w' => ∃ y m d h i s : Int, e = .returned (.agg #[.int .i64 (y), .int .i64 (m), .int .i64 (d), .int .i64 (h), .int .i64 (i), .int .i64 (s)]) ∧ (0 ≤ y ∧ y ≤ 4000 ∧ 0 ≤ m ∧ m ≤ 12 ∧ 0 ≤ d ∧ d ≤ 31 ∧ 0 ≤ h ∧ h ≤ 23 ∧ 0 ≤ i ∧ i ≤ 59 ∧ 0 ≤ s ∧ s ≤ 59) ∧ Below w.heap.size w w' :=
  (sStampOf n w).mono fun e w' ⟨he, hb⟩ => ⟨_, _, _, _, _, _, he, stamp_bd n, hb⟩

set_option maxHeartbeats 2000000 in
theorem stamp_any (n : Int) (r : Nat) (w : World) (B K : Nat) (h : Rd w B r K) (hK : K < 999990000) (hn : 0 ≤ n ∧ n ≤ 1000) :
    Calls Try.prog 27 #[.pointer (some ⟨r, 0, none⟩), .int .i64 n] w (Stamped B r (K + 20) w) := by
  have hr := h.2.1
  have hr0 := h.2.1
  go_enter Try.func27, Try.ntmps27
  go_wp2_with fail
  refine (day_any _ _ _ _ (by repeat' (first | with_reducible assumption | with_reducible apply Rd.alloc | with_reducible apply Rd.drew | with_reducible refine Rd.store ?_ ?_ _ | omega | (simp; done) | (simp; omega))) (by omega)).mono ?_
  rintro e w1 ⟨q, rfl, q0, q9, hR, hM⟩
  have hA := hM
  have hr := hR.2.1
  go_wp2_with fail
  all_goals
    (refine (pick_pos _ _ _ _ _ (by repeat' (first | with_reducible assumption | with_reducible apply Rd.alloc | with_reducible apply Rd.drew | with_reducible refine Rd.store ?_ ?_ _ | omega | (simp; done) | (simp; omega))) (by omega) (by omega) (by omega)).mono ?_; rintro e wp ⟨a, rfl, a0, a9, hR, hM⟩; have hA := Moved.trans (show Moved r _ _ from (by repeat' (first | with_reducible exact hA | with_reducible apply Moved.alloc | with_reducible apply Moved.drewr | with_reducible refine Moved.store ?_ ?_ _ | with_reducible exact Moved.refl _ _ | omega | (simp; done) | (simp; omega)))) hM; have hr := hR.2.1)
    (go_wp2_with fail; refine (pick_pos _ _ _ _ _ (by repeat' (first | with_reducible assumption | with_reducible apply Rd.alloc | with_reducible apply Rd.drew | with_reducible refine Rd.store ?_ ?_ _ | omega | (simp; done) | (simp; omega))) (by omega) (by omega) (by omega)).mono ?_; rintro e wp ⟨b, rfl, b0, b9, hR, hM⟩; have hA := Moved.trans (show Moved r _ _ from (by repeat' (first | with_reducible exact hA | with_reducible apply Moved.alloc | with_reducible apply Moved.drewr | with_reducible refine Moved.store ?_ ?_ _ | with_reducible exact Moved.refl _ _ | omega | (simp; done) | (simp; omega)))) hM; have hr := hR.2.1)
    (go_wp2_with fail; refine (pick_pos _ _ _ _ _ (by repeat' (first | with_reducible assumption | with_reducible apply Rd.alloc | with_reducible apply Rd.drew | with_reducible refine Rd.store ?_ ?_ _ | omega | (simp; done) | (simp; omega))) (by omega) (by omega) (by omega)).mono ?_; rintro e wp ⟨c, rfl, c0, c9, hR, hM⟩; have hA := Moved.trans (show Moved r _ _ from (by repeat' (first | with_reducible exact hA | with_reducible apply Moved.alloc | with_reducible apply Moved.drewr | with_reducible refine Moved.store ?_ ?_ _ | with_reducible exact Moved.refl _ _ | omega | (simp; done) | (simp; omega)))) hM; have hr := hR.2.1)
    (go_wp2_with fail; refine (pick_pos _ _ _ _ _ (by repeat' (first | with_reducible assumption | with_reducible apply Rd.alloc | with_reducible apply Rd.drew | with_reducible refine Rd.store ?_ ?_ _ | omega | (simp; done) | (simp; omega))) (by omega) (by omega) (by omega)).mono ?_; rintro e wp ⟨d, rfl, d0, d9, hR, hM⟩; have hA := Moved.trans (show Moved r _ _ from (by repeat' (first | with_reducible exact hA | with_reducible apply Moved.alloc | with_reducible apply Moved.drewr | with_reducible refine Moved.store ?_ ?_ _ | with_reducible exact Moved.refl _ _ | omega | (simp; done) | (simp; omega)))) hM; have hr := hR.2.1)
    (obtain ⟨y, y0, y9, hy⟩ := tabB hM (by first | omega | (simp only [World.size_alloc]; omega) | (simp only [World.size_alloc, World.size_setCell]; omega)) 0 60 d rfl (by omega) (by first | (simp [nums]; done) | (simp [nums]; omega)) (by first | (simp [nums, intOf]; done) | (simp [nums, intOf]; omega)); try simp only [World.size_alloc, World.size_setCell] at hy)
    go_wp2_with fail
    refine (sStampOf_some _ _).mono ?_
    rintro e wq ⟨Y, M, D, H, I, S, rfl, hv, hb⟩
    have hR := Rd.below (by repeat' (first | with_reducible assumption | with_reducible apply Rd.alloc | with_reducible apply Rd.drew | with_reducible refine Rd.store ?_ ?_ _ | omega | (simp; done) | (simp; omega))) hb
    have hA := Moved.below (show Moved r _ _ from (by repeat' (first | with_reducible exact hA | with_reducible apply Moved.alloc | with_reducible apply Moved.drewr | with_reducible refine Moved.store ?_ ?_ _ | with_reducible exact Moved.refl _ _ | omega | (simp; done) | (simp; omega)))) hb
    have hr := hR.2.1
    have hrq := hR.2.1
    have hwq := hA.2.2.2.1
    simp only [World.size_alloc] at hwq
    have hne : wq.heap.size ≠ w.heap.size := by omega
    clear hM hy
    go_wp2_with fail
    refine (odd_any _ _ _ _ _ (by repeat' (first | with_reducible assumption | with_reducible apply Rd.alloc | with_reducible apply Rd.drew | with_reducible refine Rd.store ?_ ?_ _ | omega | (simp; done) | (simp; omega))) (by omega) hn).mono ?_
    rintro e wp ⟨c, rfl, hR, hM⟩
    have hA := Moved.trans (show Moved r _ _ from (by repeat' (first | with_reducible exact hA | with_reducible apply Moved.alloc | with_reducible apply Moved.drewr | with_reducible refine Moved.store ?_ ?_ _ | with_reducible exact Moved.refl _ _ | omega | (simp; done) | (simp; omega)))) hM
    have hS := hM
    have hr := hR.2.1
    cases c
    · (have az := moved_new hA hr0; have az0 := az.1 0 _ rfl; have az1 := az.1 1 _ rfl; have az2 := az.1 2 _ rfl; have az3 := az.1 3 _ rfl; have az4 := az.1 4 _ rfl; have az5 := az.1 5 _ rfl; have af := az.2; clear az)
      (have bz := moved_new hS hrq; have bz0 := bz.1 0 _ rfl; have bz1 := bz.1 1 _ rfl; have bz2 := bz.1 2 _ rfl; have bz3 := bz.1 3 _ rfl; have bz4 := bz.1 4 _ rfl; have bz5 := bz.1 5 _ rfl; have bf := bz.2; clear bz)
      have hA := Moved.trans ((Moved.refl r w).alloc _) hA
      go_wp2_with fail
      ((try simp only [Exit.inBlock, Exit.then]); refine bodyPost_ret (v := (.agg #[.int .i64 (_), .int .i64 (_), .int .i64 (_), .int .i64 (_), .int .i64 (_), .int .i64 (_)])) (by simp [results, Try.results27, go_sem, *]; first | exact ⟨rfl, rfl, rfl, rfl, rfl, rfl⟩ | rfl) rfl ?_)
      exact ⟨_, _, _, _, _, _, rfl, by omega, by omega, by omega, by omega, by omega, by omega, Rd.more (K := K + 5 + 1 + 1 + 1 + 1 + 1) (by repeat' (first | with_reducible assumption | with_reducible apply Rd.alloc | with_reducible apply Rd.drew | with_reducible refine Rd.store ?_ ?_ _ | omega | (simp; done) | (simp; omega))) (by omega), (by repeat' (first | with_reducible exact hA | with_reducible apply Moved.alloc | with_reducible apply Moved.drewr | with_reducible refine Moved.store ?_ ?_ _ | with_reducible exact Moved.refl _ _ | omega | (simp; done) | (simp; omega)))⟩
    · (go_wp2_with fail; refine (pick_pos _ _ _ _ _ (by repeat' (first | with_reducible assumption | with_reducible apply Rd.alloc | with_reducible apply Rd.drew | with_reducible refine Rd.store ?_ ?_ _ | omega | (simp; done) | (simp; omega))) (by omega) (by omega) (by omega)).mono ?_; rintro e wp ⟨k, rfl, k0, k9, hR, hM⟩; have hA := Moved.trans (show Moved r _ _ from (by repeat' (first | with_reducible exact hA | with_reducible apply Moved.alloc | with_reducible apply Moved.drewr | with_reducible refine Moved.store ?_ ?_ _ | with_reducible exact Moved.refl _ _ | omega | (simp; done) | (simp; omega)))) hM; have hr := hR.2.1)
      have hS := Moved.trans hS hM
      go_wp2_with fail
      all_goals
        (refine (pick_pos _ _ _ _ _ (by repeat' (first | with_reducible assumption | with_reducible apply Rd.alloc | with_reducible apply Rd.drew | with_reducible refine Rd.store ?_ ?_ _ | omega | (simp; done) | (simp; omega))) (by omega) (by omega) (by omega)).mono ?_; rintro e wp ⟨j, rfl, j0, j9, hR, hM⟩; have hA := Moved.trans (show Moved r _ _ from (by repeat' (first | with_reducible exact hA | with_reducible apply Moved.alloc | with_reducible apply Moved.drewr | with_reducible refine Moved.store ?_ ?_ _ | with_reducible exact Moved.refl _ _ | omega | (simp; done) | (simp; omega)))) hM; have hr := hR.2.1)
        have hM' := hM
        (obtain ⟨x, x0, x9, hy⟩ := tabB hM (by first | omega | (simp only [World.size_alloc]; omega) | (simp only [World.size_alloc, World.size_setCell]; omega)) (-1) 60 j rfl (by omega) (by first | (simp [nums]; done) | (simp [nums]; omega)) (by first | (simp [nums, intOf]; done) | (simp [nums, intOf]; omega)); try simp only [World.size_alloc, World.size_setCell] at hy)
        have hS := Moved.trans (show Moved r _ _ from by repeat' (first | with_reducible exact hS | with_reducible apply Moved.alloc)) hM'
        clear hM hM'
        (have az := moved_new hA hr0; have az0 := az.1 0 _ rfl; have az1 := az.1 1 _ rfl; have az2 := az.1 2 _ rfl; have az3 := az.1 3 _ rfl; have az4 := az.1 4 _ rfl; have az5 := az.1 5 _ rfl; have af := az.2; clear az)
        (have bz := moved_new hS hrq; have bz0 := bz.1 0 _ rfl; have bz1 := bz.1 1 _ rfl; have bz2 := bz.1 2 _ rfl; have bz3 := bz.1 3 _ rfl; have bz4 := bz.1 4 _ rfl; have bz5 := bz.1 5 _ rfl; have bf := bz.2; clear bz)
        (have g6 := (fun p => chain6 p hne az0 az1 az2 az3 az4 az5); have g0 := (fun p v a => (g6 p v a a a a a a).1); have g1 := (fun p v a b => (g6 p v a b b b b b).2.1); have g2 := (fun p v a b c => (g6 p v a b c c c c).2.2.1); have g3 := (fun p v a b c d => (g6 p v a b c d d d).2.2.2.1); have g4 := (fun p v a b c d e => (g6 p v a b c d e e).2.2.2.2.1); have g5 := (fun p v a b c d e f => (g6 p v a b c d e f).2.2.2.2.2); clear g6)
        have hA := Moved.trans ((Moved.refl r w).alloc _) hA
        go_wp2_with fail
        ((try simp only [Exit.inBlock, Exit.then]); refine bodyPost_ret (v := (.agg #[.int .i64 (_), .int .i64 (_), .int .i64 (_), .int .i64 (_), .int .i64 (_), .int .i64 (_)])) (by simp [results, Try.results27, go_sem, *]; first | exact ⟨rfl, rfl, rfl, rfl, rfl, rfl⟩ | rfl) rfl ?_)
        exact ⟨_, _, _, _, _, _, rfl, by omega, by omega, by omega, by omega, by omega, by omega, Rd.more (K := K + 5 + 1 + 1 + 1 + 1 + 1 + 1 + 1) (by repeat' (first | with_reducible assumption | with_reducible apply Rd.alloc | with_reducible apply Rd.drew | with_reducible refine Rd.store ?_ ?_ _ | omega | (simp; done) | (simp; omega))) (by omega), (by repeat' (first | with_reducible exact hA | with_reducible apply Moved.alloc | with_reducible apply Moved.drewr | with_reducible refine Moved.store ?_ ?_ _ | with_reducible exact Moved.refl _ _ | omega | (simp; done) | (simp; omega)))⟩

/-- A draw's answer of a stamp, whatever the code is. -/
def Stamped1 (w : World) (e : Ending) (w' : World) : Prop := ∃ y m d h i s : Int, e = .returned (.agg #[.int .i64 (y), .int .i64 (m), .int .i64 (d), .int .i64 (h), .int .i64 (i), .int .i64 (s)]) ∧ (-1 ≤ y ∧ y ≤ 4000) ∧ (-1 ≤ m ∧ m ≤ 100) ∧ (-1 ≤ d ∧ d ≤ 100) ∧ (-1 ≤ h ∧ h ≤ 100) ∧ (-1 ≤ i ∧ i ≤ 100) ∧ (-1 ≤ s ∧ s ≤ 100) ∧ Below w.heap.size w w'



end Go.Proofs.Ythiogmkicdgpiaa
