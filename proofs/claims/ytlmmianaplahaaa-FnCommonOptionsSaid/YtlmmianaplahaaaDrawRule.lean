/-
  CONTRACTS OF THE MODEL's DRAWS OF RULES.
-/
import Derived.Test.YtlmmianaplahaaaDrawDays
import Derived.Test.YtlmmianaplahaaaOdd
import Derived.Test.YtlmmianaplahaaaRules
import Derived.Test.YtlmmianaplahaaaBear
import Derived.Test.YtlmmianaplahaaaTab
import Derived.Deep.RegionWith
import Derived.StillTailTactics
set_option linter.unusedVariables false
set_option linter.unusedSimpArgs false
namespace Go.Proofs.Ytlmmianaplahaaa
open Go.ChangeShapes Go.WideShapes Go.ChangeAt Go.RowKit Law Cal

/-- A rule was drawn; the reader has moved on. -/
def Ruled (B r K : Nat) (w : World) (e : Ending) (w' : World) : Prop := ∃ m k d i : Int, e = .returned (.agg #[.int .i64 (m), .int .i64 (k), .int .i64 (d), .int .i64 (i)]) ∧ (0 ≤ m ∧ m ≤ 12) ∧ (0 ≤ k ∧ k ≤ 6) ∧ (0 ≤ d ∧ d ≤ 7) ∧ (0 ≤ i ∧ i ≤ 1440) ∧ Rd w' B r K ∧ Moved r w w'

set_option maxHeartbeats 4000000 in
theorem rule_any (n : Int) (r : Nat) (w : World) (B K : Nat) (h : Rd w B r K) (hK : K < 999990000) (hn : 0 ≤ n ∧ n ≤ 1000) :
    Calls Try.prog 73 #[.pointer (some ⟨r, 0, none⟩), .int .i64 n] w (Ruled B r (K + 8) w) := by
  have hr := h.2.1
  have hr0 := h.2.1
  go_enter Try.func73, Try.ntmps73
  (go_wp2_with fail; refine (pick_pos _ _ _ _ _ (by repeat (first | with_reducible assumption | apply Rd.alloc | apply Rd.drew | (refine Rd.store ?_ (by simp; omega) _) | (refine Rd.below ?_ (by with_reducible assumption)))) (by omega) (by omega) (by omega)).mono ?_; rintro e wp ⟨a, rfl, a0, a9, hR, hM⟩; have hr := hR.2.1)
  have hA := hM
  (go_wp2_with fail; refine (pick_pos _ _ _ _ _ (by repeat' (first | with_reducible assumption | with_reducible apply Rd.alloc | with_reducible apply Rd.drew | with_reducible refine Rd.store ?_ ?_ _ | omega | (simp; done) | (simp; omega))) (by omega) (by omega) (by omega)).mono ?_; rintro e wp ⟨b, rfl, b0, b9, hR, hM⟩; have hA := Moved.trans (show Moved r _ _ from (by repeat' (first | with_reducible exact hA | with_reducible apply Moved.alloc | with_reducible apply Moved.drewr | with_reducible refine Moved.store ?_ ?_ _ | with_reducible exact Moved.refl _ _ | omega | (simp; done) | (simp; omega)))) hM; have hr := hR.2.1)
  (go_wp2_with fail; refine (pick_pos _ _ _ _ _ (by repeat' (first | with_reducible assumption | with_reducible apply Rd.alloc | with_reducible apply Rd.drew | with_reducible refine Rd.store ?_ ?_ _ | omega | (simp; done) | (simp; omega))) (by omega) (by omega) (by omega)).mono ?_; rintro e wp ⟨c, rfl, c0, c9, hR, hM⟩; have hA := Moved.trans (show Moved r _ _ from (by repeat' (first | with_reducible exact hA | with_reducible apply Moved.alloc | with_reducible apply Moved.drewr | with_reducible refine Moved.store ?_ ?_ _ | with_reducible exact Moved.refl _ _ | omega | (simp; done) | (simp; omega)))) hM; have hr := hR.2.1)
  (go_wp2_with fail; refine (pick_pos _ _ _ _ _ (by repeat' (first | with_reducible assumption | with_reducible apply Rd.alloc | with_reducible apply Rd.drew | with_reducible refine Rd.store ?_ ?_ _ | omega | (simp; done) | (simp; omega))) (by omega) (by omega) (by omega)).mono ?_; rintro e wp ⟨d, rfl, d0, d9, hR, hM⟩; have hA := Moved.trans (show Moved r _ _ from (by repeat' (first | with_reducible exact hA | with_reducible apply Moved.alloc | with_reducible apply Moved.drewr | with_reducible refine Moved.store ?_ ?_ _ | with_reducible exact Moved.refl _ _ | omega | (simp; done) | (simp; omega)))) hM; have hr := hR.2.1)
  (go_wp2_with fail; refine (pick_pos _ _ _ _ _ (by repeat' (first | with_reducible assumption | with_reducible apply Rd.alloc | with_reducible apply Rd.drew | with_reducible refine Rd.store ?_ ?_ _ | omega | (simp; done) | (simp; omega))) (by omega) (by omega) (by omega)).mono ?_; rintro e wp ⟨q, rfl, q0, q9, hR, hM⟩; have hA := Moved.trans (show Moved r _ _ from (by repeat' (first | with_reducible exact hA | with_reducible apply Moved.alloc | with_reducible apply Moved.drewr | with_reducible refine Moved.store ?_ ?_ _ | with_reducible exact Moved.refl _ _ | omega | (simp; done) | (simp; omega)))) hM; have hr := hR.2.1)
  (obtain ⟨y, y0, y9, hy⟩ := tabB hM (by first | omega | (simp only [World.size_alloc]; omega) | (simp only [World.size_alloc, World.size_setCell]; omega)) 0 1440 q rfl (by omega) (by first | (simp [nums]; done) | (simp [nums]; omega)) (by first | (simp [nums, intOf]; done) | (simp [nums, intOf]; omega)); try simp only [World.size_alloc, World.size_setCell] at hy)
  have hrq := hR.2.1
  have hwq := hA.2.2.2.1
  simp only [World.size_alloc] at hwq
  have hne : wp.heap.size ≠ w.heap.size := by omega
  clear hM
  go_wp2_with fail
  refine (odd_any _ _ _ _ _ (by repeat' (first | with_reducible assumption | with_reducible apply Rd.alloc | with_reducible apply Rd.drew | with_reducible refine Rd.store ?_ ?_ _ | omega | (simp; done) | (simp; omega))) (by omega) hn).mono ?_
  rintro e wv ⟨o, rfl, hR, hM⟩
  have hA := Moved.trans (show Moved r _ _ from (by repeat' (first | with_reducible exact hA | with_reducible apply Moved.alloc | with_reducible apply Moved.drewr | with_reducible refine Moved.store ?_ ?_ _ | with_reducible exact Moved.refl _ _ | omega | (simp; done) | (simp; omega)))) hM
  have hS := hM
  have hr := hR.2.1
  cases o
  · (have az := moved_new hA hr0; have az0 := az.1 0 _ rfl; have az1 := az.1 1 _ rfl; have az2 := az.1 2 _ rfl; have az3 := az.1 3 _ rfl; have af := az.2; clear az)
    (have bz := moved_new hS hrq; have bz0 := bz.1 0 _ rfl; have bz1 := bz.1 1 _ rfl; have bz2 := bz.1 2 _ rfl; have bz3 := bz.1 3 _ rfl; have bf := bz.2; clear bz)
    have hA := Moved.trans ((Moved.refl r w).alloc _) hA
    go_wp2_with fail
    ((try simp only [Exit.inBlock, Exit.then]); refine bodyPost_ret (v := (.agg #[.int .i64 (_), .int .i64 (_), .int .i64 (_), .int .i64 (_)])) (by simp [results, Try.results73, go_sem, *]; first | exact ⟨rfl, rfl, rfl, rfl⟩ | rfl) rfl ?_)
    exact ⟨_, _, _, _, rfl, by omega, by omega, by omega, by omega, Rd.more (K := K + 1 + 1 + 1 + 1 + 1 + 1) (by repeat' (first | with_reducible assumption | with_reducible apply Rd.alloc | with_reducible apply Rd.drew | with_reducible refine Rd.store ?_ ?_ _ | omega | (simp; done) | (simp; omega))) (by omega), (by repeat' (first | with_reducible exact hA | with_reducible apply Moved.alloc | with_reducible apply Moved.drewr | with_reducible refine Moved.store ?_ ?_ _ | with_reducible exact Moved.refl _ _ | omega | (simp; done) | (simp; omega)))⟩
  · (go_wp2_with fail; refine (pick_pos _ _ _ _ _ (by repeat' (first | with_reducible assumption | with_reducible apply Rd.alloc | with_reducible apply Rd.drew | with_reducible refine Rd.store ?_ ?_ _ | omega | (simp; done) | (simp; omega))) (by omega) (by omega) (by omega)).mono ?_; rintro e wp ⟨j, rfl, j0, j9, hR, hM⟩; have hA := Moved.trans (show Moved r _ _ from (by repeat' (first | with_reducible exact hA | with_reducible apply Moved.alloc | with_reducible apply Moved.drewr | with_reducible refine Moved.store ?_ ?_ _ | with_reducible exact Moved.refl _ _ | omega | (simp; done) | (simp; omega)))) hM; have hr := hR.2.1)
    have hS := Moved.trans (show Moved r _ _ from by repeat' (first | with_reducible exact hS | with_reducible apply Moved.alloc)) hM
    have tz := (moved_new hM (by omega)).1
    (have az := moved_new hA hr0; have az0 := az.1 0 _ rfl; have az1 := az.1 1 _ rfl; have az2 := az.1 2 _ rfl; have az3 := az.1 3 _ rfl; have af := az.2; clear az)
    (have bz := moved_new hS hrq; have bz0 := bz.1 0 _ rfl; have bz1 := bz.1 1 _ rfl; have bz2 := bz.1 2 _ rfl; have bz3 := bz.1 3 _ rfl; have bf := bz.2; clear bz)
    have hA := Moved.trans ((Moved.refl r w).alloc _) hA
    have SS := same_some
    rcases (show j = 0 ∨ j = 1 ∨ j = 2 ∨ j = 3 ∨ j = 4 ∨ j = 5 by omega) with rfl | rfl | rfl | rfl | rfl | rfl
    · have t0 := tz 0 _ rfl
      have t1 := tz 1 _ rfl
      have t2 := tz 2 _ rfl
      have t3 := tz 3 _ rfl
      clear tz hM
      go_wp2_with fail
      ((try simp only [Exit.inBlock, Exit.then]); refine bodyPost_ret (v := (.agg #[.int .i64 (_), .int .i64 (_), .int .i64 (_), .int .i64 (_)])) (by simp [results, Try.results73, go_sem, *]; first | exact ⟨rfl, rfl, rfl, rfl⟩ | rfl) rfl ?_)
      exact ⟨_, _, _, _, rfl, by omega, by omega, by omega, by omega, Rd.more (K := K + 1 + 1 + 1 + 1 + 1 + 1 + 1) (by repeat' (first | with_reducible assumption | with_reducible apply Rd.alloc | with_reducible apply Rd.drew | with_reducible refine Rd.store ?_ ?_ _ | omega | (simp; done) | (simp; omega))) (by omega), (by repeat' (first | with_reducible exact hA | with_reducible apply Moved.alloc | with_reducible apply Moved.drewr | with_reducible refine Moved.store ?_ ?_ _ | with_reducible exact Moved.refl _ _ | omega | (simp; done) | (simp; omega)))⟩
    · have t0 := tz 4 _ rfl
      have t1 := tz 5 _ rfl
      have t2 := tz 6 _ rfl
      have t3 := tz 7 _ rfl
      clear tz hM
      go_wp2_with fail
      ((try simp only [Exit.inBlock, Exit.then]); refine bodyPost_ret (v := (.agg #[.int .i64 (_), .int .i64 (_), .int .i64 (_), .int .i64 (_)])) (by simp [results, Try.results73, go_sem, *]; first | exact ⟨rfl, rfl, rfl, rfl⟩ | rfl) rfl ?_)
      exact ⟨_, _, _, _, rfl, by omega, by omega, by omega, by omega, Rd.more (K := K + 1 + 1 + 1 + 1 + 1 + 1 + 1) (by repeat' (first | with_reducible assumption | with_reducible apply Rd.alloc | with_reducible apply Rd.drew | with_reducible refine Rd.store ?_ ?_ _ | omega | (simp; done) | (simp; omega))) (by omega), (by repeat' (first | with_reducible exact hA | with_reducible apply Moved.alloc | with_reducible apply Moved.drewr | with_reducible refine Moved.store ?_ ?_ _ | with_reducible exact Moved.refl _ _ | omega | (simp; done) | (simp; omega)))⟩
    · have t0 := tz 8 _ rfl
      have t1 := tz 9 _ rfl
      have t2 := tz 10 _ rfl
      have t3 := tz 11 _ rfl
      clear tz hM
      go_wp2_with fail
      ((try simp only [Exit.inBlock, Exit.then]); refine bodyPost_ret (v := (.agg #[.int .i64 (_), .int .i64 (_), .int .i64 (_), .int .i64 (_)])) (by simp [results, Try.results73, go_sem, *]; first | exact ⟨rfl, rfl, rfl, rfl⟩ | rfl) rfl ?_)
      exact ⟨_, _, _, _, rfl, by omega, by omega, by omega, by omega, Rd.more (K := K + 1 + 1 + 1 + 1 + 1 + 1 + 1) (by repeat' (first | with_reducible assumption | with_reducible apply Rd.alloc | with_reducible apply Rd.drew | with_reducible refine Rd.store ?_ ?_ _ | omega | (simp; done) | (simp; omega))) (by omega), (by repeat' (first | with_reducible exact hA | with_reducible apply Moved.alloc | with_reducible apply Moved.drewr | with_reducible refine Moved.store ?_ ?_ _ | with_reducible exact Moved.refl _ _ | omega | (simp; done) | (simp; omega)))⟩
    · have t0 := tz 12 _ rfl
      have t1 := tz 13 _ rfl
      have t2 := tz 14 _ rfl
      have t3 := tz 15 _ rfl
      clear tz hM
      go_wp2_with fail
      ((try simp only [Exit.inBlock, Exit.then]); refine bodyPost_ret (v := (.agg #[.int .i64 (_), .int .i64 (_), .int .i64 (_), .int .i64 (_)])) (by simp [results, Try.results73, go_sem, *]; first | exact ⟨rfl, rfl, rfl, rfl⟩ | rfl) rfl ?_)
      exact ⟨_, _, _, _, rfl, by omega, by omega, by omega, by omega, Rd.more (K := K + 1 + 1 + 1 + 1 + 1 + 1 + 1) (by repeat' (first | with_reducible assumption | with_reducible apply Rd.alloc | with_reducible apply Rd.drew | with_reducible refine Rd.store ?_ ?_ _ | omega | (simp; done) | (simp; omega))) (by omega), (by repeat' (first | with_reducible exact hA | with_reducible apply Moved.alloc | with_reducible apply Moved.drewr | with_reducible refine Moved.store ?_ ?_ _ | with_reducible exact Moved.refl _ _ | omega | (simp; done) | (simp; omega)))⟩
    · have t0 := tz 16 _ rfl
      have t1 := tz 17 _ rfl
      have t2 := tz 18 _ rfl
      have t3 := tz 19 _ rfl
      clear tz hM
      go_wp2_with fail
      ((try simp only [Exit.inBlock, Exit.then]); refine bodyPost_ret (v := (.agg #[.int .i64 (_), .int .i64 (_), .int .i64 (_), .int .i64 (_)])) (by simp [results, Try.results73, go_sem, *]; first | exact ⟨rfl, rfl, rfl, rfl⟩ | rfl) rfl ?_)
      exact ⟨_, _, _, _, rfl, by omega, by omega, by omega, by omega, Rd.more (K := K + 1 + 1 + 1 + 1 + 1 + 1 + 1) (by repeat' (first | with_reducible assumption | with_reducible apply Rd.alloc | with_reducible apply Rd.drew | with_reducible refine Rd.store ?_ ?_ _ | omega | (simp; done) | (simp; omega))) (by omega), (by repeat' (first | with_reducible exact hA | with_reducible apply Moved.alloc | with_reducible apply Moved.drewr | with_reducible refine Moved.store ?_ ?_ _ | with_reducible exact Moved.refl _ _ | omega | (simp; done) | (simp; omega)))⟩
    · have t0 := tz 20 _ rfl
      have t1 := tz 21 _ rfl
      have t2 := tz 22 _ rfl
      have t3 := tz 23 _ rfl
      clear tz hM
      go_wp2_with fail
      ((try simp only [Exit.inBlock, Exit.then]); refine bodyPost_ret (v := (.agg #[.int .i64 (_), .int .i64 (_), .int .i64 (_), .int .i64 (_)])) (by simp [results, Try.results73, go_sem, *]; first | exact ⟨rfl, rfl, rfl, rfl⟩ | rfl) rfl ?_)
      exact ⟨_, _, _, _, rfl, by omega, by omega, by omega, by omega, Rd.more (K := K + 1 + 1 + 1 + 1 + 1 + 1 + 1) (by repeat' (first | with_reducible assumption | with_reducible apply Rd.alloc | with_reducible apply Rd.drew | with_reducible refine Rd.store ?_ ?_ _ | omega | (simp; done) | (simp; omega))) (by omega), (by repeat' (first | with_reducible exact hA | with_reducible apply Moved.alloc | with_reducible apply Moved.drewr | with_reducible refine Moved.store ?_ ?_ _ | with_reducible exact Moved.refl _ _ | omega | (simp; done) | (simp; omega)))⟩

/-- A draw's answer of a rule, whatever the code is. -/
def Ruled1 (w : World) (e : Ending) (w' : World) : Prop := ∃ m k d i : Int, e = .returned (.agg #[.int .i64 (m), .int .i64 (k), .int .i64 (d), .int .i64 (i)]) ∧ (0 ≤ m ∧ m ≤ 12) ∧ (0 ≤ k ∧ k ≤ 6) ∧ (0 ≤ d ∧ d ≤ 7) ∧ (0 ≤ i ∧ i ≤ 1440) ∧ Below w.heap.size w w'



end Go.Proofs.Ytlmmianaplahaaa
