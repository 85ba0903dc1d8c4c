/-
  CONTRACTS OF THE MODEL's DRAWS OF RULES.
-/
import Derived.Test.YtkjlgliekmpdiaaDrawDays
import Derived.Test.YtkjlgliekmpdiaaOdd
import Derived.Test.YtkjlgliekmpdiaaRules
import Derived.Test.YtkjlgliekmpdiaaBear
import Derived.Test.YtkjlgliekmpdiaaTab
import Derived.Deep.RegionWith
import Derived.StillTailTactics
set_option linter.unusedVariables false
set_option linter.unusedSimpArgs false
namespace Go.Proofs.Ytkjlgliekmpdiaa
open Go.ChangeShapes Go.WideShapes Go.ChangeAt Go.RowKit Law Cal

/-- A rule was drawn; the reader has moved on. -/
def Ruled (B r K : Nat) (w : World) (e : Ending) (w' : World) : Prop := ∃ m k d i : Int, e = .returned (.agg #[.int .i64 (m), .int .i64 (k), .int .i64 (d), .int .i64 (i)]) ∧ (0 ≤ m ∧ m ≤ 12) ∧ (0 ≤ k ∧ k ≤ 6) ∧ (0 ≤ d ∧ d ≤ 7) ∧ (0 ≤ i ∧ i ≤ 1440) ∧ Rd w' B r K ∧ Moved r w w'

set_option maxHeartbeats 4000000 in
theorem rule_any (n : Int) (r : Nat) (w : World) (B K : Nat) (h : Rd w B r K) (hK : K < 999990000) (hn : 0 ≤ n ∧ n ≤ 1000) :
    Calls Try.prog 23 #[.pointer (some ⟨r, 0, none⟩), .int .i64 n] w (Ruled B r (K + 8) w) := by
  have hr := h.2.1
  have hr0 := h.2.1
  go_enter Try.func23, Try.ntmps23
  (go_wp2_with fail; refine (pick_pos _ _ _ _ _ (by repeat (first | with_reducible assumption | apply Rd.alloc | apply Rd.drew | (refine Rd.store ?_ (by simp; omega) _) | (refine Rd.below ?_ (by with_reducible assumption)))) (by omega) (by omega) (by omega)).mono ?_; rintro e wp ⟨a, rfl, a0, a9, hR, hM⟩; have hr := hR.2.1)
  have hA := hM
  (go_wp2_with fail; refine (pick_pos _ _ _ _ _ (by repeat' (first | with_reducible assumption | with_reducible apply Rd.alloc | with_reducible apply Rd.drew | with_reducible refine Rd.store ?_ ?_ _ | omega | (simp; done) | (simp; omega))) (by omega) (by omega) (by omega)).mono ?_; rintro e wp ⟨b, rfl, b0, b9, hR, hM⟩; have hA := Moved.trans (show Moved r _ _ from (by repeat' (first | with_reducible exact hA | with_reducible apply Moved.alloc | with_reducible apply Moved.drewr | with_reducible refine Moved.store ?_ ?_ _ | with_reducible exact Moved.refl _ _ | omega | (simp; done) | (simp; omega)))) hM; have hr := hR.2.1)
  (go_wp2_with fail; refine (pick_pos _ _ _ _ _ (by repeat' (first | with_reducible assumption | with_reducible apply Rd.alloc | with_reducible apply Rd.drew | with_reducible refine Rd.store ?_ ?_ _ | omega | (simp; done) | (simp; omega))) (by omega) (by omega) (by omega)).mono ?_; rintro e wp ⟨c, rfl, c0, c9, hR, hM⟩; have hA := Moved.trans (show Moved r _ _ from (by repeat' (first | with_reducible exact hA | with_reducible apply Moved.alloc | with_reducible apply Moved.drewr | with_reducible refine Moved.store ?_ ?_ _ | with_reducible exact Moved.refl _ _ | omega | (simp; done) | (simp; omega)))) hM; have hr := hR.2.1)
  (go_wp2_with fail; refine (pick_pos _ _ _ _ _ (by repeat' (first | with_reducible assumption | with_reducible apply Rd.alloc | with_reducible apply Rd.drew | with_reducible refine Rd.store ?_ ?_ _ | omega | (simp; done) | (simp; omega))) (by omega) (by omega) (by omega)).mono ?_; rintro e wp ⟨d, rfl, d0, d9, hR, hM⟩; have hA := Moved.trans (show Moved r _ _ from (by repeat' (first | with_reducible exact hA | with_reducible apply Moved.alloc | with_reducible apply Moved.drewr | with_reducible refine Moved.store ?_ ?_ _ | with_reducible exact Moved.refl _ _ | omega | (simp; done) | (simp; omega)))) hM; have hr := hR.2.1)
  (go_wp2_with fail; refine (pick_pos _ _ _ _ _ (by repeat' (first | with_reducible assumption | with_reducible apply Rd.alloc | with_reducible apply Rd.drew | with_reducible refine Rd.store ?_ ?_ _ | omega | (simp; done) | (simp; omega))) (by omega) (by omega) (by omega)).mono ?_; rintro e wp ⟨q, rfl, q0, q9, hR, hM⟩; have hA := Moved.trans (show Moved r _ _ from (by repeat' (first | with_reducible exact hA | with_reducible apply Moved.alloc | with_reducible apply Moved.drewr | with_reducible refine Moved.store ?_ ?_ _ | with_reducible exact Moved.refl _ _ | omega | (simp; done) | (simp; omega)))) hM; have hr := hR.2.1)
  (obtain ⟨y, y0, y9, hy⟩ := tabB hM (by first | omega | (simp only [World.size_alloc]; omega)) 0 1440 q rfl (by omega) (by first | (simp [nums]; done) | (simp [nums]; omega)) (by first | (simp [nums, intOf]; done) | (simp [nums, intOf]; omega)); try simp only [World.size_alloc] at hy)
  have hrq := hR.2.1
  have hwq := hA.2.2.2.1
  simp only [World.size_alloc] at hwq
  have hne : wp.heap.size ≠ w.heap.size := by omega
  clear hM
  go_wp2_with fail
  refine (odd_any _ _ _ _ _ (by repeat' (first | with_reducible assumption | with_reducible apply Rd.alloc | with_reducible apply Rd.drew | with_reducible refine Rd.store ?_ ?_ _ | omega | (simp; done) | (simp; omega))) (by omega) hn).mono ?_
  rintro e wv ⟨o, rfl, hR, hM⟩
  have hA := Moved.trans (show Moved r _ _ from (by repeat' (first | with_reducible exact hA | with_reducible apply Moved.alloc | with_reducible apply Moved.drewr | with_reducible refine Moved.store ?_ ?_ _ | with_reducible exact Moved.refl _ _ | omega | (simp; done) | (simp; omega)))) hM
  have hS := hM
  have hr := hR.2.1
  cases o
  · (have az := moved_new hA hr0; have az0 := az.1 0 _ rfl; have az1 := az.1 1 _ rfl; have az2 := az.1 2 _ rfl; have az3 := az.1 3 _ rfl; have af := az.2; clear az)
    (have bz := moved_new hS hrq; have bz0 := bz.1 0 _ rfl; have bz1 := bz.1 1 _ rfl; have bz2 := bz.1 2 _ rfl; have bz3 := bz.1 3 _ rfl; have bf := bz.2; clear bz)
    have hA := Moved.trans ((Moved.refl r w).alloc _) hA
    go_wp2_with fail
    ((try simp only [Exit.inBlock, Exit.then]); refine bodyPost_ret (v := (.agg #[.int .i64 (_), .int .i64 (_), .int .i64 (_), .int .i64 (_)])) (by simp [results, Try.results23, go_sem, *]; first | exact ⟨rfl, rfl, rfl, rfl⟩ | rfl) rfl ?_)
    exact ⟨_, _, _, _, rfl, by omega, by omega, by omega, by omega, Rd.more (K := K + 1 + 1 + 1 + 1 + 1 + 1) (by repeat' (first | with_reducible assumption | with_reducible apply Rd.alloc | with_reducible apply Rd.drew | with_reducible refine Rd.store ?_ ?_ _ | omega | (simp; done) | (simp; omega))) (by omega), (by repeat' (first | with_reducible exact hA | with_reducible apply Moved.alloc | with_reducible apply Moved.drewr | with_reducible refine Moved.store ?_ ?_ _ | with_reducible exact Moved.refl _ _ | omega | (simp; done) | (simp; omega)))⟩
  · (go_wp2_with fail; refine (pick_pos _ _ _ _ _ (by repeat' (first | with_reducible assumption | with_reducible apply Rd.alloc | with_reducible apply Rd.drew | with_reducible refine Rd.store ?_ ?_ _ | omega | (simp; done) | (simp; omega))) (by omega) (by omega) (by omega)).mono ?_; rintro e wp ⟨j, rfl, j0, j9, hR, hM⟩; have hA := Moved.trans (show Moved r _ _ from (by repeat' (first | with_reducible exact hA | with_reducible apply Moved.alloc | with_reducible apply Moved.drewr | with_reducible refine Moved.store ?_ ?_ _ | with_reducible exact Moved.refl _ _ | omega | (simp; done) | (simp; omega)))) hM; have hr := hR.2.1)
    have hS := Moved.trans (show Moved r _ _ from by repeat' (first | with_reducible exact hS | with_reducible apply Moved.alloc)) hM
    have tz := (moved_new hM (by omega)).1
    (have az := moved_new hA hr0; have az0 := az.1 0 _ rfl; have az1 := az.1 1 _ rfl; have az2 := az.1 2 _ rfl; have az3 := az.1 3 _ rfl; have af := az.2; clear az)
    (have bz := moved_new hS hrq; have bz0 := bz.1 0 _ rfl; have bz1 := bz.1 1 _ rfl; have bz2 := bz.1 2 _ rfl; have bz3 := bz.1 3 _ rfl; have bf := bz.2; clear bz)
    have hA := Moved.trans ((Moved.refl r w).alloc _) hA
    have SS := same_some
    rcases (show j = 0 ∨ j = 1 ∨ j = 2 ∨ j = 3 ∨ j = 4 ∨ j = 5 by omega) with rfl | rfl | rfl | rfl | rfl | rfl
    · have t0 := tz 0 _ rfl
      have t1 := tz 1 _ rfl
      have t2 := tz 2 _ rfl
      have t3 := tz 3 _ rfl
      clear tz hM
      go_wp2_with fail
      ((try simp only [Exit.inBlock, Exit.then]); refine bodyPost_ret (v := (.agg #[.int .i64 (_), .int .i64 (_), .int .i64 (_), .int .i64 (_)])) (by simp [results, Try.results23, go_sem, *]; first | exact ⟨rfl, rfl, rfl, rfl⟩ | rfl) rfl ?_)
      exact ⟨_, _, _, _, rfl, by omega, by omega, by omega, by omega, Rd.more (K := K + 1 + 1 + 1 + 1 + 1 + 1 + 1) (by repeat' (first | with_reducible assumption | with_reducible apply Rd.alloc | with_reducible apply Rd.drew | with_reducible refine Rd.store ?_ ?_ _ | omega | (simp; done) | (simp; omega))) (by omega), (by repeat' (first | with_reducible exact hA | with_reducible apply Moved.alloc | with_reducible apply Moved.drewr | with_reducible refine Moved.store ?_ ?_ _ | with_reducible exact Moved.refl _ _ | omega | (simp; done) | (simp; omega)))⟩
    · have t0 := tz 4 _ rfl
      have t1 := tz 5 _ rfl
      have t2 := tz 6 _ rfl
      have t3 := tz 7 _ rfl
      clear tz hM
      go_wp2_with fail
      ((try simp only [Exit.inBlock, Exit.then]); refine bodyPost_ret (v := (.agg #[.int .i64 (_), .int .i64 (_), .int .i64 (_), .int .i64 (_)])) (by simp [results, Try.results23, go_sem, *]; first | exact ⟨rfl, rfl, rfl, rfl⟩ | rfl) rfl ?_)
      exact ⟨_, _, _, _, rfl, by omega, by omega, by omega, by omega, Rd.more (K := K + 1 + 1 + 1 + 1 + 1 + 1 + 1) (by repeat' (first | with_reducible assumption | with_reducible apply Rd.alloc | with_reducible apply Rd.drew | with_reducible refine Rd.store ?_ ?_ _ | omega | (simp; done) | (simp; omega))) (by omega), (by repeat' (first | with_reducible exact hA | with_reducible apply Moved.alloc | with_reducible apply Moved.drewr | with_reducible refine Moved.store ?_ ?_ _ | with_reducible exact Moved.refl _ _ | omega | (simp; done) | (simp; omega)))⟩
    · have t0 := tz 8 _ rfl
      have t1 := tz 9 _ rfl
      have t2 := tz 10 _ rfl
      have t3 := tz 11 _ rfl
      clear tz hM
      go_wp2_with fail
      ((try simp only [Exit.inBlock, Exit.then]); refine bodyPost_ret (v := (.agg #[.int .i64 (_), .int .i64 (_), .int .i64 (_), .int .i64 (_)])) (by simp [results, Try.results23, go_sem, *]; first | exact ⟨rfl, rfl, rfl, rfl⟩ | rfl) rfl ?_)
      exact ⟨_, _, _, _, rfl, by omega, by omega, by omega, by omega, Rd.more (K := K + 1 + 1 + 1 + 1 + 1 + 1 + 1) (by repeat' (first | with_reducible assumption | with_reducible apply Rd.alloc | with_reducible apply Rd.drew | with_reducible refine Rd.store ?_ ?_ _ | omega | (simp; done) | (simp; omega))) (by omega), (by repeat' (first | with_reducible exact hA | with_reducible apply Moved.alloc | with_reducible apply Moved.drewr | with_reducible refine Moved.store ?_ ?_ _ | with_reducible exact Moved.refl _ _ | omega | (simp; done) | (simp; omega)))⟩
    · have t0 := tz 12 _ rfl
      have t1 := tz 13 _ rfl
      have t2 := tz 14 _ rfl
      have t3 := tz 15 _ rfl
      clear tz hM
      go_wp2_with fail
      ((try simp only [Exit.inBlock, Exit.then]); refine bodyPost_ret (v := (.agg #[.int .i64 (_), .int .i64 (_), .int .i64 (_), .int .i64 (_)])) (by simp [results, Try.results23, go_sem, *]; first | exact ⟨rfl, rfl, rfl, rfl⟩ | rfl) rfl ?_)
      exact ⟨_, _, _, _, rfl, by omega, by omega, by omega, by omega, Rd.more (K := K + 1 + 1 + 1 + 1 + 1 + 1 + 1) (by repeat' (first | with_reducible assumption | with_reducible apply Rd.alloc | with_reducible apply Rd.drew | with_reducible refine Rd.store ?_ ?_ _ | omega | (simp; done) | (simp; omega))) (by omega), (by repeat' (first | with_reducible exact hA | with_reducible apply Moved.alloc | with_reducible apply Moved.drewr | with_reducible refine Moved.store ?_ ?_ _ | with_reducible exact Moved.refl _ _ | omega | (simp; done) | (simp; omega)))⟩
    · have t0 := tz 16 _ rfl
      have t1 := tz 17 _ rfl
      have t2 := tz 18 _ rfl
      have t3 := tz 19 _ rfl
      clear tz hM
      go_wp2_with fail
      ((try simp only [Exit.inBlock, Exit.then]); refine bodyPost_ret (v := (.agg #[.int .i64 (_), .int .i64 (_), .int .i64 (_), .int .i64 (_)])) (by simp [results, Try.results23, go_sem, *]; first | exact ⟨rfl, rfl, rfl, rfl⟩ | rfl) rfl ?_)
      exact ⟨_, _, _, _, rfl, by omega, by omega, by omega, by omega, Rd.more (K := K + 1 + 1 + 1 + 1 + 1 + 1 + 1) (by repeat' (first | with_reducible assumption | with_reducible apply Rd.alloc | with_reducible apply Rd.drew | with_reducible refine Rd.store ?_ ?_ _ | omega | (simp; done) | (simp; omega))) (by omega), (by repeat' (first | with_reducible exact hA | with_reducible apply Moved.alloc | with_reducible apply Moved.drewr | with_reducible refine Moved.store ?_ ?_ _ | with_reducible exact Moved.refl _ _ | omega | (simp; done) | (simp; omega)))⟩
    · have t0 := tz 20 _ rfl
      have t1 := tz 21 _ rfl
      have t2 := tz 22 _ rfl
      have t3 := tz 23 _ rfl
      clear tz hM
      go_wp2_with fail
      ((try simp only [Exit.inBlock, Exit.then]); refine bodyPost_ret (v := (.agg #[.int .i64 (_), .int .i64 (_), .int .i64 (_), .int .i64 (_)])) (by simp [results, Try.results23, go_sem, *]; first | exact ⟨rfl, rfl, rfl, rfl⟩ | rfl) rfl ?_)
      exact ⟨_, _, _, _, rfl, by omega, by omega, by omega, by omega, Rd.more (K := K + 1 + 1 + 1 + 1 + 1 + 1 + 1) (by repeat' (first | with_reducible assumption | with_reducible apply Rd.alloc | with_reducible apply Rd.drew | with_reducible refine Rd.store ?_ ?_ _ | omega | (simp; done) | (simp; omega))) (by omega), (by repeat' (first | with_reducible exact hA | with_reducible apply Moved.alloc | with_reducible apply Moved.drewr | with_reducible refine Moved.store ?_ ?_ _ | with_reducible exact Moved.refl _ _ | omega | (simp; done) | (simp; omega)))⟩

/-- A draw's answer of a rule, whatever the code is. -/
def Ruled1 (w : World) (e : Ending) (w' : World) : Prop := ∃ m k d i : Int, e = .returned (.agg #[.int .i64 (m), .int .i64 (k), .int .i64 (d), .int .i64 (i)]) ∧ (0 ≤ m ∧ m ≤ 12) ∧ (0 ≤ k ∧ k ≤ 6) ∧ (0 ≤ d ∧ d ≤ 7) ∧ (0 ≤ i ∧ i ≤ 1440) ∧ Below w.heap.size w w'

set_option maxHeartbeats 1000000 in
theorem drawRuleValid (v : Value) (w : World) (B : Nat) (h : BytesAt w B v) (hB : B = w.heap.size) :
    Calls Try.prog 9 #[v] w (Ruled1 w) := by
  go_enter Try.func9, Try.ntmps9
  (have hz0 := hB; go_wp2_with fail; refine (open_rd _ _ _ (by first | with_reducible assumption | exact bytes_alloc h (by omega) _) (by first | omega | (simp; omega))).mono ?_; rintro e w1 ⟨r, rfl, hr0, hR, hb0⟩; have hr := hR.2.1)
  go_wp2_with fail
  refine (rule_any _ _ _ _ _ (by repeat' (first | with_reducible assumption | with_reducible apply Rd.alloc | with_reducible apply Rd.drew | with_reducible refine Rd.store ?_ ?_ _ | omega | (simp; done) | (simp; omega))) (by omega) (by omega)).mono ?_
  rintro e w2 ⟨m, k, d, i, rfl, bm, bk, bd, bi, hR, hM⟩
  (have hB2 := hb0.trans (hM.to_below _ hr0 hb0.size); have az := below_new hB2; have az0 := az.1 0 _ rfl; have az1 := az.1 1 _ rfl; have az2 := az.1 2 _ rfl; have az3 := az.1 3 _ rfl; have af := az.2; clear az; have hbw : Below w.heap.size w w2 := ((Below.refl _ _).alloc (Nat.le_refl _) _).trans (hB2.mono (by simp)); clear hM hb0 hB2; go_wp2_with fail; ((try simp only [Exit.inBlock, Exit.then]); refine bodyPost_ret (v := (.agg #[.int .i64 (_), .int .i64 (_), .int .i64 (_), .int .i64 (_)])) (by simp [results, Try.results9, go_sem, *]; first | exact ⟨rfl, rfl, rfl, rfl⟩ | rfl) rfl ?_))
  exact ⟨m, k, d, i, rfl, bm, bk, bd, bi, (by repeat' (first | with_reducible assumption | with_reducible exact Below.refl _ _ | with_reducible refine Below.setCell ?_ ?_ _ | with_reducible refine Below.alloc ?_ ?_ _ | with_reducible apply Below.drew | with_reducible apply Below.drewn | (simp; done) | (simp; omega)))⟩

def TRuleDay (base r : Nat) (st : Value) : Nat → World → Value → Prop
  | 0, w, v => v = st
  | 1, w, v => v = .pointer (some ⟨r, 0, none⟩)
  | 2, w, v => Reg.IntIn (-10000) 10000 v
  | 4, w, v => Reg.IntIn (-10000) 10000 v
  | _, _, _ => True
theorem TRuleDay_fut {base r : Nat} {st : Value} : ∀ i w w' v, TRuleDay base r st i w v → Reg.Fut base w w' → TRuleDay base r st i w' v := by
  intro i w w' v h f
  unfold TRuleDay at *
  split at h
  all_goals exact h
/-- A draw's answer of a rule and a year, whatever the code is. -/
def Ruled2 (w : World) (e : Ending) (w' : World) : Prop := ∃ m k d i y : Int, e = .returned (.tuple #[(.agg #[.int .i64 (m), .int .i64 (k), .int .i64 (d), .int .i64 (i)]), .int .i64 y]) ∧ (0 ≤ m ∧ m ≤ 12) ∧ (0 ≤ k ∧ k ≤ 6) ∧ (0 ≤ d ∧ d ≤ 7) ∧ (0 ≤ i ∧ i ≤ 1440) ∧ (-10000 ≤ y ∧ y ≤ 10000) ∧ Below w.heap.size w w'

set_option maxHeartbeats 4000000 in
theorem drawRuleDay (v : Value) (w : World) (B : Nat) (h : BytesAt w B v) (hB : B = w.heap.size) :
    Calls Try.prog 13 #[v] w (Ruled2 w) := by
  go_enter Try.func13, Try.ntmps13
  (have hz0 := hB; go_wp2_with fail; refine (open_rd _ _ _ (by first | with_reducible assumption | exact bytes_alloc h (by omega) _) (by first | omega | (simp; omega))).mono ?_; rintro e w1 ⟨r, rfl, hr0, hR, hb0⟩; have hr := hR.2.1)
  go_wp2_with fail
  refine (rule_any _ _ _ _ _ (by repeat' (first | with_reducible assumption | with_reducible apply Rd.alloc | with_reducible apply Rd.drew | with_reducible refine Rd.store ?_ ?_ _ | omega | (simp; done) | (simp; omega))) (by omega) (by omega)).mono ?_
  rintro e w2 ⟨xm, xk, xd, xi, rfl, bm, bk, bd, bi, hR, hM⟩
  have hwr : w.heap.size < r := by have := hr0; simp at this; omega
  have hB2 := hb0.trans (hM.to_below _ hr0 hb0.size)
  have hbw : Below w.heap.size w w2 := ((Below.refl _ _).alloc (Nat.le_refl _) _).trans (hB2.mono (by simp))
  have hout0 := (Has.made w _ _).below hB2
  have hr2 := hR.2.1
  clear hM hb0 hB2
  go_wp2_with fail
  have hsrc := Has.made w2 #[.int .i64 xm, .int .i64 xk, .int .i64 xd, .int .i64 xi] 24
  have hR := hR.alloc (.cells #[.int .i64 xm, .int .i64 xk, .int .i64 xd, .int .i64 xi] 24)
  have hmv := (Reg.Moved.of_below (r := r) hbw).alloc (.cells #[.int .i64 xm, .int .i64 xk, .int .i64 xd, .int .i64 xi] 24)
  have hout : ∃ us : List Value, us.length = 4 ∧ Has (w2.alloc (.cells #[.int .i64 xm, .int .i64 xk, .int .i64 xd, .int .i64 xi] 24)) w.heap.size us := ⟨_, rfl, hout0.alloc _⟩
  have hs2 := hsrc.1
  generalize w2.alloc (.cells #[.int .i64 xm, .int .i64 xk, .int .i64 xd, .int .i64 xi] 24) = wp at *
  generalize w2.heap.size = b at *
  have hbr : b ≠ r := by omega
  have hcr : w.heap.size ≠ r := by omega
  have hcb : w.heap.size ≠ b := by omega
  have hBc : B ≤ w.heap.size := by omega
  have h0c : w.heap.size ≤ w.heap.size := Nat.le_refl _
  have hrb : r < wp.heap.size := by omega
  have hcbase : w.heap.size < wp.heap.size := by omega
  have hwr : w.heap.size ≤ r := by omega
  generalize hbase : wp.heap.size = base at *
  refine Reg.wp_region_typed (by kernel_rfl) (TRuleDay base r ((.agg #[.int .i64 (xm), .int .i64 (xk), .int .i64 (xd), .int .i64 (xi)]))) (Reg.Bear w B r (0 + 8) base b w.heap.size [.int .i64 xm, .int .i64 xk, .int .i64 xd, .int .i64 xi] 3) (Reg.Fut base) TRuleDay_fut (by kernel_rfl) ?_ (Reg.each_op ⟨?_, ?_, ?_, ?_, ?_, trivial⟩) ?_
  · exact ⟨hR.drew, by show base ≤ wp.heap.size; omega, Moved.drewr hmv, hsrc.drew, by obtain ⟨us, e, hu⟩ := hout; exact ⟨us, e, hu.drew⟩, fun h => by simp [Array.getD_eq_getD_getElem?] at h⟩
  · intro l a w' k hi hk hO hA hL hG K hK
    have hk' : k < 5 := hk
    have h5 := hO 5 (Reg.no_dst (by kernel_rfl))
    simp at h5
    have s0 : w'.cell? ⟨b, 0, none⟩ = some (.int .i64 xm) := hG.src.2.1 0 (by simp)
    have s1 : w'.cell? ⟨b, 1, none⟩ = some (.int .i64 xk) := hG.src.2.1 1 (by simp)
    have s2 : w'.cell? ⟨b, 2, none⟩ = some (.int .i64 xd) := hG.src.2.1 2 (by simp)
    have s3 : w'.cell? ⟨b, 3, none⟩ = some (.int .i64 xi) := hG.src.2.1 3 (by simp)
    unfold Oper.wp
    simp [execOp, Act.eval, Oper.upon, h5, s0, s1, s2, s3, go_sem]
    exact hK _ _ (fun _ => rfl) (Reg.Fut.refl _ _) (fun k' h1 h2 => hG.same h1 hi (by omega))
  · intro l a w' k hi hk hO hA hL hG K hK
    have hk' : k < 5 := hk
    have h4 := hO 4 (Reg.no_dst (by kernel_rfl))
    simp at h4
    unfold Oper.wp
    simp [execOp, Act.eval, Oper.upon, h4, go_sem]
    exact hK _ _ (fun _ => rfl) (Reg.Fut.refl _ _) (fun k' h1 h2 => hG.same h1 hi (by omega))
  · intro l a w' k hi hk hO hA hL hG K hK
    have hk' : k < 5 := hk
    have h11 := hA 1 _ 11 rfl (by simp; first | exact rfl | exact .inl rfl) rfl
    simp only [TRuleDay] at h11
    simp only [Array.getD_eq_getD_getElem?] at h11
    unfold Oper.wp
    simp [execOp, Act.eval, Oper.upon, h11, go_sem]
    refine (year_any _ _ _ _ hG.rd (by omega)).mono ?_
    rintro e wz ⟨p, rfl, p0, p9, hR, hM⟩
    exact hK _ _ (fun _ => ⟨p, rfl, by omega, by omega⟩) (Reg.Fut.moved hM hrb) (fun k' h1 h2 => hG.moved h1 hi (by omega) hM (Reg.rd_more hR (by omega)) hbr hcr)
  · intro l a w' k hi hk hO hA hL hG K hK
    have hk' : k < 5 := hk
    have h2 := hO 2 (Reg.no_dst (by kernel_rfl))
    simp at h2
    have h10 := hA 0 _ 10 rfl (by simp; first | exact rfl | exact .inl rfl) rfl
    simp only [TRuleDay] at h10
    simp only [Array.getD_eq_getD_getElem?] at h10
    obtain ⟨us, ul, hu⟩ := hG.out
    have ov := Reg.many_val (n := 4) (by simpa using ul)
    obtain ⟨u0, e0⟩ := ov 0 (by omega)
    obtain ⟨u1, e1⟩ := ov 1 (by omega)
    obtain ⟨u2, e2⟩ := ov 2 (by omega)
    obtain ⟨u3, e3⟩ := ov 3 (by omega)
    have o0 := (hu.2.1 0 (by rw [ul]; simp)).trans e0
    have o1 := (hu.2.1 1 (by rw [ul]; simp)).trans e1
    have o2 := (hu.2.1 2 (by rw [ul]; simp)).trans e2
    have o3 := (hu.2.1 3 (by rw [ul]; simp)).trans e3
    have of := hu.2.2
    unfold Oper.wp
    simp [execOp, Act.eval, Oper.upon, h2, h10, o0, o1, o2, o3, of, go_sem]
    exact hK undef (writes w' w.heap.size 0 [.int .i64 xm, .int .i64 xk, .int .i64 xd, .int .i64 xi]) (fun h => absurd rfl h) (Reg.writes_fut hcbase _ _ _) (fun k' h1 h2 => hG.store h1 hcb hcr hBc h0c hcbase)
  · intro l a w' k hi hk hO hA hL hG K hK
    have hk' : k < 5 := hk
    have h12 := hA 2 _ 12 rfl (by simp; first | exact rfl | exact .inl rfl) rfl
    simp only [TRuleDay] at h12
    simp only [Array.getD_eq_getD_getElem?] at h12
    obtain ⟨x, h12, x0, x9⟩ := h12
    unfold Oper.wp
    simp [execOp, Act.eval, Oper.upon, h12, go_sem]
    exact hK _ _ (fun _ => ⟨x, rfl, x0, x9⟩) (Reg.Fut.refl _ _) (fun k' h1 h2 => hG.same h1 hi (by omega))
  · intro l a w' hK hall
    have h2 := hK.other 2 (Reg.no_dst (by kernel_rfl))
    simp at h2
    have hc := hK.world.done (hall 3 (by decide))
    have c0 : w'.cell? ⟨w.heap.size, 0, none⟩ = some (.int .i64 xm) := hc.2.1 0 (by simp)
    have c1 : w'.cell? ⟨w.heap.size, 1, none⟩ = some (.int .i64 xk) := hc.2.1 1 (by simp)
    have c2 : w'.cell? ⟨w.heap.size, 2, none⟩ = some (.int .i64 xd) := hc.2.1 2 (by simp)
    have c3 : w'.cell? ⟨w.heap.size, 3, none⟩ = some (.int .i64 xi) := hc.2.1 3 (by simp)
    have h3 := hK.val 4 _ 3 rfl (hall 4 (by decide)) rfl
    simp only [TRuleDay] at h3
    simp only [Array.getD_eq_getD_getElem?] at h3
    obtain ⟨z3, h3, z30, z39⟩ := h3
    have hbw := hK.world.mv.to_below w.heap.size hwr (Nat.le_refl _)
    have hdf : a.defers = [] := hK.defers
    clear hK hall hc
    go_wp2
    refine bodyPost_ret (v := .tuple #[(.agg #[.int .i64 (xm), .int .i64 (xk), .int .i64 (xd), .int .i64 (xi)]), .int .i64 z3]) (by simp [results, Try.results13, go_sem, h2, c0, c1, c2, c3, h3]) hdf ?_
    exact ⟨xm, xk, xd, xi, z3, rfl, bm, bk, bd, bi, ⟨by omega, by omega⟩, hbw⟩

set_option maxHeartbeats 1000000 in
theorem drawRuleMoment (v : Value) (w : World) (B : Nat) (h : BytesAt w B v) (hB : B = w.heap.size) :
    Calls Try.prog 19 #[v] w (Ruled2 w) := by
  subst hB
  go_enter Try.func19, Try.ntmps19
  go_wp2_with fail
  refine (drawRuleDay _ _ _ (bytes_next h _) rfl).mono ?_
  rintro e w2 ⟨xm, xk, xd, xi, y, rfl, bm, bk, bd, bi, by1, hb⟩
  (have az := below_new hb; have az0 := az.1 0 _ rfl; have az1 := az.1 1 _ rfl; have az2 := az.1 2 _ rfl; have az3 := az.1 3 _ rfl; have af := az.2; clear az; have hbw : Below w.heap.size w w2 := ((Below.refl _ _).alloc (Nat.le_refl _) _).trans (hb.mono (by simp)); have hz := hbw.size; have SS := same_some)
  go_wp2_with fail
  ((try simp only [Exit.inBlock, Exit.then]); refine bodyPost_ret (v := .tuple #[.agg #[.int .i64 xm, .int .i64 xk, .int .i64 xd, .int .i64 xi], .int .i64 y]) (by simp [results, Try.results19, go_sem, *]; try rfl) rfl ?_)
  exact ⟨xm, xk, xd, xi, y, rfl, bm, bk, bd, bi, by1, (by repeat' (first | with_reducible assumption | with_reducible exact Below.refl _ _ | with_reducible refine Below.setCell ?_ ?_ _ | with_reducible refine Below.alloc ?_ ?_ _ | with_reducible apply Below.drew | with_reducible apply Below.drewn | (simp; done) | (simp; omega)))⟩
end Go.Proofs.Ytkjlgliekmpdiaa
