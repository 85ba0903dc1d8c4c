/-
  CONTRACTS OF THE MODEL's DRAWS OF STAMPS AND MOMENTS.
-/
import Derived.Test.YtanmefigoddioaaDrawDays
import Derived.Test.YtanmefigoddioaaMoms
import Derived.Deep.RegionWith
import Derived.StillTailTactics
set_option linter.unusedVariables false
set_option linter.unusedSimpArgs false
namespace Go.Proofs.Ytanmefigoddioaa
open Go.ChangeShapes Go.WideShapes Go.ChangeAt Go.RowKit Law Cal

/-- A stamp was drawn; the reader has moved on. -/
def Stamped (B r K : Nat) (w : World) (e : Ending) (w' : World) : Prop := ∃ y m d h i s : Int, e = .returned (.agg #[.int .i64 (y), .int .i64 (m), .int .i64 (d), .int .i64 (h), .int .i64 (i), .int .i64 (s)]) ∧ (-1 ≤ y ∧ y ≤ 4000) ∧ (-1 ≤ m ∧ m ≤ 100) ∧ (-1 ≤ d ∧ d ≤ 100) ∧ (-1 ≤ h ∧ h ≤ 100) ∧ (-1 ≤ i ∧ i ≤ 100) ∧ (-1 ≤ s ∧ s ≤ 100) ∧ Rd w' B r K ∧ Moved r w w'

theorem Rd.more {w : World} {B r K K' : Nat} (h : Rd w B r K) (k : K ≤ K') : Rd w B r K' := ⟨h.1, h.2.1, h.2.2.1, by obtain ⟨c, c1, c2⟩ := h.2.2.2.1; exact ⟨c, by omega, c2⟩, h.2.2.2.2⟩

theorem sStampOf_some (n : Int) (w : World) :
    Calls Try.prog 23 #[.int .i64 n] w fun e w' => ∃ y m d h i s : Int, e = .returned (.agg #[.int .i64 (y), .int .i64 (m), .int .i64 (d), .int .i64 (h), .int .i64 (i), .int .i64 (s)]) ∧ (0 ≤ y ∧ y ≤ 4000 ∧ 0 ≤ m ∧ m ≤ 12 ∧ 0 ≤ d ∧ d ≤ 31 ∧ 0 ≤ h ∧ h ≤ 23 ∧ 0 ≤ i ∧ i ≤ 59 ∧ 0 ≤ s ∧ s ≤ 59) ∧ Below w.heap.size w w' :=
  (sStampOf n w).mono fun e w' ⟨he, hb⟩ => ⟨_, _, _, _, _, _, he, stamp_bd n, hb⟩

/-- A block that was made last ahead of what moved on. -/
theorem moved_new {r : Nat} {W wp : World} {cs : Array Value} {T : TypeId} (hM : Moved r (W.alloc (.cells cs T)) wp) (hr : r < W.heap.size) : (∀ o v, cs[o]? = some v → wp.cell? ⟨W.heap.size, o, none⟩ = some v) ∧ (∀ o, wp.frozen? ⟨W.heap.size, o, none⟩ = false) := by
  obtain ⟨hC, hF⟩ := hM.cell
  exact ⟨fun o v h => (hC _ _ (by simp) (by omega)).trans ((World.cell?_alloc_new _ _ _ _).trans h), fun o => (hF _ _ (by simp) (by omega)).trans (by go_simp)⟩

theorem sMomentOf_some (y m d h i s : Int) (w : World) :
    Calls Try.prog 14 #[(.agg #[.int .i64 (y), .int .i64 (m), .int .i64 (d), .int .i64 (h), .int .i64 (i), .int .i64 (s)])] w fun e w' => ∃ n : Int, e = .returned (.int .i64 n) ∧ -1 ≤ n ∧ n ≤ 126227807999 ∧ Below w.heap.size w w' :=
  (sMomentOf y m d h i s w).mono fun e w' ⟨he, hb⟩ => ⟨_, he, (mom_bd y m d h i s).1, (mom_bd y m d h i s).2, hb⟩

/-- A choice was drawn; the reader has moved on. -/
def Odd (B r K : Nat) (w : World) (e : Ending) (w' : World) : Prop := ∃ b : Bool, e = .returned (.bool b) ∧ Rd w' B r K ∧ Moved r w w'

theorem odd_any (n : Int) (r : Nat) (w : World) (B K : Nat) (h : Rd w B r K) (hK : K < 999999000) (hn : 0 ≤ n ∧ n ≤ 1000) :
    Calls Try.prog 42 #[.pointer (some ⟨r, 0, none⟩), .int .i64 n] w (Odd B r (K + 1) w) := by
  have hr := h.2.1
  by_cases c : 0 < n
  · go_enter Try.func42, Try.ntmps42
    (go_wp2_with fail; refine (pick_pos _ _ _ _ _ (by repeat (first | with_reducible assumption | apply Rd.alloc | apply Rd.drew | (refine Rd.store ?_ (by simp; omega) _) | (refine Rd.below ?_ (by with_reducible assumption)))) (by omega) (by omega) (by omega)).mono ?_; rintro e wp ⟨a, rfl, a0, a9, hR, hM⟩; have hr := hR.2.1)
    go_wp2
    go_ret
    exact ⟨_, rfl, (by repeat (first | with_reducible assumption | apply Rd.alloc | apply Rd.drew | (refine Rd.store ?_ (by simp; omega) _) | (refine Rd.below ?_ (by with_reducible assumption)))), (by repeat (first | with_reducible assumption | exact Moved.refl _ _ | apply Moved.alloc | (refine Moved.store ?_ (by simp; omega) _) | (refine Moved.trans ?_ (by with_reducible assumption)) | (refine Moved.below ?_ (by with_reducible assumption))))⟩
  · have c' : decide (0 < n) = false := by simpa using c
    go_enter Try.func42, Try.ntmps42
    go_wp2
    go_ret
    exact ⟨_, rfl, ⟨h.1, h.2.1, h.2.2.1, by obtain ⟨k, k1, k2⟩ := h.2.2.2.1; exact ⟨k, by omega, k2⟩, h.2.2.2.2⟩, Moved.refl _ _⟩

set_option maxHeartbeats 2000000 in
theorem stamp_any (n : Int) (r : Nat) (w : World) (B K : Nat) (h : Rd w B r K) (hK : K < 999990000) (hn : 0 ≤ n ∧ n ≤ 1000) :
    Calls Try.prog 27 #[.pointer (some ⟨r, 0, none⟩), .int .i64 n] w (Stamped B r (K + 20) w) := by
  have hr := h.2.1
  have hr0 := h.2.1
  go_enter Try.func27, Try.ntmps27
  go_wp2_with fail
  refine (day_any _ _ _ _ (by repeat' (first | with_reducible assumption | with_reducible apply Rd.alloc | with_reducible apply Rd.drew | with_reducible refine Rd.store ?_ ?_ _ | omega | (simp; done) | (simp; omega))) (by omega)).mono ?_
  rintro e w1 ⟨q, rfl, q0, q9, hR, hM⟩
  have hA := hM
  have hr := hR.2.1
  go_wp2_with fail
  all_goals
    (refine (pick_pos _ _ _ _ _ (by repeat' (first | with_reducible assumption | with_reducible apply Rd.alloc | with_reducible apply Rd.drew | with_reducible refine Rd.store ?_ ?_ _ | omega | (simp; done) | (simp; omega))) (by omega) (by omega) (by omega)).mono ?_; rintro e wp ⟨a, rfl, a0, a9, hR, hM⟩; have hA := Moved.trans (show Moved r _ _ from (by repeat' (first | with_reducible exact hA | with_reducible apply Moved.alloc | with_reducible apply Moved.drewr | with_reducible refine Moved.store ?_ ?_ _ | with_reducible exact Moved.refl _ _ | omega | (simp; done) | (simp; omega)))) hM; have hr := hR.2.1)
    (go_wp2_with fail; refine (pick_pos _ _ _ _ _ (by repeat' (first | with_reducible assumption | with_reducible apply Rd.alloc | with_reducible apply Rd.drew | with_reducible refine Rd.store ?_ ?_ _ | omega | (simp; done) | (simp; omega))) (by omega) (by omega) (by omega)).mono ?_; rintro e wp ⟨b, rfl, b0, b9, hR, hM⟩; have hA := Moved.trans (show Moved r _ _ from (by repeat' (first | with_reducible exact hA | with_reducible apply Moved.alloc | with_reducible apply Moved.drewr | with_reducible refine Moved.store ?_ ?_ _ | with_reducible exact Moved.refl _ _ | omega | (simp; done) | (simp; omega)))) hM; have hr := hR.2.1)
    (go_wp2_with fail; refine (pick_pos _ _ _ _ _ (by repeat' (first | with_reducible assumption | with_reducible apply Rd.alloc | with_reducible apply Rd.drew | with_reducible refine Rd.store ?_ ?_ _ | omega | (simp; done) | (simp; omega))) (by omega) (by omega) (by omega)).mono ?_; rintro e wp ⟨c, rfl, c0, c9, hR, hM⟩; have hA := Moved.trans (show Moved r _ _ from (by repeat' (first | with_reducible exact hA | with_reducible apply Moved.alloc | with_reducible apply Moved.drewr | with_reducible refine Moved.store ?_ ?_ _ | with_reducible exact Moved.refl _ _ | omega | (simp; done) | (simp; omega)))) hM; have hr := hR.2.1)
    (go_wp2_with fail; refine (pick_pos _ _ _ _ _ (by repeat' (first | with_reducible assumption | with_reducible apply Rd.alloc | with_reducible apply Rd.drew | with_reducible refine Rd.store ?_ ?_ _ | omega | (simp; done) | (simp; omega))) (by omega) (by omega) (by omega)).mono ?_; rintro e wp ⟨d, rfl, d0, d9, hR, hM⟩; have hA := Moved.trans (show Moved r _ _ from (by repeat' (first | with_reducible exact hA | with_reducible apply Moved.alloc | with_reducible apply Moved.drewr | with_reducible refine Moved.store ?_ ?_ _ | with_reducible exact Moved.refl _ _ | omega | (simp; done) | (simp; omega)))) hM; have hr := hR.2.1)
    (obtain ⟨y, y0, y9, hy⟩ := tabB hM (by first | omega | (simp only [World.size_alloc]; omega)) 0 60 d rfl (by omega) (by first | (simp [nums]; done) | (simp [nums]; omega)) (by first | (simp [nums, intOf]; done) | (simp [nums, intOf]; omega)); try simp only [World.size_alloc] at hy)
    go_wp2_with fail
    refine (sStampOf_some _ _).mono ?_
    rintro e wq ⟨Y, M, D, H, I, S, rfl, hv, hb⟩
    have hR := Rd.below (by repeat' (first | with_reducible assumption | with_reducible apply Rd.alloc | with_reducible apply Rd.drew | with_reducible refine Rd.store ?_ ?_ _ | omega | (simp; done) | (simp; omega))) hb
    have hA := Moved.below (show Moved r _ _ from (by repeat' (first | with_reducible exact hA | with_reducible apply Moved.alloc | with_reducible apply Moved.drewr | with_reducible refine Moved.store ?_ ?_ _ | with_reducible exact Moved.refl _ _ | omega | (simp; done) | (simp; omega)))) hb
    have hr := hR.2.1
    have hrq := hR.2.1
    have hwq := hA.2.2.2.1
    simp only [World.size_alloc] at hwq
    have hne : wq.heap.size ≠ w.heap.size := by omega
    clear hM hy
    go_wp2_with fail
    refine (odd_any _ _ _ _ _ (by repeat' (first | with_reducible assumption | with_reducible apply Rd.alloc | with_reducible apply Rd.drew | with_reducible refine Rd.store ?_ ?_ _ | omega | (simp; done) | (simp; omega))) (by omega) hn).mono ?_
    rintro e wp ⟨c, rfl, hR, hM⟩
    have hA := Moved.trans (show Moved r _ _ from (by repeat' (first | with_reducible exact hA | with_reducible apply Moved.alloc | with_reducible apply Moved.drewr | with_reducible refine Moved.store ?_ ?_ _ | with_reducible exact Moved.refl _ _ | omega | (simp; done) | (simp; omega)))) hM
    have hS := hM
    have hr := hR.2.1
    cases c
    · (have az := moved_new hA hr0; have az0 := az.1 0 _ rfl; have az1 := az.1 1 _ rfl; have az2 := az.1 2 _ rfl; have az3 := az.1 3 _ rfl; have az4 := az.1 4 _ rfl; have az5 := az.1 5 _ rfl; have af := az.2; clear az)
      (have bz := moved_new hS hrq; have bz0 := bz.1 0 _ rfl; have bz1 := bz.1 1 _ rfl; have bz2 := bz.1 2 _ rfl; have bz3 := bz.1 3 _ rfl; have bz4 := bz.1 4 _ rfl; have bz5 := bz.1 5 _ rfl; have bf := bz.2; clear bz)
      have hA := Moved.trans ((Moved.refl r w).alloc _) hA
      go_wp2_with fail
      ((try simp only [Exit.inBlock, Exit.then]); refine bodyPost_ret (v := (.agg #[.int .i64 (_), .int .i64 (_), .int .i64 (_), .int .i64 (_), .int .i64 (_), .int .i64 (_)])) (by simp [results, Try.results27, go_sem, *]; first | exact ⟨rfl, rfl, rfl, rfl, rfl, rfl⟩ | rfl) rfl ?_)
      exact ⟨_, _, _, _, _, _, rfl, by omega, by omega, by omega, by omega, by omega, by omega, Rd.more (K := K + 5 + 1 + 1 + 1 + 1 + 1) (by repeat' (first | with_reducible assumption | with_reducible apply Rd.alloc | with_reducible apply Rd.drew | with_reducible refine Rd.store ?_ ?_ _ | omega | (simp; done) | (simp; omega))) (by omega), (by repeat' (first | with_reducible exact hA | with_reducible apply Moved.alloc | with_reducible apply Moved.drewr | with_reducible refine Moved.store ?_ ?_ _ | with_reducible exact Moved.refl _ _ | omega | (simp; done) | (simp; omega)))⟩
    · (go_wp2_with fail; refine (pick_pos _ _ _ _ _ (by repeat' (first | with_reducible assumption | with_reducible apply Rd.alloc | with_reducible apply Rd.drew | with_reducible refine Rd.store ?_ ?_ _ | omega | (simp; done) | (simp; omega))) (by omega) (by omega) (by omega)).mono ?_; rintro e wp ⟨k, rfl, k0, k9, hR, hM⟩; have hA := Moved.trans (show Moved r _ _ from (by repeat' (first | with_reducible exact hA | with_reducible apply Moved.alloc | with_reducible apply Moved.drewr | with_reducible refine Moved.store ?_ ?_ _ | with_reducible exact Moved.refl _ _ | omega | (simp; done) | (simp; omega)))) hM; have hr := hR.2.1)
      have hS := Moved.trans hS hM
      go_wp2_with fail
      all_goals
        (refine (pick_pos _ _ _ _ _ (by repeat' (first | with_reducible assumption | with_reducible apply Rd.alloc | with_reducible apply Rd.drew | with_reducible refine Rd.store ?_ ?_ _ | omega | (simp; done) | (simp; omega))) (by omega) (by omega) (by omega)).mono ?_; rintro e wp ⟨j, rfl, j0, j9, hR, hM⟩; have hA := Moved.trans (show Moved r _ _ from (by repeat' (first | with_reducible exact hA | with_reducible apply Moved.alloc | with_reducible apply Moved.drewr | with_reducible refine Moved.store ?_ ?_ _ | with_reducible exact Moved.refl _ _ | omega | (simp; done) | (simp; omega)))) hM; have hr := hR.2.1)
        have hM' := hM
        (obtain ⟨x, x0, x9, hy⟩ := tabB hM (by first | omega | (simp only [World.size_alloc]; omega)) (-1) 60 j rfl (by omega) (by first | (simp [nums]; done) | (simp [nums]; omega)) (by first | (simp [nums, intOf]; done) | (simp [nums, intOf]; omega)); try simp only [World.size_alloc] at hy)
        have hS := Moved.trans (show Moved r _ _ from by repeat' (first | with_reducible exact hS | with_reducible apply Moved.alloc)) hM'
        clear hM hM'
        (have az := moved_new hA hr0; have az0 := az.1 0 _ rfl; have az1 := az.1 1 _ rfl; have az2 := az.1 2 _ rfl; have az3 := az.1 3 _ rfl; have az4 := az.1 4 _ rfl; have az5 := az.1 5 _ rfl; have af := az.2; clear az)
        (have bz := moved_new hS hrq; have bz0 := bz.1 0 _ rfl; have bz1 := bz.1 1 _ rfl; have bz2 := bz.1 2 _ rfl; have bz3 := bz.1 3 _ rfl; have bz4 := bz.1 4 _ rfl; have bz5 := bz.1 5 _ rfl; have bf := bz.2; clear bz)
        (have g6 := (fun p => chain6 p hne az0 az1 az2 az3 az4 az5); have g0 := (fun p v a => (g6 p v a a a a a a).1); have g1 := (fun p v a b => (g6 p v a b b b b b).2.1); have g2 := (fun p v a b c => (g6 p v a b c c c c).2.2.1); have g3 := (fun p v a b c d => (g6 p v a b c d d d).2.2.2.1); have g4 := (fun p v a b c d e => (g6 p v a b c d e e).2.2.2.2.1); have g5 := (fun p v a b c d e f => (g6 p v a b c d e f).2.2.2.2.2); clear g6)
        have hA := Moved.trans ((Moved.refl r w).alloc _) hA
        go_wp2_with fail
        ((try simp only [Exit.inBlock, Exit.then]); refine bodyPost_ret (v := (.agg #[.int .i64 (_), .int .i64 (_), .int .i64 (_), .int .i64 (_), .int .i64 (_), .int .i64 (_)])) (by simp [results, Try.results27, go_sem, *]; first | exact ⟨rfl, rfl, rfl, rfl, rfl, rfl⟩ | rfl) rfl ?_)
        exact ⟨_, _, _, _, _, _, rfl, by omega, by omega, by omega, by omega, by omega, by omega, Rd.more (K := K + 5 + 1 + 1 + 1 + 1 + 1 + 1 + 1) (by repeat' (first | with_reducible assumption | with_reducible apply Rd.alloc | with_reducible apply Rd.drew | with_reducible refine Rd.store ?_ ?_ _ | omega | (simp; done) | (simp; omega))) (by omega), (by repeat' (first | with_reducible exact hA | with_reducible apply Moved.alloc | with_reducible apply Moved.drewr | with_reducible refine Moved.store ?_ ?_ _ | with_reducible exact Moved.refl _ _ | omega | (simp; done) | (simp; omega)))⟩

theorem below_new {W wp : World} {cs : Array Value} {T : TypeId} (hB : Below (W.alloc (.cells cs T)).heap.size (W.alloc (.cells cs T)) wp) : (∀ o v, cs[o]? = some v → wp.cell? ⟨W.heap.size, o, none⟩ = some v) ∧ (∀ o, wp.frozen? ⟨W.heap.size, o, none⟩ = false) :=
  ⟨fun o v h => (Below_at hB _ _ (by simp)).trans ((World.cell?_alloc_new _ _ _ _).trans h), fun o => (Below_fr hB _ _ (by simp)).trans (by go_simp)⟩
theorem bytes_alloc {w : World} {B : Nat} {v : Value} (h : BytesAt w B v) (hB : B ≤ w.heap.size) (o : Obj) : BytesAt (w.alloc o) B v := by
  have k : Below w.heap.size w (w.alloc o) := (Below.refl _ _).alloc (Nat.le_refl _) _
  exact bytes_keep h fun b o hb => k.cell (p := ⟨b, o, none⟩) (by show b < _; omega)

/-- A draw's answer of a stamp, whatever the code is. -/
def Stamped1 (w : World) (e : Ending) (w' : World) : Prop := ∃ y m d h i s : Int, e = .returned (.agg #[.int .i64 (y), .int .i64 (m), .int .i64 (d), .int .i64 (h), .int .i64 (i), .int .i64 (s)]) ∧ (-1 ≤ y ∧ y ≤ 4000) ∧ (-1 ≤ m ∧ m ≤ 100) ∧ (-1 ≤ d ∧ d ≤ 100) ∧ (-1 ≤ h ∧ h ≤ 100) ∧ (-1 ≤ i ∧ i ≤ 100) ∧ (-1 ≤ s ∧ s ≤ 100) ∧ Below w.heap.size w w'

set_option maxHeartbeats 1000000 in
theorem drawStampValid (v : Value) (w : World) (B : Nat) (h : BytesAt w B v) (hB : B = w.heap.size) :
    Calls Try.prog 25 #[v] w (Stamped1 w) := by
  go_enter Try.func25, Try.ntmps25
  (have hz0 := hB; go_wp2_with fail; refine (open_rd _ _ _ (by first | with_reducible assumption | exact bytes_alloc h (by omega) _) (by first | omega | (simp; omega))).mono ?_; rintro e w1 ⟨r, rfl, hr0, hR, hb0⟩; have hr := hR.2.1)
  go_wp2_with fail
  refine (stamp_any _ _ _ _ _ (by repeat' (first | with_reducible assumption | with_reducible apply Rd.alloc | with_reducible apply Rd.drew | with_reducible refine Rd.store ?_ ?_ _ | omega | (simp; done) | (simp; omega))) (by omega) (by omega)).mono ?_
  rintro e w2 ⟨y, m, d, h, i, s, rfl, by1, bm, bd, bh, bi, bs, hR, hM⟩
  (have hB2 := hb0.trans (hM.to_below _ hr0 hb0.size); have az := below_new hB2; have az0 := az.1 0 _ rfl; have az1 := az.1 1 _ rfl; have az2 := az.1 2 _ rfl; have az3 := az.1 3 _ rfl; have az4 := az.1 4 _ rfl; have az5 := az.1 5 _ rfl; have af := az.2; clear az; have hbw : Below w.heap.size w w2 := ((Below.refl _ _).alloc (Nat.le_refl _) _).trans (hB2.mono (by simp)); clear hM hb0 hB2; go_wp2_with fail; ((try simp only [Exit.inBlock, Exit.then]); refine bodyPost_ret (v := (.agg #[.int .i64 (_), .int .i64 (_), .int .i64 (_), .int .i64 (_), .int .i64 (_), .int .i64 (_)])) (by simp [results, Try.results25, go_sem, *]; first | exact ⟨rfl, rfl, rfl, rfl, rfl, rfl⟩ | rfl) rfl ?_))
  exact ⟨y, m, d, h, i, s, rfl, by1, bm, bd, bh, bi, bs, (by repeat' (first | with_reducible assumption | with_reducible exact Below.refl _ _ | with_reducible refine Below.setCell ?_ ?_ _ | with_reducible refine Below.alloc ?_ ?_ _ | with_reducible apply Below.drew | (simp; done) | (simp; omega)))⟩

set_option maxHeartbeats 1000000 in
theorem drawMomentOf (v : Value) (w : World) (B : Nat) (h : BytesAt w B v) (hB : B = w.heap.size) :
    Calls Try.prog 12 #[v] w (Stamped1 w) := by
  go_enter Try.func12, Try.ntmps12
  (have hz0 := hB; go_wp2_with fail; refine (open_rd _ _ _ (by first | with_reducible assumption | exact bytes_alloc h (by omega) _) (by first | omega | (simp; omega))).mono ?_; rintro e w1 ⟨r, rfl, hr0, hR, hb0⟩; have hr := hR.2.1)
  go_wp2_with fail
  refine (stamp_any _ _ _ _ _ (by repeat' (first | with_reducible assumption | with_reducible apply Rd.alloc | with_reducible apply Rd.drew | with_reducible refine Rd.store ?_ ?_ _ | omega | (simp; done) | (simp; omega))) (by omega) (by omega)).mono ?_
  rintro e w2 ⟨y, m, d, h, i, s, rfl, by1, bm, bd, bh, bi, bs, hR, hM⟩
  (have hB2 := hb0.trans (hM.to_below _ hr0 hb0.size); have az := below_new hB2; have az0 := az.1 0 _ rfl; have az1 := az.1 1 _ rfl; have az2 := az.1 2 _ rfl; have az3 := az.1 3 _ rfl; have az4 := az.1 4 _ rfl; have az5 := az.1 5 _ rfl; have af := az.2; clear az; have hbw : Below w.heap.size w w2 := ((Below.refl _ _).alloc (Nat.le_refl _) _).trans (hB2.mono (by simp)); clear hM hb0 hB2; go_wp2_with fail; ((try simp only [Exit.inBlock, Exit.then]); refine bodyPost_ret (v := (.agg #[.int .i64 (_), .int .i64 (_), .int .i64 (_), .int .i64 (_), .int .i64 (_), .int .i64 (_)])) (by simp [results, Try.results12, go_sem, *]; first | exact ⟨rfl, rfl, rfl, rfl, rfl, rfl⟩ | rfl) rfl ?_))
  exact ⟨y, m, d, h, i, s, rfl, by1, bm, bd, bh, bi, bs, (by repeat' (first | with_reducible assumption | with_reducible exact Below.refl _ _ | with_reducible refine Below.setCell ?_ ?_ _ | with_reducible refine Below.alloc ?_ ?_ _ | with_reducible apply Below.drew | (simp; done) | (simp; omega)))⟩

set_option maxHeartbeats 1000000 in
theorem moment_any (r : Nat) (w : World) (B K : Nat) (h : Rd w B r K) (hK : K < 999980000) :
    Calls Try.prog 40 #[.pointer (some ⟨r, 0, none⟩)] w (Num B r (K + 21) (-1) 126227808000 w) := by
  have hr := h.2.1
  go_enter Try.func40, Try.ntmps40
  go_wp2_with fail
  refine (stamp_any _ _ _ _ _ (by repeat' (first | with_reducible assumption | with_reducible apply Rd.alloc | with_reducible apply Rd.drew | with_reducible refine Rd.store ?_ ?_ _ | omega | (simp; done) | (simp; omega))) (by omega) (by omega)).mono ?_
  rintro e w1 ⟨y, m, d, h, i, s, rfl, by1, bm, bd, bh, bi, bs, hR, hM⟩
  have hA := hM
  go_wp2_with fail
  refine (sMomentOf_some _ _ _ _ _ _ _).mono ?_
  rintro e w2 ⟨n, rfl, n0, n9, hb⟩
  have hR := Rd.below (by repeat' (first | with_reducible assumption | with_reducible apply Rd.alloc | with_reducible apply Rd.drew | with_reducible refine Rd.store ?_ ?_ _ | omega | (simp; done) | (simp; omega))) hb
  have hA := Moved.below (show Moved r _ _ from (by repeat' (first | with_reducible exact hA | with_reducible apply Moved.alloc | with_reducible apply Moved.drewr | with_reducible refine Moved.store ?_ ?_ _ | with_reducible exact Moved.refl _ _ | omega | (simp; done) | (simp; omega)))) hb
  have hr := hR.2.1
  rcases (show n = -1 ∨ 0 ≤ n by omega) with rfl | n0'
  all_goals
    (go_wp2_with fail; refine (pick_pos _ _ _ _ _ (by repeat' (first | with_reducible assumption | with_reducible apply Rd.alloc | with_reducible apply Rd.drew | with_reducible refine Rd.store ?_ ?_ _ | omega | (simp; done) | (simp; omega))) (by omega) (by omega) (by omega)).mono ?_; rintro e wp ⟨a, rfl, a0, a9, hR, hM⟩; have hA := Moved.trans (show Moved r _ _ from (by repeat' (first | with_reducible exact hA | with_reducible apply Moved.alloc | with_reducible apply Moved.drewr | with_reducible refine Moved.store ?_ ?_ _ | with_reducible exact Moved.refl _ _ | omega | (simp; done) | (simp; omega)))) hM; have hr := hR.2.1)
    (obtain ⟨x, x0, x9, hx⟩ := tabB hM (by first | omega | (simp only [World.size_alloc]; omega)) 0 5 a rfl (by omega) (by first | (simp [nums]; done) | (simp [nums]; omega)) (by first | (simp [nums, intOf]; done) | (simp [nums, intOf]; omega)); obtain ⟨x, x0, x9, hy⟩ := tabA hM (by first | omega | (simp only [World.size_alloc]; omega)) (-1) 126227808000 x rfl (by omega) (by first | (simp [nums]; done) | (simp [nums]; omega)) (by first | (simp [nums, intOf]; done) | (simp [nums, intOf]; omega)); try simp only [World.size_alloc] at hx)
    go_wp2
    go_ret
    exact ⟨_, rfl, by omega, by omega, (by repeat' (first | with_reducible assumption | with_reducible apply Rd.alloc | with_reducible apply Rd.drew | with_reducible refine Rd.store ?_ ?_ _ | omega | (simp; done) | (simp; omega))), (by repeat' (first | with_reducible exact hA | with_reducible apply Moved.alloc | with_reducible apply Moved.drewr | with_reducible refine Moved.store ?_ ?_ _ | with_reducible exact Moved.refl _ _ | omega | (simp; done) | (simp; omega)))⟩

theorem drawStampOf (v : Value) (w : World) (B : Nat) (h : BytesAt w B v) (hB : B = w.heap.size) :
    Calls Try.prog 26 #[v] w (Num1 (-1) 126227808000 w) := by
  go_enter Try.func26, Try.ntmps26
  (go_wp2_with fail; refine (open_rd _ _ _ (by with_reducible assumption) (by omega)).mono ?_; rintro e w1 ⟨r, rfl, hr0, hR, hb0⟩; have hr := hR.2.1)
  go_wp2_with fail
  refine (moment_any _ _ _ _ (by repeat' (first | with_reducible assumption | with_reducible apply Rd.alloc | with_reducible apply Rd.drew | with_reducible refine Rd.store ?_ ?_ _ | omega | (simp; done) | (simp; omega))) (by omega)).mono ?_
  rintro e w2 ⟨y, rfl, y0, y9, hR, hM⟩
  go_wp2
  go_ret
  exact ⟨_, rfl, by omega, by omega, (hb0.trans (Moved.to_below (r := r) (by repeat (first | with_reducible assumption | exact Moved.refl _ _ | apply Moved.alloc | (refine Moved.store ?_ (by simp; omega) _) | (refine Moved.trans ?_ (by with_reducible assumption)) | (refine Moved.below ?_ (by with_reducible assumption)))) _ hr0 hb0.size))⟩
end Go.Proofs.Ytanmefigoddioaa
