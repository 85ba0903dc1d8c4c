/-
  CONTRACTS OF THE MODEL's DRAWS OF ZONES.
-/
import Derived.Test.YtlmmianaplahaaaDrawRule
import Derived.Test.YtlmmianaplahaaaZones
import Derived.Test.YtlmmianaplahaaaDrawMom
import Derived.Deep.CutRange
import Derived.Deep.DeepCutAuto
set_option linter.unusedVariables false
set_option linter.unusedSimpArgs false
namespace Go.Proofs.Ytlmmianaplahaaa
open Go.ChangeShapes Go.WideShapes Go.ChangeAt Go.RowKit Law Cal

/-- A zone's cells. -/
def _root_.Go.Proofs.Ytlmmianaplahaaa.Cal.Zn.cells (z : Zn) : List Value := [.int .i64 z.o, .int .i64 z.s, .int .i64 z.m, .int .i64 z.k, .int .i64 z.d, .int .i64 z.i, .int .i64 z.m', .int .i64 z.k', .int .i64 z.d', .int .i64 z.i']
theorem Has.ten {w : World} {b : Nat} {z : Zn} (h : Has w b z.cells) : w.cell? ⟨b, 0, none⟩ = some (.int .i64 z.o) ∧ w.cell? ⟨b, 1, none⟩ = some (.int .i64 z.s) ∧ w.cell? ⟨b, 2, none⟩ = some (.int .i64 z.m) ∧ w.cell? ⟨b, 3, none⟩ = some (.int .i64 z.k) ∧ w.cell? ⟨b, 4, none⟩ = some (.int .i64 z.d) ∧ w.cell? ⟨b, 5, none⟩ = some (.int .i64 z.i) ∧ w.cell? ⟨b, 6, none⟩ = some (.int .i64 z.m') ∧ w.cell? ⟨b, 7, none⟩ = some (.int .i64 z.k') ∧ w.cell? ⟨b, 8, none⟩ = some (.int .i64 z.d') ∧ w.cell? ⟨b, 9, none⟩ = some (.int .i64 z.i') :=
  ⟨h.2.1 0 (by simp [Zn.cells]), h.2.1 1 (by simp [Zn.cells]), h.2.1 2 (by simp [Zn.cells]), h.2.1 3 (by simp [Zn.cells]), h.2.1 4 (by simp [Zn.cells]), h.2.1 5 (by simp [Zn.cells]), h.2.1 6 (by simp [Zn.cells]), h.2.1 7 (by simp [Zn.cells]), h.2.1 8 (by simp [Zn.cells]), h.2.1 9 (by simp [Zn.cells])⟩
def near (x : Int) : Prop := -3000 ≤ x ∧ x ≤ 3000
/-- A zone's numbers are small. -/
def Zb (z : Zn) : Prop := z.m ≤ 100 ∧ near z.o ∧ near z.s ∧ near z.m ∧ near z.k ∧ near z.d ∧ near z.i ∧ near z.m' ∧ near z.k' ∧ near z.d' ∧ near z.i'
/-- While a zone is drawn: it lies in block b. -/
def ZSt (W0 : World) (B r K b : Nat) (w : World) : Prop := ∃ z : Zn, Zb z ∧ Has w b z.cells ∧ Rd w B r K ∧ Moved r W0 w
/-- A zone was drawn; the reader has moved on. -/
def Zoned (B r K : Nat) (w : World) (e : Ending) (w' : World) : Prop := ∃ z : Zn, e = .returned (.agg #[.int .i64 (z.o), .int .i64 (z.s), .int .i64 (z.m), .int .i64 (z.k), .int .i64 (z.d), .int .i64 (z.i), .int .i64 (z.m'), .int .i64 (z.k'), .int .i64 (z.d'), .int .i64 (z.i')]) ∧ Zb z ∧ Rd w' B r K ∧ Moved r w w'

set_option maxHeartbeats 8000000 in
theorem zone_any (n : Int) (r : Nat) (w : World) (B K : Nat) (h : Rd w B r K) (hK : K < 999900000) (hn : 0 ≤ n ∧ n ≤ 1000) :
    Calls Try.prog 58 #[.pointer (some ⟨r, 0, none⟩), .int .i64 n] w (Zoned B r (K + 60) w) := by
  have hr := h.2.1
  have hr0 := h.2.1
  go_enter Try.func58, Try.ntmps58
  (go_wp2_with fail; refine (pick_pos _ _ _ _ _ (by repeat (first | with_reducible assumption | apply Rd.alloc | apply Rd.drew | (refine Rd.store ?_ (by simp; omega) _) | (refine Rd.below ?_ (by with_reducible assumption)))) (by omega) (by omega) (by omega)).mono ?_; rintro e wp ⟨a, rfl, a0, a9, hR, hM⟩; have hr := hR.2.1)
  have hA := Moved.trans ((Moved.refl r _).alloc _) hM
  (obtain ⟨y, y0, y9, hy⟩ := tabB hM (by first | omega | (simp only [World.size_alloc]; omega) | (simp only [World.size_alloc, World.size_setCell]; omega)) (-720) 840 a rfl (by omega) (by first | (simp [nums]; done) | (simp [nums]; omega)) (by first | (simp [nums, intOf]; done) | (simp [nums, intOf]; omega)); try simp only [World.size_alloc, World.size_setCell] at hy)
  clear hM
  go_wp2_with fail
  have hrq := hR.2.1
  have hwq := hA.2.2.2.1
  simp only [World.size_alloc] at hwq
  have hH : Has (wp.alloc (.cells #[.int .i64 y, .int .i64 0, .int .i64 0, .int .i64 0, .int .i64 0, .int .i64 0, .int .i64 0, .int .i64 0, .int .i64 0, .int .i64 0] 26)) wp.heap.size (Zn.cells ⟨y, 0, 0, 0, 0, 0, 0, 0, 0, 0⟩) := Has.made wp _ _
  generalize hb : wp.heap.size = b at *
  have hbr : b ≠ r := by omega
  have hbw : w.heap.size < b := by omega
  (refine (pick_pos _ _ _ _ _ (by repeat' (first | with_reducible assumption | with_reducible apply Rd.alloc | with_reducible apply Rd.drew | with_reducible refine Rd.store ?_ ?_ _ | omega | (simp; done) | (simp; omega))) (by omega) (by omega) (by omega)).mono ?_; rintro e wp ⟨c, rfl, c0, c9, hR, hM⟩; have hA := Moved.trans (show Moved r _ _ from (by repeat' (first | with_reducible exact hA | with_reducible apply Moved.alloc | with_reducible apply Moved.drewr | with_reducible refine Moved.store ?_ ?_ _ | with_reducible exact Moved.refl _ _ | omega | (simp; done) | (simp; omega)))) hM; have hr := hR.2.1)
  (have hH := Has.moved (show Has _ _ _ from by repeat' (first | with_reducible exact hH | with_reducible apply Has.alloc | with_reducible apply Has.drew)) hM hbr)
  go_upto_if 14 with fail
  go_cut [] from 12 to 60 (fun wx => ZSt (w.alloc (.cells #[.int .i64 0, .int .i64 0, .int .i64 0, .int .i64 0, .int .i64 0, .int .i64 0, .int .i64 0, .int .i64 0, .int .i64 0, .int .i64 0] 26)) B r (K + 30) b wx)
  case first =>
    have hrb : r < b := by omega
    have hWb : (w.alloc (.cells #[.int .i64 0, .int .i64 0, .int .i64 0, .int .i64 0, .int .i64 0, .int .i64 0, .int .i64 0, .int .i64 0, .int .i64 0, .int .i64 0] 26)).heap.size ≤ b := by simp; omega
    by_cases hc : 0 < c
    · (go_wp2_with fail; refine (pick_pos _ _ _ _ _ (by repeat' (first | with_reducible assumption | with_reducible apply Rd.alloc | with_reducible apply Rd.drew | with_reducible refine Rd.store ?_ ?_ _ | omega | (simp; done) | (simp; omega))) (by omega) (by omega) (by omega)).mono ?_; rintro e wp ⟨e, rfl, e0, e9, hR, hM⟩; have hA := Moved.trans (show Moved r _ _ from (by repeat' (first | with_reducible exact hA | with_reducible apply Moved.alloc | with_reducible apply Moved.drewr | with_reducible refine Moved.store ?_ ?_ _ | with_reducible exact Moved.refl _ _ | omega | (simp; done) | (simp; omega)))) hM; have hr := hR.2.1)
      (obtain ⟨s, s0, s9, hy⟩ := tabB hM (by first | omega | (simp only [World.size_alloc]; omega) | (simp only [World.size_alloc, World.size_setCell]; omega)) 0 120 e rfl (by omega) (by first | (simp [nums]; done) | (simp [nums]; omega)) (by first | (simp [nums, intOf]; done) | (simp [nums, intOf]; omega)); try simp only [World.size_alloc, World.size_setCell] at hy)
      (have hH := Has.moved (show Has _ _ _ from by repeat' (first | with_reducible exact hH | with_reducible apply Has.alloc | with_reducible apply Has.drew)) hM hbr)
      (obtain ⟨c0, c1, c2, c3, c4, c5, c6, c7, c8, c9⟩ := Has.ten hH; have cf := hH.2.2)
      go_wp2_with fail
      (clear c0 c1 c2 c3 c4 c5 c6 c7 c8 c9 cf)
      clear hM hy
      (have hH := hH.set (i := 1) (by simp [Zn.cells]) (.int .i64 (s)); have hR := Rd.store (p := ⟨b, 1, none⟩) hR hrb (.int .i64 (s)); have hA := Moved.store (p := ⟨b, 1, none⟩) hA hWb (.int .i64 (s)))
      refine (rule_any 0 r _ B (K + 1 + 1 + 1) hR (by omega) (by omega)).mono ?_
      rintro e wq ⟨m1, k1, d1, i1, rfl, bm, bk, bd, bi, hR, hM⟩
      (have hA := Moved.trans hA hM; have hr := hR.2.1)
      (have hH := Has.moved (show Has _ _ _ from by repeat' (first | with_reducible exact hH | with_reducible apply Has.alloc | with_reducible apply Has.drew)) hM hbr)
      (have hH : Has _ b (Zn.cells ⟨y, s, 0, 0, 0, 0, 0, 0, 0, 0⟩) := hH)
      (obtain ⟨c0, c1, c2, c3, c4, c5, c6, c7, c8, c9⟩ := Has.ten hH; have cf := hH.2.2)
      go_wp2_with fail
      (clear c0 c1 c2 c3 c4 c5 c6 c7 c8 c9 cf)
      clear hM
      (have hH := hH.set (i := 2) (by simp [Zn.cells]) (.int .i64 (m1)); have hR := Rd.store (p := ⟨b, 2, none⟩) hR hrb (.int .i64 (m1)); have hA := Moved.store (p := ⟨b, 2, none⟩) hA hWb (.int .i64 (m1)))
      (have hH := hH.set (i := 3) (by simp [Zn.cells]) (.int .i64 (k1)); have hR := Rd.store (p := ⟨b, 3, none⟩) hR hrb (.int .i64 (k1)); have hA := Moved.store (p := ⟨b, 3, none⟩) hA hWb (.int .i64 (k1)))
      (have hH := hH.set (i := 4) (by simp [Zn.cells]) (.int .i64 (d1)); have hR := Rd.store (p := ⟨b, 4, none⟩) hR hrb (.int .i64 (d1)); have hA := Moved.store (p := ⟨b, 4, none⟩) hA hWb (.int .i64 (d1)))
      (have hH := hH.set (i := 5) (by simp [Zn.cells]) (.int .i64 (i1)); have hR := Rd.store (p := ⟨b, 5, none⟩) hR hrb (.int .i64 (i1)); have hA := Moved.store (p := ⟨b, 5, none⟩) hA hWb (.int .i64 (i1)))
      refine (rule_any 0 r _ B (K + 1 + 1 + 1 + 8) hR (by omega) (by omega)).mono ?_
      rintro e wt ⟨m2, k2, d2, i2, rfl, bm2, bk2, bd2, bi2, hR, hM⟩
      (have hA := Moved.trans hA hM; have hr := hR.2.1)
      (have hH := Has.moved (show Has _ _ _ from by repeat' (first | with_reducible exact hH | with_reducible apply Has.alloc | with_reducible apply Has.drew)) hM hbr)
      (have hH : Has _ b (Zn.cells ⟨y, s, m1, k1, d1, i1, 0, 0, 0, 0⟩) := hH)
      (obtain ⟨c0, c1, c2, c3, c4, c5, c6, c7, c8, c9⟩ := Has.ten hH; have cf := hH.2.2)
      go_wp2_with fail
      (clear c0 c1 c2 c3 c4 c5 c6 c7 c8 c9 cf)
      clear hM
      (have hH := hH.set (i := 6) (by simp [Zn.cells]) (.int .i64 (m2)); have hR := Rd.store (p := ⟨b, 6, none⟩) hR hrb (.int .i64 (m2)); have hA := Moved.store (p := ⟨b, 6, none⟩) hA hWb (.int .i64 (m2)))
      (have hH := hH.set (i := 7) (by simp [Zn.cells]) (.int .i64 (k2)); have hR := Rd.store (p := ⟨b, 7, none⟩) hR hrb (.int .i64 (k2)); have hA := Moved.store (p := ⟨b, 7, none⟩) hA hWb (.int .i64 (k2)))
      (have hH := hH.set (i := 8) (by simp [Zn.cells]) (.int .i64 (d2)); have hR := Rd.store (p := ⟨b, 8, none⟩) hR hrb (.int .i64 (d2)); have hA := Moved.store (p := ⟨b, 8, none⟩) hA hWb (.int .i64 (d2)))
      (have hH := hH.set (i := 9) (by simp [Zn.cells]) (.int .i64 (i2)); have hR := Rd.store (p := ⟨b, 9, none⟩) hR hrb (.int .i64 (i2)); have hA := Moved.store (p := ⟨b, 9, none⟩) hA hWb (.int .i64 (i2)))
      (have hH : Has _ b (Zn.cells ⟨y, s, m1, k1, d1, i1, m2, k2, d2, i2⟩) := hH)
      (refine (pick_pos 4 r _ B (K + 1 + 1 + 1 + 8 + 8) (Rd.alloc hR _) (by omega) (by omega) (by omega)).mono ?_; rintro e wp ⟨f, rfl, f0, f9, hR, hM⟩; have hA := Moved.trans (Moved.alloc hA _) hM; have hr := hR.2.1)
      (obtain ⟨ms, ms0, ms9, hy⟩ := tabB hM (by first | omega | (simp only [World.size_alloc]; omega) | (simp only [World.size_alloc, World.size_setCell]; omega)) 3 10 f rfl (by omega) (by first | (simp [nums]; done) | (simp [nums]; omega)) (by first | (simp [nums, intOf]; done) | (simp [nums, intOf]; omega)); try simp only [World.size_alloc, World.size_setCell] at hy)
      (have hH := Has.moved (show Has _ _ _ from by repeat' (first | with_reducible exact hH | with_reducible apply Has.alloc | with_reducible apply Has.drew)) hM hbr)
      (obtain ⟨c0, c1, c2, c3, c4, c5, c6, c7, c8, c9⟩ := Has.ten hH; have cf := hH.2.2)
      go_wp2_with fail
      (clear c0 c1 c2 c3 c4 c5 c6 c7 c8 c9 cf)
      clear hM hy
      (have hH := hH.set (i := 2) (by simp [Zn.cells]) (.int .i64 (ms)); have hR := Rd.store (p := ⟨b, 2, none⟩) hR hrb (.int .i64 (ms)); have hA := Moved.store (p := ⟨b, 2, none⟩) hA hWb (.int .i64 (ms)))
      (have hH : Has _ b (Zn.cells ⟨y, s, ms, k1, d1, i1, m2, k2, d2, i2⟩) := hH)
      (refine (pick_pos 4 r _ B (K + 1 + 1 + 1 + 8 + 8 + 1) (Rd.alloc hR _) (by omega) (by omega) (by omega)).mono ?_; rintro e wp ⟨g, rfl, g0, g9, hR, hM⟩; have hA := Moved.trans (Moved.alloc hA _) hM; have hr := hR.2.1)
      (obtain ⟨me, me0, me9, hy⟩ := tabB hM (by first | omega | (simp only [World.size_alloc]; omega) | (simp only [World.size_alloc, World.size_setCell]; omega)) 3 11 g rfl (by omega) (by first | (simp [nums]; done) | (simp [nums]; omega)) (by first | (simp [nums, intOf]; done) | (simp [nums, intOf]; omega)); try simp only [World.size_alloc, World.size_setCell] at hy)
      (have hH := Has.moved (show Has _ _ _ from by repeat' (first | with_reducible exact hH | with_reducible apply Has.alloc | with_reducible apply Has.drew)) hM hbr)
      (obtain ⟨c0, c1, c2, c3, c4, c5, c6, c7, c8, c9⟩ := Has.ten hH; have cf := hH.2.2)
      have SS := same_some
      have hH1 : Has _ b (Zn.cells ⟨y, s, ms, k1, d1, i1, me, k2, d2, i2⟩) := hH.set (i := 6) (by simp [Zn.cells]) (.int .i64 me)
      have hR1 := Rd.store (p := ⟨b, 6, none⟩) hR hrb (.int .i64 me)
      have hA1 := Moved.store (p := ⟨b, 6, none⟩) hA hWb (.int .i64 me)
      have hH2 : Has _ b (Zn.cells ⟨y, s, ms, k1, d1, i1, 6, k2, d2, i2⟩) := hH1.set (i := 6) (by simp [Zn.cells]) (.int .i64 6)
      have hR2 := Rd.store (p := ⟨b, 6, none⟩) hR1 hrb (.int .i64 6)
      have hA2 := Moved.store (p := ⟨b, 6, none⟩) hA1 hWb (.int .i64 6)
      go_wp2_with fail
      all_goals
        go_meet
        first
          | exact ⟨_, by unfold Zb near; simp; omega, hH1, Rd.more (K := K + 1 + 1 + 1 + 8 + 8 + 1 + 1) hR1 (by omega), hA1⟩
          | exact ⟨_, by unfold Zb near; simp; omega, hH2, Rd.more (K := K + 1 + 1 + 1 + 8 + 8 + 1 + 1) hR2 (by omega), hA2⟩
    · have hc' : decide (0 < c) = false := by simpa using hc
      go_wp2_with fail
      go_meet
      case rel =>
        exact ⟨_, by unfold Zb near; simp; omega, hH, Rd.more (K := K + 1 + 1) hR (by omega), hA⟩
  case rest =>
    obtain ⟨z, hz, hH, hR, hA⟩ := hcut
    have hrb : r < b := by omega
    have hWb : (w.alloc (.cells #[.int .i64 0, .int .i64 0, .int .i64 0, .int .i64 0, .int .i64 0, .int .i64 0, .int .i64 0, .int .i64 0, .int .i64 0, .int .i64 0] 26)).heap.size ≤ b := by simp; omega
    clear hb hwq hrq hr hy
    go_wp2_with fail
    refine (odd_any _ r _ B (K + 30) hR (by omega) hn).mono ?_
    rintro e wv ⟨o, rfl, hR, hM⟩
    (have hA := Moved.trans hA hM; have hr := hR.2.1)
    (have hH := Has.moved (show Has _ _ _ from by repeat' (first | with_reducible exact hH | with_reducible apply Has.alloc | with_reducible apply Has.drew)) hM hbr)
    clear hM
    go_upto_if 63 with fail
    go_cut [] from 64 to 99 (fun wx => ZSt (w.alloc (.cells #[.int .i64 0, .int .i64 0, .int .i64 0, .int .i64 0, .int .i64 0, .int .i64 0, .int .i64 0, .int .i64 0, .int .i64 0, .int .i64 0] 26)) B r (K + 50) b wx)
    case first =>
      cases o
      · go_wp2_with fail
        go_meet
        exact ⟨z, hz, hH, Rd.more hR (by omega), hA⟩
      · go_wp2_with fail
        (refine (pick_pos 5 r _ B (K + 30 + 1) hR (by omega) (by omega) (by omega)).mono ?_; rintro e wp ⟨j, rfl, j0, j9, hR, hM⟩; have hA := Moved.trans hA hM; have hr := hR.2.1)
        (have hH := Has.moved (show Has _ _ _ from by repeat' (first | with_reducible exact hH | with_reducible apply Has.alloc | with_reducible apply Has.drew)) hM hbr)
        clear hM
        rcases (show j = 0 ∨ j = 1 ∨ j = 2 ∨ j = 3 ∨ j = 4 by omega) with rfl | rfl | rfl | rfl | rfl
        · go_wp2_with fail
          (refine (pick_pos 2 r _ B (K + 30 + 1 + 1) (Rd.alloc hR _) (by omega) (by omega) (by omega)).mono ?_; rintro e wp ⟨x, rfl, x0, x9, hR, hM⟩; have hA := Moved.trans (Moved.alloc hA _) hM; have hr := hR.2.1)
          (obtain ⟨y1, y10, y19, hy⟩ := tabB hM (by first | omega | (simp only [World.size_alloc]; omega) | (simp only [World.size_alloc, World.size_setCell]; omega)) (-721) 841 x rfl (by omega) (by first | (simp [nums]; done) | (simp [nums]; omega)) (by first | (simp [nums, intOf]; done) | (simp [nums, intOf]; omega)); try simp only [World.size_alloc, World.size_setCell] at hy)
          (have hH := Has.moved (show Has _ _ _ from by repeat' (first | with_reducible exact hH | with_reducible apply Has.alloc | with_reducible apply Has.drew)) hM hbr)
          (obtain ⟨c0, c1, c2, c3, c4, c5, c6, c7, c8, c9⟩ := Has.ten hH; have cf := hH.2.2)
          go_wp2_with fail
          (clear c0 c1 c2 c3 c4 c5 c6 c7 c8 c9 cf)
          (have hH := hH.set (i := 0) (by simp [Zn.cells]) (.int .i64 (y1)); have hR := Rd.store (p := ⟨b, 0, none⟩) hR hrb (.int .i64 (y1)); have hA := Moved.store (p := ⟨b, 0, none⟩) hA hWb (.int .i64 (y1)))
          go_meet
          exact ⟨⟨y1, z.s, z.m, z.k, z.d, z.i, z.m', z.k', z.d', z.i'⟩, by unfold Zb near at *; simp at *; omega, hH, Rd.more hR (by omega), hA⟩
        · go_wp2_with fail
          (refine (pick_pos 2 r _ B (K + 30 + 1 + 1) (Rd.alloc hR _) (by omega) (by omega) (by omega)).mono ?_; rintro e wp ⟨x, rfl, x0, x9, hR, hM⟩; have hA := Moved.trans (Moved.alloc hA _) hM; have hr := hR.2.1)
          (obtain ⟨y1, y10, y19, hy⟩ := tabB hM (by first | omega | (simp only [World.size_alloc]; omega) | (simp only [World.size_alloc, World.size_setCell]; omega)) (-1) 121 x rfl (by omega) (by first | (simp [nums]; done) | (simp [nums]; omega)) (by first | (simp [nums, intOf]; done) | (simp [nums, intOf]; omega)); try simp only [World.size_alloc, World.size_setCell] at hy)
          (have hH := Has.moved (show Has _ _ _ from by repeat' (first | with_reducible exact hH | with_reducible apply Has.alloc | with_reducible apply Has.drew)) hM hbr)
          (obtain ⟨c0, c1, c2, c3, c4, c5, c6, c7, c8, c9⟩ := Has.ten hH; have cf := hH.2.2)
          go_wp2_with fail
          (clear c0 c1 c2 c3 c4 c5 c6 c7 c8 c9 cf)
          (have hH := hH.set (i := 1) (by simp [Zn.cells]) (.int .i64 (y1)); have hR := Rd.store (p := ⟨b, 1, none⟩) hR hrb (.int .i64 (y1)); have hA := Moved.store (p := ⟨b, 1, none⟩) hA hWb (.int .i64 (y1)))
          go_meet
          exact ⟨⟨z.o, y1, z.m, z.k, z.d, z.i, z.m', z.k', z.d', z.i'⟩, by unfold Zb near at *; simp at *; omega, hH, Rd.more hR (by omega), hA⟩
        · (obtain ⟨c0, c1, c2, c3, c4, c5, c6, c7, c8, c9⟩ := Has.ten hH; have cf := hH.2.2)
          have SS := same_some
          go_wp2_with fail
          (clear c0 c1 c2 c3 c4 c5 c6 c7 c8 c9 cf)
          (have hH := hH.set (i := 2) (by simp [Zn.cells]) (.int .i64 (3)); have hR := Rd.store (p := ⟨b, 2, none⟩) hR hrb (.int .i64 (3)); have hA := Moved.store (p := ⟨b, 2, none⟩) hA hWb (.int .i64 (3)))
          (have hH := hH.set (i := 3) (by simp [Zn.cells]) (.int .i64 (1)); have hR := Rd.store (p := ⟨b, 3, none⟩) hR hrb (.int .i64 (1)); have hA := Moved.store (p := ⟨b, 3, none⟩) hA hWb (.int .i64 (1)))
          (have hH := hH.set (i := 4) (by simp [Zn.cells]) (.int .i64 (0)); have hR := Rd.store (p := ⟨b, 4, none⟩) hR hrb (.int .i64 (0)); have hA := Moved.store (p := ⟨b, 4, none⟩) hA hWb (.int .i64 (0)))
          (have hH := hH.set (i := 5) (by simp [Zn.cells]) (.int .i64 (0)); have hR := Rd.store (p := ⟨b, 5, none⟩) hR hrb (.int .i64 (0)); have hA := Moved.store (p := ⟨b, 5, none⟩) hA hWb (.int .i64 (0)))
          (have hH := hH.set (i := 1) (by simp [Zn.cells]) (.int .i64 (0)); have hR := Rd.store (p := ⟨b, 1, none⟩) hR hrb (.int .i64 (0)); have hA := Moved.store (p := ⟨b, 1, none⟩) hA hWb (.int .i64 (0)))
          go_meet
          exact ⟨⟨z.o, 0, 3, 1, 0, 0, z.m', z.k', z.d', z.i'⟩, by unfold Zb near at *; simp at *; omega, hH, Rd.more hR (by omega), hA⟩
        · have hw : IntKind.i64.wrap (z.m + 1) = z.m + 1 := IntWalk.i64_in _ (by unfold Zb near at hz; omega)
          (obtain ⟨c0, c1, c2, c3, c4, c5, c6, c7, c8, c9⟩ := Has.ten hH; have cf := hH.2.2)
          have SS := same_some
          go_wp2_with fail
          (clear c0 c1 c2 c3 c4 c5 c6 c7 c8 c9 cf)
          (have hH := hH.set (i := 6) (by simp [Zn.cells]) (.int .i64 (z.m + 1)); have hR := Rd.store (p := ⟨b, 6, none⟩) hR hrb (.int .i64 (z.m + 1)); have hA := Moved.store (p := ⟨b, 6, none⟩) hA hWb (.int .i64 (z.m + 1)))
          (have hH := hH.set (i := 1) (by simp [Zn.cells]) (.int .i64 (60)); have hR := Rd.store (p := ⟨b, 1, none⟩) hR hrb (.int .i64 (60)); have hA := Moved.store (p := ⟨b, 1, none⟩) hA hWb (.int .i64 (60)))
          go_meet
          exact ⟨⟨z.o, 60, z.m, z.k, z.d, z.i, z.m + 1, z.k', z.d', z.i'⟩, by unfold Zb near at *; simp at *; omega, hH, Rd.more hR (by omega), hA⟩
        · go_wp2_with fail
          refine (rule_any 1 r _ B (K + 30 + 1 + 1) hR (by omega) (by omega)).mono ?_
          rintro e wq ⟨m1, k1, d1, i1, rfl, bm, bk, bd, bi, hR, hM⟩
          (have hA := Moved.trans hA hM; have hr := hR.2.1)
          (have hH := Has.moved (show Has _ _ _ from by repeat' (first | with_reducible exact hH | with_reducible apply Has.alloc | with_reducible apply Has.drew)) hM hbr)
          (obtain ⟨c0, c1, c2, c3, c4, c5, c6, c7, c8, c9⟩ := Has.ten hH; have cf := hH.2.2)
          have SS := same_some
          go_wp2_with fail
          (clear c0 c1 c2 c3 c4 c5 c6 c7 c8 c9 cf)
          (have hH := hH.set (i := 2) (by simp [Zn.cells]) (.int .i64 (m1)); have hR := Rd.store (p := ⟨b, 2, none⟩) hR hrb (.int .i64 (m1)); have hA := Moved.store (p := ⟨b, 2, none⟩) hA hWb (.int .i64 (m1)))
          (have hH := hH.set (i := 3) (by simp [Zn.cells]) (.int .i64 (k1)); have hR := Rd.store (p := ⟨b, 3, none⟩) hR hrb (.int .i64 (k1)); have hA := Moved.store (p := ⟨b, 3, none⟩) hA hWb (.int .i64 (k1)))
          (have hH := hH.set (i := 4) (by simp [Zn.cells]) (.int .i64 (d1)); have hR := Rd.store (p := ⟨b, 4, none⟩) hR hrb (.int .i64 (d1)); have hA := Moved.store (p := ⟨b, 4, none⟩) hA hWb (.int .i64 (d1)))
          (have hH := hH.set (i := 5) (by simp [Zn.cells]) (.int .i64 (i1)); have hR := Rd.store (p := ⟨b, 5, none⟩) hR hrb (.int .i64 (i1)); have hA := Moved.store (p := ⟨b, 5, none⟩) hA hWb (.int .i64 (i1)))
          (have hH := hH.set (i := 1) (by simp [Zn.cells]) (.int .i64 (60)); have hR := Rd.store (p := ⟨b, 1, none⟩) hR hrb (.int .i64 (60)); have hA := Moved.store (p := ⟨b, 1, none⟩) hA hWb (.int .i64 (60)))
          go_meet
          exact ⟨⟨z.o, 60, m1, k1, d1, i1, z.m', z.k', z.d', z.i'⟩, by unfold Zb near at *; simp at *; omega, hH, Rd.more hR (by omega), hA⟩
    case rest =>
      clear hR hA hH hz
      obtain ⟨z, hz, hH, hR, hA⟩ := hcut
      have az := moved_new hA hr0
      have z0 := az.1 0 _ rfl; have z1 := az.1 1 _ rfl; have z2 := az.1 2 _ rfl; have z3 := az.1 3 _ rfl; have z4 := az.1 4 _ rfl; have z5 := az.1 5 _ rfl; have z6 := az.1 6 _ rfl; have z7 := az.1 7 _ rfl; have z8 := az.1 8 _ rfl; have z9 := az.1 9 _ rfl
      have zf := az.2
      clear az
      (obtain ⟨c0, c1, c2, c3, c4, c5, c6, c7, c8, c9⟩ := Has.ten hH; have cf := hH.2.2)
      have SS := same_some
      have hA := Moved.trans ((Moved.refl r w).alloc _) hA
      go_wp2_with fail
      ((try simp only [Exit.inBlock, Exit.then]); refine bodyPost_ret (v := (.agg #[.int .i64 (z.o), .int .i64 (z.s), .int .i64 (z.m), .int .i64 (z.k), .int .i64 (z.d), .int .i64 (z.i), .int .i64 (z.m'), .int .i64 (z.k'), .int .i64 (z.d'), .int .i64 (z.i')])) (by simp [results, Try.results58, go_sem, *]; try rfl) rfl ?_)
      exact ⟨z, rfl, hz, Rd.more (K := K + 50) (by repeat' (first | with_reducible assumption | with_reducible apply Rd.alloc | with_reducible apply Rd.drew | with_reducible refine Rd.store ?_ ?_ _ | omega | (simp; done) | (simp; omega))) (by omega), (by repeat' (first | with_reducible exact hA | with_reducible apply Moved.alloc | with_reducible apply Moved.drewr | with_reducible refine Moved.store ?_ ?_ _ | with_reducible exact Moved.refl _ _ | omega | (simp; done) | (simp; omega)))⟩

/-- A draw's answer of a zone, whatever the code is. -/
def Zoned1 (w : World) (e : Ending) (w' : World) : Prop := ∃ z : Zn, e = .returned (.agg #[.int .i64 (z.o), .int .i64 (z.s), .int .i64 (z.m), .int .i64 (z.k), .int .i64 (z.d), .int .i64 (z.i), .int .i64 (z.m'), .int .i64 (z.k'), .int .i64 (z.d'), .int .i64 (z.i')]) ∧ Zb z ∧ Below w.heap.size w w'


theorem chg_bd (z : Zn) (y : Int) : (chg z y = [] ∨ ∃ a b, chg z y = [a, b] ∧ (-200000 ≤ a ∧ a ≤ 126229000000) ∧ (-200000 ≤ b ∧ b ≤ 126229000000)) := by
  by_cases v : zvB z = true
  · by_cases h : 3 ≤ y ∧ y ≤ 3998
    · by_cases s : z.s = 0
      · exact .inl (chg_no (.inr (.inr s)))
      · refine .inr ⟨_, _, chg_yes v h s, ?_⟩
        have g := zAB_good v s h.1 h.2
        omega
    · exact .inl (chg_no (.inr (.inl h)))
  · exact .inl (chg_no (.inl (by simpa using v)))

/-- While a moment is drawn near to a zone's changes. -/
def NSt (W0 : World) (B r K : Nat) (z : Zn) (b : Nat) (w : World) : Prop := Has w b z.cells ∧ Rd w B r K ∧ Moved r W0 w

def TNear (bb off : Nat) (base r : Nat) (st : Value) : Nat → World → Value → Prop
  | 0, w, v => v = st
  | 1, w, v => v = .pointer (some ⟨r, 0, none⟩)
  | 2, w, v => Reg.IntIn 0 1 v
  | 3, w, v => ∃ j, j < 2 ∧ v = .pointer (some ⟨bb, off + j, none⟩)
  | 4, w, v => Reg.IntIn (-200000) 126229000000 v
  | 5, w, v => v = .pointer (some ⟨r, 0, none⟩)
  | 6, w, v => Reg.IntIn 0 255 v
  | 7, w, v => Reg.IntIn (-128) 127 v
  | 8, w, v => Reg.IntIn (-7680) 7620 v
  | 9, w, v => Reg.Tab base w 6 (-7680) 7620 v
  | 10, w, v => v = .pointer (some ⟨r, 0, none⟩)
  | 11, w, v => Reg.IntIn 0 5 v
  | 12, w, v => Reg.Spot base w (-7680) 7620 v
  | 13, w, v => Reg.IntIn (-7680) 7620 v
  | 14, w, v => Reg.IntIn (-207680) 126229007620 v
  | 15, w, v => Reg.IntIn (-207680) 126229007620 v
  | _, _, _ => True
theorem TNear_fut {bb off base r : Nat} {st : Value} : ∀ i w w' v, TNear bb off base r st i w v → Reg.Fut base w w' → TNear bb off base r st i w' v := by
  intro i w w' v h f
  unfold TNear at *
  split at h
  case h_10 => exact h.fut f
  case h_13 => exact h.fut f
  all_goals exact h

theorem Ints.moved {r : Nat} {w w' : World} {B : Nat} {v : Value} {xs : List Int} (h : Ints w B v xs) (k : Moved r w w') (hr : r < B) : Ints w' B v xs := h.keep (fun b h1 h2 => k.2.2.2.2 b h2 (by omega)) k.2.2.2.1

set_option maxHeartbeats 8000000 in
theorem near_any (z : Zn) (r : Nat) (w : World) (B K : Nat) (h : Rd w B r K) (hK : K < 999900000) :
    Calls Try.prog 59 #[.pointer (some ⟨r, 0, none⟩), (.agg #[.int .i64 (z.o), .int .i64 (z.s), .int .i64 (z.m), .int .i64 (z.k), .int .i64 (z.d), .int .i64 (z.i), .int .i64 (z.m'), .int .i64 (z.k'), .int .i64 (z.d'), .int .i64 (z.i')])] w (Num B r (K + 40000) (-400000) 126229100000 w) := by
  have hr0 := h.2.1
  have hbr : w.heap.size ≠ r := by omega
  go_enter Try.func59, Try.ntmps59
  go_upto_region 1 with fail
  have hH : Has _ w.heap.size z.cells := Has.made w _ 26
  go_cut [5] from 7 to 11 (fun s5 wx => (∃ n : Int, s5 = .int .i64 n ∧ 40000000 ≤ n ∧ n ≤ 126187807999) ∧ NSt w B r (K + 20) z w.heap.size wx)
  case first =>
    go_wp2_with fail
    refine (stamp_any 0 r _ B K (Rd.alloc h _) (by omega) (by omega)).mono ?_
    rintro e w1 ⟨y, m, d, hh, i, s, rfl, _, _, _, _, _, _, hR, hM⟩
    have hA := Moved.trans ((Moved.refl r w).alloc _) hM
    have hH := hH.moved hM hbr
    clear hM
    go_wp2_with fail
    refine (sMomentOf_some _ _ _ _ _ _ _).mono ?_
    rintro e w2 ⟨n, rfl, n0, n9, hb⟩
    have hR := Rd.below hR hb
    have hA := Moved.below hA hb
    have hH := hH.below hb
    go_wp2_with fail
    all_goals
      go_meet
      exact ⟨⟨_, rfl, by omega, by omega⟩, hH, hR, hA⟩
  case rest =>
    clear hH
    obtain ⟨⟨n, rfl, n0, n9⟩, hH, hR, hA⟩ := hcut
    go_upto_region 2 with fail
    go_cut [6] from 12 to 16 (fun s6 wx => (∃ xs, Ints wx w.heap.size s6 xs ∧ (xs = [] ∨ ∃ a b, xs = [a, b] ∧ (-200000 ≤ a ∧ a ≤ 126229000000) ∧ (-200000 ≤ b ∧ b ≤ 126229000000))) ∧ NSt w B r (K + 21) z w.heap.size wx)
    case first =>
      (obtain ⟨c0, c1, c2, c3, c4, c5, c6, c7, c8, c9⟩ := Has.ten hH; have cf := hH.2.2)
      have hR := hR.drew
      have hA := Moved.drewr hA
      have hH := hH.drew
      go_region_with (first | (go_at_call 52; refine (pick_pos 40 r _ B (K + 20) hR (by omega) (by omega) (by omega)).mono ?_; rintro e wp ⟨q, rfl, q0, q9, hR, hM⟩; have hA := Moved.trans hA hM; have hH := hH.moved hM hbr; obtain ⟨d0, d1, d2, d3, d4, d5, d6, d7, d8, d9⟩ := Has.ten hH) | (go_at_call 39; refine (sChangesOf z _ _).mono ?_; rintro e w3 ⟨v, rfl, hI, hb⟩; have hI := hI.lower (B' := w.heap.size) hA.2.2.2.1; have hR := hR.below hb; have hA := hA.below hb; have hH := hH.below hb))
      all_goals
        go_wp2_with fail
        go_meet
        exact ⟨⟨_, hI, chg_bd _ _⟩, hH, hR, hA⟩
    case rest =>
      clear hH hR hA
      obtain ⟨⟨xs, hI, hx⟩, hH, hR, hA⟩ := hcut
      go_upto_region 3 with fail
      go_cut [24] from 17 to 23 (fun s24 wx => (∃ c : Bool, s24 = .bool c ∧ (c = true → ∃ a b, xs = [a, b] ∧ (-200000 ≤ a ∧ a ≤ 126229000000) ∧ (-200000 ≤ b ∧ b ≤ 126229000000))) ∧ Ints wx w.heap.size u6 xs ∧ NSt w B r (K + 22) z w.heap.size wx)
      case first =>
        rcases hx with rfl | ⟨a, b, rfl, ha, hb⟩
        · obtain ⟨p, cap, rfl, l1, l2, l3⟩ := hI
          go_wp2_with fail
          go_meet
          exact ⟨⟨false, rfl, fun h => absurd h (by simp)⟩, ⟨p, cap, rfl, l1, l2, l3⟩, hH, Rd.more hR (by omega), hA⟩
        · have hI0 := hI
          obtain ⟨p, cap, rfl, l1, l2, l3⟩ := hI
          obtain ⟨bb, off, rfl, e2, e3, e4, e5⟩ := l3 (by simp)
          clear e4 e5
          go_wp2_with fail
          refine (pick_pos 3 r _ B (K + 21) hR (by omega) (by omega) (by omega)).mono ?_
          rintro e wp ⟨q, rfl, q0, q9, hR, hM⟩
          have hA := Moved.trans hA hM
          have hH := hH.moved hM hbr
          have hI := hI0.moved hM hr0
          rcases (show q = 0 ∨ 0 < q by omega) with rfl | q1
          all_goals
            go_wp2_with fail
            go_meet
            exact ⟨⟨_, rfl, fun _ => ⟨a, b, rfl, ha, hb⟩⟩, hI, hH, hR, hA⟩
      case rest =>
        clear hI hH hR hA hx
        obtain ⟨⟨c, rfl, hx⟩, hI, hH, hR, hA⟩ := hcut
        go_upto_if 24 with fail
        go_cut [5] from 25 to 39 (fun s5 wx => (∃ n : Int, s5 = .int .i64 n ∧ -400000 ≤ n ∧ n ≤ 126229100000) ∧ NSt w B r (K + 20000) z w.heap.size wx)
        case first =>
          cases c
          · go_wp2_with fail
            go_meet
            exact ⟨⟨n, rfl, by omega, by omega⟩, hH, Rd.more hR (by omega), hA⟩
          · obtain ⟨a, b, rfl, ha, hb⟩ := hx rfl
            obtain ⟨p, cap, hu, l1, l2, l3⟩ := hI
            obtain ⟨bb, off, rfl, e2, e3, e4, e5⟩ := l3 (by simp)
            have hu' : u6 = .slice (some ⟨bb, off, none⟩) 2 cap := hu
            clear hu
            subst hu'
            have e40 := e4 0 (by simp)
            have e41 := e4 1 (by simp)
            clear e4 e5 l3
            go_wp2_with fail
            have hbo : bb ≠ r := by omega
            have hX : Reg.Firm r (fun wx => Has wx w.heap.size z.cells ∧ Reg.Row wx bb off 2 (-200000) 126229000000) := Reg.Firm.and (Reg.Has.firm hbr) (Reg.Row.firm hbo)
            have hex : Has wc w.heap.size z.cells ∧ Reg.Row wc bb off 2 (-200000) 126229000000 := ⟨hH, fun j hj => by
              rcases (show j = 0 ∨ j = 1 by omega) with rfl | rfl
              · exact ⟨a, e40, by omega, by omega⟩
              · exact ⟨b, e41, by omega, by omega⟩⟩
            have hmv := hA
            have hrb : r < wc.heap.size := hR.2.1
            generalize hbase : wc.heap.size = base at *
            refine Reg.wp_region_typed (by kernel_rfl) (TNear bb off base r (.slice (some ⟨bb, off, none⟩) 2 cap)) (Reg.PlainX 1000 (fun wx => Has wx w.heap.size z.cells ∧ Reg.Row wx bb off 2 (-200000) 126229000000) w B r (K + 22) base) (Reg.Fut base) TNear_fut (by kernel_rfl) ?_ (Reg.each_op ⟨?_, ?_, ?_, ?_, ?_, ?_, ?_, ?_, ?_, ?_, ?_, ?_, ?_, ?_, ?_, ?_, trivial⟩) ?_
            · exact ⟨hR.drew, by show base ≤ wc.heap.size; omega, Moved.drewr hmv, hex⟩
            · intro l a w' k hi hk hO hA hL hG K hK
              have hk' : k < 16 := hk
              have h6 := hO 6 (Reg.no_dst (by kernel_rfl))
              simp at h6
              unfold Oper.wp
              simp [execOp, Act.eval, Oper.upon, h6, go_sem]
              exact hK _ _ (fun _ => rfl) (Reg.Fut.refl _ _) (fun k' h1 h2 => hG.same h1)
            · intro l a w' k hi hk hO hA hL hG K hK
              have hk' : k < 16 := hk
              have h0 := hO 0 (Reg.no_dst (by kernel_rfl))
              simp at h0
              unfold Oper.wp
              simp [execOp, Act.eval, Oper.upon, h0, go_sem]
              exact hK _ _ (fun _ => rfl) (Reg.Fut.refl _ _) (fun k' h1 h2 => hG.same h1)
            · intro l a w' k hi hk hO hA hL hG K hK
              have hk' : k < 16 := hk
              have h26 := hA 1 _ 26 rfl (by simp; first | exact rfl | exact .inl rfl) rfl
              simp only [TNear] at h26
              simp only [Array.getD_eq_getD_getElem?] at h26
              unfold Oper.wp
              simp [execOp, Act.eval, Oper.upon, h26, go_sem]
              refine (pick_any _ _ _ _ _ hG.rd (by omega) (by omega)).mono ?_
              rintro e wz ⟨p, rfl, p0, p9, hR, hM, hS'⟩
              exact hK _ _ (fun _ => ⟨p, rfl, by omega, by omega⟩) (Reg.Fut.moved hM hrb) (fun k' h1 h2 => hG.moved h1 hM (Reg.rd_more hR (by omega)) hX)
            · intro l a w' k hi hk hO hA hL hG K hK
              have hk' : k < 16 := hk
              have h25 := hA 0 _ 25 rfl (by simp; first | exact rfl | exact .inl rfl) rfl
              simp only [TNear] at h25
              simp only [Array.getD_eq_getD_getElem?] at h25
              have h27 := hA 2 _ 27 rfl (by simp; first | exact rfl | exact .inl rfl) rfl
              simp only [TNear] at h27
              simp only [Array.getD_eq_getD_getElem?] at h27
              obtain ⟨q, h27, q0, q9⟩ := h27
              have q1 : q < 2 := by omega
              unfold Oper.wp
              simp [execOp, Act.eval, Oper.upon, h25, h27, q0, q1, go_sem]
              exact hK _ _ (fun _ => ⟨q.toNat, by omega, rfl⟩) (Reg.Fut.refl _ _) (fun k' h1 h2 => hG.same h1)
            · intro l a w' k hi hk hO hA hL hG K hK
              have hk' : k < 16 := hk
              have h28 := hA 3 _ 28 rfl (by simp; first | exact rfl | exact .inl rfl) rfl
              simp only [TNear] at h28
              simp only [Array.getD_eq_getD_getElem?] at h28
              obtain ⟨j, hj, h28⟩ := h28
              obtain ⟨x, hx, x0, x9⟩ := hG.ex.2 j hj
              unfold Oper.wp
              simp [execOp, Act.eval, Oper.upon, h28, hx, go_sem]
              exact hK _ _ (fun _ => ⟨x, rfl, x0, x9⟩) (Reg.Fut.refl _ _) (fun k' h1 h2 => hG.same h1)
            · intro l a w' k hi hk hO hA hL hG K hK
              have hk' : k < 16 := hk
              have h0 := hO 0 (Reg.no_dst (by kernel_rfl))
              simp at h0
              unfold Oper.wp
              simp [execOp, Act.eval, Oper.upon, h0, go_sem]
              exact hK _ _ (fun _ => rfl) (Reg.Fut.refl _ _) (fun k' h1 h2 => hG.same h1)
            · intro l a w' k hi hk hO hA hL hG K hK
              have hk' : k < 16 := hk
              have h30 := hA 5 _ 30 rfl (by simp; first | exact rfl | exact .inl rfl) rfl
              simp only [TNear] at h30
              simp only [Array.getD_eq_getD_getElem?] at h30
              unfold Oper.wp
              simp [execOp, Act.eval, Oper.upon, h30, go_sem]
              refine (pick_any _ _ _ _ _ hG.rd (by omega) (by omega)).mono ?_
              rintro e wz ⟨p, rfl, p0, p9, hR, hM, hS'⟩
              exact hK _ _ (fun _ => ⟨p, rfl, by omega, by omega⟩) (Reg.Fut.moved hM hrb) (fun k' h1 h2 => hG.moved h1 hM (Reg.rd_more hR (by omega)) hX)
            · intro l a w' k hi hk hO hA hL hG K hK
              have hk' : k < 16 := hk
              have h31 := hA 6 _ 31 rfl (by simp; first | exact rfl | exact .inl rfl) rfl
              simp only [TNear] at h31
              simp only [Array.getD_eq_getD_getElem?] at h31
              obtain ⟨p, h31, p0, p9⟩ := h31
              have hw1 : IntKind.i64.wrap (p - 128) = p - 128 := IntWalk.i64_in _ (by omega)
              unfold Oper.wp
              simp [execOp, Act.eval, Oper.upon, h31, hw1, go_sem]
              exact hK _ _ (fun _ => ⟨_, rfl, by omega, by omega⟩) (Reg.Fut.refl _ _) (fun k' h1 h2 => hG.same h1)
            · intro l a w' k hi hk hO hA hL hG K hK
              have hk' : k < 16 := hk
              have h32 := hA 7 _ 32 rfl (by simp; first | exact rfl | exact .inl rfl) rfl
              simp only [TNear] at h32
              simp only [Array.getD_eq_getD_getElem?] at h32
              obtain ⟨q, h32, q0, q9⟩ := h32
              have hw1 : IntKind.i64.wrap (60 * q) = 60 * q := IntWalk.i64_in _ (by omega)
              unfold Oper.wp
              simp [execOp, Act.eval, Oper.upon, h32, hw1, go_sem]
              exact hK _ _ (fun _ => ⟨_, rfl, by omega, by omega⟩) (Reg.Fut.refl _ _) (fun k' h1 h2 => hG.same h1)
            · intro l a w' k hi hk hO hA hL hG K hK
              have hk' : k < 16 := hk
              have h33 := hA 8 _ 33 rfl (by simp; first | exact rfl | exact .inl rfl) rfl
              simp only [TNear] at h33
              simp only [Array.getD_eq_getD_getElem?] at h33
              obtain ⟨p33, h33, p330, p339⟩ := h33
              unfold Oper.wp
              simp [execOp, Act.eval, Oper.upon, h33, go_sem]
              exact hK _ _ (fun _ => Reg.tab_new _ _ hG.size rfl rfl (by first | (simp [intOf]; done) | (simp [intOf]; omega))) (Reg.Fut.below ((Below.refl _ _).alloc (Nat.le_refl _) _)) (fun k' h1 h2 => hG.alloc h1 hX _)
            · intro l a w' k hi hk hO hA hL hG K hK
              have hk' : k < 16 := hk
              have h0 := hO 0 (Reg.no_dst (by kernel_rfl))
              simp at h0
              unfold Oper.wp
              simp [execOp, Act.eval, Oper.upon, h0, go_sem]
              exact hK _ _ (fun _ => rfl) (Reg.Fut.refl _ _) (fun k' h1 h2 => hG.same h1)
            · intro l a w' k hi hk hO hA hL hG K hK
              have hk' : k < 16 := hk
              have h35 := hA 10 _ 35 rfl (by simp; first | exact rfl | exact .inl rfl) rfl
              simp only [TNear] at h35
              simp only [Array.getD_eq_getD_getElem?] at h35
              unfold Oper.wp
              simp [execOp, Act.eval, Oper.upon, h35, go_sem]
              refine (pick_any _ _ _ _ _ hG.rd (by omega) (by omega)).mono ?_
              rintro e wz ⟨p, rfl, p0, p9, hR, hM, hS'⟩
              exact hK _ _ (fun _ => ⟨p, rfl, by omega, by omega⟩) (Reg.Fut.moved hM hrb) (fun k' h1 h2 => hG.moved h1 hM (Reg.rd_more hR (by omega)) hX)
            · intro l a w' k hi hk hO hA hL hG K hK
              have hk' : k < 16 := hk
              have h34 := hA 9 _ 34 rfl (by simp; first | exact rfl | exact .inl rfl) rfl
              simp only [TNear] at h34
              simp only [Array.getD_eq_getD_getElem?] at h34
              have h36 := hA 11 _ 36 rfl (by simp; first | exact rfl | exact .inl rfl) rfl
              simp only [TNear] at h36
              simp only [Array.getD_eq_getD_getElem?] at h36
              obtain ⟨b, h34, b1, b2, b3⟩ := h34
              obtain ⟨q, h36, q0, q9⟩ := h36
              have q1 : q < 6 := by omega
              unfold Oper.wp
              simp [execOp, Act.eval, Oper.upon, h34, h36, q0, q1, go_sem]
              exact hK _ _ (fun _ => ⟨b, q.toNat, rfl, b1, b2, b3 q.toNat (by omega)⟩) (Reg.Fut.refl _ _) (fun k' h1 h2 => hG.same h1)
            · intro l a w' k hi hk hO hA hL hG K hK
              have hk' : k < 16 := hk
              have h37 := hA 12 _ 37 rfl (by simp; first | exact rfl | exact .inl rfl) rfl
              simp only [TNear] at h37
              simp only [Array.getD_eq_getD_getElem?] at h37
              obtain ⟨b, q, h37, b1, b2, x, hx, x0, x9⟩ := h37
              unfold Oper.wp
              simp [execOp, Act.eval, Oper.upon, h37, hx, go_sem]
              exact hK _ _ (fun _ => ⟨x, rfl, x0, x9⟩) (Reg.Fut.refl _ _) (fun k' h1 h2 => hG.same h1)
            · intro l a w' k hi hk hO hA hL hG K hK
              have hk' : k < 16 := hk
              have h29 := hA 4 _ 29 rfl (by simp; first | exact rfl | exact .inl rfl) rfl
              simp only [TNear] at h29
              simp only [Array.getD_eq_getD_getElem?] at h29
              obtain ⟨p, h29, p0, p9⟩ := h29
              have h38 := hA 13 _ 38 rfl (by simp; first | exact rfl | exact .inl rfl) rfl
              simp only [TNear] at h38
              simp only [Array.getD_eq_getD_getElem?] at h38
              obtain ⟨q, h38, q0, q9⟩ := h38
              have hw1 : IntKind.i64.wrap (p + q) = p + q := IntWalk.i64_in _ (by omega)
              unfold Oper.wp
              simp [execOp, Act.eval, Oper.upon, h29, h38, hw1, go_sem]
              exact hK _ _ (fun _ => ⟨_, rfl, by omega, by omega⟩) (Reg.Fut.refl _ _) (fun k' h1 h2 => hG.same h1)
            · intro l a w' k hi hk hO hA hL hG K hK
              have hk' : k < 16 := hk
              have h39 := hA 14 _ 39 rfl (by simp; first | exact rfl | exact .inl rfl) rfl
              simp only [TNear] at h39
              simp only [Array.getD_eq_getD_getElem?] at h39
              obtain ⟨x, h39, x0, x9⟩ := h39
              unfold Oper.wp
              simp [execOp, Act.eval, Oper.upon, h39, go_sem]
              exact hK _ _ (fun _ => ⟨x, rfl, x0, x9⟩) (Reg.Fut.refl _ _) (fun k' h1 h2 => hG.same h1)
            · intro l a w' hK hall
              obtain ⟨kk, hkk, hG⟩ := hK.world'
              have hkk : kk ≤ 16 := hkk
              have hsz := hK.size
              have hdf : a.defers = [] := hK.defers
              simp at hsz
              have e0 := hK.other 0 (Reg.no_dst (by kernel_rfl))
              have e1 := hK.other 1 (Reg.no_dst (by kernel_rfl))
              have e2 := hK.other 2 (Reg.no_dst (by kernel_rfl))
              have e3 := hK.other 3 (Reg.no_dst (by kernel_rfl))
              have e4 := hK.other 4 (Reg.no_dst (by kernel_rfl))
              have e6 := hK.other 6 (Reg.no_dst (by kernel_rfl))
              have e7 := hK.other 7 (Reg.no_dst (by kernel_rfl))
              have e8 := hK.other 8 (Reg.no_dst (by kernel_rfl))
              have e9 := hK.other 9 (Reg.no_dst (by kernel_rfl))
              have e10 := hK.other 10 (Reg.no_dst (by kernel_rfl))
              have e11 := hK.other 11 (Reg.no_dst (by kernel_rfl))
              have e12 := hK.other 12 (Reg.no_dst (by kernel_rfl))
              have e13 := hK.other 13 (Reg.no_dst (by kernel_rfl))
              have e14 := hK.other 14 (Reg.no_dst (by kernel_rfl))
              have e15 := hK.other 15 (Reg.no_dst (by kernel_rfl))
              have e16 := hK.other 16 (Reg.no_dst (by kernel_rfl))
              have e17 := hK.other 17 (Reg.no_dst (by kernel_rfl))
              have e18 := hK.other 18 (Reg.no_dst (by kernel_rfl))
              have e19 := hK.other 19 (Reg.no_dst (by kernel_rfl))
              have e20 := hK.other 20 (Reg.no_dst (by kernel_rfl))
              have e21 := hK.other 21 (Reg.no_dst (by kernel_rfl))
              have e22 := hK.other 22 (Reg.no_dst (by kernel_rfl))
              have e23 := hK.other 23 (Reg.no_dst (by kernel_rfl))
              have e24 := hK.other 24 (Reg.no_dst (by kernel_rfl))
              have e40 := hK.other 40 (Reg.no_dst (by kernel_rfl))
              have e41 := hK.other 41 (Reg.no_dst (by kernel_rfl))
              have e42 := hK.other 42 (Reg.no_dst (by kernel_rfl))
              have e43 := hK.other 43 (Reg.no_dst (by kernel_rfl))
              have e44 := hK.other 44 (Reg.no_dst (by kernel_rfl))
              have e45 := hK.other 45 (Reg.no_dst (by kernel_rfl))
              have e46 := hK.other 46 (Reg.no_dst (by kernel_rfl))
              have e47 := hK.other 47 (Reg.no_dst (by kernel_rfl))
              simp at e0 e1 e2 e3 e4 e6 e7 e8 e9 e10 e11 e12 e13 e14 e15 e16 e17 e18 e19 e20 e21 e22 e23 e24 e40 e41 e42 e43 e44 e45 e46 e47
              have h5 := hK.val 15 _ 5 rfl (hall 15 (by decide)) rfl
              simp only [TNear] at h5
              simp only [Array.getD_eq_getD_getElem?] at h5
              obtain ⟨z5, h5, z50, z59⟩ := h5
              have hl := Reg.lit hsz
              simp [List.range, List.range.loop, e0, e1, e2, e3, e4, e6, e7, e8, e9, e10, e11, e12, e13, e14, e15, e16, e17, e18, e19, e20, e21, e22, e23, e24, e40, e41, e42, e43, e44, e45, e46, e47, h5] at hl
              clear hK hall hsz e0 e1 e2 e3 e4 e6 e7 e8 e9 e10 e11 e12 e13 e14 e15 e16 e17 e18 e19 e20 e21 e22 e23 e24 e40 e41 e42 e43 e44 e45 e46 e47 h5
              obtain ⟨tm, df⟩ := a
              simp only at hl hdf
              generalize (tm[25]?).getD undef = w25 at hl
              generalize (tm[26]?).getD undef = w26 at hl
              generalize (tm[27]?).getD undef = w27 at hl
              generalize (tm[28]?).getD undef = w28 at hl
              generalize (tm[29]?).getD undef = w29 at hl
              generalize (tm[30]?).getD undef = w30 at hl
              generalize (tm[31]?).getD undef = w31 at hl
              generalize (tm[32]?).getD undef = w32 at hl
              generalize (tm[33]?).getD undef = w33 at hl
              generalize (tm[34]?).getD undef = w34 at hl
              generalize (tm[35]?).getD undef = w35 at hl
              generalize (tm[36]?).getD undef = w36 at hl
              generalize (tm[37]?).getD undef = w37 at hl
              generalize (tm[38]?).getD undef = w38 at hl
              generalize (tm[39]?).getD undef = w39 at hl
              subst hl hdf
              go_wp2_with fail
              go_meet
              exact ⟨⟨z5, rfl, by omega, by omega⟩, hG.ex.1, Rd.more hG.rd (by omega), hG.mv⟩
        case rest =>
          clear hI hH hR hA hx
          obtain ⟨⟨n1, rfl, n10, n19⟩, hH, hR, hA⟩ := hcut
          go_wp2_with fail
          refine (odd_any _ r _ B (K + 20000) hR (by omega) (by omega)).mono ?_
          rintro e wv ⟨o, rfl, hR, hM⟩
          have hA := Moved.trans hA hM
          have hr := hR.2.1
          cases o
          · go_wp2
            go_ret
            exact ⟨_, rfl, by omega, by omega, Rd.more hR (by omega), hA⟩
          · go_wp2_with fail
            (refine (pick_pos 5 r _ B (K + 20000 + 1) (Rd.alloc hR _) (by omega) (by omega) (by omega)).mono ?_; rintro e wp ⟨x, rfl, x0, x9, hR, hM⟩; have hA := Moved.trans (Moved.alloc hA _) hM; have hr := hR.2.1)
            (obtain ⟨y1, y10, y19, hy⟩ := tabB hM (by first | omega | (simp only [World.size_alloc]; omega) | (simp only [World.size_alloc, World.size_setCell]; omega)) (-1) 126227807999 x rfl (by omega) (by first | (simp [nums]; done) | (simp [nums]; omega)) (by first | (simp [nums, intOf]; done) | (simp [nums, intOf]; omega)); try simp only [World.size_alloc, World.size_setCell] at hy)
            go_wp2
            go_ret
            exact ⟨_, rfl, by omega, by omega, Rd.more hR (by omega), hA⟩

/-- A draw's answer of a zone and a number, whatever the code is. -/
def ZonedN (w : World) (e : Ending) (w' : World) : Prop := ∃ (z : Zn) (n : Int), e = .returned (.tuple #[(.agg #[.int .i64 (z.o), .int .i64 (z.s), .int .i64 (z.m), .int .i64 (z.k), .int .i64 (z.d), .int .i64 (z.i), .int .i64 (z.m'), .int .i64 (z.k'), .int .i64 (z.d'), .int .i64 (z.i')]), .int .i64 n]) ∧ Zb z ∧ (-400000 ≤ n ∧ n ≤ 126229100000) ∧ Below w.heap.size w w'

def TOffset (base r : Nat) (st : Value) : Nat → World → Value → Prop
  | 0, w, v => v = st
  | 1, w, v => v = .pointer (some ⟨r, 0, none⟩)
  | 2, w, v => v = st
  | 3, w, v => Reg.IntIn (-400000) 126229100000 v
  | 5, w, v => Reg.IntIn (-400000) 126229100000 v
  | _, _, _ => True
theorem TOffset_fut {base r : Nat} {st : Value} : ∀ i w w' v, TOffset base r st i w v → Reg.Fut base w w' → TOffset base r st i w' v := by
  intro i w w' v h f
  unfold TOffset at *
  split at h
  all_goals exact h
set_option maxHeartbeats 4000000 in
theorem drawOffsetAt (v : Value) (w : World) (B : Nat) (h : BytesAt w B v) (hB : B = w.heap.size) :
    Calls Try.prog 35 #[v] w (ZonedN w) := by
  go_enter Try.func35, Try.ntmps35
  (have hz0 := hB; go_wp2_with fail; refine (open_rd _ _ _ (by first | with_reducible assumption | exact bytes_alloc h (by omega) _) (by first | omega | (simp; omega))).mono ?_; rintro e w1 ⟨r, rfl, hr0, hR, hb0⟩; have hr := hR.2.1)
  go_wp2_with fail
  refine (zone_any _ _ _ _ _ (by repeat' (first | with_reducible assumption | with_reducible apply Rd.alloc | with_reducible apply Rd.drew | with_reducible refine Rd.store ?_ ?_ _ | omega | (simp; done) | (simp; omega))) (by omega) (by omega)).mono ?_
  rintro e w2 ⟨zz, rfl, hz, hR, hM⟩
  have hwr : w.heap.size < r := by have := hr0; simp at this; omega
  have hB2 := hb0.trans (hM.to_below _ hr0 hb0.size)
  have hbw : Below w.heap.size w w2 := ((Below.refl _ _).alloc (Nat.le_refl _) _).trans (hB2.mono (by simp))
  have hout0 := (Has.made w _ _).below hB2
  have hr2 := hR.2.1
  clear hM hb0 hB2
  go_wp2_with fail
  have hsrc : Has (w2.alloc (.cells #[.int .i64 zz.o, .int .i64 zz.s, .int .i64 zz.m, .int .i64 zz.k, .int .i64 zz.d, .int .i64 zz.i, .int .i64 zz.m', .int .i64 zz.k', .int .i64 zz.d', .int .i64 zz.i'] 26)) w2.heap.size #[.int .i64 zz.o, .int .i64 zz.s, .int .i64 zz.m, .int .i64 zz.k, .int .i64 zz.d, .int .i64 zz.i, .int .i64 zz.m', .int .i64 zz.k', .int .i64 zz.d', .int .i64 zz.i'].toList := Has.made w2 _ _
  have hR := hR.alloc (.cells #[.int .i64 zz.o, .int .i64 zz.s, .int .i64 zz.m, .int .i64 zz.k, .int .i64 zz.d, .int .i64 zz.i, .int .i64 zz.m', .int .i64 zz.k', .int .i64 zz.d', .int .i64 zz.i'] 26)
  have hmv := (Reg.Moved.of_below (r := r) hbw).alloc (.cells #[.int .i64 zz.o, .int .i64 zz.s, .int .i64 zz.m, .int .i64 zz.k, .int .i64 zz.d, .int .i64 zz.i, .int .i64 zz.m', .int .i64 zz.k', .int .i64 zz.d', .int .i64 zz.i'] 26)
  have hout : ∃ us : List Value, us.length = 10 ∧ Has (w2.alloc (.cells #[.int .i64 zz.o, .int .i64 zz.s, .int .i64 zz.m, .int .i64 zz.k, .int .i64 zz.d, .int .i64 zz.i, .int .i64 zz.m', .int .i64 zz.k', .int .i64 zz.d', .int .i64 zz.i'] 26)) w.heap.size us := ⟨_, rfl, hout0.alloc _⟩
  have hs2 := hsrc.1
  generalize w2.alloc (.cells #[.int .i64 zz.o, .int .i64 zz.s, .int .i64 zz.m, .int .i64 zz.k, .int .i64 zz.d, .int .i64 zz.i, .int .i64 zz.m', .int .i64 zz.k', .int .i64 zz.d', .int .i64 zz.i'] 26) = wp at *
  generalize w2.heap.size = b at *
  have hbr : b ≠ r := by omega
  have hcr : w.heap.size ≠ r := by omega
  have hcb : w.heap.size ≠ b := by omega
  have hBc : B ≤ w.heap.size := by omega
  have h0c : w.heap.size ≤ w.heap.size := Nat.le_refl _
  have hrb : r < wp.heap.size := by omega
  have hcbase : w.heap.size < wp.heap.size := by omega
  have hwr : w.heap.size ≤ r := by omega
  generalize hbase : wp.heap.size = base at *
  refine Reg.wp_region_typed (by kernel_rfl) (TOffset base r ((.agg #[.int .i64 (zz.o), .int .i64 (zz.s), .int .i64 (zz.m), .int .i64 (zz.k), .int .i64 (zz.d), .int .i64 (zz.i), .int .i64 (zz.m'), .int .i64 (zz.k'), .int .i64 (zz.d'), .int .i64 (zz.i')]))) (Reg.Bear 50000 w B r (0 + 60) base b w.heap.size [.int .i64 zz.o, .int .i64 zz.s, .int .i64 zz.m, .int .i64 zz.k, .int .i64 zz.d, .int .i64 zz.i, .int .i64 zz.m', .int .i64 zz.k', .int .i64 zz.d', .int .i64 zz.i'] 4) (Reg.Fut base) TOffset_fut (by kernel_rfl) ?_ (Reg.each_op ⟨?_, ?_, ?_, ?_, ?_, ?_, trivial⟩) ?_
  · exact ⟨hR.drew, by show base ≤ wp.heap.size; omega, Moved.drewr hmv, hsrc.drew, by obtain ⟨us, e, hu⟩ := hout; exact ⟨us, e, hu.drew⟩, fun h => by simp [Array.getD_eq_getD_getElem?] at h⟩
  · intro l a w' k hi hk hO hA hL hG K hK
    have hk' : k < 6 := hk
    have h5 := hO 5 (Reg.no_dst (by kernel_rfl))
    simp at h5
    have s0 : w'.cell? ⟨b, 0, none⟩ = some (.int .i64 zz.o) := hG.src.2.1 0 (by simp)
    have s1 : w'.cell? ⟨b, 1, none⟩ = some (.int .i64 zz.s) := hG.src.2.1 1 (by simp)
    have s2 : w'.cell? ⟨b, 2, none⟩ = some (.int .i64 zz.m) := hG.src.2.1 2 (by simp)
    have s3 : w'.cell? ⟨b, 3, none⟩ = some (.int .i64 zz.k) := hG.src.2.1 3 (by simp)
    have s4 : w'.cell? ⟨b, 4, none⟩ = some (.int .i64 zz.d) := hG.src.2.1 4 (by simp)
    have s5 : w'.cell? ⟨b, 5, none⟩ = some (.int .i64 zz.i) := hG.src.2.1 5 (by simp)
    have s6 : w'.cell? ⟨b, 6, none⟩ = some (.int .i64 zz.m') := hG.src.2.1 6 (by simp)
    have s7 : w'.cell? ⟨b, 7, none⟩ = some (.int .i64 zz.k') := hG.src.2.1 7 (by simp)
    have s8 : w'.cell? ⟨b, 8, none⟩ = some (.int .i64 zz.d') := hG.src.2.1 8 (by simp)
    have s9 : w'.cell? ⟨b, 9, none⟩ = some (.int .i64 zz.i') := hG.src.2.1 9 (by simp)
    unfold Oper.wp
    simp [execOp, Act.eval, Oper.upon, h5, s0, s1, s2, s3, s4, s5, s6, s7, s8, s9, go_sem]
    exact hK _ _ (fun _ => rfl) (Reg.Fut.refl _ _) (fun k' h1 h2 => hG.same h1 hi (by omega))
  · intro l a w' k hi hk hO hA hL hG K hK
    have hk' : k < 6 := hk
    have h4 := hO 4 (Reg.no_dst (by kernel_rfl))
    simp at h4
    unfold Oper.wp
    simp [execOp, Act.eval, Oper.upon, h4, go_sem]
    exact hK _ _ (fun _ => rfl) (Reg.Fut.refl _ _) (fun k' h1 h2 => hG.same h1 hi (by omega))
  · intro l a w' k hi hk hO hA hL hG K hK
    have hk' : k < 6 := hk
    have h5 := hO 5 (Reg.no_dst (by kernel_rfl))
    simp at h5
    have s0 : w'.cell? ⟨b, 0, none⟩ = some (.int .i64 zz.o) := hG.src.2.1 0 (by simp)
    have s1 : w'.cell? ⟨b, 1, none⟩ = some (.int .i64 zz.s) := hG.src.2.1 1 (by simp)
    have s2 : w'.cell? ⟨b, 2, none⟩ = some (.int .i64 zz.m) := hG.src.2.1 2 (by simp)
    have s3 : w'.cell? ⟨b, 3, none⟩ = some (.int .i64 zz.k) := hG.src.2.1 3 (by simp)
    have s4 : w'.cell? ⟨b, 4, none⟩ = some (.int .i64 zz.d) := hG.src.2.1 4 (by simp)
    have s5 : w'.cell? ⟨b, 5, none⟩ = some (.int .i64 zz.i) := hG.src.2.1 5 (by simp)
    have s6 : w'.cell? ⟨b, 6, none⟩ = some (.int .i64 zz.m') := hG.src.2.1 6 (by simp)
    have s7 : w'.cell? ⟨b, 7, none⟩ = some (.int .i64 zz.k') := hG.src.2.1 7 (by simp)
    have s8 : w'.cell? ⟨b, 8, none⟩ = some (.int .i64 zz.d') := hG.src.2.1 8 (by simp)
    have s9 : w'.cell? ⟨b, 9, none⟩ = some (.int .i64 zz.i') := hG.src.2.1 9 (by simp)
    unfold Oper.wp
    simp [execOp, Act.eval, Oper.upon, h5, s0, s1, s2, s3, s4, s5, s6, s7, s8, s9, go_sem]
    exact hK _ _ (fun _ => rfl) (Reg.Fut.refl _ _) (fun k' h1 h2 => hG.same h1 hi (by omega))
  · intro l a w' k hi hk hO hA hL hG K hK
    have hk' : k < 6 := hk
    have h11 := hA 1 _ 11 rfl (by simp; first | exact rfl | exact .inl rfl) rfl
    simp only [TOffset] at h11
    simp only [Array.getD_eq_getD_getElem?] at h11
    have h12 := hA 2 _ 12 rfl (by simp; first | exact rfl | exact .inl rfl) rfl
    simp only [TOffset] at h12
    simp only [Array.getD_eq_getD_getElem?] at h12
    unfold Oper.wp
    simp [execOp, Act.eval, Oper.upon, h11, h12, go_sem]
    refine (near_any zz _ _ _ _ hG.rd (by omega)).mono ?_
    rintro e wz ⟨p, rfl, p0, p9, hR, hM⟩
    exact hK _ _ (fun _ => ⟨p, rfl, by omega, by omega⟩) (Reg.Fut.moved hM hrb) (fun k' h1 h2 => hG.moved h1 hi (by omega) hM (Reg.rd_more hR (by omega)) hbr hcr)
  · intro l a w' k hi hk hO hA hL hG K hK
    have hk' : k < 6 := hk
    have h2 := hO 2 (Reg.no_dst (by kernel_rfl))
    simp at h2
    have h10 := hA 0 _ 10 rfl (by simp; first | exact rfl | exact .inl rfl) rfl
    simp only [TOffset] at h10
    simp only [Array.getD_eq_getD_getElem?] at h10
    obtain ⟨us, ul, hu⟩ := hG.out
    have ov := Reg.many_val (n := 10) (by simpa using ul)
    obtain ⟨u0, e0⟩ := ov 0 (by omega)
    obtain ⟨u1, e1⟩ := ov 1 (by omega)
    obtain ⟨u2, e2⟩ := ov 2 (by omega)
    obtain ⟨u3, e3⟩ := ov 3 (by omega)
    obtain ⟨u4, e4⟩ := ov 4 (by omega)
    obtain ⟨u5, e5⟩ := ov 5 (by omega)
    obtain ⟨u6, e6⟩ := ov 6 (by omega)
    obtain ⟨u7, e7⟩ := ov 7 (by omega)
    obtain ⟨u8, e8⟩ := ov 8 (by omega)
    obtain ⟨u9, e9⟩ := ov 9 (by omega)
    have o0 := (hu.2.1 0 (by rw [ul]; simp)).trans e0
    have o1 := (hu.2.1 1 (by rw [ul]; simp)).trans e1
    have o2 := (hu.2.1 2 (by rw [ul]; simp)).trans e2
    have o3 := (hu.2.1 3 (by rw [ul]; simp)).trans e3
    have o4 := (hu.2.1 4 (by rw [ul]; simp)).trans e4
    have o5 := (hu.2.1 5 (by rw [ul]; simp)).trans e5
    have o6 := (hu.2.1 6 (by rw [ul]; simp)).trans e6
    have o7 := (hu.2.1 7 (by rw [ul]; simp)).trans e7
    have o8 := (hu.2.1 8 (by rw [ul]; simp)).trans e8
    have o9 := (hu.2.1 9 (by rw [ul]; simp)).trans e9
    have of := hu.2.2
    unfold Oper.wp
    simp [execOp, Act.eval, Oper.upon, h2, h10, o0, o1, o2, o3, o4, o5, o6, o7, o8, o9, of, go_sem]
    exact hK undef (writes w' w.heap.size 0 [.int .i64 zz.o, .int .i64 zz.s, .int .i64 zz.m, .int .i64 zz.k, .int .i64 zz.d, .int .i64 zz.i, .int .i64 zz.m', .int .i64 zz.k', .int .i64 zz.d', .int .i64 zz.i']) (fun h => absurd rfl h) (Reg.writes_fut hcbase _ _ _) (fun k' h1 h2 => hG.store h1 hcb hcr hBc h0c hcbase)
  · intro l a w' k hi hk hO hA hL hG K hK
    have hk' : k < 6 := hk
    have h13 := hA 3 _ 13 rfl (by simp; first | exact rfl | exact .inl rfl) rfl
    simp only [TOffset] at h13
    simp only [Array.getD_eq_getD_getElem?] at h13
    obtain ⟨x, h13, x0, x9⟩ := h13
    unfold Oper.wp
    simp [execOp, Act.eval, Oper.upon, h13, go_sem]
    exact hK _ _ (fun _ => ⟨x, rfl, x0, x9⟩) (Reg.Fut.refl _ _) (fun k' h1 h2 => hG.same h1 hi (by omega))
  · intro l a w' hK hall
    have h2 := hK.other 2 (Reg.no_dst (by kernel_rfl))
    simp at h2
    have hc := hK.world.done (hall 4 (by decide))
    have c0 : w'.cell? ⟨w.heap.size, 0, none⟩ = some (.int .i64 zz.o) := hc.2.1 0 (by simp)
    have c1 : w'.cell? ⟨w.heap.size, 1, none⟩ = some (.int .i64 zz.s) := hc.2.1 1 (by simp)
    have c2 : w'.cell? ⟨w.heap.size, 2, none⟩ = some (.int .i64 zz.m) := hc.2.1 2 (by simp)
    have c3 : w'.cell? ⟨w.heap.size, 3, none⟩ = some (.int .i64 zz.k) := hc.2.1 3 (by simp)
    have c4 : w'.cell? ⟨w.heap.size, 4, none⟩ = some (.int .i64 zz.d) := hc.2.1 4 (by simp)
    have c5 : w'.cell? ⟨w.heap.size, 5, none⟩ = some (.int .i64 zz.i) := hc.2.1 5 (by simp)
    have c6 : w'.cell? ⟨w.heap.size, 6, none⟩ = some (.int .i64 zz.m') := hc.2.1 6 (by simp)
    have c7 : w'.cell? ⟨w.heap.size, 7, none⟩ = some (.int .i64 zz.k') := hc.2.1 7 (by simp)
    have c8 : w'.cell? ⟨w.heap.size, 8, none⟩ = some (.int .i64 zz.d') := hc.2.1 8 (by simp)
    have c9 : w'.cell? ⟨w.heap.size, 9, none⟩ = some (.int .i64 zz.i') := hc.2.1 9 (by simp)
    have h3 := hK.val 5 _ 3 rfl (hall 5 (by decide)) rfl
    simp only [TOffset] at h3
    simp only [Array.getD_eq_getD_getElem?] at h3
    obtain ⟨z3, h3, z30, z39⟩ := h3
    have hbw := hK.world.mv.to_below w.heap.size hwr (Nat.le_refl _)
    have hdf : a.defers = [] := hK.defers
    clear hK hall hc
    go_wp2
    refine bodyPost_ret (v := .tuple #[(.agg #[.int .i64 (zz.o), .int .i64 (zz.s), .int .i64 (zz.m), .int .i64 (zz.k), .int .i64 (zz.d), .int .i64 (zz.i), .int .i64 (zz.m'), .int .i64 (zz.k'), .int .i64 (zz.d'), .int .i64 (zz.i')]), .int .i64 z3]) (by simp [results, Try.results35, go_sem, h2, c0, c1, c2, c3, c4, c5, c6, c7, c8, c9, h3]) hdf ?_
    exact ⟨zz, z3, rfl, hz, ⟨by omega, by omega⟩, hbw⟩

def TChg (base r : Nat) (st : Value) : Nat → World → Value → Prop
  | 0, w, v => v = st
  | 1, w, v => v = .pointer (some ⟨r, 0, none⟩)
  | 2, w, v => Reg.IntIn 0 39 v
  | 3, w, v => Reg.IntIn 2000 2039 v
  | 4, w, v => v = .pointer (some ⟨r, 0, none⟩)
  | 5, w, v => Reg.IntIn (-10000) 10000 v
  | 6, w, v => Reg.Tab base w 6 (-10000) 10000 v
  | 7, w, v => Reg.Tab base w 8 0 5 v
  | 8, w, v => v = .pointer (some ⟨r, 0, none⟩)
  | 9, w, v => Reg.IntIn 0 7 v
  | 10, w, v => Reg.Spot base w 0 5 v
  | 11, w, v => Reg.IntIn 0 5 v
  | 12, w, v => Reg.Spot base w (-10000) 10000 v
  | 13, w, v => Reg.IntIn (-10000) 10000 v
  | 15, w, v => Reg.IntIn (-10000) 10000 v
  | _, _, _ => True
theorem TChg_fut {base r : Nat} {st : Value} : ∀ i w w' v, TChg base r st i w v → Reg.Fut base w w' → TChg base r st i w' v := by
  intro i w w' v h f
  unfold TChg at *
  split at h
  case h_7 => exact h.fut f
  case h_8 => exact h.fut f
  case h_11 => exact h.fut f
  case h_13 => exact h.fut f
  all_goals exact h
set_option maxHeartbeats 4000000 in
theorem drawChangesOf (v : Value) (w : World) (B : Nat) (h : BytesAt w B v) (hB : B = w.heap.size) :
    Calls Try.prog 38 #[v] w (ZonedN w) := by
  go_enter Try.func38, Try.ntmps38
  (have hz0 := hB; go_wp2_with fail; refine (open_rd _ _ _ (by first | with_reducible assumption | exact bytes_alloc h (by omega) _) (by first | omega | (simp; omega))).mono ?_; rintro e w1 ⟨r, rfl, hr0, hR, hb0⟩; have hr := hR.2.1)
  go_wp2_with fail
  refine (zone_any _ _ _ _ _ (by repeat' (first | with_reducible assumption | with_reducible apply Rd.alloc | with_reducible apply Rd.drew | with_reducible refine Rd.store ?_ ?_ _ | omega | (simp; done) | (simp; omega))) (by omega) (by omega)).mono ?_
  rintro e w2 ⟨zz, rfl, hz, hR, hM⟩
  have hwr : w.heap.size < r := by have := hr0; simp at this; omega
  have hB2 := hb0.trans (hM.to_below _ hr0 hb0.size)
  have hbw : Below w.heap.size w w2 := ((Below.refl _ _).alloc (Nat.le_refl _) _).trans (hB2.mono (by simp))
  have hout0 := (Has.made w _ _).below hB2
  have hr2 := hR.2.1
  clear hM hb0 hB2
  go_wp2_with fail
  have hsrc : Has (w2.alloc (.cells #[.int .i64 zz.o, .int .i64 zz.s, .int .i64 zz.m, .int .i64 zz.k, .int .i64 zz.d, .int .i64 zz.i, .int .i64 zz.m', .int .i64 zz.k', .int .i64 zz.d', .int .i64 zz.i'] 26)) w2.heap.size #[.int .i64 zz.o, .int .i64 zz.s, .int .i64 zz.m, .int .i64 zz.k, .int .i64 zz.d, .int .i64 zz.i, .int .i64 zz.m', .int .i64 zz.k', .int .i64 zz.d', .int .i64 zz.i'].toList := Has.made w2 _ _
  have hR := hR.alloc (.cells #[.int .i64 zz.o, .int .i64 zz.s, .int .i64 zz.m, .int .i64 zz.k, .int .i64 zz.d, .int .i64 zz.i, .int .i64 zz.m', .int .i64 zz.k', .int .i64 zz.d', .int .i64 zz.i'] 26)
  have hmv := (Reg.Moved.of_below (r := r) hbw).alloc (.cells #[.int .i64 zz.o, .int .i64 zz.s, .int .i64 zz.m, .int .i64 zz.k, .int .i64 zz.d, .int .i64 zz.i, .int .i64 zz.m', .int .i64 zz.k', .int .i64 zz.d', .int .i64 zz.i'] 26)
  have hout : ∃ us : List Value, us.length = 10 ∧ Has (w2.alloc (.cells #[.int .i64 zz.o, .int .i64 zz.s, .int .i64 zz.m, .int .i64 zz.k, .int .i64 zz.d, .int .i64 zz.i, .int .i64 zz.m', .int .i64 zz.k', .int .i64 zz.d', .int .i64 zz.i'] 26)) w.heap.size us := ⟨_, rfl, hout0.alloc _⟩
  have hs2 := hsrc.1
  generalize w2.alloc (.cells #[.int .i64 zz.o, .int .i64 zz.s, .int .i64 zz.m, .int .i64 zz.k, .int .i64 zz.d, .int .i64 zz.i, .int .i64 zz.m', .int .i64 zz.k', .int .i64 zz.d', .int .i64 zz.i'] 26) = wp at *
  generalize w2.heap.size = b at *
  have hbr : b ≠ r := by omega
  have hcr : w.heap.size ≠ r := by omega
  have hcb : w.heap.size ≠ b := by omega
  have hBc : B ≤ w.heap.size := by omega
  have h0c : w.heap.size ≤ w.heap.size := Nat.le_refl _
  have hrb : r < wp.heap.size := by omega
  have hcbase : w.heap.size < wp.heap.size := by omega
  have hwr : w.heap.size ≤ r := by omega
  generalize hbase : wp.heap.size = base at *
  refine Reg.wp_region_typed (by kernel_rfl) (TChg base r ((.agg #[.int .i64 (zz.o), .int .i64 (zz.s), .int .i64 (zz.m), .int .i64 (zz.k), .int .i64 (zz.d), .int .i64 (zz.i), .int .i64 (zz.m'), .int .i64 (zz.k'), .int .i64 (zz.d'), .int .i64 (zz.i')]))) (Reg.Bear 1000 w B r (0 + 60) base b w.heap.size [.int .i64 zz.o, .int .i64 zz.s, .int .i64 zz.m, .int .i64 zz.k, .int .i64 zz.d, .int .i64 zz.i, .int .i64 zz.m', .int .i64 zz.k', .int .i64 zz.d', .int .i64 zz.i'] 14) (Reg.Fut base) TChg_fut (by kernel_rfl) ?_ (Reg.each_op ⟨?_, ?_, ?_, ?_, ?_, ?_, ?_, ?_, ?_, ?_, ?_, ?_, ?_, ?_, ?_, ?_, trivial⟩) ?_
  · exact ⟨hR.drew, by show base ≤ wp.heap.size; omega, Moved.drewr hmv, hsrc.drew, by obtain ⟨us, e, hu⟩ := hout; exact ⟨us, e, hu.drew⟩, fun h => by simp [Array.getD_eq_getD_getElem?] at h⟩
  · intro l a w' k hi hk hO hA hL hG K hK
    have hk' : k < 16 := hk
    have h5 := hO 5 (Reg.no_dst (by kernel_rfl))
    simp at h5
    have s0 : w'.cell? ⟨b, 0, none⟩ = some (.int .i64 zz.o) := hG.src.2.1 0 (by simp)
    have s1 : w'.cell? ⟨b, 1, none⟩ = some (.int .i64 zz.s) := hG.src.2.1 1 (by simp)
    have s2 : w'.cell? ⟨b, 2, none⟩ = some (.int .i64 zz.m) := hG.src.2.1 2 (by simp)
    have s3 : w'.cell? ⟨b, 3, none⟩ = some (.int .i64 zz.k) := hG.src.2.1 3 (by simp)
    have s4 : w'.cell? ⟨b, 4, none⟩ = some (.int .i64 zz.d) := hG.src.2.1 4 (by simp)
    have s5 : w'.cell? ⟨b, 5, none⟩ = some (.int .i64 zz.i) := hG.src.2.1 5 (by simp)
    have s6 : w'.cell? ⟨b, 6, none⟩ = some (.int .i64 zz.m') := hG.src.2.1 6 (by simp)
    have s7 : w'.cell? ⟨b, 7, none⟩ = some (.int .i64 zz.k') := hG.src.2.1 7 (by simp)
    have s8 : w'.cell? ⟨b, 8, none⟩ = some (.int .i64 zz.d') := hG.src.2.1 8 (by simp)
    have s9 : w'.cell? ⟨b, 9, none⟩ = some (.int .i64 zz.i') := hG.src.2.1 9 (by simp)
    unfold Oper.wp
    simp [execOp, Act.eval, Oper.upon, h5, s0, s1, s2, s3, s4, s5, s6, s7, s8, s9, go_sem]
    exact hK _ _ (fun _ => rfl) (Reg.Fut.refl _ _) (fun k' h1 h2 => hG.same h1 hi (by omega))
  · intro l a w' k hi hk hO hA hL hG K hK
    have hk' : k < 16 := hk
    have h4 := hO 4 (Reg.no_dst (by kernel_rfl))
    simp at h4
    unfold Oper.wp
    simp [execOp, Act.eval, Oper.upon, h4, go_sem]
    exact hK _ _ (fun _ => rfl) (Reg.Fut.refl _ _) (fun k' h1 h2 => hG.same h1 hi (by omega))
  · intro l a w' k hi hk hO hA hL hG K hK
    have hk' : k < 16 := hk
    have h11 := hA 1 _ 11 rfl (by simp; first | exact rfl | exact .inl rfl) rfl
    simp only [TChg] at h11
    simp only [Array.getD_eq_getD_getElem?] at h11
    unfold Oper.wp
    simp [execOp, Act.eval, Oper.upon, h11, go_sem]
    refine (pick_any _ _ _ _ _ hG.rd (by omega) (by omega)).mono ?_
    rintro e wz ⟨p, rfl, p0, p9, hR, hM, hS'⟩
    exact hK _ _ (fun _ => ⟨p, rfl, by omega, by omega⟩) (Reg.Fut.moved hM hrb) (fun k' h1 h2 => hG.moved h1 hi (by omega) hM (Reg.rd_more hR (by omega)) hbr hcr)
  · intro l a w' k hi hk hO hA hL hG K hK
    have hk' : k < 16 := hk
    have h12 := hA 2 _ 12 rfl (by simp; first | exact rfl | exact .inl rfl) rfl
    simp only [TChg] at h12
    simp only [Array.getD_eq_getD_getElem?] at h12
    obtain ⟨q, h12, q0, q9⟩ := h12
    have hw1 : IntKind.i64.wrap (2000 + q) = 2000 + q := IntWalk.i64_in _ (by omega)
    unfold Oper.wp
    simp [execOp, Act.eval, Oper.upon, h12, hw1, go_sem]
    exact hK _ _ (fun _ => ⟨_, rfl, by omega, by omega⟩) (Reg.Fut.refl _ _) (fun k' h1 h2 => hG.same h1 hi (by omega))
  · intro l a w' k hi hk hO hA hL hG K hK
    have hk' : k < 16 := hk
    have h4 := hO 4 (Reg.no_dst (by kernel_rfl))
    simp at h4
    unfold Oper.wp
    simp [execOp, Act.eval, Oper.upon, h4, go_sem]
    exact hK _ _ (fun _ => rfl) (Reg.Fut.refl _ _) (fun k' h1 h2 => hG.same h1 hi (by omega))
  · intro l a w' k hi hk hO hA hL hG K hK
    have hk' : k < 16 := hk
    have h14 := hA 4 _ 14 rfl (by simp; first | exact rfl | exact .inl rfl) rfl
    simp only [TChg] at h14
    simp only [Array.getD_eq_getD_getElem?] at h14
    unfold Oper.wp
    simp [execOp, Act.eval, Oper.upon, h14, go_sem]
    refine (year_any _ _ _ _ hG.rd (by omega)).mono ?_
    rintro e wz ⟨p, rfl, p0, p9, hR, hM⟩
    exact hK _ _ (fun _ => ⟨p, rfl, by omega, by omega⟩) (Reg.Fut.moved hM hrb) (fun k' h1 h2 => hG.moved h1 hi (by omega) hM (Reg.rd_more hR (by omega)) hbr hcr)
  · intro l a w' k hi hk hO hA hL hG K hK
    have hk' : k < 16 := hk
    have h13 := hA 3 _ 13 rfl (by simp; first | exact rfl | exact .inl rfl) rfl
    simp only [TChg] at h13
    simp only [Array.getD_eq_getD_getElem?] at h13
    obtain ⟨p13, h13, p130, p139⟩ := h13
    have h15 := hA 5 _ 15 rfl (by simp; first | exact rfl | exact .inl rfl) rfl
    simp only [TChg] at h15
    simp only [Array.getD_eq_getD_getElem?] at h15
    obtain ⟨p15, h15, p150, p159⟩ := h15
    unfold Oper.wp
    simp [execOp, Act.eval, Oper.upon, h13, h15, go_sem]
    exact hK _ _ (fun _ => Reg.tab_new _ _ hG.size rfl rfl (by first | (simp [intOf]; done) | (simp [intOf]; omega))) (Reg.Fut.below ((Below.refl _ _).alloc (Nat.le_refl _) _)) (fun k' h1 h2 => hG.alloc h1 hi (by omega) _)
  · intro l a w' k hi hk hO hA hL hG K hK
    have hk' : k < 16 := hk
    unfold Oper.wp
    simp [execOp, Act.eval, Oper.upon, hi, go_sem]
    exact hK _ _ (fun _ => Reg.tab_new _ _ hG.size rfl rfl (by first | (simp [intOf]; done) | (simp [intOf]; omega))) (Reg.Fut.below ((Below.refl _ _).alloc (Nat.le_refl _) _)) (fun k' h1 h2 => hG.alloc h1 hi (by omega) _)
  · intro l a w' k hi hk hO hA hL hG K hK
    have hk' : k < 16 := hk
    have h4 := hO 4 (Reg.no_dst (by kernel_rfl))
    simp at h4
    unfold Oper.wp
    simp [execOp, Act.eval, Oper.upon, h4, go_sem]
    exact hK _ _ (fun _ => rfl) (Reg.Fut.refl _ _) (fun k' h1 h2 => hG.same h1 hi (by omega))
  · intro l a w' k hi hk hO hA hL hG K hK
    have hk' : k < 16 := hk
    have h18 := hA 8 _ 18 rfl (by simp; first | exact rfl | exact .inl rfl) rfl
    simp only [TChg] at h18
    simp only [Array.getD_eq_getD_getElem?] at h18
    unfold Oper.wp
    simp [execOp, Act.eval, Oper.upon, h18, go_sem]
    refine (pick_any _ _ _ _ _ hG.rd (by omega) (by omega)).mono ?_
    rintro e wz ⟨p, rfl, p0, p9, hR, hM, hS'⟩
    exact hK _ _ (fun _ => ⟨p, rfl, by omega, by omega⟩) (Reg.Fut.moved hM hrb) (fun k' h1 h2 => hG.moved h1 hi (by omega) hM (Reg.rd_more hR (by omega)) hbr hcr)
  · intro l a w' k hi hk hO hA hL hG K hK
    have hk' : k < 16 := hk
    have h17 := hA 7 _ 17 rfl (by simp; first | exact rfl | exact .inl rfl) rfl
    simp only [TChg] at h17
    simp only [Array.getD_eq_getD_getElem?] at h17
    have h19 := hA 9 _ 19 rfl (by simp; first | exact rfl | exact .inl rfl) rfl
    simp only [TChg] at h19
    simp only [Array.getD_eq_getD_getElem?] at h19
    obtain ⟨b, h17, b1, b2, b3⟩ := h17
    obtain ⟨q, h19, q0, q9⟩ := h19
    have q1 : q < 8 := by omega
    unfold Oper.wp
    simp [execOp, Act.eval, Oper.upon, h17, h19, q0, q1, go_sem]
    exact hK _ _ (fun _ => ⟨b, q.toNat, rfl, b1, b2, b3 q.toNat (by omega)⟩) (Reg.Fut.refl _ _) (fun k' h1 h2 => hG.same h1 hi (by omega))
  · intro l a w' k hi hk hO hA hL hG K hK
    have hk' : k < 16 := hk
    have h20 := hA 10 _ 20 rfl (by simp; first | exact rfl | exact .inl rfl) rfl
    simp only [TChg] at h20
    simp only [Array.getD_eq_getD_getElem?] at h20
    obtain ⟨b, q, h20, b1, b2, x, hx, x0, x9⟩ := h20
    unfold Oper.wp
    simp [execOp, Act.eval, Oper.upon, h20, hx, go_sem]
    exact hK _ _ (fun _ => ⟨x, rfl, x0, x9⟩) (Reg.Fut.refl _ _) (fun k' h1 h2 => hG.same h1 hi (by omega))
  · intro l a w' k hi hk hO hA hL hG K hK
    have hk' : k < 16 := hk
    have h16 := hA 6 _ 16 rfl (by simp; first | exact rfl | exact .inl rfl) rfl
    simp only [TChg] at h16
    simp only [Array.getD_eq_getD_getElem?] at h16
    have h21 := hA 11 _ 21 rfl (by simp; first | exact rfl | exact .inl rfl) rfl
    simp only [TChg] at h21
    simp only [Array.getD_eq_getD_getElem?] at h21
    obtain ⟨b, h16, b1, b2, b3⟩ := h16
    obtain ⟨q, h21, q0, q9⟩ := h21
    have q1 : q < 6 := by omega
    unfold Oper.wp
    simp [execOp, Act.eval, Oper.upon, h16, h21, q0, q1, go_sem]
    exact hK _ _ (fun _ => ⟨b, q.toNat, rfl, b1, b2, b3 q.toNat (by omega)⟩) (Reg.Fut.refl _ _) (fun k' h1 h2 => hG.same h1 hi (by omega))
  · intro l a w' k hi hk hO hA hL hG K hK
    have hk' : k < 16 := hk
    have h22 := hA 12 _ 22 rfl (by simp; first | exact rfl | exact .inl rfl) rfl
    simp only [TChg] at h22
    simp only [Array.getD_eq_getD_getElem?] at h22
    obtain ⟨b, q, h22, b1, b2, x, hx, x0, x9⟩ := h22
    unfold Oper.wp
    simp [execOp, Act.eval, Oper.upon, h22, hx, go_sem]
    exact hK _ _ (fun _ => ⟨x, rfl, x0, x9⟩) (Reg.Fut.refl _ _) (fun k' h1 h2 => hG.same h1 hi (by omega))
  · intro l a w' k hi hk hO hA hL hG K hK
    have hk' : k < 16 := hk
    have h2 := hO 2 (Reg.no_dst (by kernel_rfl))
    simp at h2
    have h10 := hA 0 _ 10 rfl (by simp; first | exact rfl | exact .inl rfl) rfl
    simp only [TChg] at h10
    simp only [Array.getD_eq_getD_getElem?] at h10
    obtain ⟨us, ul, hu⟩ := hG.out
    have ov := Reg.many_val (n := 10) (by simpa using ul)
    obtain ⟨u0, e0⟩ := ov 0 (by omega)
    obtain ⟨u1, e1⟩ := ov 1 (by omega)
    obtain ⟨u2, e2⟩ := ov 2 (by omega)
    obtain ⟨u3, e3⟩ := ov 3 (by omega)
    obtain ⟨u4, e4⟩ := ov 4 (by omega)
    obtain ⟨u5, e5⟩ := ov 5 (by omega)
    obtain ⟨u6, e6⟩ := ov 6 (by omega)
    obtain ⟨u7, e7⟩ := ov 7 (by omega)
    obtain ⟨u8, e8⟩ := ov 8 (by omega)
    obtain ⟨u9, e9⟩ := ov 9 (by omega)
    have o0 := (hu.2.1 0 (by rw [ul]; simp)).trans e0
    have o1 := (hu.2.1 1 (by rw [ul]; simp)).trans e1
    have o2 := (hu.2.1 2 (by rw [ul]; simp)).trans e2
    have o3 := (hu.2.1 3 (by rw [ul]; simp)).trans e3
    have o4 := (hu.2.1 4 (by rw [ul]; simp)).trans e4
    have o5 := (hu.2.1 5 (by rw [ul]; simp)).trans e5
    have o6 := (hu.2.1 6 (by rw [ul]; simp)).trans e6
    have o7 := (hu.2.1 7 (by rw [ul]; simp)).trans e7
    have o8 := (hu.2.1 8 (by rw [ul]; simp)).trans e8
    have o9 := (hu.2.1 9 (by rw [ul]; simp)).trans e9
    have of := hu.2.2
    unfold Oper.wp
    simp [execOp, Act.eval, Oper.upon, h2, h10, o0, o1, o2, o3, o4, o5, o6, o7, o8, o9, of, go_sem]
    exact hK undef (writes w' w.heap.size 0 [.int .i64 zz.o, .int .i64 zz.s, .int .i64 zz.m, .int .i64 zz.k, .int .i64 zz.d, .int .i64 zz.i, .int .i64 zz.m', .int .i64 zz.k', .int .i64 zz.d', .int .i64 zz.i']) (fun h => absurd rfl h) (Reg.writes_fut hcbase _ _ _) (fun k' h1 h2 => hG.store h1 hcb hcr hBc h0c hcbase)
  · intro l a w' k hi hk hO hA hL hG K hK
    have hk' : k < 16 := hk
    have h23 := hA 13 _ 23 rfl (by simp; first | exact rfl | exact .inl rfl) rfl
    simp only [TChg] at h23
    simp only [Array.getD_eq_getD_getElem?] at h23
    obtain ⟨x, h23, x0, x9⟩ := h23
    unfold Oper.wp
    simp [execOp, Act.eval, Oper.upon, h23, go_sem]
    exact hK _ _ (fun _ => ⟨x, rfl, x0, x9⟩) (Reg.Fut.refl _ _) (fun k' h1 h2 => hG.same h1 hi (by omega))
  · intro l a w' hK hall
    have h2 := hK.other 2 (Reg.no_dst (by kernel_rfl))
    simp at h2
    have hc := hK.world.done (hall 14 (by decide))
    have c0 : w'.cell? ⟨w.heap.size, 0, none⟩ = some (.int .i64 zz.o) := hc.2.1 0 (by simp)
    have c1 : w'.cell? ⟨w.heap.size, 1, none⟩ = some (.int .i64 zz.s) := hc.2.1 1 (by simp)
    have c2 : w'.cell? ⟨w.heap.size, 2, none⟩ = some (.int .i64 zz.m) := hc.2.1 2 (by simp)
    have c3 : w'.cell? ⟨w.heap.size, 3, none⟩ = some (.int .i64 zz.k) := hc.2.1 3 (by simp)
    have c4 : w'.cell? ⟨w.heap.size, 4, none⟩ = some (.int .i64 zz.d) := hc.2.1 4 (by simp)
    have c5 : w'.cell? ⟨w.heap.size, 5, none⟩ = some (.int .i64 zz.i) := hc.2.1 5 (by simp)
    have c6 : w'.cell? ⟨w.heap.size, 6, none⟩ = some (.int .i64 zz.m') := hc.2.1 6 (by simp)
    have c7 : w'.cell? ⟨w.heap.size, 7, none⟩ = some (.int .i64 zz.k') := hc.2.1 7 (by simp)
    have c8 : w'.cell? ⟨w.heap.size, 8, none⟩ = some (.int .i64 zz.d') := hc.2.1 8 (by simp)
    have c9 : w'.cell? ⟨w.heap.size, 9, none⟩ = some (.int .i64 zz.i') := hc.2.1 9 (by simp)
    have h3 := hK.val 15 _ 3 rfl (hall 15 (by decide)) rfl
    simp only [TChg] at h3
    simp only [Array.getD_eq_getD_getElem?] at h3
    obtain ⟨z3, h3, z30, z39⟩ := h3
    have hbw := hK.world.mv.to_below w.heap.size hwr (Nat.le_refl _)
    have hdf : a.defers = [] := hK.defers
    clear hK hall hc
    go_wp2
    refine bodyPost_ret (v := .tuple #[(.agg #[.int .i64 (zz.o), .int .i64 (zz.s), .int .i64 (zz.m), .int .i64 (zz.k), .int .i64 (zz.d), .int .i64 (zz.i), .int .i64 (zz.m'), .int .i64 (zz.k'), .int .i64 (zz.d'), .int .i64 (zz.i')]), .int .i64 z3]) (by simp [results, Try.results38, go_sem, h2, c0, c1, c2, c3, c4, c5, c6, c7, c8, c9, h3]) hdf ?_
    exact ⟨zz, z3, rfl, hz, ⟨by omega, by omega⟩, hbw⟩

set_option maxHeartbeats 1000000 in
theorem drawLocalOf (v : Value) (w : World) (B : Nat) (h : BytesAt w B v) (hB : B = w.heap.size) :
    Calls Try.prog 16 #[v] w (ZonedN w) := by
  subst hB
  go_enter Try.func16, Try.ntmps16
  go_wp2_with fail
  refine (drawOffsetAt _ _ _ (bytes_next h _) rfl).mono ?_
  rintro e w2 ⟨z, n, rfl, hz, hn, hb⟩
  have az := below_new hb
  have z0 := az.1 0 _ rfl; have z1 := az.1 1 _ rfl; have z2 := az.1 2 _ rfl; have z3 := az.1 3 _ rfl; have z4 := az.1 4 _ rfl; have z5 := az.1 5 _ rfl; have z6 := az.1 6 _ rfl; have z7 := az.1 7 _ rfl; have z8 := az.1 8 _ rfl; have z9 := az.1 9 _ rfl
  have zf := az.2
  have hbw : Below w.heap.size w w2 := ((Below.refl _ _).alloc (Nat.le_refl _) _).trans (hb.mono (by simp))
  have hz' := hbw.size
  have SS := same_some
  clear az
  go_wp2_with fail
  ((try simp only [Exit.inBlock, Exit.then]); refine bodyPost_ret (v := .tuple #[(.agg #[.int .i64 (z.o), .int .i64 (z.s), .int .i64 (z.m), .int .i64 (z.k), .int .i64 (z.d), .int .i64 (z.i), .int .i64 (z.m'), .int .i64 (z.k'), .int .i64 (z.d'), .int .i64 (z.i')]), .int .i64 n]) (by simp [results, Try.results16, go_sem, *]; try rfl) rfl ?_)
  exact ⟨z, n, rfl, hz, hn, (by repeat' (first | with_reducible assumption | with_reducible exact Below.refl _ _ | with_reducible refine Below.setCell ?_ ?_ _ | with_reducible refine Below.alloc ?_ ?_ _ | with_reducible apply Below.drew | with_reducible apply Below.drewn | (simp; done) | (simp; omega)))⟩
end Go.Proofs.Ytlmmianaplahaaa
