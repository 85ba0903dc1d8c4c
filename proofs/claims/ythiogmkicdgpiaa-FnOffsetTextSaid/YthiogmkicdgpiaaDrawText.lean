/-
  THE MODEL's DRAWS OF CHAPTER 6: stamps, texts and minutes, whatever the code is.
-/
import Derived.Test.YthiogmkicdgpiaaTexts
import Derived.Test.YthiogmkicdgpiaaDrawMom
import Derived.Test.YthiogmkicdgpiaaRegDraw
import Derived.Test.YthiogmkicdgpiaaBear
import Derived.Test.YthiogmkicdgpiaaOdd
import Derived.Test.YthiogmkicdgpiaaTab
import Derived.Test.YthiogmkicdgpiaaTabS
set_option linter.unusedVariables false
set_option linter.unusedSimpArgs false
namespace Go.Proofs.Ythiogmkicdgpiaa
open Go.ChangeShapes Go.WideShapes Go.ChangeAt Go.RowKit Law Cal

/-- A text was handed back. -/
def GaveStr (w : World) (e : Ending) (w' : World) : Prop := ∃ x : ByteArray, e = .returned (.string x) ∧ x.size ≤ 1000 ∧ Below w.heap.size w w'

theorem sStampOf_ok (n : Int) (w : World) (h0 : 0 ≤ n) (h9 : n ≤ 126227807999) :
    Calls Try.prog 39 #[.int .i64 n] w fun e w' => ∃ y m d h i s : Int, e = .returned (.agg #[.int .i64 (y), .int .i64 (m), .int .i64 (d), .int .i64 (h), .int .i64 (i), .int .i64 (s)]) ∧ svB y m d h i s = true ∧ Below w.heap.size w w' :=
  (sStampOf n w).mono fun e w' ⟨he, hb⟩ => ⟨_, _, _, _, _, _, he, (stamp_is h0 h9).1, hb⟩
theorem odd_none (r : Nat) (w : World) (B K : Nat) (h : Rd w B r K) :
    Calls Try.prog 36 #[.pointer (some ⟨r, 0, none⟩), .int .i64 0] w fun e w' => e = .returned (.bool false) ∧ Rd w' B r K ∧ Moved r w w' := by
  go_enter Try.func36, Try.ntmps36
  go_wp2
  go_ret
  exact ⟨rfl, h, Moved.refl _ _⟩

set_option maxHeartbeats 4000000 in
theorem stamp_zero (r : Nat) (w : World) (B K : Nat) (h : Rd w B r K) (hK : K < 999990000) :
    Calls Try.prog 27 #[.pointer (some ⟨r, 0, none⟩), .int .i64 0] w fun e w' => ∃ y m d h i s : Int, e = .returned (.agg #[.int .i64 (y), .int .i64 (m), .int .i64 (d), .int .i64 (h), .int .i64 (i), .int .i64 (s)]) ∧ svB y m d h i s = true ∧ Rd w' B r (K + 20) ∧ Moved r w w' := by
  have hr := h.2.1
  have hr0 := h.2.1
  go_enter Try.func27, Try.ntmps27
  go_wp2_with fail
  refine (day_any _ _ _ _ (by repeat' (first | with_reducible assumption | with_reducible apply Rd.alloc | with_reducible apply Rd.drew | with_reducible refine Rd.store ?_ ?_ _ | omega | (simp; done) | (simp; omega))) (by omega)).mono ?_
  rintro e w1 ⟨q, rfl, q0, q9, hR, hM⟩
  have hA := hM
  have hr := hR.2.1
  go_wp2_with fail
  all_goals
    (refine (pick_pos _ _ _ _ _ (by repeat' (first | with_reducible assumption | with_reducible apply Rd.alloc | with_reducible apply Rd.drew | with_reducible refine Rd.store ?_ ?_ _ | omega | (simp; done) | (simp; omega))) (by omega) (by omega) (by omega)).mono ?_; rintro e wp ⟨a, rfl, a0, a9, hR, hM⟩; have hA := Moved.trans (show Moved r _ _ from (by repeat' (first | with_reducible exact hA | with_reducible apply Moved.alloc | with_reducible apply Moved.drewr | with_reducible refine Moved.store ?_ ?_ _ | with_reducible exact Moved.refl _ _ | omega | (simp; done) | (simp; omega)))) hM; have hr := hR.2.1)
    (go_wp2_with fail; refine (pick_pos _ _ _ _ _ (by repeat' (first | with_reducible assumption | with_reducible apply Rd.alloc | with_reducible apply Rd.drew | with_reducible refine Rd.store ?_ ?_ _ | omega | (simp; done) | (simp; omega))) (by omega) (by omega) (by omega)).mono ?_; rintro e wp ⟨b, rfl, b0, b9, hR, hM⟩; have hA := Moved.trans (show Moved r _ _ from (by repeat' (first | with_reducible exact hA | with_reducible apply Moved.alloc | with_reducible apply Moved.drewr | with_reducible refine Moved.store ?_ ?_ _ | with_reducible exact Moved.refl _ _ | omega | (simp; done) | (simp; omega)))) hM; have hr := hR.2.1)
    (go_wp2_with fail; refine (pick_pos _ _ _ _ _ (by repeat' (first | with_reducible assumption | with_reducible apply Rd.alloc | with_reducible apply Rd.drew | with_reducible refine Rd.store ?_ ?_ _ | omega | (simp; done) | (simp; omega))) (by omega) (by omega) (by omega)).mono ?_; rintro e wp ⟨c, rfl, c0, c9, hR, hM⟩; have hA := Moved.trans (show Moved r _ _ from (by repeat' (first | with_reducible exact hA | with_reducible apply Moved.alloc | with_reducible apply Moved.drewr | with_reducible refine Moved.store ?_ ?_ _ | with_reducible exact Moved.refl _ _ | omega | (simp; done) | (simp; omega)))) hM; have hr := hR.2.1)
    (go_wp2_with fail; refine (pick_pos _ _ _ _ _ (by repeat' (first | with_reducible assumption | with_reducible apply Rd.alloc | with_reducible apply Rd.drew | with_reducible refine Rd.store ?_ ?_ _ | omega | (simp; done) | (simp; omega))) (by omega) (by omega) (by omega)).mono ?_; rintro e wp ⟨d, rfl, d0, d9, hR, hM⟩; have hA := Moved.trans (show Moved r _ _ from (by repeat' (first | with_reducible exact hA | with_reducible apply Moved.alloc | with_reducible apply Moved.drewr | with_reducible refine Moved.store ?_ ?_ _ | with_reducible exact Moved.refl _ _ | omega | (simp; done) | (simp; omega)))) hM; have hr := hR.2.1)
    (obtain ⟨y, y0, y9, hy⟩ := tabB hM (by first | omega | (simp only [World.size_alloc]; omega) | (simp only [World.size_alloc, World.size_setCell]; omega)) 0 59 d rfl (by omega) (by first | (simp [nums]; done) | (simp [nums]; omega)) (by first | (simp [nums, intOf]; done) | (simp [nums, intOf]; omega)); try simp only [World.size_alloc, World.size_setCell] at hy)
    go_wp2_with fail
    refine (sStampOf_ok _ _ (by omega) (by omega)).mono ?_
    rintro e wq ⟨Y, M, D, H, I, S, rfl, hv, hb⟩
    have hR := Rd.below (by repeat' (first | with_reducible assumption | with_reducible apply Rd.alloc | with_reducible apply Rd.drew | with_reducible refine Rd.store ?_ ?_ _ | omega | (simp; done) | (simp; omega))) hb
    have hA := Moved.below (show Moved r _ _ from (by repeat' (first | with_reducible exact hA | with_reducible apply Moved.alloc | with_reducible apply Moved.drewr | with_reducible refine Moved.store ?_ ?_ _ | with_reducible exact Moved.refl _ _ | omega | (simp; done) | (simp; omega)))) hb
    have hr := hR.2.1
    have hrq := hR.2.1
    have hwq := hA.2.2.2.1
    simp only [World.size_alloc] at hwq
    have hne : wq.heap.size ≠ w.heap.size := by omega
    clear hM hy
    go_wp2_with fail
    refine (odd_none _ _ _ _ (by repeat' (first | with_reducible assumption | with_reducible apply Rd.alloc | with_reducible apply Rd.drew | with_reducible refine Rd.store ?_ ?_ _ | omega | (simp; done) | (simp; omega)))).mono ?_
    rintro e wp ⟨rfl, hR, hM⟩
    have hA := Moved.trans (show Moved r _ _ from (by repeat' (first | with_reducible exact hA | with_reducible apply Moved.alloc | with_reducible apply Moved.drewr | with_reducible refine Moved.store ?_ ?_ _ | with_reducible exact Moved.refl _ _ | omega | (simp; done) | (simp; omega)))) hM
    have hS := hM
    have hr := hR.2.1
    (have az := moved_new hA hr0; have az0 := az.1 0 _ rfl; have az1 := az.1 1 _ rfl; have az2 := az.1 2 _ rfl; have az3 := az.1 3 _ rfl; have az4 := az.1 4 _ rfl; have az5 := az.1 5 _ rfl; have af := az.2; clear az)
    (have bz := moved_new hS hrq; have bz0 := bz.1 0 _ rfl; have bz1 := bz.1 1 _ rfl; have bz2 := bz.1 2 _ rfl; have bz3 := bz.1 3 _ rfl; have bz4 := bz.1 4 _ rfl; have bz5 := bz.1 5 _ rfl; have bf := bz.2; clear bz)
    have hA := Moved.trans ((Moved.refl r w).alloc _) hA
    go_wp2_with fail
    ((try simp only [Exit.inBlock, Exit.then]); refine bodyPost_ret (v := (.agg #[.int .i64 (_), .int .i64 (_), .int .i64 (_), .int .i64 (_), .int .i64 (_), .int .i64 (_)])) (by simp [results, Try.results27, go_sem, *]; first | exact ⟨rfl, rfl, rfl, rfl, rfl, rfl⟩ | rfl) rfl ?_)
    exact ⟨_, _, _, _, _, _, rfl, hv, Rd.more (K := K + 5 + 1 + 1 + 1 + 1) (by repeat' (first | with_reducible assumption | with_reducible apply Rd.alloc | with_reducible apply Rd.drew | with_reducible refine Rd.store ?_ ?_ _ | omega | (simp; done) | (simp; omega))) (by omega), (by repeat' (first | with_reducible exact hA | with_reducible apply Moved.alloc | with_reducible apply Moved.drewr | with_reducible refine Moved.store ?_ ?_ _ | with_reducible exact Moved.refl _ _ | omega | (simp; done) | (simp; omega)))⟩

set_option maxHeartbeats 1000000 in
theorem drawStampText (v : Value) (w : World) (B : Nat) (h : BytesAt w B v) (hB : B = w.heap.size) :
    Calls Try.prog 11 #[v] w (Stamped1 w) := by
  go_enter Try.func11, Try.ntmps11
  (have hz0 := hB; go_wp2_with fail; refine (open_rd _ _ _ (by first | with_reducible assumption | exact bytes_alloc h (by omega) _) (by first | omega | (simp; omega))).mono ?_; rintro e w1 ⟨r, rfl, hr0, hR, hb0⟩; have hr := hR.2.1)
  go_wp2_with fail
  refine (stamp_any _ _ _ _ _ (by repeat' (first | with_reducible assumption | with_reducible apply Rd.alloc | with_reducible apply Rd.drew | with_reducible refine Rd.store ?_ ?_ _ | omega | (simp; done) | (simp; omega))) (by omega) (by omega)).mono ?_
  rintro e w2 ⟨y, m, d, h, i, s, rfl, by1, bm, bd, bh, bi, bs, hR, hM⟩
  (have hB2 := hb0.trans (hM.to_below _ hr0 hb0.size); have az := below_new hB2; have az0 := az.1 0 _ rfl; have az1 := az.1 1 _ rfl; have az2 := az.1 2 _ rfl; have az3 := az.1 3 _ rfl; have az4 := az.1 4 _ rfl; have az5 := az.1 5 _ rfl; have af := az.2; clear az; have hbw : Below w.heap.size w w2 := ((Below.refl _ _).alloc (Nat.le_refl _) _).trans (hB2.mono (by simp)); clear hM hb0 hB2; go_wp2_with fail; ((try simp only [Exit.inBlock, Exit.then]); refine bodyPost_ret (v := (.agg #[.int .i64 (_), .int .i64 (_), .int .i64 (_), .int .i64 (_), .int .i64 (_), .int .i64 (_)])) (by simp [results, Try.results11, go_sem, *]; first | exact ⟨rfl, rfl, rfl, rfl, rfl, rfl⟩ | rfl) rfl ?_))
  exact ⟨y, m, d, h, i, s, rfl, by1, bm, bd, bh, bi, bs, (by repeat' (first | with_reducible assumption | with_reducible exact Below.refl _ _ | with_reducible refine Below.setCell ?_ ?_ _ | with_reducible refine Below.alloc ?_ ?_ _ | with_reducible apply Below.drew | with_reducible apply Below.drewn | (simp; done) | (simp; omega)))⟩

set_option maxHeartbeats 1000000 in
theorem drawOffsetText (v : Value) (w : World) (B : Nat) (h : BytesAt w B v) (hB : B = w.heap.size) :
    Calls Try.prog 19 #[v] w fun e w' => ∃ n : Int, e = .returned (.int .i64 n) ∧ (-1000 ≤ n ∧ n ≤ 2000) ∧ Below w.heap.size w w' := by
  go_enter Try.func19, Try.ntmps19
  (have hz0 := hB; go_wp2_with fail; refine (open_rd _ _ _ (by first | with_reducible assumption | exact bytes_alloc h (by omega) _) (by first | omega | (simp; omega))).mono ?_; rintro e w1 ⟨r, rfl, hr0, hR, hb0⟩; have hr := hR.2.1)
  have hA := Moved.refl r w1
  (go_wp2_with fail; refine (pick_pos _ _ _ _ _ (by repeat' (first | with_reducible assumption | with_reducible apply Rd.alloc | with_reducible apply Rd.drew | with_reducible refine Rd.store ?_ ?_ _ | omega | (simp; done) | (simp; omega))) (by omega) (by omega) (by omega)).mono ?_; rintro e wp ⟨a, rfl, a0, a9, hR, hM⟩; have hA := Moved.trans (show Moved r _ _ from (by repeat' (first | with_reducible exact hA | with_reducible apply Moved.alloc | with_reducible apply Moved.drewr | with_reducible refine Moved.store ?_ ?_ _ | with_reducible exact Moved.refl _ _ | omega | (simp; done) | (simp; omega)))) hM; have hr := hR.2.1)
  (go_wp2_with fail; refine (pick_pos _ _ _ _ _ (by repeat' (first | with_reducible assumption | with_reducible apply Rd.alloc | with_reducible apply Rd.drew | with_reducible refine Rd.store ?_ ?_ _ | omega | (simp; done) | (simp; omega))) (by omega) (by omega) (by omega)).mono ?_; rintro e wp ⟨b, rfl, b0, b9, hR, hM⟩; have hA := Moved.trans (show Moved r _ _ from (by repeat' (first | with_reducible exact hA | with_reducible apply Moved.alloc | with_reducible apply Moved.drewr | with_reducible refine Moved.store ?_ ?_ _ | with_reducible exact Moved.refl _ _ | omega | (simp; done) | (simp; omega)))) hM; have hr := hR.2.1)
  (obtain ⟨x, x0, x9, hx⟩ := tabB hM (by first | omega | (simp only [World.size_alloc]; omega) | (simp only [World.size_alloc, World.size_setCell]; omega)) 0 6 b rfl (by omega) (by first | (simp [nums]; done) | (simp [nums]; omega)) (by first | (simp [nums, intOf]; done) | (simp [nums, intOf]; omega)); obtain ⟨y, y0, y9, hy⟩ := tabA hM (by first | omega | (simp only [World.size_alloc]; omega) | (simp only [World.size_alloc, World.size_setCell]; omega)) (-1000) 2000 x rfl (by omega) (by first | (simp [nums]; done) | (simp [nums]; omega)) (by first | (simp [nums, intOf]; done) | (simp [nums, intOf]; omega)); try simp only [World.size_alloc, World.size_setCell] at hx)
  go_wp2
  go_ret
  exact ⟨_, rfl, by omega, hb0.trans (Moved.to_below (r := r) hA _ hr0 hb0.size)⟩

/-- What the last statement's operations yield. -/
def TRead (base r : Nat) (s : ByteArray) : Nat → World → Value → Prop
  | 0, w, v => v = .string s
  | 1, w, v => IsStr v
  | 2, w, v => v = .string s
  | 3, w, v => v = .pointer (some ⟨r, 0, none⟩)
  | 4, w, v => v = .string s
  | 5, w, v => v = .int .i64 (s.size : Int)
  | 6, w, v => v = .int .i64 ((s.size : Int) + 1)
  | 7, w, v => Reg.IntIn 0 (s.size : Int) v
  | 8, w, v => IsStr v
  | 9, w, v => v = .string s
  | 10, w, v => IsStr v
  | 11, w, v => TabS base w 10 v
  | 12, w, v => v = .pointer (some ⟨r, 0, none⟩)
  | 13, w, v => Reg.IntIn 0 9 v
  | 14, w, v => SpotS base w v
  | 15, w, v => IsStr v
  | 16, w, v => IsStr v
  | _, _, _ => True
theorem TRead_fut {base r : Nat} {s : ByteArray} : ∀ i w w' v, TRead base r s i w v → Reg.Fut base w w' → TRead base r s i w' v := by
  intro i w w' v h f
  unfold TRead at *
  split at h
  case h_12 => exact h.fut f
  case h_15 => exact h.fut f
  all_goals exact h

set_option maxHeartbeats 4000000 in
theorem drawReadStamp (v : Value) (w : World) (B : Nat) (h : BytesAt w B v) (hB : B = w.heap.size) :
    Calls Try.prog 17 #[v] w (GaveStr w) := by
  go_enter Try.func17, Try.ntmps17
  (have hz0 := hB; go_wp2_with fail; refine (open_rd _ _ _ (by first | with_reducible assumption | exact bytes_alloc h (by omega) _) (by first | omega | (simp; omega))).mono ?_; rintro e w1 ⟨r, rfl, hr0, hR, hb0⟩; have hr := hR.2.1)
  go_wp2_with fail
  refine (stamp_zero _ _ _ _ (by repeat' (first | with_reducible assumption | with_reducible apply Rd.alloc | with_reducible apply Rd.drew | with_reducible refine Rd.store ?_ ?_ _ | omega | (simp; done) | (simp; omega))) (by omega)).mono ?_
  rintro e w2 ⟨y, m, d, h, i, s, rfl, hv, hR, hM⟩
  have hA := hM
  go_wp2_with fail
  refine (sStampText _ _ _ _ _ _ _).mono ?_
  rintro e w3 ⟨rfl, hb⟩
  have hR := hR.below hb
  have hA := hA.below hb
  have hsz : (stStr y m d h i s).size = 19 := by rw [stStr_yes hv, strOfNums_size, stTxt_len]
  generalize stStr y m d h i s = s at *
  clear hv hM hb
  go_wp2_with fail
  refine (odd_any _ _ _ _ _ hR (by omega) (by omega)).mono ?_
  rintro e wp ⟨c, rfl, hR, hM⟩
  have hA := hA.trans hM
  clear hM
  cases c
  · go_wp2
    go_ret
    exact ⟨_, rfl, by omega, hb0.trans (Moved.to_below (r := r) hA _ hr0 hb0.size)⟩
  · go_wp2_with fail
    have hmv := hA
    have hrb : r < wp.heap.size := hR.2.1
    have hq1 : ¬ (9223372036854775807 < s.size + 1) := by omega
    have hq2 : IntKind.i64.wrap ((s.size : Int) + 1) = (s.size : Int) + 1 := IntWalk.i64_in _ (by omega)
    have hq3 := hq1
    have hq4 : (1 : Int) ≤ (s.size : Int) := by omega
    generalize hbase : wp.heap.size = base at *
    refine Reg.wp_region_typed (by kernel_rfl) (TRead base r s) (Reg.Plain 1000 w1 B r (0 + 60) base) (Reg.Fut base) TRead_fut (by kernel_rfl) ?_ (Reg.each_op ⟨?_, ?_, ?_, ?_, ?_, ?_, ?_, ?_, ?_, ?_, ?_, ?_, ?_, ?_, ?_, ?_, ?_, trivial⟩) ?_
    · exact ⟨Reg.rd_more hR.drew (by omega), by show base ≤ wp.heap.size; omega, Moved.drewr hmv⟩
    · intro l a w' k hi hk hO hA hL hG K hK
      have hk' : k < 17 := hk
      have h4 := hO 4 (Reg.no_dst (by kernel_rfl))
      simp at h4
      unfold Oper.wp
      simp [execOp, Act.eval, Oper.upon, h4, go_sem]
      exact hK _ _ (fun _ => rfl) (Reg.Fut.refl _ _) (fun k' h1 h2 => hG.same h1)
    · intro l a w' k hi hk hO hA hL hG K hK
      have hk' : k < 17 := hk
      have h12 := hA 0 _ 12 rfl (by simp; first | exact rfl | exact .inl rfl | exact .inr rfl | exact .inr (.inl rfl)) rfl
      simp only [TRead] at h12
      simp only [Array.getD_eq_getD_getElem?] at h12
      unfold Oper.wp
      simp [execOp, Act.eval, Oper.upon, h12, hq1, go_sem]
      exact hK _ _ (fun _ => ⟨_, rfl, by first | (rw [ByteArray.size_append, hsz]; decide) | (simp; omega) | omega⟩) (Reg.Fut.refl _ _) (fun k' h1 h2 => hG.same h1)
    · intro l a w' k hi hk hO hA hL hG K hK
      have hk' : k < 17 := hk
      have h4 := hO 4 (Reg.no_dst (by kernel_rfl))
      simp at h4
      unfold Oper.wp
      simp [execOp, Act.eval, Oper.upon, h4, go_sem]
      exact hK _ _ (fun _ => rfl) (Reg.Fut.refl _ _) (fun k' h1 h2 => hG.same h1)
    · intro l a w' k hi hk hO hA hL hG K hK
      have hk' : k < 17 := hk
      have h3 := hO 3 (Reg.no_dst (by kernel_rfl))
      simp at h3
      unfold Oper.wp
      simp [execOp, Act.eval, Oper.upon, h3, go_sem]
      exact hK _ _ (fun _ => rfl) (Reg.Fut.refl _ _) (fun k' h1 h2 => hG.same h1)
    · intro l a w' k hi hk hO hA hL hG K hK
      have hk' : k < 17 := hk
      have h4 := hO 4 (Reg.no_dst (by kernel_rfl))
      simp at h4
      unfold Oper.wp
      simp [execOp, Act.eval, Oper.upon, h4, go_sem]
      exact hK _ _ (fun _ => rfl) (Reg.Fut.refl _ _) (fun k' h1 h2 => hG.same h1)
    · intro l a w' k hi hk hO hA hL hG K hK
      have hk' : k < 17 := hk
      have h16 := hA 4 _ 16 rfl (by simp; first | exact rfl | exact .inl rfl | exact .inr rfl | exact .inr (.inl rfl)) rfl
      simp only [TRead] at h16
      simp only [Array.getD_eq_getD_getElem?] at h16
      unfold Oper.wp
      simp [execOp, Act.eval, Oper.upon, h16, hq3, go_sem]
      exact hK _ _ (fun _ => rfl) (Reg.Fut.refl _ _) (fun k' h1 h2 => hG.same h1)
    · intro l a w' k hi hk hO hA hL hG K hK
      have hk' : k < 17 := hk
      have h17 := hA 5 _ 17 rfl (by simp; first | exact rfl | exact .inl rfl | exact .inr rfl | exact .inr (.inl rfl)) rfl
      simp only [TRead] at h17
      simp only [Array.getD_eq_getD_getElem?] at h17
      unfold Oper.wp
      simp [execOp, Act.eval, Oper.upon, h17, hq2, go_sem]
      exact hK _ _ (fun _ => rfl) (Reg.Fut.refl _ _) (fun k' h1 h2 => hG.same h1)
    · intro l a w' k hi hk hO hA hL hG K hK
      have hk' : k < 17 := hk
      have h15 := hA 3 _ 15 rfl (by simp; first | exact rfl | exact .inl rfl | exact .inr rfl | exact .inr (.inl rfl)) rfl
      simp only [TRead] at h15
      simp only [Array.getD_eq_getD_getElem?] at h15
      have h18 := hA 6 _ 18 rfl (by simp; first | exact rfl | exact .inl rfl | exact .inr rfl | exact .inr (.inl rfl)) rfl
      simp only [TRead] at h18
      simp only [Array.getD_eq_getD_getElem?] at h18
      unfold Oper.wp
      simp [execOp, Act.eval, Oper.upon, h15, h18, go_sem]
      refine (pick_any _ _ _ _ _ hG.rd (by omega) (by omega)).mono ?_
      rintro e wz ⟨p, rfl, p0, p9, hR, hM, hS'⟩
      exact hK _ _ (fun _ => ⟨p, rfl, by omega, by omega⟩) (Reg.Fut.moved hM hrb) (fun k' h1 h2 => hG.moved h1 hM (Reg.rd_more hR (by omega)))
    · intro l a w' k hi hk hO hA hL hG K hK
      have hk' : k < 17 := hk
      have h14 := hA 2 _ 14 rfl (by simp; first | exact rfl | exact .inl rfl | exact .inr rfl | exact .inr (.inl rfl)) rfl
      simp only [TRead] at h14
      simp only [Array.getD_eq_getD_getElem?] at h14
      have h19 := hA 7 _ 19 rfl (by simp; first | exact rfl | exact .inl rfl | exact .inr rfl | exact .inr (.inl rfl)) rfl
      simp only [TRead] at h19
      simp only [Array.getD_eq_getD_getElem?] at h19
      obtain ⟨p, h19, p0, p9⟩ := h19
      unfold Oper.wp
      simp [execOp, Act.eval, Oper.upon, h14, h19, p0, p9, go_sem]
      exact hK _ _ (fun _ => ⟨_, rfl, by first | (rw [ByteArray.size_append, hsz]; decide) | (simp; omega) | omega⟩) (Reg.Fut.refl _ _) (fun k' h1 h2 => hG.same h1)
    · intro l a w' k hi hk hO hA hL hG K hK
      have hk' : k < 17 := hk
      have h4 := hO 4 (Reg.no_dst (by kernel_rfl))
      simp at h4
      unfold Oper.wp
      simp [execOp, Act.eval, Oper.upon, h4, go_sem]
      exact hK _ _ (fun _ => rfl) (Reg.Fut.refl _ _) (fun k' h1 h2 => hG.same h1)
    · intro l a w' k hi hk hO hA hL hG K hK
      have hk' : k < 17 := hk
      have h21 := hA 9 _ 21 rfl (by simp; first | exact rfl | exact .inl rfl | exact .inr rfl | exact .inr (.inl rfl)) rfl
      simp only [TRead] at h21
      simp only [Array.getD_eq_getD_getElem?] at h21
      unfold Oper.wp
      simp [execOp, Act.eval, Oper.upon, h21, hq4, go_sem]
      exact hK _ _ (fun _ => ⟨_, rfl, by first | (rw [ByteArray.size_append, hsz]; decide) | (simp; omega) | omega⟩) (Reg.Fut.refl _ _) (fun k' h1 h2 => hG.same h1)
    · intro l a w' k hi hk hO hA hL hG K hK
      have hk' : k < 17 := hk
      have h13 := hA 1 _ 13 rfl (by simp; first | exact rfl | exact .inl rfl | exact .inr rfl | exact .inr (.inl rfl)) rfl
      simp only [TRead] at h13
      simp only [Array.getD_eq_getD_getElem?] at h13
      have h20 := hA 8 _ 20 rfl (by simp; first | exact rfl | exact .inl rfl | exact .inr rfl | exact .inr (.inl rfl)) rfl
      simp only [TRead] at h20
      simp only [Array.getD_eq_getD_getElem?] at h20
      have h22 := hA 10 _ 22 rfl (by simp; first | exact rfl | exact .inl rfl | exact .inr rfl | exact .inr (.inl rfl)) rfl
      simp only [TRead] at h22
      simp only [Array.getD_eq_getD_getElem?] at h22
      obtain ⟨x1, h13, l1⟩ := h13
      obtain ⟨x2, h20, l2⟩ := h20
      obtain ⟨x3, h22, l3⟩ := h22
      unfold Oper.wp
      simp [execOp, Act.eval, Oper.upon, h13, h20, h22, go_sem]
      exact hK _ _ (fun _ => tabs_new _ _ hG.size rfl (by simp; refine ⟨?_, ?_, ?_, ?_, ?_, ?_, ?_, ?_, ?_, ?_⟩ <;> exact ⟨_, rfl, by first | assumption | decide⟩)) (Reg.Fut.below ((Below.refl _ _).alloc (Nat.le_refl _) _)) (fun k' h1 h2 => hG.alloc h1 _)
    · intro l a w' k hi hk hO hA hL hG K hK
      have hk' : k < 17 := hk
      have h3 := hO 3 (Reg.no_dst (by kernel_rfl))
      simp at h3
      unfold Oper.wp
      simp [execOp, Act.eval, Oper.upon, h3, go_sem]
      exact hK _ _ (fun _ => rfl) (Reg.Fut.refl _ _) (fun k' h1 h2 => hG.same h1)
    · intro l a w' k hi hk hO hA hL hG K hK
      have hk' : k < 17 := hk
      have h24 := hA 12 _ 24 rfl (by simp; first | exact rfl | exact .inl rfl | exact .inr rfl | exact .inr (.inl rfl)) rfl
      simp only [TRead] at h24
      simp only [Array.getD_eq_getD_getElem?] at h24
      unfold Oper.wp
      simp [execOp, Act.eval, Oper.upon, h24, go_sem]
      refine (pick_any _ _ _ _ _ hG.rd (by omega) (by omega)).mono ?_
      rintro e wz ⟨p, rfl, p0, p9, hR, hM, hS'⟩
      exact hK _ _ (fun _ => ⟨p, rfl, by omega, by omega⟩) (Reg.Fut.moved hM hrb) (fun k' h1 h2 => hG.moved h1 hM (Reg.rd_more hR (by omega)))
    · intro l a w' k hi hk hO hA hL hG K hK
      have hk' : k < 17 := hk
      have h23 := hA 11 _ 23 rfl (by simp; first | exact rfl | exact .inl rfl | exact .inr rfl | exact .inr (.inl rfl)) rfl
      simp only [TRead] at h23
      simp only [Array.getD_eq_getD_getElem?] at h23
      have h25 := hA 13 _ 25 rfl (by simp; first | exact rfl | exact .inl rfl | exact .inr rfl | exact .inr (.inl rfl)) rfl
      simp only [TRead] at h25
      simp only [Array.getD_eq_getD_getElem?] at h25
      obtain ⟨b, h23, b1, b2, b3⟩ := h23
      obtain ⟨q, h25, q0, q9⟩ := h25
      have q1 : q < 10 := by omega
      unfold Oper.wp
      simp [execOp, Act.eval, Oper.upon, h23, h25, q0, q1, go_sem]
      exact hK _ _ (fun _ => ⟨b, q.toNat, rfl, b1, b2, b3 q.toNat (by omega)⟩) (Reg.Fut.refl _ _) (fun k' h1 h2 => hG.same h1)
    · intro l a w' k hi hk hO hA hL hG K hK
      have hk' : k < 17 := hk
      have h26 := hA 14 _ 26 rfl (by simp; first | exact rfl | exact .inl rfl | exact .inr rfl | exact .inr (.inl rfl)) rfl
      simp only [TRead] at h26
      simp only [Array.getD_eq_getD_getElem?] at h26
      obtain ⟨b, q, h26, b1, b2, u, hx, x, rfl, x9⟩ := h26
      unfold Oper.wp
      simp [execOp, Act.eval, Oper.upon, h26, hx, go_sem]
      exact hK _ _ (fun _ => ⟨x, rfl, x9⟩) (Reg.Fut.refl _ _) (fun k' h1 h2 => hG.same h1)
    · intro l a w' k hi hk hO hA hL hG K hK
      have hk' : k < 17 := hk
      have h27 := hA 15 _ 27 rfl (by simp; first | exact rfl | exact .inl rfl | exact .inr rfl | exact .inr (.inl rfl)) rfl
      simp only [TRead] at h27
      simp only [Array.getD_eq_getD_getElem?] at h27
      obtain ⟨x, h27, x9⟩ := h27
      unfold Oper.wp
      simp [execOp, Act.eval, Oper.upon, h27, go_sem]
      exact hK _ _ (fun _ => ⟨x, rfl, x9⟩) (Reg.Fut.refl _ _) (fun k' h1 h2 => hG.same h1)
    · intro l a w' hK hall
      have h2 := hK.val 16 _ 2 rfl (hall 16 (by decide)) rfl
      simp only [TRead] at h2
      simp only [Array.getD_eq_getD_getElem?] at h2
      obtain ⟨x, h2, x9⟩ := h2
      have hbw := hb0.trans (Moved.to_below (r := r) hK.world.mv _ hr0 hb0.size)
      have hdf : a.defers = [] := hK.defers
      clear hK hall
      go_wp2
      refine bodyPost_ret (v := .string x) (by simp [results, Try.results17, go_sem, h2]) hdf ?_
      exact ⟨x, rfl, x9, hbw⟩

theorem ofStr_size (n : Int) : (ofStr n).size ≤ 6 := by
  cases c : ofIn n
  · rw [ofStr_no c, strOfNums_size]; simp
  · rcases of_len c with ⟨_, _, h⟩ | ⟨_, h⟩ <;> omega
theorem sOffsetText_some (n : Int) (w : World) :
    Calls Try.prog 21 #[.int .i64 n] w fun e w' => ∃ x : ByteArray, e = .returned (.string x) ∧ x.size ≤ 6 ∧ Below w.heap.size w w' :=
  (sOffsetText n w).mono fun e w' ⟨he, hb⟩ => ⟨_, he, ofStr_size n, hb⟩

set_option maxHeartbeats 4000000 in
theorem drawReadOffset (v : Value) (w : World) (B : Nat) (h : BytesAt w B v) (hB : B = w.heap.size) :
    Calls Try.prog 23 #[v] w (GaveStr w) := by
  go_enter Try.func23, Try.ntmps23
  (have hz0 := hB; go_wp2_with fail; refine (open_rd _ _ _ (by first | with_reducible assumption | exact bytes_alloc h (by omega) _) (by first | omega | (simp; omega))).mono ?_; rintro e w1 ⟨r, rfl, hr0, hR, hb0⟩; have hr := hR.2.1)
  have hA := Moved.refl r w1
  (go_wp2_with fail; refine (pick_pos _ _ _ _ _ (by repeat' (first | with_reducible assumption | with_reducible apply Rd.alloc | with_reducible apply Rd.drew | with_reducible refine Rd.store ?_ ?_ _ | omega | (simp; done) | (simp; omega))) (by omega) (by omega) (by omega)).mono ?_; rintro e wp ⟨a, rfl, a0, a9, hR, hM⟩; have hA := Moved.trans (show Moved r _ _ from (by repeat' (first | with_reducible exact hA | with_reducible apply Moved.alloc | with_reducible apply Moved.drewr | with_reducible refine Moved.store ?_ ?_ _ | with_reducible exact Moved.refl _ _ | omega | (simp; done) | (simp; omega)))) hM; have hr := hR.2.1)
  clear hM
  go_wp2_with fail
  all_goals
    refine (sOffsetText_some _ _).mono ?_
    rintro e w3 ⟨s, rfl, hsz, hb⟩
    have hR := hR.below hb
    have hA := hA.below hb
    clear hb
    have hq1 : ¬ (9223372036854775807 < s.size + 1) := by omega
    go_wp2_with fail
    refine (odd_any _ _ _ _ _ hR (by omega) (by omega)).mono ?_
    rintro e wp ⟨c, rfl, hR, hM⟩
    have hA := hA.trans hM
    clear hM
    cases c
    · go_wp2
      go_ret
      exact ⟨_, rfl, by omega, hb0.trans (Moved.to_below (r := r) hA _ hr0 hb0.size)⟩
    · go_wp2_with fail
      have hr0p : r < wp.heap.size := hR.2.1
      (go_wp2_with fail; refine (pick_pos _ _ _ _ _ (by repeat' (first | with_reducible assumption | with_reducible apply Rd.alloc | with_reducible apply Rd.drew | with_reducible refine Rd.store ?_ ?_ _ | omega | (simp; done) | (simp; omega))) (by omega) (by omega) (by omega)).mono ?_; rintro e wp ⟨q, rfl, q0, q9, hR, hM⟩; have hA := Moved.trans (show Moved r _ _ from (by repeat' (first | with_reducible exact hA | with_reducible apply Moved.alloc | with_reducible apply Moved.drewr | with_reducible refine Moved.store ?_ ?_ _ | with_reducible exact Moved.refl _ _ | omega | (simp; done) | (simp; omega)))) hM; have hr := hR.2.1)
      obtain ⟨x, hx, hx9⟩ := str_entry hM hr0p (by simp; refine ⟨?_, ?_, ?_, ?_, ?_, ?_, ?_, ?_, ?_, ?_⟩ <;> exact ⟨_, rfl, by first | decide | (rw [ByteArray.size_append]; exact Nat.le_trans (Nat.add_le_add_right hsz _) (by decide))⟩) q q0 (by simpa using q9)
      clear hM
      go_wp2
      go_ret
      exact ⟨x, rfl, hx9, hb0.trans (Moved.to_below (r := r) hA _ hr0 hb0.size)⟩
end Go.Proofs.Ythiogmkicdgpiaa
