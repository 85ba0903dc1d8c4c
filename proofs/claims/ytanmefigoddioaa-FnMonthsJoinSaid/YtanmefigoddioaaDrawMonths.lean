/-
  CONTRACTS OF THE MODEL's DRAWS OF STAMPS AND MONTHS.
-/
import Derived.Test.YtanmefigoddioaaDrawMom
import Derived.Test.YtanmefigoddioaaTab
import Derived.Test.YtanmefigoddioaaRegDraw
import Derived.Deep.RegionWith
import Derived.Deep.RegionHeld3
set_option linter.unusedVariables false
set_option linter.unusedSimpArgs false
namespace Go.Proofs.Ytanmefigoddioaa
open Go.ChangeShapes Go.WideShapes Go.ChangeAt Go.RowKit Law Cal

/-- A draw's answer of a stamp and a number, whatever the code is. -/
def StampedK (lo hi : Int) (w : World) (e : Ending) (w' : World) : Prop := ∃ y m d h i s k : Int, e = .returned (.tuple #[(.agg #[.int .i64 (y), .int .i64 (m), .int .i64 (d), .int .i64 (h), .int .i64 (i), .int .i64 (s)]), .int .i64 k]) ∧ (-1 ≤ y ∧ y ≤ 4000) ∧ (-1 ≤ m ∧ m ≤ 100) ∧ (-1 ≤ d ∧ d ≤ 100) ∧ (-1 ≤ h ∧ h ≤ 100) ∧ (-1 ≤ i ∧ i ≤ 100) ∧ (-1 ≤ s ∧ s ≤ 100) ∧ lo ≤ k ∧ k ≤ hi ∧ Below w.heap.size w w'

/-- What the last statement's operations yield. -/
def MonthsT (base r : Nat) (st : Value) : Nat → World → Value → Prop
  | 0, _, v => v = st
  | 1, _, v => v = .pointer (some ⟨r, 0, none⟩)
  | 2, _, v => Reg.IntIn 0 39 v
  | 3, _, v => Reg.IntIn (-20) 19 v
  | 4, w, v => Reg.Tab base w 6 (-48001) 48001 v
  | 5, w, v => Reg.Tab base w 9 0 5 v
  | 6, _, v => v = .pointer (some ⟨r, 0, none⟩)
  | 7, _, v => Reg.IntIn 0 8 v
  | 8, w, v => Reg.Spot base w 0 5 v
  | 9, _, v => Reg.IntIn 0 5 v
  | 10, w, v => Reg.Spot base w (-48001) 48001 v
  | 11, _, v => Reg.IntIn (-48001) 48001 v
  | 13, _, v => Reg.IntIn (-48001) 48001 v
  | _, _, _ => True
theorem monthsT_fut {base r : Nat} {st : Value} : ∀ i w w' v, MonthsT base r st i w v → Reg.Fut base w w' → MonthsT base r st i w' v := by
  intro i w w' v h f
  unfold MonthsT at *
  split at h
  case h_5 => exact h.fut f
  case h_6 => exact h.fut f
  case h_9 => exact h.fut f
  case h_11 => exact h.fut f
  all_goals exact h

set_option maxHeartbeats 4000000 in
theorem drawMonthsLater (v : Value) (w : World) (B : Nat) (h : BytesAt w B v) (hB : B = w.heap.size) :
    Calls Try.prog 18 #[v] w (StampedK (-48001) 48001 w) := by
  go_enter Try.func18, Try.ntmps18
  (have hz0 := hB; go_wp2_with fail; refine (open_rd _ _ _ (by first | with_reducible assumption | exact bytes_alloc h (by omega) _) (by first | omega | (simp; omega))).mono ?_; rintro e w1 ⟨r, rfl, hr0, hR, hb0⟩; have hr := hR.2.1)
  go_wp2_with fail
  refine (stamp_any _ _ _ _ _ (by repeat' (first | with_reducible assumption | with_reducible apply Rd.alloc | with_reducible apply Rd.drew | with_reducible refine Rd.store ?_ ?_ _ | omega | (simp; done) | (simp; omega))) (by omega) (by omega)).mono ?_
  rintro e w2 ⟨y, m, d, hh, i, s, rfl, by1, bm, bd, bh, bi, bs, hR, hM⟩
  have hA := hM
  have hr := hR.2.1
  have hrq := hR.2.1
  go_wp2_with fail
  (refine (pick_pos _ _ _ _ _ (by repeat' (first | with_reducible assumption | with_reducible apply Rd.alloc | with_reducible apply Rd.drew | with_reducible refine Rd.store ?_ ?_ _ | omega | (simp; done) | (simp; omega))) (by omega) (by omega) (by omega)).mono ?_; rintro e wp ⟨a, rfl, a0, a9, hR, hM⟩; have hA := Moved.trans (show Moved r _ _ from (by repeat' (first | with_reducible exact hA | with_reducible apply Moved.alloc | with_reducible apply Moved.drewr | with_reducible refine Moved.store ?_ ?_ _ | with_reducible exact Moved.refl _ _ | omega | (simp; done) | (simp; omega)))) hM; have hr := hR.2.1)
  have hS := hM
  (have bz := moved_new hS hrq; have bz0 := bz.1 0 _ rfl; have bz1 := bz.1 1 _ rfl; have bz2 := bz.1 2 _ rfl; have bz3 := bz.1 3 _ rfl; have bz4 := bz.1 4 _ rfl; have bz5 := bz.1 5 _ rfl; have bf := bz.2; clear bz)
  have hne2 : w2.heap.size ≠ r := by omega
  have hs2 : w2.heap.size < wp.heap.size := by have := hS.2.2.2.1; simp at this; omega
  have hwr : w.heap.size < r := by have := hr0; simp at this; omega
  have hB2 := hb0.trans (hA.to_below _ hr0 hb0.size)
  have hbw : Below w.heap.size w wp := ((Below.refl _ _).alloc (Nat.le_refl _) _).trans (hB2.mono (by simp))
  have az := below_new hB2
  have hsrc : ∀ o, o < 6 → wp.cell? ⟨w2.heap.size, o, none⟩ = some (([.int .i64 y, .int .i64 m, .int .i64 d, .int .i64 hh, .int .i64 i, .int .i64 s] : List Value).getD o undef) := fun o ho => by
    have : o = 0 ∨ o = 1 ∨ o = 2 ∨ o = 3 ∨ o = 4 ∨ o = 5 := by omega
    rcases this with rfl | rfl | rfl | rfl | rfl | rfl
    · exact bz0
    · exact bz1
    · exact bz2
    · exact bz3
    · exact bz4
    · exact bz5
  have hout : ∀ o, o < 6 → (∃ v, wp.cell? ⟨w.heap.size, o, none⟩ = some v) ∧ wp.frozen? ⟨w.heap.size, o, none⟩ = false := fun o ho => by
    have : o = 0 ∨ o = 1 ∨ o = 2 ∨ o = 3 ∨ o = 4 ∨ o = 5 := by omega
    refine ⟨?_, az.2 o⟩
    rcases this with rfl | rfl | rfl | rfl | rfl | rfl <;> exact ⟨_, az.1 _ _ rfl⟩
  have hwc : w.heap.size < wp.heap.size := by omega
  clear hB2 az hM hA hS
  by_cases ha : a = 0
  · subst ha
    go_wp2_with fail
    refine (sStampValid _ _ _ _ _ _ _).mono ?_
    rintro e wz ⟨rfl, hbz⟩
    have hfr : wz.frozen? ⟨w2.heap.size, 2, none⟩ = false := (Below_fr hbz _ _ hs2).trans (bf 2)
    have hsrc := fun o ho => (Below_at hbz _ o hs2).trans (hsrc o ho)
    have hout := fun o ho => (⟨by rw [Below_at hbz _ o hwc]; exact (hout o ho).1, (Below_fr hbz _ o hwc).trans (hout o ho).2⟩ : (∃ v, wz.cell? ⟨w.heap.size, o, none⟩ = some v) ∧ wz.frozen? ⟨w.heap.size, o, none⟩ = false)
    have hR := hR.below hbz
    have hr := hR.2.1
    have hbw := hbw.trans (hbz.mono (by have := hbw.size; omega))
    have hs2 : w2.heap.size < wz.heap.size := Nat.lt_of_lt_of_le hs2 hbz.size
    have hwc : w.heap.size < wz.heap.size := Nat.lt_of_lt_of_le hwc hbz.size
    clear bz0 bz1 bz2 bz3 bz4 bz5 bf
    have bz0 := hsrc 0 (by omega); have bz1 := hsrc 1 (by omega); have bz2 := hsrc 2 (by omega)
    simp at bz0 bz1 bz2
    cases hsv : svB y m d hh i s
    · clear hbz
      go_wp2_with fail
      generalize hbase : wz.heap.size = base at *
      have hrb : r < base := by have := hR.2.1; omega
      have hbb : w2.heap.size < base := by omega
      have hcb : w.heap.size < base := by omega
      have hcr : w.heap.size ≠ r := by omega
      have hwr' : w.heap.size ≤ r := by omega
      refine Reg.wp_region_typed (by kernel_rfl) (MonthsT base r (.agg #[.int .i64 (y), .int .i64 (m), .int .i64 (d), .int .i64 (hh), .int .i64 (i), .int .i64 (s)])) (Reg.Carry w B r (0 + 20 + 1) base w2.heap.size w.heap.size (fun o => ([.int .i64 y, .int .i64 m, .int .i64 d, .int .i64 hh, .int .i64 i, .int .i64 s] : List Value).getD o undef) 12) (Reg.Fut base) ?_ (by kernel_rfl) ?_ (Reg.each_op ⟨?_, ?_, ?_, ?_, ?_, ?_, ?_, ?_, ?_, ?_, ?_, ?_, ?_, ?_, trivial⟩) ?_
      · exact monthsT_fut
      · exact ⟨hR.drew, by show base ≤ wz.heap.size; omega, hbw.drew, fun o ho => hsrc o ho, fun o ho => hout o ho, fun h => by simp [Array.getD_eq_getD_getElem?] at h⟩
      · intro l a w' k hi hk hO hA hL hG K hK
        have hk' : k < 14 := hk
        have h5 := hO 5 (Reg.no_dst (by kernel_rfl))
        simp at h5
        have s0 := hG.src 0 (by omega); have s1 := hG.src 1 (by omega); have s2 := hG.src 2 (by omega); have s3 := hG.src 3 (by omega); have s4 := hG.src 4 (by omega); have s5 := hG.src 5 (by omega)
        simp at s0 s1 s2 s3 s4 s5
        unfold Oper.wp
        simp [execOp, Act.eval, Oper.upon, h5, s0, s1, s2, s3, s4, s5, go_sem]
        exact hK _ _ (fun _ => rfl) (Reg.Fut.refl _ _) (fun k' h1 h2 => hG.same h1 hi (by omega))
      · intro l a w' k hi hk hO hA hL hG K hK
        have hk' : k < 14 := hk
        have h4 := hO 4 (Reg.no_dst (by kernel_rfl))
        simp at h4
        unfold Oper.wp
        simp [execOp, Act.eval, Oper.upon, h4, go_sem]
        exact hK _ _ (fun _ => rfl) (Reg.Fut.refl _ _) (fun k' h1 h2 => hG.same h1 hi (by omega))
      · intro l a w' k hi hk hO hA hL hG K hK
        have hk' : k < 14 := hk
        have h24 := hA 1 _ 24 rfl (by simp; first | exact rfl | exact .inl rfl) rfl
        simp only [MonthsT] at h24
        simp only [Array.getD_eq_getD_getElem?] at h24
        unfold Oper.wp
        simp [execOp, Act.eval, Oper.upon, h24, go_sem]
        refine (pick_any _ _ _ _ _ hG.rd (by omega) (by omega)).mono ?_
        rintro e wz ⟨p, rfl, p0, p9, hR, hM, hS'⟩
        exact hK _ _ (fun _ => ⟨p, rfl, by omega, by omega⟩) (Reg.Fut.moved hM hrb) (fun k' h1 h2 => hG.moved h1 hi (by omega) hM (Reg.rd_more hR (by omega)) hbb hcb hne2 hcr hwr')
      · intro l a w' k hi hk hO hA hL hG K hK
        have hk' : k < 14 := hk
        have h25 := hA 2 _ 25 rfl (by simp; first | exact rfl | exact .inl rfl) rfl
        simp only [MonthsT] at h25
        simp only [Array.getD_eq_getD_getElem?] at h25
        obtain ⟨p, h25, p0, p9⟩ := h25
        have hw1 : IntKind.i64.wrap (p - 20) = p - 20 := IntWalk.i64_in _ (by omega)
        unfold Oper.wp
        simp [execOp, Act.eval, Oper.upon, h25, hw1, go_sem]
        exact hK _ _ (fun _ => ⟨_, rfl, by omega, by omega⟩) (Reg.Fut.refl _ _) (fun k' h1 h2 => hG.same h1 hi (by omega))
      · intro l a w' k hi hk hO hA hL hG K hK
        have hk' : k < 14 := hk
        have h26 := hA 3 _ 26 rfl (by simp; first | exact rfl | exact .inl rfl) rfl
        simp only [MonthsT] at h26
        simp only [Array.getD_eq_getD_getElem?] at h26
        obtain ⟨p, h26, p0, p9⟩ := h26
        unfold Oper.wp
        simp [execOp, Act.eval, Oper.upon, h26, go_sem]
        exact hK _ _ (fun _ => Reg.tab_new _ _ hG.size rfl rfl (by first | (simp [intOf]; done) | (simp [intOf]; omega))) (Reg.Fut.below ((Below.refl _ _).alloc (Nat.le_refl _) _)) (fun k' h1 h2 => hG.alloc h1 hi (by omega) _ hbb hcb)
      · intro l a w' k hi hk hO hA hL hG K hK
        have hk' : k < 14 := hk
        unfold Oper.wp
        simp [execOp, Act.eval, Oper.upon, hi, go_sem]
        exact hK _ _ (fun _ => Reg.tab_new _ _ hG.size rfl rfl (by first | (simp [intOf]; done) | (simp [intOf]; omega))) (Reg.Fut.below ((Below.refl _ _).alloc (Nat.le_refl _) _)) (fun k' h1 h2 => hG.alloc h1 hi (by omega) _ hbb hcb)
      · intro l a w' k hi hk hO hA hL hG K hK
        have hk' : k < 14 := hk
        have h4 := hO 4 (Reg.no_dst (by kernel_rfl))
        simp at h4
        unfold Oper.wp
        simp [execOp, Act.eval, Oper.upon, h4, go_sem]
        exact hK _ _ (fun _ => rfl) (Reg.Fut.refl _ _) (fun k' h1 h2 => hG.same h1 hi (by omega))
      · intro l a w' k hi hk hO hA hL hG K hK
        have hk' : k < 14 := hk
        have h29 := hA 6 _ 29 rfl (by simp; first | exact rfl | exact .inl rfl) rfl
        simp only [MonthsT] at h29
        simp only [Array.getD_eq_getD_getElem?] at h29
        unfold Oper.wp
        simp [execOp, Act.eval, Oper.upon, h29, go_sem]
        refine (pick_any _ _ _ _ _ hG.rd (by omega) (by omega)).mono ?_
        rintro e wz ⟨p, rfl, p0, p9, hR, hM, hS'⟩
        exact hK _ _ (fun _ => ⟨p, rfl, by omega, by omega⟩) (Reg.Fut.moved hM hrb) (fun k' h1 h2 => hG.moved h1 hi (by omega) hM (Reg.rd_more hR (by omega)) hbb hcb hne2 hcr hwr')
      · intro l a w' k hi hk hO hA hL hG K hK
        have hk' : k < 14 := hk
        have h28 := hA 5 _ 28 rfl (by simp; first | exact rfl | exact .inl rfl) rfl
        simp only [MonthsT] at h28
        simp only [Array.getD_eq_getD_getElem?] at h28
        have h30 := hA 7 _ 30 rfl (by simp; first | exact rfl | exact .inl rfl) rfl
        simp only [MonthsT] at h30
        simp only [Array.getD_eq_getD_getElem?] at h30
        obtain ⟨b, h28, b1, b2, b3⟩ := h28
        obtain ⟨q, h30, q0, q9⟩ := h30
        have q1 : q < 9 := by omega
        unfold Oper.wp
        simp [execOp, Act.eval, Oper.upon, h28, h30, q0, q1, go_sem]
        exact hK _ _ (fun _ => ⟨b, q.toNat, rfl, b1, b2, b3 q.toNat (by omega)⟩) (Reg.Fut.refl _ _) (fun k' h1 h2 => hG.same h1 hi (by omega))
      · intro l a w' k hi hk hO hA hL hG K hK
        have hk' : k < 14 := hk
        have h31 := hA 8 _ 31 rfl (by simp; first | exact rfl | exact .inl rfl) rfl
        simp only [MonthsT] at h31
        simp only [Array.getD_eq_getD_getElem?] at h31
        obtain ⟨b, q, h31, b1, b2, x, hx, x0, x9⟩ := h31
        unfold Oper.wp
        simp [execOp, Act.eval, Oper.upon, h31, hx, go_sem]
        exact hK _ _ (fun _ => ⟨x, rfl, x0, x9⟩) (Reg.Fut.refl _ _) (fun k' h1 h2 => hG.same h1 hi (by omega))
      · intro l a w' k hi hk hO hA hL hG K hK
        have hk' : k < 14 := hk
        have h27 := hA 4 _ 27 rfl (by simp; first | exact rfl | exact .inl rfl) rfl
        simp only [MonthsT] at h27
        simp only [Array.getD_eq_getD_getElem?] at h27
        have h32 := hA 9 _ 32 rfl (by simp; first | exact rfl | exact .inl rfl) rfl
        simp only [MonthsT] at h32
        simp only [Array.getD_eq_getD_getElem?] at h32
        obtain ⟨b, h27, b1, b2, b3⟩ := h27
        obtain ⟨q, h32, q0, q9⟩ := h32
        have q1 : q < 6 := by omega
        unfold Oper.wp
        simp [execOp, Act.eval, Oper.upon, h27, h32, q0, q1, go_sem]
        exact hK _ _ (fun _ => ⟨b, q.toNat, rfl, b1, b2, b3 q.toNat (by omega)⟩) (Reg.Fut.refl _ _) (fun k' h1 h2 => hG.same h1 hi (by omega))
      · intro l a w' k hi hk hO hA hL hG K hK
        have hk' : k < 14 := hk
        have h33 := hA 10 _ 33 rfl (by simp; first | exact rfl | exact .inl rfl) rfl
        simp only [MonthsT] at h33
        simp only [Array.getD_eq_getD_getElem?] at h33
        obtain ⟨b, q, h33, b1, b2, x, hx, x0, x9⟩ := h33
        unfold Oper.wp
        simp [execOp, Act.eval, Oper.upon, h33, hx, go_sem]
        exact hK _ _ (fun _ => ⟨x, rfl, x0, x9⟩) (Reg.Fut.refl _ _) (fun k' h1 h2 => hG.same h1 hi (by omega))
      · intro l a w' k hi hk hO hA hL hG K hK
        have hk' : k < 14 := hk
        have h2 := hO 2 (Reg.no_dst (by kernel_rfl))
        simp at h2
        have h23 := hA 0 _ 23 rfl (by simp; first | exact rfl | exact .inl rfl) rfl
        simp only [MonthsT] at h23
        simp only [Array.getD_eq_getD_getElem?] at h23
        obtain ⟨⟨u0, o0⟩, f0⟩ := hG.out 0 (by omega)
        obtain ⟨⟨u1, o1⟩, f1⟩ := hG.out 1 (by omega)
        obtain ⟨⟨u2, o2⟩, f2⟩ := hG.out 2 (by omega)
        obtain ⟨⟨u3, o3⟩, f3⟩ := hG.out 3 (by omega)
        obtain ⟨⟨u4, o4⟩, f4⟩ := hG.out 4 (by omega)
        obtain ⟨⟨u5, o5⟩, f5⟩ := hG.out 5 (by omega)
        unfold Oper.wp
        simp [execOp, Act.eval, Oper.upon, h2, h23, o0, o1, o2, o3, o4, o5, f0, f1, f2, f3, f4, f5, go_sem]
        exact hK undef (Reg.six w' w.heap.size (fun o => ([.int .i64 y, .int .i64 m, .int .i64 d, .int .i64 hh, .int .i64 i, .int .i64 s] : List Value).getD o undef)) (fun h => absurd rfl h) (Reg.six_fut hcb) (fun k' h1 h2 => hG.store h1 hi hcb (by omega) hcr (by omega) (Nat.le_refl _))
      · intro l a w' k hi hk hO hA hL hG K hK
        have hk' : k < 14 := hk
        have h34 := hA 11 _ 34 rfl (by simp; first | exact rfl | exact .inl rfl) rfl
        simp only [MonthsT] at h34
        simp only [Array.getD_eq_getD_getElem?] at h34
        obtain ⟨x, h34, x0, x9⟩ := h34
        unfold Oper.wp
        simp [execOp, Act.eval, Oper.upon, h34, go_sem]
        exact hK _ _ (fun _ => ⟨x, rfl, x0, x9⟩) (Reg.Fut.refl _ _) (fun k' h1 h2 => hG.same h1 hi (by omega))
      · intro l a w' hK hall
        have h2 := hK.other 2 (Reg.no_dst (by kernel_rfl))
        simp at h2
        have h3 := hK.val 13 _ 3 rfl (hall 13 (by decide)) rfl
        simp only [MonthsT] at h3
        simp only [Array.getD_eq_getD_getElem?] at h3
        obtain ⟨k, h3, k0, k9⟩ := h3
        have hd := hK.world.done (hall 12 (by decide))
        have hbw := hK.world.below
        have s0 := hd 0 (by omega); have s1 := hd 1 (by omega); have s2 := hd 2 (by omega); have s3 := hd 3 (by omega); have s4 := hd 4 (by omega); have s5 := hd 5 (by omega)
        simp at s0 s1 s2 s3 s4 s5
        have hdf : a.defers = [] := hK.defers
        clear hK hall hd
        go_wp2
        refine bodyPost_ret (v := .tuple #[(.agg #[.int .i64 (y), .int .i64 (m), .int .i64 (d), .int .i64 (hh), .int .i64 (i), .int .i64 (s)]), .int .i64 k]) (by simp [results, Try.results18, go_sem, h2, h3, s0, s1, s2, s3, s4, s5]) hdf ?_
        exact ⟨y, m, d, hh, i, s, k, rfl, by1, bm, bd, bh, bi, bs, k0, k9, hbw⟩
    · clear hbz
      have q := dayOf_is (sv_yes hsv).1
      go_wp2_with fail
      refine (sDaysIn _ _ _).mono ?_
      rintro e wy ⟨rfl, hby⟩
      have hC := Below_at hby
      have hF := Below_fr hby
      have hsrc := fun o ho => (Below_at hby _ o hs2).trans (hsrc o ho)
      have hout := fun o ho => (⟨by rw [Below_at hby _ o hwc]; exact (hout o ho).1, (Below_fr hby _ o hwc).trans (hout o ho).2⟩ : (∃ v, wy.cell? ⟨w.heap.size, o, none⟩ = some v) ∧ wy.frozen? ⟨w.heap.size, o, none⟩ = false)
      have hR := hR.below hby
      have hbw := hbw.trans (hby.mono (by have := hbw.size; omega))
      have hs2 : w2.heap.size < wy.heap.size := Nat.lt_of_lt_of_le hs2 hby.size
      have hwc : w.heap.size < wy.heap.size := Nat.lt_of_lt_of_le hwc hby.size
      have hcy := hsrc 2 (by omega)
      simp at hcy
      have hfy := (hF w2.heap.size 2 (by assumption)).trans hfr
      clear bz0 bz1 bz2 hby hC hF hfr
      go_wp2_with fail
      have hS1 : (wy.setCell ⟨w2.heap.size, 2, none⟩ (.int .i64 (dim y m))).heap.size = wy.heap.size := by simp
      have hsrc : ∀ o, o < 6 → (wy.setCell ⟨w2.heap.size, 2, none⟩ (.int .i64 (dim y m))).cell? ⟨w2.heap.size, o, none⟩ = some (([.int .i64 y, .int .i64 m, .int .i64 (dim y m), .int .i64 hh, .int .i64 i, .int .i64 s] : List Value).getD o undef) := fun o ho => by
        have k := hsrc o ho
        have : o = 0 ∨ o = 1 ∨ o = 2 ∨ o = 3 ∨ o = 4 ∨ o = 5 := by omega
        rcases this with rfl | rfl | rfl | rfl | rfl | rfl
        case inr.inr.inl => exact World.cell?_setCell_same _ _ _ hcy
        all_goals exact (World.cell?_setCell_other _ _ _ _ (by simp)).trans k
      have hout : ∀ o, o < 6 → (∃ v, (wy.setCell ⟨w2.heap.size, 2, none⟩ (.int .i64 (dim y m))).cell? ⟨w.heap.size, o, none⟩ = some v) ∧ (wy.setCell ⟨w2.heap.size, 2, none⟩ (.int .i64 (dim y m))).frozen? ⟨w.heap.size, o, none⟩ = false := fun o ho => by
        rw [World.cell?_setCell_other _ _ _ _ (by first | (simp; done) | (simp; omega)), World.frozen?_setCell]
        exact hout o ho
      have hbw : Below w.heap.size w (wy.setCell ⟨w2.heap.size, 2, none⟩ (.int .i64 (dim y m))) := hbw.setCell (p := ⟨w2.heap.size, 2, none⟩) (by show w.heap.size ≤ w2.heap.size; omega) _
      have hR : Rd (wy.setCell ⟨w2.heap.size, 2, none⟩ (.int .i64 (dim y m))) B r (0 + 20 + 1) := hR.store (p := ⟨w2.heap.size, 2, none⟩) (by show r < w2.heap.size; omega) _
      have hs2 : w2.heap.size < (wy.setCell ⟨w2.heap.size, 2, none⟩ (.int .i64 (dim y m))).heap.size := by rw [hS1]; exact hs2
      have hwc : w.heap.size < (wy.setCell ⟨w2.heap.size, 2, none⟩ (.int .i64 (dim y m))).heap.size := by rw [hS1]; exact hwc
      clear hS1 hcy hfy
      generalize wy.setCell ⟨w2.heap.size, 2, none⟩ (.int .i64 (dim y m)) = wx at *
      generalize hbase : wx.heap.size = base at *
      have hrb : r < base := by have := hR.2.1; omega
      have hbb : w2.heap.size < base := by omega
      have hcb : w.heap.size < base := by omega
      have hcr : w.heap.size ≠ r := by omega
      have hwr' : w.heap.size ≤ r := by omega
      refine Reg.wp_region_typed (by kernel_rfl) (MonthsT base r (.agg #[.int .i64 (y), .int .i64 (m), .int .i64 (dim y m), .int .i64 (hh), .int .i64 (i), .int .i64 (s)])) (Reg.Carry w B r (0 + 20 + 1) base w2.heap.size w.heap.size (fun o => ([.int .i64 y, .int .i64 m, .int .i64 (dim y m), .int .i64 hh, .int .i64 i, .int .i64 s] : List Value).getD o undef) 12) (Reg.Fut base) ?_ (by kernel_rfl) ?_ (Reg.each_op ⟨?_, ?_, ?_, ?_, ?_, ?_, ?_, ?_, ?_, ?_, ?_, ?_, ?_, ?_, trivial⟩) ?_
      · exact monthsT_fut
      · exact ⟨hR.drew, by show base ≤ wx.heap.size; omega, hbw.drew, fun o ho => hsrc o ho, fun o ho => hout o ho, fun h => by simp [Array.getD_eq_getD_getElem?] at h⟩
      · intro l a w' k hi hk hO hA hL hG K hK
        have hk' : k < 14 := hk
        have h5 := hO 5 (Reg.no_dst (by kernel_rfl))
        simp at h5
        have s0 := hG.src 0 (by omega); have s1 := hG.src 1 (by omega); have s2 := hG.src 2 (by omega); have s3 := hG.src 3 (by omega); have s4 := hG.src 4 (by omega); have s5 := hG.src 5 (by omega)
        simp at s0 s1 s2 s3 s4 s5
        unfold Oper.wp
        simp [execOp, Act.eval, Oper.upon, h5, s0, s1, s2, s3, s4, s5, go_sem]
        exact hK _ _ (fun _ => rfl) (Reg.Fut.refl _ _) (fun k' h1 h2 => hG.same h1 hi (by omega))
      · intro l a w' k hi hk hO hA hL hG K hK
        have hk' : k < 14 := hk
        have h4 := hO 4 (Reg.no_dst (by kernel_rfl))
        simp at h4
        unfold Oper.wp
        simp [execOp, Act.eval, Oper.upon, h4, go_sem]
        exact hK _ _ (fun _ => rfl) (Reg.Fut.refl _ _) (fun k' h1 h2 => hG.same h1 hi (by omega))
      · intro l a w' k hi hk hO hA hL hG K hK
        have hk' : k < 14 := hk
        have h24 := hA 1 _ 24 rfl (by simp; first | exact rfl | exact .inl rfl) rfl
        simp only [MonthsT] at h24
        simp only [Array.getD_eq_getD_getElem?] at h24
        unfold Oper.wp
        simp [execOp, Act.eval, Oper.upon, h24, go_sem]
        refine (pick_any _ _ _ _ _ hG.rd (by omega) (by omega)).mono ?_
        rintro e wz ⟨p, rfl, p0, p9, hR, hM, hS'⟩
        exact hK _ _ (fun _ => ⟨p, rfl, by omega, by omega⟩) (Reg.Fut.moved hM hrb) (fun k' h1 h2 => hG.moved h1 hi (by omega) hM (Reg.rd_more hR (by omega)) hbb hcb hne2 hcr hwr')
      · intro l a w' k hi hk hO hA hL hG K hK
        have hk' : k < 14 := hk
        have h25 := hA 2 _ 25 rfl (by simp; first | exact rfl | exact .inl rfl) rfl
        simp only [MonthsT] at h25
        simp only [Array.getD_eq_getD_getElem?] at h25
        obtain ⟨p, h25, p0, p9⟩ := h25
        have hw1 : IntKind.i64.wrap (p - 20) = p - 20 := IntWalk.i64_in _ (by omega)
        unfold Oper.wp
        simp [execOp, Act.eval, Oper.upon, h25, hw1, go_sem]
        exact hK _ _ (fun _ => ⟨_, rfl, by omega, by omega⟩) (Reg.Fut.refl _ _) (fun k' h1 h2 => hG.same h1 hi (by omega))
      · intro l a w' k hi hk hO hA hL hG K hK
        have hk' : k < 14 := hk
        have h26 := hA 3 _ 26 rfl (by simp; first | exact rfl | exact .inl rfl) rfl
        simp only [MonthsT] at h26
        simp only [Array.getD_eq_getD_getElem?] at h26
        obtain ⟨p, h26, p0, p9⟩ := h26
        unfold Oper.wp
        simp [execOp, Act.eval, Oper.upon, h26, go_sem]
        exact hK _ _ (fun _ => Reg.tab_new _ _ hG.size rfl rfl (by first | (simp [intOf]; done) | (simp [intOf]; omega))) (Reg.Fut.below ((Below.refl _ _).alloc (Nat.le_refl _) _)) (fun k' h1 h2 => hG.alloc h1 hi (by omega) _ hbb hcb)
      · intro l a w' k hi hk hO hA hL hG K hK
        have hk' : k < 14 := hk
        unfold Oper.wp
        simp [execOp, Act.eval, Oper.upon, hi, go_sem]
        exact hK _ _ (fun _ => Reg.tab_new _ _ hG.size rfl rfl (by first | (simp [intOf]; done) | (simp [intOf]; omega))) (Reg.Fut.below ((Below.refl _ _).alloc (Nat.le_refl _) _)) (fun k' h1 h2 => hG.alloc h1 hi (by omega) _ hbb hcb)
      · intro l a w' k hi hk hO hA hL hG K hK
        have hk' : k < 14 := hk
        have h4 := hO 4 (Reg.no_dst (by kernel_rfl))
        simp at h4
        unfold Oper.wp
        simp [execOp, Act.eval, Oper.upon, h4, go_sem]
        exact hK _ _ (fun _ => rfl) (Reg.Fut.refl _ _) (fun k' h1 h2 => hG.same h1 hi (by omega))
      · intro l a w' k hi hk hO hA hL hG K hK
        have hk' : k < 14 := hk
        have h29 := hA 6 _ 29 rfl (by simp; first | exact rfl | exact .inl rfl) rfl
        simp only [MonthsT] at h29
        simp only [Array.getD_eq_getD_getElem?] at h29
        unfold Oper.wp
        simp [execOp, Act.eval, Oper.upon, h29, go_sem]
        refine (pick_any _ _ _ _ _ hG.rd (by omega) (by omega)).mono ?_
        rintro e wz ⟨p, rfl, p0, p9, hR, hM, hS'⟩
        exact hK _ _ (fun _ => ⟨p, rfl, by omega, by omega⟩) (Reg.Fut.moved hM hrb) (fun k' h1 h2 => hG.moved h1 hi (by omega) hM (Reg.rd_more hR (by omega)) hbb hcb hne2 hcr hwr')
      · intro l a w' k hi hk hO hA hL hG K hK
        have hk' : k < 14 := hk
        have h28 := hA 5 _ 28 rfl (by simp; first | exact rfl | exact .inl rfl) rfl
        simp only [MonthsT] at h28
        simp only [Array.getD_eq_getD_getElem?] at h28
        have h30 := hA 7 _ 30 rfl (by simp; first | exact rfl | exact .inl rfl) rfl
        simp only [MonthsT] at h30
        simp only [Array.getD_eq_getD_getElem?] at h30
        obtain ⟨b, h28, b1, b2, b3⟩ := h28
        obtain ⟨q, h30, q0, q9⟩ := h30
        have q1 : q < 9 := by omega
        unfold Oper.wp
        simp [execOp, Act.eval, Oper.upon, h28, h30, q0, q1, go_sem]
        exact hK _ _ (fun _ => ⟨b, q.toNat, rfl, b1, b2, b3 q.toNat (by omega)⟩) (Reg.Fut.refl _ _) (fun k' h1 h2 => hG.same h1 hi (by omega))
      · intro l a w' k hi hk hO hA hL hG K hK
        have hk' : k < 14 := hk
        have h31 := hA 8 _ 31 rfl (by simp; first | exact rfl | exact .inl rfl) rfl
        simp only [MonthsT] at h31
        simp only [Array.getD_eq_getD_getElem?] at h31
        obtain ⟨b, q, h31, b1, b2, x, hx, x0, x9⟩ := h31
        unfold Oper.wp
        simp [execOp, Act.eval, Oper.upon, h31, hx, go_sem]
        exact hK _ _ (fun _ => ⟨x, rfl, x0, x9⟩) (Reg.Fut.refl _ _) (fun k' h1 h2 => hG.same h1 hi (by omega))
      · intro l a w' k hi hk hO hA hL hG K hK
        have hk' : k < 14 := hk
        have h27 := hA 4 _ 27 rfl (by simp; first | exact rfl | exact .inl rfl) rfl
        simp only [MonthsT] at h27
        simp only [Array.getD_eq_getD_getElem?] at h27
        have h32 := hA 9 _ 32 rfl (by simp; first | exact rfl | exact .inl rfl) rfl
        simp only [MonthsT] at h32
        simp only [Array.getD_eq_getD_getElem?] at h32
        obtain ⟨b, h27, b1, b2, b3⟩ := h27
        obtain ⟨q, h32, q0, q9⟩ := h32
        have q1 : q < 6 := by omega
        unfold Oper.wp
        simp [execOp, Act.eval, Oper.upon, h27, h32, q0, q1, go_sem]
        exact hK _ _ (fun _ => ⟨b, q.toNat, rfl, b1, b2, b3 q.toNat (by omega)⟩) (Reg.Fut.refl _ _) (fun k' h1 h2 => hG.same h1 hi (by omega))
      · intro l a w' k hi hk hO hA hL hG K hK
        have hk' : k < 14 := hk
        have h33 := hA 10 _ 33 rfl (by simp; first | exact rfl | exact .inl rfl) rfl
        simp only [MonthsT] at h33
        simp only [Array.getD_eq_getD_getElem?] at h33
        obtain ⟨b, q, h33, b1, b2, x, hx, x0, x9⟩ := h33
        unfold Oper.wp
        simp [execOp, Act.eval, Oper.upon, h33, hx, go_sem]
        exact hK _ _ (fun _ => ⟨x, rfl, x0, x9⟩) (Reg.Fut.refl _ _) (fun k' h1 h2 => hG.same h1 hi (by omega))
      · intro l a w' k hi hk hO hA hL hG K hK
        have hk' : k < 14 := hk
        have h2 := hO 2 (Reg.no_dst (by kernel_rfl))
        simp at h2
        have h23 := hA 0 _ 23 rfl (by simp; first | exact rfl | exact .inl rfl) rfl
        simp only [MonthsT] at h23
        simp only [Array.getD_eq_getD_getElem?] at h23
        obtain ⟨⟨u0, o0⟩, f0⟩ := hG.out 0 (by omega)
        obtain ⟨⟨u1, o1⟩, f1⟩ := hG.out 1 (by omega)
        obtain ⟨⟨u2, o2⟩, f2⟩ := hG.out 2 (by omega)
        obtain ⟨⟨u3, o3⟩, f3⟩ := hG.out 3 (by omega)
        obtain ⟨⟨u4, o4⟩, f4⟩ := hG.out 4 (by omega)
        obtain ⟨⟨u5, o5⟩, f5⟩ := hG.out 5 (by omega)
        unfold Oper.wp
        simp [execOp, Act.eval, Oper.upon, h2, h23, o0, o1, o2, o3, o4, o5, f0, f1, f2, f3, f4, f5, go_sem]
        exact hK undef (Reg.six w' w.heap.size (fun o => ([.int .i64 y, .int .i64 m, .int .i64 (dim y m), .int .i64 hh, .int .i64 i, .int .i64 s] : List Value).getD o undef)) (fun h => absurd rfl h) (Reg.six_fut hcb) (fun k' h1 h2 => hG.store h1 hi hcb (by omega) hcr (by omega) (Nat.le_refl _))
      · intro l a w' k hi hk hO hA hL hG K hK
        have hk' : k < 14 := hk
        have h34 := hA 11 _ 34 rfl (by simp; first | exact rfl | exact .inl rfl) rfl
        simp only [MonthsT] at h34
        simp only [Array.getD_eq_getD_getElem?] at h34
        obtain ⟨x, h34, x0, x9⟩ := h34
        unfold Oper.wp
        simp [execOp, Act.eval, Oper.upon, h34, go_sem]
        exact hK _ _ (fun _ => ⟨x, rfl, x0, x9⟩) (Reg.Fut.refl _ _) (fun k' h1 h2 => hG.same h1 hi (by omega))
      · intro l a w' hK hall
        have h2 := hK.other 2 (Reg.no_dst (by kernel_rfl))
        simp at h2
        have h3 := hK.val 13 _ 3 rfl (hall 13 (by decide)) rfl
        simp only [MonthsT] at h3
        simp only [Array.getD_eq_getD_getElem?] at h3
        obtain ⟨k, h3, k0, k9⟩ := h3
        have hd := hK.world.done (hall 12 (by decide))
        have hbw := hK.world.below
        have s0 := hd 0 (by omega); have s1 := hd 1 (by omega); have s2 := hd 2 (by omega); have s3 := hd 3 (by omega); have s4 := hd 4 (by omega); have s5 := hd 5 (by omega)
        simp at s0 s1 s2 s3 s4 s5
        have hdf : a.defers = [] := hK.defers
        clear hK hall hd
        go_wp2
        refine bodyPost_ret (v := .tuple #[(.agg #[.int .i64 (y), .int .i64 (m), .int .i64 (dim y m), .int .i64 (hh), .int .i64 (i), .int .i64 (s)]), .int .i64 k]) (by simp [results, Try.results18, go_sem, h2, h3, s0, s1, s2, s3, s4, s5]) hdf ?_
        exact ⟨y, m, dim y m, hh, i, s, k, rfl, by1, bm, (by have := dim_bd y m; omega), bh, bi, bs, k0, k9, hbw⟩
  · have ha' : (a == 0) = false := by simpa using ha
    go_wp2_with fail
    generalize hbase : wp.heap.size = base at *
    have hrb : r < base := by have := hR.2.1; omega
    have hbb : w2.heap.size < base := by omega
    have hcb : w.heap.size < base := by omega
    have hcr : w.heap.size ≠ r := by omega
    have hwr' : w.heap.size ≤ r := by omega
    refine Reg.wp_region_typed (by kernel_rfl) (MonthsT base r (.agg #[.int .i64 (y), .int .i64 (m), .int .i64 (d), .int .i64 (hh), .int .i64 (i), .int .i64 (s)])) (Reg.Carry w B r (0 + 20 + 1) base w2.heap.size w.heap.size (fun o => ([.int .i64 y, .int .i64 m, .int .i64 d, .int .i64 hh, .int .i64 i, .int .i64 s] : List Value).getD o undef) 12) (Reg.Fut base) ?_ (by kernel_rfl) ?_ (Reg.each_op ⟨?_, ?_, ?_, ?_, ?_, ?_, ?_, ?_, ?_, ?_, ?_, ?_, ?_, ?_, trivial⟩) ?_
    · exact monthsT_fut
    · exact ⟨hR.drew, by show base ≤ wp.heap.size; omega, hbw.drew, fun o ho => hsrc o ho, fun o ho => hout o ho, fun h => by simp [Array.getD_eq_getD_getElem?] at h⟩
    · intro l a w' k hi hk hO hA hL hG K hK
      have hk' : k < 14 := hk
      have h5 := hO 5 (Reg.no_dst (by kernel_rfl))
      simp at h5
      have s0 := hG.src 0 (by omega); have s1 := hG.src 1 (by omega); have s2 := hG.src 2 (by omega); have s3 := hG.src 3 (by omega); have s4 := hG.src 4 (by omega); have s5 := hG.src 5 (by omega)
      simp at s0 s1 s2 s3 s4 s5
      unfold Oper.wp
      simp [execOp, Act.eval, Oper.upon, h5, s0, s1, s2, s3, s4, s5, go_sem]
      exact hK _ _ (fun _ => rfl) (Reg.Fut.refl _ _) (fun k' h1 h2 => hG.same h1 hi (by omega))
    · intro l a w' k hi hk hO hA hL hG K hK
      have hk' : k < 14 := hk
      have h4 := hO 4 (Reg.no_dst (by kernel_rfl))
      simp at h4
      unfold Oper.wp
      simp [execOp, Act.eval, Oper.upon, h4, go_sem]
      exact hK _ _ (fun _ => rfl) (Reg.Fut.refl _ _) (fun k' h1 h2 => hG.same h1 hi (by omega))
    · intro l a w' k hi hk hO hA hL hG K hK
      have hk' : k < 14 := hk
      have h24 := hA 1 _ 24 rfl (by simp; first | exact rfl | exact .inl rfl) rfl
      simp only [MonthsT] at h24
      simp only [Array.getD_eq_getD_getElem?] at h24
      unfold Oper.wp
      simp [execOp, Act.eval, Oper.upon, h24, go_sem]
      refine (pick_any _ _ _ _ _ hG.rd (by omega) (by omega)).mono ?_
      rintro e wz ⟨p, rfl, p0, p9, hR, hM, hS'⟩
      exact hK _ _ (fun _ => ⟨p, rfl, by omega, by omega⟩) (Reg.Fut.moved hM hrb) (fun k' h1 h2 => hG.moved h1 hi (by omega) hM (Reg.rd_more hR (by omega)) hbb hcb hne2 hcr hwr')
    · intro l a w' k hi hk hO hA hL hG K hK
      have hk' : k < 14 := hk
      have h25 := hA 2 _ 25 rfl (by simp; first | exact rfl | exact .inl rfl) rfl
      simp only [MonthsT] at h25
      simp only [Array.getD_eq_getD_getElem?] at h25
      obtain ⟨p, h25, p0, p9⟩ := h25
      have hw1 : IntKind.i64.wrap (p - 20) = p - 20 := IntWalk.i64_in _ (by omega)
      unfold Oper.wp
      simp [execOp, Act.eval, Oper.upon, h25, hw1, go_sem]
      exact hK _ _ (fun _ => ⟨_, rfl, by omega, by omega⟩) (Reg.Fut.refl _ _) (fun k' h1 h2 => hG.same h1 hi (by omega))
    · intro l a w' k hi hk hO hA hL hG K hK
      have hk' : k < 14 := hk
      have h26 := hA 3 _ 26 rfl (by simp; first | exact rfl | exact .inl rfl) rfl
      simp only [MonthsT] at h26
      simp only [Array.getD_eq_getD_getElem?] at h26
      obtain ⟨p, h26, p0, p9⟩ := h26
      unfold Oper.wp
      simp [execOp, Act.eval, Oper.upon, h26, go_sem]
      exact hK _ _ (fun _ => Reg.tab_new _ _ hG.size rfl rfl (by first | (simp [intOf]; done) | (simp [intOf]; omega))) (Reg.Fut.below ((Below.refl _ _).alloc (Nat.le_refl _) _)) (fun k' h1 h2 => hG.alloc h1 hi (by omega) _ hbb hcb)
    · intro l a w' k hi hk hO hA hL hG K hK
      have hk' : k < 14 := hk
      unfold Oper.wp
      simp [execOp, Act.eval, Oper.upon, hi, go_sem]
      exact hK _ _ (fun _ => Reg.tab_new _ _ hG.size rfl rfl (by first | (simp [intOf]; done) | (simp [intOf]; omega))) (Reg.Fut.below ((Below.refl _ _).alloc (Nat.le_refl _) _)) (fun k' h1 h2 => hG.alloc h1 hi (by omega) _ hbb hcb)
    · intro l a w' k hi hk hO hA hL hG K hK
      have hk' : k < 14 := hk
      have h4 := hO 4 (Reg.no_dst (by kernel_rfl))
      simp at h4
      unfold Oper.wp
      simp [execOp, Act.eval, Oper.upon, h4, go_sem]
      exact hK _ _ (fun _ => rfl) (Reg.Fut.refl _ _) (fun k' h1 h2 => hG.same h1 hi (by omega))
    · intro l a w' k hi hk hO hA hL hG K hK
      have hk' : k < 14 := hk
      have h29 := hA 6 _ 29 rfl (by simp; first | exact rfl | exact .inl rfl) rfl
      simp only [MonthsT] at h29
      simp only [Array.getD_eq_getD_getElem?] at h29
      unfold Oper.wp
      simp [execOp, Act.eval, Oper.upon, h29, go_sem]
      refine (pick_any _ _ _ _ _ hG.rd (by omega) (by omega)).mono ?_
      rintro e wz ⟨p, rfl, p0, p9, hR, hM, hS'⟩
      exact hK _ _ (fun _ => ⟨p, rfl, by omega, by omega⟩) (Reg.Fut.moved hM hrb) (fun k' h1 h2 => hG.moved h1 hi (by omega) hM (Reg.rd_more hR (by omega)) hbb hcb hne2 hcr hwr')
    · intro l a w' k hi hk hO hA hL hG K hK
      have hk' : k < 14 := hk
      have h28 := hA 5 _ 28 rfl (by simp; first | exact rfl | exact .inl rfl) rfl
      simp only [MonthsT] at h28
      simp only [Array.getD_eq_getD_getElem?] at h28
      have h30 := hA 7 _ 30 rfl (by simp; first | exact rfl | exact .inl rfl) rfl
      simp only [MonthsT] at h30
      simp only [Array.getD_eq_getD_getElem?] at h30
      obtain ⟨b, h28, b1, b2, b3⟩ := h28
      obtain ⟨q, h30, q0, q9⟩ := h30
      have q1 : q < 9 := by omega
      unfold Oper.wp
      simp [execOp, Act.eval, Oper.upon, h28, h30, q0, q1, go_sem]
      exact hK _ _ (fun _ => ⟨b, q.toNat, rfl, b1, b2, b3 q.toNat (by omega)⟩) (Reg.Fut.refl _ _) (fun k' h1 h2 => hG.same h1 hi (by omega))
    · intro l a w' k hi hk hO hA hL hG K hK
      have hk' : k < 14 := hk
      have h31 := hA 8 _ 31 rfl (by simp; first | exact rfl | exact .inl rfl) rfl
      simp only [MonthsT] at h31
      simp only [Array.getD_eq_getD_getElem?] at h31
      obtain ⟨b, q, h31, b1, b2, x, hx, x0, x9⟩ := h31
      unfold Oper.wp
      simp [execOp, Act.eval, Oper.upon, h31, hx, go_sem]
      exact hK _ _ (fun _ => ⟨x, rfl, x0, x9⟩) (Reg.Fut.refl _ _) (fun k' h1 h2 => hG.same h1 hi (by omega))
    · intro l a w' k hi hk hO hA hL hG K hK
      have hk' : k < 14 := hk
      have h27 := hA 4 _ 27 rfl (by simp; first | exact rfl | exact .inl rfl) rfl
      simp only [MonthsT] at h27
      simp only [Array.getD_eq_getD_getElem?] at h27
      have h32 := hA 9 _ 32 rfl (by simp; first | exact rfl | exact .inl rfl) rfl
      simp only [MonthsT] at h32
      simp only [Array.getD_eq_getD_getElem?] at h32
      obtain ⟨b, h27, b1, b2, b3⟩ := h27
      obtain ⟨q, h32, q0, q9⟩ := h32
      have q1 : q < 6 := by omega
      unfold Oper.wp
      simp [execOp, Act.eval, Oper.upon, h27, h32, q0, q1, go_sem]
      exact hK _ _ (fun _ => ⟨b, q.toNat, rfl, b1, b2, b3 q.toNat (by omega)⟩) (Reg.Fut.refl _ _) (fun k' h1 h2 => hG.same h1 hi (by omega))
    · intro l a w' k hi hk hO hA hL hG K hK
      have hk' : k < 14 := hk
      have h33 := hA 10 _ 33 rfl (by simp; first | exact rfl | exact .inl rfl) rfl
      simp only [MonthsT] at h33
      simp only [Array.getD_eq_getD_getElem?] at h33
      obtain ⟨b, q, h33, b1, b2, x, hx, x0, x9⟩ := h33
      unfold Oper.wp
      simp [execOp, Act.eval, Oper.upon, h33, hx, go_sem]
      exact hK _ _ (fun _ => ⟨x, rfl, x0, x9⟩) (Reg.Fut.refl _ _) (fun k' h1 h2 => hG.same h1 hi (by omega))
    · intro l a w' k hi hk hO hA hL hG K hK
      have hk' : k < 14 := hk
      have h2 := hO 2 (Reg.no_dst (by kernel_rfl))
      simp at h2
      have h23 := hA 0 _ 23 rfl (by simp; first | exact rfl | exact .inl rfl) rfl
      simp only [MonthsT] at h23
      simp only [Array.getD_eq_getD_getElem?] at h23
      obtain ⟨⟨u0, o0⟩, f0⟩ := hG.out 0 (by omega)
      obtain ⟨⟨u1, o1⟩, f1⟩ := hG.out 1 (by omega)
      obtain ⟨⟨u2, o2⟩, f2⟩ := hG.out 2 (by omega)
      obtain ⟨⟨u3, o3⟩, f3⟩ := hG.out 3 (by omega)
      obtain ⟨⟨u4, o4⟩, f4⟩ := hG.out 4 (by omega)
      obtain ⟨⟨u5, o5⟩, f5⟩ := hG.out 5 (by omega)
      unfold Oper.wp
      simp [execOp, Act.eval, Oper.upon, h2, h23, o0, o1, o2, o3, o4, o5, f0, f1, f2, f3, f4, f5, go_sem]
      exact hK undef (Reg.six w' w.heap.size (fun o => ([.int .i64 y, .int .i64 m, .int .i64 d, .int .i64 hh, .int .i64 i, .int .i64 s] : List Value).getD o undef)) (fun h => absurd rfl h) (Reg.six_fut hcb) (fun k' h1 h2 => hG.store h1 hi hcb (by omega) hcr (by omega) (Nat.le_refl _))
    · intro l a w' k hi hk hO hA hL hG K hK
      have hk' : k < 14 := hk
      have h34 := hA 11 _ 34 rfl (by simp; first | exact rfl | exact .inl rfl) rfl
      simp only [MonthsT] at h34
      simp only [Array.getD_eq_getD_getElem?] at h34
      obtain ⟨x, h34, x0, x9⟩ := h34
      unfold Oper.wp
      simp [execOp, Act.eval, Oper.upon, h34, go_sem]
      exact hK _ _ (fun _ => ⟨x, rfl, x0, x9⟩) (Reg.Fut.refl _ _) (fun k' h1 h2 => hG.same h1 hi (by omega))
    · intro l a w' hK hall
      have h2 := hK.other 2 (Reg.no_dst (by kernel_rfl))
      simp at h2
      have h3 := hK.val 13 _ 3 rfl (hall 13 (by decide)) rfl
      simp only [MonthsT] at h3
      simp only [Array.getD_eq_getD_getElem?] at h3
      obtain ⟨k, h3, k0, k9⟩ := h3
      have hd := hK.world.done (hall 12 (by decide))
      have hbw := hK.world.below
      have s0 := hd 0 (by omega); have s1 := hd 1 (by omega); have s2 := hd 2 (by omega); have s3 := hd 3 (by omega); have s4 := hd 4 (by omega); have s5 := hd 5 (by omega)
      simp at s0 s1 s2 s3 s4 s5
      have hdf : a.defers = [] := hK.defers
      clear hK hall hd
      go_wp2
      refine bodyPost_ret (v := .tuple #[(.agg #[.int .i64 (y), .int .i64 (m), .int .i64 (d), .int .i64 (hh), .int .i64 (i), .int .i64 (s)]), .int .i64 k]) (by simp [results, Try.results18, go_sem, h2, h3, s0, s1, s2, s3, s4, s5]) hdf ?_
      exact ⟨y, m, d, hh, i, s, k, rfl, by1, bm, bd, bh, bi, bs, k0, k9, hbw⟩
end Go.Proofs.Ytanmefigoddioaa
