/-
  CONTRACTS OF THE MODEL's DRAWS OF LOCAL TIMES.
-/
import Derived.Test.YtlmmianaplahaaaDrawZone
set_option linter.unusedVariables false
set_option linter.unusedSimpArgs false
namespace Go.Proofs.Ytlmmianaplahaaa
open Go.ChangeShapes Go.WideShapes Go.ChangeAt Go.RowKit Law Cal

/-- A zone and a moment in its time were drawn; the reader has moved on. -/
def ZonedR (B r K : Nat) (w : World) (e : Ending) (w' : World) : Prop := ∃ (z : Zn) (n : Int), e = .returned (.tuple #[(.agg #[.int .i64 (z.o), .int .i64 (z.s), .int .i64 (z.m), .int .i64 (z.k), .int .i64 (z.d), .int .i64 (z.i), .int .i64 (z.m'), .int .i64 (z.k'), .int .i64 (z.d'), .int .i64 (z.i')]), .int .i64 n]) ∧ Zb z ∧ (-800000 ≤ n ∧ n ≤ 126229500000) ∧ Rd w' B r K ∧ Moved r w w'

def TLocal (bb off : Nat) (base r : Nat) (st : Value) : Nat → World → Value → Prop
  | 0, w, v => v = st
  | 1, w, v => Reg.IntIn (-400000) 126229100000 v
  | 2, w, v => v = .pointer (some ⟨bb, 0, none⟩)
  | 3, w, v => Reg.IntIn (-3000) 3000 v
  | 4, w, v => v = .pointer (some ⟨bb, 1, none⟩)
  | 5, w, v => Reg.IntIn (-3000) 3000 v
  | 6, w, v => Reg.Tab base w 3 (-3000) 3000 v
  | 7, w, v => v = .pointer (some ⟨r, 0, none⟩)
  | 8, w, v => Reg.IntIn 0 2 v
  | 9, w, v => Reg.Spot base w (-3000) 3000 v
  | 10, w, v => Reg.IntIn (-3000) 3000 v
  | 11, w, v => Reg.IntIn (-6000) 6000 v
  | 12, w, v => Reg.IntIn (-360000) 360000 v
  | 13, w, v => Reg.IntIn (-760000) 126229460000 v
  | 15, w, v => Reg.IntIn (-760000) 126229460000 v
  | _, _, _ => True
theorem TLocal_fut {bb off base r : Nat} {st : Value} : ∀ i w w' v, TLocal bb off base r st i w v → Reg.Fut base w w' → TLocal bb off base r st i w' v := by
  intro i w w' v h f
  unfold TLocal at *
  split at h
  case h_7 => exact h.fut f
  case h_10 => exact h.fut f
  all_goals exact h
set_option maxHeartbeats 4000000 in
theorem local_any (n : Int) (r : Nat) (w : World) (B K : Nat) (h : Rd w B r K) (hK : K < 999800000) (hn : 0 ≤ n ∧ n ≤ 1000) :
    Calls Try.prog 49 #[.pointer (some ⟨r, 0, none⟩), .int .i64 n] w (ZonedR B r (K + 60000) w) := by
  have hr0 := h.2.1
  have hB0 := h.1
  have hcr : w.heap.size ≠ r := by omega
  go_enter Try.func49, Try.ntmps49
  go_wp2_with fail
  refine (zone_any n r _ B K (Rd.alloc h _) (by omega) hn).mono ?_
  rintro e w2 ⟨zz, rfl, hz, hR, hM⟩
  have hout0 := (Has.made w _ _).moved hM hcr
  have hA := Moved.trans ((Moved.refl r w).alloc _) hM
  have hs2 := hM.2.2.2.1
  simp only [World.size_alloc] at hs2
  clear hM
  go_wp2_with fail
  refine (near_any zz r _ B (K + 60) (Rd.alloc hR _) (by omega)).mono ?_
  rintro e wp ⟨tt, rfl, tt0, tt9, hR3, hM3⟩
  have hsrc : Has wp w2.heap.size #[.int .i64 zz.o, .int .i64 zz.s, .int .i64 zz.m, .int .i64 zz.k, .int .i64 zz.d, .int .i64 zz.i, .int .i64 zz.m', .int .i64 zz.k', .int .i64 zz.d', .int .i64 zz.i'].toList := (Has.made w2 #[.int .i64 zz.o, .int .i64 zz.s, .int .i64 zz.m, .int .i64 zz.k, .int .i64 zz.d, .int .i64 zz.i, .int .i64 zz.m', .int .i64 zz.k', .int .i64 zz.d', .int .i64 zz.i'] 26).moved hM3 (by omega)
  have hout : ∃ us : List Value, us.length = 10 ∧ Has wp w.heap.size us := ⟨_, rfl, (hout0.alloc _).moved hM3 hcr⟩
  have hmv := Moved.trans (hA.alloc _) hM3
  have hR := hR3
  have hs3 := hM3.2.2.2.1
  simp only [World.size_alloc] at hs3
  have hf00 : -3000 ≤ zz.o := by unfold Zb near at hz; omega
  have hf09 : zz.o ≤ 3000 := by unfold Zb near at hz; omega
  have hf10 : -3000 ≤ zz.s := by unfold Zb near at hz; omega
  have hf19 : zz.s ≤ 3000 := by unfold Zb near at hz; omega
  clear hM3 hR3 hA hout0
  go_wp2_with fail
  generalize w2.heap.size = b at *
  have hbr : b ≠ r := by omega
  have hcr : w.heap.size ≠ r := by omega
  have hcb : w.heap.size ≠ b := by omega
  have hBc : B ≤ w.heap.size := by omega
  have h0c : w.heap.size ≤ w.heap.size := Nat.le_refl _
  have hrb : r < wp.heap.size := by omega
  have hcbase : w.heap.size < wp.heap.size := by omega
  generalize hbase : wp.heap.size = base at *
  refine Reg.wp_region_typed (by kernel_rfl) (TLocal b 0 base r ((.agg #[.int .i64 (zz.o), .int .i64 (zz.s), .int .i64 (zz.m), .int .i64 (zz.k), .int .i64 (zz.d), .int .i64 (zz.i), .int .i64 (zz.m'), .int .i64 (zz.k'), .int .i64 (zz.d'), .int .i64 (zz.i')]))) (Reg.Bear 1000 w B r (K + 60 + 40000) base b w.heap.size [.int .i64 zz.o, .int .i64 zz.s, .int .i64 zz.m, .int .i64 zz.k, .int .i64 zz.d, .int .i64 zz.i, .int .i64 zz.m', .int .i64 zz.k', .int .i64 zz.d', .int .i64 zz.i'] 14) (Reg.Fut base) TLocal_fut (by kernel_rfl) ?_ (Reg.each_op ⟨?_, ?_, ?_, ?_, ?_, ?_, ?_, ?_, ?_, ?_, ?_, ?_, ?_, ?_, ?_, ?_, trivial⟩) ?_
  · exact ⟨hR.drew, by show base ≤ wp.heap.size; omega, Moved.drewr hmv, hsrc.drew, by obtain ⟨us, e, hu⟩ := hout; exact ⟨us, e, hu.drew⟩, fun h => by simp [Array.getD_eq_getD_getElem?] at h⟩
  · intro l a w' k hi hk hO hA hL hG K hK
    have hk' : k < 16 := hk
    have h6 := hO 6 (Reg.no_dst (by kernel_rfl))
    simp at h6
    have s0 : w'.cell? ⟨b, 0, none⟩ = some (.int .i64 zz.o) := hG.src.2.1 0 (by simp)
    have s1 : w'.cell? ⟨b, 1, none⟩ = some (.int .i64 zz.s) := hG.src.2.1 1 (by simp)
    have s2 : w'.cell? ⟨b, 2, none⟩ = some (.int .i64 zz.m) := hG.src.2.1 2 (by simp)
    have s3 : w'.cell? ⟨b, 3, none⟩ = some (.int .i64 zz.k) := hG.src.2.1 3 (by simp)
    have s4 : w'.cell? ⟨b, 4, none⟩ = some (.int .i64 zz.d) := hG.src.2.1 4 (by simp)
    have s5 : w'.cell? ⟨b, 5, none⟩ = some (.int .i64 zz.i) := hG.src.2.1 5 (by simp)
    have s6 : w'.cell? ⟨b, 6, none⟩ = some (.int .i64 zz.m') := hG.src.2.1 6 (by simp)
    have s7 : w'.cell? ⟨b, 7, none⟩ = some (.int .i64 zz.k') := hG.src.2.1 7 (by simp)
    have s8 : w'.cell? ⟨b, 8, none⟩ = some (.int .i64 zz.d') := hG.src.2.1 8 (by simp)
    have s9 : w'.cell? ⟨b, 9, none⟩ = some (.int .i64 zz.i') := hG.src.2.1 9 (by simp)
    unfold Oper.wp
    simp [execOp, Act.eval, Oper.upon, h6, s0, s1, s2, s3, s4, s5, s6, s7, s8, s9, go_sem]
    exact hK _ _ (fun _ => rfl) (Reg.Fut.refl _ _) (fun k' h1 h2 => hG.same h1 hi (by omega))
  · intro l a w' k hi hk hO hA hL hG K hK
    have hk' : k < 16 := hk
    have h7 := hO 7 (Reg.no_dst (by kernel_rfl))
    simp at h7
    unfold Oper.wp
    simp [execOp, Act.eval, Oper.upon, h7, go_sem]
    exact hK _ _ (fun _ => ⟨tt, rfl, by omega, by omega⟩) (Reg.Fut.refl _ _) (fun k' h1 h2 => hG.same h1 hi (by omega))
  · intro l a w' k hi hk hO hA hL hG K hK
    have hk' : k < 16 := hk
    have h6 := hO 6 (Reg.no_dst (by kernel_rfl))
    simp at h6
    unfold Oper.wp
    simp [execOp, Act.eval, Oper.upon, h6, go_sem]
    exact hK _ _ (fun _ => rfl) (Reg.Fut.refl _ _) (fun k' h1 h2 => hG.same h1 hi (by omega))
  · intro l a w' k hi hk hO hA hL hG K hK
    have hk' : k < 16 := hk
    have h16 := hA 2 _ 16 rfl (by simp; first | exact rfl | exact .inl rfl) rfl
    simp only [TLocal] at h16
    simp only [Array.getD_eq_getD_getElem?] at h16
    have s0 : w'.cell? ⟨b, 0, none⟩ = some (.int .i64 zz.o) := hG.src.2.1 0 (by simp)
    unfold Oper.wp
    simp [execOp, Act.eval, Oper.upon, h16, s0, go_sem]
    exact hK _ _ (fun _ => ⟨_, rfl, hf00, hf09⟩) (Reg.Fut.refl _ _) (fun k' h1 h2 => hG.same h1 hi (by omega))
  · intro l a w' k hi hk hO hA hL hG K hK
    have hk' : k < 16 := hk
    have h6 := hO 6 (Reg.no_dst (by kernel_rfl))
    simp at h6
    unfold Oper.wp
    simp [execOp, Act.eval, Oper.upon, h6, go_sem]
    exact hK _ _ (fun _ => rfl) (Reg.Fut.refl _ _) (fun k' h1 h2 => hG.same h1 hi (by omega))
  · intro l a w' k hi hk hO hA hL hG K hK
    have hk' : k < 16 := hk
    have h18 := hA 4 _ 18 rfl (by simp; first | exact rfl | exact .inl rfl) rfl
    simp only [TLocal] at h18
    simp only [Array.getD_eq_getD_getElem?] at h18
    have s1 : w'.cell? ⟨b, 1, none⟩ = some (.int .i64 zz.s) := hG.src.2.1 1 (by simp)
    unfold Oper.wp
    simp [execOp, Act.eval, Oper.upon, h18, s1, go_sem]
    exact hK _ _ (fun _ => ⟨_, rfl, hf10, hf19⟩) (Reg.Fut.refl _ _) (fun k' h1 h2 => hG.same h1 hi (by omega))
  · intro l a w' k hi hk hO hA hL hG K hK
    have hk' : k < 16 := hk
    have h19 := hA 5 _ 19 rfl (by simp; first | exact rfl | exact .inl rfl) rfl
    simp only [TLocal] at h19
    simp only [Array.getD_eq_getD_getElem?] at h19
    obtain ⟨p19, h19, p190, p199⟩ := h19
    unfold Oper.wp
    simp [execOp, Act.eval, Oper.upon, h19, go_sem]
    exact hK _ _ (fun _ => Reg.tab_new _ _ hG.size rfl rfl (by first | (simp [intOf]; done) | (simp [intOf]; omega))) (Reg.Fut.below ((Below.refl _ _).alloc (Nat.le_refl _) _)) (fun k' h1 h2 => hG.alloc h1 hi (by omega) _)
  · intro l a w' k hi hk hO hA hL hG K hK
    have hk' : k < 16 := hk
    have h0 := hO 0 (Reg.no_dst (by kernel_rfl))
    simp at h0
    unfold Oper.wp
    simp [execOp, Act.eval, Oper.upon, h0, go_sem]
    exact hK _ _ (fun _ => rfl) (Reg.Fut.refl _ _) (fun k' h1 h2 => hG.same h1 hi (by omega))
  · intro l a w' k hi hk hO hA hL hG K hK
    have hk' : k < 16 := hk
    have h21 := hA 7 _ 21 rfl (by simp; first | exact rfl | exact .inl rfl) rfl
    simp only [TLocal] at h21
    simp only [Array.getD_eq_getD_getElem?] at h21
    unfold Oper.wp
    simp [execOp, Act.eval, Oper.upon, h21, go_sem]
    refine (pick_any _ _ _ _ _ hG.rd (by omega) (by omega)).mono ?_
    rintro e wz ⟨p, rfl, p0, p9, hR, hM, hS'⟩
    exact hK _ _ (fun _ => ⟨p, rfl, by omega, by omega⟩) (Reg.Fut.moved hM hrb) (fun k' h1 h2 => hG.moved h1 hi (by omega) hM (Reg.rd_more hR (by omega)) hbr hcr)
  · intro l a w' k hi hk hO hA hL hG K hK
    have hk' : k < 16 := hk
    have h20 := hA 6 _ 20 rfl (by simp; first | exact rfl | exact .inl rfl) rfl
    simp only [TLocal] at h20
    simp only [Array.getD_eq_getD_getElem?] at h20
    have h22 := hA 8 _ 22 rfl (by simp; first | exact rfl | exact .inl rfl) rfl
    simp only [TLocal] at h22
    simp only [Array.getD_eq_getD_getElem?] at h22
    obtain ⟨b, h20, b1, b2, b3⟩ := h20
    obtain ⟨q, h22, q0, q9⟩ := h22
    have q1 : q < 3 := by omega
    unfold Oper.wp
    simp [execOp, Act.eval, Oper.upon, h20, h22, q0, q1, go_sem]
    exact hK _ _ (fun _ => ⟨b, q.toNat, rfl, b1, b2, b3 q.toNat (by omega)⟩) (Reg.Fut.refl _ _) (fun k' h1 h2 => hG.same h1 hi (by omega))
  · intro l a w' k hi hk hO hA hL hG K hK
    have hk' : k < 16 := hk
    have h23 := hA 9 _ 23 rfl (by simp; first | exact rfl | exact .inl rfl) rfl
    simp only [TLocal] at h23
    simp only [Array.getD_eq_getD_getElem?] at h23
    obtain ⟨b, q, h23, b1, b2, x, hx, x0, x9⟩ := h23
    unfold Oper.wp
    simp [execOp, Act.eval, Oper.upon, h23, hx, go_sem]
    exact hK _ _ (fun _ => ⟨x, rfl, x0, x9⟩) (Reg.Fut.refl _ _) (fun k' h1 h2 => hG.same h1 hi (by omega))
  · intro l a w' k hi hk hO hA hL hG K hK
    have hk' : k < 16 := hk
    have h17 := hA 3 _ 17 rfl (by simp; first | exact rfl | exact .inl rfl) rfl
    simp only [TLocal] at h17
    simp only [Array.getD_eq_getD_getElem?] at h17
    obtain ⟨p, h17, p0, p9⟩ := h17
    have h24 := hA 10 _ 24 rfl (by simp; first | exact rfl | exact .inl rfl) rfl
    simp only [TLocal] at h24
    simp only [Array.getD_eq_getD_getElem?] at h24
    obtain ⟨q, h24, q0, q9⟩ := h24
    have hw1 : IntKind.i64.wrap (p + q) = p + q := IntWalk.i64_in _ (by omega)
    unfold Oper.wp
    simp [execOp, Act.eval, Oper.upon, h17, h24, hw1, go_sem]
    exact hK _ _ (fun _ => ⟨_, rfl, by omega, by omega⟩) (Reg.Fut.refl _ _) (fun k' h1 h2 => hG.same h1 hi (by omega))
  · intro l a w' k hi hk hO hA hL hG K hK
    have hk' : k < 16 := hk
    have h25 := hA 11 _ 25 rfl (by simp; first | exact rfl | exact .inl rfl) rfl
    simp only [TLocal] at h25
    simp only [Array.getD_eq_getD_getElem?] at h25
    obtain ⟨q, h25, q0, q9⟩ := h25
    have hw1 : IntKind.i64.wrap (60 * q) = 60 * q := IntWalk.i64_in _ (by omega)
    unfold Oper.wp
    simp [execOp, Act.eval, Oper.upon, h25, hw1, go_sem]
    exact hK _ _ (fun _ => ⟨_, rfl, by omega, by omega⟩) (Reg.Fut.refl _ _) (fun k' h1 h2 => hG.same h1 hi (by omega))
  · intro l a w' k hi hk hO hA hL hG K hK
    have hk' : k < 16 := hk
    have h15 := hA 1 _ 15 rfl (by simp; first | exact rfl | exact .inl rfl) rfl
    simp only [TLocal] at h15
    simp only [Array.getD_eq_getD_getElem?] at h15
    obtain ⟨p, h15, p0, p9⟩ := h15
    have h26 := hA 12 _ 26 rfl (by simp; first | exact rfl | exact .inl rfl) rfl
    simp only [TLocal] at h26
    simp only [Array.getD_eq_getD_getElem?] at h26
    obtain ⟨q, h26, q0, q9⟩ := h26
    have hw1 : IntKind.i64.wrap (p + q) = p + q := IntWalk.i64_in _ (by omega)
    unfold Oper.wp
    simp [execOp, Act.eval, Oper.upon, h15, h26, hw1, go_sem]
    exact hK _ _ (fun _ => ⟨_, rfl, by omega, by omega⟩) (Reg.Fut.refl _ _) (fun k' h1 h2 => hG.same h1 hi (by omega))
  · intro l a w' k hi hk hO hA hL hG K hK
    have hk' : k < 16 := hk
    have h4 := hO 4 (Reg.no_dst (by kernel_rfl))
    simp at h4
    have h14 := hA 0 _ 14 rfl (by simp; first | exact rfl | exact .inl rfl) rfl
    simp only [TLocal] at h14
    simp only [Array.getD_eq_getD_getElem?] at h14
    obtain ⟨us, ul, hu⟩ := hG.out
    have ov := Reg.many_val (n := 10) (by simpa using ul)
    obtain ⟨u0, e0⟩ := ov 0 (by omega)
    obtain ⟨u1, e1⟩ := ov 1 (by omega)
    obtain ⟨u2, e2⟩ := ov 2 (by omega)
    obtain ⟨u3, e3⟩ := ov 3 (by omega)
    obtain ⟨u4, e4⟩ := ov 4 (by omega)
    obtain ⟨u5, e5⟩ := ov 5 (by omega)
    obtain ⟨u6, e6⟩ := ov 6 (by omega)
    obtain ⟨u7, e7⟩ := ov 7 (by omega)
    obtain ⟨u8, e8⟩ := ov 8 (by omega)
    obtain ⟨u9, e9⟩ := ov 9 (by omega)
    have o0 := (hu.2.1 0 (by rw [ul]; simp)).trans e0
    have o1 := (hu.2.1 1 (by rw [ul]; simp)).trans e1
    have o2 := (hu.2.1 2 (by rw [ul]; simp)).trans e2
    have o3 := (hu.2.1 3 (by rw [ul]; simp)).trans e3
    have o4 := (hu.2.1 4 (by rw [ul]; simp)).trans e4
    have o5 := (hu.2.1 5 (by rw [ul]; simp)).trans e5
    have o6 := (hu.2.1 6 (by rw [ul]; simp)).trans e6
    have o7 := (hu.2.1 7 (by rw [ul]; simp)).trans e7
    have o8 := (hu.2.1 8 (by rw [ul]; simp)).trans e8
    have o9 := (hu.2.1 9 (by rw [ul]; simp)).trans e9
    have of := hu.2.2
    unfold Oper.wp
    simp [execOp, Act.eval, Oper.upon, h4, h14, o0, o1, o2, o3, o4, o5, o6, o7, o8, o9, of, go_sem]
    exact hK undef (writes w' w.heap.size 0 [.int .i64 zz.o, .int .i64 zz.s, .int .i64 zz.m, .int .i64 zz.k, .int .i64 zz.d, .int .i64 zz.i, .int .i64 zz.m', .int .i64 zz.k', .int .i64 zz.d', .int .i64 zz.i']) (fun h => absurd rfl h) (Reg.writes_fut hcbase _ _ _) (fun k' h1 h2 => hG.store h1 hcb hcr hBc h0c hcbase)
  · intro l a w' k hi hk hO hA hL hG K hK
    have hk' : k < 16 := hk
    have h27 := hA 13 _ 27 rfl (by simp; first | exact rfl | exact .inl rfl) rfl
    simp only [TLocal] at h27
    simp only [Array.getD_eq_getD_getElem?] at h27
    obtain ⟨x, h27, x0, x9⟩ := h27
    unfold Oper.wp
    simp [execOp, Act.eval, Oper.upon, h27, go_sem]
    exact hK _ _ (fun _ => ⟨x, rfl, x0, x9⟩) (Reg.Fut.refl _ _) (fun k' h1 h2 => hG.same h1 hi (by omega))
  · intro l a w' hK hall
    have h4 := hK.other 4 (Reg.no_dst (by kernel_rfl))
    simp at h4
    have hc := hK.world.done (hall 14 (by decide))
    have c0 : w'.cell? ⟨w.heap.size, 0, none⟩ = some (.int .i64 zz.o) := hc.2.1 0 (by simp)
    have c1 : w'.cell? ⟨w.heap.size, 1, none⟩ = some (.int .i64 zz.s) := hc.2.1 1 (by simp)
    have c2 : w'.cell? ⟨w.heap.size, 2, none⟩ = some (.int .i64 zz.m) := hc.2.1 2 (by simp)
    have c3 : w'.cell? ⟨w.heap.size, 3, none⟩ = some (.int .i64 zz.k) := hc.2.1 3 (by simp)
    have c4 : w'.cell? ⟨w.heap.size, 4, none⟩ = some (.int .i64 zz.d) := hc.2.1 4 (by simp)
    have c5 : w'.cell? ⟨w.heap.size, 5, none⟩ = some (.int .i64 zz.i) := hc.2.1 5 (by simp)
    have c6 : w'.cell? ⟨w.heap.size, 6, none⟩ = some (.int .i64 zz.m') := hc.2.1 6 (by simp)
    have c7 : w'.cell? ⟨w.heap.size, 7, none⟩ = some (.int .i64 zz.k') := hc.2.1 7 (by simp)
    have c8 : w'.cell? ⟨w.heap.size, 8, none⟩ = some (.int .i64 zz.d') := hc.2.1 8 (by simp)
    have c9 : w'.cell? ⟨w.heap.size, 9, none⟩ = some (.int .i64 zz.i') := hc.2.1 9 (by simp)
    have h5 := hK.val 15 _ 5 rfl (hall 15 (by decide)) rfl
    simp only [TLocal] at h5
    simp only [Array.getD_eq_getD_getElem?] at h5
    obtain ⟨z5, h5, z50, z59⟩ := h5
    obtain ⟨kk, hkk, hG⟩ := hK.world'
    have hkk : kk ≤ 16 := hkk
    have hdf : a.defers = [] := hK.defers
    clear hK hall hc
    go_wp2
    refine bodyPost_ret (v := .tuple #[(.agg #[.int .i64 (zz.o), .int .i64 (zz.s), .int .i64 (zz.m), .int .i64 (zz.k), .int .i64 (zz.d), .int .i64 (zz.i), .int .i64 (zz.m'), .int .i64 (zz.k'), .int .i64 (zz.d'), .int .i64 (zz.i')]), .int .i64 z5]) (by simp [results, Try.results49, go_sem, h4, c0, c1, c2, c3, c4, c5, c6, c7, c8, c9, h5]) hdf ?_
    exact ⟨zz, z5, rfl, hz, ⟨by omega, by omega⟩, Rd.more hG.rd (by omega), hG.mv⟩

/-- A draw's answer of a zone and a moment in its time. -/
def ZonedL (w : World) (e : Ending) (w' : World) : Prop := ∃ (z : Zn) (n : Int), e = .returned (.tuple #[(.agg #[.int .i64 (z.o), .int .i64 (z.s), .int .i64 (z.m), .int .i64 (z.k), .int .i64 (z.d), .int .i64 (z.i), .int .i64 (z.m'), .int .i64 (z.k'), .int .i64 (z.d'), .int .i64 (z.i')]), .int .i64 n]) ∧ Zb z ∧ (-800000 ≤ n ∧ n ≤ 126229500000) ∧ Below w.heap.size w w'
def ZonedB (w : World) (e : Ending) (w' : World) : Prop := ∃ (z : Zn) (n : Int) (b : Bool), e = .returned (.tuple #[(.agg #[.int .i64 (z.o), .int .i64 (z.s), .int .i64 (z.m), .int .i64 (z.k), .int .i64 (z.d), .int .i64 (z.i), .int .i64 (z.m'), .int .i64 (z.k'), .int .i64 (z.d'), .int .i64 (z.i')]), .int .i64 n, .bool b]) ∧ Zb z ∧ (-800000 ≤ n ∧ n ≤ 126229500000) ∧ Below w.heap.size w w'

set_option maxHeartbeats 1000000 in
theorem drawCommonOptions (v : Value) (w : World) (B : Nat) (h : BytesAt w B v) (hB : B = w.heap.size) :
    Calls Try.prog 22 #[v] w (ZonedL w) := by
  go_enter Try.func22, Try.ntmps22
  (have hz0 := hB; go_wp2_with fail; refine (open_rd _ _ _ (by first | with_reducible assumption | exact bytes_alloc h (by omega) _) (by first | omega | (simp; omega))).mono ?_; rintro e w1 ⟨r, rfl, hr0, hR, hb0⟩; have hr := hR.2.1)
  go_wp2_with fail
  refine (local_any _ _ _ _ _ (by repeat' (first | with_reducible assumption | with_reducible apply Rd.alloc | with_reducible apply Rd.drew | with_reducible refine Rd.store ?_ ?_ _ | omega | (simp; done) | (simp; omega))) (by omega) (by omega)).mono ?_
  rintro e w2 ⟨z, n, rfl, hz, hn, hR, hM⟩
  have hB2 := hb0.trans (hM.to_below _ hr0 hb0.size)
  have hbw : Below w.heap.size w w2 := ((Below.refl _ _).alloc (Nat.le_refl _) _).trans (hB2.mono (by simp))
  have az := below_new hB2
  have z0 := az.1 0 _ rfl; have z1 := az.1 1 _ rfl; have z2 := az.1 2 _ rfl; have z3 := az.1 3 _ rfl; have z4 := az.1 4 _ rfl; have z5 := az.1 5 _ rfl; have z6 := az.1 6 _ rfl; have z7 := az.1 7 _ rfl; have z8 := az.1 8 _ rfl; have z9 := az.1 9 _ rfl
  have zf := az.2
  have SS := same_some
  clear az hM hb0 hB2
  go_wp2_with fail
  ((try simp only [Exit.inBlock, Exit.then]); refine bodyPost_ret (v := .tuple #[(.agg #[.int .i64 (z.o), .int .i64 (z.s), .int .i64 (z.m), .int .i64 (z.k), .int .i64 (z.d), .int .i64 (z.i), .int .i64 (z.m'), .int .i64 (z.k'), .int .i64 (z.d'), .int .i64 (z.i')]), .int .i64 n]) (by simp [results, Try.results22, go_sem, *]; try rfl) rfl ?_)
  exact ⟨z, n, rfl, hz, hn, (by repeat' (first | with_reducible assumption | with_reducible exact Below.refl _ _ | with_reducible refine Below.setCell ?_ ?_ _ | with_reducible refine Below.alloc ?_ ?_ _ | with_reducible apply Below.drew | with_reducible apply Below.drewn | (simp; done) | (simp; omega)))⟩

set_option maxHeartbeats 1000000 in
theorem drawTimeKind (v : Value) (w : World) (B : Nat) (h : BytesAt w B v) (hB : B = w.heap.size) :
    Calls Try.prog 25 #[v] w (ZonedL w) := by
  go_enter Try.func25, Try.ntmps25
  (have hz0 := hB; go_wp2_with fail; refine (open_rd _ _ _ (by first | with_reducible assumption | exact bytes_alloc h (by omega) _) (by first | omega | (simp; omega))).mono ?_; rintro e w1 ⟨r, rfl, hr0, hR, hb0⟩; have hr := hR.2.1)
  go_wp2_with fail
  refine (local_any _ _ _ _ _ (by repeat' (first | with_reducible assumption | with_reducible apply Rd.alloc | with_reducible apply Rd.drew | with_reducible refine Rd.store ?_ ?_ _ | omega | (simp; done) | (simp; omega))) (by omega) (by omega)).mono ?_
  rintro e w2 ⟨z, n, rfl, hz, hn, hR, hM⟩
  have hB2 := hb0.trans (hM.to_below _ hr0 hb0.size)
  have hbw : Below w.heap.size w w2 := ((Below.refl _ _).alloc (Nat.le_refl _) _).trans (hB2.mono (by simp))
  have az := below_new hB2
  have z0 := az.1 0 _ rfl; have z1 := az.1 1 _ rfl; have z2 := az.1 2 _ rfl; have z3 := az.1 3 _ rfl; have z4 := az.1 4 _ rfl; have z5 := az.1 5 _ rfl; have z6 := az.1 6 _ rfl; have z7 := az.1 7 _ rfl; have z8 := az.1 8 _ rfl; have z9 := az.1 9 _ rfl
  have zf := az.2
  have SS := same_some
  clear az hM hb0 hB2
  go_wp2_with fail
  ((try simp only [Exit.inBlock, Exit.then]); refine bodyPost_ret (v := .tuple #[(.agg #[.int .i64 (z.o), .int .i64 (z.s), .int .i64 (z.m), .int .i64 (z.k), .int .i64 (z.d), .int .i64 (z.i), .int .i64 (z.m'), .int .i64 (z.k'), .int .i64 (z.d'), .int .i64 (z.i')]), .int .i64 n]) (by simp [results, Try.results25, go_sem, *]; try rfl) rfl ?_)
  exact ⟨z, n, rfl, hz, hn, (by repeat' (first | with_reducible assumption | with_reducible exact Below.refl _ _ | with_reducible refine Below.setCell ?_ ?_ _ | with_reducible refine Below.alloc ?_ ?_ _ | with_reducible apply Below.drew | with_reducible apply Below.drewn | (simp; done) | (simp; omega)))⟩

def TComOf (base r : Nat) (st : Value) : Nat → World → Value → Prop
  | 0, w, v => v = st
  | 1, w, v => Reg.IntIn (-800000) 126229500000 v
  | 2, w, v => v = .pointer (some ⟨r, 0, none⟩)
  | 3, w, v => Reg.IntIn 0 1 v
  | 4, w, v => ∃ x : Bool, v = .bool x
  | 6, w, v => Reg.IntIn (-800000) 126229500000 v
  | 7, w, v => ∃ x : Bool, v = .bool x
  | _, _, _ => True
theorem TComOf_fut {base r : Nat} {st : Value} : ∀ i w w' v, TComOf base r st i w v → Reg.Fut base w w' → TComOf base r st i w' v := by
  intro i w w' v h f
  unfold TComOf at *
  split at h
  all_goals exact h
set_option maxHeartbeats 4000000 in
theorem drawCommonOf (v : Value) (w : World) (B : Nat) (h : BytesAt w B v) (hB : B = w.heap.size) :
    Calls Try.prog 28 #[v] w (ZonedB w) := by
  go_enter Try.func28, Try.ntmps28
  (have hz0 := hB; go_wp2_with fail; refine (open_rd _ _ _ (by first | with_reducible assumption | exact bytes_alloc h (by omega) _) (by first | omega | (simp; omega))).mono ?_; rintro e w1 ⟨r, rfl, hr0, hR, hb0⟩; have hr := hR.2.1)
  go_wp2_with fail
  refine (local_any _ _ _ _ _ (by repeat' (first | with_reducible assumption | with_reducible apply Rd.alloc | with_reducible apply Rd.drew | with_reducible refine Rd.store ?_ ?_ _ | omega | (simp; done) | (simp; omega))) (by omega) (by omega)).mono ?_
  rintro e w2 ⟨zz, tt, rfl, hz, ⟨tt0, tt9⟩, hR, hM⟩
  have hwr : w.heap.size < r := by have := hr0; simp at this; omega
  have hB2 := hb0.trans (hM.to_below _ hr0 hb0.size)
  have hbw : Below w.heap.size w w2 := ((Below.refl _ _).alloc (Nat.le_refl _) _).trans (hB2.mono (by simp))
  have hout0 := (Has.made w _ _).below hB2
  have hr2 := hR.2.1
  clear hM hb0 hB2
  go_wp2_with fail
  have hsrc : Has (w2.alloc (.cells #[.int .i64 zz.o, .int .i64 zz.s, .int .i64 zz.m, .int .i64 zz.k, .int .i64 zz.d, .int .i64 zz.i, .int .i64 zz.m', .int .i64 zz.k', .int .i64 zz.d', .int .i64 zz.i'] 26)) w2.heap.size #[.int .i64 zz.o, .int .i64 zz.s, .int .i64 zz.m, .int .i64 zz.k, .int .i64 zz.d, .int .i64 zz.i, .int .i64 zz.m', .int .i64 zz.k', .int .i64 zz.d', .int .i64 zz.i'].toList := Has.made w2 _ _
  have hR := hR.alloc (.cells #[.int .i64 zz.o, .int .i64 zz.s, .int .i64 zz.m, .int .i64 zz.k, .int .i64 zz.d, .int .i64 zz.i, .int .i64 zz.m', .int .i64 zz.k', .int .i64 zz.d', .int .i64 zz.i'] 26)
  have hmv := (Reg.Moved.of_below (r := r) hbw).alloc (.cells #[.int .i64 zz.o, .int .i64 zz.s, .int .i64 zz.m, .int .i64 zz.k, .int .i64 zz.d, .int .i64 zz.i, .int .i64 zz.m', .int .i64 zz.k', .int .i64 zz.d', .int .i64 zz.i'] 26)
  have hout : ∃ us : List Value, us.length = 10 ∧ Has (w2.alloc (.cells #[.int .i64 zz.o, .int .i64 zz.s, .int .i64 zz.m, .int .i64 zz.k, .int .i64 zz.d, .int .i64 zz.i, .int .i64 zz.m', .int .i64 zz.k', .int .i64 zz.d', .int .i64 zz.i'] 26)) w.heap.size us := ⟨_, rfl, hout0.alloc _⟩
  have hs2 := hsrc.1
  generalize w2.alloc (.cells #[.int .i64 zz.o, .int .i64 zz.s, .int .i64 zz.m, .int .i64 zz.k, .int .i64 zz.d, .int .i64 zz.i, .int .i64 zz.m', .int .i64 zz.k', .int .i64 zz.d', .int .i64 zz.i'] 26) = wp at *
  generalize w2.heap.size = b at *
  have hbr : b ≠ r := by omega
  have hcr : w.heap.size ≠ r := by omega
  have hcb : w.heap.size ≠ b := by omega
  have hBc : B ≤ w.heap.size := by omega
  have h0c : w.heap.size ≤ w.heap.size := Nat.le_refl _
  have hrb : r < wp.heap.size := by omega
  have hcbase : w.heap.size < wp.heap.size := by omega
  have hwr : w.heap.size ≤ r := by omega
  generalize hbase : wp.heap.size = base at *
  refine Reg.wp_region_typed (by kernel_rfl) (TComOf base r ((.agg #[.int .i64 (zz.o), .int .i64 (zz.s), .int .i64 (zz.m), .int .i64 (zz.k), .int .i64 (zz.d), .int .i64 (zz.i), .int .i64 (zz.m'), .int .i64 (zz.k'), .int .i64 (zz.d'), .int .i64 (zz.i')]))) (Reg.Bear 1000 w B r (0 + 60000) base b w.heap.size [.int .i64 zz.o, .int .i64 zz.s, .int .i64 zz.m, .int .i64 zz.k, .int .i64 zz.d, .int .i64 zz.i, .int .i64 zz.m', .int .i64 zz.k', .int .i64 zz.d', .int .i64 zz.i'] 5) (Reg.Fut base) TComOf_fut (by kernel_rfl) ?_ (Reg.each_op ⟨?_, ?_, ?_, ?_, ?_, ?_, ?_, ?_, trivial⟩) ?_
  · exact ⟨hR.drew, by show base ≤ wp.heap.size; omega, Moved.drewr hmv, hsrc.drew, by obtain ⟨us, e, hu⟩ := hout; exact ⟨us, e, hu.drew⟩, fun h => by simp [Array.getD_eq_getD_getElem?] at h⟩
  · intro l a w' k hi hk hO hA hL hG K hK
    have hk' : k < 8 := hk
    have h6 := hO 6 (Reg.no_dst (by kernel_rfl))
    simp at h6
    have s0 : w'.cell? ⟨b, 0, none⟩ = some (.int .i64 zz.o) := hG.src.2.1 0 (by simp)
    have s1 : w'.cell? ⟨b, 1, none⟩ = some (.int .i64 zz.s) := hG.src.2.1 1 (by simp)
    have s2 : w'.cell? ⟨b, 2, none⟩ = some (.int .i64 zz.m) := hG.src.2.1 2 (by simp)
    have s3 : w'.cell? ⟨b, 3, none⟩ = some (.int .i64 zz.k) := hG.src.2.1 3 (by simp)
    have s4 : w'.cell? ⟨b, 4, none⟩ = some (.int .i64 zz.d) := hG.src.2.1 4 (by simp)
    have s5 : w'.cell? ⟨b, 5, none⟩ = some (.int .i64 zz.i) := hG.src.2.1 5 (by simp)
    have s6 : w'.cell? ⟨b, 6, none⟩ = some (.int .i64 zz.m') := hG.src.2.1 6 (by simp)
    have s7 : w'.cell? ⟨b, 7, none⟩ = some (.int .i64 zz.k') := hG.src.2.1 7 (by simp)
    have s8 : w'.cell? ⟨b, 8, none⟩ = some (.int .i64 zz.d') := hG.src.2.1 8 (by simp)
    have s9 : w'.cell? ⟨b, 9, none⟩ = some (.int .i64 zz.i') := hG.src.2.1 9 (by simp)
    unfold Oper.wp
    simp [execOp, Act.eval, Oper.upon, h6, s0, s1, s2, s3, s4, s5, s6, s7, s8, s9, go_sem]
    exact hK _ _ (fun _ => rfl) (Reg.Fut.refl _ _) (fun k' h1 h2 => hG.same h1 hi (by omega))
  · intro l a w' k hi hk hO hA hL hG K hK
    have hk' : k < 8 := hk
    have h7 := hO 7 (Reg.no_dst (by kernel_rfl))
    simp at h7
    unfold Oper.wp
    simp [execOp, Act.eval, Oper.upon, h7, go_sem]
    exact hK _ _ (fun _ => ⟨tt, rfl, by omega, by omega⟩) (Reg.Fut.refl _ _) (fun k' h1 h2 => hG.same h1 hi (by omega))
  · intro l a w' k hi hk hO hA hL hG K hK
    have hk' : k < 8 := hk
    have h5 := hO 5 (Reg.no_dst (by kernel_rfl))
    simp at h5
    unfold Oper.wp
    simp [execOp, Act.eval, Oper.upon, h5, go_sem]
    exact hK _ _ (fun _ => rfl) (Reg.Fut.refl _ _) (fun k' h1 h2 => hG.same h1 hi (by omega))
  · intro l a w' k hi hk hO hA hL hG K hK
    have hk' : k < 8 := hk
    have h17 := hA 2 _ 17 rfl (by simp; first | exact rfl | exact .inl rfl) rfl
    simp only [TComOf] at h17
    simp only [Array.getD_eq_getD_getElem?] at h17
    unfold Oper.wp
    simp [execOp, Act.eval, Oper.upon, h17, go_sem]
    refine (pick_any _ _ _ _ _ hG.rd (by omega) (by omega)).mono ?_
    rintro e wz ⟨p, rfl, p0, p9, hR, hM, hS'⟩
    exact hK _ _ (fun _ => ⟨p, rfl, by omega, by omega⟩) (Reg.Fut.moved hM hrb) (fun k' h1 h2 => hG.moved h1 hi (by omega) hM (Reg.rd_more hR (by omega)) hbr hcr)
  · intro l a w' k hi hk hO hA hL hG K hK
    have hk' : k < 8 := hk
    have h18 := hA 3 _ 18 rfl (by simp; first | exact rfl | exact .inl rfl) rfl
    simp only [TComOf] at h18
    simp only [Array.getD_eq_getD_getElem?] at h18
    obtain ⟨p, h18, p0, p9⟩ := h18
    unfold Oper.wp
    simp [execOp, Act.eval, Oper.upon, h18, go_sem]
    exact hK _ _ (fun _ => ⟨_, rfl⟩) (Reg.Fut.refl _ _) (fun k' h1 h2 => hG.same h1 hi (by omega))
  · intro l a w' k hi hk hO hA hL hG K hK
    have hk' : k < 8 := hk
    have h2 := hO 2 (Reg.no_dst (by kernel_rfl))
    simp at h2
    have h15 := hA 0 _ 15 rfl (by simp; first | exact rfl | exact .inl rfl) rfl
    simp only [TComOf] at h15
    simp only [Array.getD_eq_getD_getElem?] at h15
    obtain ⟨us, ul, hu⟩ := hG.out
    have ov := Reg.many_val (n := 10) (by simpa using ul)
    obtain ⟨u0, e0⟩ := ov 0 (by omega)
    obtain ⟨u1, e1⟩ := ov 1 (by omega)
    obtain ⟨u2, e2⟩ := ov 2 (by omega)
    obtain ⟨u3, e3⟩ := ov 3 (by omega)
    obtain ⟨u4, e4⟩ := ov 4 (by omega)
    obtain ⟨u5, e5⟩ := ov 5 (by omega)
    obtain ⟨u6, e6⟩ := ov 6 (by omega)
    obtain ⟨u7, e7⟩ := ov 7 (by omega)
    obtain ⟨u8, e8⟩ := ov 8 (by omega)
    obtain ⟨u9, e9⟩ := ov 9 (by omega)
    have o0 := (hu.2.1 0 (by rw [ul]; simp)).trans e0
    have o1 := (hu.2.1 1 (by rw [ul]; simp)).trans e1
    have o2 := (hu.2.1 2 (by rw [ul]; simp)).trans e2
    have o3 := (hu.2.1 3 (by rw [ul]; simp)).trans e3
    have o4 := (hu.2.1 4 (by rw [ul]; simp)).trans e4
    have o5 := (hu.2.1 5 (by rw [ul]; simp)).trans e5
    have o6 := (hu.2.1 6 (by rw [ul]; simp)).trans e6
    have o7 := (hu.2.1 7 (by rw [ul]; simp)).trans e7
    have o8 := (hu.2.1 8 (by rw [ul]; simp)).trans e8
    have o9 := (hu.2.1 9 (by rw [ul]; simp)).trans e9
    have of := hu.2.2
    unfold Oper.wp
    simp [execOp, Act.eval, Oper.upon, h2, h15, o0, o1, o2, o3, o4, o5, o6, o7, o8, o9, of, go_sem]
    exact hK undef (writes w' w.heap.size 0 [.int .i64 zz.o, .int .i64 zz.s, .int .i64 zz.m, .int .i64 zz.k, .int .i64 zz.d, .int .i64 zz.i, .int .i64 zz.m', .int .i64 zz.k', .int .i64 zz.d', .int .i64 zz.i']) (fun h => absurd rfl h) (Reg.writes_fut hcbase _ _ _) (fun k' h1 h2 => hG.store h1 hcb hcr hBc h0c hcbase)
  · intro l a w' k hi hk hO hA hL hG K hK
    have hk' : k < 8 := hk
    have h16 := hA 1 _ 16 rfl (by simp; first | exact rfl | exact .inl rfl) rfl
    simp only [TComOf] at h16
    simp only [Array.getD_eq_getD_getElem?] at h16
    obtain ⟨x, h16, x0, x9⟩ := h16
    unfold Oper.wp
    simp [execOp, Act.eval, Oper.upon, h16, go_sem]
    exact hK _ _ (fun _ => ⟨x, rfl, x0, x9⟩) (Reg.Fut.refl _ _) (fun k' h1 h2 => hG.same h1 hi (by omega))
  · intro l a w' k hi hk hO hA hL hG K hK
    have hk' : k < 8 := hk
    have h19 := hA 4 _ 19 rfl (by simp; first | exact rfl | exact .inl rfl) rfl
    simp only [TComOf] at h19
    simp only [Array.getD_eq_getD_getElem?] at h19
    obtain ⟨x, h19⟩ := h19
    unfold Oper.wp
    simp [execOp, Act.eval, Oper.upon, h19, go_sem]
    exact hK _ _ (fun _ => ⟨x, rfl⟩) (Reg.Fut.refl _ _) (fun k' h1 h2 => hG.same h1 hi (by omega))
  · intro l a w' hK hall
    have h2 := hK.other 2 (Reg.no_dst (by kernel_rfl))
    simp at h2
    have hc := hK.world.done (hall 5 (by decide))
    have c0 : w'.cell? ⟨w.heap.size, 0, none⟩ = some (.int .i64 zz.o) := hc.2.1 0 (by simp)
    have c1 : w'.cell? ⟨w.heap.size, 1, none⟩ = some (.int .i64 zz.s) := hc.2.1 1 (by simp)
    have c2 : w'.cell? ⟨w.heap.size, 2, none⟩ = some (.int .i64 zz.m) := hc.2.1 2 (by simp)
    have c3 : w'.cell? ⟨w.heap.size, 3, none⟩ = some (.int .i64 zz.k) := hc.2.1 3 (by simp)
    have c4 : w'.cell? ⟨w.heap.size, 4, none⟩ = some (.int .i64 zz.d) := hc.2.1 4 (by simp)
    have c5 : w'.cell? ⟨w.heap.size, 5, none⟩ = some (.int .i64 zz.i) := hc.2.1 5 (by simp)
    have c6 : w'.cell? ⟨w.heap.size, 6, none⟩ = some (.int .i64 zz.m') := hc.2.1 6 (by simp)
    have c7 : w'.cell? ⟨w.heap.size, 7, none⟩ = some (.int .i64 zz.k') := hc.2.1 7 (by simp)
    have c8 : w'.cell? ⟨w.heap.size, 8, none⟩ = some (.int .i64 zz.d') := hc.2.1 8 (by simp)
    have c9 : w'.cell? ⟨w.heap.size, 9, none⟩ = some (.int .i64 zz.i') := hc.2.1 9 (by simp)
    have h3 := hK.val 6 _ 3 rfl (hall 6 (by decide)) rfl
    simp only [TComOf] at h3
    simp only [Array.getD_eq_getD_getElem?] at h3
    obtain ⟨z3, h3, z30, z39⟩ := h3
    have h4 := hK.val 7 _ 4 rfl (hall 7 (by decide)) rfl
    simp only [TComOf] at h4
    simp only [Array.getD_eq_getD_getElem?] at h4
    obtain ⟨z4, h4⟩ := h4
    have hbw := hK.world.mv.to_below w.heap.size hwr (Nat.le_refl _)
    have hdf : a.defers = [] := hK.defers
    clear hK hall hc
    go_wp2
    refine bodyPost_ret (v := .tuple #[(.agg #[.int .i64 (zz.o), .int .i64 (zz.s), .int .i64 (zz.m), .int .i64 (zz.k), .int .i64 (zz.d), .int .i64 (zz.i), .int .i64 (zz.m'), .int .i64 (zz.k'), .int .i64 (zz.d'), .int .i64 (zz.i')]), .int .i64 z3, .bool z4]) (by simp [results, Try.results28, go_sem, h2, c0, c1, c2, c3, c4, c5, c6, c7, c8, c9, h3, h4]) hdf ?_
    exact ⟨zz, z3, z4, rfl, hz, ⟨by omega, by omega⟩, hbw⟩
end Go.Proofs.Ytlmmianaplahaaa
