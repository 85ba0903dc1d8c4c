/-
  THE MODEL's DRAWS OF CHAPTER 7: fields, sets and their texts, whatever the code is.
-/
import Derived.Test.YtlpodfachgnkhaaDoorFields
import Derived.Test.YtlpodfachgnkhaaDoorRegDraw
import Derived.Test.YtlpodfachgnkhaaDoorBear
import Derived.Test.YtlpodfachgnkhaaDoorOdd
import Derived.Test.YtlpodfachgnkhaaDoorTab
import Derived.Test.YtlpodfachgnkhaaDoorTabS
import Derived.Test.YtlpodfachgnkhaaDoorDrawDays
import Derived.Deep.CutBlock
set_option linter.unusedVariables false
set_option linter.unusedSimpArgs false
namespace Go.Proofs.YtlpodfachgnkhaaDoor
open Go.ChangeShapes Go.WideShapes Go.ChangeAt Go.RowKit Law Cal

/-- A field was drawn. -/
def Fielded (B r K : Nat) (w : World) (e : Ending) (w' : World) : Prop := ∃ lo hi : Int, e = .returned (.tuple #[.int .i64 lo, .int .i64 hi]) ∧ (0 ≤ lo ∧ lo ≤ 1) ∧ (6 ≤ hi ∧ hi ≤ 59) ∧ Rd w' B r K ∧ Moved r w w'

def TField (base r : Nat) (st : Value) : Nat → World → Value → Prop
  | 0, w, v => Reg.Tab base w 5 0 1 v
  | 1, w, v => Reg.IntIn 0 4 v
  | 2, w, v => Reg.Spot base w 0 1 v
  | 3, w, v => Reg.IntIn 0 1 v
  | 4, w, v => Reg.Tab base w 5 6 59 v
  | 5, w, v => Reg.IntIn 0 4 v
  | 6, w, v => Reg.Spot base w 6 59 v
  | 7, w, v => Reg.IntIn 6 59 v
  | 8, w, v => Reg.IntIn 0 1 v
  | 9, w, v => Reg.IntIn 6 59 v
  | _, _, _ => True
theorem TField_fut {base r : Nat} {st : Value} : ∀ i w w' v, TField base r st i w v → Reg.Fut base w w' → TField base r st i w' v := by
  intro i w w' v h f
  unfold TField at *
  split at h
  case h_1 => exact h.fut f
  case h_3 => exact h.fut f
  case h_5 => exact h.fut f
  case h_7 => exact h.fut f
  all_goals exact h

set_option maxHeartbeats 4000000 in
theorem field_any (r : Nat) (w : World) (B K : Nat) (h : Rd w B r K) (hK : K < 999000000) :
    Calls Tryd.prog 18 #[.pointer (some ⟨r, 0, none⟩)] w (Fielded B r (K + 20000) w) := by
  have hr := h.2.1
  go_enter Tryd.func18, Tryd.ntmps18
  go_wp2_with fail
  refine (pick_pos 5 r _ B K h (by omega) (by omega) (by omega)).mono ?_
  rintro e wp ⟨kk, rfl, kk0, kk9, hR, hM⟩
  have hmv := hM
  have hrb : r < wp.heap.size := hR.2.1
  go_wp2_with fail
  generalize hbase : wp.heap.size = base at *
  refine Reg.wp_region_typed (by kernel_rfl) (TField base r undef) (Reg.Plain 1000 w B r (K + 1) base) (Reg.Fut base) TField_fut (by kernel_rfl) ?_ (Reg.each_op ⟨?_, ?_, ?_, ?_, ?_, ?_, ?_, ?_, ?_, ?_, trivial⟩) ?_
  · exact ⟨hR.drew, by show base ≤ wp.heap.size; omega, Moved.drewr hmv⟩
  · intro l a w' k hi hk hO hA hL hG K hK
    have hk' : k < 10 := hk
    unfold Oper.wp
    simp [execOp, Act.eval, Oper.upon, hi, go_sem]
    exact hK _ _ (fun _ => Reg.tab_new _ _ hG.size rfl rfl (by first | (simp [intOf]; done) | (simp [intOf]; omega))) (Reg.Fut.below ((Below.refl _ _).alloc (Nat.le_refl _) _)) (fun k' h1 h2 => hG.alloc h1 _)
  · intro l a w' k hi hk hO hA hL hG K hK
    have hk' : k < 10 := hk
    have h4 := hO 4 (Reg.no_dst (by kernel_rfl))
    simp at h4
    unfold Oper.wp
    simp [execOp, Act.eval, Oper.upon, h4, go_sem]
    exact hK _ _ (fun _ => ⟨kk, rfl, by omega, by omega⟩) (Reg.Fut.refl _ _) (fun k' h1 h2 => hG.same h1)
  · intro l a w' k hi hk hO hA hL hG K hK
    have hk' : k < 10 := hk
    have h7 := hA 0 _ 7 rfl (by simp; first | exact rfl | exact .inl rfl) rfl
    simp only [TField] at h7
    simp only [Array.getD_eq_getD_getElem?] at h7
    have h8 := hA 1 _ 8 rfl (by simp; first | exact rfl | exact .inl rfl) rfl
    simp only [TField] at h8
    simp only [Array.getD_eq_getD_getElem?] at h8
    obtain ⟨b, h7, b1, b2, b3⟩ := h7
    obtain ⟨q, h8, q0, q9⟩ := h8
    have q1 : q < 5 := by omega
    unfold Oper.wp
    simp [execOp, Act.eval, Oper.upon, h7, h8, q0, q1, go_sem]
    exact hK _ _ (fun _ => ⟨b, q.toNat, rfl, b1, b2, b3 q.toNat (by omega)⟩) (Reg.Fut.refl _ _) (fun k' h1 h2 => hG.same h1)
  · intro l a w' k hi hk hO hA hL hG K hK
    have hk' : k < 10 := hk
    have h9 := hA 2 _ 9 rfl (by simp; first | exact rfl | exact .inl rfl) rfl
    simp only [TField] at h9
    simp only [Array.getD_eq_getD_getElem?] at h9
    obtain ⟨b, q, h9, b1, b2, x, hx, x0, x9⟩ := h9
    unfold Oper.wp
    simp [execOp, Act.eval, Oper.upon, h9, hx, go_sem]
    exact hK _ _ (fun _ => ⟨x, rfl, x0, x9⟩) (Reg.Fut.refl _ _) (fun k' h1 h2 => hG.same h1)
  · intro l a w' k hi hk hO hA hL hG K hK
    have hk' : k < 10 := hk
    unfold Oper.wp
    simp [execOp, Act.eval, Oper.upon, hi, go_sem]
    exact hK _ _ (fun _ => Reg.tab_new _ _ hG.size rfl rfl (by first | (simp [intOf]; done) | (simp [intOf]; omega))) (Reg.Fut.below ((Below.refl _ _).alloc (Nat.le_refl _) _)) (fun k' h1 h2 => hG.alloc h1 _)
  · intro l a w' k hi hk hO hA hL hG K hK
    have hk' : k < 10 := hk
    have h4 := hO 4 (Reg.no_dst (by kernel_rfl))
    simp at h4
    unfold Oper.wp
    simp [execOp, Act.eval, Oper.upon, h4, go_sem]
    exact hK _ _ (fun _ => ⟨kk, rfl, by omega, by omega⟩) (Reg.Fut.refl _ _) (fun k' h1 h2 => hG.same h1)
  · intro l a w' k hi hk hO hA hL hG K hK
    have hk' : k < 10 := hk
    have h11 := hA 4 _ 11 rfl (by simp; first | exact rfl | exact .inl rfl) rfl
    simp only [TField] at h11
    simp only [Array.getD_eq_getD_getElem?] at h11
    have h12 := hA 5 _ 12 rfl (by simp; first | exact rfl | exact .inl rfl) rfl
    simp only [TField] at h12
    simp only [Array.getD_eq_getD_getElem?] at h12
    obtain ⟨b, h11, b1, b2, b3⟩ := h11
    obtain ⟨q, h12, q0, q9⟩ := h12
    have q1 : q < 5 := by omega
    unfold Oper.wp
    simp [execOp, Act.eval, Oper.upon, h11, h12, q0, q1, go_sem]
    exact hK _ _ (fun _ => ⟨b, q.toNat, rfl, b1, b2, b3 q.toNat (by omega)⟩) (Reg.Fut.refl _ _) (fun k' h1 h2 => hG.same h1)
  · intro l a w' k hi hk hO hA hL hG K hK
    have hk' : k < 10 := hk
    have h13 := hA 6 _ 13 rfl (by simp; first | exact rfl | exact .inl rfl) rfl
    simp only [TField] at h13
    simp only [Array.getD_eq_getD_getElem?] at h13
    obtain ⟨b, q, h13, b1, b2, x, hx, x0, x9⟩ := h13
    unfold Oper.wp
    simp [execOp, Act.eval, Oper.upon, h13, hx, go_sem]
    exact hK _ _ (fun _ => ⟨x, rfl, x0, x9⟩) (Reg.Fut.refl _ _) (fun k' h1 h2 => hG.same h1)
  · intro l a w' k hi hk hO hA hL hG K hK
    have hk' : k < 10 := hk
    have h10 := hA 3 _ 10 rfl (by simp; first | exact rfl | exact .inl rfl) rfl
    simp only [TField] at h10
    simp only [Array.getD_eq_getD_getElem?] at h10
    obtain ⟨x, h10, x0, x9⟩ := h10
    unfold Oper.wp
    simp [execOp, Act.eval, Oper.upon, h10, go_sem]
    exact hK _ _ (fun _ => ⟨x, rfl, x0, x9⟩) (Reg.Fut.refl _ _) (fun k' h1 h2 => hG.same h1)
  · intro l a w' k hi hk hO hA hL hG K hK
    have hk' : k < 10 := hk
    have h14 := hA 7 _ 14 rfl (by simp; first | exact rfl | exact .inl rfl) rfl
    simp only [TField] at h14
    simp only [Array.getD_eq_getD_getElem?] at h14
    obtain ⟨x, h14, x0, x9⟩ := h14
    unfold Oper.wp
    simp [execOp, Act.eval, Oper.upon, h14, go_sem]
    exact hK _ _ (fun _ => ⟨x, rfl, x0, x9⟩) (Reg.Fut.refl _ _) (fun k' h1 h2 => hG.same h1)
  · intro l a w' hK hall
    have h2 := hK.val 8 _ 2 rfl (hall 8 (by decide)) rfl
    simp only [TField] at h2
    simp only [Array.getD_eq_getD_getElem?] at h2
    obtain ⟨z2, h2, z20, z29⟩ := h2
    have h3 := hK.val 9 _ 3 rfl (hall 9 (by decide)) rfl
    simp only [TField] at h3
    simp only [Array.getD_eq_getD_getElem?] at h3
    obtain ⟨z3, h3, z30, z39⟩ := h3
    obtain ⟨kq, hkq, hG⟩ := hK.world'
    have hkq : kq ≤ 10 := hkq
    have hdf : a.defers = [] := hK.defers
    clear hK hall
    go_wp2
    refine bodyPost_ret (v := .tuple #[.int .i64 z2, .int .i64 z3]) (by simp [results, Tryd.results18, go_sem, h2, h3]) hdf ?_
    exact ⟨z2, z3, rfl, by omega, by omega, Reg.rd_more hG.rd (by omega), hG.mv⟩

/-- A set was drawn. -/
def TSet (base r : Nat) (st : Value) : Nat → World → Value → Prop
  | 0, w, v => Reg.IntIn 0 59 v
  | 1, w, v => Reg.IntIn 1 60 v
  | 2, w, v => Reg.IntIn 1 60 v
  | 3, w, v => Reg.IntIn (-9223372036854775808) 9223372036854775807 v
  | 4, w, v => Reg.Tab base w 4 (-9223372036854775808) 9223372036854775807 v
  | 5, w, v => v = .pointer (some ⟨r, 0, none⟩)
  | 6, w, v => Reg.IntIn 0 3 v
  | 7, w, v => Reg.Spot base w (-9223372036854775808) 9223372036854775807 v
  | 8, w, v => Reg.IntIn (-9223372036854775808) 9223372036854775807 v
  | 9, w, v => Reg.IntIn (-9223372036854775808) 9223372036854775807 v
  | _, _, _ => True
theorem TSet_fut {base r : Nat} {st : Value} : ∀ i w w' v, TSet base r st i w v → Reg.Fut base w w' → TSet base r st i w' v := by
  intro i w w' v h f
  unfold TSet at *
  split at h
  case h_5 => exact h.fut f
  case h_8 => exact h.fut f
  all_goals exact h

theorem or_bd (a b : Int) : -9223372036854775808 ≤ bits .or .i64 a b ∧ bits .or .i64 a b ≤ 9223372036854775807 := by
  show -9223372036854775808 ≤ IntKind.i64.wrap _ ∧ IntKind.i64.wrap _ ≤ 9223372036854775807
  rw [IntKind.wrap_i64]
  omega

set_option maxRecDepth 100000 in
set_option maxHeartbeats 8000000 in
theorem set_any (lo hh n : Int) (r : Nat) (w : World) (B K : Nat) (h : Rd w B r K) (hK : K < 990000000) (hl : 0 ≤ lo ∧ lo ≤ hh ∧ hh ≤ 59) (hn : 0 ≤ n ∧ n ≤ 1000) :
    Calls Tryd.prog 19 #[.pointer (some ⟨r, 0, none⟩), .int .i64 lo, .int .i64 hh, .int .i64 n] w (Num B r (K + 20000) (-9223372036854775808) 9223372036854775807 w) := by
  have hr := h.2.1
  obtain ⟨l0, l1, l9⟩ := hl
  go_enter Tryd.func19, Tryd.ntmps19
  go_upto_block 0 with (first | (go_at_call 33; refine (pick_pos 3 r _ B K h (by omega) (by omega) (by omega)).mono ?_; rintro e wp ⟨c, rfl, c0, c9, hR, hM⟩))
  go_cut [9] from 14 to 61 (fun s9 wx => (∃ z : Int, s9 = .int .i64 z ∧ -9223372036854775808 ≤ z ∧ z ≤ 9223372036854775807) ∧ Rd wx B r (K + 50) ∧ Moved r w wx)
  case first =>
    have hA := hM
    clear hM
    rcases (show c = 0 ∨ c = 1 ∨ c = 2 by omega) with rfl | rfl | rfl
    · have fd : fdB lo hh = true := by unfold fdB; simp; omega
      have fl : fullF lo.toNat hh.toNat < 2 ^ 60 := inF_lt (lo := lo.toNat) (hi := hh.toNat) (fun n hn => by rw [fullF_bit] at hn; simpa using hn) (by omega)
      have FD := Lib.hid fd; clear fd
      go_wp2_with (first | (go_at_call 24; refine (sFullI _ _ _ FD.out).mono ?_; rintro e wx ⟨rfl, rfl⟩) | fail)
      go_meet
      exact ⟨⟨_, rfl, by omega, by omega⟩, Rd.more hR (by omega), hA⟩
    · go_wp2_with fail
      refine (pick_pos (hh - lo + 1) r _ B (K + 1) hR (by omega) (by omega) (by omega)).mono ?_
      rintro e wp ⟨p, rfl, p0, p9, hR, hM⟩
      have hA := hA.trans hM
      have p1 : ¬ lo + p < 0 := by omega
      clear hM
      go_wp2_with fail
      go_meet
      exact ⟨⟨_, rfl, by unfold wrap64; omega, by unfold wrap64; omega⟩, Rd.more hR (by omega), hA⟩
    · go_wp2_with fail
      refine (pick_pos 6 r _ B (K + 1) hR (by omega) (by omega) (by omega)).mono ?_
      rintro e wp ⟨p, rfl, p0, p9, hR, hM⟩
      have hA := hA.trans hM
      clear hM
      go_wp2_with fail
      go_loopg [9, 10] (1 + p).toNat (fun q sv kv wr => ∃ (z : Int), sv = .int .i64 z ∧ (-9223372036854775808 ≤ z ∧ z ≤ 9223372036854775807) ∧ kv = .int .i64 (q : Int) ∧ q ≤ 6 ∧ Rd wr B r (K + 30 - 3 * q) ∧ Moved r w wr)
      case atStart => exact ⟨0, rfl, by omega, by rw [show (((1 + p).toNat : Nat) : Int) = 1 + p by omega], by omega, Rd.more hR (by omega), hA⟩
      case round =>
        obtain ⟨z, rfl, ⟨z0, z9⟩, rfl, hq, hR, hA⟩ := hrel
        by_cases g : 0 < gk
        · obtain ⟨q, rfl⟩ : ∃ q, gk = q + 1 := ⟨gk - 1, by omega⟩
          have g' : (0 : Int) < ((q + 1 : Nat) : Int) := by omega
          go_wp2_with fail
          refine (pick_pos (hh - lo + 1) r _ B (K + 30 - 3 * (q + 1)) hR (by omega) (by omega) (by omega)).mono ?_
          rintro e wp ⟨m, rfl, m0, m9, hR, hM⟩
          have hA := hA.trans hM
          have p1 : ¬ lo + m < 0 := by omega
          have w1 : IntKind.i64.wrap (lo + m + 1) = lo + m + 1 := IntWalk.i64_in _ (by omega)
          have p2 : ¬ lo + m + 1 < 0 := by omega
          clear hM
          by_cases d : lo + m < hh
          · go_wp2_with fail
            refine (pick_pos 2 r _ B (K + 30 - 3 * (q + 1) + 1) hR (by omega) (by omega) (by omega)).mono ?_
            rintro e wp ⟨j, rfl, j0, j9, hR, hM⟩
            have hA := hA.trans hM
            clear hM
            by_cases jj : j = 0
            · subst jj
              go_wp2_with fail
              go_roundg q
              case measure => omega
              case rel => exact ⟨_, rfl, or_bd _ _, by go_num, by omega, Rd.more hR (by omega), hA⟩
            · have jj' : (j == 0) = false := by simpa using jj
              clear jj
              go_wp2_with fail
              go_roundg q
              case measure => omega
              case rel => exact ⟨_, rfl, or_bd _ _, by go_num, by omega, Rd.more hR (by omega), hA⟩
          · go_wp2_with fail
            go_roundg q
            case measure => omega
            case rel => exact ⟨_, rfl, or_bd _ _, by go_num, by omega, Rd.more hR (by omega), hA⟩
        · have : gk = 0 := by omega
          subst this
          go_wp2_with fail
          go_meet
          exact ⟨⟨_, rfl, by omega, by omega⟩, Rd.more hR (by omega), hA⟩
  case rest =>
    clear hR hM
    obtain ⟨⟨z, rfl, z0, z9⟩, hR, hA⟩ := hcut
    go_wp2_with fail
    refine (odd_any _ r _ B (K + 50) hR (by omega) hn).mono ?_
    rintro e wp ⟨o, rfl, hR, hM⟩
    have hmv := hA.trans hM
    clear hA hM
    have hrb : r < wp.heap.size := hR.2.1
    cases o
    · go_wp2
      go_ret
      exact ⟨z, rfl, by omega, by omega, Rd.more hR (by omega), hmv⟩
    · go_wp2_with fail
      generalize hbase : wp.heap.size = base at *
      refine Reg.wp_region_typed (by kernel_rfl) (TSet base r undef) (Reg.Plain 1000 w B r (K + 50 + 1) base) (Reg.Fut base) TSet_fut (by kernel_rfl) ?_ (Reg.each_op ⟨?_, ?_, ?_, ?_, ?_, ?_, ?_, ?_, ?_, ?_, trivial⟩) ?_
      · exact ⟨hR.drew, by show base ≤ wp.heap.size; omega, Moved.drewr hmv⟩
      · intro l a w' k hi hk hO hA hL hG K hK
        have hk' : k < 10 := hk
        have h2 := hO 2 (Reg.no_dst (by kernel_rfl))
        simp at h2
        unfold Oper.wp
        simp [execOp, Act.eval, Oper.upon, h2, go_sem]
        exact hK _ _ (fun _ => ⟨hh, rfl, by omega, by omega⟩) (Reg.Fut.refl _ _) (fun k' h1 h2 => hG.same h1)
      · intro l a w' k hi hk hO hA hL hG K hK
        have hk' : k < 10 := hk
        have h65 := hA 0 _ 65 rfl (by simp; first | exact rfl | exact .inl rfl) rfl
        simp only [TSet] at h65
        simp only [Array.getD_eq_getD_getElem?] at h65
        obtain ⟨p, h65, p0, p9⟩ := h65
        have hw1 : IntKind.i64.wrap (p + 1) = p + 1 := IntWalk.i64_in _ (by omega)
        unfold Oper.wp
        simp [execOp, Act.eval, Oper.upon, h65, hw1, go_sem]
        exact hK _ _ (fun _ => ⟨_, rfl, by omega, by omega⟩) (Reg.Fut.refl _ _) (fun k' h1 h2 => hG.same h1)
      · intro l a w' k hi hk hO hA hL hG K hK
        have hk' : k < 10 := hk
        have h66 := hA 1 _ 66 rfl (by simp; first | exact rfl | exact .inl rfl) rfl
        simp only [TSet] at h66
        simp only [Array.getD_eq_getD_getElem?] at h66
        obtain ⟨p, h66, p0, p9⟩ := h66
        unfold Oper.wp
        simp [execOp, Act.eval, Oper.upon, h66, go_sem]
        first | exact hK _ _ (fun _ => ⟨_, rfl, by first | omega | (split <;> omega), by first | omega | (split <;> omega)⟩) (Reg.Fut.refl _ _) (fun k' h1 h2 => hG.same h1) | (split <;> exact hK _ _ (fun _ => ⟨_, rfl, by omega, by omega⟩) (Reg.Fut.refl _ _) (fun k' h1 h2 => hG.same h1))
      · intro l a w' k hi hk hO hA hL hG K hK
        have hk' : k < 10 := hk
        have h67 := hA 2 _ 67 rfl (by simp; first | exact rfl | exact .inl rfl) rfl
        simp only [TSet] at h67
        simp only [Array.getD_eq_getD_getElem?] at h67
        obtain ⟨p, h67, p0, p9⟩ := h67
        have p1 : ¬ p < 0 := by omega
        unfold Oper.wp
        simp [execOp, Act.eval, Oper.upon, h67, p1, go_sem]
        exact hK _ _ (fun _ => ⟨_, rfl, by first | (unfold wrap64; omega) | (rw [IntKind.wrap_i64]; omega), by first | (unfold wrap64; omega) | (rw [IntKind.wrap_i64]; omega)⟩) (Reg.Fut.refl _ _) (fun k' h1 h2 => hG.same h1)
      · intro l a w' k hi hk hO hA hL hG K hK
        have hk' : k < 10 := hk
        have h68 := hA 3 _ 68 rfl (by simp; first | exact rfl | exact .inl rfl) rfl
        simp only [TSet] at h68
        simp only [Array.getD_eq_getD_getElem?] at h68
        obtain ⟨p68, h68, p680, p689⟩ := h68
        unfold Oper.wp
        simp [execOp, Act.eval, Oper.upon, h68, go_sem]
        exact hK _ _ (fun _ => Reg.tab_new _ _ hG.size rfl rfl (by first | (simp [intOf]; done) | (simp [intOf]; omega))) (Reg.Fut.below ((Below.refl _ _).alloc (Nat.le_refl _) _)) (fun k' h1 h2 => hG.alloc h1 _)
      · intro l a w' k hi hk hO hA hL hG K hK
        have hk' : k < 10 := hk
        have h0 := hO 0 (Reg.no_dst (by kernel_rfl))
        simp at h0
        unfold Oper.wp
        simp [execOp, Act.eval, Oper.upon, h0, go_sem]
        exact hK _ _ (fun _ => rfl) (Reg.Fut.refl _ _) (fun k' h1 h2 => hG.same h1)
      · intro l a w' k hi hk hO hA hL hG K hK
        have hk' : k < 10 := hk
        have h70 := hA 5 _ 70 rfl (by simp; first | exact rfl | exact .inl rfl) rfl
        simp only [TSet] at h70
        simp only [Array.getD_eq_getD_getElem?] at h70
        unfold Oper.wp
        simp [execOp, Act.eval, Oper.upon, h70, go_sem]
        refine (pick_any _ _ _ _ _ hG.rd (by omega) (by omega)).mono ?_
        rintro e wz ⟨p, rfl, p0, p9, hR, hM, hS'⟩
        exact hK _ _ (fun _ => ⟨p, rfl, by omega, by omega⟩) (Reg.Fut.moved hM hrb) (fun k' h1 h2 => hG.moved h1 hM (Reg.rd_more hR (by omega)))
      · intro l a w' k hi hk hO hA hL hG K hK
        have hk' : k < 10 := hk
        have h69 := hA 4 _ 69 rfl (by simp; first | exact rfl | exact .inl rfl) rfl
        simp only [TSet] at h69
        simp only [Array.getD_eq_getD_getElem?] at h69
        have h71 := hA 6 _ 71 rfl (by simp; first | exact rfl | exact .inl rfl) rfl
        simp only [TSet] at h71
        simp only [Array.getD_eq_getD_getElem?] at h71
        obtain ⟨b, h69, b1, b2, b3⟩ := h69
        obtain ⟨q, h71, q0, q9⟩ := h71
        have q1 : q < 4 := by omega
        unfold Oper.wp
        simp [execOp, Act.eval, Oper.upon, h69, h71, q0, q1, go_sem]
        exact hK _ _ (fun _ => ⟨b, q.toNat, rfl, b1, b2, b3 q.toNat (by omega)⟩) (Reg.Fut.refl _ _) (fun k' h1 h2 => hG.same h1)
      · intro l a w' k hi hk hO hA hL hG K hK
        have hk' : k < 10 := hk
        have h72 := hA 7 _ 72 rfl (by simp; first | exact rfl | exact .inl rfl) rfl
        simp only [TSet] at h72
        simp only [Array.getD_eq_getD_getElem?] at h72
        obtain ⟨b, q, h72, b1, b2, x, hx, x0, x9⟩ := h72
        unfold Oper.wp
        simp [execOp, Act.eval, Oper.upon, h72, hx, go_sem]
        exact hK _ _ (fun _ => ⟨x, rfl, x0, x9⟩) (Reg.Fut.refl _ _) (fun k' h1 h2 => hG.same h1)
      · intro l a w' k hi hk hO hA hL hG K hK
        have hk' : k < 10 := hk
        have h73 := hA 8 _ 73 rfl (by simp; first | exact rfl | exact .inl rfl) rfl
        simp only [TSet] at h73
        simp only [Array.getD_eq_getD_getElem?] at h73
        obtain ⟨x, h73, x0, x9⟩ := h73
        unfold Oper.wp
        simp [execOp, Act.eval, Oper.upon, h73, go_sem]
        exact hK _ _ (fun _ => ⟨x, rfl, x0, x9⟩) (Reg.Fut.refl _ _) (fun k' h1 h2 => hG.same h1)
      · intro l a w' hK hall
        have h8 := hK.val 9 _ 8 rfl (hall 9 (by decide)) rfl
        simp only [TSet] at h8
        simp only [Array.getD_eq_getD_getElem?] at h8
        obtain ⟨z8, h8, z80, z89⟩ := h8
        obtain ⟨kq, hkq, hG⟩ := hK.world'
        have hkq : kq ≤ 10 := hkq
        have hdf : a.defers = [] := hK.defers
        clear hK hall
        go_wp2
        refine bodyPost_ret (v := .int .i64 z8) (by simp [results, Tryd.results19, go_sem, h8]) hdf ?_
        exact ⟨z8, rfl, by omega, by omega, Reg.rd_more hG.rd (by omega), hG.mv⟩

/-- A set and a field were drawn, whatever the code is. -/
def Field3 (w : World) (e : Ending) (w' : World) : Prop := ∃ z lo hh : Int, e = .returned (.tuple #[.int .i64 z, .int .i64 lo, .int .i64 hh]) ∧ (-9223372036854775808 ≤ z ∧ z ≤ 9223372036854775807) ∧ (-10 ≤ lo ∧ lo ≤ 100) ∧ (-10 ≤ hh ∧ hh ≤ 100) ∧ Below w.heap.size w w'

def TFieldV (base r : Nat) (st : Value) : Nat → World → Value → Prop
  | 0, w, v => Reg.IntIn (-9223372036854775808) 9223372036854775807 v
  | 1, w, v => Reg.Tab base w 3 (-1) 60 v
  | 2, w, v => v = .pointer (some ⟨r, 0, none⟩)
  | 3, w, v => Reg.IntIn 0 2 v
  | 4, w, v => Reg.Spot base w (-1) 60 v
  | 5, w, v => Reg.IntIn (-1) 60 v
  | 6, w, v => Reg.Tab base w 2 3 60 v
  | 7, w, v => v = .pointer (some ⟨r, 0, none⟩)
  | 8, w, v => Reg.IntIn 0 1 v
  | 9, w, v => Reg.Spot base w 3 60 v
  | 10, w, v => Reg.IntIn 3 60 v
  | 11, w, v => Reg.IntIn (-9223372036854775808) 9223372036854775807 v
  | 12, w, v => Reg.IntIn (-1) 60 v
  | 13, w, v => Reg.IntIn 3 60 v
  | _, _, _ => True
theorem TFieldV_fut {base r : Nat} {st : Value} : ∀ i w w' v, TFieldV base r st i w v → Reg.Fut base w w' → TFieldV base r st i w' v := by
  intro i w w' v h f
  unfold TFieldV at *
  split at h
  case h_2 => exact h.fut f
  case h_5 => exact h.fut f
  case h_7 => exact h.fut f
  case h_10 => exact h.fut f
  all_goals exact h

set_option maxHeartbeats 4000000 in
theorem drawFieldText (v : Value) (w : World) (B : Nat) (h : BytesAt w B v) (hB : B = w.heap.size) :
    Calls Tryd.prog 8 #[v] w (Field3 w) := by
  go_enter Tryd.func8, Tryd.ntmps8
  (have hz0 := hB; go_wp2_with fail; refine (open_rd _ _ _ (by first | with_reducible assumption | exact bytes_alloc h (by omega) _) (by first | omega | (simp; omega))).mono ?_; rintro e w1 ⟨r, rfl, hr0, hR, hb0⟩; have hr := hR.2.1)
  (go_wp2_with fail; refine (field_any r _ B 0 hR (by omega)).mono ?_; rintro e wp ⟨lo, hh, rfl, ⟨lo0, lo1⟩, ⟨hh0, hh9⟩, hR, hM⟩; have hA := (Moved.refl r w1).trans hM; clear hM)
  go_wp2_with fail
  refine (set_any lo hh 6 r _ B (0 + 20000) hR (by omega) (by omega) (by omega)).mono ?_
  rintro e wp ⟨z, rfl, z0, z9, hR, hM⟩
  have hmv := hA.trans hM
  clear hM
  go_wp2
  go_ret3
  exact ⟨z, lo, hh, rfl, by omega, by omega, by omega, hb0.trans (Moved.to_below (r := r) hmv _ hr0 hb0.size)⟩

theorem sNumber_some (n : Int) (w : World) (h0 : 0 ≤ n) (h9 : n ≤ 59) :
    Calls Tryd.prog 25 #[.int .i64 n] w fun e w' => ∃ x : ByteArray, e = .returned (.string x) ∧ x.size ≤ 2 ∧ Below w.heap.size w w' := by
  obtain ⟨k, rfl⟩ := Int.eq_ofNat_of_zero_le h0
  exact (sNumber k w (by omega)).mono fun e w' ⟨he, hb⟩ => ⟨_, he, by rw [strOfNums_size]; exact num_len k, hb⟩
theorem sFieldText_some (S lo hi : Int) (w : World) (hS : S < 2 ^ 63) :
    Calls Tryd.prog 10 #[.int .i64 S, .int .i64 lo, .int .i64 hi] w fun e w' => ∃ x : ByteArray, e = .returned (.string x) ∧ x.size ≤ 400 ∧ Below w.heap.size w w' :=
  (sFieldText S lo hi w hS).mono fun e w' ⟨he, hb⟩ => ⟨_, he, by rw [strOfNums_size]; exact fdTxt_len S lo hi, hb⟩

theorem sz1 (a : UInt8) : (⟨#[a]⟩ : ByteArray).size = 1 := rfl
theorem sz2 (a b : UInt8) : (⟨#[a, b]⟩ : ByteArray).size = 2 := rfl
/-- A text was drawn. -/
def Texted (B r K : Nat) (w : World) (e : Ending) (w' : World) : Prop := ∃ x : ByteArray, e = .returned (.string x) ∧ x.size ≤ 1000 ∧ Rd w' B r K ∧ Moved r w w'

set_option maxRecDepth 100000 in
set_option maxHeartbeats 8000000 in
theorem written_any (lo hi : Int) (r : Nat) (w : World) (B K : Nat) (h : Rd w B r K) (hK : K < 990000000) (hl : 0 ≤ lo ∧ lo ≤ hi ∧ hi ≤ 59) :
    Calls Tryd.prog 31 #[.pointer (some ⟨r, 0, none⟩), .int .i64 lo, .int .i64 hi] w (Texted B r (K + 40000) w) := by
  have hr := h.2.1
  obtain ⟨l0, l1, l9⟩ := hl
  go_enter Tryd.func31, Tryd.ntmps31
  go_wp2_with fail
  refine (set_any lo hi 0 r _ B K h (by omega) (by omega) (by omega)).mono ?_
  rintro e wp ⟨z, rfl, z0, z9, hR, hM⟩
  have hA := hM
  clear hM
  go_wp2_with fail
  refine (sFieldText_some _ _ _ _ (by omega)).mono ?_
  rintro e w3 ⟨s, rfl, hsz, hb⟩
  have hR := hR.below hb
  have hA := hA.below hb
  clear hb
  go_wp2_with fail
  refine (odd_any _ r _ B (K + 20000) hR (by omega) (by omega)).mono ?_
  rintro e wp ⟨o, rfl, hR, hM⟩
  have hA := hA.trans hM
  clear hM
  cases o
  · go_wp2
    go_ret
    exact ⟨s, rfl, by omega, Rd.more hR (by omega), hA⟩
  · go_wp2_with fail
    refine (sNumber_some _ _ (by omega) (by omega)).mono ?_
    rintro e wa ⟨x1, rfl, y1, hb⟩
    have hR := hR.below hb
    have hA := hA.below hb
    clear hb
    iterate 5
      go_wp2_with fail
      refine (sNumber_some _ _ (by omega) (by omega)).mono ?_
      rintro e wa ⟨x, rfl, y, hb⟩
      have hR := hR.below hb
      have hA := hA.below hb
      clear hb
    go_wp2_with fail
    have hr0p : r < wa.heap.size := hR.2.1
    refine (pick_pos 17 r _ B (K + 20000 + 1) (Rd.alloc hR _) (by omega) (by omega) (by omega)).mono ?_
    rintro e wp ⟨q, rfl, q0, q9, hR, hM⟩
    obtain ⟨x, hx, hx9⟩ := str_entry hM hr0p (by simp; refine ⟨?_, ?_, ?_, ?_, ?_, ?_, ?_, ?_, ?_, ?_, ?_, ?_, ?_, ?_, ?_, ?_, ?_⟩ <;> exact ⟨_, rfl, by first | decide | (simp only [ByteArray.size_append, sz1, sz2]; omega)⟩) q q0 (by simpa using q9)
    have hA := Moved.trans (Moved.alloc hA _) hM
    clear hM
    go_wp2
    go_ret
    exact ⟨x, rfl, hx9, Rd.more hR (by omega), hA⟩

def TReadF (base r : Nat) (st : Value) : Nat → World → Value → Prop
  | 0, w, v => v = st
  | 1, w, v => Reg.Tab base w 2 (-1) 7 v
  | 2, w, v => v = .pointer (some ⟨r, 0, none⟩)
  | 3, w, v => Reg.IntIn 0 1 v
  | 4, w, v => Reg.Spot base w (-1) 7 v
  | 5, w, v => Reg.IntIn (-1) 7 v
  | 6, w, v => Reg.Tab base w 2 6 60 v
  | 7, w, v => v = .pointer (some ⟨r, 0, none⟩)
  | 8, w, v => Reg.IntIn 0 1 v
  | 9, w, v => Reg.Spot base w 6 60 v
  | 10, w, v => Reg.IntIn 6 60 v
  | 11, w, v => v = st
  | 12, w, v => Reg.IntIn (-1) 7 v
  | 13, w, v => Reg.IntIn 6 60 v
  | _, _, _ => True
theorem TReadF_fut {base r : Nat} {st : Value} : ∀ i w w' v, TReadF base r st i w v → Reg.Fut base w w' → TReadF base r st i w' v := by
  intro i w w' v h f
  unfold TReadF at *
  split at h
  case h_2 => exact h.fut f
  case h_5 => exact h.fut f
  case h_7 => exact h.fut f
  case h_10 => exact h.fut f
  all_goals exact h

set_option maxRecDepth 100000 in
set_option maxHeartbeats 4000000 in
theorem drawReadField (v : Value) (w : World) (B : Nat) (h : BytesAt w B v) (hB : B = w.heap.size) :
    Calls Tryd.prog 14 #[v] w (fun e w' => ∃ (s : ByteArray) (lo hh : Int), e = .returned (.tuple #[.string s, .int .i64 lo, .int .i64 hh]) ∧ s.size ≤ 1000 ∧ (-10 ≤ lo ∧ lo ≤ 100) ∧ (-10 ≤ hh ∧ hh ≤ 100) ∧ Below w.heap.size w w') := by
  go_enter Tryd.func14, Tryd.ntmps14
  (have hz0 := hB; go_wp2_with fail; refine (open_rd _ _ _ (by first | with_reducible assumption | exact bytes_alloc h (by omega) _) (by first | omega | (simp; omega))).mono ?_; rintro e w1 ⟨r, rfl, hr0, hR, hb0⟩; have hr := hR.2.1)
  (go_wp2_with fail; refine (field_any r _ B 0 hR (by omega)).mono ?_; rintro e wp ⟨lo, hh, rfl, ⟨lo0, lo1⟩, ⟨hh0, hh9⟩, hR, hM⟩; have hA := (Moved.refl r w1).trans hM; clear hM)
  go_wp2_with fail
  refine (written_any lo hh r _ B (0 + 20000) hR (by omega) (by omega)).mono ?_
  rintro e wp ⟨s, rfl, hsz, hR, hM⟩
  have hA := hA.trans hM
  clear hM
  go_wp2_with fail
  refine (odd_any _ r _ B (0 + 20000 + 40000) hR (by omega) (by omega)).mono ?_
  rintro e wp ⟨o, rfl, hR, hM⟩
  have hmv := hA.trans hM
  clear hA hM
  have hrb : r < wp.heap.size := hR.2.1
  cases o
  · go_wp2
    go_ret3
    exact ⟨s, lo, hh, rfl, hsz, by omega, by omega, hb0.trans (Moved.to_below (r := r) hmv _ hr0 hb0.size)⟩
  · go_wp2_with fail
    generalize hbase : wp.heap.size = base at *
    refine Reg.wp_region_typed (by kernel_rfl) (TReadF base r (.string s)) (Reg.Plain 1000 w1 B r (0 + 20000 + 40000 + 1) base) (Reg.Fut base) TReadF_fut (by kernel_rfl) ?_ (Reg.each_op ⟨?_, ?_, ?_, ?_, ?_, ?_, ?_, ?_, ?_, ?_, ?_, ?_, ?_, ?_, trivial⟩) ?_
    · exact ⟨hR.drew, by show base ≤ wp.heap.size; omega, Moved.drewr hmv⟩
    · intro l a w' k hi hk hO hA hL hG K hK
      have hk' : k < 14 := hk
      have h8 := hO 8 (Reg.no_dst (by kernel_rfl))
      simp at h8
      unfold Oper.wp
      simp [execOp, Act.eval, Oper.upon, h8, go_sem]
      exact hK _ _ (fun _ => rfl) (Reg.Fut.refl _ _) (fun k' h1 h2 => hG.same h1)
    · intro l a w' k hi hk hO hA hL hG K hK
      have hk' : k < 14 := hk
      unfold Oper.wp
      simp [execOp, Act.eval, Oper.upon, hi, go_sem]
      exact hK _ _ (fun _ => Reg.tab_new _ _ hG.size rfl rfl (by first | (simp [intOf]; done) | (simp [intOf]; omega))) (Reg.Fut.below ((Below.refl _ _).alloc (Nat.le_refl _) _)) (fun k' h1 h2 => hG.alloc h1 _)
    · intro l a w' k hi hk hO hA hL hG K hK
      have hk' : k < 14 := hk
      have h5 := hO 5 (Reg.no_dst (by kernel_rfl))
      simp at h5
      unfold Oper.wp
      simp [execOp, Act.eval, Oper.upon, h5, go_sem]
      exact hK _ _ (fun _ => rfl) (Reg.Fut.refl _ _) (fun k' h1 h2 => hG.same h1)
    · intro l a w' k hi hk hO hA hL hG K hK
      have hk' : k < 14 := hk
      have h24 := hA 2 _ 24 rfl (by simp; first | exact rfl | exact .inl rfl) rfl
      simp only [TReadF] at h24
      simp only [Array.getD_eq_getD_getElem?] at h24
      unfold Oper.wp
      simp [execOp, Act.eval, Oper.upon, h24, go_sem]
      refine (pick_any _ _ _ _ _ hG.rd (by omega) (by omega)).mono ?_
      rintro e wz ⟨p, rfl, p0, p9, hR, hM, hS'⟩
      exact hK _ _ (fun _ => ⟨p, rfl, by omega, by omega⟩) (Reg.Fut.moved hM hrb) (fun k' h1 h2 => hG.moved h1 hM (Reg.rd_more hR (by omega)))
    · intro l a w' k hi hk hO hA hL hG K hK
      have hk' : k < 14 := hk
      have h23 := hA 1 _ 23 rfl (by simp; first | exact rfl | exact .inl rfl) rfl
      simp only [TReadF] at h23
      simp only [Array.getD_eq_getD_getElem?] at h23
      have h25 := hA 3 _ 25 rfl (by simp; first | exact rfl | exact .inl rfl) rfl
      simp only [TReadF] at h25
      simp only [Array.getD_eq_getD_getElem?] at h25
      obtain ⟨b, h23, b1, b2, b3⟩ := h23
      obtain ⟨q, h25, q0, q9⟩ := h25
      have q1 : q < 2 := by omega
      unfold Oper.wp
      simp [execOp, Act.eval, Oper.upon, h23, h25, q0, q1, go_sem]
      exact hK _ _ (fun _ => ⟨b, q.toNat, rfl, b1, b2, b3 q.toNat (by omega)⟩) (Reg.Fut.refl _ _) (fun k' h1 h2 => hG.same h1)
    · intro l a w' k hi hk hO hA hL hG K hK
      have hk' : k < 14 := hk
      have h26 := hA 4 _ 26 rfl (by simp; first | exact rfl | exact .inl rfl) rfl
      simp only [TReadF] at h26
      simp only [Array.getD_eq_getD_getElem?] at h26
      obtain ⟨b, q, h26, b1, b2, x, hx, x0, x9⟩ := h26
      unfold Oper.wp
      simp [execOp, Act.eval, Oper.upon, h26, hx, go_sem]
      exact hK _ _ (fun _ => ⟨x, rfl, x0, x9⟩) (Reg.Fut.refl _ _) (fun k' h1 h2 => hG.same h1)
    · intro l a w' k hi hk hO hA hL hG K hK
      have hk' : k < 14 := hk
      unfold Oper.wp
      simp [execOp, Act.eval, Oper.upon, hi, go_sem]
      exact hK _ _ (fun _ => Reg.tab_new _ _ hG.size rfl rfl (by first | (simp [intOf]; done) | (simp [intOf]; omega))) (Reg.Fut.below ((Below.refl _ _).alloc (Nat.le_refl _) _)) (fun k' h1 h2 => hG.alloc h1 _)
    · intro l a w' k hi hk hO hA hL hG K hK
      have hk' : k < 14 := hk
      have h5 := hO 5 (Reg.no_dst (by kernel_rfl))
      simp at h5
      unfold Oper.wp
      simp [execOp, Act.eval, Oper.upon, h5, go_sem]
      exact hK _ _ (fun _ => rfl) (Reg.Fut.refl _ _) (fun k' h1 h2 => hG.same h1)
    · intro l a w' k hi hk hO hA hL hG K hK
      have hk' : k < 14 := hk
      have h29 := hA 7 _ 29 rfl (by simp; first | exact rfl | exact .inl rfl) rfl
      simp only [TReadF] at h29
      simp only [Array.getD_eq_getD_getElem?] at h29
      unfold Oper.wp
      simp [execOp, Act.eval, Oper.upon, h29, go_sem]
      refine (pick_any _ _ _ _ _ hG.rd (by omega) (by omega)).mono ?_
      rintro e wz ⟨p, rfl, p0, p9, hR, hM, hS'⟩
      exact hK _ _ (fun _ => ⟨p, rfl, by omega, by omega⟩) (Reg.Fut.moved hM hrb) (fun k' h1 h2 => hG.moved h1 hM (Reg.rd_more hR (by omega)))
    · intro l a w' k hi hk hO hA hL hG K hK
      have hk' : k < 14 := hk
      have h28 := hA 6 _ 28 rfl (by simp; first | exact rfl | exact .inl rfl) rfl
      simp only [TReadF] at h28
      simp only [Array.getD_eq_getD_getElem?] at h28
      have h30 := hA 8 _ 30 rfl (by simp; first | exact rfl | exact .inl rfl) rfl
      simp only [TReadF] at h30
      simp only [Array.getD_eq_getD_getElem?] at h30
      obtain ⟨b, h28, b1, b2, b3⟩ := h28
      obtain ⟨q, h30, q0, q9⟩ := h30
      have q1 : q < 2 := by omega
      unfold Oper.wp
      simp [execOp, Act.eval, Oper.upon, h28, h30, q0, q1, go_sem]
      exact hK _ _ (fun _ => ⟨b, q.toNat, rfl, b1, b2, b3 q.toNat (by omega)⟩) (Reg.Fut.refl _ _) (fun k' h1 h2 => hG.same h1)
    · intro l a w' k hi hk hO hA hL hG K hK
      have hk' : k < 14 := hk
      have h31 := hA 9 _ 31 rfl (by simp; first | exact rfl | exact .inl rfl) rfl
      simp only [TReadF] at h31
      simp only [Array.getD_eq_getD_getElem?] at h31
      obtain ⟨b, q, h31, b1, b2, x, hx, x0, x9⟩ := h31
      unfold Oper.wp
      simp [execOp, Act.eval, Oper.upon, h31, hx, go_sem]
      exact hK _ _ (fun _ => ⟨x, rfl, x0, x9⟩) (Reg.Fut.refl _ _) (fun k' h1 h2 => hG.same h1)
    · intro l a w' k hi hk hO hA hL hG K hK
      have hk' : k < 14 := hk
      have h22 := hA 0 _ 22 rfl (by simp; first | exact rfl | exact .inl rfl) rfl
      simp only [TReadF] at h22
      simp only [Array.getD_eq_getD_getElem?] at h22
      unfold Oper.wp
      simp [execOp, Act.eval, Oper.upon, h22, go_sem]
      exact hK _ _ (fun _ => rfl) (Reg.Fut.refl _ _) (fun k' h1 h2 => hG.same h1)
    · intro l a w' k hi hk hO hA hL hG K hK
      have hk' : k < 14 := hk
      have h27 := hA 5 _ 27 rfl (by simp; first | exact rfl | exact .inl rfl) rfl
      simp only [TReadF] at h27
      simp only [Array.getD_eq_getD_getElem?] at h27
      obtain ⟨x, h27, x0, x9⟩ := h27
      unfold Oper.wp
      simp [execOp, Act.eval, Oper.upon, h27, go_sem]
      exact hK _ _ (fun _ => ⟨x, rfl, x0, x9⟩) (Reg.Fut.refl _ _) (fun k' h1 h2 => hG.same h1)
    · intro l a w' k hi hk hO hA hL hG K hK
      have hk' : k < 14 := hk
      have h32 := hA 10 _ 32 rfl (by simp; first | exact rfl | exact .inl rfl) rfl
      simp only [TReadF] at h32
      simp only [Array.getD_eq_getD_getElem?] at h32
      obtain ⟨x, h32, x0, x9⟩ := h32
      unfold Oper.wp
      simp [execOp, Act.eval, Oper.upon, h32, go_sem]
      exact hK _ _ (fun _ => ⟨x, rfl, x0, x9⟩) (Reg.Fut.refl _ _) (fun k' h1 h2 => hG.same h1)
    · intro l a w' hK hall
      have h2 := hK.val 11 _ 2 rfl (hall 11 (by decide)) rfl
      simp only [TReadF] at h2
      simp only [Array.getD_eq_getD_getElem?] at h2
      have h3 := hK.val 12 _ 3 rfl (hall 12 (by decide)) rfl
      simp only [TReadF] at h3
      simp only [Array.getD_eq_getD_getElem?] at h3
      obtain ⟨z3, h3, z30, z39⟩ := h3
      have h4 := hK.val 13 _ 4 rfl (hall 13 (by decide)) rfl
      simp only [TReadF] at h4
      simp only [Array.getD_eq_getD_getElem?] at h4
      obtain ⟨z4, h4, z40, z49⟩ := h4
      have hbw := hb0.trans (Moved.to_below (r := r) hK.world.mv _ hr0 hb0.size)
      have hdf : a.defers = [] := hK.defers
      clear hK hall
      go_wp2
      refine bodyPost_ret (v := .tuple #[.string s, .int .i64 z3, .int .i64 z4]) (by simp [results, Tryd.results14, go_sem, h2, h3, h4]) hdf ?_
      exact ⟨s, _, _, rfl, hsz, ⟨by omega, by omega⟩, ⟨by omega, by omega⟩, hbw⟩

end Go.Proofs.YtlpodfachgnkhaaDoor
