/-
  CONTRACTS OF CHAPTER 6, of the program at 17568f05: the texts of offsets, written and read.
-/
import Derived.Test.YthiogmkicdgpiaaIStamps
import Derived.Deep.QuietTactic
import Derived.BigQuiet
set_option linter.unusedVariables false
set_option linter.unusedSimpArgs false
namespace Go.Proofs.Ythiogmkicdgpiaa
open Go.ChangeShapes Go.WideShapes Go.ChangeAt Go.RowKit Cal

def pf6 : Nat → Int := fun k => [43, 48, 48, 58, 48, 48].getD k 0
theorem of_new (w : World) : BR (w.alloc (Obj.cells #[.int .u8 43, .int .u8 48, .int .u8 48, .int .u8 58, .int .u8 48, .int .u8 48] 5 (6, 7))) w.heap.size 6 pf6 := BR_alloc w [43, 48, 48, 58, 48, 48] 5
/-- What the text's bytes are when both numbers have been put. -/
theorem put_of {x a b : Int} (a0 : 0 ≤ a) (b0 : 0 ≤ b) (f : Nat → Int) (f0 : f 0 = x) (f3 : f 3 = 58) :
    ∀ k, k < 6 → putF (putF f 1 2 a) 4 2 b k = (x :: (d2 a ++ (58 :: d2 b))).getD k 0 := by
  intro k hk
  have : k = 0 ∨ k = 1 ∨ k = 2 ∨ k = 3 ∨ k = 4 ∨ k = 5 := by omega
  rcases this with rfl | rfl | rfl | rfl | rfl | rfl <;> simp [putF, d2, f0, f3]

set_option maxHeartbeats 8000000 in
theorem iOffsetText (n : Int) (w : World) :
    Calls Try.prog 20 #[.int .i64 n] w fun e w' => e = .returned (.string (ofStr n)) ∧ Below w.heap.size w w' := by
  have CV := fun (W : World) (C : Array Value) (n c : Nat) => Lib.run_convert_bytes_const (P := Try.prog) W 22 5 C n c (by kernel_rfl) (by kernel_rfl)
  cases c : ofIn n
  · rw [ofStr_no c]
    have cc : n < -720 ∨ 960 < n := by have := of_decide_eq_false c; omega
    clear c
    rcases cc with g | g
    · go_enter Try.func20, Try.ntmps20
      go_wp2
      go_ret
      exact ⟨ret_str rfl, (by repeat' (first | with_reducible assumption | with_reducible exact Below.refl _ _ | with_reducible refine Below.setCell ?_ ?_ _ | with_reducible refine Below.alloc ?_ ?_ _ | with_reducible apply Below.drew | with_reducible apply Below.drewn | (simp; done) | (simp; omega)))⟩
    · have g2 : decide (n < -720) = false := by simp; omega
      go_enter Try.func20, Try.ntmps20
      go_wp2
      go_ret
      exact ⟨ret_str rfl, (by repeat' (first | with_reducible assumption | with_reducible exact Below.refl _ _ | with_reducible refine Below.setCell ?_ ?_ _ | with_reducible refine Below.alloc ?_ ?_ _ | with_reducible apply Below.drew | with_reducible apply Below.drewn | (simp; done) | (simp; omega)))⟩
  · rw [ofStr_yes c]
    have cc : -720 ≤ n ∧ n ≤ 960 := of_decide_eq_true c
    obtain ⟨n1, n9⟩ := cc
    clear c
    unfold ofTxt
    have g2 : decide (n < -720) = false := by simp; omega
    have g3 : decide (n > 960) = false := by simp; omega
    rcases Int.lt_trichotomy n 0 with g | g | g
    · rw [if_neg (by omega), if_pos g]
      have q1 : (-n).tdiv 60 = -n / 60 := Int.tdiv_eq_ediv_of_nonneg (by omega)
      have q2 : (-n).tmod 60 = -n % 60 := Int.tmod_eq_emod_of_nonneg (by omega)
      have g4 : (n == 0) = false := by simp; omega
      go_enter Try.func20, Try.ntmps20
      go_upto_region 7 with fail
      have hB := of_new w
      have hb : Below w.heap.size w (w.alloc (Obj.cells #[.int .u8 43, .int .u8 48, .int .u8 48, .int .u8 58, .int .u8 48, .int .u8 48] 5 (6, 7))) := (Below.refl _ _).alloc (Nat.le_refl _) _
      generalize w.alloc (Obj.cells #[.int .u8 43, .int .u8 48, .int .u8 48, .int .u8 58, .int .u8 48, .int .u8 48] 5 (6, 7)) = V at hB hb ⊢
      clear CV
      obtain ⟨c0, f0⟩ := hB.2 0 (by omega)
      go_wp2_with fail
      have hB := hB.set (x := 45) (show 0 < 6 by omega)
      have hb := hb.setCell (p := ⟨w.heap.size, 0, none⟩) (Nat.le_refl _) (.int .u8 45)
      generalize World.setCell V ⟨w.heap.size, 0, none⟩ (.int .u8 45) = V2 at hB hb ⊢
      refine (iPut _ _ _ _ _ _ 6 _ hB (by omega) (by omega) (by omega)).mono ?_
      rintro e v1 ⟨rfl, hB1, hw1⟩
      have hb1 := hb.trans hw1
      go_wp2_with fail
      refine (iPut _ _ _ _ _ _ 6 _ hB1 (by omega) (by omega) (by omega)).mono ?_
      rintro e v2 ⟨rfl, hB2, hw2⟩
      have hb2 := hb1.trans hw2
      have CV2 := run_convert_bytes_arg (P := Try.prog) v2 22 5 (by kernel_rfl) (by kernel_rfl) w.heap.size 0 6 6 (45 :: (d2 (-n / 60) ++ (58 :: d2 (-n % 60)))) rfl (fun k hk => by
        rw [Nat.zero_add]
        exact (hB2.2 k hk).1.trans (congrArg (fun x => some (Value.int .u8 x)) (put_of (by omega) (by omega) _ rfl rfl k hk))) 9 (by kernel_rfl)
      clear hb1 hb hw1 hw2 hB1
      go_wp2
      go_ret
      exact ⟨ret_str rfl, hb2⟩
    · rw [if_pos g]
      subst g
      go_enter Try.func20, Try.ntmps20
      go_wp2
      go_ret
      exact ⟨ret_str rfl, (by repeat' (first | with_reducible assumption | with_reducible exact Below.refl _ _ | with_reducible refine Below.setCell ?_ ?_ _ | with_reducible refine Below.alloc ?_ ?_ _ | with_reducible apply Below.drew | with_reducible apply Below.drewn | (simp; done) | (simp; omega)))⟩
    · rw [if_neg (by omega), if_neg (by omega)]
      have q1 : n.tdiv 60 = n / 60 := Int.tdiv_eq_ediv_of_nonneg (by omega)
      have q2 : n.tmod 60 = n % 60 := Int.tmod_eq_emod_of_nonneg (by omega)
      have g4 : (n == 0) = false := by simp; omega
      have g5 : decide (n < 0) = false := by simp; omega
      go_enter Try.func20, Try.ntmps20
      go_wp2_with fail
      have hB := of_new w
      have hb : Below w.heap.size w (w.alloc (Obj.cells #[.int .u8 43, .int .u8 48, .int .u8 48, .int .u8 58, .int .u8 48, .int .u8 48] 5 (6, 7))) := (Below.refl _ _).alloc (Nat.le_refl _) _
      generalize w.alloc (Obj.cells #[.int .u8 43, .int .u8 48, .int .u8 48, .int .u8 58, .int .u8 48, .int .u8 48] 5 (6, 7)) = V at hB hb ⊢
      clear CV
      refine (iPut _ _ _ _ _ _ 6 _ hB (by omega) (by omega) (by omega)).mono ?_
      rintro e v1 ⟨rfl, hB1, hw1⟩
      have hb1 := hb.trans hw1
      go_wp2_with fail
      refine (iPut _ _ _ _ _ _ 6 _ hB1 (by omega) (by omega) (by omega)).mono ?_
      rintro e v2 ⟨rfl, hB2, hw2⟩
      have hb2 := hb1.trans hw2
      have CV2 := run_convert_bytes_arg (P := Try.prog) v2 22 5 (by kernel_rfl) (by kernel_rfl) w.heap.size 0 6 6 (43 :: (d2 (n / 60) ++ (58 :: d2 (n % 60)))) rfl (fun k hk => by
        rw [Nat.zero_add]
        exact (hB2.2 k hk).1.trans (congrArg (fun x => some (Value.int .u8 x)) (put_of (by omega) (by omega) _ rfl rfl k hk))) 9 (by kernel_rfl)
      clear hb1 hb hw1 hw2 hB1
      go_wp2
      go_ret
      exact ⟨ret_str rfl, hb2⟩

theorem iNumIn (t : ByteArray) (a b : Nat) (h : b ≤ a + 4) (w : World) :
    Calls Try.prog 35 #[.string (t.extract a b)] w fun e w' => e = .returned (.int .i64 (pN t a b)) ∧ w' = w :=
  (iNumberIn _ _ (ext_le t a b h)).mono fun e w' h => ⟨h.1, h.2.symm⟩

set_option maxHeartbeats 8000000 in
theorem iReadOffset (t : ByteArray) (w : World) (hs : t.size ≤ 1000000000) :
    Calls Try.prog 22 #[.string t] w fun e w' => e = .returned (.tuple #[.int .i64 (qR t), .bool (qOk t)]) ∧ Below w.heap.size w w' := by
  have K90 := k90
  have LE := lists_eq
  by_cases z : t = strOfNums [90]
  · have z1 : decide (t = strOfNums [90]) = true := by simpa using z
    obtain ⟨v, k⟩ := q_zed
    rw [← z] at v k
    unfold qR
    rw [k, if_pos rfl, v]
    clear z v k
    go_enter Try.func22, Try.ntmps22
    go_wp2
    go_ret2
    exact ⟨rfl, (by repeat' (first | with_reducible assumption | with_reducible exact Below.refl _ _ | with_reducible refine Below.setCell ?_ ?_ _ | with_reducible refine Below.alloc ?_ ?_ _ | with_reducible apply Below.drew | with_reducible apply Below.drewn | (simp; done) | (simp; omega)))⟩
  · have z1 : decide (t = strOfNums [90]) = false := by simpa using z
    by_cases h6 : t.size = 6
    · have h6' : ((t.size : Nat) : Int) = 6 := by omega
      have ba := pN_bd t (a := 1) (b := 3) (by omega)
      have bb := pN_bd t (a := 4) (b := 6) (by omega)
      obtain ⟨ba0, ba9⟩ := ba
      obtain ⟨bb0, bb9⟩ := bb
      have NI := iNumIn t
      have hz := head_at (t := t) (by omega)
      have OS := of_same h6
      have hQ : pQ t = if (nms t).head? = some 45 then -(pN t 1 3 * 60 + pN t 4 6) else pN t 1 3 * 60 + pN t 4 6 := rfl
      rw [hz] at hQ
      clear hz z
      have NI1 := Lib.hid (NI 1 3 (by omega))
      have NI4 := Lib.hid (NI 4 6 (by omega))
      clear NI
      by_cases n0 : (t[0].toNat : Int) = 45
      · have n0' : ((t[0].toNat : Int) == 45) = true := by simpa using n0
        rw [if_pos (by rw [n0])] at hQ
        rw [hQ] at OS
        have hb := t[0].toNat_lt
        clear n0 hQ
        rcases OS with ⟨c, ok, v⟩ | ⟨c, ok⟩
        · unfold qR
          rw [ok, if_pos rfl, v]
          have C := Lib.hid c
          clear c ok v
          generalize pN t 1 3 = a at *
          generalize pN t 4 6 = b at *
          go_enter Try.func22, Try.ntmps22
          go_wp2_with fail
          (go_quiet (first | (go_at_call 35; with_reducible exact Calls.quiet_of_same (NI1.out _)) | (go_at_call 35; with_reducible exact Calls.quiet_of_same (NI4.out _))))
          go_wp2_with fail
          refine (iOffsetText _ _).mono ?_
          rw [C.out]
          rintro e wx ⟨rfl, hb⟩
          have hb := Below.trans (show Below w.heap.size w (w.drewN nq) from (by repeat' (first | with_reducible assumption | with_reducible exact Below.refl _ _ | with_reducible refine Below.setCell ?_ ?_ _ | with_reducible refine Below.alloc ?_ ?_ _ | with_reducible apply Below.drew | with_reducible apply Below.drewn | (simp; done) | (simp; omega)))) (hb.mono (by simp))
          go_wp2
          go_ret2
          exact ⟨rfl, (by repeat' (first | with_reducible assumption | with_reducible exact Below.refl _ _ | with_reducible refine Below.setCell ?_ ?_ _ | with_reducible refine Below.alloc ?_ ?_ _ | with_reducible apply Below.drew | with_reducible apply Below.drewn | (simp; done) | (simp; omega)))⟩
        · have c3 : decide (ofStr (-(pN t 1 3 * 60 + pN t 4 6)) = t) = false := by simpa using c
          unfold qR
          rw [ok, if_neg (by simp)]
          clear c ok
          generalize pN t 1 3 = a at *
          generalize pN t 4 6 = b at *
          go_enter Try.func22, Try.ntmps22
          go_wp2_with fail
          (go_quiet (first | (go_at_call 35; with_reducible exact Calls.quiet_of_same (NI1.out _)) | (go_at_call 35; with_reducible exact Calls.quiet_of_same (NI4.out _))))
          go_wp2_with fail
          refine (iOffsetText _ _).mono ?_
          rintro e wx ⟨rfl, hb⟩
          have hb := Below.trans (show Below w.heap.size w (w.drewN nq) from (by repeat' (first | with_reducible assumption | with_reducible exact Below.refl _ _ | with_reducible refine Below.setCell ?_ ?_ _ | with_reducible refine Below.alloc ?_ ?_ _ | with_reducible apply Below.drew | with_reducible apply Below.drewn | (simp; done) | (simp; omega)))) (hb.mono (by simp))
          go_wp2
          go_ret2
          exact ⟨rfl, (by repeat' (first | with_reducible assumption | with_reducible exact Below.refl _ _ | with_reducible refine Below.setCell ?_ ?_ _ | with_reducible refine Below.alloc ?_ ?_ _ | with_reducible apply Below.drew | with_reducible apply Below.drewn | (simp; done) | (simp; omega)))⟩
      · have n0' : ((t[0].toNat : Int) == 45) = false := by simpa using n0
        rw [if_neg (by simpa using n0)] at hQ
        rw [hQ] at OS
        have hb := t[0].toNat_lt
        clear n0 hQ
        rcases OS with ⟨c, ok, v⟩ | ⟨c, ok⟩
        · unfold qR
          rw [ok, if_pos rfl, v]
          have C := Lib.hid c
          clear c ok v
          generalize pN t 1 3 = a at *
          generalize pN t 4 6 = b at *
          go_enter Try.func22, Try.ntmps22
          go_wp2_with fail
          (go_quiet (first | (go_at_call 35; with_reducible exact Calls.quiet_of_same (NI1.out _)) | (go_at_call 35; with_reducible exact Calls.quiet_of_same (NI4.out _))))
          go_wp2_with fail
          refine (iOffsetText _ _).mono ?_
          rw [C.out]
          rintro e wx ⟨rfl, hb⟩
          have hb := Below.trans (show Below w.heap.size w (w.drewN nq) from (by repeat' (first | with_reducible assumption | with_reducible exact Below.refl _ _ | with_reducible refine Below.setCell ?_ ?_ _ | with_reducible refine Below.alloc ?_ ?_ _ | with_reducible apply Below.drew | with_reducible apply Below.drewn | (simp; done) | (simp; omega)))) (hb.mono (by simp))
          go_wp2
          go_ret2
          exact ⟨rfl, (by repeat' (first | with_reducible assumption | with_reducible exact Below.refl _ _ | with_reducible refine Below.setCell ?_ ?_ _ | with_reducible refine Below.alloc ?_ ?_ _ | with_reducible apply Below.drew | with_reducible apply Below.drewn | (simp; done) | (simp; omega)))⟩
        · have c3 : decide (ofStr (pN t 1 3 * 60 + pN t 4 6) = t) = false := by simpa using c
          unfold qR
          rw [ok, if_neg (by simp)]
          clear c ok
          generalize pN t 1 3 = a at *
          generalize pN t 4 6 = b at *
          go_enter Try.func22, Try.ntmps22
          go_wp2_with fail
          (go_quiet (first | (go_at_call 35; with_reducible exact Calls.quiet_of_same (NI1.out _)) | (go_at_call 35; with_reducible exact Calls.quiet_of_same (NI4.out _))))
          go_wp2_with fail
          refine (iOffsetText _ _).mono ?_
          rintro e wx ⟨rfl, hb⟩
          have hb := Below.trans (show Below w.heap.size w (w.drewN nq) from (by repeat' (first | with_reducible assumption | with_reducible exact Below.refl _ _ | with_reducible refine Below.setCell ?_ ?_ _ | with_reducible refine Below.alloc ?_ ?_ _ | with_reducible apply Below.drew | with_reducible apply Below.drewn | (simp; done) | (simp; omega)))) (hb.mono (by simp))
          go_wp2
          go_ret2
          exact ⟨rfl, (by repeat' (first | with_reducible assumption | with_reducible exact Below.refl _ _ | with_reducible refine Below.setCell ?_ ?_ _ | with_reducible refine Below.alloc ?_ ?_ _ | with_reducible apply Below.drew | with_reducible apply Below.drewn | (simp; done) | (simp; omega)))⟩
    · have h6' : (((t.size : Nat) : Int) != 6) = true := by simp; omega
      have k := q_short z h6
      unfold qR
      rw [k, if_neg (by simp)]
      clear z h6 k
      go_enter Try.func22, Try.ntmps22
      go_wp2
      go_ret2
      exact ⟨rfl, (by repeat' (first | with_reducible assumption | with_reducible exact Below.refl _ _ | with_reducible refine Below.setCell ?_ ?_ _ | with_reducible refine Below.alloc ?_ ?_ _ | with_reducible apply Below.drew | with_reducible apply Below.drewn | (simp; done) | (simp; omega)))⟩
end Go.Proofs.Ythiogmkicdgpiaa
