/-
  CONTRACTS OF CHAPTER 7, of the program at ba67aba3: fields and their sets.
-/
import Derived.Test.YtlpodfachgnkhaaDoorFields
import Derived.Deep.QuietTactic
import Derived.BigQuiet
set_option linter.unusedVariables false
set_option linter.unusedSimpArgs false
namespace Go.Proofs.YtlpodfachgnkhaaDoor
open Go.ChangeShapes Go.WideShapes Go.ChangeAt Go.RowKit Cal

/-- All numbers from f to l, as a difference. -/
theorem fullF_sub {f l : Nat} (h : f ≤ l + 1) : fullF f l = 2 ^ (l + 1) - 2 ^ f := by
  have e : 2 ^ (l + 1) - 2 ^ f = (2 ^ (l + 1 - f) - 1) <<< f := by
    rw [Nat.shiftLeft_eq, Nat.sub_mul, Nat.one_mul, ← Nat.pow_add, show l + 1 - f + f = l + 1 by omega]
  rw [e]
  apply Nat.eq_of_testBit_eq
  intro n
  rw [fullF_bit, Nat.testBit_shiftLeft, Nat.testBit_two_pow_sub_one, Bool.eq_iff_iff]
  simp only [decide_eq_true_eq, Bool.and_eq_true]
  omega
theorem fullF_lt {f l : Nat} (h9 : l ≤ 59) : fullF f l < 2 ^ 60 :=
  inF_lt (lo := f) (hi := l) (fun n hn => by rw [fullF_bit] at hn; simpa using hn) h9
theorem run_int {f l : Nat} (h : f ≤ l + 1) (h9 : l ≤ 59) : wrap64 ((2 : Int) ^ (l + 1) - 2 ^ f) = ((fullF f l : Nat) : Int) := by
  have a := fullF_sub h
  have b : 2 ^ f ≤ 2 ^ (l + 1) := Nat.pow_le_pow_right (by omega) h
  have c := fullF_lt (f := f) h9
  rw [show (2 : Int) ^ (l + 1) - 2 ^ f = ((fullF f l : Nat) : Int) by rw [a, show (2 : Int) ^ (l + 1) = ((2 ^ (l + 1) : Nat) : Int) by simp, show (2 : Int) ^ f = ((2 ^ f : Nat) : Int) by simp]; omega]
  unfold wrap64
  omega

/-- A bit is asked for by a mask. -/
theorem i64_and (A B : Nat) (hA : A < 2 ^ 63) (hB : B < 2 ^ 63) : bits .and .i64 (A : Int) (B : Int) = ((A &&& B : Nat) : Int) := by
  have hx : A &&& B < 2 ^ 63 := Nat.and_lt_two_pow _ hB
  show IntKind.i64.wrap ((BitVec.ofInt 64 (A : Int) &&& BitVec.ofInt 64 (B : Int)).toNat : Int) = _
  rw [BitVec.toNat_and, ofInt_64 A (by omega), ofInt_64 B (by omega)]
  exact IntWalk.i64_in _ (by omega)
theorem and_pow (A k : Nat) : A &&& 2 ^ k = if A.testBit k then 2 ^ k else 0 := by
  apply Nat.eq_of_testBit_eq
  intro i
  rw [Nat.testBit_and, Nat.testBit_two_pow]
  by_cases c : k = i
  · subst c
    cases e : A.testBit k <;> simp
  · cases e : A.testBit k <;> simp [c]
theorem and_bit {A k : Nat} (hA : A < 2 ^ 63) (h : k ≤ 59) : (bits .and .i64 (A : Int) ((2 : Int) ^ k) != 0) = A.testBit k := by
  have p : (2 : Nat) ^ k < 2 ^ 60 := Nat.pow_lt_pow_right (by omega) (by omega)
  rw [show ((2 : Int) ^ k) = ((2 ^ k : Nat) : Int) by simp, i64_and A _ hA (by omega), and_pow]
  have q : 0 < 2 ^ k := Nat.two_pow_pos k
  generalize 2 ^ k = P at *
  cases A.testBit k
  · simp
  · simp only [if_true, bne_iff_ne]; omega

theorem iIsField (lo hi : Int) (w : World) :
    Calls Tryd.prog 28 #[.int .i64 lo, .int .i64 hi] w fun e w' => e = .returned (.bool (fdB lo hi)) ∧ w = w' := by
  by_cases c1 : 0 ≤ lo
  · by_cases c2 : lo ≤ hi
    · go_enter Tryd.func28, Tryd.ntmps28
      go_wp2
      go_ret
      exact ⟨ret_bool (by unfold fdB; rw [Bool.eq_iff_iff]; simp; omega), rfl⟩
    · have e : fdB lo hi = false := by unfold fdB; simp; omega
      rw [e]; clear e
      go_enter Tryd.func28, Tryd.ntmps28
      go_wp2
      go_ret
      exact ⟨rfl, rfl⟩
  · have e : fdB lo hi = false := by unfold fdB; simp; omega
    rw [e]; clear e
    go_enter Tryd.func28, Tryd.ntmps28
    go_wp2
    go_ret
    exact ⟨rfl, rfl⟩

theorem iRunOf (f l : Nat) (w : World) (h : f ≤ l + 1) (h9 : l ≤ 59) :
    Calls Tryd.prog 20 #[.int .i64 (f : Int), .int .i64 (l : Int)] w fun e w' => e = .returned (.int .i64 ((fullF f l : Nat) : Int)) ∧ Below w.heap.size w w' := by
  have r1 := shl_wrap (k := l + 1) (by omega)
  have r2 := shl_wrap (k := f) (by omega)
  have r3 := Lib.hid (run_int h h9)
  go_enter Tryd.func20, Tryd.ntmps20
  go_wp2
  go_quiet (fail)
  go_wp2
  go_ret
  exact ⟨ret_int (by rw [r3.out]), (by repeat' (first | with_reducible assumption | with_reducible exact Below.refl _ _ | with_reducible refine Below.setCell ?_ ?_ _ | with_reducible refine Below.alloc ?_ ?_ _ | with_reducible apply Below.drew | with_reducible apply Below.drewn | (simp; done) | (simp; omega)))⟩
theorem iRunOfI (lo hi : Int) (w : World) (h : fdB lo hi = true) :
    Calls Tryd.prog 20 #[.int .i64 lo, .int .i64 hi] w fun e w' => e = .returned (.int .i64 ((fullF lo.toNat hi.toNat : Nat) : Int)) ∧ Below w.heap.size w w' := by
  obtain ⟨h0, h1, h9⟩ := fd_yes h
  have := iRunOf lo.toNat hi.toNat w (by omega) (by omega)
  rwa [show ((lo.toNat : Nat) : Int) = lo by omega, show ((hi.toNat : Nat) : Int) = hi by omega] at this

theorem iFieldValid (S lo hi : Int) (w : World) (hS : S < 2 ^ 63) :
    Calls Tryd.prog 16 #[.int .i64 S, .int .i64 lo, .int .i64 hi] w fun e w' => e = .returned (.bool (fvB S lo hi)) ∧ Below w.heap.size w w' := by
  cases c : fdB lo hi
  · have e : fvB S lo hi = false := by unfold fvB; rw [c]; rfl
    rw [e]
    have C := Lib.hid c; clear c e
    go_enter Tryd.func16, Tryd.ntmps16
    go_wp2_with (go_at_call 28; refine (iIsField _ _ _).mono ?_; rw [C.out]; rintro e wx ⟨rfl, rfl⟩)
    go_ret
    exact ⟨rfl, Below.refl _ _⟩
  · by_cases p : 0 < S
    · have e : fvB S lo hi = decide (minus S.toNat (fullF lo.toNat hi.toNat) = 0) := by unfold fvB; simp [c, p]
      rw [e]
      obtain ⟨h0, h1, h9⟩ := fd_yes c
      have fl : fullF lo.toNat hi.toNat < 2 ^ 60 := fullF_lt (by omega)
      have m := i64_minus S.toNat (fullF lo.toNat hi.toNat) (by omega) (by omega)
      rw [show ((S.toNat : Nat) : Int) = S by omega] at m
      have C := Lib.hid c; clear c e
      have MM := Lib.hid m; clear m fl
      go_enter Tryd.func16, Tryd.ntmps16
      go_wp2_with (first | (go_at_call 28; refine (iIsField _ _ _).mono ?_; rw [C.out]; rintro e wx ⟨rfl, rfl⟩) | (go_at_call 20; refine (iRunOfI _ _ _ C.out).mono ?_; rintro e wx ⟨rfl, hbx⟩))
      go_ret
      exact ⟨ret_bool (by rw [MM.out, Bool.eq_iff_iff, beq_iff_eq, decide_eq_true_eq]; omega), hbx⟩
    · have e : fvB S lo hi = false := by unfold fvB; simp [p]
      rw [e]
      have C := Lib.hid c; clear c e
      go_enter Tryd.func16, Tryd.ntmps16
      go_wp2_with (go_at_call 28; refine (iIsField _ _ _).mono ?_; rw [C.out]; rintro e wx ⟨rfl, rfl⟩)
      go_ret
      exact ⟨rfl, Below.refl _ _⟩

end Go.Proofs.YtlpodfachgnkhaaDoor
