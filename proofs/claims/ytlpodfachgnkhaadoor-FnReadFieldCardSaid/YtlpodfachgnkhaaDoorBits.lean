/-
  SETS OF SMALL NUMBERS IN A MACHINE's WORD: what shifts, 'or' and 'and not' make of them.
-/
import Derived.Test.YtlpodfachgnkhaaDoorField
import Derived.Laws.BitsAllLaws
import Derived.Laws.Shifts
import Derived.IntWalk
set_option linter.unusedVariables false
set_option linter.unusedSimpArgs false
namespace Go.Proofs.YtlpodfachgnkhaaDoor
open Go Cal

theorem ofInt_64 (a : Nat) (ha : a < 2 ^ 64) : (BitVec.ofInt 64 (a : Int)).toNat = a := by
  rw [BitVec.ofInt_natCast, BitVec.toNat_ofNat]; exact Nat.mod_eq_of_lt ha
theorem i64_or (A B : Nat) (hA : A < 2 ^ 62) (hB : B < 2 ^ 62) : bits .or .i64 (A : Int) (B : Int) = ((A ||| B : Nat) : Int) := by
  have hx : A ||| B < 2 ^ 62 := Nat.or_lt_two_pow hA hB
  show IntKind.i64.wrap ((BitVec.ofInt 64 (A : Int) ||| BitVec.ofInt 64 (B : Int)).toNat : Int) = _
  rw [BitVec.toNat_or, ofInt_64 A (by omega), ofInt_64 B (by omega)]
  exact IntWalk.i64_in _ (by omega)
/-- What of a set is not in another. -/
def minus (A F : Nat) : Nat := (BitVec.ofNat 64 A &&& ~~~ BitVec.ofNat 64 F).toNat
theorem minus_bit {A F : Nat} (hA : A < 2 ^ 64) (i : Nat) : (minus A F).testBit i = (A.testBit i && !F.testBit i) := by
  unfold minus
  rw [BitVec.toNat_and, Nat.testBit_and, ← BitVec.getLsbD, ← BitVec.getLsbD, BitVec.getLsbD_not, BitVec.getLsbD_ofNat, BitVec.getLsbD_ofNat]
  by_cases h : i < 64
  · simp [h]
  · have : A.testBit i = false := Nat.testBit_lt_two_pow (Nat.lt_of_lt_of_le hA (Nat.pow_le_pow_right (by omega) (by omega)))
    simp [h, this]
theorem minus_le {A F : Nat} (hA : A < 2 ^ 62) : minus A F < 2 ^ 62 := by
  refine Nat.lt_pow_two_of_testBit _ fun i hi => ?_
  rw [minus_bit (by omega)]
  have : A.testBit i = false := Nat.testBit_lt_two_pow (Nat.lt_of_lt_of_le hA (Nat.pow_le_pow_right (by omega) hi))
  simp [this]
theorem minus_le3 {A F : Nat} (hA : A < 2 ^ 63) : minus A F < 2 ^ 63 := by
  refine Nat.lt_pow_two_of_testBit _ fun i hi => ?_
  rw [minus_bit (by omega)]
  have : A.testBit i = false := Nat.testBit_lt_two_pow (Nat.lt_of_lt_of_le hA (Nat.pow_le_pow_right (by omega) hi))
  simp [this]
theorem i64_minus (A F : Nat) (hA : A < 2 ^ 63) (hF : F < 2 ^ 62) : bits .andNot .i64 (A : Int) (F : Int) = ((minus A F : Nat) : Int) := by
  have hx := minus_le3 (F := F) hA
  show IntKind.i64.wrap ((BitVec.ofInt 64 (A : Int) &&& ~~~ BitVec.ofInt 64 (F : Int)).toNat : Int) = _
  rw [BitVec.ofInt_natCast, BitVec.ofInt_natCast]
  exact IntWalk.i64_in _ (by unfold minus at hx; omega)
theorem minus_zero {A lo hi : Nat} (hA : A < 2 ^ 63) : minus A (fullF lo hi) = 0 ↔ inF A lo hi := by
  constructor
  · intro h n hn
    have := minus_bit (F := fullF lo hi) (show A < 2 ^ 64 by omega) n
    rw [h, Nat.zero_testBit, hn, fullF_bit] at this
    simpa using this.symm
  · intro h
    apply Nat.eq_of_testBit_eq
    intro n
    rw [minus_bit (by omega), Nat.zero_testBit, fullF_bit]
    cases c : A.testBit n
    · rfl
    · have := h n c
      simp; omega
/-- A bit is set. -/
theorem shl_one {k : Nat} (h : k ≤ 61) : IntKind.i64.wrap (1 * 2 ^ min k 64) = ((2 ^ k : Nat) : Int) := by
  have e : min k 64 = k := by omega
  have p : (2 : Nat) ^ k < 2 ^ 62 := Nat.pow_lt_pow_right (by omega) (by omega)
  have q : ((2 ^ k : Nat) : Int) = 2 ^ k := by simp
  rw [e, Int.one_mul, ← q]
  generalize (2 : Nat) ^ k = P at *
  exact IntWalk.i64_in _ (by omega)
theorem shl_wrap {k : Nat} (h : k ≤ 61) : RowKit.wrap64 ((2 : Int) ^ k) = ((2 ^ k : Nat) : Int) := by
  have p : (2 : Nat) ^ k < 2 ^ 62 := Nat.pow_lt_pow_right (by omega) (by omega)
  have q : ((2 ^ k : Nat) : Int) = 2 ^ k := by simp
  rw [← q]
  generalize (2 : Nat) ^ k = P at *
  unfold RowKit.wrap64
  omega
theorem or_bit {S k : Nat} (hS : S < 2 ^ 60) (h : k ≤ 59) : bits .or .i64 (S : Int) ((2 : Int) ^ k) = ((S ||| 2 ^ k : Nat) : Int) := by
  have p : (2 : Nat) ^ k < 2 ^ 60 := Nat.pow_lt_pow_right (by omega) (by omega)
  rw [show ((2 : Int) ^ k) = ((2 ^ k : Nat) : Int) by simp]
  exact i64_or _ _ (by omega) (by omega)
/-- A bit is asked for. -/
theorem shr_bit (S k : Nat) : ((S : Int) / 2 ^ k) % 2 = if S.testBit k then 1 else 0 := by
  have e : ((S : Int) / 2 ^ k) % 2 = ((S / 2 ^ k % 2 : Nat) : Int) := by simp
  rw [e, Nat.testBit_eq_decide_div_mod_eq]
  have : S / 2 ^ k % 2 = 0 ∨ S / 2 ^ k % 2 = 1 := by omega
  rcases this with h | h <;> simp [h]
theorem bit_tmod (S k : Nat) : ((S : Int) / 2 ^ k).tmod 2 = if S.testBit k then 1 else 0 := by
  rw [Int.tmod_eq_emod_of_nonneg (Int.ediv_nonneg (by omega) (Int.pow_nonneg (by omega)))]
  exact shr_bit S k
theorem i64_or63 (A B : Nat) (hA : A < 2 ^ 63) (hB : B < 2 ^ 63) : bits .or .i64 (A : Int) (B : Int) = ((A ||| B : Nat) : Int) ∧ A ||| B < 2 ^ 63 := by
  have hx : A ||| B < 2 ^ 63 := Nat.or_lt_two_pow hA hB
  refine ⟨?_, hx⟩
  show IntKind.i64.wrap ((BitVec.ofInt 64 (A : Int) ||| BitVec.ofInt 64 (B : Int)).toNat : Int) = _
  rw [BitVec.toNat_or, ofInt_64 A (by omega), ofInt_64 B (by omega)]
  exact IntWalk.i64_in _ (by omega)
theorem or_bit63 {S k : Nat} (hS : S < 2 ^ 63) (h : k ≤ 59) : bits .or .i64 (S : Int) ((2 : Int) ^ k) = ((S ||| 2 ^ k : Nat) : Int) ∧ S ||| 2 ^ k < 2 ^ 63 := by
  have p : (2 : Nat) ^ k < 2 ^ 60 := Nat.pow_lt_pow_right (by omega) (by omega)
  rw [show ((2 : Int) ^ k) = ((2 ^ k : Nat) : Int) by simp]
  exact i64_or63 _ _ hS (by omega)
end Go.Proofs.YtlpodfachgnkhaaDoor
