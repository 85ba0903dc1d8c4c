/-
  PLAIN MATHEMATICS FOR THE LAWS OF ZONES.
-/
import Derived.Test.YtlmmianaplahaaaZones
set_option linter.unusedVariables false
set_option linter.unusedSimpArgs false
namespace Go.Proofs.Ytlmmianaplahaaa
open Cal

/-- Two changes a year, and what the offsets are at them. -/
theorem chg_two {z : Zn} {y : Int} (v : zvB z = true) (h : 3 ≤ y ∧ y ≤ 3998) (s : z.s ≠ 0) : ∃ x0 x1 e0 e1 : Int, chg z y = [x0, x1] ∧ x0 < x1 ∧ (34560001 ≤ x0 ∧ x0 ≤ 126193247999) ∧ (34560001 ≤ x1 ∧ x1 ≤ 126193247999) ∧
    offAt z x0 = e0 ∧ offAt z (x0 - 1) = e1 ∧ offAt z x1 = e1 ∧ offAt z (x1 - 1) = e0 ∧ e0 ≠ e1 ∧ e0 + e1 = 2 * z.o + z.s ∧ (-720 ≤ e0 ∧ e0 ≤ 960) ∧ (-720 ≤ e1 ∧ e1 ≤ 960) := by
  obtain ⟨o1, o9, s1, s9, _⟩ := zv_yes v
  have g := zAB_good v s h.1 h.2
  obtain ⟨p1, p2, p3, p4⟩ := zOff_at v s (show 1 ≤ y by omega) (show y ≤ 4000 by omega)
  have d := (zAB v s (show 1 ≤ y by omega) (show y ≤ 4000 by omega)).2.2
  have k : ∀ n, 34560000 ≤ n → n ≤ 126193247999 → offAt z n = zOff z n := fun n a b => offAt_yes v (zGood_of ⟨a, b⟩)
  rw [chg_yes v h s]
  rcases d with d | d
  · refine ⟨zA z y, zB z y, z.o + z.s, z.o, ?_, by omega, by omega, by omega, (k _ (by omega) (by omega)).trans p2, (k _ (by omega) (by omega)).trans p1, (k _ (by omega) (by omega)).trans p4, (k _ (by omega) (by omega)).trans p3, by omega, by omega, by omega, by omega⟩
    rw [show min (zA z y) (zB z y) = zA z y by omega, show max (zA z y) (zB z y) = zB z y by omega]
  · refine ⟨zB z y, zA z y, z.o, z.o + z.s, ?_, by omega, by omega, by omega, (k _ (by omega) (by omega)).trans p4, (k _ (by omega) (by omega)).trans p3, (k _ (by omega) (by omega)).trans p2, (k _ (by omega) (by omega)).trans p1, by omega, by omega, by omega, by omega⟩
    rw [show min (zA z y) (zB z y) = zB z y by omega, show max (zA z y) (zB z y) = zA z y by omega]
theorem offAt_bd {z : Zn} {n : Int} : offAt z n = -10000 ∨ zvB z = true ∧ zGood n = true ∧ (offAt z n = z.o ∨ 0 < z.s ∧ offAt z n = z.o + z.s) ∧ -720 ≤ offAt z n ∧ offAt z n ≤ 960 := by
  cases v : zvB z
  · exact .inl (offAt_no (.inl v))
  · cases g : zGood n
    · exact .inl (offAt_no (.inr g))
    · right
      obtain ⟨o1, o9, s1, s9, _⟩ := zv_yes v
      rw [offAt_yes v g]
      refine ⟨rfl, rfl, ?_, ?_⟩
      · rcases zOff_two z n with h | h
        · exact .inl h
        · by_cases s : z.s = 0
          · left; omega
          · right; exact ⟨by omega, h⟩
      · rcases zOff_two z n with h | h <;> omega
theorem zv_other {z : Zn} (v : zvB z = true) (x : Int) (hx : -720 ≤ x ∧ x ≤ 840) : zvB ⟨x, z.s, z.m, z.k, z.d, z.i, z.m', z.k', z.d', z.i'⟩ = true := by
  unfold zvB at *
  simp only [Bool.and_eq_true, decide_eq_true_eq] at *
  exact ⟨hx, v.2⟩
theorem zv_bad : zvB ⟨0, 0, 3, 1, 0, 0, 0, 0, 0, 0⟩ = false := by decide
/-- A day later the time is a day later, or by a summer's minutes more or less. -/
theorem loc_day {z : Zn} {n : Int} (h1 : 0 ≤ locOf z n) (h2 : 0 ≤ locOf z (n + 86400)) : locOf z (n + 86400) - locOf z n - 86400 = 0 ∨ locOf z (n + 86400) - locOf z n - 86400 = 60 * z.s ∨ locOf z (n + 86400) - locOf z n - 86400 = -60 * z.s := by
  cases v : zvB z
  · rw [locOf_no (.inl v)] at h1; omega
  · cases g : zGood n
    · rw [locOf_no (.inr g)] at h1; omega
    · cases g2 : zGood (n + 86400)
      · rw [locOf_no (.inr g2)] at h2; omega
      · rw [locOf_yes v g, locOf_yes v g2]
        have a := zOff_two z n
        have b := zOff_two z (n + 86400)
        omega
theorem locOf_bd (z : Zn) (n : Int) : -1 ≤ locOf z n ∧ locOf z n ≤ 126229000000 := by
  cases v : zvB z
  · rw [locOf_no (.inl v)]; omega
  · cases g : zGood n
    · rw [locOf_no (.inr g)]; omega
    · rw [locOf_yes v g]
      obtain ⟨o1, o9, s1, s9, _⟩ := zv_yes v
      have gg := zGood_yes g
      have := zOff_two z n
      omega
end Go.Proofs.Ytlmmianaplahaaa
