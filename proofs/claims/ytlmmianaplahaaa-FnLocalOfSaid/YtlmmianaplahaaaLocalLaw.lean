/-
  PLAIN MATHEMATICS FOR THE LAWS OF LOCAL TIMES.
-/
import Derived.Test.YtlmmianaplahaaaLocal
set_option linter.unusedVariables false
set_option linter.unusedSimpArgs false
namespace Go.Proofs.Ytlmmianaplahaaa.Cal

/-- A moment is among those of its local time. -/
theorem loc_opt {z : Zn} {n : Int} (v : zvB z = true) (g : zGood n = true) (g' : lGood (n + 60 * zOff z n) = true) : cOpts z (n + 60 * zOff z n) = [n] ∨ ∃ a, cOpts z (n + 60 * zOff z n) = [a, n] ∨ cOpts z (n + 60 * zOff z n) = [n, a] := by
  obtain ⟨o1, o9, s1, s9, _⟩ := zv_yes v
  have w := way v g'
  by_cases s : z.s = 0
  · have e : zOff z n = z.o := zOff_none s
    have q : n + 60 * zOff z n - 60 * z.o = n := by omega
    rcases w with ⟨_, c⟩ | ⟨s', _⟩ | ⟨s', _⟩ | ⟨s', _⟩ | ⟨s', _⟩
    · left; rw [c, q]
    all_goals exact absurd s s'
  · cases h : zSum z n
    · have e : zOff z n = z.o := zOff_f s h
      have q : n + 60 * zOff z n - 60 * z.o = n := by omega
      rcases w with ⟨s', c⟩ | ⟨_, h1, h0, c⟩ | ⟨_, h1, h0, c⟩ | ⟨_, h1, h0, c⟩ | ⟨_, h1, h0, c, _⟩
      · exact absurd s' s
      · right; exact ⟨_, .inl (by rw [c, q])⟩
      · rw [q, h] at h0; cases h0
      · left; rw [c, q]
      · rw [q, h] at h0; cases h0
    · have e : zOff z n = z.o + z.s := zOff_t s h
      have q : n + 60 * zOff z n - 60 * (z.o + z.s) = n := by omega
      rcases w with ⟨s', c⟩ | ⟨_, h1, h0, c⟩ | ⟨_, h1, h0, c⟩ | ⟨_, h1, h0, c⟩ | ⟨_, h1, h0, c, _⟩
      · exact absurd s' s
      · right; exact ⟨_, .inr (by rw [c, q])⟩
      · left; rw [c, q]
      · rw [q, h] at h1; cases h1
      · rw [q, h] at h1; cases h1
/-- The options lead back, and ascend. -/
theorem opt_back {z : Zn} {n : Int} (v : zvB z = true) (g : lGood n = true) : cOpts z n = [] ∨ (∃ a, cOpts z n = [a] ∧ locOf z a = n) ∨ ∃ a b, cOpts z n = [a, b] ∧ locOf z a = n ∧ locOf z b = n ∧ a < b := by
  obtain ⟨o1, o9, s1, s9, _⟩ := zv_yes v
  have gg := lGood_yes g
  have L : ∀ t, 34560000 ≤ t → t ≤ 126193247999 → locOf z t = t + 60 * zOff z t := fun t a c => locOf_yes v (zGood_of ⟨a, c⟩)
  rcases way v g with ⟨s, c⟩ | ⟨s, h1, h0, c⟩ | ⟨s, h1, h0, c⟩ | ⟨s, h1, h0, c⟩ | ⟨s, h1, h0, c, l1, l2, hA⟩
  · exact .inr (.inl ⟨_, c, by rw [L _ (by omega) (by omega), zOff_none s]; omega⟩)
  · exact .inr (.inr ⟨_, _, c, by rw [L _ (by omega) (by omega), zOff_t s h1]; omega, by rw [L _ (by omega) (by omega), zOff_f s h0]; omega, by omega⟩)
  · exact .inr (.inl ⟨_, c, by rw [L _ (by omega) (by omega), zOff_t s h1]; omega⟩)
  · exact .inr (.inl ⟨_, c, by rw [L _ (by omega) (by omega), zOff_f s h0]; omega⟩)
  · exact .inl c
/-- The kinds of local times. -/
theorem kind_is {z : Zn} {n : Int} (v : zvB z = true) (g : lGood n = true) : 0 ≤ tKind z n ∧ tKind z n ≤ 2 ∧ tKind z n = (cOpts z n).length ∧ (0 < z.s ∨ tKind z n = 1) := by
  obtain ⟨o1, o9, s1, s9, _⟩ := zv_yes v
  rw [tKind_yes v g]
  rcases way v g with ⟨s, c⟩ | ⟨s, h1, h0, c⟩ | ⟨s, h1, h0, c⟩ | ⟨s, h1, h0, c⟩ | ⟨s, h1, h0, c, l1, l2, hA⟩ <;> rw [c] <;> simp <;> omega
end Go.Proofs.Ytlmmianaplahaaa.Cal
