/-
  PLAIN MATHEMATICS OF ZONES: their offsets, their summers and the moments at which these change.
-/
import Derived.Test.YtlmmianaplahaaaRule
set_option linter.unusedVariables false
set_option linter.unusedSimpArgs false
namespace Go.Proofs.Ytlmmianaplahaaa.Cal

/-- A zone's ten numbers. -/
structure Zn where
  o : Int
  s : Int
  m : Int
  k : Int
  d : Int
  i : Int
  m' : Int
  k' : Int
  d' : Int
  i' : Int

def noRule (m k d i : Int) : Bool := decide (m = 0 ∧ k = 0 ∧ d = 0 ∧ i = 0)
def apart (m m' : Int) : Bool := decide (2 ≤ m - m' ∨ 2 ≤ m' - m)
/-- There is such a zone. -/
def zvB (z : Zn) : Bool := decide (-720 ≤ z.o ∧ z.o ≤ 840) && (decide (0 ≤ z.s ∧ z.s ≤ 120) && (if z.s = 0 then noRule z.m z.k z.d z.i && noRule z.m' z.k' z.d' z.i' else rvB z.m z.k z.d z.i && (rvB z.m' z.k' z.d' z.i' && apart z.m z.m')))
theorem zv_yes {z : Zn} (c : zvB z = true) : -720 ≤ z.o ∧ z.o ≤ 840 ∧ 0 ≤ z.s ∧ z.s ≤ 120 ∧ (z.s = 0 → (z.m = 0 ∧ z.k = 0 ∧ z.d = 0 ∧ z.i = 0) ∧ (z.m' = 0 ∧ z.k' = 0 ∧ z.d' = 0 ∧ z.i' = 0)) ∧
    (z.s ≠ 0 → rvB z.m z.k z.d z.i = true ∧ rvB z.m' z.k' z.d' z.i' = true ∧ (2 ≤ z.m - z.m' ∨ 2 ≤ z.m' - z.m)) := by
  unfold zvB at c
  simp only [Bool.and_eq_true, decide_eq_true_eq] at c
  obtain ⟨⟨a1, a2⟩, ⟨a3, a4⟩, a5⟩ := c
  refine ⟨a1, a2, a3, a4, fun h => ?_, fun h => ?_⟩
  · rw [if_pos h] at a5
    simpa [noRule] using a5
  · rw [if_neg h] at a5
    simpa [apart] using a5

/-- The moments of common time at which a zone's summer starts and ends in a year. -/
def zA (z : Zn) (y : Int) : Int := ruleMom z.m z.k z.d z.i y - z.o * 60
def zB (z : Zn) (y : Int) : Int := ruleMom z.m' z.k' z.d' z.i' y - (z.o + z.s) * 60
/-- The year of a moment in the time of a zone without its summer. -/
def zY (z : Zn) (n : Int) : Int := dY ((n + z.o * 60) / 86400)
def zSum (z : Zn) (n : Int) : Bool := if zB z (zY z n) < zA z (zY z n) then decide (zA z (zY z n) ≤ n) || decide (n < zB z (zY z n)) else decide (zA z (zY z n) ≤ n) && decide (n < zB z (zY z n))
def zOff (z : Zn) (n : Int) : Int := if z.s = 0 then z.o else if zSum z n then z.o + z.s else z.o
def zGood (n : Int) : Bool := decide (34560000 ≤ n ∧ n ≤ 126193247999)
def offAt (z : Zn) (n : Int) : Int := if zvB z && zGood n then zOff z n else -10000
def locOf (z : Zn) (n : Int) : Int := if zvB z && zGood n then n + 60 * zOff z n else -1

theorem zOff_two (z : Zn) (n : Int) : zOff z n = z.o ∨ zOff z n = z.o + z.s := by
  unfold zOff; split
  · exact .inl rfl
  · split
    · exact .inr rfl
    · exact .inl rfl
theorem zGood_yes {n : Int} (c : zGood n = true) : 34560000 ≤ n ∧ n ≤ 126193247999 := of_decide_eq_true c
theorem zGood_no {n : Int} (c : zGood n = false) : n < 34560000 ∨ 126193247999 < n := by have := of_decide_eq_false c; omega
theorem zGood_of {n : Int} (c : 34560000 ≤ n ∧ n ≤ 126193247999) : zGood n = true := decide_eq_true c

theorem offAt_no {z : Zn} {n : Int} (c : zvB z = false ∨ zGood n = false) : offAt z n = -10000 := by unfold offAt; rcases c with c | c <;> simp [c]
theorem offAt_yes {z : Zn} {n : Int} (v : zvB z = true) (g : zGood n = true) : offAt z n = zOff z n := by unfold offAt; simp [v, g]
theorem locOf_no {z : Zn} {n : Int} (c : zvB z = false ∨ zGood n = false) : locOf z n = -1 := by unfold locOf; rcases c with c | c <;> simp [c]
theorem locOf_yes {z : Zn} {n : Int} (v : zvB z = true) (g : zGood n = true) : locOf z n = n + 60 * zOff z n := by unfold locOf; simp [v, g]

/-- The day of a rule lies between the months. -/
theorem rDay_in {m k d i y : Int} (c : ruleOk m k d i y = true) : before y + 31 ≤ rDay m k d y ∧ rDay m k d y + 31 < before (y + 1) ∧ before y + cum y m ≤ rDay m k d y ∧ rDay m k d y < before y + cum y (m + 1) := by
  obtain ⟨v, y1, y9⟩ := ok_yes c
  obtain ⟨m1, m9, _⟩ := rv_yes v
  obtain ⟨q, e, _⟩ := rDay_is c
  obtain ⟨_, _, _, _, q5, q6⟩ := q
  have e1 : num y m 1 = before y + cum y m := by unfold num; omega
  rw [e1] at q5 q6
  have s := cum_succ y m (by omega) (by omega)
  have a : cum y 1 + len y 1 ≤ cum y m := cum_mono y (by omega) (by omega) (by omega)
  have a1 : cum y 1 = 0 := by simp [cum]
  have a2 : len y 1 = 31 := by simp [len]
  have b : cum y m + len y m ≤ cum y 12 := cum_mono y (by omega) (by omega) (by omega)
  have b1 := cum_succ y 12 (by omega) (by omega)
  have b2 := cum13 y
  have b3 : len y 12 = 31 := by simp [len]
  have b4 := before_succ y1
  rw [show (12 : Int) + 1 = 13 from rfl] at b1
  omega
/-- Rules whose months are two apart tell days that are four weeks apart. -/
theorem rDay_apart {m k d i m' k' d' i' y : Int} (c : ruleOk m k d i y = true) (c' : ruleOk m' k' d' i' y = true) (h : 2 ≤ m' - m) : rDay m k d y + 28 < rDay m' k' d' y := by
  obtain ⟨v, y1, y9⟩ := ok_yes c
  obtain ⟨m1, m9, _⟩ := rv_yes v
  obtain ⟨v', _⟩ := ok_yes c'
  obtain ⟨m1', m9', _⟩ := rv_yes v'
  have a := rDay_in c
  have b := rDay_in c'
  have e := cum_mono y (a := m + 1) (b := m') (by omega) (by omega) (by omega)
  have l := len_bd y (m + 1)
  omega
theorem dY_in {y n : Int} (y1 : 1 ≤ y) (y9 : y ≤ 4000) (h1 : before y ≤ n) (h2 : n < before (y + 1)) : dY n = y := by
  have b1 := before_bd y1 (by omega)
  have b2 := before_bd (y := y + 1) (by omega) (by omega)
  obtain ⟨q, e⟩ := date_is (n := n) (by omega) (by omega)
  have r := num_bd q
  rw [e] at r
  obtain ⟨q1, q2, _⟩ := q
  rcases Int.lt_trichotomy (dY n) y with c | c | c
  · have := before_mono (a := dY n + 1) (b := y) (by omega); omega
  · exact c
  · have := before_mono (a := y + 1) (b := dY n) (by omega); omega
theorem dY_bd {n : Int} (h0 : 0 ≤ n) (h9 : n ≤ 1460969) : 1 ≤ dY n ∧ dY n ≤ 4000 ∧ before (dY n) ≤ n ∧ n < before (dY n + 1) := by
  obtain ⟨q, e⟩ := date_is h0 h9
  have r := num_bd q
  rw [e] at r
  exact ⟨q.1, q.2.1, r.1, r.2⟩

theorem zY_in {z : Zn} {n y : Int} (y1 : 1 ≤ y) (y9 : y ≤ 4000) (h1 : before y * 86400 ≤ n + z.o * 60) (h2 : n + z.o * 60 < before (y + 1) * 86400) : zY z n = y := by
  unfold zY
  exact dY_in y1 y9 (by omega) (by omega)
/-- Where the changes of a year lie. -/
theorem zAB {z : Zn} {y : Int} (v : zvB z = true) (s : z.s ≠ 0) (y1 : 1 ≤ y) (y9 : y ≤ 4000) :
    ((before y + 30) * 86400 ≤ zA z y + z.o * 60 ∧ zA z y + z.o * 60 < (before (y + 1) - 30) * 86400) ∧ ((before y + 30) * 86400 ≤ zB z y + z.o * 60 ∧ zB z y + z.o * 60 < (before (y + 1) - 30) * 86400) ∧ (zA z y + 2000000 < zB z y ∨ zB z y + 2000000 < zA z y) := by
  obtain ⟨o1, o9, s1, s9, _, h⟩ := zv_yes v
  obtain ⟨v1, v2, ap⟩ := h s
  have c1 := ok_of v1 ⟨y1, y9⟩
  have c2 := ok_of v2 ⟨y1, y9⟩
  have i1 := rv_yes v1
  have i2 := rv_yes v2
  have e1 := rDay_in c1
  have e2 := rDay_in c2
  have r : rDay z.m z.k z.d y + 28 < rDay z.m' z.k' z.d' y ∨ rDay z.m' z.k' z.d' y + 28 < rDay z.m z.k z.d y := by
    rcases ap with a | a
    · exact .inr (rDay_apart c2 c1 a)
    · exact .inl (rDay_apart c1 c2 a)
  have m1 : ruleMom z.m z.k z.d z.i y = rDay z.m z.k z.d y * 86400 + z.i * 60 := by unfold ruleMom; rw [if_pos c1]
  have m2 : ruleMom z.m' z.k' z.d' z.i' y = rDay z.m' z.k' z.d' y * 86400 + z.i' * 60 := by unfold ruleMom; rw [if_pos c2]
  unfold zA zB
  rw [m1, m2]
  refine ⟨⟨by omega, by omega⟩, ⟨by omega, by omega⟩, by omega⟩
/-- In a year, summer is between its changes, or the rest of the year is. -/
theorem zSum_in {z : Zn} {y n : Int} (y1 : 1 ≤ y) (y9 : y ≤ 4000) (h1 : before y * 86400 ≤ n + z.o * 60) (h2 : n + z.o * 60 < before (y + 1) * 86400) :
    zSum z n = if zB z y < zA z y then decide (zA z y ≤ n) || decide (n < zB z y) else decide (zA z y ≤ n) && decide (n < zB z y) := by
  unfold zSum
  rw [zY_in y1 y9 h1 h2]
theorem zOff_sum {z : Zn} {n : Int} (s : z.s ≠ 0) : zOff z n = if zSum z n then z.o + z.s else z.o := by unfold zOff; rw [if_neg s]
theorem zOff_none {z : Zn} {n : Int} (s : z.s = 0) : zOff z n = z.o := by unfold zOff; rw [if_pos s]
/-- The offsets at the changes of a year. -/
theorem zOff_at {z : Zn} {y : Int} (v : zvB z = true) (s : z.s ≠ 0) (y1 : 1 ≤ y) (y9 : y ≤ 4000) :
    zOff z (zA z y - 1) = z.o ∧ zOff z (zA z y) = z.o + z.s ∧ zOff z (zB z y - 1) = z.o + z.s ∧ zOff z (zB z y) = z.o := by
  obtain ⟨⟨a1, a2⟩, ⟨b1, b2⟩, d⟩ := zAB v s y1 y9
  have k : ∀ n, before y * 86400 ≤ n + z.o * 60 → n + z.o * 60 < before (y + 1) * 86400 → zOff z n = if (if zB z y < zA z y then decide (zA z y ≤ n) || decide (n < zB z y) else decide (zA z y ≤ n) && decide (n < zB z y)) then z.o + z.s else z.o := fun n h1 h2 => by
    rw [zOff_sum s, zSum_in y1 y9 h1 h2]
  rw [k _ (by omega) (by omega), k _ (by omega) (by omega), k _ (by omega) (by omega), k _ (by omega) (by omega)]
  rcases d with d | d
  · have nb : ¬ (zB z y < zA z y) := by omega
    simp only [if_neg nb]
    refine ⟨if_neg ?_, if_pos ?_, if_pos ?_, if_neg ?_⟩ <;> simp <;> omega
  · simp only [if_pos (show zB z y < zA z y by omega)]
    refine ⟨if_neg ?_, if_pos ?_, if_pos ?_, if_neg ?_⟩ <;> simp <;> omega
/-- The changes of a year in 3..3998 are far from the ends of time. -/
theorem zAB_good {z : Zn} {y : Int} (v : zvB z = true) (s : z.s ≠ 0) (y1 : 3 ≤ y) (y9 : y ≤ 3998) : (34646400 + 86400 ≤ zA z y ∧ zA z y ≤ 126193247999 - 172800) ∧ (34646400 + 86400 ≤ zB z y ∧ zB z y ≤ 126193247999 - 172800) := by
  obtain ⟨⟨a1, a2⟩, ⟨b1, b2⟩, d⟩ := zAB v s (show 1 ≤ y by omega) (show y ≤ 4000 by omega)
  obtain ⟨o1, o9, s1, s9, _⟩ := zv_yes v
  have e1 : before 3 = 730 := rfl
  have e2 : before 3999 = 1460239 := rfl
  have m1 := before_mono (a := 3) (b := y) y1
  have m2 := before_mono (a := y + 1) (b := 3999) (by omega)
  refine ⟨⟨by omega, by omega⟩, ⟨by omega, by omega⟩⟩
end Go.Proofs.Ytlmmianaplahaaa.Cal
