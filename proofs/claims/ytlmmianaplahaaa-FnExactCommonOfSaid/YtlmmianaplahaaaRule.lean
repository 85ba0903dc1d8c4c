/-
  PLAIN MATHEMATICS OF RULES: the days and the moments that they tell.
-/
import Derived.Test.YtlmmianaplahaaaMom
set_option linter.unusedVariables false
set_option linter.unusedSimpArgs false
namespace Go.Proofs.Ytlmmianaplahaaa.Cal

/-- There is such a rule. -/
def rvB (m k d i : Int) : Bool := decide (2 ≤ m ∧ m ≤ 11 ∧ 1 ≤ k ∧ k ≤ 5 ∧ 0 ≤ d ∧ d ≤ 6 ∧ 0 ≤ i ∧ i ≤ 1439)
theorem rv_yes {m k d i : Int} (c : rvB m k d i = true) : 2 ≤ m ∧ m ≤ 11 ∧ 1 ≤ k ∧ k ≤ 5 ∧ 0 ≤ d ∧ d ≤ 6 ∧ 0 ≤ i ∧ i ≤ 1439 := of_decide_eq_true c
theorem rv_of {m k d i : Int} (c : 2 ≤ m ∧ m ≤ 11 ∧ 1 ≤ k ∧ k ≤ 5 ∧ 0 ≤ d ∧ d ≤ 6 ∧ 0 ≤ i ∧ i ≤ 1439) : rvB m k d i = true := decide_eq_true c
theorem rv_no {m k d i : Int} (c : ¬ (2 ≤ m ∧ m ≤ 11 ∧ 1 ≤ k ∧ k ≤ 5 ∧ 0 ≤ d ∧ d ≤ 6 ∧ 0 ≤ i ∧ i ≤ 1439)) : rvB m k d i = false := decide_eq_false c

/-- The first day with the weekday d at or behind a day f, k - 1 weeks later. -/
def rAt (f k d : Int) : Int := f + (d - f % 7 + 7) % 7 + 7 * (k - 1)
/-- The day that a rule tells. -/
def rDay (m k d y : Int) : Int := if num y m 1 + len y m ≤ rAt (num y m 1) k d then rAt (num y m 1) k d - 7 else rAt (num y m 1) k d
def ruleOk (m k d i y : Int) : Bool := rvB m k d i && decide (1 ≤ y ∧ y ≤ 4000)
def ruleDay (m k d i y : Int) : Int := if ruleOk m k d i y then rDay m k d y else -1
def ruleMom (m k d i y : Int) : Int := if ruleOk m k d i y then rDay m k d y * 86400 + i * 60 else -1
theorem ok_yes {m k d i y : Int} (c : ruleOk m k d i y = true) : rvB m k d i = true ∧ 1 ≤ y ∧ y ≤ 4000 := by
  unfold ruleOk at c
  rw [Bool.and_eq_true] at c
  exact ⟨c.1, of_decide_eq_true c.2⟩
theorem ok_no {m k d i y : Int} (c : ruleOk m k d i y = false) : rvB m k d i = false ∨ ¬ (1 ≤ y ∧ y ≤ 4000) := by
  unfold ruleOk at c
  rw [Bool.and_eq_false_iff] at c
  rcases c with c | c
  · exact .inl c
  · exact .inr (of_decide_eq_false c)
theorem ok_of {m k d i y : Int} (v : rvB m k d i = true) (c : 1 ≤ y ∧ y ≤ 4000) : ruleOk m k d i y = true := by
  unfold ruleOk; rw [Bool.and_eq_true]; exact ⟨v, decide_eq_true c⟩

/-- What is known of the day of a rule: it lies in the month, has the weekday, and is the k-th such day or the last one. -/
theorem rDay_is {m k d i y : Int} (c : ruleOk m k d i y = true) : isDate y m (rDay m k d y - num y m 1 + 1) ∧ num y m (rDay m k d y - num y m 1 + 1) = rDay m k d y ∧ rDay m k d y % 7 = d ∧
    ((rDay m k d y - num y m 1) / 7 = k - 1 ∨ k = 5 ∧ len y m < rDay m k d y - num y m 1 + 1 + 7) ∧ 0 ≤ rDay m k d y ∧ rDay m k d y ≤ 1460969 := by
  obtain ⟨v, y1, y9⟩ := ok_yes c
  obtain ⟨m1, m9, k1, k9, d1, d9, _, _⟩ := rv_yes v
  have l := len_bd y m
  have e : ∀ x, num y m (x - num y m 1 + 1) = x := fun x => by unfold num; omega
  have q1 : isDate y m 1 := ⟨y1, y9, by omega, by omega, by omega, by omega⟩
  have n1 := num_range q1
  have key : isDate y m (rDay m k d y - num y m 1 + 1) ∧ rDay m k d y % 7 = d ∧ ((rDay m k d y - num y m 1) / 7 = k - 1 ∨ k = 5 ∧ len y m < rDay m k d y - num y m 1 + 1 + 7) := by
    generalize hf : num y m 1 = f at *
    unfold rDay
    rw [hf]
    unfold rAt
    split
    · refine ⟨⟨y1, y9, by omega, by omega, by omega, by omega⟩, by omega, by omega⟩
    · refine ⟨⟨y1, y9, by omega, by omega, by omega, by omega⟩, by omega, by omega⟩
  refine ⟨key.1, e _, key.2.1, key.2.2, ?_⟩
  have := num_range key.1
  rw [e] at this
  exact this
theorem ruleDay_no {m k d i y : Int} (c : ruleOk m k d i y = false) : ruleDay m k d i y = -1 := by unfold ruleDay; rw [c]; rfl
theorem ruleDay_yes {m k d i y : Int} (c : ruleOk m k d i y = true) : ruleDay m k d i y = rDay m k d y := by unfold ruleDay; rw [c]; rfl
theorem ruleMom_no {m k d i y : Int} (c : ruleOk m k d i y = false) : ruleMom m k d i y = -1 := by unfold ruleMom; rw [c]; rfl
theorem ruleMom_yes {m k d i y : Int} (c : ruleOk m k d i y = true) : ruleMom m k d i y = rDay m k d y * 86400 + i * 60 := by unfold ruleMom; rw [c]; rfl
theorem dayOf_first {m y : Int} (y1 : 1 ≤ y ∧ y ≤ 4000) (m1 : 1 ≤ m ∧ m ≤ 12) : dayOf y m 1 = num y m 1 ∧ 0 ≤ num y m 1 ∧ num y m 1 + len y m ≤ 1460970 ∧ 28 ≤ len y m ∧ len y m ≤ 31 := by
  have l := len_bd y m
  have q1 : isDate y m 1 := ⟨y1.1, y1.2, m1.1, m1.2, by omega, by omega⟩
  have q2 : isDate y m (len y m) := ⟨y1.1, y1.2, m1.1, m1.2, by omega, by omega⟩
  have n1 := num_range q1
  have n2 := num_range q2
  have e : num y m (len y m) = num y m 1 + len y m - 1 := by unfold num; omega
  exact ⟨dayOf_yes q1, n1.1, by omega, l.1, l.2⟩
theorem num_next {m y : Int} (m1 : 1 ≤ m ∧ m < 12) : num y (m + 1) 1 = num y m 1 + len y m := by
  unfold num
  rw [cum_succ y m m1.1 (by omega)]
  omega
/-- The day of a rule, counted from the month's first day or back from the next month's. -/
theorem rDay_last {m d y : Int} (y1 : 1 ≤ y ∧ y ≤ 4000) (m1 : 2 ≤ m ∧ m ≤ 11) (d1 : 0 ≤ d ∧ d ≤ 6) : rDay m 5 d y = dayOf y (m + 1) 1 - 7 + (d - (dayOf y (m + 1) 1 - 7)) % 7 := by
  have h := dayOf_first (m := m) y1 ⟨by omega, by omega⟩
  have h2 := dayOf_first (m := m + 1) y1 ⟨by omega, by omega⟩
  have e := num_next (y := y) (m := m) ⟨by omega, by omega⟩
  rw [h2.1, e]
  unfold rDay rAt
  generalize num y m 1 = f at *
  generalize len y m = l at *
  split <;> omega
theorem rDay_nth {m k d y : Int} (y1 : 1 ≤ y ∧ y ≤ 4000) (m1 : 2 ≤ m ∧ m ≤ 11) (k1 : 1 ≤ k ∧ k ≤ 4) (d1 : 0 ≤ d ∧ d ≤ 6) : rDay m k d y = dayOf y m 1 + 7 * (k - 1) + (d - (dayOf y m 1 + 7 * (k - 1))) % 7 := by
  have h := dayOf_first (m := m) y1 ⟨by omega, by omega⟩
  rw [h.1]
  unfold rDay rAt
  generalize num y m 1 = f at *
  generalize len y m = l at *
  split <;> omega
theorem ruleDay_bd (m k d i y : Int) : -1 ≤ ruleDay m k d i y ∧ ruleDay m k d i y ≤ 1460969 := by
  unfold ruleDay
  split
  · rename_i c
    have := (rDay_is c).2.2.2.2
    omega
  · omega
end Go.Proofs.Ytlmmianaplahaaa.Cal
