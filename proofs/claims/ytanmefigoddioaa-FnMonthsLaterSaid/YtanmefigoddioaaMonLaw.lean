/-
  PLAIN MATHEMATICS OF STEPS OF MONTHS: back again, a year on, two steps in one.
-/
import Derived.Test.YtanmefigoddioaaMom
set_option linter.unusedVariables false
set_option linter.unusedSimpArgs false
namespace Go.Proofs.Ytanmefigoddioaa.Cal

theorem mc_add (y m k : Int) : mc y m k = mc y m 0 + k := by unfold mc; omega
theorem can_date {y m d h i s k : Int} (c : canB y m d h i s k = true) : isDate y m d := dayOf_is (sv_yes (can_yes c).1).1

/-- Back again. -/
theorem back_can {y m d h i s k : Int} (c : canB y m d h i s k = true) : canB (cY y m k) (cO y m k) (cD y m d k) h i s (-k) = true := by
  have q := can_date c
  unfold isDate at q
  have z := can_yes c
  refine can_of (later_is c).1 ⟨by omega, by omega, ?_, ?_⟩ <;> rw [mc_later] <;> unfold mc <;> omega
theorem back_month {y m d h i s k : Int} (c : canB y m d h i s k = true) : cY (cY y m k) (cO y m k) (-k) = y ∧ cO (cY y m k) (cO y m k) (-k) = m := by
  have q := can_date c
  unfold isDate at q
  have e : mc (cY y m k) (cO y m k) (-k) = mc y m 0 := by rw [mc_later, mc_add y m k]; omega
  have z := mc_month (y := y) (m := m) q.2.2.1 q.2.2.2.1
  exact ⟨by rw [show cY (cY y m k) (cO y m k) (-k) = mc (cY y m k) (cO y m k) (-k) / 12 + 1 from rfl, e]; exact z.1, by rw [show cO (cY y m k) (cO y m k) (-k) = mc (cY y m k) (cO y m k) (-k) % 12 + 1 from rfl, e]; exact z.2⟩
theorem back_day {y m d h i s k : Int} (c : canB y m d h i s k = true) (h28 : d ≤ 28) : cD (cY y m k) (cO y m k) (cD y m d k) (-k) = d := by
  have q := can_date c
  unfold isDate at q
  have l := len_bd y m
  have e := dim_of (y := y) (m := m) q.1 q.2.1 q.2.2.1 q.2.2.2.1
  rw [(later_is c).2.2.2.2.2.2 h28]
  rw [show cD (cY y m k) (cO y m k) d (-k) = min d (dim (cY (cY y m k) (cO y m k) (-k)) (cO (cY y m k) (cO y m k) (-k))) from rfl, (back_month c).1, (back_month c).2, e]
  omega

/-- A year on. -/
theorem year_on {y m d h i s : Int} (c : canB y m d h i s 12 = true) : cY y m 12 = y + 1 ∧ cO y m 12 = m := by
  have q := can_date c
  unfold isDate at q
  unfold cY cO mc
  omega

/-- Two steps in one. -/
theorem two_can {y m d h i s k q : Int} (c : canB y m d h i s k = true) (c1 : canB y m d h i s q = true) (hq : 0 ≤ q ∧ q ≤ k ∨ k ≤ q ∧ q ≤ 0) : canB (cY y m q) (cO y m q) (cD y m d q) h i s (k - q) = true := by
  have z := can_yes c
  refine can_of (later_is c1).1 ⟨by omega, by omega, ?_, ?_⟩ <;> rw [mc_later] <;> rw [mc_add y m k] at z <;> rw [mc_add y m q] <;> omega
theorem two_month {y m k q : Int} : cY (cY y m q) (cO y m q) (k - q) = cY y m k ∧ cO (cY y m q) (cO y m q) (k - q) = cO y m k := by
  have e : mc (cY y m q) (cO y m q) (k - q) = mc y m k := by rw [mc_later, mc_add y m k, mc_add y m q]; omega
  exact ⟨by rw [show cY (cY y m q) (cO y m q) (k - q) = mc (cY y m q) (cO y m q) (k - q) / 12 + 1 from rfl, e]; rfl, by rw [show cO (cY y m q) (cO y m q) (k - q) = mc (cY y m q) (cO y m q) (k - q) % 12 + 1 from rfl, e]; rfl⟩
theorem two_day {y m d h i s k q : Int} (c1 : canB y m d h i s q = true) (h28 : d ≤ 28) : cD (cY y m q) (cO y m q) (cD y m d q) (k - q) = cD y m d k := by
  rw [(later_is c1).2.2.2.2.2.2 h28]
  rw [show cD (cY y m q) (cO y m q) d (k - q) = min d (dim (cY (cY y m q) (cO y m q) (k - q)) (cO (cY y m q) (cO y m q) (k - q))) from rfl, two_month.1, two_month.2]
  rfl
theorem half_between (k : Int) : 0 ≤ k.tdiv 2 ∧ k.tdiv 2 ≤ k ∨ k ≤ k.tdiv 2 ∧ k.tdiv 2 ≤ 0 := by
  by_cases h : 0 ≤ k
  · left
    rw [Int.tdiv_eq_ediv_of_nonneg h]
    omega
  · right
    have e : k.tdiv 2 = -((-k).tdiv 2) := by rw [Int.neg_tdiv]; omega
    rw [e, Int.tdiv_eq_ediv_of_nonneg (by omega)]
    omega
theorem zero_can (k : Int) : canB 0 0 0 0 0 0 k = false := by
  have : svB 0 0 0 0 0 0 = false := by decide
  unfold canB
  rw [this]
  rfl
end Go.Proofs.Ytanmefigoddioaa.Cal
