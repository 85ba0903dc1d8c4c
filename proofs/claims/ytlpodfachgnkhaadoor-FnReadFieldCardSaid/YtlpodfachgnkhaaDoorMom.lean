/-
  PLAIN MATHEMATICS OF MOMENTS: stamps, seconds and steps of months, without any program.
-/
import Derived.Test.YtlpodfachgnkhaaDoorCal
set_option linter.unusedVariables false
set_option linter.unusedSimpArgs false
namespace Go.Proofs.YtlpodfachgnkhaaDoor.Cal

theorem dayOf_is {y m d : Int} (h : 0 ≤ dayOf y m d) : isDate y m d := by
  by_cases c : isDate y m d
  · exact c
  · rw [dayOf_no c] at h; omega

/-- There is such a stamp. -/
def svB (y m d h i s : Int) : Bool := decide (0 ≤ dayOf y m d ∧ 0 ≤ h ∧ h ≤ 23 ∧ 0 ≤ i ∧ i ≤ 59 ∧ 0 ≤ s ∧ s ≤ 59)
theorem sv_yes {y m d h i s : Int} (c : svB y m d h i s = true) : 0 ≤ dayOf y m d ∧ 0 ≤ h ∧ h ≤ 23 ∧ 0 ≤ i ∧ i ≤ 59 ∧ 0 ≤ s ∧ s ≤ 59 := of_decide_eq_true c
theorem sv_of {y m d h i s : Int} (c : 0 ≤ dayOf y m d ∧ 0 ≤ h ∧ h ≤ 23 ∧ 0 ≤ i ∧ i ≤ 59 ∧ 0 ≤ s ∧ s ≤ 59) : svB y m d h i s = true := decide_eq_true c
theorem sv_no {y m d h i s : Int} (c : ¬ (0 ≤ dayOf y m d ∧ 0 ≤ h ∧ h ≤ 23 ∧ 0 ≤ i ∧ i ≤ 59 ∧ 0 ≤ s ∧ s ≤ 59)) : svB y m d h i s = false := decide_eq_false c

/-- There is such a time of day. -/
def tmB (h i s : Int) : Bool := decide (0 ≤ h ∧ h ≤ 23 ∧ 0 ≤ i ∧ i ≤ 59 ∧ 0 ≤ s ∧ s ≤ 59)
theorem sv_tm {y m d h i s : Int} (c : 0 ≤ dayOf y m d) : svB y m d h i s = tmB h i s := by rw [Bool.eq_iff_iff]; simp [svB, tmB, c]

/-- The moment of a stamp. -/
def mom (y m d h i s : Int) : Int := if svB y m d h i s then dayOf y m d * 86400 + h * 3600 + i * 60 + s else -1
theorem mom_yes {y m d h i s : Int} (c : svB y m d h i s = true) : mom y m d h i s = dayOf y m d * 86400 + h * 3600 + i * 60 + s := by unfold mom; rw [if_pos c]
theorem mom_no {y m d h i s : Int} (c : svB y m d h i s = false) : mom y m d h i s = -1 := by unfold mom; rw [c]; rfl
theorem mom_bd (y m d h i s : Int) : -1 ≤ mom y m d h i s ∧ mom y m d h i s ≤ 126227807999 := by
  cases c : svB y m d h i s
  · rw [mom_no c]; omega
  · rw [mom_yes c]
    have := sv_yes c
    have := dayOf_bd y m d
    omega

/-- The stamp of a moment. -/
def tY (n : Int) : Int := dY (n / 86400)
def tO (n : Int) : Int := dM (n / 86400)
def tD (n : Int) : Int := dD (n / 86400)
def tH (n : Int) : Int := if 0 ≤ n ∧ n ≤ 126227807999 then n % 86400 / 3600 else 0
def tI (n : Int) : Int := if 0 ≤ n ∧ n ≤ 126227807999 then n % 3600 / 60 else 0
def tS (n : Int) : Int := if 0 ≤ n ∧ n ≤ 126227807999 then n % 60 else 0

theorem stamp_no {n : Int} (c : ¬ (0 ≤ n ∧ n ≤ 126227807999)) : tY n = 0 ∧ tO n = 0 ∧ tD n = 0 ∧ tH n = 0 ∧ tI n = 0 ∧ tS n = 0 := by
  have := date_no (n := n / 86400) (by omega)
  refine ⟨this.1, this.2.1, this.2.2, ?_, ?_, ?_⟩
  · unfold tH; rw [if_neg c]
  · unfold tI; rw [if_neg c]
  · unfold tS; rw [if_neg c]
theorem stamp_hms {n : Int} (h0 : 0 ≤ n) (h9 : n ≤ 126227807999) : tH n = n % 86400 / 3600 ∧ tI n = n % 3600 / 60 ∧ tS n = n % 60 := by
  unfold tH tI tS
  rw [if_pos ⟨h0, h9⟩, if_pos ⟨h0, h9⟩, if_pos ⟨h0, h9⟩]
  exact ⟨rfl, rfl, rfl⟩
theorem stamp_is {n : Int} (h0 : 0 ≤ n) (h9 : n ≤ 126227807999) : svB (tY n) (tO n) (tD n) (tH n) (tI n) (tS n) = true ∧ mom (tY n) (tO n) (tD n) (tH n) (tI n) (tS n) = n := by
  have e := date_is (n := n / 86400) (by omega) (by omega)
  obtain ⟨a, b, c⟩ := stamp_hms h0 h9
  have k : dayOf (tY n) (tO n) (tD n) = n / 86400 := (dayOf_yes e.1).trans e.2
  have v : svB (tY n) (tO n) (tD n) (tH n) (tI n) (tS n) = true := sv_of (by rw [k, a, b, c]; omega)
  refine ⟨v, ?_⟩
  rw [mom_yes v, k, a, b, c]
  omega
theorem stamp_of {y m d h i s : Int} (c : svB y m d h i s = true) : tY (mom y m d h i s) = y ∧ tO (mom y m d h i s) = m ∧ tD (mom y m d h i s) = d ∧ tH (mom y m d h i s) = h ∧ tI (mom y m d h i s) = i ∧ tS (mom y m d h i s) = s := by
  have b := mom_bd y m d h i s
  have e := mom_yes c
  have v := sv_yes c
  have q := dayOf_is v.1
  have k := date_of q (dayOf_yes q).symm
  have n0 : 0 ≤ mom y m d h i s := by rw [e]; omega
  have r : mom y m d h i s / 86400 = dayOf y m d := by rw [e]; omega
  obtain ⟨f, g, j⟩ := stamp_hms n0 b.2
  refine ⟨by unfold tY; rw [r]; exact k.1, by unfold tO; rw [r]; exact k.2.1, by unfold tD; rw [r]; exact k.2.2, ?_, ?_, ?_⟩
  · rw [f, e]; omega
  · rw [g, e]; omega
  · rw [j, e]; omega
theorem mom_time {y m d h i s : Int} (c : svB y m d h i s = true) : mom y m d h i s % 86400 = h * 3600 + i * 60 + s := by
  rw [mom_yes c]
  have := sv_yes c
  omega
theorem stamp_bd (n : Int) : 0 ≤ tY n ∧ tY n ≤ 4000 ∧ 0 ≤ tO n ∧ tO n ≤ 12 ∧ 0 ≤ tD n ∧ tD n ≤ 31 ∧ 0 ≤ tH n ∧ tH n ≤ 23 ∧ 0 ≤ tI n ∧ tI n ≤ 59 ∧ 0 ≤ tS n ∧ tS n ≤ 59 := by
  by_cases c : 0 ≤ n ∧ n ≤ 126227807999
  · have e := date_is (n := n / 86400) (by omega) (by omega)
    obtain ⟨a, b, g⟩ := stamp_hms c.1 c.2
    have := e.1
    have l := len_bd (tY n) (tO n)
    unfold isDate at this
    refine ⟨?_, ?_, ?_, ?_, ?_, ?_, ?_⟩
    · show 0 ≤ dY (n / 86400); omega
    · show dY (n / 86400) ≤ 4000; omega
    · show 0 ≤ dM (n / 86400); omega
    · show dM (n / 86400) ≤ 12; omega
    · show 0 ≤ dD (n / 86400); omega
    · unfold tY tO at l; show dD (n / 86400) ≤ 31; omega
    · rw [a, b, g]; omega
  · have := stamp_no c
    omega

/-- How many months come before a month that is k months behind the month m of the year y. -/
def mc (y m k : Int) : Int := (y - 1) * 12 + m - 1 + k
/-- The stamp can be moved by k months. -/
def canB (y m d h i s k : Int) : Bool := svB y m d h i s && decide (-48000 ≤ k ∧ k ≤ 48000 ∧ 0 ≤ mc y m k ∧ mc y m k ≤ 47999)
def cY (y m k : Int) : Int := mc y m k / 12 + 1
def cO (y m k : Int) : Int := mc y m k % 12 + 1
def cD (y m d k : Int) : Int := min d (dim (cY y m k) (cO y m k))
theorem can_yes {y m d h i s k : Int} (c : canB y m d h i s k = true) : svB y m d h i s = true ∧ -48000 ≤ k ∧ k ≤ 48000 ∧ 0 ≤ mc y m k ∧ mc y m k ≤ 47999 := by
  unfold canB at c
  rw [Bool.and_eq_true] at c
  exact ⟨c.1, of_decide_eq_true c.2⟩
theorem can_of {y m d h i s k : Int} (v : svB y m d h i s = true) (c : -48000 ≤ k ∧ k ≤ 48000 ∧ 0 ≤ mc y m k ∧ mc y m k ≤ 47999) : canB y m d h i s k = true := by
  unfold canB
  rw [Bool.and_eq_true]
  exact ⟨v, decide_eq_true c⟩
theorem can_no {y m d h i s k : Int} (c : canB y m d h i s k = false) : svB y m d h i s = false ∨ ¬ (-48000 ≤ k ∧ k ≤ 48000 ∧ 0 ≤ mc y m k ∧ mc y m k ≤ 47999) := by
  unfold canB at c
  rw [Bool.and_eq_false_iff] at c
  rcases c with c | c
  · exact .inl c
  · exact .inr (of_decide_eq_false c)

/-- A field of the stamp that is k months later; 0 if there is none. -/
def later (y m d h i s k x : Int) : Int := if canB y m d h i s k then x else 0
theorem later_no {y m d h i s k : Int} (c : canB y m d h i s k = false) (x : Int) : later y m d h i s k x = 0 := by unfold later; rw [c]; rfl
theorem later_yes {y m d h i s k : Int} (c : canB y m d h i s k = true) (x : Int) : later y m d h i s k x = x := by unfold later; rw [if_pos c]

/-- The month that is reached is one; its day is one of its days. -/
theorem later_is {y m d h i s k : Int} (c : canB y m d h i s k = true) : svB (cY y m k) (cO y m k) (cD y m d k) h i s = true ∧ 1 ≤ cY y m k ∧ cY y m k ≤ 4000 ∧ 1 ≤ cO y m k ∧ cO y m k ≤ 12 ∧ cD y m d k ≤ d ∧ (d ≤ 28 → cD y m d k = d) := by
  obtain ⟨v, k0, k9, c0, c9⟩ := can_yes c
  have v := sv_yes v
  have q := dayOf_is v.1
  have a1 : 1 ≤ cY y m k := by unfold cY; omega
  have a2 : cY y m k ≤ 4000 := by unfold cY; omega
  have a3 : 1 ≤ cO y m k := by unfold cO; omega
  have a4 : cO y m k ≤ 12 := by unfold cO; omega
  have e := dim_of a1 a2 a3 a4
  have l := len_bd (cY y m k) (cO y m k)
  unfold isDate at q
  have e1 : cD y m d k ≤ d := by unfold cD; omega
  have e2 : 1 ≤ cD y m d k := by unfold cD; rw [e]; omega
  have e3 : cD y m d k ≤ len (cY y m k) (cO y m k) := by unfold cD; rw [e]; omega
  have q' : isDate (cY y m k) (cO y m k) (cD y m d k) := ⟨a1, a2, a3, a4, e2, e3⟩
  have nb := num_range q'
  refine ⟨sv_of ⟨by rw [dayOf_yes q']; exact nb.1, v.2⟩, a1, a2, a3, a4, e1, fun h28 => ?_⟩
  unfold cD; rw [e]; omega
theorem mc_later {y m k : Int} (j : Int) : mc (cY y m k) (cO y m k) j = mc y m k + j := by
  unfold cY cO; unfold mc; omega
theorem mc_month {y m : Int} (h3 : 1 ≤ m) (h4 : m ≤ 12) : mc y m 0 / 12 + 1 = y ∧ mc y m 0 % 12 + 1 = m := by unfold mc; omega
end Go.Proofs.YtlpodfachgnkhaaDoor.Cal
