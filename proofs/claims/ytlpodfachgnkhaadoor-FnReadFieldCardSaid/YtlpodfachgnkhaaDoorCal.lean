/-
  PLAIN MATHEMATICS OF DATES: leap years, months, days and dates, without any program.
-/
import Derived.ProofKit
set_option linter.unusedVariables false
set_option linter.unusedSimpArgs false
namespace Go.Proofs.YtlpodfachgnkhaaDoor.Cal

/-- A year in 1..4000 with 366 days. -/
def leapB (y : Int) : Bool := decide (1 ≤ y ∧ y ≤ 4000 ∧ y % 4 = 0 ∧ (y % 100 ≠ 0 ∨ y % 400 = 0))
def lp (y : Int) : Int := if y % 4 = 0 ∧ (y % 100 ≠ 0 ∨ y % 400 = 0) then 1 else 0
/-- The length of a month of some year, without the year's bounds. -/
def len (y m : Int) : Int := if m = 2 then 28 + lp y else if m = 4 ∨ m = 6 ∨ m = 9 ∨ m = 11 then 30 else 31
def dim (y m : Int) : Int := if 1 ≤ y ∧ y ≤ 4000 ∧ 1 ≤ m ∧ m ≤ 12 then len y m else 0
def before (y : Int) : Int := 365 * (y - 1) + (y - 1) / 4 - (y - 1) / 100 + (y - 1) / 400
/-- The days of a year before a month. -/
def cum (y m : Int) : Int :=
  (if m ≤ 1 then 0 else if m = 2 then 31 else if m = 3 then 59 else if m = 4 then 90 else if m = 5 then 120 else if m = 6 then 151 else if m = 7 then 181 else if m = 8 then 212 else if m = 9 then 243 else if m = 10 then 273 else if m = 11 then 304 else if m = 12 then 334 else 365) + (if 3 ≤ m then lp y else 0)
def dayOf (y m d : Int) : Int := if 1 ≤ d ∧ d ≤ dim y m then before y + cum y m + d - 1 else -1
def isDate (y m d : Int) : Prop := 1 ≤ y ∧ y ≤ 4000 ∧ 1 ≤ m ∧ m ≤ 12 ∧ 1 ≤ d ∧ d ≤ len y m
def num (y m d : Int) : Int := before y + cum y m + d - 1

theorem leapB_true {y : Int} (h : leapB y = true) : 1 ≤ y ∧ y ≤ 4000 ∧ y % 4 = 0 ∧ (y % 100 ≠ 0 ∨ y % 400 = 0) := of_decide_eq_true h
theorem leapB_false {y : Int} (h : leapB y = false) : ¬ (1 ≤ y ∧ y ≤ 4000 ∧ y % 4 = 0 ∧ (y % 100 ≠ 0 ∨ y % 400 = 0)) := of_decide_eq_false h
theorem lp_of_true {y : Int} (h : leapB y = true) : lp y = 1 := by
  have := leapB_true h
  unfold lp; rw [if_pos ⟨this.2.2.1, this.2.2.2⟩]
theorem lp_of_false {y : Int} (h : leapB y = false) (h1 : 1 ≤ y) (h2 : y ≤ 4000) : lp y = 0 := by
  have := leapB_false h
  unfold lp; rw [if_neg (fun c => this ⟨h1, h2, c.1, c.2⟩)]
theorem lp01 (y : Int) : 0 ≤ lp y ∧ lp y ≤ 1 := by unfold lp; split <;> omega
theorem len_bd (y m : Int) : 28 ≤ len y m ∧ len y m ≤ 31 := by
  have := lp01 y
  unfold len; repeat' split
  all_goals omega
theorem dim_bd (y m : Int) : 0 ≤ dim y m ∧ dim y m ≤ 31 := by
  have := len_bd y m
  unfold dim; split <;> omega
theorem dim_of {y m : Int} (h1 : 1 ≤ y) (h2 : y ≤ 4000) (h3 : 1 ≤ m) (h4 : m ≤ 12) : dim y m = len y m := by
  unfold dim; rw [if_pos ⟨h1, h2, h3, h4⟩]
theorem dim_no {y m : Int} (h : ¬ (1 ≤ y ∧ y ≤ 4000 ∧ 1 ≤ m ∧ m ≤ 12)) : dim y m = 0 := by
  unfold dim; rw [if_neg h]
theorem dayOf_yes {y m d : Int} (h : isDate y m d) : dayOf y m d = num y m d := by
  obtain ⟨h1, h2, h3, h4, h5, h6⟩ := h
  unfold dayOf num; rw [dim_of h1 h2 h3 h4, if_pos ⟨h5, h6⟩]
theorem dayOf_no {y m d : Int} (h : ¬ isDate y m d) : dayOf y m d = -1 := by
  unfold dayOf
  by_cases c : 1 ≤ y ∧ y ≤ 4000 ∧ 1 ≤ m ∧ m ≤ 12
  · rw [dim_of c.1 c.2.1 c.2.2.1 c.2.2.2, if_neg (fun k => h ⟨c.1, c.2.1, c.2.2.1, c.2.2.2, k.1, k.2⟩)]
  · rw [dim_no c, if_neg (by omega)]
theorem before_succ {y : Int} (h : 1 ≤ y) : before (y + 1) = before y + 365 + lp y := by
  unfold before lp; split <;> omega
theorem before_bd {y : Int} (h1 : 1 ≤ y) (h2 : y ≤ 4001) : 0 ≤ before y ∧ before y ≤ 1460970 := by unfold before; omega
theorem before_mono {a b : Int} (h : a ≤ b) : before a ≤ before b := by unfold before; omega
theorem before_lt {a b : Int} (h : a < b) : before a + 365 ≤ before b := by
  have := before_mono (show a + 1 ≤ b by omega)
  have : before a + 365 ≤ before (a + 1) := by unfold before; omega
  omega
theorem cum_succ (y m : Int) (h1 : 1 ≤ m) (h2 : m ≤ 12) : cum y (m + 1) = cum y m + len y m := by
  have hm : m = 1 ∨ m = 2 ∨ m = 3 ∨ m = 4 ∨ m = 5 ∨ m = 6 ∨ m = 7 ∨ m = 8 ∨ m = 9 ∨ m = 10 ∨ m = 11 ∨ m = 12 := by omega
  rcases hm with rfl | rfl | rfl | rfl | rfl | rfl | rfl | rfl | rfl | rfl | rfl | rfl <;> simp [cum, len] <;> omega
theorem cum_bd (y m : Int) (h1 : 1 ≤ m) (h2 : m ≤ 13) : 0 ≤ cum y m ∧ cum y m ≤ 365 + lp y := by
  have := lp01 y
  have hm : m = 1 ∨ m = 2 ∨ m = 3 ∨ m = 4 ∨ m = 5 ∨ m = 6 ∨ m = 7 ∨ m = 8 ∨ m = 9 ∨ m = 10 ∨ m = 11 ∨ m = 12 ∨ m = 13 := by omega
  rcases hm with rfl | rfl | rfl | rfl | rfl | rfl | rfl | rfl | rfl | rfl | rfl | rfl | rfl <;> simp [cum] <;> omega
theorem cum13 (y : Int) : cum y 13 = 365 + lp y := by simp [cum]
theorem cum_mono (y : Int) {a b : Int} (h1 : 1 ≤ a) (h : a < b) (h2 : b ≤ 13) : cum y a + len y a ≤ cum y b := by
  have hb : ∀ k : Nat, a + 1 + k ≤ 13 → cum y (a + 1) ≤ cum y (a + 1 + k) := by
    intro k
    induction k with
    | zero => intro _; simp
    | succ k ih =>
      intro hk
      have h1 := ih (by omega)
      have h2 := cum_succ y (a + 1 + k) (by omega) (by omega)
      have h3 := len_bd y (a + 1 + k)
      rw [show a + 1 + ((k + 1 : Nat) : Int) = a + 1 + k + 1 from by omega, h2]
      omega
  have h3 := hb (b - (a + 1)).toNat (by omega)
  rw [show a + 1 + ((b - (a + 1)).toNat : Int) = b from by omega] at h3
  have h4 := cum_succ y a h1 (by omega)
  omega
theorem num_bd {y m d : Int} (h : isDate y m d) : before y ≤ num y m d ∧ num y m d < before (y + 1) := by
  obtain ⟨h1, h2, h3, h4, h5, h6⟩ := h
  have a := cum_bd y m h3 (by omega)
  have b := cum_mono y (b := 13) h3 (by omega) (by omega)
  have c := cum13 y
  have e := before_succ h1
  unfold num; omega
theorem num_range {y m d : Int} (h : isDate y m d) : 0 ≤ num y m d ∧ num y m d ≤ 1460969 := by
  have a := num_bd h
  have b := before_bd (y := y) h.1 (by have := h.2.1; omega)
  have c := before_mono (show y + 1 ≤ 4001 by have := h.2.1; omega)
  have e : before 4001 = 1460970 := rfl
  omega
/-- A day has one date. -/
theorem num_inj {y m d y' m' d' : Int} (h : isDate y m d) (h' : isDate y' m' d') (e : num y m d = num y' m' d') : y = y' ∧ m = m' ∧ d = d' := by
  have a := num_bd h
  have a' := num_bd h'
  have hy : y = y' := by
    rcases Int.lt_trichotomy y y' with c | c | c
    · have := before_mono (show y + 1 ≤ y' by omega); omega
    · exact c
    · have := before_mono (show y' + 1 ≤ y by omega); omega
  subst hy
  obtain ⟨_, _, h3, h4, h5, h6⟩ := h
  obtain ⟨_, _, h3', h4', h5', h6'⟩ := h'
  unfold num at e
  have hm : m = m' := by
    rcases Int.lt_trichotomy m m' with c | c | c
    · have := cum_mono y h3 c (by omega); omega
    · exact c
    · have := cum_mono y h3' c (by omega); omega
  subst hm
  exact ⟨rfl, rfl, by omega⟩
theorem dayOf_bd (y m d : Int) : -1 ≤ dayOf y m d ∧ dayOf y m d ≤ 1460969 := by
  by_cases h : isDate y m d
  · rw [dayOf_yes h]; have := num_range h; omega
  · rw [dayOf_no h]; omega

/- Years that begin with March. -/
def mby (y : Int) : Int := 365 * y + y / 4 - y / 100 + y / 400
def mcum (p : Int) : Int := (153 * p + 2) / 5
theorem march_low {y m : Int} (h1 : 1 ≤ y) (h3 : 1 ≤ m) (h4 : m < 3) (d : Int) : mby (y - 1) + mcum (m + 9) + d - 1 - 306 = num y m d := by
  have hm : m = 1 ∨ m = 2 := by omega
  unfold mby mcum num before
  rcases hm with rfl | rfl <;> simp [cum] <;> omega
theorem march_high {y m : Int} (h1 : 1 ≤ y) (h3 : 3 ≤ m) (h4 : m ≤ 12) (d : Int) : mby y + mcum (m - 3) + d - 1 - 306 = num y m d := by
  have hm : m = 3 ∨ m = 4 ∨ m = 5 ∨ m = 6 ∨ m = 7 ∨ m = 8 ∨ m = 9 ∨ m = 10 ∨ m = 11 ∨ m = 12 := by omega
  have e : before (y + 1) = mby y := by unfold before mby; simp
  have e2 := before_succ h1
  unfold mcum num
  rcases hm with rfl | rfl | rfl | rfl | rfl | rfl | rfl | rfl | rfl | rfl <;> simp [cum] <;> omega
theorem mlen {y m : Int} (h3 : 1 ≤ m) (h4 : m ≤ 12) (h2 : m ≠ 2) : (if m < 3 then mcum (m + 9 + 1) - mcum (m + 9) else mcum (m - 3 + 1) - mcum (m - 3)) = len y m := by
  have hm : m = 1 ∨ m = 3 ∨ m = 4 ∨ m = 5 ∨ m = 6 ∨ m = 7 ∨ m = 8 ∨ m = 9 ∨ m = 10 ∨ m = 11 ∨ m = 12 := by omega
  rcases hm with rfl | rfl | rfl | rfl | rfl | rfl | rfl | rfl | rfl | rfl | rfl <;> simp [mcum, len]
/-- The date of a day counted from March 1 of the year 0, given its year from March on. -/
theorem march_date {n my : Int} (h0 : 306 ≤ n) (h9 : n ≤ 1460969 + 306) (hlo : mby my ≤ n) (hhi : n < mby (my + 1))
    (r p d : Int) (er : r = n - mby my) (ep : p = (5 * r + 2) / 153) (hd : d = r - mcum p + 1) :
    0 ≤ r ∧ r ≤ 365 ∧ 0 ≤ p ∧ p ≤ 11 ∧ (p < 10 → isDate my (p + 3) d ∧ num my (p + 3) d = n - 306) ∧ (10 ≤ p → isDate (my + 1) (p - 9) d ∧ num (my + 1) (p - 9) d = n - 306) := by
  have hstep : mby (my + 1) = mby my + 365 + lp (my + 1) := by unfold mby lp; split <;> omega
  have hl := lp01 (my + 1)
  have hr0 : 0 ≤ r := by omega
  have hr1 : r ≤ 364 + lp (my + 1) := by omega
  have hp0 : 0 ≤ p := by omega
  have hp1 : p ≤ 11 := by omega
  have hmy0 : 0 ≤ my := by
    by_cases c : 0 ≤ my
    · exact c
    · have : mby (my + 1) ≤ 0 := by unfold mby; omega
      omega
  have hmy1 : my ≤ 4000 := by
    by_cases c : my ≤ 4000
    · exact c
    · have : 1461275 < mby my := by unfold mby; omega
      omega
  have hpd : p * 153 ≤ 5 * r + 2 ∧ 5 * r + 2 < p * 153 + 153 := by omega
  have hn : n = mby my + mcum p + d - 1 := by omega
  clear er ep
  refine ⟨hr0, by omega, hp0, hp1, fun c => ?_, fun c => ?_⟩
  · have hmy : 1 ≤ my := by
      by_cases c0 : my = 0
      · subst c0
        have : mby 0 = 0 := rfl
        unfold mcum at hd hn
        omega
      · omega
    have e := march_high (y := my) (m := p + 3) hmy (by omega) (by omega) d
    rw [show p + 3 - 3 = p from by omega] at e
    refine ⟨⟨hmy, hmy1, by omega, by omega, ?_, ?_⟩, by omega⟩
    · unfold mcum at hd; omega
    · have hm : p = 0 ∨ p = 1 ∨ p = 2 ∨ p = 3 ∨ p = 4 ∨ p = 5 ∨ p = 6 ∨ p = 7 ∨ p = 8 ∨ p = 9 := by omega
      unfold mcum at hd
      rcases hm with rfl | rfl | rfl | rfl | rfl | rfl | rfl | rfl | rfl | rfl <;> simp [len] <;> omega
  · have hmy : my + 1 ≤ 4000 := by
      by_cases c0 : my = 4000
      · subst c0
        have : mby 4000 = 1460970 := rfl
        unfold mcum at hd hn
        omega
      · omega
    have e := march_low (y := my + 1) (m := p - 9) (by omega) (by omega) (by omega) d
    rw [show p - 9 + 9 = p from by omega, show my + 1 - 1 = my from by omega] at e
    refine ⟨⟨by omega, hmy, by omega, by omega, ?_, ?_⟩, by omega⟩
    · unfold mcum at hd; omega
    · have hm : p = 10 ∨ p = 11 := by omega
      unfold mcum at hd
      rcases hm with rfl | rfl <;> simp [len] <;> omega
theorem march_guess {n : Int} (h0 : 306 ≤ n) (h9 : n ≤ 1461275) : (mby (n * 400 / 146097 + 1) ≤ n → mby (n * 400 / 146097 + 1) ≤ n ∧ n < mby (n * 400 / 146097 + 1 + 1)) ∧ (¬ mby (n * 400 / 146097 + 1) ≤ n → mby (n * 400 / 146097) ≤ n ∧ n < mby (n * 400 / 146097 + 1)) := by
  unfold mby; omega

/- The date of a day, as a function. -/
def mYear (k : Int) : Int := if mby (k * 400 / 146097 + 1) ≤ k then k * 400 / 146097 + 1 else k * 400 / 146097
def mPlace (k : Int) : Int := (5 * (k - mby (mYear k)) + 2) / 153
def dY (n : Int) : Int := if 0 ≤ n ∧ n ≤ 1460969 then (if mPlace (n + 306) < 10 then mYear (n + 306) else mYear (n + 306) + 1) else 0
def dM (n : Int) : Int := if 0 ≤ n ∧ n ≤ 1460969 then (if mPlace (n + 306) < 10 then mPlace (n + 306) + 3 else mPlace (n + 306) - 9) else 0
def dD (n : Int) : Int := if 0 ≤ n ∧ n ≤ 1460969 then n + 306 - mby (mYear (n + 306)) - mcum (mPlace (n + 306)) + 1 else 0
theorem mYear_bd {k : Int} (h0 : 306 ≤ k) (h9 : k ≤ 1461275) : mby (mYear k) ≤ k ∧ k < mby (mYear k + 1) := by
  have g := march_guess h0 h9
  unfold mYear
  by_cases c : mby (k * 400 / 146097 + 1) ≤ k
  · rw [if_pos c]; exact g.1 c
  · rw [if_neg c]; exact g.2 c
theorem date_is {n : Int} (h0 : 0 ≤ n) (h9 : n ≤ 1460969) : isDate (dY n) (dM n) (dD n) ∧ num (dY n) (dM n) (dD n) = n := by
  have b := mYear_bd (k := n + 306) (by omega) (by omega)
  have g := march_date (n := n + 306) (my := mYear (n + 306)) (by omega) (by omega) b.1 b.2 _ (mPlace (n + 306)) _ rfl rfl rfl
  have hn : n + 306 - 306 = n := by omega
  obtain ⟨_, _, _, _, g1, g2⟩ := g
  rw [hn] at g1 g2
  unfold dY dM dD
  have hc : 0 ≤ n ∧ n ≤ 1460969 := ⟨h0, h9⟩
  simp only [if_pos hc]
  by_cases c : mPlace (n + 306) < 10
  · simp only [if_pos c]; exact g1 c
  · simp only [if_neg c]; exact g2 (by omega)
theorem date_of {y m d n : Int} (h : isDate y m d) (e : num y m d = n) : dY n = y ∧ dM n = m ∧ dD n = d := by
  have r := num_range h
  have g := date_is (n := n) (by omega) (by omega)
  exact num_inj g.1 h (by omega)
theorem date_no {n : Int} (h : ¬ (0 ≤ n ∧ n ≤ 1460969)) : dY n = 0 ∧ dM n = 0 ∧ dD n = 0 := by
  refine ⟨?_, ?_, ?_⟩ <;> simp only [dY, dM, dD, if_neg h]
/-- The weekday of a day. -/
def wdy (n : Int) : Int := if 0 ≤ n ∧ n ≤ 1460969 then n % 7 else -1
end Go.Proofs.YtlpodfachgnkhaaDoor.Cal
