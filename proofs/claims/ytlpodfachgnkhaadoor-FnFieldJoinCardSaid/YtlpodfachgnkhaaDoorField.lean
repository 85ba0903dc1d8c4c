/-
  PLAIN MATHEMATICS OF FIELDS: sets of small numbers, their texts, and how texts are read.
-/
import Derived.Test.YtlpodfachgnkhaaDoorText
set_option linter.unusedVariables false
set_option linter.unusedSimpArgs false
namespace Go.Proofs.YtlpodfachgnkhaaDoor.Cal
open Go

/-- r numbers are added to a set, from f on, in steps of s. -/
def addR (S f s : Nat) : Nat → Nat
  | 0 => S
  | r + 1 => addR (S ||| 2 ^ f) (f + s) s r
theorem addR_bit (s : Nat) (hs : 1 ≤ s) : ∀ (r S f n : Nat), (addR S f s r).testBit n = (S.testBit n || decide (f ≤ n ∧ n < f + r * s ∧ (n - f) % s = 0))
  | 0, S, f, n => by
    simp only [addR]
    rw [decide_eq_false (by omega), Bool.or_false]
  | r + 1, S, f, n => by
    simp only [addR]
    rw [addR_bit s hs r, Nat.testBit_or, Nat.testBit_two_pow, Bool.or_assoc]
    congr 1
    rw [Bool.eq_iff_iff]
    simp only [Bool.or_eq_true, decide_eq_true_eq, Nat.add_mul, Nat.one_mul]
    constructor
    · rintro (h | ⟨h1, h2, h3⟩)
      · subst h; exact ⟨Nat.le_refl _, by omega, by simp⟩
      · refine ⟨by omega, by omega, ?_⟩
        have : n - f = (n - (f + s)) + s := by omega
        rw [this, Nat.add_mod_right]; exact h3
    · rintro ⟨h1, h2, h3⟩
      by_cases c : f + s ≤ n
      · right
        refine ⟨c, by omega, ?_⟩
        have : n - f = (n - (f + s)) + s := by omega
        rw [this, Nat.add_mod_right] at h3; exact h3
      · left
        have : n - f < s := by omega
        rw [Nat.mod_eq_of_lt this] at h3
        omega
theorem addR_lt {s : Nat} (hs : 1 ≤ s) : ∀ (r S f : Nat), S < 2 ^ 60 → (r = 0 ∨ f + (r - 1) * s ≤ 59) → addR S f s r < 2 ^ 60
  | 0, S, f, h, _ => h
  | r + 1, S, f, h, hf => by
    simp only [addR]
    have hf' : f + r * s ≤ 59 := by rcases hf with h | h; omega; simpa using h
    have p : (2 : Nat) ^ f < 2 ^ 60 := Nat.pow_lt_pow_right (by omega) (by omega)
    refine addR_lt hs r _ _ (Nat.or_lt_two_pow h p) ?_
    rcases Nat.eq_zero_or_pos r with e | e
    · exact .inl e
    · right
      have : r * s = (r - 1) * s + s := by
        obtain ⟨q, rfl⟩ : ∃ q, r = q + 1 := ⟨r - 1, by omega⟩
        rw [Nat.add_sub_cancel, Nat.add_mul, Nat.one_mul]
      omega

/-- All numbers of a field. -/
def fullF (lo hi : Nat) : Nat := addR 0 lo 1 (hi + 1 - lo)
theorem fullF_bit (lo hi n : Nat) : (fullF lo hi).testBit n = decide (lo ≤ n ∧ n ≤ hi) := by
  unfold fullF
  rw [addR_bit 1 (by omega), Nat.zero_testBit, Bool.false_or]
  rw [Nat.mul_one, Bool.eq_iff_iff, decide_eq_true_eq, decide_eq_true_eq]
  exact ⟨fun ⟨h1, h2, _⟩ => ⟨h1, by omega⟩, fun ⟨h1, h2⟩ => ⟨h1, by omega, Nat.mod_one _⟩⟩
/-- A set of the field. -/
def inF (S lo hi : Nat) : Prop := ∀ n, S.testBit n = true → lo ≤ n ∧ n ≤ hi
theorem inF_mod {S lo hi : Nat} (h : inF S lo hi) : S % 2 ^ (hi + 1) = S := by
  apply Nat.eq_of_testBit_eq
  intro i
  rw [Nat.testBit_mod_two_pow]
  cases c : S.testBit i
  · simp
  · have := h i c; simp; omega

/-- A number of one or two digits at the beginning, and what follows. -/
def dig (x : Int) : Bool := decide (48 ≤ x ∧ x ≤ 57)
def n2 : List Int → Option (Nat × List Int)
  | x :: y :: t => if dig x then (if dig y then some ((10 * (x - 48) + (y - 48)).toNat, t) else some ((x - 48).toNat, y :: t)) else none
  | [x] => if dig x then some ((x - 48).toNat, []) else none
  | [] => none
theorem n2_app {xs : List Int} {n : Nat} {r : List Int} (h : n2 xs = some (n, r)) (c : Int) (hc : dig c = false) (ys : List Int) : n2 (xs ++ c :: ys) = some (n, r ++ c :: ys) := by
  match xs, h with
  | [x], h =>
    simp only [n2] at h
    split at h <;> simp at h
    obtain ⟨rfl, rfl⟩ := h
    rename_i hx
    simp [n2, hx, hc]
  | x :: y :: t, h =>
    simp only [n2] at h
    split at h
    · rename_i hx
      split at h
      · rename_i hy
        simp at h
        obtain ⟨rfl, rfl⟩ := h
        simp [n2, hx, hy]
      · rename_i hy
        simp at h
        obtain ⟨rfl, rfl⟩ := h
        simp [n2, hx, hy]
    · simp at h
  | [], h => simp [n2] at h
theorem n2_len {xs : List Int} {n : Nat} {r : List Int} (h : n2 xs = some (n, r)) : r.length < xs.length := by
  match xs, h with
  | [x], h =>
    simp only [n2] at h
    split at h <;> simp at h
    obtain ⟨rfl, rfl⟩ := h
    simp
  | x :: y :: t, h =>
    simp only [n2] at h
    split at h
    · split at h <;> simp at h <;> obtain ⟨rfl, rfl⟩ := h <;> simp <;> omega
    · simp at h
  | [], h => simp [n2] at h

/-- A part: its first number, its last one, its step, and what follows. -/
def segP (lo hi : Nat) (xs : List Int) : Option (Nat × Nat × Bool × List Int) :=
  if xs.head? = some 42 then some (lo, hi, false, xs.tail)
  else match n2 xs with
    | none => none
    | some (n, r) =>
      if lo ≤ n ∧ n ≤ hi then
        if r.head? = some 45 then
          match n2 r.tail with
          | none => none
          | some (m, q) => if n ≤ m ∧ m ≤ hi then some (n, m, false, q) else none
        else some (n, n, true, r)
      else none
def stepP (hi : Nat) (f t : Nat) (one : Bool) (xs : List Int) : Option (Nat × Nat × Nat × List Int) :=
  if xs.head? = some 47 then
    match n2 xs.tail with
    | none => none
    | some (s, r) => if 1 ≤ s ∧ s ≤ 59 then some (f, if one then hi else t, s, r) else none
  else some (f, t, 1, xs)
def pt (lo hi : Nat) (xs : List Int) : Option (Nat × Nat × Nat × List Int) :=
  match segP lo hi xs with
  | none => none
  | some (f, t, one, r) => stepP hi f t one r
/-- A text of parts is read: what is added to a set. -/
def rdF (lo hi : Nat) : Nat → List Int → Nat → Option Nat
  | 0, _, _ => none
  | k + 1, xs, S => match pt lo hi xs with
    | none => none
    | some (f, t, s, r) =>
      if r = [] then some (addR S f s ((t - f) / s + 1))
      else if r.head? = some 44 then rdF lo hi k r.tail (addR S f s ((t - f) / s + 1))
      else none

theorem dig44 : dig 44 = false := by decide
theorem segP_app {lo hi : Nat} {xs : List Int} {p : Nat × Nat × Bool × List Int} (h : segP lo hi xs = some p) (ys : List Int) : segP lo hi (xs ++ 44 :: ys) = some (p.1, p.2.1, p.2.2.1, p.2.2.2 ++ 44 :: ys) := by
  unfold segP at h ⊢
  by_cases c : xs.head? = some 42
  · have hne : xs ≠ [] := by intro e; rw [e] at c; simp at c
    obtain ⟨x, t, rfl⟩ := List.exists_cons_of_ne_nil hne
    rw [if_pos c] at h
    simp at h c
    subst h c
    simp
  · rw [if_neg c] at h
    cases e : n2 xs with
    | none => rw [e] at h; simp at h
    | some q =>
      obtain ⟨n, r⟩ := q
      rw [e] at h
      have hne : xs ≠ [] := by intro e'; rw [e'] at e; simp [n2] at e
      obtain ⟨x, t, rfl⟩ := List.exists_cons_of_ne_nil hne
      have c' : ¬ ((x :: t ++ 44 :: ys).head? = some 42) := by simpa using c
      rw [if_neg c', n2_app e 44 dig44 ys]
      simp only at h ⊢
      by_cases b : lo ≤ n ∧ n ≤ hi
      · rw [if_pos b] at h ⊢
        by_cases d : r.head? = some 45
        · have rne : r ≠ [] := by intro e'; rw [e'] at d; simp at d
          obtain ⟨y, u, rfl⟩ := List.exists_cons_of_ne_nil rne
          have d' : ((y :: u ++ 44 :: ys).head? = some 45) := by simpa using d
          rw [if_pos d] at h
          rw [if_pos d']
          simp only [List.tail_cons, List.cons_append] at h ⊢
          cases e2 : n2 u with
          | none => rw [e2] at h; simp at h
          | some q =>
            obtain ⟨m, q⟩ := q
            rw [e2] at h
            rw [n2_app e2 44 dig44 ys]
            simp only at h ⊢
            split at h
            · rename_i g
              rw [if_pos g]
              simp at h; subst h; rfl
            · simp at h
        · rw [if_neg d] at h
          have d' : ¬ ((r ++ 44 :: ys).head? = some 45) := by
            cases r with
            | nil => simp
            | cons y u => simpa using d
          rw [if_neg d']
          simp at h; subst h; rfl
      · rw [if_neg b] at h; simp at h
theorem pt_app {lo hi : Nat} {xs : List Int} {p : Nat × Nat × Nat × List Int} (h : pt lo hi xs = some p) (ys : List Int) : pt lo hi (xs ++ 44 :: ys) = some (p.1, p.2.1, p.2.2.1, p.2.2.2 ++ 44 :: ys) := by
  unfold pt at h ⊢
  cases e : segP lo hi xs with
  | none => rw [e] at h; simp at h
  | some q =>
    obtain ⟨f, t, one, r⟩ := q
    rw [e] at h
    rw [segP_app e ys]
    simp only at h ⊢
    unfold stepP at h ⊢
    by_cases d : r.head? = some 47
    · have rne : r ≠ [] := by intro e'; rw [e'] at d; simp at d
      obtain ⟨y, u, rfl⟩ := List.exists_cons_of_ne_nil rne
      have d' : ((y :: u ++ 44 :: ys).head? = some 47) := by simpa using d
      rw [if_pos d] at h
      rw [if_pos d']
      simp only [List.tail_cons, List.cons_append] at h ⊢
      cases e2 : n2 u with
      | none => rw [e2] at h; simp at h
      | some q =>
        obtain ⟨m, q⟩ := q
        rw [e2] at h
        rw [n2_app e2 44 dig44 ys]
        simp only at h ⊢
        split at h
        · rename_i g
          rw [if_pos g]
          simp at h; subst h; rfl
        · simp at h
    · rw [if_neg d] at h
      have d' : ¬ ((r ++ 44 :: ys).head? = some 47) := by
        cases r with
        | nil => simp
        | cons y u => simpa using d
      rw [if_neg d']
      simp at h; subst h; rfl
theorem tail_len {xs : List Int} {c : Int} (h : xs.head? = some c) : xs.tail.length < xs.length := by
  cases xs with
  | nil => simp at h
  | cons x t => simp
theorem segP_len {lo hi : Nat} {xs : List Int} {p : Nat × Nat × Bool × List Int} (h : segP lo hi xs = some p) : p.2.2.2.length < xs.length := by
  unfold segP at h
  split at h
  · rename_i c
    simp at h; subst h; exact tail_len c
  · split at h
    · simp at h
    · rename_i n r e
      have l1 := n2_len e
      split at h
      · split at h
        · rename_i d
          have l2 := tail_len d
          split at h
          · simp at h
          · rename_i m q e2
            have l3 := n2_len e2
            split at h
            · simp at h; subst h; simp only; omega
            · simp at h
        · simp at h; subst h; exact l1
      · simp at h
theorem pt_len {lo hi : Nat} {xs : List Int} {p : Nat × Nat × Nat × List Int} (h : pt lo hi xs = some p) : p.2.2.2.length < xs.length := by
  unfold pt at h
  split at h
  · simp at h
  · rename_i f t one r e
    have l1 := segP_len e
    simp only at l1
    unfold stepP at h
    split at h
    · rename_i d
      have l2 := tail_len d
      split at h
      · simp at h
      · rename_i s q e2
        have l3 := n2_len e2
        split at h
        · simp at h; subst h; simp only; omega
        · simp at h
    · simp at h; subst h; exact l1
theorem rdF_fuel {lo hi : Nat} : ∀ (N : Nat) (xs : List Int), xs.length ≤ N → ∀ (S k : Nat), xs.length < k → rdF lo hi k xs S = rdF lo hi (xs.length + 1) xs S
  | N, xs, hN, S, 0, hk => by omega
  | N, xs, hN, S, k + 1, hk => by
    simp only [rdF]
    cases e : pt lo hi xs with
    | none => rfl
    | some p =>
      obtain ⟨f, t, s, r⟩ := p
      have l := pt_len e
      simp only at l ⊢
      split
      · rfl
      · split
        · rename_i d
          have l2 := tail_len d
          match N with
          | 0 => omega
          | N + 1 => rw [rdF_fuel N r.tail (by omega) _ k (by omega), rdF_fuel N r.tail (by omega) _ xs.length (by omega)]
        · rfl
/-- A text is read: what is added to a set. -/
def rd (lo hi : Nat) (xs : List Int) (S : Nat) : Option Nat := rdF lo hi (xs.length + 1) xs S
theorem rd_eq (lo hi : Nat) (xs : List Int) (S : Nat) : rd lo hi xs S = match pt lo hi xs with
    | none => none
    | some (f, t, s, r) =>
      if r = [] then some (addR S f s ((t - f) / s + 1))
      else if r.head? = some 44 then rd lo hi r.tail (addR S f s ((t - f) / s + 1))
      else none := by
  unfold rd
  rw [rdF]
  cases e : pt lo hi xs with
  | none => rfl
  | some p =>
    obtain ⟨f, t, s, r⟩ := p
    have l := pt_len e
    simp only at l ⊢
    split
    · rfl
    · split
      · rename_i d
        have l2 := tail_len d
        rw [rdF_fuel xs.length r.tail (by omega) _ xs.length (by omega)]
      · rfl
/-- Two texts with a comma between them. -/
theorem rd_app {lo hi : Nat} : ∀ (N : Nat) (xs : List Int), xs.length ≤ N → ∀ (S A : Nat), rd lo hi xs S = some A → ∀ ys : List Int, rd lo hi (xs ++ 44 :: ys) S = rd lo hi ys A
  | N, xs, hN, S, A, h, ys => by
    rw [rd_eq] at h
    cases e : pt lo hi xs with
    | none => rw [e] at h; simp at h
    | some p =>
      obtain ⟨f, t, s, r⟩ := p
      have l := pt_len e
      rw [e] at h
      rw [rd_eq, pt_app e ys]
      simp only at h l ⊢
      rw [if_neg (by simp)]
      by_cases c : r = []
      · rw [if_pos c] at h
        subst c
        simp at h
        subst h
        simp
      · rw [if_neg c] at h
        split at h
        · rename_i d
          have l2 := tail_len d
          obtain ⟨y, u, rfl⟩ := List.exists_cons_of_ne_nil c
          simp at d
          subst d
          simp only [List.cons_append, List.head?_cons, if_true, List.tail_cons] at h l2 ⊢
          match N with
          | 0 => omega
          | N + 1 => exact rd_app N u (by simp at hN l; omega) _ A h ys
        · simp at h
/-- What is read is a set of the field, with at least a number. -/
theorem segP_in {lo hi : Nat} (hlh : lo ≤ hi) {xs : List Int} {p : Nat × Nat × Bool × List Int} (h : segP lo hi xs = some p) : lo ≤ p.1 ∧ p.1 ≤ p.2.1 ∧ p.2.1 ≤ hi := by
  unfold segP at h
  split at h
  · simp at h; subst h; simp only; omega
  · split at h
    · simp at h
    · split at h
      · split at h
        · split at h
          · simp at h
          · split at h
            · simp at h; subst h; simp only; omega
            · simp at h
        · simp at h; subst h; simp only; omega
      · simp at h
theorem pt_in {lo hi : Nat} (hlh : lo ≤ hi) {xs : List Int} {p : Nat × Nat × Nat × List Int} (h : pt lo hi xs = some p) : lo ≤ p.1 ∧ p.1 ≤ p.2.1 ∧ p.2.1 ≤ hi ∧ 1 ≤ p.2.2.1 := by
  unfold pt at h
  split at h
  · simp at h
  · rename_i f t one r e
    have b := segP_in hlh e
    simp only at b
    unfold stepP at h
    split at h
    · split at h
      · simp at h
      · split at h
        · simp at h; subst h; simp only
          cases one <;> simp <;> omega
        · simp at h
    · simp at h; subst h; simp only; omega
theorem addR_in {S f s t lo hi : Nat} (hs : 1 ≤ s) (h : inF S lo hi) (h1 : lo ≤ f) (h2 : f ≤ t) (h3 : t ≤ hi) : inF (addR S f s ((t - f) / s + 1)) lo hi ∧ addR S f s ((t - f) / s + 1) ≠ 0 := by
  have d : (t - f) / s * s ≤ t - f := Nat.div_mul_le_self _ _
  constructor
  · intro n hn
    rw [addR_bit s hs] at hn
    simp only [Bool.or_eq_true, decide_eq_true_eq] at hn
    rcases hn with hn | ⟨g1, g2, g3⟩
    · exact h n hn
    · rw [Nat.add_mul, Nat.one_mul] at g2
      refine ⟨by omega, ?_⟩
      -- n - f is a multiple of s, less than the next one behind t
      obtain ⟨q, hq⟩ := Nat.dvd_of_mod_eq_zero g3
      have : q * s < (t - f) / s * s + s := by rw [Nat.mul_comm] at hq; omega
      have hq2 : q ≤ (t - f) / s := by
        have : q * s < ((t - f) / s + 1) * s := by rw [Nat.add_mul, Nat.one_mul]; exact this
        have := Nat.lt_of_mul_lt_mul_right this
        omega
      have : q * s ≤ (t - f) / s * s := Nat.mul_le_mul_right _ hq2
      rw [Nat.mul_comm] at hq
      omega
  · intro e
    have : (addR S f s ((t - f) / s + 1)).testBit f = true := by
      rw [addR_bit s hs]
      have : decide (f ≤ f ∧ f < f + ((t - f) / s + 1) * s ∧ (f - f) % s = 0) = true := by
        rw [decide_eq_true_eq, Nat.add_mul, Nat.one_mul]
        exact ⟨Nat.le_refl _, by omega, by simp⟩
      rw [this, Bool.or_true]
    rw [e, Nat.zero_testBit] at this
    simp at this
theorem rd_in {lo hi : Nat} (hlh : lo ≤ hi) : ∀ (N : Nat) (xs : List Int), xs.length ≤ N → ∀ (S A : Nat), inF S lo hi → rd lo hi xs S = some A → inF A lo hi ∧ A ≠ 0
  | N, xs, hN, S, A, hS, h => by
    rw [rd_eq] at h
    cases e : pt lo hi xs with
    | none => rw [e] at h; simp at h
    | some p =>
      obtain ⟨f, t, s, r⟩ := p
      have l := pt_len e
      have b := pt_in hlh e
      rw [e] at h
      simp only at h l b
      have k := addR_in b.2.2.2 hS b.1 b.2.1 b.2.2.1
      split at h
      · simp at h; subst h; exact k
      · split at h
        · rename_i d
          have l2 := tail_len d
          match N with
          | 0 => omega
          | N + 1 => exact rd_in hlh N r.tail (by omega) _ A k.1 h
        · simp at h

/-- What was there stays. -/
theorem addR_or (s : Nat) (hs : 1 ≤ s) (r S T f : Nat) : addR (S ||| T) f s r = S ||| addR T f s r := by
  apply Nat.eq_of_testBit_eq
  intro n
  rw [addR_bit s hs, Nat.testBit_or, Nat.testBit_or, addR_bit s hs, Bool.or_assoc]
theorem rd_or {lo hi : Nat} (hlh : lo ≤ hi) : ∀ (N : Nat) (xs : List Int), xs.length ≤ N → ∀ (S T : Nat), rd lo hi xs (S ||| T) = (rd lo hi xs T).map (S ||| ·)
  | N, xs, hN, S, T => by
    rw [rd_eq, rd_eq lo hi xs T]
    cases e : pt lo hi xs with
    | none => rfl
    | some p =>
      obtain ⟨f, t, s, r⟩ := p
      have l := pt_len e
      have b := pt_in hlh e
      simp only at l b ⊢
      rw [addR_or s b.2.2.2]
      split
      · rfl
      · split
        · rename_i d
          have l2 := tail_len d
          match N with
          | 0 => omega
          | N + 1 => exact rd_or hlh N r.tail (by omega) S _
        · rfl
theorem inF_or {S T lo hi : Nat} (h : inF S lo hi) (k : inF T lo hi) : inF (S ||| T) lo hi := by
  intro n hn
  rw [Nat.testBit_or, Bool.or_eq_true] at hn
  rcases hn with hn | hn
  · exact h n hn
  · exact k n hn
theorem inF_lt {S lo hi : Nat} (h : inF S lo hi) (h9 : hi ≤ 59) : S < 2 ^ 60 := by
  refine Nat.lt_pow_two_of_testBit S fun i hi' => ?_
  cases c : S.testBit i
  · rfl
  · have := h i c; omega
theorem or_full {S lo hi : Nat} (h : inF S lo hi) : S ||| fullF lo hi = fullF lo hi := by
  apply Nat.eq_of_testBit_eq
  intro n
  rw [Nat.testBit_or, fullF_bit]
  cases c : S.testBit n
  · simp
  · have := h n c; simp; omega

/-- A number less than 60 is written. -/
def numT (n : Nat) : List Int := if n < 10 then [48 + (n : Int)] else d2 n
theorem dig_of {x : Int} (h : 48 ≤ x ∧ x ≤ 57) : dig x = true := decide_eq_true h
theorem n2_num {n : Nat} (h : n ≤ 59) (t : List Int) (ht : t = [] ∨ ∃ c u, t = c :: u ∧ dig c = false) : n2 (numT n ++ t) = some (n, t) := by
  unfold numT
  split
  · rename_i g
    have d := dig_of (x := 48 + (n : Int)) (by omega)
    rcases ht with rfl | ⟨c, u, rfl, hc⟩
    · simp only [List.append_nil, n2, d, if_true, Option.some.injEq, Prod.mk.injEq, and_true]; omega
    · simp only [List.cons_append, List.nil_append, n2, d, hc, if_true, Option.some.injEq, Prod.mk.injEq, and_true, Bool.false_eq_true, if_false]; omega
  · have d1 := dig_of (x := 48 + (n : Int) / 10 % 10) (by omega)
    have d0 := dig_of (x := 48 + (n : Int) % 10) (by omega)
    unfold d2
    simp only [List.cons_append, List.nil_append, n2, d1, d0, if_true, Option.some.injEq, Prod.mk.injEq, and_true]
    omega
theorem num_head {n : Nat} (h : n ≤ 59) (t : List Int) : ∃ x u, numT n ++ t = x :: u ∧ 48 ≤ x ∧ x ≤ 57 := by
  unfold numT d2
  split
  · exact ⟨_, _, rfl, by omega, by omega⟩
  · exact ⟨_, _, rfl, by omega, by omega⟩
theorem num_len (n : Nat) : (numT n).length ≤ 2 := by unfold numT; split <;> simp [d2]
theorem numT_bd {n : Nat} (h : n ≤ 59) : ∀ x ∈ numT n, 0 ≤ x ∧ x < 256 := by
  intro x hx
  unfold numT d2 at hx
  split at hx <;> simp at hx <;> omega

/-- The last number of a run. -/
def runE (S hi : Nat) : Nat → Nat → Nat
  | 0, e => e
  | r + 1, e => if e < hi ∧ S.testBit (e + 1) = true then runE S hi r (e + 1) else e
theorem runE_is {S hi : Nat} : ∀ (r e : Nat), e ≤ hi → hi - e ≤ r → e ≤ runE S hi r e ∧ runE S hi r e ≤ hi ∧ ∀ n, e < n → n ≤ runE S hi r e → S.testBit n = true
  | 0, e, h, hr => ⟨Nat.le_refl _, h, fun n h1 h2 => by simp only [runE] at h2; omega⟩
  | r + 1, e, h, hr => by
    simp only [runE]
    split
    · rename_i c
      obtain ⟨i1, i2, i3⟩ := runE_is (S := S) (hi := hi) r (e + 1) (by omega) (by omega)
      refine ⟨by omega, i2, fun n h1 h2 => ?_⟩
      by_cases g : n = e + 1
      · rw [g]; exact c.2
      · exact i3 n (by omega) h2
    · exact ⟨Nat.le_refl _, h, fun n h1 h2 => by omega⟩
/-- A run's text, and all of them. -/
def spanT (k e : Nat) : List Int := numT k ++ (if k < e then 45 :: numT e else [])
def joinT (out t : List Int) : List Int := if out = [] then t else out ++ 44 :: t
def ftx (S hi : Nat) : Nat → Nat → List Int → List Int
  | 0, _, out => out
  | r + 1, k, out => if hi < k then out else if S.testBit k = false then ftx S hi r (k + 1) out else ftx S hi r (runE S hi (hi - k) k + 1) (joinT out (spanT k (runE S hi (hi - k) k)))
theorem dig45 : dig 45 = false := by decide
theorem run_pt {lo hi k e : Nat} (h1 : lo ≤ k) (h2 : k ≤ e) (h3 : e ≤ hi) (h9 : hi ≤ 59) : pt lo hi (spanT k e) = some (k, e, 1, []) := by
  unfold pt segP spanT
  by_cases c : k < e
  · rw [if_pos c]
    obtain ⟨x, u, ex, x1, x2⟩ := num_head (n := k) (by omega) (45 :: numT e)
    have hd : ¬ ((numT k ++ 45 :: numT e).head? = some 42) := by rw [ex]; simp; omega
    rw [if_neg hd, n2_num (by omega) _ (.inr ⟨45, _, rfl, dig45⟩)]
    simp only
    rw [if_pos (by omega), List.head?_cons, if_pos rfl, List.tail_cons]
    have := n2_num (n := e) (by omega) [] (.inl rfl)
    rw [List.append_nil] at this
    rw [this]
    simp only
    rw [if_pos (by omega)]
    rfl
  · have : e = k := by omega
    subst this
    rw [if_neg c]
    obtain ⟨x, u, ex, x1, x2⟩ := num_head (n := e) (by omega) []
    have hd : ¬ ((numT e ++ []).head? = some 42) := by rw [ex]; simp; omega
    rw [if_neg hd, n2_num (by omega) _ (.inl rfl)]
    simp only
    rw [if_pos (by omega), if_neg (by simp)]
    rfl
theorem run_rd {lo hi k e S : Nat} (h1 : lo ≤ k) (h2 : k ≤ e) (h3 : e ≤ hi) (h9 : hi ≤ 59) : rd lo hi (spanT k e) S = some (addR S k 1 (e - k + 1)) := by
  rw [rd_eq, run_pt h1 h2 h3 h9]
  simp [Nat.div_one]
theorem run_add {S k e : Nat} (hk : S.testBit k = true) (h2 : k ≤ e) (h : ∀ n, k < n → n ≤ e → S.testBit n = true) : addR (S % 2 ^ k) k 1 (e - k + 1) = S % 2 ^ (e + 1) := by
  apply Nat.eq_of_testBit_eq
  intro n
  rw [addR_bit 1 (by omega), Nat.testBit_mod_two_pow, Nat.testBit_mod_two_pow]
  rw [Bool.eq_iff_iff]
  simp only [Bool.or_eq_true, Bool.and_eq_true, decide_eq_true_eq, Nat.mul_one, Nat.mod_one, and_true]
  constructor
  · rintro (⟨a, b⟩ | ⟨a, b⟩)
    · exact ⟨by omega, b⟩
    · refine ⟨by omega, ?_⟩
      by_cases g : n = k
      · rw [g]; exact hk
      · exact h n (by omega) (by omega)
  · rintro ⟨a, b⟩
    by_cases g : n < k
    · exact .inl ⟨g, b⟩
    · exact .inr ⟨by omega, by omega⟩
theorem mod_next {S k : Nat} (hk : S.testBit k = false) : S % 2 ^ (k + 1) = S % 2 ^ k := by
  apply Nat.eq_of_testBit_eq
  intro n
  rw [Nat.testBit_mod_two_pow, Nat.testBit_mod_two_pow, Bool.eq_iff_iff]
  simp only [Bool.and_eq_true, decide_eq_true_eq]
  constructor
  · rintro ⟨a, b⟩
    refine ⟨?_, b⟩
    by_cases g : n = k
    · rw [g, hk] at b; simp at b
    · omega
  · rintro ⟨a, b⟩
    exact ⟨by omega, b⟩
theorem spanT_ne (k e : Nat) : spanT k e ≠ [] := by
  unfold spanT numT d2
  split <;> simp
theorem joinT_ne (out : List Int) (k e : Nat) : joinT out (spanT k e) ≠ [] := by
  unfold joinT
  split
  · exact spanT_ne k e
  · simp
/-- What has been written says what the set has up to there. -/
def saysTo (lo hi S k : Nat) (out : List Int) : Prop := (out = [] ∧ S % 2 ^ k = 0) ∨ (out ≠ [] ∧ rd lo hi out 0 = some (S % 2 ^ k))
theorem says_next {lo hi S k : Nat} {out : List Int} (hk : S.testBit k = false) (h : saysTo lo hi S k out) : saysTo lo hi S (k + 1) out := by
  unfold saysTo at *
  rw [mod_next hk]
  exact h
theorem says_run {lo hi S k : Nat} {out : List Int} (hS : inF S lo hi) (h9 : hi ≤ 59) (hkh : k ≤ hi) (hk : S.testBit k = true) (h : saysTo lo hi S k out) : saysTo lo hi S (runE S hi (hi - k) k + 1) (joinT out (spanT k (runE S hi (hi - k) k))) := by
  obtain ⟨e1, e2, e3⟩ := runE_is (S := S) (hi := hi) (hi - k) k hkh (Nat.le_refl _)
  have b := hS k hk
  generalize runE S hi (hi - k) k = e at *
  have a := run_add hk e1 e3
  refine .inr ⟨joinT_ne out k e, ?_⟩
  rcases h with ⟨rfl, z⟩ | ⟨ne, h⟩
  · unfold joinT
    rw [if_pos rfl, run_rd b.1 e1 e2 h9, ← a, z]
  · unfold joinT
    rw [if_neg ne, rd_app out.length out (Nat.le_refl _) 0 _ h, run_rd b.1 e1 e2 h9, a]
theorem ftx_says {lo hi S : Nat} (hS : inF S lo hi) (h9 : hi ≤ 59) : ∀ (r k : Nat) (out : List Int), k ≤ hi + 1 → hi + 1 - k < r → saysTo lo hi S k out → saysTo lo hi S (hi + 1) (ftx S hi r k out)
  | 0, k, out, h1, h2, h => by omega
  | r + 1, k, out, h1, h2, h => by
    simp only [ftx]
    split
    · have : k = hi + 1 := by omega
      rw [← this]; exact h
    · split
      · rename_i hk
        exact ftx_says hS h9 r (k + 1) out (by omega) (by omega) (says_next hk h)
      · rename_i hk
        have hk : S.testBit k = true := by simpa using hk
        have e := runE_is (S := S) (hi := hi) (hi - k) k (by omega) (Nat.le_refl _)
        exact ftx_says hS h9 r _ _ (by omega) (by omega) (says_run hS h9 (by omega) hk h)
/-- The text of a set. -/
def fTxt (S lo hi : Nat) : List Int := if S = fullF lo hi then [42] else ftx S hi (hi + 2 - lo) lo []
theorem star_rd {lo hi : Nat} (hlh : lo ≤ hi) (S : Nat) : rd lo hi [42] S = some (addR S lo 1 (hi + 1 - lo)) := by
  rw [rd_eq]
  have : pt lo hi [42] = some (lo, hi, 1, []) := rfl
  rw [this]
  simp [Nat.div_one]
  congr 1
  omega
theorem fTxt_rd {S lo hi : Nat} (hlh : lo ≤ hi) (h9 : hi ≤ 59) (hS : inF S lo hi) (h0 : S ≠ 0) : rd lo hi (fTxt S lo hi) 0 = some S ∧ fTxt S lo hi ≠ [] := by
  unfold fTxt
  split
  · rename_i e
    rw [star_rd hlh]
    exact ⟨by rw [e]; rfl, by simp⟩
  · have z : S % 2 ^ lo = 0 := by
      apply Nat.eq_of_testBit_eq
      intro n
      rw [Nat.testBit_mod_two_pow, Nat.zero_testBit]
      cases c : S.testBit n
      · simp
      · have := hS n c
        simp; omega
    have h := ftx_says hS h9 (hi + 2 - lo) lo [] (by omega) (by omega) (.inl ⟨rfl, z⟩)
    rcases h with ⟨_, h⟩ | ⟨ne, h⟩
    · rw [inF_mod hS] at h; exact absurd h h0
    · rw [inF_mod hS] at h; exact ⟨h, ne⟩
end Go.Proofs.YtlpodfachgnkhaaDoor.Cal
