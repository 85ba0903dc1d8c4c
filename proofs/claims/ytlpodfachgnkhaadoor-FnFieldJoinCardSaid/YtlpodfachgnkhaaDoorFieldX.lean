/-
  MATHEMATICS OF THE PROGRAM's FIELDS: runs found by trailing zeros, parts joined by commas; a text cut at commas, a part at its step and at its dash.
-/
import Derived.Test.YtlpodfachgnkhaaDoorField
import Derived.Test.YtlpodfachgnkhaaDoorCut
import Derived.Lib.TrailingZeros
set_option linter.unusedVariables false
set_option linter.unusedSimpArgs false
namespace Go.Proofs.YtlpodfachgnkhaaDoor.Cal
open Go

/-- The lowest bit of a number. -/
theorem ctz_bit {x : Nat} (h0 : x ≠ 0) (h : x < 2 ^ 64) : x.testBit (Lib.ctz 64 x) = true ∧ (∀ n, n < Lib.ctz 64 x → x.testBit n = false) ∧ Lib.ctz 64 x < 64 := by
  unfold Lib.ctz
  rw [if_neg h0]
  obtain ⟨m, e, l⟩ := Lib.ctzFrom_spec 64 x (by omega) h
  generalize Lib.ctzFrom 64 x = k at *
  subst e
  have hb : ∀ n, (2 ^ k * (2 * m + 1)).testBit n = (decide (k ≤ n) && (2 * m + 1).testBit (n - k)) := by
    intro n
    rw [Nat.mul_comm, ← Nat.shiftLeft_eq, Nat.testBit_shiftLeft]
  refine ⟨?_, ?_, l⟩
  · rw [hb, Nat.sub_self]
    simp [Nat.testBit_zero]
  · intro n hn
    rw [hb, decide_eq_false (by omega), Bool.false_and]
/-- The first run of a set: from f to e. -/
theorem gap_bit {T f : Nat} (hT : T < 2 ^ 60) (hf : T.testBit f = true) :
    let x := 18446744073709551615 - T / 2 ^ f
    x ≠ 0 ∧ x < 18446744073709551616 ∧ 1 ≤ Lib.ctz 64 x ∧ (∀ n, f ≤ n → n < f + Lib.ctz 64 x → T.testBit n = true) ∧ T.testBit (f + Lib.ctz 64 x) = false := by
  intro x
  have hq : T / 2 ^ f < 2 ^ 60 := Nat.lt_of_le_of_lt (Nat.div_le_self _ _) hT
  have hx0 : x ≠ 0 := by show 18446744073709551615 - T / 2 ^ f ≠ 0; omega
  have hx9 : x < 2 ^ 64 := Nat.lt_of_le_of_lt (Nat.sub_le _ _) (by decide)
  have hb : ∀ n, n < 64 → x.testBit n = !(T.testBit (f + n)) := by
    intro n hn
    have e : x = 2 ^ 64 - (T / 2 ^ f + 1) := by show 18446744073709551615 - T / 2 ^ f = _; omega
    rw [e, Nat.testBit_two_pow_sub_succ (by omega), decide_eq_true hn, Bool.true_and, Nat.testBit_div_two_pow, Nat.add_comm]
  obtain ⟨c1, c2, c3⟩ := ctz_bit hx0 hx9
  refine ⟨hx0, hx9, ?_, ?_, ?_⟩
  · rcases Nat.eq_zero_or_pos (Lib.ctz 64 x) with z | z
    · rw [z] at c1
      have := hb 0 (by omega)
      rw [Nat.add_zero, hf, c1] at this
      simp at this
    · exact z
  · intro n h1 h2
    have a := hb (n - f) (by omega)
    rw [c2 (n - f) (by omega), show f + (n - f) = n by omega] at a
    cases c : T.testBit n
    · rw [c] at a; simp at a
    · rfl
  · have a := hb _ c3
    rw [c1] at a
    cases c : T.testBit (f + Lib.ctz 64 x)
    · rfl
    · rw [c] at a; simp at a

theorem runE_eq {S hi : Nat} : ∀ (r f e : Nat), f ≤ e → e ≤ hi → hi - f ≤ r → (∀ n, f < n → n ≤ e → S.testBit n = true) → (e < hi → S.testBit (e + 1) = false) → runE S hi r f = e
  | 0, f, e, h1, h2, h3, _, _ => by simp only [runE]; omega
  | r + 1, f, e, h1, h2, h3, h4, h5 => by
    simp only [runE]
    by_cases g : f = e
    · subst g
      rw [if_neg (fun ⟨a, b⟩ => by rw [h5 a] at b; simp at b)]
    · rw [if_pos ⟨by omega, h4 (f + 1) (by omega) (by omega)⟩]
      exact runE_eq r (f + 1) e (by omega) h2 (by omega) (fun n a b => h4 n (by omega) b) h5
/-- Numbers that are not in the set are passed over. -/
theorem ftx_skip {S hi : Nat} {out : List Int} : ∀ (d r k : Nat), k + d ≤ hi + 1 → (∀ n, k ≤ n → n < k + d → S.testBit n = false) → ftx S hi (r + d) k out = ftx S hi r (k + d) out
  | 0, r, k, _, _ => rfl
  | d + 1, r, k, h1, h2 => by
    rw [show r + (d + 1) = (r + d) + 1 by omega, ftx, if_neg (by omega), if_pos (h2 k (Nat.le_refl _) (by omega)), ftx_skip d r (k + 1) (by omega) (fun n a b => h2 n (by omega) (by omega))]
    congr 1
    omega
/-- What is left of a set: its numbers from k on. -/
def lft (S k T : Nat) : Prop := ∀ n, T.testBit n = (S.testBit n && decide (k ≤ n))
theorem lft_zero {S lo hi : Nat} (h : inF S lo hi) : lft S lo S := by
  intro n
  cases c : S.testBit n
  · rfl
  · have := h n c; simp; omega
theorem lft_lt {S k T : Nat} (h : lft S k T) (hS : S < 2 ^ 60) : T < 2 ^ 60 := by
  refine Nat.lt_pow_two_of_testBit T fun i hi => ?_
  rw [h i, Nat.testBit_lt_two_pow (Nat.lt_of_lt_of_le hS (Nat.pow_le_pow_right (by omega) hi)), Bool.false_and]
/-- One run of the program is one of the model's rounds. -/
theorem ftx_run {S lo hi k T f e : Nat} {out : List Int} (hS : inF S lo hi) (h9 : hi ≤ 59) (hk : lft S k T) (r : Nat) (hr : hi + 1 - k < r) (hkh : k ≤ hi + 1)
    (f1 : T.testBit f = true) (f2 : ∀ n, n < f → T.testBit n = false) (fe : f ≤ e) (e1 : ∀ n, f ≤ n → n ≤ e → T.testBit n = true) (e2 : T.testBit (e + 1) = false) :
    k ≤ f ∧ e ≤ hi ∧ ∃ r', ftx S hi r k out = ftx S hi r' (e + 1) (joinT out (spanT f e)) ∧ hi + 1 - (e + 1) < r' := by
  have a1 := hk f
  rw [f1] at a1
  simp only [Bool.true_eq, Bool.and_eq_true, decide_eq_true_eq] at a1
  have a2 := hS f a1.1
  have b1 := hk e
  rw [e1 e fe (Nat.le_refl _)] at b1
  simp only [Bool.true_eq, Bool.and_eq_true, decide_eq_true_eq] at b1
  have b2 := hS e b1.1
  obtain ⟨r0, rfl⟩ : ∃ r0, r = r0 + 1 + (f - k) := ⟨r - 1 - (f - k), by omega⟩
  refine ⟨a1.2, b2.2, r0, ?_, by omega⟩
  rw [ftx_skip (f - k) (r0 + 1) k (by omega) (fun n h1 h2 => by
    have := hk n
    rw [f2 n (by omega), decide_eq_true h1, Bool.and_true] at this
    exact this.symm), show k + (f - k) = f by omega, ftx, if_neg (by omega), if_neg (by rw [a1.1]; simp)]
  rw [runE_eq (S := S) (hi - f) f e fe b2.2 (Nat.le_refl _) (fun n h1 h2 => by
    have := hk n
    rw [e1 n (by omega) h2] at this
    simp only [Bool.true_eq, Bool.and_eq_true] at this
    exact this.1) (fun _ => by
    have := hk (e + 1)
    rw [e2, decide_eq_true (show k ≤ e + 1 by omega), Bool.and_true] at this
    exact this.symm)]
/-- Nothing is left. -/
theorem ftx_end {S hi k : Nat} {out : List Int} (hk : lft S k 0) (r : Nat) (hr : hi + 1 - k < r) (hkh : k ≤ hi + 1) : ftx S hi r k out = out := by
  obtain ⟨r0, rfl⟩ : ∃ r0, r = r0 + 1 + (hi + 1 - k) := ⟨r - 1 - (hi + 1 - k), by omega⟩
  rw [ftx_skip (hi + 1 - k) (r0 + 1) k (by omega) (fun n h1 h2 => by
    have := hk n
    rw [Nat.zero_testBit, decide_eq_true h1, Bool.and_true] at this
    exact this.symm), ftx, if_pos (by omega)]

/-- Parts, each behind a comma but the first. -/
def jnT (ws : List (List Int)) : List Int := ws.foldl joinT []
theorem jnT_add (ws : List (List Int)) (t : List Int) : jnT (ws ++ [t]) = joinT (jnT ws) t := by unfold jnT; rw [List.foldl_append]; rfl
theorem foldl_joinT : ∀ (ws : List (List Int)) (a : List Int), a ≠ [] → (∀ x ∈ ws, x ≠ []) → ws.foldl joinT a = a ++ (ws.map (44 :: ·)).flatten
  | [], a, _, _ => by simp
  | b :: t, a, ha, h => by
    have e : joinT a b = a ++ 44 :: b := by unfold joinT; rw [if_neg ha]
    rw [List.foldl_cons, e, foldl_joinT t _ (by simp) (fun x hx => h x (by simp [hx]))]
    simp

/-- A number of one or two digits, and nothing else. -/
def num1 (xs : List Int) : Option Nat := match n2 xs with
  | some (n, []) => some n
  | _ => none
theorem n2_map (xs : List Int) (c : Int) (hc : dig c = false) (ys : List Int) : n2 (xs ++ c :: ys) = (n2 xs).map fun p => (p.1, p.2 ++ c :: ys) := by
  cases e : n2 xs with
  | some p => exact n2_app (n := p.1) (r := p.2) e c hc ys
  | none =>
    match xs, e with
    | [], _ => cases ys <;> simp [n2, hc]
    | [x], e =>
      have hx : dig x = false := by
        cases h : dig x
        · rfl
        · simp [n2, h] at e
      simp [n2, hx]
    | x :: y :: t, e =>
      have hx : dig x = false := by
        cases h : dig x
        · rfl
        · cases g : dig y <;> simp [n2, h, g] at e
      simp [n2, hx]
theorem segP_map {lo hi : Nat} (xs : List Int) (c : Int) (hc : dig c = false) (h2 : c ≠ 42) (h5 : c ≠ 45) (ys : List Int) : segP lo hi (xs ++ c :: ys) = (segP lo hi xs).map fun p => (p.1, p.2.1, p.2.2.1, p.2.2.2 ++ c :: ys) := by
  unfold segP
  cases xs with
  | nil =>
    rw [List.nil_append, if_neg (by simpa using h2), if_neg (by simp)]
    have e := n2_map [] c hc ys
    rw [List.nil_append] at e
    rw [e]
    rfl
  | cons x t =>
    by_cases g : x = 42
    · subst g
      simp
    · have g1 : ¬ (some x = some (42 : Int)) := by simpa using g
      rw [List.cons_append, List.head?_cons, List.head?_cons, if_neg g1, if_neg g1, ← List.cons_append, n2_map (x :: t) c hc ys]
      cases e : n2 (x :: t) with
      | none => rfl
      | some p =>
        obtain ⟨n, r⟩ := p
        simp only [Option.map_some]
        by_cases b : lo ≤ n ∧ n ≤ hi
        · rw [if_pos b, if_pos b]
          cases r with
          | nil =>
            rw [List.nil_append, List.head?_cons, if_neg (by simpa using h5), if_neg (by simp)]
            rfl
          | cons y u =>
            by_cases d : y = 45
            · subst d
              simp only [List.cons_append, List.head?_cons, if_true, List.tail_cons]
              rw [n2_map u c hc ys]
              cases e2 : n2 u with
              | none => rfl
              | some q =>
                obtain ⟨m, q⟩ := q
                simp only [Option.map_some]
                by_cases l : n ≤ m ∧ m ≤ hi
                · rw [if_pos l, if_pos l]; rfl
                · rw [if_neg l, if_neg l]; rfl
            · rw [List.cons_append, List.head?_cons, List.head?_cons, if_neg (by simpa using d), if_neg (by simpa using d)]
              rfl
        · rw [if_neg b, if_neg b]; rfl
/-- A part's numbers, without its step. -/
def rnP (lo hi : Nat) (stepped : Bool) (xs : List Int) : Option (Nat × Nat) :=
  if xs = [42] then some (lo, hi)
  else match num1 (cutC 45 xs).1 with
    | none => none
    | some n =>
      if lo ≤ n ∧ n ≤ hi then
        if (cutC 45 xs).2.2 then
          match num1 (cutC 45 xs).2.1 with
          | none => none
          | some m => if n ≤ m ∧ m ≤ hi then some (n, m) else none
        else some (n, if stepped then hi else n)
      else none
theorem dig45' : dig 45 = false := by decide
theorem dig47 : dig 47 = false := by decide
theorem segP_run {lo hi : Nat} (xs : List Int) (stepped : Bool) : rnP lo hi stepped xs = match segP lo hi xs with
    | some (f, t, one, []) => some (f, if one && stepped then hi else t)
    | _ => none := by
  unfold rnP
  by_cases s : xs = [42]
  · subst s
    rw [if_pos rfl]
    simp [segP]
  rw [if_neg s]
  unfold segP
  cases xs with
  | nil => simp [cutC, num1, n2]
  | cons x t =>
    by_cases g : x = 42
    · subst g
      have ht : t ≠ [] := fun e => s (by rw [e])
      have e1 : num1 (cutC 45 (42 :: t)).1 = none := by
        rw [cutC, if_neg (by decide)]
        unfold num1
        have : dig 42 = false := by decide
        cases h : (cutC 45 t).1 <;> simp [n2, this]
      rw [e1, List.head?_cons, if_pos rfl, List.tail_cons]
      cases t with
      | nil => exact absurd rfl ht
      | cons y u => rfl
    · rw [List.head?_cons, if_neg (by simpa using g)]
      rcases cut_or 45 (x :: t) with h | ⟨a, b, h, hn⟩
      · rw [cutC_none h]
        simp only
        unfold num1
        cases e : n2 (x :: t) with
        | none => rfl
        | some p =>
          obtain ⟨n, r⟩ := p
          have hr : r.head? ≠ some 45 := by
            intro hh
            have : (45 : Int) ∈ x :: t := by
              have key : ∀ (ys : List Int) (n : Nat) (r : List Int), n2 ys = some (n, r) → ∀ z ∈ r, z ∈ ys := by
                intro ys n r h z hz
                match ys, h with
                | [y], h =>
                  simp only [n2] at h
                  split at h <;> simp at h
                  obtain ⟨rfl, rfl⟩ := h
                  simp at hz
                | y :: y' :: u, h =>
                  simp only [n2] at h
                  split at h
                  · split at h <;> simp at h <;> obtain ⟨rfl, rfl⟩ := h
                    · simp [hz]
                    · rcases List.mem_cons.1 hz with rfl | hz
                      · simp
                      · simp [hz]
                  · simp at h
                | [], h => simp [n2] at h
              refine key _ _ _ e 45 ?_
              cases r with
              | nil => simp at hh
              | cons y u => simp at hh; simp [hh]
            exact h this
          cases r with
          | nil =>
            simp only
            by_cases b : lo ≤ n ∧ n ≤ hi
            · rw [if_pos b, if_pos b]; simp
            · rw [if_neg b, if_neg b]
          | cons y u =>
            simp only
            by_cases b : lo ≤ n ∧ n ≤ hi
            · rw [if_pos b, if_neg hr]
            · rw [if_neg b]
      · rw [h, cutC_at b hn]
        simp only
        have e := n2_map a 45 dig45' b
        rw [e]
        unfold num1
        cases e1 : n2 a with
        | none => rfl
        | some p =>
          obtain ⟨n, r⟩ := p
          simp only [Option.map_some]
          have ra : r.head? ≠ some 45 := by
            intro hh
            have key : ∀ (ys : List Int) (n : Nat) (r : List Int), n2 ys = some (n, r) → ∀ z ∈ r, z ∈ ys := by
              intro ys n r h z hz
              match ys, h with
              | [y], h =>
                simp only [n2] at h
                split at h <;> simp at h
                obtain ⟨rfl, rfl⟩ := h
                simp at hz
              | y :: y' :: u, h =>
                simp only [n2] at h
                split at h
                · split at h <;> simp at h <;> obtain ⟨rfl, rfl⟩ := h
                  · simp [hz]
                  · rcases List.mem_cons.1 hz with rfl | hz
                    · simp
                    · simp [hz]
                · simp at h
              | [], h => simp [n2] at h
            refine hn (key _ _ _ e1 45 ?_)
            cases r with
            | nil => simp at hh
            | cons y u => simp at hh; simp [hh]
          cases r with
          | nil =>
            simp only [List.nil_append, List.head?_cons, if_true, List.tail_cons]
            by_cases c : lo ≤ n ∧ n ≤ hi
            · rw [if_pos c, if_pos c]
              cases e2 : n2 b with
              | none => rfl
              | some q =>
                obtain ⟨m, q⟩ := q
                cases q with
                | nil =>
                  simp only
                  by_cases l : n ≤ m ∧ m ≤ hi
                  · rw [if_pos l, if_pos l]; simp
                  · rw [if_neg l, if_neg l]
                | cons y u =>
                  simp only
                  by_cases l : n ≤ m ∧ m ≤ hi
                  · rw [if_pos l]
                  · rw [if_neg l]
            · rw [if_neg c, if_neg c]
          | cons y u =>
            have hy : ¬ y = 45 := fun g => ra (by rw [g]; rfl)
            by_cases c : lo ≤ n ∧ n ≤ hi
            · simp [c, hy]
            · simp [c]
/-- A part, whole: its first number, its last one, and its step. -/
def prP (lo hi : Nat) (xs : List Int) : Option (Nat × Nat × Nat) :=
  match rnP lo hi (cutC 47 xs).2.2 (cutC 47 xs).1 with
  | none => none
  | some (f, t) =>
    if (cutC 47 xs).2.2 then
      match num1 (cutC 47 xs).2.1 with
      | none => none
      | some s => if 1 ≤ s ∧ s ≤ 59 then some (f, t, s) else none
    else some (f, t, 1)
theorem segP_mem {lo hi : Nat} {xs : List Int} {p : Nat × Nat × Bool × List Int} (h : segP lo hi xs = some p) : ∀ z ∈ p.2.2.2, z ∈ xs := by
  have key : ∀ (ys : List Int) (n : Nat) (r : List Int), n2 ys = some (n, r) → ∀ z ∈ r, z ∈ ys := by
    intro ys n r h z hz
    match ys, h with
    | [y], h =>
      simp only [n2] at h
      split at h <;> simp at h
      obtain ⟨rfl, rfl⟩ := h
      simp at hz
    | y :: y' :: u, h =>
      simp only [n2] at h
      split at h
      · split at h <;> simp at h <;> obtain ⟨rfl, rfl⟩ := h
        · simp [hz]
        · rcases List.mem_cons.1 hz with rfl | hz
          · simp
          · simp [hz]
      · simp at h
    | [], h => simp [n2] at h
  intro z hz
  unfold segP at h
  split at h
  · simp at h; subst h
    exact List.mem_of_mem_tail hz
  · split at h
    · simp at h
    · rename_i n r e
      split at h
      · split at h
        · split at h
          · simp at h
          · rename_i m q e2
            split at h
            · simp at h; subst h
              exact key _ _ _ e z (List.mem_of_mem_tail (key _ _ _ e2 z hz))
            · simp at h
        · simp at h; subst h
          exact key _ _ _ e z hz
      · simp at h
theorem prP_pt {lo hi : Nat} (xs : List Int) : prP lo hi xs = match pt lo hi xs with
    | some (f, t, s, []) => some (f, t, s)
    | _ => none := by
  unfold prP pt
  rcases cut_or 47 xs with h | ⟨a, b, rfl, hn⟩
  · rw [cutC_none h]
    simp only [segP_run, Bool.and_false, Bool.false_eq_true, if_false]
    cases e : segP lo hi xs with
    | none => rfl
    | some p =>
      obtain ⟨f, t, one, r⟩ := p
      have hm := segP_mem e
      cases r with
      | nil => simp [stepP]
      | cons y u =>
        have hy : y ≠ 47 := fun g => h (hm 47 (by simp [g]))
        simp [stepP, hy]
  · rw [cutC_at b hn]
    simp only [segP_run, Bool.and_true, if_true]
    rw [segP_map a 47 dig47 (by decide) (by decide) b]
    cases e : segP lo hi a with
    | none => rfl
    | some p =>
      obtain ⟨f, t, one, r⟩ := p
      have hm := segP_mem e
      simp only [Option.map_some]
      cases r with
      | nil =>
        unfold stepP num1
        simp only [List.nil_append, List.head?_cons, if_true, List.tail_cons]
        cases e2 : n2 b with
        | none => rfl
        | some q =>
          obtain ⟨s, q⟩ := q
          cases q with
          | nil =>
            simp only
            by_cases c : 1 ≤ s ∧ s ≤ 59
            · rw [if_pos c, if_pos c]
            · rw [if_neg c, if_neg c]
          | cons y u =>
            simp only
            by_cases c : 1 ≤ s ∧ s ≤ 59
            · rw [if_pos c]
            · rw [if_neg c]
      | cons y u =>
        have hy : y ≠ 47 := fun g => hn (hm 47 (by simp [g]))
        simp [stepP, hy]

/-- The pieces between commas are read one after another. -/
def rdL (lo hi : Nat) : List (List Int) → Nat → Option Nat
  | [], S => some S
  | p :: ps, S => match prP lo hi p with
    | none => none
    | some (f, t, s) => rdL lo hi ps (addR S f s ((t - f) / s + 1))
theorem pt_map {lo hi : Nat} (xs ys : List Int) : pt lo hi (xs ++ 44 :: ys) = (pt lo hi xs).map fun p => (p.1, p.2.1, p.2.2.1, p.2.2.2 ++ 44 :: ys) := by
  cases e : pt lo hi xs with
  | some p => exact pt_app e ys
  | none =>
    unfold pt at e ⊢
    rw [segP_map xs 44 dig44 (by decide) (by decide) ys]
    cases e1 : segP lo hi xs with
    | none => rfl
    | some q =>
      obtain ⟨f, t, one, r⟩ := q
      rw [e1] at e
      simp only [Option.map_some] at e ⊢
      unfold stepP at e ⊢
      cases r with
      | nil => simp at e
      | cons y u =>
        by_cases d : y = 47
        · subst d
          simp only [List.cons_append, List.head?_cons, if_true, List.tail_cons] at e ⊢
          rw [n2_map u 44 dig44 ys]
          cases e2 : n2 u with
          | none => rfl
          | some p =>
            obtain ⟨s, r⟩ := p
            rw [e2] at e
            simp only [Option.map_some] at e ⊢
            by_cases c : 1 ≤ s ∧ s ≤ 59
            · rw [if_pos c] at e; simp at e
            · rw [if_neg c]; rfl
        · simp [d] at e
theorem pt_mem {lo hi : Nat} {xs : List Int} {p : Nat × Nat × Nat × List Int} (h : pt lo hi xs = some p) : ∀ z ∈ p.2.2.2, z ∈ xs := by
  have key : ∀ (ys : List Int) (n : Nat) (r : List Int), n2 ys = some (n, r) → ∀ z ∈ r, z ∈ ys := by
    intro ys n r h z hz
    match ys, h with
    | [y], h =>
      simp only [n2] at h
      split at h <;> simp at h
      obtain ⟨rfl, rfl⟩ := h
      simp at hz
    | y :: y' :: u, h =>
      simp only [n2] at h
      split at h
      · split at h <;> simp at h <;> obtain ⟨rfl, rfl⟩ := h
        · simp [hz]
        · rcases List.mem_cons.1 hz with rfl | hz
          · simp
          · simp [hz]
      · simp at h
    | [], h => simp [n2] at h
  intro z hz
  unfold pt at h
  cases e : segP lo hi xs with
  | none => rw [e] at h; simp at h
  | some q =>
    obtain ⟨f, t, one, r⟩ := q
    rw [e] at h
    have hm := segP_mem e
    simp only at h hm
    unfold stepP at h
    split at h
    · split at h
      · simp at h
      · rename_i s q e2
        split at h
        · simp at h; subst h
          exact hm z (List.mem_of_mem_tail (key _ _ _ e2 z hz))
        · simp at h
    · simp at h; subst h
      exact hm z hz
theorem rd_pieces {lo hi : Nat} : ∀ (N : Nat) (xs : List Int), xs.length ≤ N → ∀ S : Nat, rd lo hi xs S = rdL lo hi (splC 44 xs) S
  | N, xs, hN, S => by
    rcases cut_or 44 xs with h | ⟨a, b, rfl, hn⟩
    · rw [splC_none h, rd_eq]
      simp only [rdL, prP_pt]
      cases e : pt lo hi xs with
      | none => rfl
      | some p =>
        obtain ⟨f, t, s, r⟩ := p
        have hm := pt_mem e
        cases r with
        | nil => simp
        | cons y u =>
          have hy : y ≠ 44 := fun g => h (hm 44 (by simp [g]))
          simp [hy]
    · rw [splC_cons b hn, rd_eq, pt_map]
      simp only [rdL, prP_pt]
      cases e : pt lo hi a with
      | none => rfl
      | some p =>
        obtain ⟨f, t, s, r⟩ := p
        have hm := pt_mem e
        simp only [Option.map_some]
        cases r with
        | nil =>
          simp only [List.nil_append, List.head?_cons, if_true, List.tail_cons]
          rw [if_neg (by simp)]
          match N with
          | 0 => simp at hN
          | N + 1 => exact rd_pieces N b (by simp at hN; omega) _
        | cons y u =>
          have hy : y ≠ 44 := fun g => hn (hm 44 (by simp [g]))
          simp [hy]
end Go.Proofs.YtlpodfachgnkhaaDoor.Cal
