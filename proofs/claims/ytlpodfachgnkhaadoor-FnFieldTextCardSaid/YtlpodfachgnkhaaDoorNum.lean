/-
  MATHEMATICS OF THE PROGRAM'S DIGITS: any bytes read as a number, and digits put one after another from the end.
-/
import Derived.Test.YtlpodfachgnkhaaDoorText
set_option linter.unusedVariables false
set_option linter.unusedSimpArgs false
namespace Go.Proofs.YtlpodfachgnkhaaDoor.Cal
open Go

/-- The number of any bytes, n ahead of them. -/
def nin : List Int → Int → Int
  | [], n => n
  | x :: t, n => nin t (10 * n + (x - 48) % 256)
theorem nin_dgl : ∀ (r : Nat) (xs : List Int) (n : Int), 0 ≤ n → 0 ≤ dgl xs r n → nin (xs.take r) n = dgl xs r n
  | 0, xs, n, h, _ => by simp [dgl, nin]
  | r + 1, [], n, h, g => by simp [dgl] at g
  | r + 1, x :: t, n, h, g => by
    simp only [dgl] at g ⊢
    by_cases c : 48 ≤ x ∧ x ≤ 57
    · rw [if_pos c] at g ⊢
      rw [List.take_succ_cons]
      simp only [nin]
      rw [show (x - 48) % 256 = x - 48 by omega]
      exact nin_dgl r t _ (by omega) g
    · rw [if_neg c] at g
      omega
theorem nin_bd : ∀ (xs : List Int) (n : Int), 0 ≤ n → 0 ≤ nin xs n ∧ nin xs n ≤ (n + 29) * 10 ^ xs.length
  | [], n, h => by simp [nin]; omega
  | x :: t, n, h => by
    simp only [nin]
    obtain ⟨a, b⟩ := nin_bd t (10 * n + (x - 48) % 256) (by omega)
    refine ⟨a, Int.le_trans b ?_⟩
    rw [List.length_cons, Int.pow_succ, Int.mul_comm (10 ^ t.length) 10, ← Int.mul_assoc]
    exact Int.mul_le_mul_of_nonneg_right (by omega) (Int.pow_nonneg (by omega))
theorem nms_ext (t : ByteArray) (a b : Nat) : nms (t.extract a b) = ((nms t).drop a).take (b - a) := by
  unfold nms
  rw [ByteArray.data_extract, Array.toList_extract, List.extract_eq_take_drop, List.map_take, List.map_drop]

/-- The program's numbers of a text. -/
def pN (t : ByteArray) (a b : Nat) : Int := nin (nms (t.extract a b)) 0
theorem pN_dgl {t : ByteArray} {a b : Nat} (h : 0 ≤ dgl ((nms t).drop a) (b - a) 0) : pN t a b = dgl ((nms t).drop a) (b - a) 0 := by
  unfold pN
  rw [nms_ext]
  exact nin_dgl _ _ _ (by omega) h
theorem pN_bd (t : ByteArray) {a b : Nat} (h : b ≤ a + 4) : 0 ≤ pN t a b ∧ pN t a b ≤ 290000 := by
  unfold pN
  obtain ⟨x, y⟩ := nin_bd (nms (t.extract a b)) 0 (by omega)
  refine ⟨x, Int.le_trans y ?_⟩
  rw [nms_ext]
  have : (List.take (b - a) (List.drop a (nms t))).length ≤ 4 := by rw [List.length_take]; omega
  generalize (List.take (b - a) (List.drop a (nms t))).length = k at this
  have : k = 0 ∨ k = 1 ∨ k = 2 ∨ k = 3 ∨ k = 4 := by omega
  rcases this with rfl | rfl | rfl | rfl | rfl <;> decide

/-- What the program reads is a stamp's text if and only if what the model reads is one, and then they are the same. -/
theorem st_same {t : ByteArray} (hs : t.size = 19) :
    (stStr (pN t 0 4) (pN t 5 7) (pN t 8 10) (pN t 11 13) (pN t 14 16) (pN t 17 19) = t ∧ rOk t = true ∧ pN t 0 4 = rY t ∧ pN t 5 7 = rO t ∧ pN t 8 10 = rD t ∧ pN t 11 13 = rH t ∧ pN t 14 16 = rI t ∧ pN t 17 19 = rS t) ∨
    (¬ stStr (pN t 0 4) (pN t 5 7) (pN t 8 10) (pN t 11 13) (pN t 14 16) (pN t 17 19) = t ∧ rOk t = false) := by
  by_cases c : stStr (pN t 0 4) (pN t 5 7) (pN t 8 10) (pN t 11 13) (pN t 14 16) (pN t 17 19) = t
  · refine .inl ⟨c, ?_⟩
    generalize pN t 0 4 = y at *
    generalize pN t 5 7 = m at *
    generalize pN t 8 10 = d at *
    generalize pN t 11 13 = h at *
    generalize pN t 14 16 = i at *
    generalize pN t 17 19 = s at *
    have v : svB y m d h i s = true := by
      cases e : svB y m d h i s
      · rw [stStr_no e] at c
        rw [← c] at hs
        simp [strOfNums_size] at hs
      · rfl
    have a := read_ok v
    have b := read_st v
    rw [c] at a b
    exact ⟨a, b.1.symm, b.2.1.symm, b.2.2.1.symm, b.2.2.2.1.symm, b.2.2.2.2.1.symm, b.2.2.2.2.2.symm⟩
  · refine .inr ⟨c, ?_⟩
    cases k : rOk t
    · rfl
    · exfalso
      obtain ⟨v, e⟩ := rOk_yes k
      obtain ⟨v1, h0, h9, i0, i9, s0, s9⟩ := sv_yes v
      obtain ⟨⟨y1, y9⟩, ⟨m1, m9⟩, d1, d9⟩ := dayOf_ok v1
      have e1 : pN t 0 4 = rY t := pN_dgl (a := 0) (b := 4) (by show 0 ≤ rY t; omega)
      have e2 : pN t 5 7 = rO t := pN_dgl (a := 5) (b := 7) (by show 0 ≤ rO t; omega)
      have e3 : pN t 8 10 = rD t := pN_dgl (a := 8) (b := 10) (by show 0 ≤ rD t; omega)
      have e4 : pN t 11 13 = rH t := pN_dgl (a := 11) (b := 13) (by show 0 ≤ rH t; omega)
      have e5 : pN t 14 16 = rI t := pN_dgl (a := 14) (b := 16) (by show 0 ≤ rI t; omega)
      have e6 : pN t 17 19 = rS t := pN_dgl (a := 17) (b := 19) (by show 0 ≤ rS t; omega)
      rw [e1, e2, e3, e4, e5, e6] at c
      exact c e

/-- The program's number of an offset's text of six bytes. -/
def pQ (t : ByteArray) : Int := if (nms t).head? = some 45 then -(pN t 1 3 * 60 + pN t 4 6) else pN t 1 3 * 60 + pN t 4 6
theorem pQ_of {n : Int} (c : ofIn n = true) (z : n ≠ 0) : pQ (ofStr n) = n := by
  have cc : -720 ≤ n ∧ n ≤ 960 := of_decide_eq_true c
  have e := ofStr_nms c
  have q : ∀ (a b : Nat) (x : Int), 0 ≤ x → dgl ((ofTxt n).drop a) (b - a) 0 = x → pN (ofStr n) a b = x := fun a b x hx hd => by
    rw [← hd, ← e]
    exact pN_dgl (by rw [e, hd]; exact hx)
  unfold pQ
  rw [e]
  by_cases g : n < 0
  · have z2 : ofTxt n = 45 :: (d2 (-n / 60) ++ (58 :: d2 (-n % 60))) := by unfold ofTxt; rw [if_neg z, if_pos g]
    have q1 : dgl ((45 :: (d2 (-n / 60) ++ (58 :: d2 (-n % 60)))).drop 1) 2 0 = -n / 60 := (dgl2 (a := -n / 60 / 10 % 10) (b := -n / 60 % 10) (by omega) (by omega) _).trans (by omega)
    have q2 : dgl ((45 :: (d2 (-n / 60) ++ (58 :: d2 (-n % 60)))).drop 4) 2 0 = -n % 60 := (dgl2 (a := -n % 60 / 10 % 10) (b := -n % 60 % 10) (by omega) (by omega) _).trans (by omega)
    rw [q 1 3 (-n / 60) (by omega) (by rw [z2]; exact q1), q 4 6 (-n % 60) (by omega) (by rw [z2]; exact q2), z2, List.head?_cons, if_pos rfl]
    omega
  · have z2 : ofTxt n = 43 :: (d2 (n / 60) ++ (58 :: d2 (n % 60))) := by unfold ofTxt; rw [if_neg z, if_neg g]
    have q1 : dgl ((43 :: (d2 (n / 60) ++ (58 :: d2 (n % 60)))).drop 1) 2 0 = n / 60 := (dgl2 (a := n / 60 / 10 % 10) (b := n / 60 % 10) (by omega) (by omega) _).trans (by omega)
    have q2 : dgl ((43 :: (d2 (n / 60) ++ (58 :: d2 (n % 60)))).drop 4) 2 0 = n % 60 := (dgl2 (a := n % 60 / 10 % 10) (b := n % 60 % 10) (by omega) (by omega) _).trans (by omega)
    rw [q 1 3 (n / 60) (by omega) (by rw [z2]; exact q1), q 4 6 (n % 60) (by omega) (by rw [z2]; exact q2), z2, if_neg (by simp)]
    omega
theorem q_zed : qV (strOfNums [90]) = 0 ∧ qOk (strOfNums [90]) = true := by
  have c : ofIn 0 = true := rfl
  have e : ofStr 0 = strOfNums [90] := rfl
  have := read_of c
  rwa [e] at this
theorem q_short {t : ByteArray} (h1 : ¬ t = strOfNums [90]) (h6 : t.size ≠ 6) : qOk t = false := by
  cases k : qOk t
  · rfl
  · exfalso
    obtain ⟨_, e, i⟩ := qOk_yes k
    rcases of_len i with ⟨_, a, _⟩ | ⟨_, a⟩
    · exact h1 (e.symm.trans a)
    · rw [e] at a; exact h6 a
theorem of_same {t : ByteArray} (h6 : t.size = 6) : (ofStr (pQ t) = t ∧ qOk t = true ∧ qV t = pQ t) ∨ (¬ ofStr (pQ t) = t ∧ qOk t = false) := by
  by_cases c : ofStr (pQ t) = t
  · refine .inl ⟨c, ?_⟩
    generalize pQ t = n at *
    have i : ofIn n = true := by
      cases e : ofIn n
      · rw [ofStr_no e] at c
        rw [← c] at h6
        simp [strOfNums_size] at h6
      · rfl
    have := read_of i
    rw [c] at this
    exact ⟨this.2, this.1⟩
  · refine .inr ⟨c, ?_⟩
    cases k : qOk t
    · rfl
    · exfalso
      obtain ⟨_, e, i⟩ := qOk_yes k
      rcases of_len i with ⟨_, _, a⟩ | ⟨z, _⟩
      · rw [e] at a; omega
      · have := pQ_of i z
        rw [e] at this
        rw [this] at c
        exact c e
end Go.Proofs.YtlpodfachgnkhaaDoor.Cal
