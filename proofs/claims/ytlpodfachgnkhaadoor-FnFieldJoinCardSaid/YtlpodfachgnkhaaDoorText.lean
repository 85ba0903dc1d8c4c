/-
  PLAIN MATHEMATICS OF TEXTS: digits, the texts of stamps and of offsets, and how they are read.
-/
import Derived.Test.YtlpodfachgnkhaaDoorMom
import Derived.Laws.BytesArg
import Derived.Laws.Strings
set_option linter.unusedVariables false
set_option linter.unusedSimpArgs false
namespace Go.Proofs.YtlpodfachgnkhaaDoor.Cal
open Go

/-- Two digits. -/
def d2 (n : Int) : List Int := [48 + n / 10 % 10, 48 + n % 10]
/-- The bytes of a text as numbers. -/
def nms (s : ByteArray) : List Int := s.data.toList.map fun b => (b.toNat : Int)
/-- The number of r digits at the beginning, n ahead of them; -1 if there are none. -/
def dgl : List Int → Nat → Int → Int
  | _, 0, n => n
  | [], _ + 1, _ => -1
  | x :: t, r + 1, n => if 48 ≤ x ∧ x ≤ 57 then dgl t r (10 * n + (x - 48)) else -1

theorem nms_of {xs : List Int} (h : ∀ x ∈ xs, 0 ≤ x ∧ x < 256) : nms (strOfNums xs) = xs := by
  unfold nms
  rw [strOfNums_data, List.map_map]
  have key : xs.map ((fun b : UInt8 => (b.toNat : Int)) ∘ fun n => UInt8.ofNat n.toNat) = xs.map id := by
    refine List.map_congr_left fun x hx => ?_
    have := h x hx
    show ((UInt8.ofNat x.toNat).toNat : Int) = x
    rw [UInt8.toNat_ofNat']
    omega
  rw [key, List.map_id]
theorem nms_size (s : ByteArray) : (nms s).length = s.size := by unfold nms; rw [List.length_map]; rfl
theorem str_nms (s : ByteArray) : strOfNums (nms s) = s := by
  have : (nms s).map (fun n => UInt8.ofNat n.toNat) = s.data.toList := by
    unfold nms
    rw [List.map_map]
    have : s.data.toList.map ((fun n : Int => UInt8.ofNat n.toNat) ∘ fun b : UInt8 => (b.toNat : Int)) = s.data.toList.map id := List.map_congr_left fun x hx => by
      show UInt8.ofNat (x.toNat : Int).toNat = x
      rw [Int.toNat_natCast]
      exact UInt8.ofNat_toNat
    rw [this, List.map_id]
  unfold strOfNums
  rw [this]
theorem nms_bd (s : ByteArray) : ∀ x ∈ nms s, 0 ≤ x ∧ x < 256 := by
  intro x hx
  unfold nms at hx
  obtain ⟨b, _, rfl⟩ := List.mem_map.1 hx
  have := b.toNat_lt
  omega
theorem nms_inj {s t : ByteArray} (h : nms s = nms t) : s = t := by rw [← str_nms s, ← str_nms t, h]
theorem str_app (xs ys : List Int) : strOfNums xs ++ strOfNums ys = strOfNums (xs ++ ys) := by
  apply ByteArray.ext
  simp [strOfNums]
theorem nms_app (s t : ByteArray) : nms (s ++ t) = nms s ++ nms t := by simp [nms]
theorem str_eq {xs ys : List Int} (hx : ∀ x ∈ xs, 0 ≤ x ∧ x < 256) (hy : ∀ x ∈ ys, 0 ≤ x ∧ x < 256) : strOfNums xs = strOfNums ys ↔ xs = ys :=
  ⟨fun h => by rw [← nms_of hx, ← nms_of hy, h], fun h => by rw [h]⟩

theorem nms_at {s : ByteArray} {k : Nat} (h : k < s.size) : (nms s).drop k = (s[k].toNat : Int) :: (nms s).drop (k + 1) := by
  rw [List.drop_eq_getElem_cons (by rw [nms_size]; exact h)]
  congr 1
  simp [nms]
  rfl
/-- Texts are compared byte by byte. -/
theorem lists_eq (a b : ByteArray) : (a.toList == b.toList) = decide (a = b) := by
  rw [Bool.eq_iff_iff, beq_iff_eq, decide_eq_true_eq, ByteArray.toList_eq, ByteArray.toList_eq]
  exact ⟨fun h => ByteArray.ext (Array.toList_inj.1 h), fun h => by rw [h]⟩

theorem dgl2 {a b : Int} (ha : 0 ≤ a ∧ a ≤ 9) (hb : 0 ≤ b ∧ b ≤ 9) (t : List Int) : dgl ((48 + a) :: (48 + b) :: t) 2 0 = 10 * a + b := by
  simp only [dgl]
  rw [if_pos (by omega), if_pos (by omega)]
  omega
theorem dgl4 {a b c d : Int} (ha : 0 ≤ a ∧ a ≤ 9) (hb : 0 ≤ b ∧ b ≤ 9) (hc : 0 ≤ c ∧ c ≤ 9) (hd : 0 ≤ d ∧ d ≤ 9) (t : List Int) : dgl ((48 + a) :: (48 + b) :: (48 + c) :: (48 + d) :: t) 4 0 = 1000 * a + 100 * b + 10 * c + d := by
  simp only [dgl]
  rw [if_pos (by omega), if_pos (by omega), if_pos (by omega), if_pos (by omega)]
  omega
theorem dgl_bd : ∀ (r : Nat) (xs : List Int) (n : Int), 0 ≤ n → -1 ≤ dgl xs r n ∧ dgl xs r n < (n + 1) * 10 ^ r
  | 0, xs, n, h => by simp [dgl]; omega
  | r + 1, [], n, h => by
    simp only [dgl]
    have : (0 : Int) ≤ (n + 1) * 10 ^ (r + 1) := Int.mul_nonneg (by omega) (Int.pow_nonneg (by omega))
    omega
  | r + 1, x :: t, n, h => by
    simp only [dgl]
    have p : (0 : Int) < 10 ^ r := Int.pow_pos (by omega)
    by_cases c : 48 ≤ x ∧ x ≤ 57
    · rw [if_pos c]
      obtain ⟨i1, i2⟩ := dgl_bd r t (10 * n + (x - 48)) (by omega)
      refine ⟨i1, Int.lt_of_lt_of_le i2 ?_⟩
      rw [Int.pow_succ, ← Int.mul_assoc, Int.mul_right_comm]
      exact Int.mul_le_mul_of_nonneg_right (by omega) (by omega)
    · rw [if_neg c]
      have : (0 : Int) ≤ (n + 1) * 10 ^ (r + 1) := Int.mul_nonneg (by omega) (Int.pow_nonneg (by omega))
      omega
theorem dgl2_bd (xs : List Int) : -1 ≤ dgl xs 2 0 ∧ dgl xs 2 0 ≤ 99 := by
  have := dgl_bd 2 xs 0 (by omega); omega
theorem dgl4_bd (xs : List Int) : -1 ≤ dgl xs 4 0 ∧ dgl xs 4 0 ≤ 9999 := by
  have := dgl_bd 4 xs 0 (by omega); omega

/-- The text of a stamp. -/
def stTxt (y m d h i s : Int) : List Int := d2 (y / 100) ++ (d2 (y % 100) ++ (45 :: (d2 m ++ (45 :: (d2 d ++ (84 :: (d2 h ++ (58 :: (d2 i ++ (58 :: d2 s))))))))))
def stStr (y m d h i s : Int) : ByteArray := if svB y m d h i s then strOfNums (stTxt y m d h i s) else strOfNums []
theorem stTxt_bd (y m d h i s : Int) : ∀ x ∈ stTxt y m d h i s, 0 ≤ x ∧ x < 256 := by
  intro x hx
  simp only [stTxt, d2, List.cons_append, List.nil_append, List.mem_cons, List.not_mem_nil, or_false] at hx
  omega
theorem stTxt_len (y m d h i s : Int) : (stTxt y m d h i s).length = 19 := rfl
theorem stStr_yes {y m d h i s : Int} (c : svB y m d h i s = true) : stStr y m d h i s = strOfNums (stTxt y m d h i s) := by unfold stStr; rw [if_pos c]
theorem stStr_no {y m d h i s : Int} (c : svB y m d h i s = false) : stStr y m d h i s = strOfNums [] := by unfold stStr; rw [c]; rfl
theorem stStr_nms {y m d h i s : Int} (c : svB y m d h i s = true) : nms (stStr y m d h i s) = stTxt y m d h i s := by
  rw [stStr_yes c, nms_of (stTxt_bd _ _ _ _ _ _)]

/-- The numbers of a text that may be a stamp's. -/
def rY (t : ByteArray) : Int := dgl (nms t) 4 0
def rO (t : ByteArray) : Int := dgl ((nms t).drop 5) 2 0
def rD (t : ByteArray) : Int := dgl ((nms t).drop 8) 2 0
def rH (t : ByteArray) : Int := dgl ((nms t).drop 11) 2 0
def rI (t : ByteArray) : Int := dgl ((nms t).drop 14) 2 0
def rS (t : ByteArray) : Int := dgl ((nms t).drop 17) 2 0
def rOk (t : ByteArray) : Bool := svB (rY t) (rO t) (rD t) (rH t) (rI t) (rS t) && decide (stStr (rY t) (rO t) (rD t) (rH t) (rI t) (rS t) = t)
def rV (t : ByteArray) (x : Int) : Int := if rOk t then x else 0
theorem rV_yes {t : ByteArray} (c : rOk t = true) (x : Int) : rV t x = x := by unfold rV; rw [if_pos c]
theorem rV_no {t : ByteArray} (c : rOk t = false) (x : Int) : rV t x = 0 := by unfold rV; rw [c]; rfl
theorem rOk_yes {t : ByteArray} (c : rOk t = true) : svB (rY t) (rO t) (rD t) (rH t) (rI t) (rS t) = true ∧ stStr (rY t) (rO t) (rD t) (rH t) (rI t) (rS t) = t := by
  unfold rOk at c
  simpa using c

theorem dayOf_ok {y m d : Int} (h : 0 ≤ dayOf y m d) : (1 ≤ y ∧ y ≤ 4000) ∧ (1 ≤ m ∧ m ≤ 12) ∧ 1 ≤ d ∧ d ≤ 31 := by
  have q := dayOf_is h
  obtain ⟨a, b, c, e, f, g⟩ := q
  have := len_bd y m
  omega

/-- A stamp's text tells its numbers. -/
theorem read_st {y m d h i s : Int} (c : svB y m d h i s = true) : rY (stStr y m d h i s) = y ∧ rO (stStr y m d h i s) = m ∧ rD (stStr y m d h i s) = d ∧ rH (stStr y m d h i s) = h ∧ rI (stStr y m d h i s) = i ∧ rS (stStr y m d h i s) = s := by
  obtain ⟨v, h0, h9, i0, i9, s0, s9⟩ := sv_yes c
  obtain ⟨⟨y1, y9⟩, ⟨m1, m9⟩, d1, d9⟩ := dayOf_ok v
  unfold rY rO rD rH rI rS
  rw [stStr_nms c]
  refine ⟨?_, ?_, ?_, ?_, ?_, ?_⟩
  · exact (dgl4 (by omega) (by omega) (by omega) (by omega) _).trans (by omega)
  · exact (dgl2 (a := m / 10 % 10) (b := m % 10) (by omega) (by omega) _).trans (by omega)
  · exact (dgl2 (a := d / 10 % 10) (b := d % 10) (by omega) (by omega) _).trans (by omega)
  · exact (dgl2 (a := h / 10 % 10) (b := h % 10) (by omega) (by omega) _).trans (by omega)
  · exact (dgl2 (a := i / 10 % 10) (b := i % 10) (by omega) (by omega) _).trans (by omega)
  · exact (dgl2 (a := s / 10 % 10) (b := s % 10) (by omega) (by omega) _).trans (by omega)
theorem read_ok {y m d h i s : Int} (c : svB y m d h i s = true) : rOk (stStr y m d h i s) = true := by
  obtain ⟨a, b, e, f, g, k⟩ := read_st c
  unfold rOk
  rw [a, b, e, f, g, k, c]
  simp
theorem read_len {t : ByteArray} (c : rOk t = true) : t.size = 19 := by
  obtain ⟨a, b⟩ := rOk_yes c
  rw [← nms_size, ← b, stStr_nms a, stTxt_len]
/-- With a byte more it is refused. -/
theorem read_more {t u : ByteArray} (c : rOk t = true) (hu : u.size = t.size + 1) : rOk u = false := by
  cases e : rOk u
  · rfl
  · have := read_len c; have := read_len e; omega
theorem read_empty : rOk (strOfNums []) = false := by
  cases e : rOk (strOfNums [])
  · rfl
  · have := read_len e
    rw [strOfNums_size] at this
    simp at this

/-- The text of an offset. -/
def ofIn (n : Int) : Bool := decide (-720 ≤ n ∧ n ≤ 960)
def ofTxt (n : Int) : List Int := if n = 0 then [90] else if n < 0 then 45 :: (d2 (-n / 60) ++ (58 :: d2 (-n % 60))) else 43 :: (d2 (n / 60) ++ (58 :: d2 (n % 60)))
def ofStr (n : Int) : ByteArray := if ofIn n then strOfNums (ofTxt n) else strOfNums []
theorem ofStr_yes {n : Int} (c : ofIn n = true) : ofStr n = strOfNums (ofTxt n) := by unfold ofStr; rw [if_pos c]
theorem ofStr_no {n : Int} (c : ofIn n = false) : ofStr n = strOfNums [] := by unfold ofStr; rw [c]; rfl
theorem ofTxt_bd (n : Int) : ∀ x ∈ ofTxt n, 0 ≤ x ∧ x < 256 := by
  intro x hx
  unfold ofTxt at hx
  split at hx
  · simp at hx; omega
  · split at hx <;> simp only [d2, List.cons_append, List.nil_append, List.mem_cons, List.not_mem_nil, or_false] at hx <;> omega
theorem ofStr_nms {n : Int} (c : ofIn n = true) : nms (ofStr n) = ofTxt n := by rw [ofStr_yes c, nms_of (ofTxt_bd n)]
/-- The number of a text that may be an offset's. -/
def qN (t : ByteArray) : Int := 60 * dgl ((nms t).drop 1) 2 0 + dgl ((nms t).drop 4) 2 0
def qZ (t : ByteArray) : Int := if t = strOfNums [90] then 0 else qN t
def qV (t : ByteArray) : Int := if (nms t).head? = some 45 then -qZ t else qZ t
def qOk (t : ByteArray) : Bool := decide (t ≠ strOfNums []) && decide (ofStr (qV t) = t)
theorem qN_bd (t : ByteArray) : -61 ≤ qN t ∧ qN t ≤ 6039 := by
  have := dgl2_bd ((nms t).drop 1)
  have := dgl2_bd ((nms t).drop 4)
  unfold qN
  omega
theorem read_of {n : Int} (c : ofIn n = true) : qV (ofStr n) = n ∧ qOk (ofStr n) = true := by
  have cc : -720 ≤ n ∧ n ≤ 960 := of_decide_eq_true c
  have e := ofStr_nms c
  have ne : ∀ xs : List Int, (∀ x ∈ xs, 0 ≤ x ∧ x < 256) → (ofStr n = strOfNums xs ↔ ofTxt n = xs) := fun xs hx => by
    rw [ofStr_yes c]; exact str_eq (ofTxt_bd n) hx
  have v : qV (ofStr n) = n := by
    unfold qV qZ qN
    rw [e]
    by_cases z : n = 0
    · have z1 : ofStr n = strOfNums [90] := (ne [90] (by simp)).2 (by unfold ofTxt; rw [if_pos z])
      have z2 : ofTxt n = [90] := by unfold ofTxt; rw [if_pos z]
      rw [if_pos z1, z2]
      simp [z]
    · have z1 : ¬ ofStr n = strOfNums [90] := fun h => by
        have := (ne [90] (by simp)).1 h
        unfold ofTxt at this
        rw [if_neg z] at this
        split at this <;> simp [d2] at this
      rw [if_neg z1]
      by_cases g : n < 0
      · have z2 : ofTxt n = 45 :: (d2 (-n / 60) ++ (58 :: d2 (-n % 60))) := by unfold ofTxt; rw [if_neg z, if_pos g]
        rw [z2, List.head?_cons, if_pos rfl]
        have q1 : dgl ((45 :: (d2 (-n / 60) ++ (58 :: d2 (-n % 60)))).drop 1) 2 0 = -n / 60 := (dgl2 (a := -n / 60 / 10 % 10) (b := -n / 60 % 10) (by omega) (by omega) _).trans (by omega)
        have q2 : dgl ((45 :: (d2 (-n / 60) ++ (58 :: d2 (-n % 60)))).drop 4) 2 0 = -n % 60 := (dgl2 (a := -n % 60 / 10 % 10) (b := -n % 60 % 10) (by omega) (by omega) _).trans (by omega)
        rw [q1, q2]
        omega
      · have z2 : ofTxt n = 43 :: (d2 (n / 60) ++ (58 :: d2 (n % 60))) := by unfold ofTxt; rw [if_neg z, if_neg g]
        rw [z2, if_neg (by simp)]
        have q1 : dgl ((43 :: (d2 (n / 60) ++ (58 :: d2 (n % 60)))).drop 1) 2 0 = n / 60 := (dgl2 (a := n / 60 / 10 % 10) (b := n / 60 % 10) (by omega) (by omega) _).trans (by omega)
        have q2 : dgl ((43 :: (d2 (n / 60) ++ (58 :: d2 (n % 60)))).drop 4) 2 0 = n % 60 := (dgl2 (a := n % 60 / 10 % 10) (b := n % 60 % 10) (by omega) (by omega) _).trans (by omega)
        rw [q1, q2]
        omega
  refine ⟨v, ?_⟩
  unfold qOk
  rw [v]
  have : ¬ ofStr n = strOfNums [] := fun h => by
    have := (ne [] (by simp)).1 h
    unfold ofTxt at this
    split at this
    · simp at this
    · split at this <;> simp [d2] at this
  simp [this]
theorem qOk_yes {t : ByteArray} (c : qOk t = true) : t ≠ strOfNums [] ∧ ofStr (qV t) = t ∧ ofIn (qV t) = true := by
  unfold qOk at c
  simp only [Bool.and_eq_true, decide_eq_true_eq] at c
  refine ⟨c.1, c.2, ?_⟩
  cases e : ofIn (qV t)
  · have := c.2
    rw [ofStr_no e] at this
    exact absurd this.symm c.1
  · rfl
theorem of_len {n : Int} (c : ofIn n = true) : (n = 0 ∧ ofStr n = strOfNums [90] ∧ (ofStr n).size = 1) ∨ (n ≠ 0 ∧ (ofStr n).size = 6) := by
  by_cases z : n = 0
  · have z1 : ofStr n = strOfNums [90] := by rw [ofStr_yes c]; unfold ofTxt; rw [if_pos z]
    exact .inl ⟨z, z1, by rw [z1]; rfl⟩
  · refine .inr ⟨z, ?_⟩
    rw [ofStr_yes c, strOfNums_size]
    unfold ofTxt
    rw [if_neg z]
    split <;> rfl
/-- With a byte 0 more it is refused. -/
theorem of_more {t : ByteArray} (c : qOk t = true) : qOk (t ++ strOfNums [48]) = false := by
  cases e : qOk (t ++ strOfNums [48])
  · rfl
  · obtain ⟨a1, a2, a3⟩ := qOk_yes c
    obtain ⟨b1, b2, b3⟩ := qOk_yes e
    have l1 := of_len a3
    have l2 := of_len b3
    rw [a2] at l1
    rw [b2] at l2
    have : (t ++ strOfNums [48]).size = t.size + 1 := by rw [← nms_size, nms_app, List.length_append, nms_size, nms_size, strOfNums_size]; rfl
    omega
end Go.Proofs.YtlpodfachgnkhaaDoor.Cal
