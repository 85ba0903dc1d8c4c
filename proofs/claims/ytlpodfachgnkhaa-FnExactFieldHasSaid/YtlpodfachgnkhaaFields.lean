/-
  CONTRACTS OF CHAPTER 7, of the model: fields, their sets and their texts.
-/
import Derived.Test.YtlpodfachgnkhaaBits
import Derived.Test.YtlpodfachgnkhaaTwo
import Derived.Test.YtlpodfachgnkhaaHas
import Derived.Test.YtlpodfachgnkhaaDates
import Derived.Deep.LoopGhost
import Derived.Deep.CutRange
import Derived.Deep.DeepCutAuto
set_option linter.unusedVariables false
set_option linter.unusedSimpArgs false
namespace Go.Proofs.Ytlpodfachgnkhaa
open Go.ChangeShapes Go.WideShapes Go.ChangeAt Go.RowKit Cal

set_option maxHeartbeats 4000000 in
theorem sFull (lo hi : Nat) (w : World) (h1 : lo ≤ hi) (h9 : hi ≤ 59) :
    Calls Try.prog 22 #[.int .i64 (lo : Int), .int .i64 (hi : Int)] w fun e w' => e = .returned (.int .i64 ((fullF lo hi : Nat) : Int)) ∧ w = w' := by
  generalize hF : fullF lo hi = F
  have HF : Hid (addR 0 lo 1 (hi + 1 - lo) = F) := hF
  clear hF
  go_enter Try.func22, Try.ntmps22
  go_wp2
  go_loop [5, 6] (fun sv kv => ∃ k S : Nat, kv = .int .i64 (k : Int) ∧ sv = .int .i64 (S : Int) ∧ lo ≤ k ∧ k ≤ hi + 1 ∧ S < 2 ^ 60 ∧ addR S k 1 (hi + 1 - k) = F) (fun _ kv => ((hi : Int) + 1 - intOf kv).toNat)
  case atStart => exact ⟨lo, 0, rfl, rfl, by omega, by omega, by omega, HF.out⟩
  case round =>
    obtain ⟨k, S, rfl, rfl, hk0, hk1, hS, hR⟩ := hrel
    have HR := Lib.hid hR
    clear hR
    by_cases h : k ≤ hi
    · have hh : (k : Int) ≤ hi := by omega
      have p : (2 : Nat) ^ k < 2 ^ 60 := Nat.pow_lt_pow_right (by omega) (by omega)
      have r1 := shl_wrap (k := k) (by omega)
      have r2 := Lib.hid (or_bit hS (show k ≤ 59 by omega))
      go_wp2
      go_round
      case rel =>
        refine ⟨k + 1, S ||| 2 ^ k, by go_num, by rw [r2.out], by omega, by omega, Nat.or_lt_two_pow hS p, ?_⟩
        have := HR.out
        rw [show hi + 1 - k = (hi + 1 - (k + 1)) + 1 by omega] at this
        exact this
      case measure => simp [intOf]; omega
    · have : k = hi + 1 := by omega
      subst this
      have e := HR.out
      rw [Nat.sub_self] at e
      go_wp2
      go_ret
      exact ⟨ret_int (by simp only [addR] at e; rw [e]), rfl⟩

/-- There is such a field. -/
def fdB (lo hi : Int) : Bool := decide (0 ≤ lo ∧ lo ≤ 59) && decide (lo ≤ hi ∧ hi ≤ 59)
theorem fd_yes {lo hi : Int} (c : fdB lo hi = true) : 0 ≤ lo ∧ lo ≤ hi ∧ hi ≤ 59 := by
  unfold fdB at c
  simp at c
  omega
/-- A set is one of a field. -/
def fvB (S lo hi : Int) : Bool := fdB lo hi && (decide (0 < S) && decide (minus S.toNat (fullF lo.toNat hi.toNat) = 0))

theorem sValidF (lo hi : Int) (w : World) :
    Calls Try.prog 21 #[.int .i64 lo, .int .i64 hi] w fun e w' => e = .returned (.bool (fdB lo hi)) ∧ w = w' := by
  by_cases c1 : 0 ≤ lo ∧ lo ≤ 59
  · by_cases c2 : lo ≤ hi ∧ hi ≤ 59
    · have e : fdB lo hi = true := by unfold fdB; simp [c1, c2]
      rw [e]
      obtain ⟨a1, a2⟩ := c1; obtain ⟨b1, b2⟩ := c2
      go_enter Try.func21, Try.ntmps21
      go_wp2_with (go_at_call 24; refine (l1In_yes _ _ _ _ (by omega) (by omega)).mono ?_; rintro e wx ⟨rfl, rfl⟩)
      go_ret
      exact ⟨rfl, rfl⟩
    · have e : fdB lo hi = false := by unfold fdB; simp [c2]
      rw [e]
      have C := Lib.hid (show hi < lo ∨ 59 < hi by omega)
      obtain ⟨a1, a2⟩ := c1
      clear c2 e
      go_enter Try.func21, Try.ntmps21
      go_wp2_with (first | (go_at_call_of 24 (Value.int IntKind.i64 lo); refine (l1In_yes _ _ _ _ (by omega) (by omega)).mono ?_; rintro e wx ⟨rfl, rfl⟩) | (go_at_call 24; refine (l1In_no _ _ _ _ C.out).mono ?_; rintro e wx ⟨rfl, rfl⟩))
      go_ret
      exact ⟨rfl, rfl⟩
  · have e : fdB lo hi = false := by unfold fdB; simp [c1]
    rw [e]
    have C := Lib.hid (show lo < 0 ∨ 59 < lo by omega)
    clear c1 e
    go_enter Try.func21, Try.ntmps21
    go_wp2_with (go_at_call 24; refine (l1In_no _ _ _ _ C.out).mono ?_; rintro e wx ⟨rfl, rfl⟩)
    go_ret
    exact ⟨rfl, rfl⟩

theorem sFullI (lo hi : Int) (w : World) (h : fdB lo hi = true) :
    Calls Try.prog 22 #[.int .i64 lo, .int .i64 hi] w fun e w' => e = .returned (.int .i64 ((fullF lo.toNat hi.toNat : Nat) : Int)) ∧ w = w' := by
  obtain ⟨h0, h1, h9⟩ := fd_yes h
  have := sFull lo.toNat hi.toNat w (by omega) (by omega)
  rwa [show ((lo.toNat : Nat) : Int) = lo by omega, show ((hi.toNat : Nat) : Int) = hi by omega] at this

theorem sFieldValid (S lo hi : Int) (w : World) (hS : S < 2 ^ 63) :
    Calls Try.prog 9 #[.int .i64 S, .int .i64 lo, .int .i64 hi] w fun e w' => e = .returned (.bool (fvB S lo hi)) ∧ w = w' := by
  cases c : fdB lo hi
  · have e : fvB S lo hi = false := by unfold fvB; rw [c]; rfl
    rw [e]
    have C := Lib.hid c; clear c e
    go_enter Try.func9, Try.ntmps9
    go_wp2_with (go_at_call 21; refine (sValidF _ _ _).mono ?_; rw [C.out]; rintro e wx ⟨rfl, rfl⟩)
    go_ret
    exact ⟨rfl, rfl⟩
  · by_cases p : 0 < S
    · have e : fvB S lo hi = decide (minus S.toNat (fullF lo.toNat hi.toNat) = 0) := by unfold fvB; simp [c, p]
      rw [e]
      obtain ⟨h0, h1, h9⟩ := fd_yes c
      have fl : fullF lo.toNat hi.toNat < 2 ^ 60 := inF_lt (lo := lo.toNat) (hi := hi.toNat) (fun n hn => by rw [fullF_bit] at hn; simpa using hn) (by omega)
      have m := i64_minus S.toNat (fullF lo.toNat hi.toNat) (by omega) (by omega)
      rw [show ((S.toNat : Nat) : Int) = S by omega] at m
      have C := Lib.hid c; clear c e
      have MM := Lib.hid m; clear m fl
      go_enter Try.func9, Try.ntmps9
      go_wp2_with (first | (go_at_call 21; refine (sValidF _ _ _).mono ?_; rw [C.out]; rintro e wx ⟨rfl, rfl⟩) | (go_at_call 22; refine (sFullI _ _ _ C.out).mono ?_; rintro e wx ⟨rfl, rfl⟩))
      go_ret
      exact ⟨ret_bool (by rw [MM.out, Bool.eq_iff_iff, beq_iff_eq, decide_eq_true_eq]; omega), rfl⟩
    · have e : fvB S lo hi = false := by unfold fvB; simp [p]
      rw [e]
      have C := Lib.hid c; clear c e
      go_enter Try.func9, Try.ntmps9
      go_wp2_with (go_at_call 21; refine (sValidF _ _ _).mono ?_; rw [C.out]; rintro e wx ⟨rfl, rfl⟩)
      go_ret
      exact ⟨rfl, rfl⟩

/-- A number is in a set. -/
def fhB (S n : Int) : Bool := decide (0 ≤ S) && (decide (0 ≤ n ∧ n ≤ 59) && S.toNat.testBit n.toNat)
theorem fhB_of {S n : Int} (hS : 0 ≤ S) (h0 : 0 ≤ n) (h9 : n ≤ 59) : fhB S n = S.toNat.testBit n.toNat := by
  unfold fhB; simp [hS, h0, h9]
theorem sFieldHas (S n : Int) (w : World) :
    Calls Try.prog 13 #[.int .i64 S, .int .i64 n] w fun e w' => e = .returned (.bool (fhB S n)) ∧ w = w' := by
  by_cases p : 0 ≤ S
  · by_cases q : 0 ≤ n ∧ n ≤ 59
    · obtain ⟨q1, q2⟩ := q
      rw [fhB_of p q1 q2]
      obtain ⟨A, rfl⟩ := Int.eq_ofNat_of_zero_le p
      obtain ⟨k, rfl⟩ := Int.eq_ofNat_of_zero_le q1
      rw [Int.toNat_natCast, Int.toNat_natCast]
      go_enter Try.func13, Try.ntmps13
      go_wp2_with (go_at_call 24; refine (l1In_yes _ _ _ _ (by omega) (by omega)).mono ?_; rintro e wx ⟨rfl, rfl⟩)
      go_ret
      exact ⟨ret_bool (by rw [bit_tmod]; cases A.testBit k <;> rfl), rfl⟩
    · have e : fhB S n = false := by unfold fhB; simp [q]
      rw [e]
      have C := Lib.hid (show n < 0 ∨ 59 < n by omega)
      clear q e
      go_enter Try.func13, Try.ntmps13
      go_wp2_with (go_at_call 24; refine (l1In_no _ _ _ _ C.out).mono ?_; rintro e wx ⟨rfl, rfl⟩)
      go_ret
      exact ⟨rfl, rfl⟩
  · have e : fhB S n = false := by unfold fhB; simp [p]
    rw [e]
    clear e
    go_enter Try.func13, Try.ntmps13
    go_wp2
    go_ret
    exact ⟨rfl, rfl⟩

theorem ret_ii {a b c d : Int} (h1 : a = b) (h2 : c = d) : Ending.returned (.tuple #[.int .i64 a, .int .i64 c]) = .returned (.tuple #[.int .i64 b, .int .i64 d]) := by rw [h1, h2]
/-- A byte becomes a text. -/
theorem conv1 (W : World) (x : Int) : Sem.run Try.prog (convert 22 9 (.slice (some ⟨W.heap.size, 0, none⟩) 1 1)) (W.alloc (.cells #[.int .u8 x] 5)) = .ok (.string (strOfNums [x])) (W.alloc (.cells #[.int .u8 x] 5)) :=
  run_convert_bytes_arg _ 22 5 (by kernel_rfl) (by kernel_rfl) W.heap.size 0 1 1 [x] rfl (fun i hi => by
    rw [World.cell?_alloc_new]
    match i, hi with
    | 0, _ => rfl) 9 (by kernel_rfl)
/-- The text of a set, or none. -/
def fdTxt (S lo hi : Int) : List Int := if fvB S lo hi then fTxt S.toNat lo.toNat hi.toNat else []
theorem fv_yes {S lo hi : Int} (h : fvB S lo hi = true) (h9 : S < 2 ^ 63) : fdB lo hi = true ∧ 0 < S ∧ inF S.toNat lo.toNat hi.toNat := by
  unfold fvB at h
  simp only [Bool.and_eq_true, decide_eq_true_eq] at h
  exact ⟨h.1, h.2.1, (minus_zero (by omega)).1 h.2.2⟩
theorem k44 : (⟨#[44]⟩ : ByteArray) = strOfNums [44] := rfl
theorem k42 : (⟨#[42]⟩ : ByteArray) = strOfNums [42] := rfl
theorem str_none {xs : List Int} (h : ∀ x ∈ xs, 0 ≤ x ∧ x < 256) : (strOfNums xs = strOfNums []) ↔ xs = [] := str_eq h (by simp)

theorem spanT_bd {k e : Nat} (h1 : k ≤ 59) (h2 : e ≤ 59) : ∀ x ∈ spanT k e, 0 ≤ x ∧ x < 256 := by
  intro x hx
  unfold spanT at hx
  rcases List.mem_append.1 hx with h | h
  · exact numT_bd h1 x h
  · split at h
    · rcases List.mem_cons.1 h with h | h
      · omega
      · exact numT_bd h2 x h
    · simp at h
theorem spanT_len (k e : Nat) : (spanT k e).length ≤ 5 := by
  unfold spanT
  have := num_len k; have := num_len e
  split <;> simp <;> omega
theorem joinT_bd {out t : List Int} (h : ∀ x ∈ out, 0 ≤ x ∧ x < 256) (k : ∀ x ∈ t, 0 ≤ x ∧ x < 256) : ∀ x ∈ joinT out t, 0 ≤ x ∧ x < 256 := by
  intro x hx
  unfold joinT at hx
  split at hx
  · exact k x hx
  · rcases List.mem_append.1 hx with g | g
    · exact h x g
    · rcases List.mem_cons.1 g with g | g
      · omega
      · exact k x g
theorem joinT_len {out t : List Int} (h : t.length ≤ 5) : (joinT out t).length ≤ out.length + 6 := by
  unfold joinT
  split
  · omega
  · simp; omega

theorem ftx_len {S hi : Nat} (h9 : hi ≤ 59) : ∀ (r k : Nat) (out : List Int), k ≤ hi + 1 → (ftx S hi r k out).length ≤ out.length + 6 * (hi + 1 - k)
  | 0, k, out, h => by simp only [ftx]; omega
  | r + 1, k, out, h => by
    simp only [ftx]
    split
    · omega
    · split
      · have := ftx_len (S := S) h9 r (k + 1) out (by omega)
        omega
      · obtain ⟨e1, e2, _⟩ := runE_is (S := S) (hi := hi) (hi - k) k (by omega) (Nat.le_refl _)
        have l := ftx_len (S := S) h9 r (runE S hi (hi - k) k + 1) (joinT out (spanT k (runE S hi (hi - k) k))) (by omega)
        have m := joinT_len (out := out) (spanT_len k (runE S hi (hi - k) k))
        omega
theorem ftx_bd {S hi : Nat} (h9 : hi ≤ 59) : ∀ (r k : Nat) (out : List Int), k ≤ hi + 1 → (∀ x ∈ out, 0 ≤ x ∧ x < 256) → ∀ x ∈ ftx S hi r k out, 0 ≤ x ∧ x < 256
  | 0, k, out, h, ho => by simp only [ftx]; exact ho
  | r + 1, k, out, h, ho => by
    simp only [ftx]
    split
    · exact ho
    · split
      · exact ftx_bd (S := S) h9 r (k + 1) out (by omega) ho
      · obtain ⟨e1, e2, _⟩ := runE_is (S := S) (hi := hi) (hi - k) k (by omega) (Nat.le_refl _)
        exact ftx_bd (S := S) h9 r _ _ (by omega) (joinT_bd ho (spanT_bd (by omega) (by omega)))
theorem fdTxt_len (S lo hi : Int) : (fdTxt S lo hi).length ≤ 400 := by
  unfold fdTxt
  split
  · rename_i c
    have fd : fdB lo hi = true := by
      unfold fvB at c
      simp only [Bool.and_eq_true] at c
      exact c.1
    obtain ⟨h0, h1, h9⟩ := fd_yes fd
    unfold fTxt
    split
    · simp
    · have := ftx_len (S := S.toNat) (hi := hi.toNat) (by omega) (hi.toNat + 2 - lo.toNat) lo.toNat [] (by omega)
      simp only [List.length_nil] at this
      omega
  · simp
theorem fdTxt_bd (S lo hi : Int) : ∀ x ∈ fdTxt S lo hi, 0 ≤ x ∧ x < 256 := by
  unfold fdTxt
  split
  · rename_i c
    have fd : fdB lo hi = true := by
      unfold fvB at c
      simp only [Bool.and_eq_true] at c
      exact c.1
    obtain ⟨h0, h1, h9⟩ := fd_yes fd
    unfold fTxt
    split
    · simp
    · exact ftx_bd (by omega) _ _ _ (by omega) (by simp)
  · simp

/-- What a number at the beginning is, and how many digits it has. -/
def n2c : List Int → Nat
  | x :: y :: _ => if dig x then (if dig y then 2 else 1) else 0
  | [x] => if dig x then 1 else 0
  | [] => 0
def n2v : List Int → Int
  | x :: y :: _ => if dig x then (if dig y then 10 * (x - 48) + (y - 48) else x - 48) else 0
  | [x] => if dig x then x - 48 else 0
  | [] => 0
theorem n2_is (xs : List Int) : n2 xs = (if n2c xs = 0 then none else some ((n2v xs).toNat, xs.drop (n2c xs))) ∧ 0 ≤ n2v xs ∧ n2v xs ≤ 99 ∧ n2c xs ≤ 2 ∧ n2c xs ≤ xs.length := by
  match xs with
  | [] => simp [n2, n2c, n2v]
  | [x] =>
    cases d : dig x
    · simp [n2, n2c, n2v, d]
    · have := of_decide_eq_true d
      simp [n2, n2c, n2v, d]; omega
  | x :: y :: t =>
    cases d : dig x
    · simp [n2, n2c, n2v, d]
    · have := of_decide_eq_true d
      cases d' : dig y
      · simp [n2, n2c, n2v, d, d']; omega
      · have := of_decide_eq_true d'
        simp [n2, n2c, n2v, d, d']; omega

section
variable {lo hi : Nat} {xs : List Int}
theorem n2_no (h : n2c xs = 0) : n2 xs = none := by rw [(n2_is xs).1, if_pos h]
theorem n2_yes (h : n2c xs ≠ 0) : n2 xs = some ((n2v xs).toNat, xs.drop (n2c xs)) := by rw [(n2_is xs).1, if_neg h]
theorem segP_none (h : ¬ xs.head? = some 42) (c : n2c xs = 0) : segP lo hi xs = none := by
  unfold segP; rw [if_neg h, n2_no c]
theorem segP_out (h : ¬ xs.head? = some 42) (c : n2c xs ≠ 0) (b : ¬ ((lo : Int) ≤ n2v xs ∧ n2v xs ≤ hi)) : segP lo hi xs = none := by
  have := n2_is xs
  unfold segP; rw [if_neg h, n2_yes c]
  simp only
  rw [if_neg (by omega)]
theorem segP_one (h : ¬ xs.head? = some 42) (c : n2c xs ≠ 0) (b : (lo : Int) ≤ n2v xs ∧ n2v xs ≤ hi) (d : ¬ (xs.drop (n2c xs)).head? = some 45) : segP lo hi xs = some ((n2v xs).toNat, (n2v xs).toNat, true, xs.drop (n2c xs)) := by
  have := n2_is xs
  unfold segP; rw [if_neg h, n2_yes c]
  simp only
  rw [if_pos (by omega), if_neg d]
theorem segP_none2 (h : ¬ xs.head? = some 42) (c : n2c xs ≠ 0) (b : (lo : Int) ≤ n2v xs ∧ n2v xs ≤ hi) (d : (xs.drop (n2c xs)).head? = some 45) (c2 : n2c (xs.drop (n2c xs)).tail = 0) : segP lo hi xs = none := by
  have := n2_is xs
  unfold segP; rw [if_neg h, n2_yes c]
  simp only
  rw [if_pos (by omega), if_pos d, n2_no c2]
theorem segP_out2 (h : ¬ xs.head? = some 42) (c : n2c xs ≠ 0) (b : (lo : Int) ≤ n2v xs ∧ n2v xs ≤ hi) (d : (xs.drop (n2c xs)).head? = some 45) (c2 : n2c (xs.drop (n2c xs)).tail ≠ 0) (b2 : ¬ (n2v xs ≤ n2v (xs.drop (n2c xs)).tail ∧ n2v (xs.drop (n2c xs)).tail ≤ hi)) : segP lo hi xs = none := by
  have := n2_is xs
  have := n2_is (xs.drop (n2c xs)).tail
  unfold segP; rw [if_neg h, n2_yes c]
  simp only
  rw [if_pos (by omega), if_pos d, n2_yes c2]
  simp only
  rw [if_neg (by omega)]
theorem segP_two (h : ¬ xs.head? = some 42) (c : n2c xs ≠ 0) (b : (lo : Int) ≤ n2v xs ∧ n2v xs ≤ hi) (d : (xs.drop (n2c xs)).head? = some 45) (c2 : n2c (xs.drop (n2c xs)).tail ≠ 0) (b2 : n2v xs ≤ n2v (xs.drop (n2c xs)).tail ∧ n2v (xs.drop (n2c xs)).tail ≤ hi) :
    segP lo hi xs = some ((n2v xs).toNat, (n2v (xs.drop (n2c xs)).tail).toNat, false, (xs.drop (n2c xs)).tail.drop (n2c (xs.drop (n2c xs)).tail)) := by
  have := n2_is xs
  have := n2_is (xs.drop (n2c xs)).tail
  unfold segP; rw [if_neg h, n2_yes c]
  simp only
  rw [if_pos (by omega), if_pos d, n2_yes c2]
  simp only
  rw [if_pos (by omega)]
theorem rd_none2 {S f t : Nat} {b : Bool} {r : List Int} (h : segP lo hi xs = some (f, t, b, r)) (k : stepP hi f t b r = none) : rd lo hi xs S = none := by
  rw [rd_eq]; unfold pt; rw [h]; simp only; rw [k]
theorem rd_step {S f t t2 st : Nat} {b : Bool} {r r2 : List Int} (h : segP lo hi xs = some (f, t, b, r)) (k : stepP hi f t b r = some (f, t2, st, r2)) :
    rd lo hi xs S = if r2 = [] then some (addR S f st ((t2 - f) / st + 1)) else if r2.head? = some 44 then rd lo hi r2.tail (addR S f st ((t2 - f) / st + 1)) else none := by
  rw [rd_eq]; unfold pt; rw [h]; simp only; rw [k]
theorem pt_is {f t t2 st : Nat} {b : Bool} {r r2 : List Int} (h : segP lo hi xs = some (f, t, b, r)) (k : stepP hi f t b r = some (f, t2, st, r2)) : pt lo hi xs = some (f, t2, st, r2) := by
  unfold pt; rw [h]; exact k
theorem stP_no {f t : Nat} {b : Bool} (h : ¬ xs.head? = some 47) : stepP hi f t b xs = some (f, t, 1, xs) := by
  unfold stepP; rw [if_neg h]
theorem stP_none {f t : Nat} {b : Bool} (h : xs.head? = some 47) (c : n2c xs.tail = 0) : stepP hi f t b xs = none := by
  unfold stepP; rw [if_pos h, n2_no c]
theorem stP_out {f t : Nat} {b : Bool} (h : xs.head? = some 47) (c : n2c xs.tail ≠ 0) (g : ¬ (1 ≤ n2v xs.tail ∧ n2v xs.tail ≤ 59)) : stepP hi f t b xs = none := by
  have := n2_is xs.tail
  unfold stepP; rw [if_pos h, n2_yes c]
  simp only
  rw [if_neg (by omega)]
theorem stP_yes {f t : Nat} {b : Bool} (h : xs.head? = some 47) (c : n2c xs.tail ≠ 0) (g : 1 ≤ n2v xs.tail ∧ n2v xs.tail ≤ 59) : stepP hi f t b xs = some (f, if b then hi else t, (n2v xs.tail).toNat, xs.tail.drop (n2c xs.tail)) := by
  have := n2_is xs.tail
  unfold stepP; rw [if_pos h, n2_yes c]
  simp only
  rw [if_pos (by omega)]
/-- How many numbers there are from k up to t in steps of s. -/
def cntR (t s k : Nat) : Nat := if k ≤ t then (t - k) / s + 1 else 0
theorem cntR_next {t s k : Nat} (hs : 1 ≤ s) (h : k ≤ t) : cntR t s k = cntR t s (k + s) + 1 := by
  unfold cntR
  rw [if_pos h]
  split
  · rename_i g
    rw [show t - k = t - (k + s) + s by omega, Nat.add_div_right _ hs]
  · rename_i g
    rw [Nat.div_eq_of_lt (by omega)]
theorem rd_none {S : Nat} (h : segP lo hi xs = none) : rd lo hi xs S = none := by
  rw [rd_eq]; unfold pt; rw [h]
end
theorem bool_val {a b : Bool} (h : a = b) : Value.bool a = Value.bool b := by rw [h]
theorem head_drop {s : ByteArray} {a : Nat} (h : a < s.size) : ((nms s).drop a).head? = some (s[a].toNat : Int) := by rw [nms_at h, List.head?_cons]
theorem head_end {s : ByteArray} {a : Nat} (h : ¬ a < s.size) : (nms s).drop a = [] := List.drop_of_length_le (by rw [nms_size]; omega)
theorem drop_ne {s : ByteArray} {a : Nat} (h : a < s.size) : (nms s).drop a ≠ [] := by rw [nms_at h]; simp
/-- What is read, as the function hands it back. -/
def GaveOpt (R : Option Nat) (w : World) (e : Ending) (w' : World) : Prop := e = .returned (.tuple #[.int .i64 ((R.getD 0 : Nat) : Int), .bool R.isSome]) ∧ w = w'

/-- What a text says as a field, if it says something. -/
def fdRd (s : ByteArray) (lo hi : Int) : Option Nat := if fdB lo hi then rd lo.toNat hi.toNat (nms s) 0 else none
/-- A set's text says the set. -/
theorem fdTxt_is {S lo hi : Int} (c : fvB S lo hi = true) (h9 : S < 2 ^ 63) : fdTxt S lo hi = fTxt S.toNat lo.toNat hi.toNat := by unfold fdTxt; rw [c, if_pos rfl]
theorem fdTxt_read {S lo hi : Int} (c : fvB S lo hi = true) (h9 : S < 2 ^ 63) : fdRd (strOfNums (fdTxt S lo hi)) lo hi = some S.toNat ∧ ((S.toNat : Nat) : Int) = S ∧ strOfNums (fdTxt S lo hi) ≠ strOfNums [] := by
  obtain ⟨fd, p, hin⟩ := fv_yes c h9
  obtain ⟨h0, h1, h9'⟩ := fd_yes fd
  obtain ⟨r1, r2⟩ := fTxt_rd (S := S.toNat) (lo := lo.toNat) (hi := hi.toNat) (by omega) (by omega) hin (by omega)
  refine ⟨?_, by omega, fun h => ?_⟩
  · unfold fdRd
    rw [fd, if_pos rfl, nms_of (fdTxt_bd S lo hi), fdTxt_is c h9]
    exact r1
  · have := (str_none (fdTxt_bd S lo hi)).1 h
    rw [fdTxt_is c h9] at this
    exact r2 this
/-- What is read is a set of the field. -/
theorem fdRd_in {s : ByteArray} {lo hi : Int} {A : Nat} (h : fdRd s lo hi = some A) : fvB (A : Int) lo hi = true ∧ fdB lo hi = true ∧ inF A lo.toNat hi.toNat ∧ A < 2 ^ 60 := by
  unfold fdRd at h
  split at h
  · rename_i fd
    obtain ⟨h0, h1, h9⟩ := fd_yes fd
    obtain ⟨k1, k2⟩ := rd_in (lo := lo.toNat) (hi := hi.toNat) (by omega) (nms s).length (nms s) (Nat.le_refl _) 0 A (fun n hn => by rw [Nat.zero_testBit] at hn; simp at hn) h
    have lt := inF_lt k1 (by omega)
    refine ⟨?_, fd, k1, lt⟩
    unfold fvB
    rw [fd, Int.toNat_natCast, decide_eq_true ((minus_zero (by omega)).2 k1)]
    simp
    omega
  · simp at h
/-- Two texts with a comma between them say both sets. -/
theorem fdRd_join {s t : ByteArray} {lo hi : Int} {A : Nat} (h : fdRd s lo hi = some A) : fdRd (s ++ (strOfNums [44] ++ t)) lo hi = (fdRd t lo hi).map (A ||| ·) := by
  obtain ⟨_, fd, _, _⟩ := fdRd_in h
  obtain ⟨h0, h1, h9⟩ := fd_yes fd
  unfold fdRd at h ⊢
  rw [fd, if_pos rfl] at h
  rw [fd, if_pos rfl, if_pos rfl, nms_app, nms_app, nms_of (by simp)]
  show rd lo.toNat hi.toNat (nms s ++ 44 :: nms t) 0 = _
  rw [rd_app (nms s).length (nms s) (Nat.le_refl _) 0 A h]
  have := rd_or (lo := lo.toNat) (hi := hi.toNat) (by omega) (nms t).length (nms t) (Nat.le_refl _) A 0
  rw [Nat.or_zero] at this
  exact this
theorem fdRd_star {lo hi : Int} (fd : fdB lo hi = true) : fdRd (strOfNums [42]) lo hi = some (fullF lo.toNat hi.toNat) := by
  obtain ⟨h0, h1, h9⟩ := fd_yes fd
  unfold fdRd
  rw [fd, if_pos rfl, nms_of (by simp), star_rd (by omega)]
  rfl
/-- A number is added to a set. -/
theorem or_field {S n : Int} (h0 : 0 ≤ S) (h9 : S < 2 ^ 63) (n0 : 0 ≤ n) (n9 : n ≤ 59) :
    wrap64 ((2 : Int) ^ n.toNat) = (2 : Int) ^ n.toNat ∧ bits .or .i64 S (wrap64 ((2 : Int) ^ n.toNat)) < 2 ^ 63 ∧ fhB (bits .or .i64 S (wrap64 ((2 : Int) ^ n.toNat))) n = true ∧ 0 ≤ bits .or .i64 S (wrap64 ((2 : Int) ^ n.toNat)) := by
  obtain ⟨A, rfl⟩ := Int.eq_ofNat_of_zero_le h0
  obtain ⟨k, rfl⟩ := Int.eq_ofNat_of_zero_le n0
  rw [Int.toNat_natCast]
  obtain ⟨o1, o2⟩ := or_bit63 (S := A) (k := k) (by omega) (by omega)
  have r : wrap64 ((2 : Int) ^ k) = (2 : Int) ^ k := by rw [shl_wrap (by omega)]; simp
  rw [r, o1]
  refine ⟨rfl, by omega, ?_, by omega⟩
  rw [fhB_of (by omega) (by omega) (by omega), Int.toNat_natCast, Int.toNat_natCast, Nat.testBit_or, Nat.testBit_two_pow_self, Bool.or_true]
end Go.Proofs.Ytlpodfachgnkhaa
