/-
  CONTRACTS OF CHAPTER 7, of the program at ba67aba3: texts of fields are read.
-/
import Derived.Test.YtlpodfachgnkhaaDoorISets
import Derived.Test.YtlpodfachgnkhaaDoorLib1
import Derived.Test.YtlpodfachgnkhaaDoorFieldX
import Derived.Test.YtlpodfachgnkhaaDoorIPut
set_option linter.unusedVariables false
set_option linter.unusedSimpArgs false
namespace Go.Proofs.YtlpodfachgnkhaaDoor
open Go.ChangeShapes Go.WideShapes Go.ChangeAt Go.RowKit Cal

theorem num1_short {xs : List Int} (h : xs.length < 1 ∨ 2 < xs.length) : num1 xs = none := by
  unfold num1
  match xs, h with
  | [], _ => rfl
  | [x], h => simp at h
  | [x, y], h => simp at h
  | x :: y :: z :: t, _ =>
    simp only [n2]
    split
    · rename_i heq
      split at heq
      · split at heq <;> simp at heq
      · simp at heq
    · rfl
theorem num1_digs {xs : List Int} (h : xs.length = 1 ∨ xs.length = 2) (hd : ∀ x ∈ xs, dig x = true) : num1 xs = some (nin xs 0).toNat ∧ 0 ≤ nin xs 0 ∧ nin xs 0 ≤ 99 := by
  match xs, h with
  | [x], _ =>
    have a := hd x (by simp)
    have b : 48 ≤ x ∧ x ≤ 57 := of_decide_eq_true a
    have e : nin [x] 0 = x - 48 := by simp [nin]; omega
    rw [e]
    exact ⟨by simp [num1, n2, a], by omega, by omega⟩
  | [x, y], _ =>
    have a := hd x (by simp)
    have b : 48 ≤ x ∧ x ≤ 57 := of_decide_eq_true a
    have a' := hd y (by simp)
    have b' : 48 ≤ y ∧ y ≤ 57 := of_decide_eq_true a'
    have e : nin [x, y] 0 = 10 * (x - 48) + (y - 48) := by simp [nin]; omega
    rw [e]
    exact ⟨by simp [num1, n2, a, a'], by omega, by omega⟩
theorem num1_bad {xs : List Int} (h : xs.length = 1 ∨ xs.length = 2) {x : Int} (hx : x ∈ xs) (hd : dig x = false) : num1 xs = none := by
  match xs, h with
  | [y], _ =>
    simp at hx; subst hx
    simp [num1, n2, hd]
  | [y, z], _ =>
    simp only [List.mem_cons, List.not_mem_nil, or_false] at hx
    rcases hx with rfl | rfl
    · simp [num1, n2, hd]
    · cases c : dig y <;> simp [num1, n2, hd, c]
/-- A number in bounds. -/
def nmR (xs : List Int) (lo hi : Int) : Option Nat := match num1 xs with
  | none => none
  | some n => if lo ≤ (n : Int) ∧ (n : Int) ≤ hi then some n else none
theorem nms_mem {s : ByteArray} {k : Nat} (h : k < s.size) : (s[k].toNat : Int) ∈ nms s := by
  have := nms_at h
  exact List.mem_of_mem_drop (i := k) (by rw [this]; simp)

set_option maxHeartbeats 4000000 in
theorem iReadNumber (s : ByteArray) (lo hi : Int) (w : World) (hs : s.size < 4294967281) :
    Calls Tryd.prog 48 #[.string s, .int .i64 lo, .int .i64 hi] w fun e w' => e = .returned (.tuple #[.int .i64 (((nmR (nms s) lo hi).getD 0 : Nat) : Int), .bool (nmR (nms s) lo hi).isSome]) ∧ w = w' := by
  by_cases c1 : s.size < 1
  · have e : nmR (nms s) lo hi = none := by unfold nmR; rw [num1_short (.inl (by rw [nms_size]; exact c1))]
    rw [e]; clear e
    have c1' : (s.size : Int) < 1 := by omega
    go_enter Tryd.func48, Tryd.ntmps48
    go_wp2
    go_ret2
    exact ⟨rfl, rfl⟩
  by_cases c2 : 2 < s.size
  · have e : nmR (nms s) lo hi = none := by unfold nmR; rw [num1_short (.inr (by rw [nms_size]; exact c2))]
    rw [e]; clear e
    have c1' : ¬ (s.size : Int) < 1 := by omega
    have c2' : (2 : Int) < (s.size : Int) := by omega
    go_enter Tryd.func48, Tryd.ntmps48
    go_wp2
    go_ret2
    exact ⟨rfl, rfl⟩
  have c1' : ¬ (s.size : Int) < 1 := by omega
  have c2' : ¬ (2 : Int) < (s.size : Int) := by omega
  have hl : (nms s).length = 1 ∨ (nms s).length = 2 := by rw [nms_size]; omega
  generalize hR : nmR (nms s) lo hi = R
  have HR := Lib.hid hR; have HL := Lib.hid hl
  clear hR hl
  go_enter Tryd.func48, Tryd.ntmps48
  go_wp2_with fail
  go_loop [20] (fun kv => ∃ k : Nat, kv = .int .i64 (k : Int) ∧ k ≤ s.size ∧ ∀ j (h : j < k) (h' : j < s.size), dig (s[j].toNat : Int) = true) (fun kv => (s.size - (intOf kv).toNat))
  case atStart => exact ⟨0, rfl, by omega, fun j h => by omega⟩
  case round =>
    obtain ⟨k, rfl, hk, hd⟩ := hrel
    have HD := Lib.hid hd; clear hd
    by_cases h : k < s.size
    · cases d : dig (s[k].toNat : Int)
      · have e : R = none := by
          have x := HR.out
          unfold nmR at x
          rw [num1_bad HL.out (nms_mem h) d] at x
          exact x.symm
        subst e
        have d' : (s[k].toNat : Int) < 48 ∨ (¬ (s[k].toNat : Int) < 48 ∧ 57 < (s[k].toNat : Int)) := by
          unfold dig at d; simp at d; omega
        rcases d' with d1 | ⟨d1, d2⟩
        · go_wp2
          go_ret2
          exact ⟨rfl, rfl⟩
        · go_wp2
          go_ret2
          exact ⟨rfl, rfl⟩
      · have d' : ¬ (s[k].toNat : Int) < 48 ∧ ¬ 57 < (s[k].toNat : Int) := by
          unfold dig at d; simp at d; omega
        obtain ⟨d1, d2⟩ := d'
        have D := Lib.hid d; clear d
        go_wp2
        go_round
        case rel =>
          refine ⟨k + 1, by go_num, by omega, fun j h1 h2 => ?_⟩
          by_cases g : j = k
          · subst g; exact D.out
          · exact HD.out j (by omega) h2
        case measure => simp [intOf]; omega
    · obtain rfl : k = s.size := by omega
      have hd : ∀ x ∈ nms s, dig x = true := by
        intro x hx
        obtain ⟨j, hj, e⟩ := List.getElem_of_mem hx
        rw [nms_size] at hj
        have := HD.out j hj hj
        have e2 := nms_at hj
        rw [List.drop_eq_getElem_cons (by rw [nms_size]; exact hj)] at e2
        simp only [List.cons.injEq] at e2
        rw [← e, e2.1]; exact this
      obtain ⟨n1, n2, n3⟩ := num1_digs HL.out hd
      have x := HR.out
      unfold nmR at x
      rw [n1] at x
      simp only [Int.toNat_of_nonneg n2] at x
      clear hd HD HR HL n1
      have NI := fun W => iNumberIn s W (by omega)
      generalize nin (nms s) 0 = n at *
      by_cases g1 : n < lo
      · rw [if_neg (by omega)] at x
        subst x
        go_wp2_with (go_at_call 57; refine (NI _).mono ?_; rintro e wx ⟨rfl, rfl⟩)
        go_ret2
        exact ⟨rfl, rfl⟩
      · by_cases g2 : hi < n
        · rw [if_neg (by omega)] at x
          subst x
          go_wp2_with (go_at_call 57; refine (NI _).mono ?_; rintro e wx ⟨rfl, rfl⟩)
          go_ret2
          exact ⟨rfl, rfl⟩
        · rw [if_pos (by omega)] at x
          subst x
          go_wp2_with (go_at_call 57; refine (NI _).mono ?_; rintro e wx ⟨rfl, rfl⟩)
          go_ret2
          exact ⟨congrArg (fun z : Int => Ending.returned (.tuple #[.int .i64 z, .bool true])) (Int.toNat_of_nonneg n2).symm, rfl⟩

set_option maxHeartbeats 4000000 in
theorem iStepsOf (f l st : Nat) (w : World) (h : f ≤ l) (h9 : l ≤ 59) (h1 : 1 ≤ st) (h59 : st ≤ 59) :
    Calls Tryd.prog 49 #[.int .i64 (f : Int), .int .i64 (l : Int), .int .i64 (st : Int)] w fun e w' => e = .returned (.int .i64 ((addR 0 f st ((l - f) / st + 1) : Nat) : Int)) ∧ w = w' := by
  generalize hF : addR 0 f st ((l - f) / st + 1) = F
  have HF : Hid (addR 0 f st (cntR l st f) = F) := by
    show addR 0 f st (cntR l st f) = F
    unfold cntR; rw [if_pos h]; exact hF
  clear hF
  go_enter Tryd.func49, Tryd.ntmps49
  go_wp2_with fail
  go_loopg [7, 8] (cntR l st f) (fun q' sv kv wr => w = wr ∧ ∃ (S1 k : Nat), sv = .int .i64 (S1 : Int) ∧ kv = .int .i64 (k : Int) ∧ k ≤ l + st ∧ q' = cntR l st k ∧ S1 < 2 ^ 60 ∧ addR S1 k st q' = F)
  case atStart => exact ⟨rfl, 0, f, rfl, rfl, by omega, rfl, by omega, HF.out⟩
  case round =>
    obtain ⟨rfl, S1, k, rfl, rfl, hk, hq', hS1, hA⟩ := hrel
    have HA := Lib.hid hA; clear hA
    by_cases g : k ≤ l
    · have g' : (k : Int) ≤ l := by omega
      have nx := cntR_next h1 g
      rw [hq'] at HA
      rw [nx] at HA hq'
      subst hq'
      have p : (2 : Nat) ^ k < 2 ^ 60 := Nat.pow_lt_pow_right (by omega) (by omega)
      have r1 := shl_wrap (k := k) (by omega)
      have r2 := Lib.hid (or_bit hS1 (show k ≤ 59 by omega))
      clear nx
      go_wp2
      go_roundg (cntR l st (k + st))
      case measure => omega
      case rel => exact ⟨rfl, S1 ||| 2 ^ k, k + st, by rw [r2.out], by go_num, by omega, rfl, Nat.or_lt_two_pow hS1 p, HA.out⟩
    · have g' : ¬ (k : Int) ≤ l := by omega
      have z : gk = 0 := by rw [hq']; unfold cntR; rw [if_neg g]
      subst z
      have e := HA.out
      simp only [addR] at e
      subst e
      go_wp2
      go_ret
      exact ⟨rfl, rfl⟩

theorem iCutAt (xs : List Int) (hx : ∀ x ∈ xs, 0 ≤ x ∧ x < 256) (hl : xs.length < 4294967281) (b : UInt8) (c : Int) (hc : (b.toNat : Int) = c) (w : World) :
    Calls Tryd.prog 46 #[.string (strOfNums xs), .string ⟨#[b]⟩] w fun e w' => e = .returned (.tuple #[.string (strOfNums (cutC c xs).1), .string (strOfNums (cutC c xs).2.1), .bool (cutC c xs).2.2]) ∧ Below w.heap.size w w' := by
  have := iCut1 (strOfNums xs) b w (by rw [strOfNums_size]; exact hl)
  rwa [nms_of hx, hc] at this
/-- A part's numbers, by numbers in bounds. -/
theorem rnP_nm {lo hi : Nat} (st : Bool) (xs : List Int) (h : xs ≠ [42]) : rnP lo hi st xs = match nmR (cutC 45 xs).1 lo hi with
    | none => none
    | some n => if (cutC 45 xs).2.2 then (nmR (cutC 45 xs).2.1 n hi).map (fun m => (n, m)) else some (n, if st then hi else n) := by
  unfold rnP nmR
  rw [if_neg h]
  cases num1 (cutC 45 xs).1 with
  | none => rfl
  | some n =>
    have i1 : ((lo : Int) ≤ n ∧ (n : Int) ≤ hi) ↔ (lo ≤ n ∧ n ≤ hi) := by omega
    simp only [i1]
    by_cases c : lo ≤ n ∧ n ≤ hi
    · rw [if_pos c, if_pos c]
      cases num1 (cutC 45 xs).2.1 with
      | none => cases (cutC 45 xs).2.2 <;> rfl
      | some m =>
        have i2 : ((n : Int) ≤ m ∧ (m : Int) ≤ hi) ↔ (n ≤ m ∧ m ≤ hi) := by omega
        simp only [i2]
        by_cases d : n ≤ m ∧ m ≤ hi
        · simp [d]
        · simp [d]
    · rw [if_neg c, if_neg c]
theorem rnP_in {lo hi : Nat} (h : lo ≤ hi) {st : Bool} {xs : List Int} {p : Nat × Nat} (e : rnP lo hi st xs = some p) : lo ≤ p.1 ∧ p.1 ≤ p.2 ∧ p.2 ≤ hi := by
  by_cases s : xs = [42]
  · unfold rnP at e
    rw [if_pos s] at e
    simp at e; subst e
    exact ⟨Nat.le_refl _, h, Nat.le_refl _⟩
  · rw [rnP_nm st xs s] at e
    have nb : ∀ {ys : List Int} {a b : Int} {n : Nat}, nmR ys a b = some n → a ≤ n ∧ (n : Int) ≤ b := by
      intro ys a b n h
      unfold nmR at h
      split at h
      · simp at h
      · split at h
        · simp at h; subst h; assumption
        · simp at h
    cases e1 : nmR (cutC 45 xs).1 lo hi with
    | none => rw [e1] at e; simp at e
    | some n =>
      rw [e1] at e
      have b1 := nb e1
      simp only at e
      split at e
      · cases e2 : nmR (cutC 45 xs).2.1 n hi with
        | none => rw [e2] at e; simp at e
        | some m =>
          rw [e2] at e
          have b2 := nb e2
          simp at e; subst e
          simp only; omega
      · simp at e; subst e
        simp only
        split <;> omega
theorem k42b : (⟨#[42]⟩ : ByteArray) = strOfNums [42] := rfl

set_option maxHeartbeats 4000000 in
theorem iReadRun (xs : List Int) (lo hi : Nat) (st : Bool) (w : World) (hx : ∀ x ∈ xs, 0 ≤ x ∧ x < 256) (hl : xs.length < 4294967281) :
    Calls Tryd.prog 47 #[.string (strOfNums xs), .int .i64 (lo : Int), .int .i64 (hi : Int), .bool st] w fun e w' =>
      (∃ a b : Int, e = .returned (.tuple #[.int .i64 a, .int .i64 b, .bool (rnP lo hi st xs).isSome]) ∧ ∀ p, rnP lo hi st xs = some p → a = (p.1 : Int) ∧ b = (p.2 : Int)) ∧ Below w.heap.size w w' := by
  have K42 := k42b
  have LE := lists_eq
  by_cases s : xs = [42]
  · have e : rnP lo hi st xs = some (lo, hi) := by unfold rnP; rw [if_pos s]
    rw [e]
    have s' : decide (strOfNums xs = strOfNums [42]) = true := by rw [s]; simp
    clear e s
    go_enter Tryd.func47, Tryd.ntmps47
    go_wp2
    go_ret3
    exact ⟨⟨_, _, rfl, fun p h => by cases h; exact ⟨rfl, rfl⟩⟩, Below.refl _ _⟩
  · have s' : decide (strOfNums xs = strOfNums [42]) = false := by
      rw [decide_eq_false_iff_not, str_eq hx (by simp)]
      exact s
    generalize hR : rnP lo hi st xs = R
    rw [rnP_nm st xs s] at hR
    obtain ⟨bd1, bd2⟩ := cutC_bd (c := 45) hx
    obtain ⟨ln1, ln2⟩ := cutC_len (c := 45) (t := xs)
    have C := fun W => iCutAt xs hx hl 45 45 rfl W
    have R1 := fun W => iReadNumber (strOfNums (cutC 45 xs).1) lo hi W (by rw [strOfNums_size]; omega)
    rw [nms_of bd1] at R1
    have R2 := fun (n : Nat) W => iReadNumber (strOfNums (cutC 45 xs).2.1) n hi W (by rw [strOfNums_size]; omega)
    simp only [nms_of bd2] at R2
    generalize cutC 45 xs = q at *
    obtain ⟨xa, xb, xc⟩ := q
    simp only at *
    have C := Lib.hid C
    clear hx hl s bd1 bd2 ln1 ln2
    cases e1 : nmR xa lo hi with
    | none =>
      rw [e1] at R1 hR
      have R1 := Lib.hid R1
      simp only at hR
      subst hR
      clear R2 e1
      go_enter Tryd.func47, Tryd.ntmps47
      go_wp2_with (first | (go_at_call 46; refine (C.out _).mono ?_; rintro e wx ⟨rfl, hb⟩) | (go_at_call 48; refine (R1.out _).mono ?_; rintro e wy ⟨rfl, rfl⟩))
      go_ret3
      exact ⟨⟨_, _, rfl, fun p h => by cases h⟩, hb⟩
    | some n =>
      rw [e1] at R1 hR
      have R1 := Lib.hid R1
      have R2 := R2 n
      simp only at hR
      clear e1
      cases xc with
      | false =>
        clear R2
        cases st with
        | false =>
          simp at hR
          subst hR
          go_enter Tryd.func47, Tryd.ntmps47
          go_wp2_with (first | (go_at_call 46; refine (C.out _).mono ?_; rintro e wx ⟨rfl, hb⟩) | (go_at_call 48; refine (R1.out _).mono ?_; rintro e wy ⟨rfl, rfl⟩))
          go_ret3
          exact ⟨⟨_, _, rfl, fun p h => by cases h; exact ⟨rfl, rfl⟩⟩, hb⟩
        | true =>
          simp at hR
          subst hR
          go_enter Tryd.func47, Tryd.ntmps47
          go_wp2_with (first | (go_at_call 46; refine (C.out _).mono ?_; rintro e wx ⟨rfl, hb⟩) | (go_at_call 48; refine (R1.out _).mono ?_; rintro e wy ⟨rfl, rfl⟩))
          go_ret3
          exact ⟨⟨_, _, rfl, fun p h => by cases h; exact ⟨rfl, rfl⟩⟩, hb⟩
      | true =>
        cases e2 : nmR xb n hi with
        | none =>
          rw [e2] at R2 hR
          have R2 := Lib.hid R2
          simp at hR
          subst hR
          clear e2
          go_enter Tryd.func47, Tryd.ntmps47
          go_wp2_with (first | (go_at_call 46; refine (C.out _).mono ?_; rintro e wx ⟨rfl, hb⟩) | (go_at_call_of 48 (Value.string (strOfNums xa)); refine (R1.out _).mono ?_; rintro e wy ⟨rfl, rfl⟩) | (go_at_call_of 48 (Value.string (strOfNums xb)); refine (R2.out _).mono ?_; rintro e wz ⟨rfl, rfl⟩))
          go_ret3
          exact ⟨⟨_, _, rfl, fun p h => by cases h⟩, hb⟩
        | some m =>
          rw [e2] at R2 hR
          have R2 := Lib.hid R2
          simp at hR
          subst hR
          clear e2
          go_enter Tryd.func47, Tryd.ntmps47
          go_wp2_with (first | (go_at_call 46; refine (C.out _).mono ?_; rintro e wx ⟨rfl, hb⟩) | (go_at_call_of 48 (Value.string (strOfNums xa)); refine (R1.out _).mono ?_; rintro e wy ⟨rfl, rfl⟩) | (go_at_call_of 48 (Value.string (strOfNums xb)); refine (R2.out _).mono ?_; rintro e wz ⟨rfl, rfl⟩))
          go_ret3
          exact ⟨⟨_, _, rfl, fun p h => by cases h; exact ⟨rfl, rfl⟩⟩, hb⟩

/-- What a part adds. -/
def prS (lo hi : Nat) (xs : List Int) : Option Nat := (prP lo hi xs).map fun p => addR 0 p.1 p.2.2 ((p.2.1 - p.1) / p.2.2 + 1)
theorem prP_in {lo hi : Nat} (h : lo ≤ hi) {xs : List Int} {p : Nat × Nat × Nat} (e : prP lo hi xs = some p) : lo ≤ p.1 ∧ p.1 ≤ p.2.1 ∧ p.2.1 ≤ hi ∧ 1 ≤ p.2.2 := by
  unfold prP at e
  cases e1 : rnP lo hi (cutC 47 xs).2.2 (cutC 47 xs).1 with
  | none => rw [e1] at e; simp at e
  | some q =>
    obtain ⟨f, t⟩ := q
    have b := rnP_in h e1
    rw [e1] at e
    simp only at e b
    split at e
    · split at e
      · simp at e
      · split at e
        · simp at e; subst e; simp only; omega
        · simp at e
    · simp at e; subst e; simp only; omega
theorem full_add {f t : Nat} (h : f ≤ t) : fullF f t = addR 0 f 1 ((t - f) / 1 + 1) := by
  unfold fullF
  rw [Nat.div_one]
  congr 1
  omega

set_option maxHeartbeats 4000000 in
theorem iReadPart (xs : List Int) (lo hi : Nat) (w : World) (h1 : lo ≤ hi) (h9 : hi ≤ 59) (hx : ∀ x ∈ xs, 0 ≤ x ∧ x < 256) (hl : xs.length < 4294967281) :
    Calls Tryd.prog 30 #[.string (strOfNums xs), .int .i64 (lo : Int), .int .i64 (hi : Int)] w fun e w' =>
      e = .returned (.tuple #[.int .i64 (((prS lo hi xs).getD 0 : Nat) : Int), .bool (prS lo hi xs).isSome]) ∧ Below w.heap.size w w' := by
  generalize hR : prS lo hi xs = R
  unfold prS prP at hR
  obtain ⟨bd1, bd2⟩ := cutC_bd (c := 47) hx
  obtain ⟨ln1, ln2⟩ := cutC_len (c := 47) (t := xs)
  have C := fun W => iCutAt xs hx hl 47 47 rfl W
  have R1 := fun st W => iReadRun (cutC 47 xs).1 lo hi st W bd1 (by omega)
  have R2 := fun W => iReadNumber (strOfNums (cutC 47 xs).2.1) 1 59 W (by rw [strOfNums_size]; omega)
  simp only [nms_of bd2] at R2
  generalize cutC 47 xs = q at *
  obtain ⟨xa, xb, xc⟩ := q
  simp only at *
  have C := Lib.hid C
  have R1 := R1 xc
  clear hx hl bd1 bd2 ln1 ln2
  cases e1 : rnP lo hi xc xa with
  | none =>
    rw [e1] at R1 hR
    simp only [Option.map_none] at hR
    subst hR
    have R1 := Lib.hid R1
    clear R2 e1
    go_enter Tryd.func30, Tryd.ntmps30
    go_wp2_with (first | (go_at_call 46; refine (C.out _).mono ?_; rintro e wx ⟨rfl, hb⟩) | (go_at_call 47; refine (R1.out _).mono ?_; rintro e wy ⟨⟨a, b, rfl, hp⟩, hb2⟩))
    go_ret2
    exact ⟨rfl, hb.trans (hb2.mono hb.size)⟩
  | some q =>
    obtain ⟨f, t⟩ := q
    have bb := rnP_in h1 e1
    simp only at bb
    rw [e1] at R1 hR
    have R1 := Lib.hid R1
    have RN := fun W => iRunOf f t W (by omega) (by omega)
    clear e1
    cases xc with
    | false =>
      simp at hR
      rw [← Nat.div_one (t - f), ← full_add bb.2.1] at hR
      subst hR
      clear R2
      go_enter Tryd.func30, Tryd.ntmps30
      go_wp2_with fail
      refine (C.out _).mono ?_
      rintro e wx ⟨rfl, hb⟩
      go_wp2_with fail
      refine (R1.out _).mono ?_
      rintro e wy ⟨⟨a, b, rfl, hp⟩, hb2⟩
      obtain ⟨rfl, rfl⟩ := hp _ rfl
      have hb := hb.trans (hb2.mono hb.size)
      simp only at *
      go_wp2_with (go_at_call 20; refine (RN _).mono ?_; rintro e wz ⟨rfl, hb3⟩)
      go_ret2
      exact ⟨rfl, hb.trans (hb3.mono hb.size)⟩
    | true =>
      cases e2 : nmR xb 1 59 with
      | none =>
        have e3 : R = none := by
          unfold nmR at e2
          simp only [if_true] at hR
          cases e4 : num1 xb with
          | none => rw [e4] at hR; simpa using hR.symm
          | some n =>
            rw [e4] at hR e2
            simp only at hR e2
            by_cases c : 1 ≤ n ∧ n ≤ 59
            · rw [if_pos (by omega)] at e2; simp at e2
            · rw [if_neg c] at hR; simpa using hR.symm
        subst e3
        rw [e2] at R2
        have R2 := Lib.hid R2
        clear RN hR e2
        go_enter Tryd.func30, Tryd.ntmps30
        go_wp2_with fail
        refine (C.out _).mono ?_
        rintro e wx ⟨rfl, hb⟩
        go_wp2_with fail
        refine (R1.out _).mono ?_
        rintro e wy ⟨⟨a, b, rfl, hp⟩, hb2⟩
        obtain ⟨rfl, rfl⟩ := hp _ rfl
        have hb := hb.trans (hb2.mono hb.size)
        simp only at *
        go_wp2_with (go_at_call 48; refine (R2.out _).mono ?_; rintro e wz ⟨rfl, rfl⟩)
        go_ret2
        exact ⟨rfl, hb⟩
      | some n =>
        have e3 : R = some (addR 0 f n ((t - f) / n + 1)) ∧ 1 ≤ n ∧ n ≤ 59 := by
          unfold nmR at e2
          simp only [if_true] at hR
          cases e4 : num1 xb with
          | none => rw [e4] at e2; simp at e2
          | some m =>
            rw [e4] at hR e2
            simp only at hR e2
            by_cases c : 1 ≤ m ∧ m ≤ 59
            · rw [if_pos (by omega)] at e2
              simp at e2; subst e2
              rw [if_pos c] at hR
              exact ⟨by simpa using hR.symm, c⟩
            · rw [if_neg (by omega)] at e2; simp at e2
        obtain ⟨e3, n1, n9⟩ := e3
        subst e3
        rw [e2] at R2
        have R2 := Lib.hid R2
        have SO := fun W => iStepsOf f t n W bb.2.1 (by omega) n1 n9
        clear RN hR e2
        go_enter Tryd.func30, Tryd.ntmps30
        go_wp2_with fail
        refine (C.out _).mono ?_
        rintro e wx ⟨rfl, hb⟩
        go_wp2_with fail
        refine (R1.out _).mono ?_
        rintro e wy ⟨⟨a, b, rfl, hp⟩, hb2⟩
        obtain ⟨rfl, rfl⟩ := hp _ rfl
        have hb := hb.trans (hb2.mono hb.size)
        simp only at *
        go_wp2_with (first | (go_at_call 48; refine (R2.out _).mono ?_; rintro e wz ⟨rfl, rfl⟩) | (go_at_call 49; refine (SO _).mono ?_; rintro e wz ⟨rfl, rfl⟩))
        go_ret2
        exact ⟨rfl, hb⟩

theorem rdL_or {lo hi : Nat} (h : lo ≤ hi) : ∀ (p : List Int) (ps : List (List Int)) (S : Nat), rdL lo hi (p :: ps) S = match prS lo hi p with
    | none => none
    | some T => rdL lo hi ps (S ||| T) := by
  intro p ps S
  rw [rdL]
  unfold prS
  cases e : prP lo hi p with
  | none => rfl
  | some q =>
    obtain ⟨f, t, s⟩ := q
    have b := prP_in h e
    simp only at b
    simp only [Option.map_some]
    rw [← addR_or s b.2.2.2, Nat.or_zero]
theorem prS_in {lo hi : Nat} (h : lo ≤ hi) (h9 : hi ≤ 59) {xs : List Int} {T : Nat} (e : prS lo hi xs = some T) : T < 2 ^ 60 := by
  unfold prS at e
  cases e1 : prP lo hi xs with
  | none => rw [e1] at e; simp at e
  | some q =>
    obtain ⟨f, t, s⟩ := q
    have b := prP_in h e1
    simp only at b
    rw [e1] at e
    simp at e
    subst e
    exact inF_lt (addR_in (S := 0) (lo := lo) (hi := hi) b.2.2.2 (fun n hn => by simp at hn) b.1 b.2.1 b.2.2.1).1 h9

set_option maxHeartbeats 8000000 in
theorem iReadFieldN (s : ByteArray) (lo hi : Nat) (w : World) (h1 : lo ≤ hi) (h9 : hi ≤ 59) (hs : s.size ≤ 1000000000) :
    Calls Tryd.prog 13 #[.string s, .int .i64 (lo : Int), .int .i64 (hi : Int)] w fun e w' =>
      e = .returned (.tuple #[.int .i64 (((rd lo hi (nms s) 0).getD 0 : Nat) : Int), .bool (rd lo hi (nms s) 0).isSome]) ∧ Below w.heap.size w w' := by
  rw [rd_pieces _ (nms s) (Nat.le_refl _) 0]
  have hfd : fdB (lo : Int) (hi : Int) = true := by unfold fdB; simp; omega
  have C := fun W => iIsField (lo : Int) (hi : Int) W
  rw [hfd] at C
  have SP := fun W => iSplit1 s 44 W (by omega)
  have e44 : ((44 : UInt8).toNat : Int) = 44 := rfl
  rw [e44] at SP
  have bd := splC_bd (c := 44) (nms_bd s)
  obtain ⟨ln0, ln1⟩ := splC_len (c := 44) (t := nms s)
  rw [nms_size] at ln0 ln1
  have hne := splC_ne 44 (nms s)
  generalize hP : splC 44 (nms s) = ps at *
  generalize hR : rdL lo hi ps 0 = R
  have HR := Lib.hid hR
  have BD := Lib.hid bd; have LN := Lib.hid ln1; have C := Lib.hid C; have SP := Lib.hid SP
  clear hR hP bd ln1 hfd e44
  go_enter Tryd.func13, Tryd.ntmps13
  go_wp2_with (first | (go_at_call 28; refine (C.out _).mono ?_; rintro e wx ⟨rfl, rfl⟩) | (go_at_call 29; refine (SP.out _).mono ?_; rintro e wy ⟨rfl, rfl⟩))
  have hcell : ∀ (j : Nat) (x : List Int), ps[j]? = some x → (w.alloc (.cells (ps.map strV).toArray 9)).cell? ⟨w.heap.size, j, none⟩ = some (.string (strOfNums x)) := by
    intro j x hj
    rw [World.cell?_alloc_new]
    simp [hj, strV]
  have hb : Below w.heap.size w (w.alloc (.cells (ps.map strV).toArray 9)) := (Below.refl _ _).alloc (Nat.le_refl _) _
  have hsz : w.heap.size < (w.alloc (.cells (ps.map strV).toArray 9)).heap.size := by simp
  generalize w.alloc (.cells (ps.map strV).toArray 9) = wy at hcell hb hsz ⊢
  have HC := Lib.hid hcell
  clear hcell
  go_loopg [8, 20] ps.length (fun q sv kv wr => ∃ (S k : Nat), sv = .int .i64 (S : Int) ∧ kv = .int .i64 (k : Int) ∧ k + q = ps.length ∧ S < 2 ^ 60 ∧ rdL lo hi (ps.drop k) S = R ∧ Below wy.heap.size wy wr)
  case atStart => exact ⟨0, 0, rfl, rfl, by omega, by omega, by rw [List.drop_zero]; exact HR.out, Below.refl _ _⟩
  case round =>
    obtain ⟨S, k, rfl, rfl, hk, hS, hR, hbr⟩ := hrel
    have HRR := Lib.hid hR; clear hR
    have hzr := hbr.size
    by_cases h : k < ps.length
    · obtain ⟨q, rfl⟩ : ∃ q, gk = q + 1 := ⟨gk - 1, by omega⟩
      have hp : ps[k]? = some ps[k] := List.getElem?_eq_getElem h
      have hc : wr.cell? ⟨w.heap.size, k, none⟩ = some (.string (strOfNums ps[k])) := (Below_at hbr _ k hsz).trans (HC.out k _ hp)
      have e := HRR.out
      rw [List.drop_eq_getElem_cons h, rdL_or h1] at e
      have m : ps[k] ∈ ps := List.getElem_mem h
      have RP := fun W => iReadPart ps[k] lo hi W h1 h9 (BD.out _ m) (by have := LN.out _ m; omega)
      generalize ps[k] = p at *
      have k' : (k : Int) < (ps.length : Int) := by omega
      cases e1 : prS lo hi p with
      | none =>
        rw [e1] at RP e
        simp only at e
        subst e
        have RP := Lib.hid RP
        clear e1 m hp HRR HR
        go_wp2_with (go_at_call 30; refine (RP.out _).mono ?_; rintro e wz ⟨rfl, hb2⟩)
        go_ret2
        exact ⟨rfl, hb.trans ((hbr.trans (hb2.mono hzr)).mono hb.size)⟩
      | some T =>
        have hT := prS_in h1 h9 e1
        rw [e1] at RP e
        simp only at e
        have RP := Lib.hid RP
        have HE := Lib.hid e
        have OR := Lib.hid (i64_or S T (by omega) (by omega))
        clear e1 m hp HRR HR e
        go_wp2_with (go_at_call 30; refine (RP.out _).mono ?_; rintro e wz ⟨rfl, hb2⟩)
        go_roundg q
        case measure => omega
        case rel => exact ⟨S ||| T, k + 1, by rw [← OR.out] <;> rfl, by go_num, by omega, Nat.or_lt_two_pow hS hT, HE.out, hbr.trans (hb2.mono hzr)⟩
    · have e := HRR.out
      rw [List.drop_of_length_le (by omega)] at e
      simp only [rdL] at e
      subst e
      have k' : ¬ (k : Int) < (ps.length : Int) := by omega
      go_wp2
      go_ret2
      exact ⟨rfl, hb.trans (hbr.mono hb.size)⟩

theorem iReadField (s : ByteArray) (lo hi : Int) (w : World) (hs : s.size ≤ 1000000000) :
    Calls Tryd.prog 13 #[.string s, .int .i64 lo, .int .i64 hi] w fun e w' => e = .returned (.tuple #[.int .i64 (((fdRd s lo hi).getD 0 : Nat) : Int), .bool (fdRd s lo hi).isSome]) ∧ Below w.heap.size w w' := by
  cases c : fdB lo hi
  · have e : fdRd s lo hi = none := by unfold fdRd; rw [c]; rfl
    rw [e]
    have C := Lib.hid c; clear c e
    go_enter Tryd.func13, Tryd.ntmps13
    go_wp2_with (go_at_call 28; refine (iIsField _ _ _).mono ?_; rw [C.out]; rintro e wx ⟨rfl, rfl⟩)
    go_ret2
    exact ⟨rfl, Below.refl _ _⟩
  · have e : fdRd s lo hi = rd lo.toNat hi.toNat (nms s) 0 := by unfold fdRd; rw [c, if_pos rfl]
    rw [e]
    obtain ⟨h0, h1, h9⟩ := fd_yes c
    have := iReadFieldN s lo.toNat hi.toNat w (by omega) (by omega) hs
    rwa [show ((lo.toNat : Nat) : Int) = lo by omega, show ((hi.toNat : Nat) : Int) = hi by omega] at this
end Go.Proofs.YtlpodfachgnkhaaDoor
