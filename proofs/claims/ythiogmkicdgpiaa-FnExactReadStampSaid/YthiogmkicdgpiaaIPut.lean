/-
  THE PROGRAM'S DIGITS (17568f05): numberIn and putNumber; rows of bytes that are written.
-/
import Derived.Test.YthiogmkicdgpiaaNum
import Derived.Test.YthiogmkicdgpiaaTwo
set_option linter.unusedVariables false
set_option linter.unusedSimpArgs false
namespace Go.Proofs.Ythiogmkicdgpiaa
open Go.ChangeShapes Go.WideShapes Go.ChangeAt Go.RowKit Cal

set_option maxHeartbeats 4000000 in
theorem iNumberIn (s : ByteArray) (w : World) (hs : s.size ≤ 4) :
    Calls Try.prog 35 #[.string s] w fun e w' => e = .returned (.int .i64 (nin (nms s) 0)) ∧ w = w' := by
  generalize hR : nin (nms s) 0 = R
  have HR := Lib.hid hR
  clear hR
  go_enter Try.func35, Try.ntmps35
  go_wp2
  go_loop [3, 7] (fun nv kv => ∃ (k : Nat) (n : Int), kv = .int .i64 k ∧ nv = .int .i64 n ∧ k ≤ s.size ∧ (0 ≤ n ∧ n + 29 ≤ 29 * 10 ^ k) ∧ nin ((nms s).drop k) n = R) (fun _ kv => (s.size - (intOf kv).toNat))
  case atStart => exact ⟨0, 0, rfl, rfl, by omega, by simp, by rw [List.drop_zero]; exact HR.out⟩
  case round =>
    obtain ⟨k, n, rfl, rfl, hk, ⟨hn0, hn9⟩, hR⟩ := hrel
    have HR2 := Lib.hid hR
    clear hR
    by_cases h : k < s.size
    · have e : nin ((s[k].toNat : Int) :: (nms s).drop (k + 1)) n = R := by
        rw [← nms_at h]
        exact HR2.out
      simp only [nin] at e
      have E := Lib.hid e
      clear e
      have hb := s[k].toNat_lt
      have p : (10 : Int) ^ (k + 1) = 10 ^ k * 10 := Int.pow_succ ..
      have p9 : (10 : Int) ^ k ≤ 1000 := by
        have : k = 0 ∨ k = 1 ∨ k = 2 ∨ k = 3 := by omega
        rcases this with rfl | rfl | rfl | rfl <;> decide
      have p1 : (1 : Int) ≤ 10 ^ k := Int.pow_pos (by omega)
      generalize hG : (10 : Int) ^ (k + 1) = G at *
      have HG := Lib.hid hG
      clear hG
      generalize (10 : Int) ^ k = P at *
      go_wp2
      all_goals
        go_round
        case rel => exact ⟨k + 1, 10 * n + ((s[k].toNat : Int) - 48) % 256, by go_num, by go_num, by omega, by rw [HG.out]; omega, E.out⟩
        case measure => simp [intOf]; omega
    · have eR : n = R := by
        have := HR2.out
        rw [List.drop_of_length_le (by rw [nms_size]; omega)] at this
        simpa [nin] using this
      obtain rfl : k = s.size := by omega
      go_wp2
      go_ret
      exact ⟨ret_int (by first | rfl | exact eR), rfl⟩

/-- A block of bytes that may be written: cell i, where i is below S, holds f i. -/
def BR (w : World) (b S : Nat) (f : Nat → Int) : Prop := b < w.heap.size ∧ ∀ i, i < S → w.cell? ⟨b, i, none⟩ = some (.int .u8 (f i)) ∧ w.frozen? ⟨b, i, none⟩ = false
theorem BR.set {w : World} {b S : Nat} {f : Nat → Int} (h : BR w b S f) {i : Nat} (hi : i < S) {x : Int} : BR (w.setCell ⟨b, i, none⟩ (.int .u8 x)) b S (fun j => if j = i then x else f j) := by
  refine ⟨by rw [World.size_setCell]; exact h.1, fun j hj => ?_⟩
  obtain ⟨c, g⟩ := h.2 j hj
  refine ⟨?_, by rw [World.frozen?_setCell]; exact g⟩
  show _ = some (Value.int .u8 (if j = i then x else f j))
  by_cases e : j = i
  · subst e
    rw [World.cell?_setCell_same _ _ _ c, if_pos rfl]
  · rw [World.cell?_setCell_other _ _ _ _ (by first | (simp; done) | (simp; omega)), if_neg e]
    exact c
theorem BR.congr {w : World} {b S : Nat} {f g : Nat → Int} (h : BR w b S f) (e : ∀ i, i < S → f i = g i) : BR w b S g := ⟨h.1, fun i hi => by rw [← e i hi]; exact h.2 i hi⟩
/-- A row after n has been put into its cells o up to o + len. -/
def putF (f : Nat → Int) (o len : Nat) (n : Int) : Nat → Int := fun j => if o ≤ j ∧ j < o + len then 48 + n / 10 ^ (o + len - 1 - j) % 10 else f j

set_option maxHeartbeats 4000000 in
theorem iPut (b o len cap : Nat) (n : Int) (w : World) (S : Nat) (f : Nat → Int) (h : BR w b S f) (ho : o + len ≤ S) (hl : len ≤ 4 ∧ len ≤ cap) (hn : 0 ≤ n ∧ n ≤ 99999) :
    Calls Try.prog 30 #[Value.slice (some ⟨b, o, none⟩) len cap, Value.int .i64 n] w fun e w' => e = .returned (.tuple #[]) ∧ BR w' b S (putF f o len n) ∧ Below b w w' := by
  go_enter Try.func30, Try.ntmps30
  go_wp2
  go_loopw [4, 1] (fun iv nv wr => ∃ (k : Nat) (m : Int), iv = .int .i64 ((k : Int) - 1) ∧ nv = .int .i64 m ∧ k ≤ len ∧ (0 ≤ m ∧ m ≤ 99999) ∧ m = n / 10 ^ (len - k) ∧ BR wr b S (fun j => if o + k ≤ j ∧ j < o + len then 48 + n / 10 ^ (o + len - 1 - j) % 10 else f j) ∧ Below b w wr) (fun iv _ _ => (intOf iv + 1).toNat)
  case atStart => 
    refine ⟨len, n, by go_num, rfl, by omega, by omega, by rw [Nat.sub_self]; simp, ?_, Below.refl _ _⟩
    exact h.congr fun i hi => by rw [if_neg (by omega)]
  case round =>
    obtain ⟨k, m, rfl, rfl, hk, ⟨m0, m9⟩, hm, hB, hw⟩ := hrel
    have HM := Lib.hid hm
    clear hm
    by_cases h1 : 1 ≤ k
    · obtain ⟨q, rfl⟩ : ∃ q, k = q + 1 := ⟨k - 1, by omega⟩
      obtain ⟨c1, f1⟩ := hB.2 (o + q) (by omega)
      simp only [if_neg (show ¬ (o + (q + 1) ≤ o + q ∧ o + q < o + len) by omega)] at c1
      have HB := Lib.hid hB
      clear hB
      have q1 : m.tmod 10 = m % 10 := Int.tmod_eq_emod_of_nonneg m0
      have q2 : m.tdiv 10 = m / 10 := Int.tdiv_eq_ediv_of_nonneg m0
      have q3 : ((q + 1 : Nat) : Int) - 1 = q := by omega
      have q4 : (q : Int) < len := by omega
      have q5 : (0 : Int) ≤ q := by omega
      rw [q3]
      go_wp2
      go_roundw
      case rel =>
        refine ⟨q, m / 10, by go_num, rfl, by omega, by omega, ?_, ?_, hw.setCell (p := ⟨b, o + q, none⟩) (Nat.le_refl _) _⟩
        · rw [HM.out, Int.ediv_ediv_of_nonneg (by exact Int.pow_nonneg (by omega)), show len - q = len - (q + 1) + 1 by omega, Int.pow_succ]
        · refine (HB.out.set (show o + q < S by omega)).congr fun i hi => ?_
          by_cases e : i = o + q
          · rw [if_pos e, if_pos (by omega), HM.out, show o + len - 1 - i = len - (q + 1) by omega]
          · rw [if_neg e]
            by_cases g : o + (q + 1) ≤ i ∧ i < o + len
            · rw [if_pos g, if_pos (by omega)]
            · rw [if_neg g, if_neg (by omega)]
      case measure => simp [intOf]
    · obtain rfl : k = 0 := by omega
      go_wp2
      go_end0
      exact ⟨rfl, hB.congr fun i _ => by unfold putF; rw [Nat.add_zero], hw⟩
end Go.Proofs.Ythiogmkicdgpiaa
