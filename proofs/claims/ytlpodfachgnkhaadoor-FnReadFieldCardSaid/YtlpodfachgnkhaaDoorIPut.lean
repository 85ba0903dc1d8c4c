/-
  THE PROGRAM'S DIGITS (17568f05): numberIn and putNumber; rows of bytes that are written.
-/
import Derived.Test.YtlpodfachgnkhaaDoorNum
import Derived.Test.YtlpodfachgnkhaaDoorTwo
set_option linter.unusedVariables false
set_option linter.unusedSimpArgs false
namespace Go.Proofs.YtlpodfachgnkhaaDoor
open Go.ChangeShapes Go.WideShapes Go.ChangeAt Go.RowKit Cal

set_option maxHeartbeats 4000000 in
theorem iNumberIn (s : ByteArray) (w : World) (hs : s.size ≤ 4) :
    Calls Tryd.prog 57 #[.string s] w fun e w' => e = .returned (.int .i64 (nin (nms s) 0)) ∧ w = w' := by
  generalize hR : nin (nms s) 0 = R
  have HR := Lib.hid hR
  clear hR
  go_enter Tryd.func57, Tryd.ntmps57
  go_wp2
  go_loop [3, 7] (fun nv kv => ∃ (k : Nat) (n : Int), kv = .int .i64 k ∧ nv = .int .i64 n ∧ k ≤ s.size ∧ (0 ≤ n ∧ n + 29 ≤ 29 * 10 ^ k) ∧ nin ((nms s).drop k) n = R) (fun _ kv => (s.size - (intOf kv).toNat))
  case atStart => exact ⟨0, 0, rfl, rfl, by omega, by simp, by rw [List.drop_zero]; exact HR.out⟩
  case round =>
    obtain ⟨k, n, rfl, rfl, hk, ⟨hn0, hn9⟩, hR⟩ := hrel
    have HR2 := Lib.hid hR
    clear hR
    by_cases h : k < s.size
    · have e : nin ((s[k].toNat : Int) :: (nms s).drop (k + 1)) n = R := by
        rw [← nms_at h]
        exact HR2.out
      simp only [nin] at e
      have E := Lib.hid e
      clear e
      have hb := s[k].toNat_lt
      have p : (10 : Int) ^ (k + 1) = 10 ^ k * 10 := Int.pow_succ ..
      have p9 : (10 : Int) ^ k ≤ 1000 := by
        have : k = 0 ∨ k = 1 ∨ k = 2 ∨ k = 3 := by omega
        rcases this with rfl | rfl | rfl | rfl <;> decide
      have p1 : (1 : Int) ≤ 10 ^ k := Int.pow_pos (by omega)
      generalize hG : (10 : Int) ^ (k + 1) = G at *
      have HG := Lib.hid hG
      clear hG
      generalize (10 : Int) ^ k = P at *
      go_wp2
      all_goals
        go_round
        case rel => exact ⟨k + 1, 10 * n + ((s[k].toNat : Int) - 48) % 256, by go_num, by go_num, by omega, by rw [HG.out]; omega, E.out⟩
        case measure => simp [intOf]; omega
    · have eR : n = R := by
        have := HR2.out
        rw [List.drop_of_length_le (by rw [nms_size]; omega)] at this
        simpa [nin] using this
      obtain rfl : k = s.size := by omega
      go_wp2
      go_ret
      exact ⟨ret_int (by first | rfl | exact eR), rfl⟩

/-- A block of bytes that may be written: cell i, where i is below S, holds f i. -/
def BR (w : World) (b S : Nat) (f : Nat → Int) : Prop := b < w.heap.size ∧ ∀ i, i < S → w.cell? ⟨b, i, none⟩ = some (.int .u8 (f i)) ∧ w.frozen? ⟨b, i, none⟩ = false
theorem BR.set {w : World} {b S : Nat} {f : Nat → Int} (h : BR w b S f) {i : Nat} (hi : i < S) {x : Int} : BR (w.setCell ⟨b, i, none⟩ (.int .u8 x)) b S (fun j => if j = i then x else f j) := by
  refine ⟨by rw [World.size_setCell]; exact h.1, fun j hj => ?_⟩
  obtain ⟨c, g⟩ := h.2 j hj
  refine ⟨?_, by rw [World.frozen?_setCell]; exact g⟩
  show _ = some (Value.int .u8 (if j = i then x else f j))
  by_cases e : j = i
  · subst e
    rw [World.cell?_setCell_same _ _ _ c, if_pos rfl]
  · rw [World.cell?_setCell_other _ _ _ _ (by first | (simp; done) | (simp; omega)), if_neg e]
    exact c
theorem BR.congr {w : World} {b S : Nat} {f g : Nat → Int} (h : BR w b S f) (e : ∀ i, i < S → f i = g i) : BR w b S g := ⟨h.1, fun i hi => by rw [← e i hi]; exact h.2 i hi⟩
/-- A row after n has been put into its cells o up to o + len. -/
def putF (f : Nat → Int) (o len : Nat) (n : Int) : Nat → Int := fun j => if o ≤ j ∧ j < o + len then 48 + n / 10 ^ (o + len - 1 - j) % 10 else f j

end Go.Proofs.YtlpodfachgnkhaaDoor
