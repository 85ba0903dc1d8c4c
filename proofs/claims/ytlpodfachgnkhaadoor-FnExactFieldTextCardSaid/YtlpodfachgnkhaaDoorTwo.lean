/-
  TWO DIGITS, of the model, and the rules of texts that the walks lay.
-/
import Derived.Test.YtlpodfachgnkhaaDoorText
import Derived.Test.YtlpodfachgnkhaaDoorDays
import Derived.Test.YtlpodfachgnkhaaDoorKeep
import Derived.Test.YtlpodfachgnkhaaDoorCalm
import Derived.IntWalk
import Derived.LoopN
set_option linter.unusedVariables false
set_option linter.unusedSimpArgs false
namespace Go.Proofs.YtlpodfachgnkhaaDoor
open Go.ChangeShapes Go.WideShapes Go.ChangeAt Go.RowKit Cal

theorem ret_str {a b : ByteArray} (h : a = b) : Ending.returned (.string a) = .returned (.string b) := by rw [h]

/-- Two bytes become a text. -/
theorem conv2 (W : World) (x y : Int) : Sem.run Tryd.prog (convert 22 9 (.slice (some ⟨W.heap.size, 0, none⟩) 2 2)) (W.alloc (.cells #[.int .u8 x, .int .u8 y] 5)) = .ok (.string (strOfNums [x, y])) (W.alloc (.cells #[.int .u8 x, .int .u8 y] 5)) :=
  run_convert_bytes_arg _ 22 5 (by kernel_rfl) (by kernel_rfl) W.heap.size 0 2 2 [x, y] rfl (fun i hi => by
    rw [World.cell?_alloc_new]
    match i, hi with
    | 0, _ => rfl
    | 1, _ => rfl) 9 (by kernel_rfl)

set_option maxHeartbeats 4000000 in
theorem sTwo (n : Int) (w : World) (h0 : 0 ≤ n) (h9 : n ≤ 99999) :
    Calls Tryd.prog 41 #[.int .i64 n] w fun e w' => e = .returned (.string (strOfNums (d2 n))) ∧ Below w.heap.size w w' := by
  have q1 : n.tdiv 10 = n / 10 := Int.tdiv_eq_ediv_of_nonneg h0
  have q2 : n.tmod 10 = n % 10 := Int.tmod_eq_emod_of_nonneg h0
  have q3 : (n / 10).tmod 10 = n / 10 % 10 := Int.tmod_eq_emod_of_nonneg (by omega)
  have CV := conv2
  go_enter Tryd.func41, Tryd.ntmps41
  go_wp2
  go_ret
  exact ⟨ret_str rfl, (by repeat' (first | with_reducible assumption | with_reducible exact Below.refl _ _ | with_reducible refine Below.setCell ?_ ?_ _ | with_reducible refine Below.alloc ?_ ?_ _ | with_reducible apply Below.drew | with_reducible apply Below.drewn | (simp; done) | (simp; omega)))⟩

theorem d2_len (n : Int) : (d2 n).length = 2 := rfl
theorem k45 : (⟨#[45]⟩ : ByteArray) = strOfNums [45] := rfl
theorem k84 : (⟨#[84]⟩ : ByteArray) = strOfNums [84] := rfl
theorem k58 : (⟨#[58]⟩ : ByteArray) = strOfNums [58] := rfl
theorem k43 : (⟨#[43]⟩ : ByteArray) = strOfNums [43] := rfl
theorem k0 : (⟨#[]⟩ : ByteArray) = strOfNums [] := rfl
theorem k90 : (⟨#[90]⟩ : ByteArray) = strOfNums [90] := rfl

end Go.Proofs.YtlpodfachgnkhaaDoor
