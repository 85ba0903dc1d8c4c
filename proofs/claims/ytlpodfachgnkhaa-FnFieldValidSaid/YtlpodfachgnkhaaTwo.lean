/-
  TWO DIGITS, of the model, and the rules of texts that the walks lay.
-/
import Derived.Test.YtlpodfachgnkhaaText
import Derived.Test.YtlpodfachgnkhaaDays
import Derived.Test.YtlpodfachgnkhaaKeep
import Derived.Test.YtlpodfachgnkhaaCalm
import Derived.IntWalk
import Derived.LoopN
set_option linter.unusedVariables false
set_option linter.unusedSimpArgs false
namespace Go.Proofs.Ytlpodfachgnkhaa
open Go.ChangeShapes Go.WideShapes Go.ChangeAt Go.RowKit Cal

theorem ret_str {a b : ByteArray} (h : a = b) : Ending.returned (.string a) = .returned (.string b) := by rw [h]

/-- Two bytes become a text. -/
theorem conv2 (W : World) (x y : Int) : Sem.run Try.prog (convert 22 9 (.slice (some ⟨W.heap.size, 0, none⟩) 2 2)) (W.alloc (.cells #[.int .u8 x, .int .u8 y] 5)) = .ok (.string (strOfNums [x, y])) (W.alloc (.cells #[.int .u8 x, .int .u8 y] 5)) :=
  run_convert_bytes_arg _ 22 5 (by kernel_rfl) (by kernel_rfl) W.heap.size 0 2 2 [x, y] rfl (fun i hi => by
    rw [World.cell?_alloc_new]
    match i, hi with
    | 0, _ => rfl
    | 1, _ => rfl) 9 (by kernel_rfl)

theorem d2_len (n : Int) : (d2 n).length = 2 := rfl
theorem k45 : (⟨#[45]⟩ : ByteArray) = strOfNums [45] := rfl
theorem k84 : (⟨#[84]⟩ : ByteArray) = strOfNums [84] := rfl
theorem k58 : (⟨#[58]⟩ : ByteArray) = strOfNums [58] := rfl
theorem k43 : (⟨#[43]⟩ : ByteArray) = strOfNums [43] := rfl
theorem k0 : (⟨#[]⟩ : ByteArray) = strOfNums [] := rfl
theorem k90 : (⟨#[90]⟩ : ByteArray) = strOfNums [90] := rfl

end Go.Proofs.Ytlpodfachgnkhaa
