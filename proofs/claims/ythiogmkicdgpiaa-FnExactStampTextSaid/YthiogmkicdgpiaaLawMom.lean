/-
  CONTRACTS OF THE LAWS' OWN FUNCTIONS ON STAMPS.
-/
import Derived.Test.YthiogmkicdgpiaaMoms
set_option linter.unusedVariables false
set_option linter.unusedSimpArgs false
namespace Go.Proofs.Ythiogmkicdgpiaa
open Go.ChangeShapes Go.WideShapes Go.ChangeAt Go.RowKit Cal

theorem six_of {zs : List Int} (h : zs.length = 6) : ∃ a b c d e f, zs = [a, b, c, d, e, f] := by
  match zs, h with
  | [a, b, c, d, e, f], _ => exact ⟨a, b, c, d, e, f, rfl⟩

theorem made_at {W W1 : World} (hb : Below W.heap.size W W1) (v0 v1 v2 v3 v4 v5 : Value) (T : TypeId) :
    Below W.heap.size W (W1.alloc (.cells #[v0, v1, v2, v3, v4, v5] T)) ∧ W1.heap.size < (W1.alloc (.cells #[v0, v1, v2, v3, v4, v5] T)).heap.size ∧ (W1.alloc (.cells #[v0, v1, v2, v3, v4, v5] T)).cell? ⟨W1.heap.size, 0, none⟩ = some v0 ∧ (W1.alloc (.cells #[v0, v1, v2, v3, v4, v5] T)).cell? ⟨W1.heap.size, 1, none⟩ = some v1 ∧ (W1.alloc (.cells #[v0, v1, v2, v3, v4, v5] T)).cell? ⟨W1.heap.size, 2, none⟩ = some v2 ∧ (W1.alloc (.cells #[v0, v1, v2, v3, v4, v5] T)).cell? ⟨W1.heap.size, 3, none⟩ = some v3 ∧ (W1.alloc (.cells #[v0, v1, v2, v3, v4, v5] T)).cell? ⟨W1.heap.size, 4, none⟩ = some v4 ∧ (W1.alloc (.cells #[v0, v1, v2, v3, v4, v5] T)).cell? ⟨W1.heap.size, 5, none⟩ = some v5 := by
  have k := made (W := W1) v0 v1 v2 v3 v4 v5 T
  exact ⟨hb.trans (k.1.mono hb.size), k.2⟩

theorem toStamp_any (y m d h i s : Int) (w : World) :
    Calls Try.prog 25 #[(.agg #[.int .i64 (y), .int .i64 (m), .int .i64 (d), .int .i64 (h), .int .i64 (i), .int .i64 (s)])] w fun e w' => e = .returned (.agg #[.int .i64 (y), .int .i64 (m), .int .i64 (d), .int .i64 (h), .int .i64 (i), .int .i64 (s)]) ∧ Below w.heap.size w w' := by
  go_enter Try.func25, Try.ntmps25
  go_wp2
  ((try simp only [Exit.inBlock, Exit.then]); refine bodyPost_ret (v := (.agg #[.int .i64 (_), .int .i64 (_), .int .i64 (_), .int .i64 (_), .int .i64 (_), .int .i64 (_)])) (by simp [results, Try.results25, go_sem, *]; first | exact ⟨rfl, rfl, rfl, rfl, rfl, rfl⟩ | rfl) rfl ?_)
  exact ⟨rfl, (by repeat' (first | with_reducible assumption | with_reducible exact Below.refl _ _ | with_reducible refine Below.setCell ?_ ?_ _ | with_reducible refine Below.alloc ?_ ?_ _ | with_reducible apply Below.drew | with_reducible apply Below.drewn | (simp; done) | (simp; omega)))⟩

theorem eqStamp_same (y m d h i s : Int) (w : World) :
    Calls Try.prog 26 #[(.agg #[.int .i64 (y), .int .i64 (m), .int .i64 (d), .int .i64 (h), .int .i64 (i), .int .i64 (s)]), (.agg #[.int .i64 (y), .int .i64 (m), .int .i64 (d), .int .i64 (h), .int .i64 (i), .int .i64 (s)])] w fun e w' => e = .returned (.bool true) ∧ Below w.heap.size w w' := by
  go_enter Try.func26, Try.ntmps26
  go_wp2
  go_ret
  exact ⟨rfl, (by repeat' (first | with_reducible assumption | with_reducible exact Below.refl _ _ | with_reducible refine Below.setCell ?_ ?_ _ | with_reducible refine Below.alloc ?_ ?_ _ | with_reducible apply Below.drew | with_reducible apply Below.drewn | (simp; done) | (simp; omega)))⟩
end Go.Proofs.Ythiogmkicdgpiaa
