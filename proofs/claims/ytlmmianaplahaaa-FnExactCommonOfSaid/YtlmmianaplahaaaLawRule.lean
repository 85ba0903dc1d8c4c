/-
  CONTRACTS OF THE LAWS' OWN FUNCTIONS ON RULES.
-/
import Derived.Test.YtlmmianaplahaaaRules
set_option linter.unusedVariables false
set_option linter.unusedSimpArgs false
namespace Go.Proofs.Ytlmmianaplahaaa
open Go.ChangeShapes Go.WideShapes Go.ChangeAt Go.RowKit Cal

theorem four_at {W W1 : World} (hb : Below W.heap.size W W1) (v0 v1 v2 v3 : Value) (T : TypeId) : (fun w' => Below W.heap.size W w' ∧ w'.cell? ⟨W1.heap.size, 0, none⟩ = some v0 ∧ w'.cell? ⟨W1.heap.size, 1, none⟩ = some v1 ∧ w'.cell? ⟨W1.heap.size, 2, none⟩ = some v2 ∧ w'.cell? ⟨W1.heap.size, 3, none⟩ = some v3) (W1.alloc (.cells #[v0, v1, v2, v3] T)) :=
  ⟨hb.alloc hb.size _, World.cell?_alloc_new _ _ _ _, World.cell?_alloc_new _ _ _ _, World.cell?_alloc_new _ _ _ _, World.cell?_alloc_new _ _ _ _⟩
theorem four_stayB (w : World) (b : Nat) (v0 v1 v2 v3 : Value) : Stays (fun w' => Below w.heap.size w w' ∧ w'.cell? ⟨b, 0, none⟩ = some v0 ∧ w'.cell? ⟨b, 1, none⟩ = some v1 ∧ w'.cell? ⟨b, 2, none⟩ = some v2 ∧ w'.cell? ⟨b, 3, none⟩ = some v3) := four_stays _ _ _ _ _ _

theorem toRule_any (m k d i : Int) (w : World) :
    Calls Try.prog 57 #[(.agg #[.int .i64 (m), .int .i64 (k), .int .i64 (d), .int .i64 (i)])] w fun e w' => e = .returned (.agg #[.int .i64 (m), .int .i64 (k), .int .i64 (d), .int .i64 (i)]) ∧ Below w.heap.size w w' := by
  go_enter Try.func57, Try.ntmps57
  go_wp2
  ((try simp only [Exit.inBlock, Exit.then]); refine bodyPost_ret (v := (.agg #[.int .i64 (_), .int .i64 (_), .int .i64 (_), .int .i64 (_)])) (by simp [results, Try.results57, go_sem, *]; first | exact ⟨rfl, rfl, rfl, rfl⟩ | rfl) rfl ?_)
  exact ⟨rfl, (by repeat' (first | with_reducible assumption | with_reducible exact Below.refl _ _ | with_reducible refine Below.setCell ?_ ?_ _ | with_reducible refine Below.alloc ?_ ?_ _ | with_reducible apply Below.drew | with_reducible apply Below.drewn | (simp; done) | (simp; omega)))⟩
end Go.Proofs.Ytlmmianaplahaaa
