/-
  A REGION THAT DRAWS ITS ORDER, WHOSE OWN OPERATIONS ONLY READ, AND WHOSE CALLEES KEEP WHAT IS SAID OF THE WORLD: one walk, in the order of the text, in whatever world of which that is said.
-/
import Derived.BigQuiet
set_option linter.unusedVariables false
set_option linter.unusedSimpArgs false
namespace Go.Proofs.YtlpodfachgnkhaaDoor
open Go

/-- The worlds of which S says so are the values of W. -/
theorem wp_region_calm {P : Program} {id : Nat} {Q : Exit → Act → World → Prop} {a : Act} {w : World} {l : List Oper} (S : World → Prop) (hm : P.follows .mixedOrders = true) (hB : Region.lexB .any l.toArray = true) (hS : S w.drew)
    (h : ∀ (I : Type) (W : I → World), Nonempty I → (∀ x, S (W x)) → (∀ w', S w' → ∃ x, w' = W x) → wpQuiet P l.toArray (fun w' => ∃ x, w' = W x) (fun a' => ∀ w', (∃ x, w' = W x) → Q .normal a' w') l a) : (Code.region id l.toArray true).wp P Q a w := by
  have h := h {w' // S w'} (fun x => x.1) ⟨⟨_, hS⟩⟩ (fun x => x.2) (fun w' hw => ⟨⟨w', hw⟩, rfl⟩)
  exact wp_region_quiet (C := fun w' => ∃ x : {w' // S w'}, w' = x.1) hm hB ⟨⟨_, hS⟩, rfl⟩ (by simpa using h)
end Go.Proofs.YtlpodfachgnkhaaDoor
