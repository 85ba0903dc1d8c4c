/-
  WHAT DRAWN REGIONS WITH TABLES ARE WALKED BY.
-/
import Derived.Test.YtlpodfachgnkhaaDoorDraw
set_option linter.unusedVariables false
set_option linter.unusedSimpArgs false
namespace Go.Proofs.YtlpodfachgnkhaaDoor
open Go.ChangeShapes Go.WideShapes Go.ChangeAt Go.RowKit Law

theorem Moved.drewr {r : Nat} {a b : World} (h : Moved r a b) : Moved r a b.drew := h

/-- A table's entry at a drawn place. -/
theorem tab_rule (l : List Value) (lo hi m : Int) (hn : (l.map intOf).map (Value.int .i64) = l) (h0 : 0 ≤ m) (h9 : m < l.length) (hb : ∀ x ∈ l.map intOf, lo ≤ x ∧ x ≤ hi) :
    ∃ x : Int, lo ≤ x ∧ x ≤ hi ∧ ∀ h : m.toNat < l.length, l[m.toNat]'h = .int .i64 x := by
  have hl : m.toNat < (l.map intOf).length := by simp; omega
  have hl' : m.toNat < l.length := by omega
  have hx := hb _ (List.getElem_mem hl)
  have e : l[m.toNat]? = some (.int .i64 ((l.map intOf)[m.toNat]'hl)) := by
    have h2 : ((l.map intOf).map (Value.int .i64))[m.toNat]? = some (.int .i64 ((l.map intOf)[m.toNat]'hl)) := by
      rw [List.getElem?_map, List.getElem?_eq_getElem hl]; rfl
    rw [hn] at h2; exact h2
  exact ⟨(l.map intOf)[m.toNat]'hl, hx.1, hx.2, fun h => by have := List.getElem?_eq_getElem h; rw [e] at this; exact (Option.some.inj this).symm⟩

/-- What a stamp's block holds stays where a reader moves on, and where a block is made. -/
theorem keptM {r b : Nat} {w1 w2 : World} {v0 v1 v2 v3 v4 v5 : Value} (k : Moved r w1 w2) (hb : b ≠ r) (h : b < w1.heap.size ∧ w1.cell? ⟨b, 0, none⟩ = some v0 ∧ w1.cell? ⟨b, 1, none⟩ = some v1 ∧ w1.cell? ⟨b, 2, none⟩ = some v2 ∧ w1.cell? ⟨b, 3, none⟩ = some v3 ∧ w1.cell? ⟨b, 4, none⟩ = some v4 ∧ w1.cell? ⟨b, 5, none⟩ = some v5) :
    b < w2.heap.size ∧ w2.cell? ⟨b, 0, none⟩ = some v0 ∧ w2.cell? ⟨b, 1, none⟩ = some v1 ∧ w2.cell? ⟨b, 2, none⟩ = some v2 ∧ w2.cell? ⟨b, 3, none⟩ = some v3 ∧ w2.cell? ⟨b, 4, none⟩ = some v4 ∧ w2.cell? ⟨b, 5, none⟩ = some v5 := by
  have c : ∀ o, w2.cell? ⟨b, o, none⟩ = w1.cell? ⟨b, o, none⟩ := fun o => k.cell.1 b o h.1 hb
  exact ⟨Nat.lt_of_lt_of_le h.1 k.2.2.2.1, (c 0).trans h.2.1, (c 1).trans h.2.2.1, (c 2).trans h.2.2.2.1, (c 3).trans h.2.2.2.2.1, (c 4).trans h.2.2.2.2.2.1, (c 5).trans h.2.2.2.2.2.2⟩
theorem keptS {b c o : Nat} {w1 : World} {v v0 v1 v2 v3 v4 v5 : Value} (hb : c ≠ b) (h : b < w1.heap.size ∧ w1.cell? ⟨b, 0, none⟩ = some v0 ∧ w1.cell? ⟨b, 1, none⟩ = some v1 ∧ w1.cell? ⟨b, 2, none⟩ = some v2 ∧ w1.cell? ⟨b, 3, none⟩ = some v3 ∧ w1.cell? ⟨b, 4, none⟩ = some v4 ∧ w1.cell? ⟨b, 5, none⟩ = some v5) :
    b < (w1.setCell ⟨c, o, none⟩ v).heap.size ∧ (w1.setCell ⟨c, o, none⟩ v).cell? ⟨b, 0, none⟩ = some v0 ∧ (w1.setCell ⟨c, o, none⟩ v).cell? ⟨b, 1, none⟩ = some v1 ∧ (w1.setCell ⟨c, o, none⟩ v).cell? ⟨b, 2, none⟩ = some v2 ∧ (w1.setCell ⟨c, o, none⟩ v).cell? ⟨b, 3, none⟩ = some v3 ∧ (w1.setCell ⟨c, o, none⟩ v).cell? ⟨b, 4, none⟩ = some v4 ∧ (w1.setCell ⟨c, o, none⟩ v).cell? ⟨b, 5, none⟩ = some v5 := by
  have k : ∀ j, (w1.setCell ⟨c, o, none⟩ v).cell? ⟨b, j, none⟩ = w1.cell? ⟨b, j, none⟩ := fun j => World.cell?_setCell_other _ _ _ _ (by simp [hb])
  exact ⟨by rw [World.size_setCell]; exact h.1, (k 0).trans h.2.1, (k 1).trans h.2.2.1, (k 2).trans h.2.2.2.1, (k 3).trans h.2.2.2.2.1, (k 4).trans h.2.2.2.2.2.1, (k 5).trans h.2.2.2.2.2.2⟩
end Go.Proofs.YtlpodfachgnkhaaDoor
