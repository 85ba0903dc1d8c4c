/-
  WHAT STAYS OF A BLOCK OF CELLS, and blocks of six cells.
-/
import Derived.Test.YtlpodfachgnkhaaDoorChecked
import Derived.WalkKit
import Derived.ProofKit
import Derived.Outline
import Derived.Lib.Hide
import Derived.Below
import Derived.Deep.Draws
set_option linter.unusedVariables false
set_option linter.unusedSimpArgs false
namespace Go.Proofs.YtlpodfachgnkhaaDoor
open Go.ChangeShapes Go.WideShapes Go.ChangeAt Go.RowKit

theorem Below_at {B : Nat} {w w' : World} (h : Below B w w') : ∀ b o, b < B → w'.cell? ⟨b, o, none⟩ = w.cell? ⟨b, o, none⟩ := fun b o hb => h.cell (p := ⟨b, o, none⟩) hb
theorem Below_fr {B : Nat} {w w' : World} (h : Below B w w') : ∀ b o, b < B → w'.frozen? ⟨b, o, none⟩ = w.frozen? ⟨b, o, none⟩ := fun b o hb => h.frozen (p := ⟨b, o, none⟩) hb
/-- What a stamp's block holds stays. -/
theorem kept {b : Nat} {W w1 w2 : World} {v0 v1 v2 v3 v4 v5 : Value} (k : Below w1.heap.size w1 w2) (h : Below W.heap.size W w1 ∧ b < w1.heap.size ∧ w1.cell? ⟨b, 0, none⟩ = some v0 ∧ w1.cell? ⟨b, 1, none⟩ = some v1 ∧ w1.cell? ⟨b, 2, none⟩ = some v2 ∧ w1.cell? ⟨b, 3, none⟩ = some v3 ∧ w1.cell? ⟨b, 4, none⟩ = some v4 ∧ w1.cell? ⟨b, 5, none⟩ = some v5) :
    Below W.heap.size W w2 ∧ b < w2.heap.size ∧ w2.cell? ⟨b, 0, none⟩ = some v0 ∧ w2.cell? ⟨b, 1, none⟩ = some v1 ∧ w2.cell? ⟨b, 2, none⟩ = some v2 ∧ w2.cell? ⟨b, 3, none⟩ = some v3 ∧ w2.cell? ⟨b, 4, none⟩ = some v4 ∧ w2.cell? ⟨b, 5, none⟩ = some v5 := by
  have hs := h.1.size
  have ks := k.size
  have c : ∀ o, w2.cell? ⟨b, o, none⟩ = w1.cell? ⟨b, o, none⟩ := fun o => Below_at k b o h.2.1
  exact ⟨h.1.trans (k.mono hs), by omega, (c 0).trans h.2.2.1, (c 1).trans h.2.2.2.1, (c 2).trans h.2.2.2.2.1, (c 3).trans h.2.2.2.2.2.1, (c 4).trans h.2.2.2.2.2.2.1, (c 5).trans h.2.2.2.2.2.2.2⟩
theorem made {W : World} (v0 v1 v2 v3 v4 v5 : Value) (T : TypeId) :
    Below W.heap.size W (W.alloc (.cells #[v0, v1, v2, v3, v4, v5] T)) ∧ W.heap.size < (W.alloc (.cells #[v0, v1, v2, v3, v4, v5] T)).heap.size ∧ (W.alloc (.cells #[v0, v1, v2, v3, v4, v5] T)).cell? ⟨W.heap.size, 0, none⟩ = some v0 ∧ (W.alloc (.cells #[v0, v1, v2, v3, v4, v5] T)).cell? ⟨W.heap.size, 1, none⟩ = some v1 ∧ (W.alloc (.cells #[v0, v1, v2, v3, v4, v5] T)).cell? ⟨W.heap.size, 2, none⟩ = some v2 ∧ (W.alloc (.cells #[v0, v1, v2, v3, v4, v5] T)).cell? ⟨W.heap.size, 3, none⟩ = some v3 ∧ (W.alloc (.cells #[v0, v1, v2, v3, v4, v5] T)).cell? ⟨W.heap.size, 4, none⟩ = some v4 ∧ (W.alloc (.cells #[v0, v1, v2, v3, v4, v5] T)).cell? ⟨W.heap.size, 5, none⟩ = some v5 :=
  ⟨(Below.refl _ _).alloc (Nat.le_refl _) _, by simp, World.cell?_alloc_new _ _ _ _, World.cell?_alloc_new _ _ _ _, World.cell?_alloc_new _ _ _ _, World.cell?_alloc_new _ _ _ _, World.cell?_alloc_new _ _ _ _, World.cell?_alloc_new _ _ _ _⟩

/-- Six cells of a block that are written in order, behind a cell of another block. -/
theorem chain6 {w2 : World} {b c : Nat} (p : Nat) (hbc : b ≠ c) {u0 u1 u2 u3 u4 u5 : Value} (h0 : w2.cell? ⟨c, 0, none⟩ = some u0) (h1 : w2.cell? ⟨c, 1, none⟩ = some u1) (h2 : w2.cell? ⟨c, 2, none⟩ = some u2) (h3 : w2.cell? ⟨c, 3, none⟩ = some u3) (h4 : w2.cell? ⟨c, 4, none⟩ = some u4) (h5 : w2.cell? ⟨c, 5, none⟩ = some u5) : ∀ v v0 v1 v2 v3 v4 v5,
    ((w2.setCell ⟨b, p, none⟩ v).setCell ⟨c, 0, none⟩ v0).cell? ⟨c, 0, none⟩ = some v0 ∧
    (((w2.setCell ⟨b, p, none⟩ v).setCell ⟨c, 0, none⟩ v0).setCell ⟨c, 1, none⟩ v1).cell? ⟨c, 1, none⟩ = some v1 ∧
    ((((w2.setCell ⟨b, p, none⟩ v).setCell ⟨c, 0, none⟩ v0).setCell ⟨c, 1, none⟩ v1).setCell ⟨c, 2, none⟩ v2).cell? ⟨c, 2, none⟩ = some v2 ∧
    (((((w2.setCell ⟨b, p, none⟩ v).setCell ⟨c, 0, none⟩ v0).setCell ⟨c, 1, none⟩ v1).setCell ⟨c, 2, none⟩ v2).setCell ⟨c, 3, none⟩ v3).cell? ⟨c, 3, none⟩ = some v3 ∧
    ((((((w2.setCell ⟨b, p, none⟩ v).setCell ⟨c, 0, none⟩ v0).setCell ⟨c, 1, none⟩ v1).setCell ⟨c, 2, none⟩ v2).setCell ⟨c, 3, none⟩ v3).setCell ⟨c, 4, none⟩ v4).cell? ⟨c, 4, none⟩ = some v4 ∧
    (((((((w2.setCell ⟨b, p, none⟩ v).setCell ⟨c, 0, none⟩ v0).setCell ⟨c, 1, none⟩ v1).setCell ⟨c, 2, none⟩ v2).setCell ⟨c, 3, none⟩ v3).setCell ⟨c, 4, none⟩ v4).setCell ⟨c, 5, none⟩ v5).cell? ⟨c, 5, none⟩ = some v5 := by
  intro v v0 v1 v2 v3 v4 v5
  have o : ∀ (W : World) (i j : Nat) (x : Value), i ≠ j → (W.setCell ⟨c, i, none⟩ x).cell? ⟨c, j, none⟩ = W.cell? ⟨c, j, none⟩ := fun W i j x hij => World.cell?_setCell_other _ _ _ _ (by simp [hij])
  have f : ∀ j, (w2.setCell ⟨b, p, none⟩ v).cell? ⟨c, j, none⟩ = w2.cell? ⟨c, j, none⟩ := fun j => World.cell?_setCell_other _ _ _ _ (by simp [hbc])
  refine ⟨World.cell?_setCell_same _ _ _ (u := u0) ?_, World.cell?_setCell_same _ _ _ (u := u1) ?_, World.cell?_setCell_same _ _ _ (u := u2) ?_, World.cell?_setCell_same _ _ _ (u := u3) ?_, World.cell?_setCell_same _ _ _ (u := u4) ?_, World.cell?_setCell_same _ _ _ (u := u5) ?_⟩
  · rw [f]; exact h0
  · rw [o _ _ _ _ (by omega), f]; exact h1
  · rw [o _ _ _ _ (by omega), o _ _ _ _ (by omega), f]; exact h2
  · rw [o _ _ _ _ (by omega), o _ _ _ _ (by omega), o _ _ _ _ (by omega), f]; exact h3
  · rw [o _ _ _ _ (by omega), o _ _ _ _ (by omega), o _ _ _ _ (by omega), o _ _ _ _ (by omega), f]; exact h4
  · rw [o _ _ _ _ (by omega), o _ _ _ _ (by omega), o _ _ _ _ (by omega), o _ _ _ _ (by omega), o _ _ _ _ (by omega), f]; exact h5

theorem two_of {zs : List Int} (h : zs.length = 2) : ∃ a b, zs = [a, b] := by
  match zs, h with
  | [a, b], _ => exact ⟨a, b, rfl⟩
theorem three_of {zs : List Int} (h : zs.length = 3) : ∃ a b c, zs = [a, b, c] := by
  match zs, h with
  | [a, b, c], _ => exact ⟨a, b, c, rfl⟩
theorem four_of {zs : List Int} (h : zs.length = 4) : ∃ a b c d, zs = [a, b, c, d] := by
  match zs, h with
  | [a, b, c, d], _ => exact ⟨a, b, c, d, rfl⟩
theorem five_of {zs : List Int} (h : zs.length = 5) : ∃ a b c d e, zs = [a, b, c, d, e] := by
  match zs, h with
  | [a, b, c, d, e], _ => exact ⟨a, b, c, d, e, rfl⟩
theorem Below.drewn {B n : Nat} {a w : World} (h : Below B a w) : Below B a (w.drewN n) := ⟨h.os, h.tape, h.output, h.size, h.block⟩
/-- What memory that is made later does not change. -/
def Stays (p : World → Prop) : Prop := ∀ w1 w2, Below w1.heap.size w1 w2 → p w1 → p w2
theorem Stays.and {p q : World → Prop} (hp : Stays p) (hq : Stays q) : Stays fun w => p w ∧ q w := fun a b k h => ⟨hp a b k h.1, hq a b k h.2⟩
theorem Stays.cell (b o : Nat) (v : Value) : Stays fun w => w.cell? ⟨b, o, none⟩ = some v := fun w1 w2 k h => (Below_at k b o (World.block_lt_of_cell? w1 _ h)).trans h
theorem Stays.size (n : Nat) : Stays fun w => n < w.heap.size := fun w1 w2 k h => Nat.lt_of_lt_of_le h k.size
theorem Stays.below (W : World) : Stays fun w => Below W.heap.size W w := fun w1 w2 k h => h.trans (k.mono h.size)
theorem Stays.belowN (W : World) (n : Nat) (hn : n ≤ W.heap.size) : Stays fun w => Below n W w := fun w1 w2 k h => h.trans (k.mono (Nat.le_trans hn h.size))
/-- A cell that is there, written and read. -/
theorem same_some (W : World) (p : Addr) (v : Value) (h : (W.cell? p).isSome = true) : (W.setCell p v).cell? p = some v := by
  obtain ⟨u, hu⟩ := Option.isSome_iff_exists.1 h
  exact World.cell?_setCell_same _ _ _ hu
end Go.Proofs.YtlpodfachgnkhaaDoor
