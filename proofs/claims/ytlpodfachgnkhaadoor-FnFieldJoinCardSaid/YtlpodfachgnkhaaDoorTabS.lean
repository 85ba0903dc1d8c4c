/-
  TABLES OF TEXTS, made while drawing.
-/
import Derived.Test.YtlpodfachgnkhaaDoorRegDraw
import Derived.Test.YtlpodfachgnkhaaDoorBear
set_option linter.unusedVariables false
set_option linter.unusedSimpArgs false
namespace Go.Proofs.YtlpodfachgnkhaaDoor
open Go.ChangeShapes Go.WideShapes Go.ChangeAt Go.RowKit Law

/-- A text of bounded length. -/
def IsStr (v : Value) : Prop := ∃ x : ByteArray, v = .string x ∧ x.size ≤ 1000
/-- A table of such texts that was made behind base. -/
def TabS (base : Nat) (w : World) (n : Nat) (v : Value) : Prop := ∃ b, v = .slice (some ⟨b, 0, none⟩) n n ∧ base ≤ b ∧ b < w.heap.size ∧ ∀ j, j < n → ∃ u, w.cell? ⟨b, j, none⟩ = some u ∧ IsStr u
def SpotS (base : Nat) (w : World) (v : Value) : Prop := ∃ b j, v = .pointer (some ⟨b, j, none⟩) ∧ base ≤ b ∧ b < w.heap.size ∧ ∃ u, w.cell? ⟨b, j, none⟩ = some u ∧ IsStr u
theorem TabS.fut {base n : Nat} {w w' : World} {v : Value} (h : TabS base w n v) (f : Reg.Fut base w w') : TabS base w' n v := by
  obtain ⟨b, e, h1, h2, h3⟩ := h
  refine ⟨b, e, h1, Nat.lt_of_lt_of_le h2 f.1, fun j hj => ?_⟩
  obtain ⟨x, hx, hs⟩ := h3 j hj
  exact ⟨x, (World.cell?_of_block (f.2 b h1 h2)).trans hx, hs⟩
theorem SpotS.fut {base : Nat} {w w' : World} {v : Value} (h : SpotS base w v) (f : Reg.Fut base w w') : SpotS base w' v := by
  obtain ⟨b, j, e, h1, h2, x, hx, hs⟩ := h
  exact ⟨b, j, e, h1, Nat.lt_of_lt_of_le h2 f.1, x, (World.cell?_of_block (f.2 b h1 h2)).trans hx, hs⟩
theorem tabs_new {w : World} {base n : Nat} (cs : Array Value) (T : TypeId) (hw : base ≤ w.heap.size) (hs : cs.size = n) (hb : ∀ x ∈ cs.toList, IsStr x) :
    TabS base (w.alloc (.cells cs T)) n (.slice (some ⟨w.heap.size, 0, none⟩) n n) := by
  refine ⟨_, rfl, hw, by simp, fun j hj => ?_⟩
  have hl : j < cs.size := by omega
  refine ⟨cs[j], ?_, hb _ (by simp)⟩
  rw [World.cell?_alloc_new]
  simp [hl]

theorem str_entry {r : Nat} {W wp : World} {cs : Array Value} {T : TypeId} (hM : Moved r (W.alloc (.cells cs T)) wp) (hr : r < W.heap.size) (hb : ∀ x ∈ cs.toList, IsStr x) (q : Int) (h0 : 0 ≤ q) (h9 : q < (cs.size : Int)) :
    ∃ x : ByteArray, wp.cell? ⟨W.heap.size, q.toNat, none⟩ = some (.string x) ∧ x.size ≤ 1000 := by
  have ht := (tabs_new (n := cs.size) cs T (Nat.le_refl W.heap.size) rfl hb).fut (Reg.Fut.moved hM hr)
  obtain ⟨b, e, _, _, h3⟩ := ht
  obtain ⟨u, hu, x, rfl, hx⟩ := h3 q.toNat (by omega)
  have : W.heap.size = b := by simpa using e
  subst this
  exact ⟨x, hu, hx⟩

end Go.Proofs.YtlpodfachgnkhaaDoor
