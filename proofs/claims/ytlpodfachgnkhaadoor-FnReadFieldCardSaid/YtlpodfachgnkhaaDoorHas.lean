/-
  BLOCKS OF ANY NUMBER OF CELLS: what they hold, and what keeps it.
-/
import Derived.Test.YtlpodfachgnkhaaDoorRegDraw
set_option linter.unusedVariables false
set_option linter.unusedSimpArgs false
namespace Go.Proofs.YtlpodfachgnkhaaDoor
open Go.ChangeShapes Go.WideShapes Go.ChangeAt Go.RowKit Law

/-- Block b holds vs. -/
def Has (w : World) (b : Nat) (vs : List Value) : Prop := b < w.heap.size ∧ (∀ o, o < vs.length → w.cell? ⟨b, o, none⟩ = vs[o]?) ∧ ∀ o, w.frozen? ⟨b, o, none⟩ = false
theorem Has.made (w : World) (cs : Array Value) (T : TypeId) : Has (w.alloc (.cells cs T)) w.heap.size cs.toList :=
  ⟨by simp, fun o ho => by rw [World.cell?_alloc_new]; simp, fun o => by go_simp⟩
theorem Has.below {w w' : World} {b : Nat} {vs : List Value} (h : Has w b vs) (k : Below w.heap.size w w') : Has w' b vs :=
  ⟨Nat.lt_of_lt_of_le h.1 k.size, fun o ho => (Below_at k b o h.1).trans (h.2.1 o ho), fun o => (Below_fr k b o h.1).trans (h.2.2 o)⟩
theorem Has.moved {r : Nat} {w w' : World} {b : Nat} {vs : List Value} (h : Has w b vs) (k : Moved r w w') (hb : b ≠ r) : Has w' b vs :=
  ⟨Nat.lt_of_lt_of_le h.1 k.2.2.2.1, fun o ho => (k.cell.1 b o h.1 hb).trans (h.2.1 o ho), fun o => (k.cell.2 b o h.1 hb).trans (h.2.2 o)⟩
theorem Has.alloc {w : World} {b : Nat} {vs : List Value} (h : Has w b vs) (x : Obj) : Has (w.alloc x) b vs := h.below ((Below.refl _ _).alloc (Nat.le_refl _) _)
theorem Has.drew {w : World} {b : Nat} {vs : List Value} (h : Has w b vs) : Has w.drew b vs := h
theorem Has.other {w : World} {b c i : Nat} {vs : List Value} (h : Has w b vs) (hc : c ≠ b) (v : Value) : Has (w.setCell ⟨c, i, none⟩ v) b vs :=
  ⟨by rw [World.size_setCell]; exact h.1, fun o ho => (World.cell?_setCell_other _ _ _ _ (by simp [hc])).trans (h.2.1 o ho), fun o => by rw [World.frozen?_setCell]; exact h.2.2 o⟩
theorem Has.set {w : World} {b i : Nat} {vs : List Value} (h : Has w b vs) (hi : i < vs.length) (v : Value) : Has (w.setCell ⟨b, i, none⟩ v) b (vs.set i v) := by
  refine ⟨by rw [World.size_setCell]; exact h.1, fun o ho => ?_, fun o => by rw [World.frozen?_setCell]; exact h.2.2 o⟩
  rw [List.length_set] at ho
  by_cases e : i = o
  · subst e
    rw [World.cell?_setCell_same _ _ _ ((h.2.1 i hi).trans (List.getElem?_eq_getElem hi)), List.getElem?_set_self hi]
  · rw [World.cell?_setCell_other _ _ _ _ (by simp [e]), List.getElem?_set_ne e]
    exact h.2.1 o ho

/-- The cells of a block are written, from place i on. -/
def writes (w : World) (c : Nat) : Nat → List Value → World
  | _, [] => w
  | i, v :: vs => writes (w.setCell ⟨c, i, none⟩ v) c (i + 1) vs
theorem writes_other {c b : Nat} (hc : c ≠ b) {vs : List Value} : ∀ (us : List Value) (i : Nat) (w : World), Has w b vs → Has (writes w c i us) b vs
  | [], _, _, h => h
  | u :: us, i, w, h => writes_other hc us (i + 1) _ (h.other hc u)
theorem writes_has {c : Nat} : ∀ (us pre suf : List Value) (w : World), suf.length = us.length → Has w c (pre ++ suf) → Has (writes w c pre.length us) c (pre ++ us)
  | [], pre, suf, w, hl, h => by
    have : suf = [] := List.eq_nil_of_length_eq_zero hl
    subst this
    exact h
  | u :: us, pre, s :: suf, w, hl, h => by
    have k := h.set (i := pre.length) (by simp) u
    have e : (pre ++ s :: suf).set pre.length u = (pre ++ [u]) ++ suf := by simp [List.set_append]
    rw [e] at k
    have := writes_has us (pre ++ [u]) suf _ (by simpa using hl) k
    simpa [writes] using this
theorem writes_below {B c : Nat} {W : World} (hc : B ≤ c) : ∀ (us : List Value) (i : Nat) (w : World), Below B W w → Below B W (writes w c i us)
  | [], _, _, h => h
  | u :: us, i, w, h => writes_below hc us (i + 1) _ (h.setCell (p := ⟨c, i, none⟩) hc u)
theorem writes_rd {B c r K : Nat} (hc : r < c) : ∀ (us : List Value) (i : Nat) (w : World), Rd w B r K → Rd (writes w c i us) B r K
  | [], _, _, h => h
  | u :: us, i, w, h => writes_rd hc us (i + 1) _ (h.store (p := ⟨c, i, none⟩) hc u)
theorem writes_moved {r c : Nat} {W : World} (hc : W.heap.size ≤ c) : ∀ (us : List Value) (i : Nat) (w : World), Moved r W w → Moved r W (writes w c i us)
  | [], _, _, h => h
  | u :: us, i, w, h => writes_moved hc us (i + 1) _ (h.store (p := ⟨c, i, none⟩) hc u)
/-- A block that holds as many cells is written anew, whole. -/
theorem writes_all {c : Nat} {us vs : List Value} {w : World} (h : Has w c vs) (hl : vs.length = us.length) : Has (writes w c 0 us) c us := by
  have := writes_has us [] vs w hl h
  simpa using this
/-- Six cells as a list. -/
theorem Has.six {w : World} {b : Nat} {v0 v1 v2 v3 v4 v5 : Value} (h : Has w b [v0, v1, v2, v3, v4, v5]) : w.cell? ⟨b, 0, none⟩ = some v0 ∧ w.cell? ⟨b, 1, none⟩ = some v1 ∧ w.cell? ⟨b, 2, none⟩ = some v2 ∧ w.cell? ⟨b, 3, none⟩ = some v3 ∧ w.cell? ⟨b, 4, none⟩ = some v4 ∧ w.cell? ⟨b, 5, none⟩ = some v5 :=
  ⟨h.2.1 0 (by simp), h.2.1 1 (by simp), h.2.1 2 (by simp), h.2.1 3 (by simp), h.2.1 4 (by simp), h.2.1 5 (by simp)⟩
theorem Has.four {w : World} {b : Nat} {v0 v1 v2 v3 : Value} (h : Has w b [v0, v1, v2, v3]) : w.cell? ⟨b, 0, none⟩ = some v0 ∧ w.cell? ⟨b, 1, none⟩ = some v1 ∧ w.cell? ⟨b, 2, none⟩ = some v2 ∧ w.cell? ⟨b, 3, none⟩ = some v3 :=
  ⟨h.2.1 0 (by simp), h.2.1 1 (by simp), h.2.1 2 (by simp), h.2.1 3 (by simp)⟩
end Go.Proofs.YtlpodfachgnkhaaDoor
