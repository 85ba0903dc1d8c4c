/-
  CONTRACTS OF THE MODEL's READER, going on: choices; blocks behind a reader.
-/
import Derived.Test.YtlpodfachgnkhaaDoorDraw
import Derived.Test.YtlpodfachgnkhaaDoorKeep
set_option linter.unusedVariables false
set_option linter.unusedSimpArgs false
namespace Go.Proofs.YtlpodfachgnkhaaDoor
open Go.ChangeShapes Go.WideShapes Go.ChangeAt Go.RowKit Law

theorem Rd.more {w : World} {B r K K' : Nat} (h : Rd w B r K) (k : K ≤ K') : Rd w B r K' := ⟨h.1, h.2.1, h.2.2.1, by obtain ⟨c, c1, c2⟩ := h.2.2.2.1; exact ⟨c, by omega, c2⟩, h.2.2.2.2⟩

/-- A block that was made last ahead of what moved on. -/
theorem moved_new {r : Nat} {W wp : World} {cs : Array Value} {T : TypeId} (hM : Moved r (W.alloc (.cells cs T)) wp) (hr : r < W.heap.size) : (∀ o v, cs[o]? = some v → wp.cell? ⟨W.heap.size, o, none⟩ = some v) ∧ (∀ o, wp.frozen? ⟨W.heap.size, o, none⟩ = false) := by
  obtain ⟨hC, hF⟩ := hM.cell
  exact ⟨fun o v h => (hC _ _ (by simp) (by omega)).trans ((World.cell?_alloc_new _ _ _ _).trans h), fun o => (hF _ _ (by simp) (by omega)).trans (by go_simp)⟩

/-- A choice was drawn; the reader has moved on. -/
def Odd (B r K : Nat) (w : World) (e : Ending) (w' : World) : Prop := ∃ b : Bool, e = .returned (.bool b) ∧ Rd w' B r K ∧ Moved r w w'

theorem odd_any (n : Int) (r : Nat) (w : World) (B K : Nat) (h : Rd w B r K) (hK : K < 999999000) (hn : 0 ≤ n ∧ n ≤ 1000) :
    Calls Tryd.prog 32 #[.pointer (some ⟨r, 0, none⟩), .int .i64 n] w (Odd B r (K + 1) w) := by
  have hr := h.2.1
  by_cases c : 0 < n
  · go_enter Tryd.func32, Tryd.ntmps32
    (go_wp2_with fail; refine (pick_pos _ _ _ _ _ (by repeat (first | with_reducible assumption | apply Rd.alloc | apply Rd.drew | (refine Rd.store ?_ (by simp; omega) _) | (refine Rd.below ?_ (by with_reducible assumption)))) (by omega) (by omega) (by omega)).mono ?_; rintro e wp ⟨a, rfl, a0, a9, hR, hM⟩; have hr := hR.2.1)
    go_wp2
    go_ret
    exact ⟨_, rfl, (by repeat (first | with_reducible assumption | apply Rd.alloc | apply Rd.drew | (refine Rd.store ?_ (by simp; omega) _) | (refine Rd.below ?_ (by with_reducible assumption)))), (by repeat (first | with_reducible assumption | exact Moved.refl _ _ | apply Moved.alloc | (refine Moved.store ?_ (by simp; omega) _) | (refine Moved.trans ?_ (by with_reducible assumption)) | (refine Moved.below ?_ (by with_reducible assumption))))⟩
  · have c' : decide (0 < n) = false := by simpa using c
    go_enter Tryd.func32, Tryd.ntmps32
    go_wp2
    go_ret
    exact ⟨_, rfl, ⟨h.1, h.2.1, h.2.2.1, by obtain ⟨k, k1, k2⟩ := h.2.2.2.1; exact ⟨k, by omega, k2⟩, h.2.2.2.2⟩, Moved.refl _ _⟩

theorem below_new {W wp : World} {cs : Array Value} {T : TypeId} (hB : Below (W.alloc (.cells cs T)).heap.size (W.alloc (.cells cs T)) wp) : (∀ o v, cs[o]? = some v → wp.cell? ⟨W.heap.size, o, none⟩ = some v) ∧ (∀ o, wp.frozen? ⟨W.heap.size, o, none⟩ = false) :=
  ⟨fun o v h => (Below_at hB _ _ (by simp)).trans ((World.cell?_alloc_new _ _ _ _).trans h), fun o => (Below_fr hB _ _ (by simp)).trans (by go_simp)⟩
theorem bytes_alloc {w : World} {B : Nat} {v : Value} (h : BytesAt w B v) (hB : B ≤ w.heap.size) (o : Obj) : BytesAt (w.alloc o) B v := by
  have k : Below w.heap.size w (w.alloc o) := (Below.refl _ _).alloc (Nat.le_refl _) _
  exact bytes_keep h fun b o hb => k.cell (p := ⟨b, o, none⟩) (by show b < _; omega)

theorem bytes_mono {w : World} {B B' : Nat} {v : Value} (h : BytesAt w B v) (hB : B ≤ B') : BytesAt w B' v := by
  obtain ⟨a, len, cap, e, h1, h2, h3⟩ := h
  refine ⟨a, len, cap, e, h1, h2, fun h0 => ?_⟩
  obtain ⟨b, off, e1, e2, e3⟩ := h3 h0
  exact ⟨b, off, e1, by omega, e3⟩
/-- Bytes lie in a world where a block more was made. -/
theorem bytes_next {w : World} {v : Value} (h : BytesAt w w.heap.size v) (o : Obj) : BytesAt (w.alloc o) (w.alloc o).heap.size v := bytes_mono (bytes_alloc h (Nat.le_refl _) o) (by simp)
theorem bytes_below {w w' : World} {v : Value} (h : BytesAt w w.heap.size v) (k : Below w.heap.size w w') : BytesAt w' w'.heap.size v :=
  bytes_mono (bytes_keep h fun b o hb => k.cell (p := ⟨b, o, none⟩) hb) k.size
end Go.Proofs.YtlpodfachgnkhaaDoor
