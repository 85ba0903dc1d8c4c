/-
  THE WORLD OF A DRAW, WHILE A REGION IS WALKED OPERATION BY OPERATION (XReg): the reader, and what is carried over.
-/
import Derived.Test.YtlpodfachgnkhaaDoorHas
set_option linter.unusedVariables false
set_option linter.unusedSimpArgs false
namespace Go.Proofs.YtlpodfachgnkhaaDoor.Reg
open Go Go.ChangeShapes Go.WideShapes Go.ChangeAt Go.RowKit Law

/-- A reader, and what is made behind base. -/
structure Plain (u : Nat) (W0 : World) (B r K0 base : Nat) (k : Nat) (l : Array Bool) (w : World) : Prop where
  rd : Rd w B r (K0 + u * k)
  size : base ≤ w.heap.size
  mv : Moved r W0 w
/-- The same; block b holds vs, which operation st writes into block c. -/
structure Bear (u : Nat) (W0 : World) (B r K0 base b c : Nat) (vs : List Value) (st : Nat) (k : Nat) (l : Array Bool) (w : World) : Prop where
  rd : Rd w B r (K0 + u * k)
  size : base ≤ w.heap.size
  mv : Moved r W0 w
  src : Has w b vs
  out : ∃ us, us.length = vs.length ∧ Has w c us
  done : l.getD st false = true → Has w c vs

theorem more1 {u k k' : Nat} (h : k < k') : u * k + u ≤ u * k' := by
  have := Nat.mul_le_mul_left u (show k + 1 ≤ k' from h)
  rwa [Nat.mul_succ] at this
section
variable {u : Nat} {W0 : World} {B r K0 base b c : Nat} {vs : List Value} {st : Nat} {k k' : Nat} {l : Array Bool} {w w' : World} {i : Nat}
theorem Plain.same (h : Plain u W0 B r K0 base k l w) (hk : k < k') : Plain u W0 B r K0 base k' (l.setIfInBounds i true) w := ⟨rd_more h.rd (by have := more1 (u := u) hk; omega), h.size, h.mv⟩
theorem Plain.moved (h : Plain u W0 B r K0 base k l w) (hk : k < k') (hm : Moved r w w') (hR : Rd w' B r (K0 + u * k + u)) : Plain u W0 B r K0 base k' (l.setIfInBounds i true) w' := ⟨rd_more hR (by have := more1 (u := u) hk; omega), Nat.le_trans h.size hm.2.2.2.1, h.mv.trans hm⟩
theorem Plain.below (h : Plain u W0 B r K0 base k l w) (hk : k < k') (hb : Below w.heap.size w w') : Plain u W0 B r K0 base k' (l.setIfInBounds i true) w' := ⟨rd_more (h.rd.below hb) (by have := more1 (u := u) hk; omega), Nat.le_trans h.size hb.size, h.mv.below hb⟩
theorem Plain.alloc (h : Plain u W0 B r K0 base k l w) (hk : k < k') (x : Obj) : Plain u W0 B r K0 base k' (l.setIfInBounds i true) (w.alloc x) := h.below hk ((Below.refl _ _).alloc (Nat.le_refl _) _)
theorem Bear.same (h : Bear u W0 B r K0 base b c vs st k l w) (hk : k < k') (hi : l.getD i true = false) (hne : i ≠ st) : Bear u W0 B r K0 base b c vs st k' (l.setIfInBounds i true) w :=
  ⟨rd_more h.rd (by have := more1 (u := u) hk; omega), h.size, h.mv, h.src, h.out, fun hd => h.done (by rw [getD_set hi] at hd; simpa [hne] using hd)⟩
theorem Bear.moved (h : Bear u W0 B r K0 base b c vs st k l w) (hk : k < k') (hi : l.getD i true = false) (hne : i ≠ st) (hm : Moved r w w') (hR : Rd w' B r (K0 + u * k + u)) (hbr : b ≠ r) (hcr : c ≠ r) : Bear u W0 B r K0 base b c vs st k' (l.setIfInBounds i true) w' :=
  ⟨rd_more hR (by have := more1 (u := u) hk; omega), Nat.le_trans h.size hm.2.2.2.1, h.mv.trans hm, h.src.moved hm hbr, by obtain ⟨us, e, hu⟩ := h.out; exact ⟨us, e, hu.moved hm hcr⟩, fun hd => (h.done (by rw [getD_set hi] at hd; simpa [hne] using hd)).moved hm hcr⟩
theorem Bear.below (h : Bear u W0 B r K0 base b c vs st k l w) (hk : k < k') (hi : l.getD i true = false) (hne : i ≠ st) (hb : Below w.heap.size w w') : Bear u W0 B r K0 base b c vs st k' (l.setIfInBounds i true) w' :=
  ⟨rd_more (h.rd.below hb) (by have := more1 (u := u) hk; omega), Nat.le_trans h.size hb.size, h.mv.below hb, h.src.below hb, by obtain ⟨us, e, hu⟩ := h.out; exact ⟨us, e, hu.below hb⟩, fun hd => (h.done (by rw [getD_set hi] at hd; simpa [hne] using hd)).below hb⟩
theorem Bear.alloc (h : Bear u W0 B r K0 base b c vs st k l w) (hk : k < k') (hi : l.getD i true = false) (hne : i ≠ st) (x : Obj) : Bear u W0 B r K0 base b c vs st k' (l.setIfInBounds i true) (w.alloc x) :=
  h.below hk hi hne ((Below.refl _ _).alloc (Nat.le_refl _) _)
theorem writes_fut (hc : c < base) : ∀ (us : List Value) (i : Nat) (w : World), Fut base w (writes w c i us)
  | [], _, w => Fut.refl _ _
  | u :: us, i, w => by
    have h := writes_fut hc us (i + 1) (w.setCell ⟨c, i, none⟩ u)
    have s : (w.setCell ⟨c, i, none⟩ u).heap.size = w.heap.size := by simp
    refine ⟨by have := h.1; rw [s] at this; exact this, fun a h1 h2 => ?_⟩
    exact (h.2 a h1 (by rw [s]; exact h2)).trans (Below.heap_setCell w ⟨c, i, none⟩ u a (by first | omega | (show a ≠ c; omega)))
theorem writes_rd' (hc : B ≤ c) (hcr : c ≠ r) {K : Nat} : ∀ (us : List Value) (i : Nat) (w : World), Rd w B r K → Rd (writes w c i us) B r K
  | [], _, _, h => h
  | u :: us, i, w, h => writes_rd' hc hcr us (i + 1) _ (by
      obtain ⟨r1, r2, ⟨x, x1, x2⟩, ⟨y, y1, y2⟩, r5⟩ := h
      have e : ∀ a o, a ≠ c → (w.setCell ⟨c, i, none⟩ u).cell? ⟨a, o, none⟩ = w.cell? ⟨a, o, none⟩ := fun a o ha => World.cell?_setCell_other _ _ _ _ (by first | (simp; done) | (simp; intro h; exact absurd h.symm ha) | (intro h; simp at h; exact ha h.1.symm))
      exact ⟨r1, by rw [World.size_setCell]; exact r2, ⟨x, (e r 0 (fun h => hcr h.symm)).trans x1, bytes_keep x2 fun a o ha => e a o (by omega)⟩, ⟨y, y1, (e r 1 (fun h => hcr h.symm)).trans y2⟩, by rw [World.frozen?_setCell]; exact r5⟩)
theorem Bear.store (h : Bear u W0 B r K0 base b c vs st k l w) (hk : k < k') (hcb : c ≠ b) (hcr : c ≠ r) (hB : B ≤ c) (h0 : W0.heap.size ≤ c) (hbase : c < base) : Bear u W0 B r K0 base b c vs st k' (l.setIfInBounds st true) (writes w c 0 vs) := by
  obtain ⟨us, e, hu⟩ := h.out
  have ha := writes_all (us := vs) hu e
  refine ⟨rd_more (writes_rd' hB hcr vs 0 w h.rd) (by have := more1 (u := u) hk; omega), Nat.le_trans h.size (writes_fut hbase vs 0 w).1, writes_moved h0 vs 0 w h.mv, writes_other hcb vs 0 w h.src, ⟨vs, rfl, ha⟩, fun _ => ha⟩
end
/-- As Plain, and X holds, which what is drawn does not touch. -/
structure PlainX (u : Nat) (X : World → Prop) (W0 : World) (B r K0 base : Nat) (k : Nat) (l : Array Bool) (w : World) : Prop where
  rd : Rd w B r (K0 + u * k)
  size : base ≤ w.heap.size
  mv : Moved r W0 w
  ex : X w
def Firm (r : Nat) (X : World → Prop) : Prop := ∀ w w', Moved r w w' → X w → X w'
section
variable {u : Nat} {X : World → Prop} {W0 : World} {B r K0 base : Nat} {k k' : Nat} {l : Array Bool} {w w' : World} {i : Nat}
theorem PlainX.same (h : PlainX u X W0 B r K0 base k l w) (hk : k < k') : PlainX u X W0 B r K0 base k' (l.setIfInBounds i true) w := ⟨rd_more h.rd (by have := more1 (u := u) hk; omega), h.size, h.mv, h.ex⟩
theorem PlainX.moved (h : PlainX u X W0 B r K0 base k l w) (hk : k < k') (hm : Moved r w w') (hR : Rd w' B r (K0 + u * k + u)) (hX : Firm r X) : PlainX u X W0 B r K0 base k' (l.setIfInBounds i true) w' := ⟨rd_more hR (by have := more1 (u := u) hk; omega), Nat.le_trans h.size hm.2.2.2.1, h.mv.trans hm, hX _ _ hm h.ex⟩
theorem PlainX.below (h : PlainX u X W0 B r K0 base k l w) (hk : k < k') (hb : Below w.heap.size w w') (hX : Firm r X) : PlainX u X W0 B r K0 base k' (l.setIfInBounds i true) w' :=
  ⟨rd_more (h.rd.below hb) (by have := more1 (u := u) hk; omega), Nat.le_trans h.size hb.size, h.mv.below hb, hX _ _ ((Go.Proofs.YtlpodfachgnkhaaDoor.Moved.refl r w).below hb) h.ex⟩
theorem PlainX.alloc (h : PlainX u X W0 B r K0 base k l w) (hk : k < k') (hX : Firm r X) (x : Obj) : PlainX u X W0 B r K0 base k' (l.setIfInBounds i true) (w.alloc x) := h.below hk ((Below.refl _ _).alloc (Nat.le_refl _) _) hX
end
/-- A row of numbers that lies elsewhere. -/
def Row (w : World) (c off n : Nat) (lo hi : Int) : Prop := ∀ j, j < n → ∃ x : Int, w.cell? ⟨c, off + j, none⟩ = some (.int .i64 x) ∧ lo ≤ x ∧ x ≤ hi
theorem Row.firm {r c off n : Nat} {lo hi : Int} (hc : c ≠ r) : Firm r fun w => Row w c off n lo hi := fun w w' hm h j hj => by
  obtain ⟨x, hx, hb⟩ := h j hj
  exact ⟨x, (hm.cell.1 c _ (World.block_lt_of_cell? w _ hx) hc).trans hx, hb⟩
theorem Firm.and {r : Nat} {X Y : World → Prop} (hX : Firm r X) (hY : Firm r Y) : Firm r fun w => X w ∧ Y w := fun w w' hm h => ⟨hX _ _ hm h.1, hY _ _ hm h.2⟩
theorem Has.firm {r b : Nat} {vs : List Value} (hb : b ≠ r) : Firm r fun w => Has w b vs := fun w w' hm h => Has.moved h hm hb
theorem Firm.none (r : Nat) : Firm r fun _ => True := fun _ _ _ _ => trivial
theorem Moved.of_below {r : Nat} {w w' : World} (h : Below w.heap.size w w') : Moved r w w' := (Moved.refl r w).below h
theorem four_val {us : List Value} (h : us.length = 4) : ∃ a b c d, us = [a, b, c, d] := by
  match us, h with
  | [a, b, c, d], _ => exact ⟨a, b, c, d, rfl⟩
theorem many_val {us : List Value} {n : Nat} (h : us.length = n) : ∀ o, o < n → ∃ v, us[o]? = some v := fun o ho => ⟨us[o]'(by omega), List.getElem?_eq_getElem (by omega)⟩
end Go.Proofs.YtlpodfachgnkhaaDoor.Reg
