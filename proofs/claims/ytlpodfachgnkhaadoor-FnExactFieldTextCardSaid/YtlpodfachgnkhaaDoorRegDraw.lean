/-
  WHAT THE MODEL's DRAWS DO IN A REGION THAT DRAWS ITS ORDER: tables are made, numbers picked, entries read; a stamp is carried over.
-/
import Derived.Test.YtlpodfachgnkhaaDoorReg
import Derived.Test.YtlpodfachgnkhaaDoorKeep
import Derived.Test.YtlpodfachgnkhaaDoorDraw
set_option linter.unusedVariables false
set_option linter.unusedSimpArgs false
namespace Go.Proofs.YtlpodfachgnkhaaDoor.Reg
open Go Go.ChangeShapes Go.WideShapes Go.ChangeAt Go.RowKit Law

/-- A number in a range. -/
def IntIn (lo hi : Int) (v : Value) : Prop := ∃ n : Int, v = .int .i64 n ∧ lo ≤ n ∧ n ≤ hi
/-- A table of numbers that was made behind base. -/
def Tab (base : Nat) (w : World) (n : Nat) (lo hi : Int) (v : Value) : Prop := ∃ b, v = .slice (some ⟨b, 0, none⟩) n n ∧ base ≤ b ∧ b < w.heap.size ∧ ∀ j, j < n → ∃ x : Int, w.cell? ⟨b, j, none⟩ = some (.int .i64 x) ∧ lo ≤ x ∧ x ≤ hi
/-- A place of such a table. -/
def Spot (base : Nat) (w : World) (lo hi : Int) (v : Value) : Prop := ∃ b j, v = .pointer (some ⟨b, j, none⟩) ∧ base ≤ b ∧ b < w.heap.size ∧ ∃ x : Int, w.cell? ⟨b, j, none⟩ = some (.int .i64 x) ∧ lo ≤ x ∧ x ≤ hi
/-- What was made behind base stays. -/
def Fut (base : Nat) (w w' : World) : Prop := w.heap.size ≤ w'.heap.size ∧ ∀ b, base ≤ b → b < w.heap.size → w'.heap[b]? = w.heap[b]?

theorem Fut.refl (base : Nat) (w : World) : Fut base w w := ⟨Nat.le_refl _, fun _ _ _ => rfl⟩
theorem Fut.moved {base r : Nat} {w w' : World} (h : Moved r w w') (hr : r < base) : Fut base w w' := ⟨h.2.2.2.1, fun b h1 h2 => h.2.2.2.2 b h2 (by omega)⟩
theorem Fut.below {base : Nat} {w w' : World} (h : Below w.heap.size w w') : Fut base w w' := ⟨h.size, fun b _ h2 => h.block b h2⟩
theorem Tab.fut {base n : Nat} {w w' : World} {lo hi : Int} {v : Value} (h : Tab base w n lo hi v) (f : Fut base w w') : Tab base w' n lo hi v := by
  obtain ⟨b, e, h1, h2, h3⟩ := h
  refine ⟨b, e, h1, Nat.lt_of_lt_of_le h2 f.1, fun j hj => ?_⟩
  obtain ⟨x, hx, hlo⟩ := h3 j hj
  exact ⟨x, (World.cell?_of_block (f.2 b h1 h2)).trans hx, hlo⟩
theorem Spot.fut {base : Nat} {w w' : World} {lo hi : Int} {v : Value} (h : Spot base w lo hi v) (f : Fut base w w') : Spot base w' lo hi v := by
  obtain ⟨b, j, e, h1, h2, x, hx, hlo⟩ := h
  exact ⟨b, j, e, h1, Nat.lt_of_lt_of_le h2 f.1, x, (World.cell?_of_block (f.2 b h1 h2)).trans hx, hlo⟩

theorem tab_new {w : World} {base n : Nat} {lo hi : Int} (cs : Array Value) (T : TypeId) (hw : base ≤ w.heap.size) (hs : cs.size = n) (hn : (cs.toList.map intOf).map (Value.int .i64) = cs.toList) (hb : ∀ x ∈ cs.toList.map intOf, lo ≤ x ∧ x ≤ hi) :
    Tab base (w.alloc (.cells cs T)) n lo hi (.slice (some ⟨w.heap.size, 0, none⟩) n n) := by
  refine ⟨_, rfl, hw, by simp, fun j hj => ?_⟩
  have hl : j < (cs.toList.map intOf).length := by simp; omega
  have hx := hb _ (List.getElem_mem hl)
  have e : cs[j]? = some (.int .i64 ((cs.toList.map intOf)[j]'hl)) := by
    rw [← Array.getElem?_toList]
    have h2 : ((cs.toList.map intOf).map (Value.int .i64))[j]? = some (.int .i64 ((cs.toList.map intOf)[j]'hl)) := by
      rw [List.getElem?_map, List.getElem?_eq_getElem hl]; rfl
    rw [hn] at h2; exact h2
  exact ⟨_, (World.cell?_alloc_new _ _ _ _).trans e, hx.1, hx.2⟩

/-- The world of a draw that hands back a stamp (its cells cs in block b, the answer's block c, stored by operation st) beside what it draws. -/
structure Carry (W0 : World) (B r K0 base b c : Nat) (cs : Nat → Value) (st : Nat) (k : Nat) (l : Array Bool) (w : World) : Prop where
  rd : Rd w B r (K0 + k)
  size : base ≤ w.heap.size
  below : Below W0.heap.size W0 w
  src : ∀ o, o < 6 → w.cell? ⟨b, o, none⟩ = some (cs o)
  out : ∀ o, o < 6 → (∃ v, w.cell? ⟨c, o, none⟩ = some v) ∧ w.frozen? ⟨c, o, none⟩ = false
  done : l.getD st false = true → ∀ o, o < 6 → w.cell? ⟨c, o, none⟩ = some (cs o)

section
variable {W0 : World} {B r K0 base b c : Nat} {cs : Nat → Value} {st : Nat} {k k' : Nat} {l : Array Bool} {w w' : World} {i : Nat}

theorem rd_more {K K' : Nat} (h : Rd w B r K) (hk : K ≤ K') : Rd w B r K' := ⟨h.1, h.2.1, h.2.2.1, by obtain ⟨x, x1, x2⟩ := h.2.2.2.1; exact ⟨x, by omega, x2⟩, h.2.2.2.2⟩

theorem Carry.same (h : Carry W0 B r K0 base b c cs st k l w) (hk : k < k') (hi : l.getD i true = false) (hne : i ≠ st) : Carry W0 B r K0 base b c cs st k' (l.setIfInBounds i true) w :=
  ⟨rd_more h.rd (by omega), h.size, h.below, h.src, h.out, fun hd => h.done (by rw [getD_set hi] at hd; simpa [hne] using hd)⟩
theorem Carry.moved (h : Carry W0 B r K0 base b c cs st k l w) (hk : k < k') (hi : l.getD i true = false) (hne : i ≠ st) (hm : Moved r w w') (hR : Rd w' B r (K0 + k + 1)) (hb : b < base) (hc : c < base) (hbr : b ≠ r) (hcr : c ≠ r) (h0 : W0.heap.size ≤ r) :
    Carry W0 B r K0 base b c cs st k' (l.setIfInBounds i true) w' := by
  have hs := h.size
  have e : ∀ a o, a < base → a ≠ r → w'.cell? ⟨a, o, none⟩ = w.cell? ⟨a, o, none⟩ := fun a o h1 h2 => hm.cell.1 a o (by omega) h2
  have f : ∀ a o, a < base → a ≠ r → w'.frozen? ⟨a, o, none⟩ = w.frozen? ⟨a, o, none⟩ := fun a o h1 h2 => hm.cell.2 a o (by omega) h2
  exact ⟨rd_more hR (by omega), Nat.le_trans hs hm.2.2.2.1, h.below.trans (hm.to_below _ h0 h.below.size), fun o ho => (e b o hb hbr).trans (h.src o ho), fun o ho => ⟨by rw [e c o hc hcr]; exact (h.out o ho).1, (f c o hc hcr).trans (h.out o ho).2⟩,
    fun hd o ho => (e c o hc hcr).trans (h.done (by rw [getD_set hi] at hd; simpa [hne] using hd) o ho)⟩
theorem Carry.alloc (h : Carry W0 B r K0 base b c cs st k l w) (hk : k < k') (hi : l.getD i true = false) (hne : i ≠ st) (x : Obj) (hb : b < base) (hc : c < base) :
    Carry W0 B r K0 base b c cs st k' (l.setIfInBounds i true) (w.alloc x) := by
  have hs := h.size
  have hk1 : Below w.heap.size w (w.alloc x) := (Below.refl _ _).alloc (Nat.le_refl _) _
  have e : ∀ a o, a < base → (w.alloc x).cell? ⟨a, o, none⟩ = w.cell? ⟨a, o, none⟩ := fun a o h1 => Below_at hk1 a o (by omega)
  have f : ∀ a o, a < base → (w.alloc x).frozen? ⟨a, o, none⟩ = w.frozen? ⟨a, o, none⟩ := fun a o h1 => Below_fr hk1 a o (by omega)
  exact ⟨rd_more (h.rd.alloc x) (by omega), by simp; omega, h.below.alloc h.below.size _, fun o ho => (e b o hb).trans (h.src o ho), fun o ho => ⟨by rw [e c o hc]; exact (h.out o ho).1, (f c o hc).trans (h.out o ho).2⟩,
    fun hd o ho => (e c o hc).trans (h.done (by rw [getD_set hi] at hd; simpa [hne] using hd) o ho)⟩

/-- Six cells of a block are written. -/
def six (w : World) (c : Nat) (cs : Nat → Value) : World := (((((w.setCell ⟨c, 0, none⟩ (cs 0)).setCell ⟨c, 1, none⟩ (cs 1)).setCell ⟨c, 2, none⟩ (cs 2)).setCell ⟨c, 3, none⟩ (cs 3)).setCell ⟨c, 4, none⟩ (cs 4)).setCell ⟨c, 5, none⟩ (cs 5)
theorem six_block (c : Nat) (cs : Nat → Value) (w : World) (a : Nat) (h : a ≠ c) : (six w c cs).heap[a]? = w.heap[a]? := by
  unfold six
  rw [Below.heap_setCell _ _ _ _ h, Below.heap_setCell _ _ _ _ h, Below.heap_setCell _ _ _ _ h, Below.heap_setCell _ _ _ _ h, Below.heap_setCell _ _ _ _ h, Below.heap_setCell _ _ _ _ h]
theorem six_size (c : Nat) (cs : Nat → Value) (w : World) : (six w c cs).heap.size = w.heap.size := by
  unfold six; simp only [World.size_setCell]
theorem six_frozen (c : Nat) (cs : Nat → Value) (w : World) (p : Addr) : (six w c cs).frozen? p = w.frozen? p := by
  unfold six; simp only [World.frozen?_setCell]
theorem six_cell (c : Nat) (cs : Nat → Value) (w : World) (h : ∀ o, o < 6 → ∃ v, w.cell? ⟨c, o, none⟩ = some v) : ∀ o, o < 6 → (six w c cs).cell? ⟨c, o, none⟩ = some (cs o) := by
  have x : ∀ (W : World) (i j : Nat) (v : Value), i ≠ j → (W.setCell ⟨c, i, none⟩ v).cell? ⟨c, j, none⟩ = W.cell? ⟨c, j, none⟩ := fun W i j v hij => World.cell?_setCell_other _ _ _ _ (by simp [hij])
  obtain ⟨u0, h0⟩ := h 0 (by omega)
  obtain ⟨u1, h1⟩ := h 1 (by omega)
  obtain ⟨u2, h2⟩ := h 2 (by omega)
  obtain ⟨u3, h3⟩ := h 3 (by omega)
  obtain ⟨u4, h4⟩ := h 4 (by omega)
  obtain ⟨u5, h5⟩ := h 5 (by omega)
  intro o ho
  unfold six
  have : o = 0 ∨ o = 1 ∨ o = 2 ∨ o = 3 ∨ o = 4 ∨ o = 5 := by omega
  rcases this with rfl | rfl | rfl | rfl | rfl | rfl
  · rw [x _ _ _ _ (by omega), x _ _ _ _ (by omega), x _ _ _ _ (by omega), x _ _ _ _ (by omega), x _ _ _ _ (by omega)]
    exact World.cell?_setCell_same _ _ _ h0
  · rw [x _ _ _ _ (by omega), x _ _ _ _ (by omega), x _ _ _ _ (by omega), x _ _ _ _ (by omega)]
    exact World.cell?_setCell_same _ _ _ ((x _ _ _ _ (by omega)).trans h1)
  · rw [x _ _ _ _ (by omega), x _ _ _ _ (by omega), x _ _ _ _ (by omega)]
    exact World.cell?_setCell_same _ _ _ ((x _ _ _ _ (by omega)).trans ((x _ _ _ _ (by omega)).trans h2))
  · rw [x _ _ _ _ (by omega), x _ _ _ _ (by omega)]
    exact World.cell?_setCell_same _ _ _ ((x _ _ _ _ (by omega)).trans ((x _ _ _ _ (by omega)).trans ((x _ _ _ _ (by omega)).trans h3)))
  · rw [x _ _ _ _ (by omega)]
    exact World.cell?_setCell_same _ _ _ ((x _ _ _ _ (by omega)).trans ((x _ _ _ _ (by omega)).trans ((x _ _ _ _ (by omega)).trans ((x _ _ _ _ (by omega)).trans h4))))
  · exact World.cell?_setCell_same _ _ _ ((x _ _ _ _ (by omega)).trans ((x _ _ _ _ (by omega)).trans ((x _ _ _ _ (by omega)).trans ((x _ _ _ _ (by omega)).trans ((x _ _ _ _ (by omega)).trans h5)))))
theorem six_fut (hc : c < base) : Fut base w (six w c cs) := ⟨Nat.le_of_eq (six_size c cs w).symm, fun a h1 h2 => six_block c cs w a (by omega)⟩
theorem Carry.wrote (h : Carry W0 B r K0 base b c cs st k l w) (hk : k < k') (hi : l.getD st true = false) (hc : c < base) (hcb : c ≠ b) (hcr : c ≠ r) (hB : B ≤ c)
    (s1 : w'.heap.size = w.heap.size) (s2 : ∀ a, a ≠ c → w'.heap[a]? = w.heap[a]?) (s3 : ∀ p, w'.frozen? p = w.frozen? p) (s4 : ∀ o, o < 6 → w'.cell? ⟨c, o, none⟩ = some (cs o)) (hw : Below W0.heap.size W0 w') :
    Carry W0 B r K0 base b c cs st k' (l.setIfInBounds st true) w' := by
  have e : ∀ a o, a ≠ c → w'.cell? ⟨a, o, none⟩ = w.cell? ⟨a, o, none⟩ := fun a o ha => World.cell?_of_block (s2 a ha)
  have hr : Rd w' B r (K0 + k) := by
    have hcr' : r ≠ c := fun e => hcr e.symm
    obtain ⟨r1, r2, ⟨u, u1, u2⟩, ⟨x, x1, x2⟩, r5⟩ := h.rd
    exact ⟨r1, by rw [s1]; exact r2, ⟨u, (e r 0 hcr').trans u1, bytes_keep u2 fun a o ha => e a o (by omega)⟩, ⟨x, x1, (e r 1 hcr').trans x2⟩, (s3 _).trans r5⟩
  exact ⟨rd_more hr (by omega), by rw [s1]; exact h.size, hw, fun o ho => (e b o (fun e => hcb e.symm)).trans (h.src o ho), fun o ho => ⟨⟨_, s4 o ho⟩, (s3 _).trans (h.out o ho).2⟩, fun _ o ho => s4 o ho⟩
theorem six_below (h : Below W0.heap.size W0 w) (h0 : W0.heap.size ≤ c) : Below W0.heap.size W0 (six w c cs) := by
  have x : ∀ (W : World) (o : Nat) (v : Value), Below W0.heap.size W0 W → Below W0.heap.size W0 (W.setCell ⟨c, o, none⟩ v) := fun W o v hW => hW.setCell (p := ⟨c, o, none⟩) h0 v
  exact x _ _ _ (x _ _ _ (x _ _ _ (x _ _ _ (x _ _ _ (x _ _ _ h)))))
theorem Carry.store (h : Carry W0 B r K0 base b c cs st k l w) (hk : k < k') (hi : l.getD st true = false) (hc : c < base) (hcb : c ≠ b) (hcr : c ≠ r) (hB : B ≤ c) (h0 : W0.heap.size ≤ c) :
    Carry W0 B r K0 base b c cs st k' (l.setIfInBounds st true) (six w c cs) :=
  h.wrote hk hi hc hcb hcr hB (six_size c cs w) (six_block c cs w) (six_frozen c cs w) (six_cell c cs w fun o ho => (h.out o ho).1) (six_below h.below h0)
end
end Go.Proofs.YtlpodfachgnkhaaDoor.Reg
