/-
  SLICES OF TEXTS that a call gathers by append, and texts that are handed back.
-/
import Derived.Test.YtlpodfachgnkhaaDoorText
import Derived.Test.YtlpodfachgnkhaaDoorGrow
import Derived.StillTailTactics
import Derived.Laws.OwnMore
import Derived.Laws.Strings2
import Derived.Deep.AppendLies
set_option linter.unusedVariables false
set_option linter.unusedSimpArgs false
namespace Go.Proofs.YtlpodfachgnkhaaDoor
open Go Go.ChangeShapes Go.WideShapes Go.ChangeAt Go.RowKit Cal

/-- A slice of texts that the call gathers itself. -/
def strV (x : List Int) : Value := .string (strOfNums x)
def OwnS (w : World) (B : Nat) (v : Value) (ws : List (List Int)) : Prop := w.ownsRow B 9 1 v ws.length (ws.map strV)
theorem OwnS.form {w : World} {B : Nat} {v : Value} {ws : List (List Int)} (h : OwnS w B v ws) (hn : ws ≠ []) : ∃ g cap, v = .slice (some ⟨g, 0, none⟩) ws.length cap ∧ B ≤ g ∧ g < w.heap.size := by
  rcases h.2 with ⟨_, h0⟩ | ⟨g, cap, cur, h', hb, hg, _⟩
  · have : ws = [] := List.eq_nil_of_length_eq_zero h0
    exact absurd this hn
  · exact ⟨g, cap, h', hb, (Array.getElem?_eq_some_iff.1 hg).1⟩
theorem OwnS.cell {w : World} {B g cap : Nat} {ws : List (List Int)} (h : OwnS w B (.slice (some ⟨g, 0, none⟩) ws.length cap) ws) {j : Nat} {x : List Int} (hj : ws[j]? = some x) : w.cell? ⟨g, j, none⟩ = some (strV x) := by
  have hl : j < ws.length := (List.getElem?_eq_some_iff.1 hj).1
  rw [World.ownsRow.cellAt h j (by omega), List.getElem?_map, hj]
  rfl
theorem OwnS.set {w : World} {B g cap : Nat} {ws : List (List Int)} (h : OwnS w B (.slice (some ⟨g, 0, none⟩) ws.length cap) ws) (j : Nat) (x : List Int) : OwnS (w.setCell ⟨g, j, none⟩ (strV x)) B (.slice (some ⟨g, 0, none⟩) ws.length cap) (ws.set j x) := by
  have := (World.ownsRow.stored h j (strV x)).1
  unfold OwnS
  rw [List.length_set, List.map_set]
  exact this
theorem OwnS.below {w w' : World} {B : Nat} {v : Value} {ws : List (List Int)} (h : OwnS w B v ws) (k : Below w.heap.size w w') : OwnS w' B v ws := by
  obtain ⟨hl, h⟩ := h
  refine ⟨hl, ?_⟩
  rcases h with h | ⟨g, cap, cur, e1, e2, e3, e4⟩
  · exact .inl h
  · exact .inr ⟨g, cap, cur, e1, e2, (k.block g (Array.getElem?_eq_some_iff.1 e3).1).trans e3, e4⟩
theorem OwnS.one (w : World) {B : Nat} (hB : B ≤ w.heap.size) (x : List Int) : OwnS (w.alloc (.cells #[strV x] 9)) B (.slice (some ⟨w.heap.size, 0, none⟩) 1 1) [x] :=
  World.ownsRow_lit w #[strV x] 1 hB (by unfold maxLen; omega) rfl

/-- A text is appended to such a slice. -/
theorem append_str {ops : Array Oper} {rest : List Oper} {o : Oper} {a : Act} {w : World} {Q : Exit → Act → World → Prop} (hgd : o.guard = none) (s x : Operand)
    (ho : o.op = .call { callee := .builtin .append, args := #[s, x], argTypes := #[41, 41] }) (B : Nat) (v : Value) (ws : List (List Int)) (hs : a.eval s = v) (hown : OwnS w B v ws)
    (g c : Nat) (y : List Int) (hx : a.eval x = .slice (some ⟨g, 0, none⟩) 1 c) (hy : w.cell? ⟨g, 0, none⟩ = some (strV y)) (hl : ws.length ≤ 1000000000) (hB : B ≤ w.heap.size)
    (h : ∀ v' w', OwnS w' B v' (ws ++ [y]) → Below B w w' → wpList Tryd.prog ops Q rest (a.put o.dst v') w') : wpList Tryd.prog ops Q (o :: rest) a w := by
  obtain ⟨i0, hi, hz0, hz1, hz2⟩ := info_parts (show (Tryd.prog.info? 9).map (fun i => (i.zero, i.size, i.bytes)) = some (some (.string ⟨#[]⟩), 1, 16) by kernel_rfl)
  refine wpList_append_own w hgd s x 41 ho B 9 i0 (.string ⟨#[]⟩) 1 16 Tryd.underlying41 hi hz0 hz1 hz2 rfl (by decide) v ws.length (ws.map strV) hs hown ⟨g, 0, none⟩ 1 c [strV y] hx rfl ?_ ?_ ?_ ?_ hB ?_
  · intro j u hj
    match j, hj with
    | 0, hj => simp at hj; subst hj; simpa [Addr.add] using hy
    | j + 1, hj => simp at hj
  · intro u hu; simp at hu; subst hu; rfl
  · unfold maxLen; omega
  · omega
  · intro v' w' h1 h2 _
    refine h v' w' ?_ ⟨h2.os, h2.tape, h2.output, h2.size, fun k hk => h2.block k (by omega) fun e => ?_⟩
    · unfold OwnS
      rw [List.map_append, List.length_append]
      exact h1
    · have := (World.ownsRow.lt hown) k e.symm
      omega

theorem one_byte {s : ByteArray} {k : Nat} (h : k < s.size) : s.extract k (k + 1) = strOfNums [(s[k].toNat : Int)] := by
  apply nms_inj
  rw [nms_of (by intro x hx; simp at hx; subst hx; have := s[k].toNat_lt; omega)]
  have e := nms_at h
  have d : nms (s.extract k (k + 1)) = ((nms s).drop k).take 1 := by
    unfold nms
    rw [ByteArray.data_extract, Array.toList_extract, List.extract_eq_take_drop, ← List.map_drop, ← List.map_take]
    congr 2
    omega
  rw [d, e]
  rfl
theorem slice_one {s : ByteArray} {k : Nat} (h : k < s.size) (W : World) : Sem.run Tryd.prog (Instr.slice 9 (.string s) (some (.int .i64 (k : Int))) (some (.int .i64 ((k : Int) + 1))) none) W = .ok (.string (strOfNums [(s[k].toNat : Int)])) W := by
  have e := run_slice_string (P := Tryd.prog) W 9 s .i64 .i64 (k : Int) ((k : Int) + 1) (by kernel_rfl) (by omega) (by omega) (by omega)
  rw [show ((k : Int)).toNat = k by omega, show ((k : Int) + 1).toNat = k + 1 by omega, one_byte h] at e
  exact e
/-- Texts were handed back. -/
def Strs (w : World) (B : Nat) (v : Value) (ws : List (List Int)) : Prop := ∃ g cap, v = .slice (some ⟨g, 0, none⟩) ws.length cap ∧ B ≤ g ∧ g < w.heap.size ∧ ∀ (i : Nat) (x : List Int), ws[i]? = some x → w.cell? ⟨g, i, none⟩ = some (.string (strOfNums x))
def GaveStrs (ws : List (List Int)) (w : World) (e : Ending) (w' : World) : Prop := ∃ v, e = .returned v ∧ Strs w' w.heap.size v ws ∧ Below w.heap.size w w'

end Go.Proofs.YtlpodfachgnkhaaDoor
