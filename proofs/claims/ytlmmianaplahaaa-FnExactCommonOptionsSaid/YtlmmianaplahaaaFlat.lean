/-
  ARGUMENTS THAT ARE STRUCTS OF NUMBERS, AND OF SUCH STRUCTS: their cells are numbers of 64 bits.
-/
import Derived.Test.YtlmmianaplahaaaLaw
set_option linter.unusedVariables false
set_option linter.unusedSimpArgs false
namespace Go.Proofs.Ytlmmianaplahaaa.Law
open Go.ChangeShapes Go.WideShapes Go.ChangeAt Go.RowKit

/-- A type all of whose cells are numbers of 64 bits. -/
def flatB (P : Program) : Nat → TypeId → Bool
  | 0, _ => false
  | n + 1, t => match P.underlying t with
    | some (.int .i64) => true
    | some (.struct fs) => fs.all (fun f => flatB P n f.type) && (List.range (P.cellsOf t)).all fun j => fs.any fun f => decide (f.offset ≤ j ∧ j < f.offset + P.cellsOf f.type)
    | _ => false

section
variable {H : Type} {enc : TypeId × Value → H} {P : Program}
theorem flat_ints {W : World} {base : Nat} {sp : Nat → Bool} {hd : Bool} : ∀ (n : Nat) (t : TypeId), flatB P n t = true → ∀ (fuel : Nat) (cs : List Value) (x : DataW H × List MemPlace), DataW.trod enc P W base sp hd fuel t cs = some x →
    ∀ (j : Nat) (v : Value), cs[j]? = some v → ∃ z : Int, I64 z ∧ v = .int .i64 z
  | 0, _, h, _, _, _, _, _, _, _ => by cases h
  | n + 1, t, h, fuel, cs, x, hx, j, v, hv => by
    unfold flatB at h
    split at h
    · rename_i hu
      obtain ⟨z, hz, _, hw⟩ := DataW.trod_int hu hx
      subst hz
      have : j = 0 := by
        by_cases e : j = 0
        · exact e
        · rw [List.getElem?_eq_none (by simp; omega)] at hv; cases hv
      subst this
      simp at hv
      exact ⟨z, i64_arg hw, hv.symm⟩
    · rename_i fs hu
      rw [Bool.and_eq_true] at h
      obtain ⟨xs, m, _, _, hl, _, hg⟩ := DataW.trod_struct hu hx
      have hj : j < P.cellsOf t := by
        rw [← hl]
        by_cases c : j < cs.length
        · exact c
        · rw [List.getElem?_eq_none (by omega)] at hv; cases hv
      have hc := List.all_eq_true.1 h.2 j (List.mem_range.2 hj)
      rw [Array.any_eq_true] at hc
      obtain ⟨i, hi, hc⟩ := hc
      have hc := of_decide_eq_true hc
      have hfl : flatB P n (fs[i]).type = true := by
        have := Array.all_eq_true.1 h.1 i hi
        exact this
      have hgi := hg i fs[i] (Array.getElem?_eq_getElem hi)
      cases hy : xs[i]? with
      | none =>
        rw [hy] at hgi
        rename_i hlen _
        rw [List.getElem?_eq_none_iff] at hy
        omega
      | some y =>
        rw [hy] at hgi
        refine flat_ints n _ hfl m _ y hgi (j - (fs[i]).offset) v ?_
        rw [List.getElem?_take, if_pos (by omega), List.getElem?_drop]
        rw [show (fs[i]).offset + (j - (fs[i]).offset) = j by omega]
        exact hv
    · cases h

theorem flat_list : ∀ l : List Value, (∀ (j : Nat) (v : Value), l[j]? = some v → ∃ z : Int, I64 z ∧ v = .int .i64 z) → ∃ zs : List Int, zs.length = l.length ∧ (∀ z ∈ zs, I64 z) ∧ l = zs.map (Value.int .i64)
  | [], _ => ⟨[], rfl, by simp, rfl⟩
  | a :: l, h => by
    obtain ⟨z, h1, h2⟩ := h 0 a rfl
    obtain ⟨zs, e1, e2, e3⟩ := flat_list l fun j v hv => h (j + 1) v (by simpa using hv)
    exact ⟨z :: zs, by simp [e1], by simpa using ⟨h1, e2⟩, by rw [h2]; simp [e3]⟩

/-- An argument of such a type. -/
theorem flat_arg {W : World} {r : Reach} {b0 base : Nat} {sp : Nat → Bool} {hd : Bool} {t : TypeId} {fs : Array Field} {v : Value} {d : DataW H} {ps : List MemPlace} (ht : P.underlying t = some (.struct fs)) (n k : Nat) (hf : flatB P n t = true) (hk : P.cellsOf t = k)
    (hval : Value.okWide P W r b0 t v) (h : DataW.Trod enc P W base sp hd t v d ps) : ∃ zs : List Int, zs.length = k ∧ (∀ z ∈ zs, I64 z) ∧ v = .agg (zs.map (Value.int .i64)).toArray := by
  obtain ⟨cs, rfl, hsz⟩ := okWide_struct ht hval
  obtain ⟨fuel, hx⟩ := h
  obtain ⟨zs, e1, e2, e3⟩ := flat_list cs.toList fun j v hv => flat_ints n t hf _ _ _ hx j v (by simpa [Value.cells] using hv)
  refine ⟨zs, by rw [e1, ← hk, ← hsz]; simp, e2, ?_⟩
  rw [← e3]
end
end Go.Proofs.Ytlmmianaplahaaa.Law
