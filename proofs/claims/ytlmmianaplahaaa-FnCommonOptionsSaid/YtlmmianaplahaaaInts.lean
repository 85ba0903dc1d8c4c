/-
  SLICES OF NUMBERS THAT A FUNCTION HANDS BACK: what they hold, what keeps them, and the laws' functions that compare, mark and check them.
-/
import Derived.Test.YtlmmianaplahaaaKeep
import Derived.Test.YtlmmianaplahaaaHas
import Derived.Deep.QuietTactic
import Derived.BigQuiet
import Derived.IntWalk
import Derived.Laws.AppendOwn
set_option linter.unusedVariables false
set_option linter.unusedSimpArgs false
namespace Go.Proofs.Ytlmmianaplahaaa
open Go.ChangeShapes Go.WideShapes Go.ChangeAt Go.RowKit Law

/-- v is a slice of the numbers xs, in memory of block B or later, that may be written. -/
def Ints (w : World) (B : Nat) (v : Value) (xs : List Int) : Prop := ∃ a cap, v = .slice a xs.length cap ∧ xs.length ≤ cap ∧ (cap ≤ 9223372036854775807 ∧ xs.length ≤ 1000000000) ∧
  (0 < xs.length → ∃ b off, a = some ⟨b, off, none⟩ ∧ B ≤ b ∧ b < w.heap.size ∧ (∀ i, i < xs.length → w.cell? ⟨b, off + i, none⟩ = some (.int .i64 (xs.getD i 0))) ∧ ∀ i, w.frozen? ⟨b, i, none⟩ = false)
theorem Ints.keep {w w' : World} {B : Nat} {v : Value} {xs : List Int} (h : Ints w B v xs) (k : ∀ b, B ≤ b → b < w.heap.size → w'.heap[b]? = w.heap[b]?) (hs : w.heap.size ≤ w'.heap.size) : Ints w' B v xs := by
  obtain ⟨a, cap, e, h1, h2, h3⟩ := h
  refine ⟨a, cap, e, h1, h2, fun h0 => ?_⟩
  obtain ⟨b, off, e1, e2, e3, e4, e5⟩ := h3 h0
  exact ⟨b, off, e1, e2, by omega, fun i hi => (World.cell?_of_block (k b e2 e3)).trans (e4 i hi), fun i => (World.frozen?_of_block (a := ⟨b, i, none⟩) (k b e2 e3)).trans (e5 i)⟩
theorem Ints.below {w w' : World} {B : Nat} {v : Value} {xs : List Int} (h : Ints w B v xs) (k : Below w.heap.size w w') : Ints w' B v xs := h.keep (fun b _ hb => k.block b hb) k.size
theorem Ints.alloc {w : World} {B : Nat} {v : Value} {xs : List Int} (h : Ints w B v xs) (o : Obj) : Ints (w.alloc o) B v xs := h.below ((Below.refl _ _).alloc (Nat.le_refl _) o)
theorem Ints.drew {w : World} {B : Nat} {v : Value} {xs : List Int} (h : Ints w B v xs) : Ints w.drew B v xs := h
theorem Ints.lower {w : World} {B B' : Nat} {v : Value} {xs : List Int} (h : Ints w B v xs) (hB : B' ≤ B) : Ints w B' v xs := by
  obtain ⟨a, cap, e, h1, h2, h3⟩ := h
  refine ⟨a, cap, e, h1, h2, fun h0 => ?_⟩
  obtain ⟨b, off, e1, e2, e3⟩ := h3 h0
  exact ⟨b, off, e1, by omega, e3⟩
/-- A slice that was made whole. -/
theorem Ints.made (w : World) (cs : Array Value) (T : TypeId) (xs : List Int) (hcs : cs.toList = xs.map (Value.int .i64)) (hl : xs.length ≤ 1000000) {B : Nat} (hB : B ≤ w.heap.size) : Ints (w.alloc (.cells cs T)) B (.slice (some ⟨w.heap.size, 0, none⟩) xs.length xs.length) xs := by
  refine ⟨_, _, rfl, Nat.le_refl _, by omega, fun h0 => ⟨_, 0, rfl, hB, by simp, fun i hi => ?_, fun i => by go_simp⟩⟩
  rw [World.cell?_alloc_new, Nat.zero_add, ← Array.getElem?_toList, hcs, List.getElem?_map, List.getElem?_eq_getElem hi]
  simp [List.getD_eq_getElem?_getD, List.getElem?_eq_getElem hi]
theorem Ints.none (w : World) (B : Nat) (a : Option Addr) : Ints w B (.slice a 0 0) [] := ⟨a, 0, rfl, Nat.le_refl _, ⟨by omega, by simp⟩, fun h => absurd h (by simp)⟩

set_option maxHeartbeats 1000000 in
theorem eqIntS_same (xs : List Int) (a b : Value) (w : World) (A B : Nat) (ha : Ints w A a xs) (hb : Ints w B b xs) :
    Calls Try.prog 32 #[a, b] w fun e w' => e = .returned (.bool true) ∧ Below w.heap.size w w' := by
  obtain ⟨pa, ca, rfl, la1, la2, ha⟩ := ha
  obtain ⟨pb, cb, rfl, lb1, lb2, hb⟩ := hb
  generalize hn : xs.length = n at *
  go_enter Try.func32, Try.ntmps32
  go_wp2
  go_loopw [5] (fun i wr => ∃ j : Nat, i = .int .i64 (j : Int) ∧ j ≤ n ∧ Below w.heap.size w wr) (fun i _ => ((n : Int) - intOf i).toNat)
  case atStart => exact ⟨0, rfl, by omega, Below.refl _ _⟩
  case round =>
    obtain ⟨j, rfl, hj, hw⟩ := hrel
    by_cases h : j < n
    · obtain ⟨b1, o1, rfl, hb1, hs1, hc1, _⟩ := ha (by omega)
      obtain ⟨b2, o2, rfl, hb2, hs2, hc2, _⟩ := hb (by omega)
      have c1 := (Below_at hw b1 _ hs1).trans (hc1 j h)
      have c2 := (Below_at hw b2 _ hs2).trans (hc2 j h)
      generalize xs.getD j 0 = x at *
      clear ha hb hc1 hc2
      have h0 : (0 : Int) ≤ j := by omega
      have h9 : (j : Int) < n := by omega
      go_wp2
      go_quiet (fail)
      go_wp2
      go_roundw
      case rel => exact ⟨j + 1, by go_num, by omega, (by repeat' (first | with_reducible assumption | with_reducible exact Below.refl _ _ | with_reducible refine Below.setCell ?_ ?_ _ | with_reducible refine Below.alloc ?_ ?_ _ | with_reducible apply Below.drew | with_reducible apply Below.drewn | (simp; done) | (simp; omega)))⟩
      case measure => simp [intOf]; omega
    · obtain rfl : j = n := by omega
      go_wp2
      go_ret
      exact ⟨rfl, (by repeat' (first | with_reducible assumption | with_reducible exact Below.refl _ _ | with_reducible refine Below.setCell ?_ ?_ _ | with_reducible refine Below.alloc ?_ ?_ _ | with_reducible apply Below.drew | with_reducible apply Below.drewn | (simp; done) | (simp; omega)))⟩

set_option maxHeartbeats 1000000 in
theorem sameInts_same (xs : List Int) (a b : Value) (w : World) (A B : Nat) (ha : Ints w A a xs) (hb : Ints w B b xs) :
    Calls Try.prog 23 #[a, b] w fun e w' => e = .returned (.bool true) ∧ Below w.heap.size w w' := by
  obtain ⟨pa, ca, rfl, la1, la2, ha⟩ := ha
  obtain ⟨pb, cb, rfl, lb1, lb2, hb⟩ := hb
  generalize hn : xs.length = n at *
  go_enter Try.func23, Try.ntmps23
  go_wp2
  go_loopw [5] (fun i wr => ∃ j : Nat, i = .int .i64 (j : Int) ∧ j ≤ n ∧ Below w.heap.size w wr) (fun i _ => ((n : Int) - intOf i).toNat)
  case atStart => exact ⟨0, rfl, by omega, Below.refl _ _⟩
  case round =>
    obtain ⟨j, rfl, hj, hw⟩ := hrel
    by_cases h : j < n
    · obtain ⟨b1, o1, rfl, hb1, hs1, hc1, _⟩ := ha (by omega)
      obtain ⟨b2, o2, rfl, hb2, hs2, hc2, _⟩ := hb (by omega)
      have c1 := (Below_at hw b1 _ hs1).trans (hc1 j h)
      have c2 := (Below_at hw b2 _ hs2).trans (hc2 j h)
      generalize xs.getD j 0 = x at *
      clear ha hb hc1 hc2
      have h0 : (0 : Int) ≤ j := by omega
      have h9 : (j : Int) < n := by omega
      go_wp2
      go_quiet (fail)
      go_wp2
      go_roundw
      case rel => exact ⟨j + 1, by go_num, by omega, (by repeat' (first | with_reducible assumption | with_reducible exact Below.refl _ _ | with_reducible refine Below.setCell ?_ ?_ _ | with_reducible refine Below.alloc ?_ ?_ _ | with_reducible apply Below.drew | with_reducible apply Below.drewn | (simp; done) | (simp; omega)))⟩
      case measure => simp [intOf]; omega
    · obtain rfl : j = n := by omega
      go_wp2
      go_ret
      exact ⟨rfl, (by repeat' (first | with_reducible assumption | with_reducible exact Below.refl _ _ | with_reducible refine Below.setCell ?_ ?_ _ | with_reducible refine Below.alloc ?_ ?_ _ | with_reducible apply Below.drew | with_reducible apply Below.drewn | (simp; done) | (simp; omega)))⟩

/-- A slice that was gathered by append. -/
theorem Ints.owns {w : World} {B : Nat} {e : TypeId} {v : Value} {n : Nat} {xs : List Int} (h : w.ownsRow B e 1 v n (xs.map (Value.int .i64))) (hx : xs.length ≤ 1000000000) : Ints w B v xs := by
  obtain ⟨hl, h⟩ := h
  simp at hl
  subst hl
  rcases h with ⟨rfl, h0⟩ | ⟨g, cap, cur, rfl, hg, hb, h1, h2, h3, h4⟩
  · have : xs = [] := List.eq_nil_of_length_eq_zero h0
    subst this
    exact Ints.none _ _ _
  · refine ⟨_, cap, rfl, h1, by unfold maxLen at h2; omega, fun h0 => ⟨g, 0, rfl, hg, (Array.getElem?_eq_some_iff.1 hb).1, fun i hi => ?_, fun i => ?_⟩⟩
    · have hx : cur.toList[i]? = some (.int .i64 (xs.getD i 0)) := by
        have : (cur.toList.take (xs.length * 1))[i]? = (xs.map (Value.int .i64))[i]? := by rw [h4]
        rw [List.getElem?_take, if_pos (by omega), List.getElem?_map, List.getElem?_eq_getElem hi] at this
        rw [this]
        simp [List.getD_eq_getElem?_getD, List.getElem?_eq_getElem hi]
      unfold World.cell?
      simp [hb]
      simpa using hx
    · unfold World.frozen?
      simp [hb]
/-- A slice that the call gathers itself: the numbers xs, in memory of block B or later. -/
def Own (w : World) (B : Nat) (v : Value) (xs : List Int) : Prop := w.ownsRow B 3 1 v xs.length (xs.map (Value.int .i64))
theorem Own.ints {w : World} {B : Nat} {v : Value} {xs : List Int} (h : Own w B v xs) (hx : xs.length ≤ 1000000000) : Ints w B v xs := Ints.owns h hx
theorem Own.below {w w' : World} {B : Nat} {v : Value} {xs : List Int} (h : Own w B v xs) (k : Below w.heap.size w w') : Own w' B v xs := by
  obtain ⟨hl, h⟩ := h
  refine ⟨hl, ?_⟩
  rcases h with h | ⟨g, cap, cur, e1, e2, e3, e4⟩
  · exact .inl h
  · exact .inr ⟨g, cap, cur, e1, e2, (k.block g (Array.getElem?_eq_some_iff.1 e3).1).trans e3, e4⟩
theorem Own.alloc {w : World} {B : Nat} {v : Value} {xs : List Int} (h : Own w B v xs) (o : Obj) : Own (w.alloc o) B v xs := h.below ((Below.refl _ _).alloc (Nat.le_refl _) o)
theorem Own.drew {w : World} {B : Nat} {v : Value} {xs : List Int} (h : Own w B v xs) : Own w.drew B v xs := h
theorem Own.nil (w : World) (B : Nat) : Own w B (.slice none 0 0) [] := World.ownsRow_nil _ _ _ _
theorem Own.made0 (w : World) {B : Nat} (hB : B ≤ w.heap.size) : Own (w.alloc (.cells #[] 3)) B (.slice (some ⟨w.heap.size, 0, none⟩) 0 0) [] := World.ownsRow_made w #[] 0 hB (by simp) (by simp)

/-- A number is appended to such a slice. -/
theorem append_int {ops : Array Oper} {rest : List Oper} {o : Oper} {a : Act} {w : World} {Q : Exit → Act → World → Prop} (hgd : o.guard = none) (s x : Operand)
    (ho : o.op = .call { callee := .builtin .append, args := #[s, x], argTypes := #[31, 31] }) (B : Nat) (v : Value) (xs : List Int) (hs : a.eval s = v) (hown : Own w B v xs)
    (g c : Nat) (y : Int) (hx : a.eval x = .slice (some ⟨g, 0, none⟩) 1 c) (hy : w.cell? ⟨g, 0, none⟩ = some (.int .i64 y)) (hl : xs.length ≤ 1000000) (hB : B ≤ w.heap.size)
    (h : ∀ v' w', Own w' B v' (xs ++ [y]) → Below B w w' → wpList Try.prog ops Q rest (a.put o.dst v') w') : wpList Try.prog ops Q (o :: rest) a w := by
  obtain ⟨i0, hi, hz0, hz1, hz2⟩ := info_parts (show (Try.prog.info? 3).map (fun i => (i.zero, i.size, i.bytes)) = some (some (.int .i64 0), 1, 8) by kernel_rfl)
  refine wpList_append_own w hgd s x 31 ho B 3 i0 (.int .i64 0) 1 8 Try.underlying31 hi hz0 hz1 hz2 rfl (by decide) v xs.length (xs.map (Value.int .i64)) hs hown ⟨g, 0, none⟩ 1 c [.int .i64 y] hx rfl ?_ ?_ ?_ ?_ hB ?_
  · intro j u hj
    match j, hj with
    | 0, hj => simp at hj; subst hj; simpa [Addr.add] using hy
    | j + 1, hj => simp at hj
  · intro u hu; simp at hu; subst hu; rfl
  · unfold maxLen; omega
  · omega
  · intro v' w' h1 h2 _
    refine h v' w' ?_ ⟨h2.os, h2.tape, h2.output, h2.size, fun k hk => h2.block k (by omega) fun e => ?_⟩
    · unfold Own
      rw [List.map_append, List.length_append]
      exact h1
    · have := (World.ownsRow.lt hown) k e.symm
      omega
/-- The numbers that a mark leaves. -/
def marks (k : Int) (n : Nat) : List Int := (List.range n).map fun i : Nat => k + (i : Int)
theorem marks_len (k : Int) (n : Nat) : (marks k n).length = n := by simp [marks]
theorem marks_at (k : Int) (n : Nat) {i : Nat} (h : i < n) : (marks k n).getD i 0 = k + i := by
  simp [marks, List.getD_eq_getElem?_getD, h]

set_option maxHeartbeats 1000000 in
theorem markIntS_any (xs : List Int) (k : Int) (v : Value) (w : World) (B : Nat) (h : Ints w B v xs) (hk : 0 ≤ k ∧ k ≤ 1000000000) :
    Calls Try.prog 33 #[v, .int .i64 k] w fun e w' => e = .returned (.int .i64 (k + xs.length)) ∧ Below B w w' ∧ w'.heap.size = w.heap.size ∧ Ints w' B v (marks k xs.length) := by
  obtain ⟨p, cap, rfl, l1, l2, h3⟩ := h
  generalize hn : xs.length = n at *
  go_enter Try.func33, Try.ntmps33
  go_wp2
  go_loopw [5, 1] (fun i kk wr => ∃ j : Nat, i = .int .i64 (j : Int) ∧ kk = .int .i64 (k + j) ∧ j ≤ n ∧ Below B w wr ∧ wr.heap.size = w.heap.size ∧
      (0 < n → ∃ b off, p = some ⟨b, off, none⟩ ∧ B ≤ b ∧ b < w.heap.size ∧ (∀ i, i < n → wr.cell? ⟨b, off + i, none⟩ = some (.int .i64 (if i < j then k + i else xs.getD i 0))) ∧ ∀ i, wr.frozen? ⟨b, i, none⟩ = false)) (fun i _ _ => ((n : Int) - intOf i).toNat)
  case atStart =>
    refine ⟨0, rfl, by simp, by omega, Below.refl _ _, rfl, fun h0 => ?_⟩
    obtain ⟨b, off, e1, e2, e3, e4, e5⟩ := h3 h0
    exact ⟨b, off, e1, e2, e3, fun i hi => by rw [if_neg (by omega)]; exact e4 i hi, e5⟩
  case round =>
    obtain ⟨j, rfl, rfl, hj, hw, hsz, hc⟩ := hrel
    by_cases h : j < n
    · obtain ⟨b1, o1, rfl, hb1, hs1, hc1, hf1⟩ := hc (by omega)
      have c1 := hc1 j h
      have f1 := hf1 (o1 + j)
      rw [if_neg (by omega)] at c1
      clear h3 hc
      have h0 : (0 : Int) ≤ j := by omega
      have h9 : (j : Int) < n := by omega
      have hcc := Lib.hid hc1
      have hff := Lib.hid hf1
      clear hc1 hf1
      go_wp2
      go_roundw
      case rel =>
        refine ⟨j + 1, by go_num, by go_num, by omega, hw.setCell (p := ⟨b1, o1 + j, none⟩) hb1 _, by rw [World.size_setCell]; exact hsz, fun _ => ⟨b1, o1, rfl, hb1, hs1, fun i hi => ?_, fun i => by rw [World.frozen?_setCell]; exact hff.out i⟩⟩
        by_cases e : i = j
        · subst e
          rw [World.cell?_setCell_same _ _ _ c1, if_pos (by omega)]
        · rw [World.cell?_setCell_other _ _ _ _ (by first | (simp; done) | (simp; omega)), hcc.out i hi]
          by_cases e2 : i < j
          · rw [if_pos e2, if_pos (by omega)]
          · rw [if_neg e2, if_neg (by omega)]
      case measure => simp [intOf]; omega
    · obtain rfl : j = n := by omega
      have hc' := Lib.hid hc
      clear hc h3
      go_wp2
      go_ret
      refine ⟨rfl, hw, hsz, p, cap, by rw [marks_len], by rw [marks_len]; exact l1, by rw [marks_len]; exact l2, fun h0 => ?_⟩
      rw [marks_len] at h0
      obtain ⟨b1, o1, rfl, hb1, hs1, hc1, hf1⟩ := hc'.out h0
      refine ⟨b1, o1, rfl, hb1, by omega, fun i hi => ?_, hf1⟩
      rw [marks_len] at hi
      rw [hc1 i hi, if_pos hi, marks_at _ _ hi]

set_option maxHeartbeats 1000000 in
theorem heldIntS_any (n : Nat) (k : Int) (v : Value) (w : World) (B : Nat) (h : Ints w B v (marks k n)) (hk : 0 ≤ k ∧ k ≤ 1000000000) :
    Calls Try.prog 34 #[v, .int .i64 k] w fun e w' => e = .returned (.int .i64 (k + n)) ∧ w = w' := by
  obtain ⟨p, cap, rfl, l1, l2, h3⟩ := h
  rw [marks_len] at *
  go_enter Try.func34, Try.ntmps34
  go_wp2
  go_loopw [5, 1] (fun i kk wr => ∃ j : Nat, i = .int .i64 (j : Int) ∧ kk = .int .i64 (k + j) ∧ j ≤ n ∧ w = wr) (fun i _ _ => ((n : Int) - intOf i).toNat)
  case atStart => exact ⟨0, rfl, by simp, by omega, rfl⟩
  case round =>
    obtain ⟨j, rfl, rfl, hj, rfl⟩ := hrel
    by_cases h : j < n
    · obtain ⟨b1, o1, rfl, hb1, hs1, hc1, _⟩ := h3 (by omega)
      have c1 := hc1 j h
      rw [marks_at k n h] at c1
      clear h3 hc1
      have h0 : (0 : Int) ≤ j := by omega
      have h9 : (j : Int) < n := by omega
      go_wp2
      go_roundw
      case rel => exact ⟨j + 1, by go_num, by go_num, by omega, by first | rfl | trivial⟩
      case measure => simp [intOf]; omega
    · obtain rfl : j = n := by omega
      clear h3
      go_wp2
      go_ret
      exact ⟨rfl, rfl⟩
end Go.Proofs.Ytlmmianaplahaaa
