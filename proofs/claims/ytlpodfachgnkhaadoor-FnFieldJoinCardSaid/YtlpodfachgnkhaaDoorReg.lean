/-
  A REGION THAT DRAWS ITS ORDER, WALKED OPERATION BY OPERATION: what each operation yields is said once, whatever came before; no order is gone through.
-/
import Derived.WalkKit
import Derived.ProofKit
import Derived.Deep.RegionWith
set_option linter.unusedVariables false
set_option linter.unusedSimpArgs false
namespace Go.Proofs.YtlpodfachgnkhaaDoor.Reg
open Go

section
variable {P : Program} {ops : Array Oper} {Q : Exit → Act → World → Prop} {md : Region.Mode}

/-- How many operations are not yet listed. -/
def left (ops : Array Oper) (l : Array Bool) : Nat := (List.range ops.size).countP fun i => !l.getD i true

theorem countP_less {α : Type} (p q : α → Bool) (x : α) (hx : p x = true) (hq : q x = false) (hle : ∀ y, q y = true → p y = true) : ∀ L : List α, x ∈ L → L.countP q < L.countP p
  | [], h => by cases h
  | y :: L, h => by
    have hm : L.countP q ≤ L.countP p := List.countP_mono_left fun z _ hz => hle z hz
    by_cases e : y = x
    · subst e
      rw [List.countP_cons_of_pos hx, List.countP_cons_of_neg (by simp [hq])]
      omega
    · have hL : x ∈ L := by
        rcases List.mem_cons.1 h with e' | h'
        · exact absurd e'.symm e
        · exact h'
      have ih := countP_less p q x hx hq hle L hL
      simp only [List.countP_cons]
      by_cases hqy : q y = true
      · rw [if_pos hqy, if_pos (hle y hqy)]; omega
      · rw [if_neg hqy]; omega

theorem getD_set {l : Array Bool} {i : Nat} (hi : l.getD i true = false) (j : Nat) (d : Bool) : (l.setIfInBounds i true).getD j d = if i = j then true else l.getD j d := by
  have hlt : i < l.size := by
    by_cases h : i < l.size
    · exact h
    · simp [Array.getD, h] at hi
  simp only [Array.getD_eq_getD_getElem?, Array.getElem?_setIfInBounds]
  by_cases e : i = j
  · subst e; simp [hlt]
  · simp [e]

theorem left_less {l : Array Bool} {i : Nat} (hi : i < ops.size) (h : l.getD i true = false) : left ops (l.setIfInBounds i true) < left ops l := by
  refine countP_less _ _ i (by simp [h]) ?_ ?_ _ (List.mem_range.2 hi)
  · simp [getD_set h]
  · intro j hj
    simp only [getD_set h] at hj
    by_cases e : i = j
    · simp [e] at hj
    · simpa [e] using hj

theorem ready_mem {l : Array Bool} {i : Nat} (h : i ∈ Region.ready md ops l) : ∃ o, ops[i]? = some o ∧ i < ops.size ∧ l.getD i true = false ∧ ∀ e ∈ o.after, Region.binds md e = true → l.getD e.on false = true := by
  unfold Region.ready at h
  rw [List.mem_filter, List.mem_range] at h
  obtain ⟨hi, hc⟩ := h
  rw [Bool.and_eq_true] at hc
  have ho : ops[i]? = some ops[i] := Array.getElem?_eq_getElem hi
  refine ⟨ops[i], ho, hi, by simpa using hc.1, fun e he hb => ?_⟩
  have h2 := hc.2
  rw [ho] at h2
  simp only [Option.map_some, Option.getD_some, Array.all_eq_true_iff_forall_mem] at h2
  have := h2 e he
  simpa [hb] using this

theorem wpAny_inv (I : Array Bool → Act → World → Prop)
    (step : ∀ l a w i, I l a w → i ∈ Region.ready md ops l → wpOp P ops Q i (I (l.setIfInBounds i true)) a w)
    (done : ∀ l a w, I l a w → Region.ready md ops l = [] → Q .normal a w) :
    ∀ n l a w, I l a w → left ops l ≤ n → wpAny P md ops Q n l a w
  | 0, l, a, w, h, hn => by
    have hr : Region.ready md ops l = [] := by
      refine List.eq_nil_iff_forall_not_mem.2 fun i hi => ?_
      obtain ⟨o, _, hi', h', _⟩ := ready_mem hi
      have := left_less (ops := ops) hi' h'
      omega
    exact ⟨hr, done l a w h hr⟩
  | n + 1, l, a, w, h, hn => ⟨fun hr => done l a w h hr, fun i hi => wpOp_mono (fun a' w' h' => wpAny_inv I step done n _ a' w' h' (by
      obtain ⟨o, _, hi', hf, _⟩ := ready_mem hi
      have := left_less (ops := ops) hi' hf
      omega)) (step l a w i h hi)⟩

/-- What is known of a frame and a world when the operations of l have been carried out: T says of each what its slot holds, G what the world is. -/
structure Known (ops : Array Oper) (a0 : Act) (T : Nat → World → Value → Prop) (G : Nat → Array Bool → World → Prop) (l : Array Bool) (a : Act) (w : World) : Prop where
  size : a.tmps.size = a0.tmps.size
  defers : a.defers = a0.defers
  other : ∀ t, (∀ (j : Nat) (o : Oper), ops[j]? = some o → o.dst ≠ some t) → a.tmps.getD t undef = a0.tmps.getD t undef
  val : ∀ (j : Nat) (o : Oper) (d : Tmp), ops[j]? = some o → l.getD j false = true → o.dst = some d → T j w (a.tmps.getD d undef)
  world : G (ops.size - left ops l) l w

theorem Known.world' {a0 : Act} {T : Nat → World → Value → Prop} {G : Nat → Array Bool → World → Prop} {l : Array Bool} {a : Act} {w : World} (h : Known ops a0 T G l a w) : ∃ k, k ≤ ops.size ∧ G k l w := ⟨_, Nat.sub_le _ _, h.world⟩

/-- What is asked of operation i: after what it waits for, it yields what T says, and keeps G. -/
def Fits (P : Program) (md : Region.Mode) (ops : Array Oper) (Q : Exit → Act → World → Prop) (a0 : Act) (T : Nat → World → Value → Prop) (G : Nat → Array Bool → World → Prop) (F : World → World → Prop) (i : Nat) (o : Oper) : Prop :=
  ∀ l a w k, l.getD i true = false → k < ops.size →
    (∀ t, (∀ (j : Nat) (o : Oper), ops[j]? = some o → o.dst ≠ some t) → a.tmps.getD t undef = a0.tmps.getD t undef) →
    (∀ (j : Nat) (oj : Oper) (d : Tmp), ops[j]? = some oj → (∃ e ∈ o.after, Region.binds md e = true ∧ e.on = j) → oj.dst = some d → T j w (a.tmps.getD d undef)) →
    (∀ j, (∃ e ∈ o.after, Region.binds md e = true ∧ e.on = j) → l.getD j false = true) →
    G k l w →
    ∀ K : Act → World → Prop, (∀ v w', (o.dst ≠ none → T i w' v) → F w w' → (∀ k', k < k' → k' ≤ ops.size → G k' (l.setIfInBounds i true) w') → K (a.put o.dst v) w') → Oper.wp P o a w K Q

/-- Each operation has no guard, waits for earlier ones alone, and writes a slot of its own, below n. -/
def okB (ops : Array Oper) (n : Nat) : Bool := (List.range ops.size).all fun i => match ops[i]? with
  | none => false
  | some o => o.guard.isNone && o.after.all (fun e => !Region.binds .any e || decide (e.on < i)) && match o.dst with
    | none => true
    | some d => decide (d < n) && (List.range ops.size).all fun j => j == i || match ops[j]? with
      | none => true
      | some p => p.dst != some d

theorem okB_at {n : Nat} (h : okB ops n = true) {i : Nat} {o : Oper} (ho : ops[i]? = some o) : o.guard = none ∧ (∀ e ∈ o.after, Region.binds .any e = true → e.on < i) ∧
    ∀ d, o.dst = some d → d < n ∧ ∀ (j : Nat) (p : Oper), ops[j]? = some p → j ≠ i → p.dst ≠ some d := by
  have hi : i < ops.size := (Array.getElem?_eq_some_iff.1 ho).1
  have := List.all_eq_true.1 h i (List.mem_range.2 hi)
  rw [ho] at this
  simp only [Bool.and_eq_true] at this
  obtain ⟨⟨h1, h2⟩, h3⟩ := this
  refine ⟨by simpa using h1, fun e he hb => ?_, fun d hd => ?_⟩
  · have := Array.all_eq_true_iff_forall_mem.1 h2 e he
    simpa [hb] using this
  · rw [hd] at h3
    simp only [Bool.and_eq_true, decide_eq_true_eq] at h3
    refine ⟨h3.1, fun j p hp hne he => ?_⟩
    have hj : j < ops.size := (Array.getElem?_eq_some_iff.1 hp).1
    have := List.all_eq_true.1 h3.2 j (List.mem_range.2 hj)
    rw [hp] at this
    simp [hne, he] at this

theorem all_listed {n : Nat} (h : okB ops n = true) {l : Array Bool} (hl : l.size = ops.size) (hr : Region.ready .any ops l = []) : ∀ i, i < ops.size → l.getD i false = true := by
  intro i
  induction i using Nat.strongRecOn with
  | ind i ih =>
    intro hi
    by_cases c : l.getD i true = true
    · have : l.getD i true = l.getD i false := by simp [Array.getD_eq_getD_getElem?, hl, hi]
      rw [← this]; exact c
    · have c' : l.getD i true = false := by simpa using c
      have ho : ops[i]? = some ops[i] := Array.getElem?_eq_getElem hi
      have hk := okB_at h ho
      have hm : i ∈ Region.ready .any ops l := by
        unfold Region.ready
        rw [List.mem_filter, List.mem_range]
        refine ⟨hi, ?_⟩
        rw [ho, c']
        simp only [Option.map_some, Option.getD_some, Bool.not_false, Bool.true_and, Array.all_eq_true_iff_forall_mem]
        intro e he
        by_cases hb : Region.binds .any e = true
        · have := hk.2.1 e he hb
          simp [ih e.on this (by omega)]
        · simp [hb]
      rw [hr] at hm
      cases hm

theorem wp_region_typed {id : Nat} {a0 : Act} {w0 : World} (hm : P.follows .mixedOrders = true) (T : Nat → World → Value → Prop) (G : Nat → Array Bool → World → Prop) (F : World → World → Prop)
    (hT : ∀ i w w' v, T i w v → F w w' → T i w' v)
    (hok : okB ops a0.tmps.size = true)
    (hG : G 0 (Array.replicate ops.size false) w0.drew)
    (step : ∀ (i : Nat) (o : Oper), ops[i]? = some o → Fits P .any ops Q a0 T G F i o)
    (done : ∀ l a w, Known ops a0 T G l a w → (∀ i, i < ops.size → l.getD i false = true) → Q .normal a w) :
    (Code.region id ops true).wp P Q a0 w0 := by
  have left_le : ∀ l, left ops l ≤ ops.size := fun l => by
    have := List.countP_le_length (p := fun i => !l.getD i true) (l := List.range ops.size)
    simpa [left] using this
  have left_all : left ops (Array.replicate ops.size false) = ops.size := by
    have : (List.range ops.size).countP (fun i => !(Array.replicate ops.size false).getD i true) = (List.range ops.size).length := by
      refine List.countP_eq_length.2 fun i hi => ?_
      have := List.mem_range.1 hi
      simp [Array.getD_eq_getD_getElem?, Array.getElem?_replicate, this]
    simpa [left] using this
  refine wp_region_any hm (wpAny_inv (fun l a w => l.size = ops.size ∧ Known ops a0 T G l a w) ?_ ?_ ops.size _ _ _ ⟨by simp, ?_⟩ (left_le _))
  · rintro l a w i ⟨hls, h⟩ hi
    obtain ⟨o, ho, hlt, hf, haft⟩ := ready_mem hi
    unfold wpOp
    rw [ho]
    have hw : Region.wanted o (yielded ops a.tmps) = true := by simp [Region.wanted, (okB_at hok ho).1]
    simp only [hw, if_true]
    refine .inl ?_
    have hll := left_less (ops := ops) hlt hf
    have hle := left_le l
    refine step i o ho l a w (ops.size - left ops l) hf (by omega) h.other (fun j oj d hj ⟨e, he, hbe, hej⟩ hdj => h.val j oj d hj (hej ▸ haft e he hbe) hdj) (fun j ⟨e, he, hbe, hej⟩ => hej ▸ haft e he hbe) h.world _ ?_
    intro v w' hv hF hGk
    have hnew : ∀ (t : Nat), o.dst ≠ some t → (a.put o.dst v).tmps.getD t undef = a.tmps.getD t undef := by
      intro t ht
      unfold Act.put
      cases hdst : o.dst with
      | none => rfl
      | some d =>
        have : d ≠ t := fun e => ht (by rw [hdst, e])
        simp [Array.getD_eq_getD_getElem?, Array.getElem?_setIfInBounds, this]
    refine ⟨by simpa using hls, ⟨?_, ?_, ?_, ?_, hGk _ (by omega) (by omega)⟩⟩
    · rw [← h.size]; unfold Act.put; cases o.dst <;> simp
    · rw [← h.defers]; unfold Act.put; cases o.dst <;> rfl
    · intro t ht
      rw [hnew t (ht i o ho)]
      exact h.other t ht
    · intro j oj d hj hlj hdj
      rw [getD_set hf] at hlj
      by_cases e : i = j
      · subst e
        rw [ho] at hj
        cases hj
        have hdb := ((okB_at hok ho).2.2 d hdj).1
        have hval : (a.put o.dst v).tmps.getD d undef = v := by
          unfold Act.put
          rw [hdj]
          simp [Array.getD_eq_getD_getElem?, Array.getElem?_setIfInBounds, h.size, hdb]
        rw [hval]
        exact hv (by rw [hdj]; simp)
      · simp only [e, if_false] at hlj
        have hne : o.dst ≠ some d := fun e' => ((okB_at hok hj).2.2 d hdj).2 i o ho e e'
        rw [hnew d hne]
        exact hT j w w' _ (h.val j oj d hj hlj hdj) hF
  · rintro l a w ⟨hls, h⟩ hr
    exact done l a w h (all_listed hok hls hr)
  · refine ⟨rfl, rfl, fun _ _ => rfl, fun j o d hj hl _ => ?_, ?_⟩
    · simp [Array.getD_eq_getD_getElem?, Array.getElem?_replicate] at hl
      by_cases hjs : j < ops.size <;> simp [hjs] at hl
    · rw [left_all]; simpa using hG

def AllFrom (S : Nat → Oper → Prop) : Nat → List Oper → Prop
  | _, [] => True
  | n, o :: L => S n o ∧ AllFrom S (n + 1) L
theorem each_from {S : Nat → Oper → Prop} : ∀ (L : List Oper) (n : Nat), AllFrom S n L → ∀ (i : Nat) (o : Oper), L[i]? = some o → S (n + i) o
  | [], _, _, i, o, h => by simp at h
  | p :: L, n, h, 0, o, ho => by
    simp at ho
    subst ho
    exact h.1
  | p :: L, n, h, i + 1, o, ho => by
    have := each_from L (n + 1) h.2 i o (by simpa using ho)
    rw [show n + (i + 1) = n + 1 + i by omega]
    exact this
theorem each_op {S : Nat → Oper → Prop} (h : AllFrom S 0 ops.toList) : ∀ (i : Nat) (o : Oper), ops[i]? = some o → S i o := fun i o ho => by
  have := each_from ops.toList 0 h i o (by simpa using ho)
  simpa using this
theorem no_dst {t : Tmp} (h : (ops.all fun o => o.dst != some t) = true) : ∀ (j : Nat) (o : Oper), ops[j]? = some o → o.dst ≠ some t := fun j o ho => by
  have := Array.all_eq_true_iff_forall_mem.1 h o (Array.mem_of_getElem? ho)
  simpa using this
end
/-- A frame's slots, written out. -/
theorem lit {t : Array Value} {n : Nat} (h : t.size = n) : t = ((List.range n).map fun i => t.getD i undef).toArray := by
  apply Array.ext
  · simp [h]
  · intro i h1 h2
    simp [Array.getD, h1]
end Go.Proofs.YtlpodfachgnkhaaDoor.Reg
