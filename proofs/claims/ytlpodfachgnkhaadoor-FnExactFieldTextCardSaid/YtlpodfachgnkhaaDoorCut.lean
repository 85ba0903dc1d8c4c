/-
  TEXTS THAT ARE CUT AT A BYTE: what the library's Cut and Split make of a text, on numbers.
-/
import Derived.Test.YtlpodfachgnkhaaDoorText
import Derived.Lib.SplitLaws
set_option linter.unusedVariables false
set_option linter.unusedSimpArgs false
namespace Go.Proofs.YtlpodfachgnkhaaDoor.Cal
open Go

/-- The pieces between bytes c. -/
def splC (c : Int) : List Int → List (List Int)
  | [] => [[]]
  | x :: t => if x = c then [] :: splC c t else match splC c t with
    | [] => [[x]]
    | a :: u => (x :: a) :: u
theorem splC_ne (c : Int) : ∀ t : List Int, splC c t ≠ []
  | [] => by simp [splC]
  | x :: t => by
    rw [splC]
    split
    · simp
    · cases e : splC c t <;> simp
theorem splC_none {c : Int} : ∀ {t : List Int}, c ∉ t → splC c t = [t]
  | [], _ => rfl
  | x :: t, h => by
    simp only [List.mem_cons, not_or] at h
    rw [splC, if_neg (fun e => h.1 e.symm), splC_none h.2]
theorem splC_cons {c : Int} : ∀ {a : List Int} (b : List Int), c ∉ a → splC c (a ++ c :: b) = a :: splC c b
  | [], b, _ => by rw [List.nil_append, splC, if_pos rfl]
  | x :: a, b, h => by
    simp only [List.mem_cons, not_or] at h
    rw [List.cons_append, splC, if_neg (fun e => h.1 e.symm), splC_cons b h.2]
/-- What is before the first byte c, what is behind it, and whether there is one. -/
def cutC (c : Int) : List Int → List Int × List Int × Bool
  | [] => ([], [], false)
  | x :: t => if x = c then ([], t, true) else (x :: (cutC c t).1, (cutC c t).2.1, (cutC c t).2.2)
theorem cutC_none {c : Int} : ∀ {t : List Int}, c ∉ t → cutC c t = (t, [], false)
  | [], _ => rfl
  | x :: t, h => by
    simp only [List.mem_cons, not_or] at h
    rw [cutC, if_neg (fun e => h.1 e.symm), cutC_none h.2]
theorem cutC_at {c : Int} : ∀ {a : List Int} (b : List Int), c ∉ a → cutC c (a ++ c :: b) = (a, b, true)
  | [], b, _ => by rw [List.nil_append, cutC, if_pos rfl]
  | x :: a, b, h => by
    simp only [List.mem_cons, not_or] at h
    rw [List.cons_append, cutC, if_neg (fun e => h.1 e.symm), cutC_at b h.2]
/-- A text has the byte, or not. -/
theorem cut_or (c : Int) : ∀ t : List Int, c ∉ t ∨ ∃ a b, t = a ++ c :: b ∧ c ∉ a
  | [] => .inl (by simp)
  | x :: t => by
    by_cases e : x = c
    · exact .inr ⟨[], t, by simp [e], by simp⟩
    · rcases cut_or c t with h | ⟨a, b, rfl, h⟩
      · exact .inl (by simp only [List.mem_cons, not_or]; exact ⟨fun g => e g.symm, h⟩)
      · exact .inr ⟨x :: a, b, rfl, by simp only [List.mem_cons, not_or]; exact ⟨fun g => e g.symm, h⟩⟩

/-- Bytes as numbers. -/
def ns (l : List UInt8) : List Int := l.map fun b => (b.toNat : Int)
theorem nms_ns (s : ByteArray) : nms s = ns s.data.toList := rfl
theorem ns_mem {b : UInt8} {l : List UInt8} : (b.toNat : Int) ∈ ns l ↔ b ∈ l := by
  unfold ns
  rw [List.mem_map]
  constructor
  · rintro ⟨x, hx, e⟩
    have : x.toNat = b.toNat := by omega
    rw [← UInt8.toNat_inj.1 this]; exact hx
  · exact fun h => ⟨b, h, rfl⟩
theorem occ_head (s : List UInt8) (b : UInt8) (i : Nat) : Lib.occAt s [b] i = true ↔ ∃ t, s.drop i = b :: t := by
  unfold Lib.occAt
  cases e : s.drop i with
  | nil => simp [List.isPrefixOf]
  | cons x t =>
    simp [List.isPrefixOf]
    exact ⟨fun h => h.symm, fun h => h.symm⟩
/-- Where the byte is first. -/
theorem index_one (s : List UInt8) (b : UInt8) : (Lib.index s [b] = -1 ∧ b ∉ s) ∨ ∃ a c, s = a ++ b :: c ∧ b ∉ a ∧ Lib.index s [b] = a.length := by
  induction s with
  | nil => exact .inl ⟨rfl, by simp⟩
  | cons x t ih =>
    by_cases e : b = x
    · subst e
      refine .inr ⟨[], t, rfl, by simp, ?_⟩
      simp [Lib.index, List.isPrefixOf]
    · have hp : List.isPrefixOf [b] (x :: t) = false := by simp [List.isPrefixOf, e]
      rcases ih with ⟨h1, h2⟩ | ⟨a, c, rfl, h2, h3⟩
      · refine .inl ⟨by simp [Lib.index, hp, h1], ?_⟩
        simp only [List.mem_cons, not_or]; exact ⟨e, h2⟩
      · refine .inr ⟨x :: a, c, rfl, ?_, ?_⟩
        · simp only [List.mem_cons, not_or]; exact ⟨e, h2⟩
        · have : ¬ ((a.length : Int) = -1) := by omega
          simp [Lib.index, hp, h3, this]
theorem drop_mid {a c : List UInt8} {b : UInt8} : (a ++ b :: c).drop (a.length + 1) = c := by
  rw [show a ++ b :: c = (a ++ [b]) ++ c by simp, List.drop_left' (by simp)]
theorem splitK_is (b : UInt8) : ∀ (k : Nat) (s : List UInt8), s.count b ≤ k → (Lib.splitK [b] 0 k s).map ns = splC (b.toNat : Int) (ns s)
  | 0, s, h => by
    have : b ∉ s := by intro hm; have := List.count_pos_iff.2 hm; omega
    rw [splC_none (fun hm => this (ns_mem.1 hm))]
    rfl
  | k + 1, s, h => by
    rw [Lib.splitK]
    rcases index_one s b with ⟨h1, h2⟩ | ⟨a, c, rfl, h2, h3⟩
    · rw [if_pos (by rw [h1]; rfl), splC_none (fun hm => h2 (ns_mem.1 hm))]
      rfl
    · rw [if_neg (by rw [h3]; simp), h3]
      simp only [Int.toNat_natCast, List.length_singleton, Nat.add_zero, List.map_cons, List.take_left', drop_mid]
      rw [splitK_is b k c (by rw [List.count_append, List.count_cons_self] at h; omega)]
      unfold ns
      rw [List.map_append, List.map_cons]
      exact (splC_cons _ (fun hm => h2 (ns_mem.1 hm))).symm
/-- What the library's Split makes of a text. -/
theorem splitB_is (s : ByteArray) (b : UInt8) : (Lib.splitB ⟨#[b]⟩ 0 (Lib.countB s ⟨#[b]⟩) s).map nms = splC (b.toNat : Int) (nms s) := by
  have e := Lib.splitB_data ⟨#[b]⟩ 0 (Lib.countB s ⟨#[b]⟩) s
  have h : (Lib.splitB ⟨#[b]⟩ 0 (Lib.countB s ⟨#[b]⟩) s).map nms = ((Lib.splitB ⟨#[b]⟩ 0 (Lib.countB s ⟨#[b]⟩) s).map (·.data.toList)).map ns := by
    rw [List.map_map]; rfl
  rw [h, e]
  exact splitK_is b _ _ (by
    have : Lib.countB s ⟨#[b]⟩ = Lib.count s.data.toList [b] := rfl
    rw [this, Lib.count_one]; exact Nat.le_refl _)
/-- What the library's Cut makes of a text. -/
theorem cut_is (s : List UInt8) (b : UInt8) : ns (Lib.cut s [b]).1 = (cutC (b.toNat : Int) (ns s)).1 ∧ ns (Lib.cut s [b]).2.1 = (cutC (b.toNat : Int) (ns s)).2.1 ∧ (Lib.cut s [b]).2.2 = (cutC (b.toNat : Int) (ns s)).2.2 := by
  unfold Lib.cut
  rcases index_one s b with ⟨h1, h2⟩ | ⟨a, c, rfl, h2, h3⟩
  · rw [if_neg (by rw [h1]; decide), cutC_none (fun hm => h2 (ns_mem.1 hm))]
    exact ⟨rfl, rfl, rfl⟩
  · rw [if_pos (by omega), h3]
    simp only [Int.toNat_natCast, List.length_singleton, drop_mid]
    rw [List.take_left' rfl]
    have : ns (a ++ b :: c) = ns a ++ (b.toNat : Int) :: ns c := by unfold ns; rw [List.map_append, List.map_cons]
    rw [this, cutC_at _ (fun hm => h2 (ns_mem.1 hm))]
    exact ⟨rfl, rfl, rfl⟩
theorem str_ns (l : List UInt8) : (⟨l.toArray⟩ : ByteArray) = strOfNums (ns l) := by
  apply nms_inj
  rw [nms_of (fun x hx => ?_)]
  · rw [nms_ns]
  · unfold ns at hx
    obtain ⟨b, _, rfl⟩ := List.mem_map.1 hx
    have := b.toNat_lt
    omega
theorem cutC_bd {c : Int} {P : Int → Prop} : ∀ {t : List Int}, (∀ x ∈ t, P x) → (∀ x ∈ (cutC c t).1, P x) ∧ ∀ x ∈ (cutC c t).2.1, P x := by
  intro t h
  rcases cut_or c t with g | ⟨a, b, rfl, g⟩
  · rw [cutC_none g]; exact ⟨h, by simp⟩
  · rw [cutC_at b g]
    exact ⟨fun x hx => h x (by simp [hx]), fun x hx => h x (by simp [hx])⟩
theorem cutC_len {c : Int} {t : List Int} : (cutC c t).1.length ≤ t.length ∧ (cutC c t).2.1.length ≤ t.length := by
  rcases cut_or c t with g | ⟨a, b, rfl, g⟩
  · rw [cutC_none g]; simp
  · rw [cutC_at b g]; simp; omega
theorem splC_bd {c : Int} {P : Int → Prop} : ∀ {t : List Int}, (∀ x ∈ t, P x) → ∀ a ∈ splC c t, ∀ x ∈ a, P x
  | [], _, a, ha, x, hx => by simp [splC] at ha; subst ha; simp at hx
  | y :: t, h, a, ha, x, hx => by
    have ih := splC_bd (c := c) (t := t) fun z hz => h z (by simp [hz])
    rw [splC] at ha
    split at ha
    · rcases List.mem_cons.1 ha with rfl | ha
      · simp at hx
      · exact ih a ha x hx
    · cases e : splC c t with
      | nil => exact absurd e (splC_ne c t)
      | cons b u =>
        rw [e] at ha
        rcases List.mem_cons.1 ha with rfl | ha
        · rcases List.mem_cons.1 hx with rfl | hx
          · exact h _ (by simp)
          · exact ih b (by rw [e]; simp) x hx
        · exact ih a (by rw [e]; simp [ha]) x hx
theorem splC_len {c : Int} : ∀ {t : List Int}, (splC c t).length ≤ t.length + 1 ∧ ∀ a ∈ splC c t, a.length ≤ t.length
  | [] => by simp [splC]
  | y :: t => by
    obtain ⟨i1, i2⟩ := splC_len (c := c) (t := t)
    rw [splC]
    split
    · refine ⟨by simp; omega, fun a ha => ?_⟩
      rcases List.mem_cons.1 ha with rfl | ha
      · simp
      · have := i2 a ha; simp; omega
    · cases e : splC c t with
      | nil => exact absurd e (splC_ne c t)
      | cons b u =>
        rw [e] at i1 i2
        refine ⟨by simp at *; omega, fun a ha => ?_⟩
        rcases List.mem_cons.1 ha with rfl | ha
        · have := i2 b (by simp); simp; omega
        · have := i2 a (by simp [ha]); simp; omega
end Go.Proofs.YtlpodfachgnkhaaDoor.Cal
