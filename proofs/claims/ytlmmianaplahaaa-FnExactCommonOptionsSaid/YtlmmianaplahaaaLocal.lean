/-
  PLAIN MATHEMATICS OF LOCAL TIMES: the moments of common time that have one, and the first one of them.
-/
import Derived.Test.YtlmmianaplahaaaZone
set_option linter.unusedVariables false
set_option linter.unusedSimpArgs false
namespace Go.Proofs.Ytlmmianaplahaaa.Cal

/-- The order of the changes is the months', in every year. -/
theorem zAB_order {z : Zn} {y y' : Int} (v : zvB z = true) (s : z.s ≠ 0) (y1 : 1 ≤ y ∧ y ≤ 4000) (y2 : 1 ≤ y' ∧ y' ≤ 4000) (h : zA z y < zB z y) : zA z y' < zB z y' := by
  obtain ⟨o1, o9, s1, s9, _, hh⟩ := zv_yes v
  obtain ⟨v1, v2, ap⟩ := hh s
  have i1 := rv_yes v1
  have i2 := rv_yes v2
  have c1 := ok_of v1 y1; have c2 := ok_of v2 y1
  have c1' := ok_of v1 y2; have c2' := ok_of v2 y2
  have m1 : ∀ x, 1 ≤ x ∧ x ≤ 4000 → ruleMom z.m z.k z.d z.i x = rDay z.m z.k z.d x * 86400 + z.i * 60 := fun x hx => by unfold ruleMom; rw [if_pos (ok_of v1 hx)]
  have m2 : ∀ x, 1 ≤ x ∧ x ≤ 4000 → ruleMom z.m' z.k' z.d' z.i' x = rDay z.m' z.k' z.d' x * 86400 + z.i' * 60 := fun x hx => by unfold ruleMom; rw [if_pos (ok_of v2 hx)]
  unfold zA zB at *
  rw [m1 _ y1, m2 _ y1] at h
  rw [m1 _ y2, m2 _ y2]
  rcases ap with a | a
  · have := rDay_apart c2 c1 a; omega
  · have := rDay_apart c1' c2' a; omega

theorem zY_is {z : Zn} {t : Int} (o : -720 ≤ z.o ∧ z.o ≤ 840) (h : 1000000 ≤ t ∧ t ≤ 126227000000) : 1 ≤ zY z t ∧ zY z t ≤ 4000 ∧ before (zY z t) * 86400 ≤ t + z.o * 60 ∧ t + z.o * 60 < before (zY z t + 1) * 86400 := by
  have b := dY_bd (n := (t + z.o * 60) / 86400) (by omega) (by omega)
  unfold zY
  omega

/-- Near to its start it is summer from then on. -/
theorem zSum_A {z : Zn} {y t : Int} (v : zvB z = true) (s : z.s ≠ 0) (y1 : 1 ≤ y ∧ y ≤ 4000) (h : -1000000 ≤ t - zA z y ∧ t - zA z y ≤ 1000000) : zSum z t = decide (zA z y ≤ t) := by
  obtain ⟨⟨a1, a2⟩, ⟨b1, b2⟩, d⟩ := zAB v s y1.1 y1.2
  rw [zSum_in y1.1 y1.2 (by omega) (by omega), Bool.eq_iff_iff]
  split <;> simp <;> omega
/-- Near to its end it is summer before. -/
theorem zSum_B {z : Zn} {y t : Int} (v : zvB z = true) (s : z.s ≠ 0) (y1 : 1 ≤ y ∧ y ≤ 4000) (h : -1000000 ≤ t - zB z y ∧ t - zB z y ≤ 1000000) : zSum z t = decide (t < zB z y) := by
  obtain ⟨⟨a1, a2⟩, ⟨b1, b2⟩, d⟩ := zAB v s y1.1 y1.2
  rw [zSum_in y1.1 y1.2 (by omega) (by omega), Bool.eq_iff_iff]
  split <;> simp <;> omega

/-- Where summer has begun within three hours, its start lies between. -/
theorem zSum_up {z : Zn} {t t' : Int} (v : zvB z = true) (s : z.s ≠ 0) (ht : 1000000 ≤ t ∧ t' ≤ 126227000000) (h : t < t' ∧ t' - t ≤ 10800) (n0 : zSum z t = false) (n1 : zSum z t' = true) : t < zA z (zY z t') ∧ zA z (zY z t') ≤ t' ∧ 1 ≤ zY z t' ∧ zY z t' ≤ 4000 := by
  obtain ⟨o1, o9, s1, s9, _⟩ := zv_yes v
  have p := zY_is (z := z) (t := t) ⟨o1, o9⟩ (by omega)
  have p' := zY_is (z := z) (t := t') ⟨o1, o9⟩ (by omega)
  obtain ⟨⟨a1, a2⟩, ⟨b1, b2⟩, d⟩ := zAB v s p.1 p.2.1
  obtain ⟨⟨a1', a2'⟩, ⟨b1', b2'⟩, d'⟩ := zAB v s p'.1 p'.2.1
  have m : zY z t = zY z t' ∨ zY z t + 1 ≤ zY z t' := by
    by_cases c : zY z t' < zY z t
    · have := before_mono (a := zY z t' + 1) (b := zY z t) (by omega); omega
    · omega
  unfold zSum at n0 n1
  generalize zY z t = Y at *
  generalize zY z t' = Y' at *
  rcases m with m | m
  · subst m
    split at n0
    · rename_i hc; rw [if_pos hc] at n1; simp at n0 n1; omega
    · rename_i hc; rw [if_neg hc] at n1; simp at n0 n1; omega
  · have mm := before_mono m
    have o1 := zAB_order (y := Y) (y' := Y') v s ⟨p.1, p.2.1⟩ ⟨p'.1, p'.2.1⟩
    split at n0
    · simp at n0; omega
    · split at n1
      · omega
      · simp at n1; omega
/-- Where it has ended, its end does. -/
theorem zSum_down {z : Zn} {t t' : Int} (v : zvB z = true) (s : z.s ≠ 0) (ht : 1000000 ≤ t ∧ t' ≤ 126227000000) (h : t < t' ∧ t' - t ≤ 10800) (n0 : zSum z t = true) (n1 : zSum z t' = false) : t < zB z (zY z t') ∧ zB z (zY z t') ≤ t' ∧ 1 ≤ zY z t' ∧ zY z t' ≤ 4000 := by
  obtain ⟨o1, o9, s1, s9, _⟩ := zv_yes v
  have p := zY_is (z := z) (t := t) ⟨o1, o9⟩ (by omega)
  have p' := zY_is (z := z) (t := t') ⟨o1, o9⟩ (by omega)
  obtain ⟨⟨a1, a2⟩, ⟨b1, b2⟩, d⟩ := zAB v s p.1 p.2.1
  obtain ⟨⟨a1', a2'⟩, ⟨b1', b2'⟩, d'⟩ := zAB v s p'.1 p'.2.1
  have m : zY z t = zY z t' ∨ zY z t + 1 ≤ zY z t' := by
    by_cases c : zY z t' < zY z t
    · have := before_mono (a := zY z t' + 1) (b := zY z t) (by omega); omega
    · omega
  unfold zSum at n0 n1
  generalize zY z t = Y at *
  generalize zY z t' = Y' at *
  rcases m with m | m
  · subst m
    split at n0
    · rename_i hc; rw [if_pos hc] at n1; simp at n0 n1; omega
    · rename_i hc; rw [if_neg hc] at n1; simp at n0 n1; omega
  · have mm := before_mono m
    have o1 := zAB_order (y := Y) (y' := Y') v s ⟨p.1, p.2.1⟩ ⟨p'.1, p'.2.1⟩
    have o2 := zAB_order (y := Y') (y' := Y) v s ⟨p'.1, p'.2.1⟩ ⟨p.1, p.2.1⟩
    split at n0
    · split at n1
      · simp at n1; omega
      · omega
    · simp at n0; omega

def lGood (n : Int) : Bool := decide (34646400 ≤ n ∧ n ≤ 126193161599)
theorem lGood_yes {n : Int} (c : lGood n = true) : 34646400 ≤ n ∧ n ≤ 126193161599 := of_decide_eq_true c
theorem lGood_no {n : Int} (c : lGood n = false) : n < 34646400 ∨ 126193161599 < n := by have := of_decide_eq_false c; omega
theorem lGood_of {n : Int} (c : 34646400 ≤ n ∧ n ≤ 126193161599) : lGood n = true := decide_eq_true c

/-- The moments of common time that have a local time. -/
def cOpts (z : Zn) (n : Int) : List Int := if zvB z && lGood n then (if z.s = 0 then [n - 60 * z.o] else (if zSum z (n - 60 * (z.o + z.s)) then [n - 60 * (z.o + z.s)] else []) ++ (if zSum z (n - 60 * z.o) then [] else [n - 60 * z.o])) else []
def tKind (z : Zn) (n : Int) : Int := if zvB z && lGood n then (cOpts z n).length else -1
/-- The start of summer in the year of a local time. -/
def gapA (z : Zn) (n : Int) : Int := zA z (dY (n / 86400))
def comOf (z : Zn) (n : Int) (later : Bool) : Int := if zvB z && lGood n then (match cOpts z n with
  | [] => gapA z n
  | [a] => a
  | a :: b :: _ => if later then b else a) else -1

theorem cOpts_no {z : Zn} {n : Int} (c : zvB z = false ∨ lGood n = false) : cOpts z n = [] := by unfold cOpts; rcases c with c | c <;> simp [c]
theorem tKind_no {z : Zn} {n : Int} (c : zvB z = false ∨ lGood n = false) : tKind z n = -1 := by unfold tKind; rcases c with c | c <;> simp [c]
theorem comOf_no {z : Zn} {n : Int} {b : Bool} (c : zvB z = false ∨ lGood n = false) : comOf z n b = -1 := by unfold comOf; rcases c with c | c <;> simp [c]
theorem tKind_yes {z : Zn} {n : Int} (v : zvB z = true) (g : lGood n = true) : tKind z n = (cOpts z n).length := by unfold tKind; simp [v, g]

theorem comOf_yes {z : Zn} {n : Int} {b : Bool} (v : zvB z = true) (g : lGood n = true) : comOf z n b = (match cOpts z n with | [] => gapA z n | [a] => a | a :: b' :: _ => if b then b' else a) := by unfold comOf; simp [v, g]
/-- The ways that a local time can come. -/
inductive Way (z : Zn) (n : Int) : Prop
  | flat : z.s = 0 → cOpts z n = [n - 60 * z.o] → Way z n
  | both : z.s ≠ 0 → zSum z (n - 60 * (z.o + z.s)) = true → zSum z (n - 60 * z.o) = false → cOpts z n = [n - 60 * (z.o + z.s), n - 60 * z.o] → Way z n
  | summer : z.s ≠ 0 → zSum z (n - 60 * (z.o + z.s)) = true → zSum z (n - 60 * z.o) = true → cOpts z n = [n - 60 * (z.o + z.s)] → Way z n
  | winter : z.s ≠ 0 → zSum z (n - 60 * (z.o + z.s)) = false → zSum z (n - 60 * z.o) = false → cOpts z n = [n - 60 * z.o] → Way z n
  | gap : z.s ≠ 0 → zSum z (n - 60 * (z.o + z.s)) = false → zSum z (n - 60 * z.o) = true → cOpts z n = [] → n - 60 * (z.o + z.s) < gapA z n → gapA z n ≤ n - 60 * z.o → zSum z (gapA z n) = true → Way z n

theorem way {z : Zn} {n : Int} (v : zvB z = true) (g : lGood n = true) : Way z n := by
  obtain ⟨o1, o9, s1, s9, _⟩ := zv_yes v
  have gg := lGood_yes g
  have e : cOpts z n = (if z.s = 0 then [n - 60 * z.o] else (if zSum z (n - 60 * (z.o + z.s)) then [n - 60 * (z.o + z.s)] else []) ++ (if zSum z (n - 60 * z.o) then [] else [n - 60 * z.o])) := by unfold cOpts; simp [v, g]
  by_cases s : z.s = 0
  · exact .flat s (by rw [e, if_pos s])
  · rw [if_neg s] at e
    cases h1 : zSum z (n - 60 * (z.o + z.s)) <;> cases h0 : zSum z (n - 60 * z.o)
    · exact .winter s h1 h0 (by rw [e, h1, h0]; rfl)
    · have u := zSum_up v s ⟨by omega, by omega⟩ ⟨by omega, by omega⟩ h1 h0
      have y : zY z (n - 60 * z.o) = dY (n / 86400) := by unfold zY; rw [show n - 60 * z.o + z.o * 60 = n by omega]
      rw [y] at u
      refine .gap s h1 h0 (by rw [e, h1, h0]; rfl) u.1 u.2.1 ?_
      unfold gapA
      rw [zSum_A v s ⟨u.2.2.1, u.2.2.2⟩ (by omega)]
      simp
    · exact .both s h1 h0 (by rw [e, h1, h0]; rfl)
    · exact .summer s h1 h0 (by rw [e, h1, h0]; rfl)

theorem zOff_t {z : Zn} {t : Int} (s : z.s ≠ 0) (h : zSum z t = true) : zOff z t = z.o + z.s := by rw [zOff, if_neg s, if_pos h]
theorem zOff_f {z : Zn} {t : Int} (s : z.s ≠ 0) (h : zSum z t = false) : zOff z t = z.o := by rw [zOff, if_neg s, h]; rfl

/-- What is known of the moment of a local time. -/
theorem com_is {z : Zn} {n : Int} (b : Bool) (v : zvB z = true) (g : lGood n = true) :
    (34560000 ≤ comOf z n b ∧ comOf z n b ≤ 126193247999) ∧ (locOf z (comOf z n b) = n ∨ tKind z n = 0 ∧ n < locOf z (comOf z n b) ∧ locOf z (comOf z n b) ≤ n + 60 * z.s) := by
  obtain ⟨o1, o9, s1, s9, _⟩ := zv_yes v
  have gg := lGood_yes g
  have L : ∀ t, 34560000 ≤ t → t ≤ 126193247999 → locOf z t = t + 60 * zOff z t := fun t a c => locOf_yes v (zGood_of ⟨a, c⟩)
  have e : comOf z n b = (match cOpts z n with | [] => gapA z n | [a] => a | a :: b' :: _ => if b then b' else a) := by unfold comOf; simp [v, g]
  rw [tKind_yes v g]
  rcases way v g with ⟨s, c⟩ | ⟨s, h1, h0, c⟩ | ⟨s, h1, h0, c⟩ | ⟨s, h1, h0, c⟩ | ⟨s, h1, h0, c, l1, l2, hA⟩
  · rw [show comOf z n b = n - 60 * z.o by rw [e, c], L _ (by omega) (by omega), zOff_none s]
    exact ⟨by omega, .inl (by omega)⟩
  · cases b
    · rw [show comOf z n false = n - 60 * (z.o + z.s) by rw [e, c]; rfl, L _ (by omega) (by omega), zOff_t s h1]
      exact ⟨by omega, .inl (by omega)⟩
    · rw [show comOf z n true = n - 60 * z.o by rw [e, c]; rfl, L _ (by omega) (by omega), zOff_f s h0]
      exact ⟨by omega, .inl (by omega)⟩
  · rw [show comOf z n b = n - 60 * (z.o + z.s) by rw [e, c], L _ (by omega) (by omega), zOff_t s h1]
    exact ⟨by omega, .inl (by omega)⟩
  · rw [show comOf z n b = n - 60 * z.o by rw [e, c], L _ (by omega) (by omega), zOff_f s h0]
    exact ⟨by omega, .inl (by omega)⟩
  · rw [show comOf z n b = gapA z n by rw [e, c], L _ (by omega) (by omega), zOff_t s hA]
    exact ⟨by omega, .inr ⟨by rw [c]; rfl, by omega, by omega⟩⟩
theorem gapY {n : Int} (g : lGood n = true) : 1 ≤ dY (n / 86400) ∧ dY (n / 86400) ≤ 4000 := by
  have gg := lGood_yes g
  have := dY_bd (n := n / 86400) (by omega) (by omega)
  omega
theorem com_last {z : Zn} {n : Int} (v : zvB z = true) (g : lGood n = true) : comOf z n false ≤ comOf z n true := by
  obtain ⟨o1, o9, s1, s9, _⟩ := zv_yes v
  have e : ∀ b, comOf z n b = (match cOpts z n with | [] => gapA z n | [a] => a | a :: b' :: _ => if b then b' else a) := fun b => by unfold comOf; simp [v, g]
  rw [e, e]
  rcases way v g with ⟨s, c⟩ | ⟨s, h1, h0, c⟩ | ⟨s, h1, h0, c⟩ | ⟨s, h1, h0, c⟩ | ⟨s, h1, h0, c, l1, l2, hA⟩ <;> rw [c] <;> simp <;> omega
/-- A minute later the first moment is not earlier. -/
theorem com_next {z : Zn} {n : Int} (v : zvB z = true) (g : lGood n = true) (g' : lGood (n + 60) = true) : comOf z n false ≤ comOf z (n + 60) false := by
  obtain ⟨o1, o9, s1, s9, _⟩ := zv_yes v
  have gg := lGood_yes g
  have gg' := lGood_yes g'
  have e : ∀ n, lGood n = true → comOf z n false = (match cOpts z n with | [] => gapA z n | [a] => a | a :: b' :: _ => a) := fun n g => by unfold comOf; simp [v, g]
  rw [e n g, e (n + 60) g']
  have w1 : n + 60 - 60 * (z.o + z.s) = n - 60 * (z.o + z.s) + 60 := by omega
  have w0 : n + 60 - 60 * z.o = n - 60 * z.o + 60 := by omega
  rcases way v g with ⟨s, c⟩ | ⟨s, h1, h0, c⟩ | ⟨s, h1, h0, c⟩ | ⟨s, h1, h0, c⟩ | ⟨s, h1, h0, c, l1, l2, hA⟩ <;>
  rcases way v g' with ⟨s', c'⟩ | ⟨s', h1', h0', c'⟩ | ⟨s', h1', h0', c'⟩ | ⟨s', h1', h0', c'⟩ | ⟨s', h1', h0', c', l1', l2', hA'⟩ <;>
  rw [c, c'] <;> simp only
  all_goals try omega
  · have u := zSum_up v s ⟨by omega, by omega⟩ ⟨by omega, by omega⟩ h1 h1'
    rw [zSum_A v s u.2.2 (by omega)] at h0
    simp at h0; omega
  · have u := zSum_up v s ⟨by omega, by omega⟩ ⟨by omega, by omega⟩ h1 h1'
    rw [zSum_A v s u.2.2 (by omega)] at h0
    simp at h0; omega
  · have y := gapY g'
    unfold gapA at *
    rw [zSum_A v s y (by omega)] at h0
    simp at h0; omega
  · have y := gapY g
    unfold gapA at *
    rw [zSum_A v s y (by omega)] at h1'
    simp at h1'; omega
  · have y := gapY g
    unfold gapA at *
    rw [zSum_A v s y (by omega)] at h1'
    simp at h1'; omega
  · have y := gapY g
    unfold gapA at *
    rw [zSum_A v s y (by omega)] at hA'
    simp at hA'; omega
/-- The moments of common time that come from three stretches of a year: before p and from q on the offset is u, between them x. -/
def optL (n p x q u : Int) : List Int := (if 0 ≤ n - u * 60 ∧ n - u * 60 < p then [n - u * 60] else []) ++ (if p ≤ n - x * 60 ∧ n - x * 60 < q then [n - x * 60] else []) ++ (if q ≤ n - u * 60 then [n - u * 60] else [])

/-- A local time's year decides about summer at both of its moments. -/
theorem zSum_near {z : Zn} {n t : Int} (v : zvB z = true) (s : z.s ≠ 0) (g : lGood n = true) (h : n - 60 * z.o - 7200 ≤ t ∧ t ≤ n - 60 * z.o) :
    zSum z t = if zB z (dY (n / 86400)) < zA z (dY (n / 86400)) then decide (zA z (dY (n / 86400)) ≤ t) || decide (t < zB z (dY (n / 86400))) else decide (zA z (dY (n / 86400)) ≤ t) && decide (t < zB z (dY (n / 86400))) := by
  obtain ⟨o1, o9, s1, s9, _⟩ := zv_yes v
  have gg := lGood_yes g
  have gy := gapY g
  have b := dY_bd (n := n / 86400) (by omega) (by omega)
  generalize dY (n / 86400) = y at *
  by_cases c : before y * 86400 ≤ t + z.o * 60
  · exact zSum_in gy.1 gy.2 c (by omega)
  · have p := zY_is (z := z) (t := t) ⟨o1, o9⟩ (by omega)
    have m : zY z t + 1 ≤ y := by
      by_cases c' : zY z t + 1 ≤ y
      · exact c'
      · have := before_mono (a := y) (b := zY z t) (by omega); omega
    have m' : y ≤ zY z t + 1 := by
      by_cases c' : y ≤ zY z t + 1
      · exact c'
      · have := before_mono (a := zY z t + 1 + 1) (b := y) (by omega)
        have : before (zY z t + 1) + 365 ≤ before (zY z t + 1 + 1) := by unfold before; omega
        omega
    have ey : zY z t = y - 1 := by omega
    unfold zSum
    rw [ey] at p ⊢
    obtain ⟨⟨a1, a2⟩, ⟨b1, b2⟩, d⟩ := zAB v s p.1 p.2.1
    obtain ⟨⟨a1', a2'⟩, ⟨b1', b2'⟩, d'⟩ := zAB v s gy.1 gy.2
    rw [show y - 1 + 1 = y by omega] at *
    have q1 := zAB_order (y := y - 1) (y' := y) v s ⟨p.1, p.2.1⟩ gy
    have q2 := zAB_order (y := y) (y' := y - 1) v s gy ⟨p.1, p.2.1⟩
    rw [Bool.eq_iff_iff]
    split <;> split <;> simp <;> omega

theorem opts_two {z : Zn} {n : Int} (v : zvB z = true) (g : lGood n = true) (s : z.s ≠ 0) :
    cOpts z n = if zB z (dY (n / 86400)) < zA z (dY (n / 86400)) then optL n (zB z (dY (n / 86400))) z.o (zA z (dY (n / 86400))) (z.o + z.s) else optL n (zA z (dY (n / 86400))) (z.o + z.s) (zB z (dY (n / 86400))) z.o := by
  obtain ⟨o1, o9, s1, s9, _⟩ := zv_yes v
  have gg := lGood_yes g
  have gy := gapY g
  have e : cOpts z n = (if z.s = 0 then [n - 60 * z.o] else (if zSum z (n - 60 * (z.o + z.s)) then [n - 60 * (z.o + z.s)] else []) ++ (if zSum z (n - 60 * z.o) then [] else [n - 60 * z.o])) := by unfold cOpts; simp [v, g]
  rw [if_neg s, zSum_near v s g (by omega), zSum_near v s g (by omega)] at e
  rw [e]
  obtain ⟨_, _, d⟩ := zAB v s gy.1 gy.2
  generalize zA z (dY (n / 86400)) = A at *
  generalize zB z (dY (n / 86400)) = B at *
  unfold optL
  rw [show (z.o + z.s) * 60 = 60 * (z.o + z.s) by omega, show z.o * 60 = 60 * z.o by omega]
  have k1 : n - 60 * (z.o + z.s) ≤ n - 60 * z.o := by omega
  have k2 : n - 60 * z.o ≤ n - 60 * (z.o + z.s) + 7200 := by omega
  have k3 : 0 ≤ n - 60 * (z.o + z.s) := by omega
  generalize n - 60 * (z.o + z.s) = t1 at *
  generalize n - 60 * z.o = t0 at *
  clear e gg v g s
  by_cases h : B < A
  · rw [if_pos h, if_pos h, if_pos h]
    simp only [Bool.and_eq_true, Bool.or_eq_true, decide_eq_true_eq]
    repeat' split
    all_goals first | rfl | (exfalso; omega)
  · rw [if_neg h, if_neg h, if_neg h]
    simp only [Bool.and_eq_true, Bool.or_eq_true, decide_eq_true_eq]
    repeat' split
    all_goals first | rfl | (exfalso; omega)
end Go.Proofs.Ytlmmianaplahaaa.Cal
