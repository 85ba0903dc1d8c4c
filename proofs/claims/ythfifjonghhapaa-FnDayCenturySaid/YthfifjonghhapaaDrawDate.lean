/-
  CONTRACTS OF THE MODEL's DRAWS OF DAYS, going on.
-/
import Derived.Test.YthfifjonghhapaaDrawDays
import Derived.Deep.RegionWith
set_option linter.unusedVariables false
set_option linter.unusedSimpArgs false
namespace Go.Proofs.Ythfifjonghhapaa
open Go.ChangeShapes Go.WideShapes Go.ChangeAt Go.RowKit Law Cal

theorem Moved.drewr {r : Nat} {a b : World} (h : Moved r a b) : Moved r a b.drew := h

/-- A table's entry at a drawn place. -/
theorem tab_rule (l : List Value) (lo hi m : Int) (hn : (l.map intOf).map (Value.int .i64) = l) (h0 : 0 ≤ m) (h9 : m < l.length) (hb : ∀ x ∈ l.map intOf, lo ≤ x ∧ x ≤ hi) :
    ∃ x : Int, lo ≤ x ∧ x ≤ hi ∧ ∀ h : m.toNat < l.length, l[m.toNat]'h = .int .i64 x := by
  have hl : m.toNat < (l.map intOf).length := by simp; omega
  have hl' : m.toNat < l.length := by omega
  have hx := hb _ (List.getElem_mem hl)
  have e : l[m.toNat]? = some (.int .i64 ((l.map intOf)[m.toNat]'hl)) := by
    have h2 : ((l.map intOf).map (Value.int .i64))[m.toNat]? = some (.int .i64 ((l.map intOf)[m.toNat]'hl)) := by
      rw [List.getElem?_map, List.getElem?_eq_getElem hl]; rfl
    rw [hn] at h2; exact h2
  exact ⟨(l.map intOf)[m.toNat]'hl, hx.1, hx.2, fun h => by have := List.getElem?_eq_getElem h; rw [e] at this; exact (Option.some.inj this).symm⟩

set_option maxHeartbeats 8000000 in
theorem drawDate (v : Value) (w : World) (B : Nat) (h : BytesAt w B v) (hB : B = w.heap.size) :
    Calls Try.prog 22 #[v] w (Num3 (-10000) 10000 (-100) 100 (-100) 100 w) := by
  go_enter Try.func22, Try.ntmps22
  (go_wp2_with fail; refine (open_rd _ _ _ (by with_reducible assumption) (by omega)).mono ?_; rintro e w1 ⟨r, rfl, hr0, hR, hb0⟩; have hr := hR.2.1)
  go_wp2_with fail
  refine (year_any _ _ _ _ (by repeat (first | with_reducible assumption | apply Rd.alloc | apply Rd.drew | (refine Rd.store ?_ (by simp; omega) _) | (refine Rd.below ?_ (by with_reducible assumption)))) (by omega)).mono ?_
  rintro e w2 ⟨y, rfl, y0, y9, hR, hM⟩
  have hr := hR.2.1
  (go_wp2_with fail; refine (pick_pos _ _ _ _ _ (by repeat (first | with_reducible assumption | apply Rd.alloc | apply Rd.drew | (refine Rd.store ?_ (by simp; omega) _) | (refine Rd.below ?_ (by with_reducible assumption)))) (by omega) (by omega) (by omega)).mono ?_; rintro e wp ⟨a, rfl, a0, a9, hR, hM⟩; have hr := hR.2.1)
  (go_wp2_with fail; refine (pick_pos _ _ _ _ _ (by repeat (first | with_reducible assumption | apply Rd.alloc | apply Rd.drew | (refine Rd.store ?_ (by simp; omega) _) | (refine Rd.below ?_ (by with_reducible assumption)))) (by omega) (by omega) (by omega)).mono ?_; rintro e wp ⟨b, rfl, b0, b9, hR, hM⟩; have hr := hR.2.1)
  (obtain ⟨x, x0, x9, hx⟩ := tabB hM (by first | omega | (simp only [World.size_alloc]; omega)) 0 3 b rfl (by omega) (by first | (simp [nums]; done) | (simp [nums]; omega)) (by first | (simp [nums, intOf]; done) | (simp [nums, intOf]; omega)); obtain ⟨z, z0, z9, hy⟩ := tabA hM (by first | omega | (simp only [World.size_alloc]; omega)) 0 100 x rfl (by omega) (by first | (simp [nums]; done) | (simp [nums]; omega)) (by first | (simp [nums, intOf]; done) | (simp [nums, intOf]; omega)); try simp only [World.size_alloc] at hx)
  go_wp2_with fail
  clear hx hy
  have hA : Moved r w1 wp := (by repeat (first | with_reducible assumption | exact Moved.refl _ _ | apply Moved.alloc | (refine Moved.store ?_ (by simp; omega) _) | (refine Moved.trans ?_ (by with_reducible assumption)) | (refine Moved.below ?_ (by with_reducible assumption))))
  clear hM
  have e0 : ¬ wp.heap.size = r := by omega
  have e1 : ¬ wp.heap.size + 1 = r := by omega
  go_region_with (first
    | (go_at_call_of 36 (Value.int IntKind.i64 5); refine (pick_any _ _ _ _ _ (by repeat (first | with_reducible assumption | apply Rd.alloc | apply Rd.drew | (refine Rd.store ?_ (by simp; omega) _) | (refine Rd.below ?_ (by with_reducible assumption)))) (by omega) (by omega)).mono ?_; rintro e wp ⟨m, rfl, m0, m9, hR, hM, hS⟩; have hA := Moved.trans (by repeat (first | exact hA | apply Moved.alloc | apply Moved.drewr)) hM; have hM' := hM; obtain ⟨hC, _⟩ := hM'.cell; (try simp only [World.size_alloc, World.size_drew] at hS); obtain ⟨x, x0, x9, hx3⟩ := tab_rule [.int .i64 0, .int .i64 0, .int .i64 1, .int .i64 1, .int .i64 2] 0 2 m rfl (by omega) (by first | (simp; done) | (simp; omega)) (by first | (simp [intOf]; done) | (simp [intOf]; omega)); obtain ⟨y', y0', y9', hy3⟩ := tab_rule [.int .i64 (1 + p), .int .i64 (29 + q), .int .i64 0] 0 100 x rfl (by omega) (by first | (simp; done) | (simp; omega)) (by first | (simp [intOf]; done) | (simp [intOf]; omega)))
    | (go_at_call_of 36 (Value.int IntKind.i64 4); refine (pick_any _ _ _ _ _ (by repeat (first | with_reducible assumption | apply Rd.alloc | apply Rd.drew | (refine Rd.store ?_ (by simp; omega) _) | (refine Rd.below ?_ (by with_reducible assumption)))) (by omega) (by omega)).mono ?_; rintro e wp ⟨q, rfl, q0, q9, hR, hM, hS⟩; have hw2 : IntKind.i64.wrap (29 + q) = 29 + q := IntWalk.i64_in _ (by omega); have hA := Moved.trans (by repeat (first | exact hA | apply Moved.alloc | apply Moved.drewr)) hM; have hM' := hM; obtain ⟨hC, _⟩ := hM'.cell; (try simp only [World.size_alloc, World.size_drew] at hS))
    | (go_at_call_of 36 (Value.int IntKind.i64 28); refine (pick_any _ _ _ _ _ (by repeat (first | with_reducible assumption | apply Rd.alloc | apply Rd.drew | (refine Rd.store ?_ (by simp; omega) _) | (refine Rd.below ?_ (by with_reducible assumption)))) (by omega) (by omega)).mono ?_; rintro e wp ⟨p, rfl, p0, p9, hR, hM, hS⟩; have hw1 : IntKind.i64.wrap (1 + p) = 1 + p := IntWalk.i64_in _ (by omega); have hA := Moved.trans (by repeat (first | exact hA | apply Moved.alloc | apply Moved.drewr)) hM; have hM' := hM; obtain ⟨hC, _⟩ := hM'.cell; (try simp only [World.size_alloc, World.size_drew] at hS))
    | (simp only [hx3])
    | (simp only [hy3]))
  all_goals
    go_wp2
    go_ret3
    refine ⟨y, z, y', ?_, by omega, by omega, by omega, by omega, by omega, by omega, hb0.trans (Moved.to_below (r := r) (by repeat (first | exact hA | apply Moved.alloc | apply Moved.drewr)) _ hr0 hb0.size)⟩
    first | rfl | (simp only [hy3]; rfl) | (simp only [hy3]; done) | (simp [hy3]; done)
end Go.Proofs.Ythfifjonghhapaa
