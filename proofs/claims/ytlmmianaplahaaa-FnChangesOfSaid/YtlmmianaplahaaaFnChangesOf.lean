/-
  FnChangesOf holds: whatever the input, the law answers true and leaves its arguments as they were. Conditions: none.
-/
import Derived.Test.YtlmmianaplahaaaRows
import Derived.Test.YtlmmianaplahaaaLaw
import Derived.WalkKit
import Derived.ProofKit
import Derived.OpenShut
import Derived.Lib.Hide
import Derived.Outline
import Derived.LoopN
import Derived.IntWalk
import Derived.Deep.RegionHeld3
import Derived.Deep.RegionWith
import Derived.Test.YtlmmianaplahaaaInts
import Derived.Test.YtlmmianaplahaaaLawZone
import Derived.Test.YtlmmianaplahaaaDrawZone
import Derived.Test.YtlmmianaplahaaaIZones
import Derived.Test.YtlmmianaplahaaaZoneLaw
set_option linter.unusedVariables false
set_option linter.unusedSimpArgs false
namespace Go.Proofs.Ytlmmianaplahaaa.fnChangesOf
open Go.ChangeShapes Go.WideShapes Go.ChangeAt Go.RowKit Cal
set_option maxHeartbeats 8000000 in
theorem walk (w : World) (code : Value) (B : Nat) (h_code : Law.BytesAt w B code) (hB : B = w.heap.size) :
    Calls Try.prog 11 #[code] w fun e w' => e = .returned (.bool true) ∧ Below w.heap.size w w' := by
  have hq := h_code
  obtain ⟨a, ln, cap, rfl, hl1, hl2, _⟩ := hq
  unfold maxLen at hl2
  subst hB
  by_cases hc : 1048576 < ln
  · go_enter Try.func11, Try.ntmps11
    go_wp2
    go_ret
    exact ⟨rfl, Below.refl _ _⟩
  have hc' : decide (1048576 < ln) = false := by simpa using hc
  go_enter Try.func11, Try.ntmps11
  go_wp2_with fail
  refine (drawChangesOf _ _ _ h_code rfl).mono ?_
  rintro e w1 ⟨z, y, rfl, hzb, hn, hb⟩
  have hz := hb.size
  clear hzb
  obtain ⟨n1, n2⟩ := hn
  have hT := (ten_at hb (.int .i64 (z.o)) (.int .i64 (z.s)) (.int .i64 (z.m)) (.int .i64 (z.k)) (.int .i64 (z.d)) (.int .i64 (z.i)) (.int .i64 (z.m')) (.int .i64 (z.k')) (.int .i64 (z.d')) (.int .i64 (z.i')) 26)
  generalize hxs : chg z y = xs
  have HX := Lib.hid hxs
  have cs : ∀ w, Calls Try.prog 39 #[(.agg #[.int .i64 (z.o), .int .i64 (z.s), .int .i64 (z.m), .int .i64 (z.k), .int .i64 (z.d), .int .i64 (z.i), .int .i64 (z.m'), .int .i64 (z.k'), .int .i64 (z.d'), .int .i64 (z.i')]), .int .i64 y] w (GaveInts xs w) := fun w => HX.out ▸ sChangesOf z y w
  have ci : ∀ w, Calls Try.prog 37 #[(.agg #[.int .i64 (z.o), .int .i64 (z.s), .int .i64 (z.m), .int .i64 (z.k), .int .i64 (z.d), .int .i64 (z.i), .int .i64 (z.m'), .int .i64 (z.k'), .int .i64 (z.d'), .int .i64 (z.i')]), .int .i64 y] w (GaveInts xs w) := fun w => HX.out ▸ iChangesOf z y w
  have CS := Lib.hid cs; have CI := Lib.hid ci; clear cs ci
  (go_wp2_with fail; refine (CI.out _).mono ?_; rintro e w2 ⟨u, rfl, hu, hbw2⟩; have hCw2 := Below_at hbw2; have hFw2 := Below_fr hbw2; have hb := Below.trans (show Below w.heap.size w _ from (by repeat' (first | with_reducible assumption | with_reducible exact Below.refl _ _ | with_reducible refine Below.setCell ?_ ?_ _ | with_reducible refine Below.alloc ?_ ?_ _ | with_reducible apply Below.drew | with_reducible apply Below.drewn | (simp; done) | (simp; omega)))) (hbw2.mono (by first | omega | (simp; done) | (simp; omega))); have hzw2 := hb.size; have hlw2 := hbw2.size; (try simp only [World.size_alloc, World.size_setCell, World.size_drew] at hlw2))
  have p2 : w1.heap.size < w2.heap.size := by omega
  have hT := (ten_stays _ _ _ _ _ _ _ _ _ _ _ _ _ _ hbw2 hT)
  (go_wp2_with fail; refine (CS.out _).mono ?_; rintro e w3 ⟨u2, rfl, hu2, hbw3⟩; have hCw3 := Below_at hbw3; have hFw3 := Below_fr hbw3; have hb := Below.trans (show Below w.heap.size w _ from (by repeat' (first | with_reducible assumption | with_reducible exact Below.refl _ _ | with_reducible refine Below.setCell ?_ ?_ _ | with_reducible refine Below.alloc ?_ ?_ _ | with_reducible apply Below.drew | with_reducible apply Below.drewn | (simp; done) | (simp; omega)))) (hbw3.mono (by first | omega | (simp; done) | (simp; omega))); have hzw3 := hb.size; have hlw3 := hbw3.size; (try simp only [World.size_alloc, World.size_setCell, World.size_drew] at hlw3))
  have p3 : w1.heap.size < w3.heap.size := by omega
  have hT := (ten_stays _ _ _ _ _ _ _ _ _ _ _ _ _ _ hbw3 hT)
  have hu := hu.below hbw3
  (go_wp2_with fail; refine (sameInts_same xs _ _ _ _ _ hu hu2).mono ?_; rintro e w4 ⟨rfl, hbw4⟩; have hCw4 := Below_at hbw4; have hFw4 := Below_fr hbw4; have hb := Below.trans (show Below w.heap.size w _ from (by repeat' (first | with_reducible assumption | with_reducible exact Below.refl _ _ | with_reducible refine Below.setCell ?_ ?_ _ | with_reducible refine Below.alloc ?_ ?_ _ | with_reducible apply Below.drew | with_reducible apply Below.drewn | (simp; done) | (simp; omega)))) (hbw4.mono (by first | omega | (simp; done) | (simp; omega))); have hzw4 := hb.size; have hlw4 := hbw4.size; (try simp only [World.size_alloc, World.size_setCell, World.size_drew] at hlw4))
  have hT := (ten_stays _ _ _ _ _ _ _ _ _ _ _ _ _ _ hbw4 hT)
  have hu := hu.below hbw4
  have p4 : w1.heap.size < w4.heap.size := by omega
  clear hu2
  rcases (show xs = [] ∨ (zvB z = true ∧ (3 ≤ y ∧ y ≤ 3998) ∧ z.s ≠ 0) from by
    by_cases v : zvB z = true
    · by_cases h : 3 ≤ y ∧ y ≤ 3998
      · by_cases s : z.s = 0
        · exact .inl (by rw [← hxs]; exact chg_no (.inr (.inr s)))
        · exact .inr ⟨v, h, s⟩
      · exact .inl (by rw [← hxs]; exact chg_no (.inr (.inl h)))
    · exact .inl (by rw [← hxs]; exact chg_no (.inl (by simpa using v)))) with e0 | ⟨v, h, s0⟩
  · subst e0
    obtain ⟨p, cap, rfl, l1, l2, l3⟩ := hu
    clear l3 hxs HX
    (go_wp2_with fail; refine (alive_any _).mono ?_; rintro e wx ⟨rfl, rfl⟩)
    go_wp2
    go_ret
    exact ⟨rfl, (by repeat' (first | with_reducible assumption | with_reducible exact Below.refl _ _ | with_reducible refine Below.setCell ?_ ?_ _ | with_reducible refine Below.alloc ?_ ?_ _ | with_reducible apply Below.drew | with_reducible apply Below.drewn | (simp; done) | (simp; omega)))⟩
  · obtain ⟨x0, x1, e0, e1, hc, lt, ⟨b01, b02⟩, ⟨b11, b12⟩, q0, q1, q2, q3, ne, sm, ⟨be1, be2⟩, ⟨be3, be4⟩⟩ := chg_two v h s0
    rw [← hxs, hc] at hu
    obtain ⟨p, cap, hu', l1, l2, l3⟩ := hu
    obtain ⟨cc, off, rfl, y2, y3, y4, y5⟩ := l3 (by simp)
    have hu2 : u = .slice (some ⟨cc, off, none⟩) 2 cap := hu'
    subst hu2
    have c0 : w4.cell? ⟨cc, off, none⟩ = some (.int .i64 x0) := y4 0 (by simp)
    have c1 : w4.cell? ⟨cc, off + 1, none⟩ = some (.int .i64 x1) := y4 1 (by simp)
    have hS : (fun w' => Below w.heap.size w w' ∧ w'.cell? ⟨w1.heap.size, 0, none⟩ = some (.int .i64 (z.o)) ∧ w'.cell? ⟨w1.heap.size, 1, none⟩ = some (.int .i64 (z.s)) ∧ w'.cell? ⟨w1.heap.size, 2, none⟩ = some (.int .i64 (z.m)) ∧ w'.cell? ⟨w1.heap.size, 3, none⟩ = some (.int .i64 (z.k)) ∧ w'.cell? ⟨w1.heap.size, 4, none⟩ = some (.int .i64 (z.d)) ∧ w'.cell? ⟨w1.heap.size, 5, none⟩ = some (.int .i64 (z.i)) ∧ w'.cell? ⟨w1.heap.size, 6, none⟩ = some (.int .i64 (z.m')) ∧ w'.cell? ⟨w1.heap.size, 7, none⟩ = some (.int .i64 (z.k')) ∧ w'.cell? ⟨w1.heap.size, 8, none⟩ = some (.int .i64 (z.d')) ∧ w'.cell? ⟨w1.heap.size, 9, none⟩ = some (.int .i64 (z.i')) ∧ w'.cell? ⟨cc, off, none⟩ = some (.int .i64 (x0)) ∧ w'.cell? ⟨cc, off + 1, none⟩ = some (.int .i64 (x1))) w4 := ⟨hT.1, hT.2.1, hT.2.2.1, hT.2.2.2.1, hT.2.2.2.2.1, hT.2.2.2.2.2.1, hT.2.2.2.2.2.2.1, hT.2.2.2.2.2.2.2.1, hT.2.2.2.2.2.2.2.2.1, hT.2.2.2.2.2.2.2.2.2.1, hT.2.2.2.2.2.2.2.2.2.2, c0, c1⟩
    have Q0 := Lib.hid q0; have Q1 := Lib.hid q1; have Q2 := Lib.hid q2; have Q3 := Lib.hid q3
    clear hT c0 c1 y4 y5 hc q0 q1 q2 q3 hu' l3 hCw2 hCw3 hCw4 hFw2 hFw3 hFw4 hxs HX
    have wx1 : IntKind.i64.wrap (x1 - 1) = x1 - 1 := IntWalk.i64_in _ (by omega)
    have nb2 : (e0 == e1) = false := by simp; omega
    have lt' : decide (x0 < x1) = true := by simpa using lt
    go_wp2_with fail
    go_region_held3 (fun w' => Below w.heap.size w w' ∧ w'.cell? ⟨w1.heap.size, 0, none⟩ = some (.int .i64 (z.o)) ∧ w'.cell? ⟨w1.heap.size, 1, none⟩ = some (.int .i64 (z.s)) ∧ w'.cell? ⟨w1.heap.size, 2, none⟩ = some (.int .i64 (z.m)) ∧ w'.cell? ⟨w1.heap.size, 3, none⟩ = some (.int .i64 (z.k)) ∧ w'.cell? ⟨w1.heap.size, 4, none⟩ = some (.int .i64 (z.d)) ∧ w'.cell? ⟨w1.heap.size, 5, none⟩ = some (.int .i64 (z.i)) ∧ w'.cell? ⟨w1.heap.size, 6, none⟩ = some (.int .i64 (z.m')) ∧ w'.cell? ⟨w1.heap.size, 7, none⟩ = some (.int .i64 (z.k')) ∧ w'.cell? ⟨w1.heap.size, 8, none⟩ = some (.int .i64 (z.d')) ∧ w'.cell? ⟨w1.heap.size, 9, none⟩ = some (.int .i64 (z.i')) ∧ w'.cell? ⟨cc, off, none⟩ = some (.int .i64 (x0)) ∧ w'.cell? ⟨cc, off + 1, none⟩ = some (.int .i64 (x1)))
      (first | exact (show Stays (fun w' => Below w.heap.size w w' ∧ w'.cell? ⟨w1.heap.size, 0, none⟩ = some (.int .i64 (z.o)) ∧ w'.cell? ⟨w1.heap.size, 1, none⟩ = some (.int .i64 (z.s)) ∧ w'.cell? ⟨w1.heap.size, 2, none⟩ = some (.int .i64 (z.m)) ∧ w'.cell? ⟨w1.heap.size, 3, none⟩ = some (.int .i64 (z.k)) ∧ w'.cell? ⟨w1.heap.size, 4, none⟩ = some (.int .i64 (z.d)) ∧ w'.cell? ⟨w1.heap.size, 5, none⟩ = some (.int .i64 (z.i)) ∧ w'.cell? ⟨w1.heap.size, 6, none⟩ = some (.int .i64 (z.m')) ∧ w'.cell? ⟨w1.heap.size, 7, none⟩ = some (.int .i64 (z.k')) ∧ w'.cell? ⟨w1.heap.size, 8, none⟩ = some (.int .i64 (z.d')) ∧ w'.cell? ⟨w1.heap.size, 9, none⟩ = some (.int .i64 (z.i')) ∧ w'.cell? ⟨cc, off, none⟩ = some (.int .i64 (x0)) ∧ w'.cell? ⟨cc, off + 1, none⟩ = some (.int .i64 (x1))) from (by repeat' (first | with_reducible exact Stays.below _ | with_reducible exact Stays.cell _ _ _ | with_reducible exact Stays.size _ | with_reducible refine Stays.and ?_ ?_))) _ _ (Below.refl _ _).drew (by assumption) | exact (show Stays (fun w' => Below w.heap.size w w' ∧ w'.cell? ⟨w1.heap.size, 0, none⟩ = some (.int .i64 (z.o)) ∧ w'.cell? ⟨w1.heap.size, 1, none⟩ = some (.int .i64 (z.s)) ∧ w'.cell? ⟨w1.heap.size, 2, none⟩ = some (.int .i64 (z.m)) ∧ w'.cell? ⟨w1.heap.size, 3, none⟩ = some (.int .i64 (z.k)) ∧ w'.cell? ⟨w1.heap.size, 4, none⟩ = some (.int .i64 (z.d)) ∧ w'.cell? ⟨w1.heap.size, 5, none⟩ = some (.int .i64 (z.i)) ∧ w'.cell? ⟨w1.heap.size, 6, none⟩ = some (.int .i64 (z.m')) ∧ w'.cell? ⟨w1.heap.size, 7, none⟩ = some (.int .i64 (z.k')) ∧ w'.cell? ⟨w1.heap.size, 8, none⟩ = some (.int .i64 (z.d')) ∧ w'.cell? ⟨w1.heap.size, 9, none⟩ = some (.int .i64 (z.i')) ∧ w'.cell? ⟨cc, off, none⟩ = some (.int .i64 (x0)) ∧ w'.cell? ⟨cc, off + 1, none⟩ = some (.int .i64 (x1))) from (by repeat' (first | with_reducible exact Stays.below _ | with_reducible exact Stays.cell _ _ _ | with_reducible exact Stays.size _ | with_reducible refine Stays.and ?_ ?_))) _ _ hb2 (by assumption))
      (first | (go_at_call_of 21 (Value.int IntKind.i64 x0); refine (iOffsetAt z _ _).mono ?_; rw [Q0.out]; rintro e w5 ⟨rfl, hb2⟩) | (go_at_call_of 21 (Value.int IntKind.i64 x1); refine (iOffsetAt z _ _).mono ?_; rw [Q2.out]; rintro e w5 ⟨rfl, hb2⟩) | (go_at_call 21; refine (iOffsetAt z _ _).mono ?_; rw [Q3.out]; rintro e w5 ⟨rfl, hb2⟩))
    all_goals
      have hhh : (fun w' => Below w.heap.size w w' ∧ w'.cell? ⟨w1.heap.size, 0, none⟩ = some (.int .i64 (z.o)) ∧ w'.cell? ⟨w1.heap.size, 1, none⟩ = some (.int .i64 (z.s)) ∧ w'.cell? ⟨w1.heap.size, 2, none⟩ = some (.int .i64 (z.m)) ∧ w'.cell? ⟨w1.heap.size, 3, none⟩ = some (.int .i64 (z.k)) ∧ w'.cell? ⟨w1.heap.size, 4, none⟩ = some (.int .i64 (z.d)) ∧ w'.cell? ⟨w1.heap.size, 5, none⟩ = some (.int .i64 (z.i)) ∧ w'.cell? ⟨w1.heap.size, 6, none⟩ = some (.int .i64 (z.m')) ∧ w'.cell? ⟨w1.heap.size, 7, none⟩ = some (.int .i64 (z.k')) ∧ w'.cell? ⟨w1.heap.size, 8, none⟩ = some (.int .i64 (z.d')) ∧ w'.cell? ⟨w1.heap.size, 9, none⟩ = some (.int .i64 (z.i')) ∧ w'.cell? ⟨cc, off, none⟩ = some (.int .i64 (x0)) ∧ w'.cell? ⟨cc, off + 1, none⟩ = some (.int .i64 (x1))) w5 := by assumption
      have hbx := hhh.1
      go_wp2
      go_ret
      first
        | exact ⟨rfl, (by repeat' (first | with_reducible assumption | with_reducible exact Below.refl _ _ | with_reducible refine Below.setCell ?_ ?_ _ | with_reducible refine Below.alloc ?_ ?_ _ | with_reducible apply Below.drew | with_reducible apply Below.drewn | (simp; done) | (simp; omega)))⟩
        | exact ⟨ret_bool (by simp [bne, nb2]), (by repeat' (first | with_reducible assumption | with_reducible exact Below.refl _ _ | with_reducible refine Below.setCell ?_ ?_ _ | with_reducible refine Below.alloc ?_ ?_ _ | with_reducible apply Below.drew | with_reducible apply Below.drewn | (simp; done) | (simp; omega)))⟩

theorem own : ownKnob Try.prog.godebug = none := by kernel_rfl
theorem laid : laidOutB Try.prog = true := by kernel_rfl
theorem readable : ∀ t ∈ Try.f11.params.toList, Try.prog.readableRec t = true ∧ t < Try.prog.types.size := by
  have h : (Try.f11.params.toList.all fun t => Try.prog.readableRec t && decide (t < Try.prog.types.size)) = true := by kernel_rfl
  intro t ht
  have := List.all_eq_true.1 h t ht
  simpa using this

set_option maxRecDepth 100000 in
theorem lifted (os : Os) (started : os.Started) (H : Type) (enc : TypeId × Value → H) :
    ReturnsInHanded {} Try.checked os 11 .any (Rows.fnChangesOfSpec.pre6 enc Try.prog Try.f11 Rows.fnChangesOfRow.domain false) (Rows.fnChangesOfSpec.post enc Try.prog Try.f11 false true false false) := by
  refine returnsInHanded_of_change (C := Try.checked) own started (by kernel_rfl) Try.func11
    (ChangeSpec.witness6 (enc := enc) (C := Try.checked) false ⟨#[], #[.slice none 0 0], []⟩ 8 (by kernel_rfl) (by kernel_rfl) (by kernel_rfl) (by kernel_rfl)) ?_
  intro W base args ds gs before hval0 hW hcnd _
  have hval : ∀ (j : Nat) t v, Try.f11.params[j]? = some t → args[j]? = some v → Value.okWide Try.prog W .any base t v := hval0
  have hW' := hW
  obtain ⟨p, q, hA0, hV, rfl, hfz, hnd⟩ := hW
  have hA : DataW.TrodAll enc Try.prog W 0 (fun _ => true) true Try.f11.params.toList args.toList ds p := hA0
  rw [Try.params11] at hA hval
  obtain ⟨v0, vs0, d0, ds0, p0, q0, hargs, rfl, rfl, h0, r0⟩ := trodAll_cons hA
  obtain ⟨rfl, rfl, rfl⟩ := trodAll_nil r0
  obtain rfl : args = #[v0] := by cases args; simp_all
  obtain ⟨rfl, rfl⟩ := trodVars_none hV
  have b0 := Law.bytes_arg Try.underlying22 Try.underlying5 (by kernel_rfl) (hval 0 22 v0 rfl rfl) h0 (fun x hx => hW'.lt x (by simp [hx]))
  clear hA0 hval0
  refine (walk W v0 W.heap.size b0 rfl).mono fun e W' ⟨he, hg⟩ => ?_
  subst he
  exact ⟨_, rfl, Law.law_post laid readable (B := 4) rfl Try.underlying4 rfl hW' rfl hg⟩

theorem over : Rows.fnChangesOfRow.holds Try.pinned (OpenSpec.ofChange Rows.fnChangesOfSpec) :=
  OpenClaim.holds_of_wide 11 Try.f11 rfl rfl rfl rfl rfl rfl rfl ⟨rfl, rfl, rfl, rfl, rfl⟩ rfl rfl rfl rfl rfl (by kernel_rfl) Try.func11 (by kernel_rfl)
    (of_decide_eq_true (by kernel_rfl)) (by unfold Func.isWrapper; first | (rw [if_pos (by decide +kernel)]; kernel_rfl) | (rw [if_neg (by decide +kernel)]; exact ⟨rfl, rfl⟩))
    (fun os started H enc _ => lifted os started H enc)

theorem proved : Rows.FnChangesOfSaid :=
  over
end Go.Proofs.Ytlmmianaplahaaa.fnChangesOf
