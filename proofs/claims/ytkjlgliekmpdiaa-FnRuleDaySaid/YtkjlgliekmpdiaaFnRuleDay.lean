/-
  FnRuleDay holds: whatever the input, the law answers true and leaves its arguments as they were. Conditions: none.
-/
import Derived.Test.YtkjlgliekmpdiaaRows
import Derived.Test.YtkjlgliekmpdiaaLaw
import Derived.WalkKit
import Derived.ProofKit
import Derived.OpenShut
import Derived.Lib.Hide
import Derived.Outline
import Derived.Test.YtkjlgliekmpdiaaLawRule
import Derived.Test.YtkjlgliekmpdiaaDrawRule
set_option linter.unusedVariables false
set_option linter.unusedSimpArgs false
namespace Go.Proofs.Ytkjlgliekmpdiaa.fnRuleDay
open Go.ChangeShapes Go.WideShapes Go.ChangeAt Go.RowKit Cal
set_option maxHeartbeats 4000000 in
theorem walk (w : World) (code : Value) (B : Nat) (h_code : Law.BytesAt w B code) (hB : B = w.heap.size) :
    Calls Try.prog 4 #[code] w fun e w' => e = .returned (.bool true) ∧ Below w.heap.size w w' := by
  have hq := h_code
  obtain ⟨a, ln, cap, rfl, hl1, hl2, _⟩ := hq
  unfold maxLen at hl2
  subst hB
  by_cases hc : 1048576 < ln
  · go_enter Try.func4, Try.ntmps4
    go_wp2
    go_ret
    exact ⟨rfl, Below.refl _ _⟩
  have hc' : decide (1048576 < ln) = false := by simpa using hc
  go_enter Try.func4, Try.ntmps4
  go_wp2_with fail
  refine (drawRuleDay _ _ _ h_code rfl).mono ?_
  rintro e w1 ⟨m, k, d, i, y, rfl, bm, bk, bd, bi, by1, hb⟩
  have hz := hb.size
  cases c : ruleOk m k d i y
  · have E := Lib.hid (ruleDay_no c)
    clear c
    (go_wp2_with fail; refine (iRuleDay _ _ _ _ _ _).mono ?_; (rw [E.out]); rintro e w2 ⟨rfl, hbw2⟩; have hCw2 := Below_at hbw2; have hFw2 := Below_fr hbw2; have hb := Below.trans (show Below w.heap.size w _ from (by repeat' (first | with_reducible assumption | with_reducible exact Below.refl _ _ | with_reducible refine Below.setCell ?_ ?_ _ | with_reducible refine Below.alloc ?_ ?_ _ | with_reducible apply Below.drew | with_reducible apply Below.drewn | (simp; done) | (simp; omega)))) (hbw2.mono (by first | omega | (simp; done) | (simp; omega))); have hzw2 := hb.size; have hlw2 := hbw2.size; (try simp only [World.size_alloc, World.size_setCell, World.size_drew] at hlw2))
    (go_wp2_with fail; refine (sRuleDay _ _ _ _ _ _).mono ?_; (rw [E.out]); rintro e w3 ⟨rfl, hbw3⟩; have hCw3 := Below_at hbw3; have hFw3 := Below_fr hbw3; have hb := Below.trans (show Below w.heap.size w _ from (by repeat' (first | with_reducible assumption | with_reducible exact Below.refl _ _ | with_reducible refine Below.setCell ?_ ?_ _ | with_reducible refine Below.alloc ?_ ?_ _ | with_reducible apply Below.drew | with_reducible apply Below.drewn | (simp; done) | (simp; omega)))) (hbw3.mono (by first | omega | (simp; done) | (simp; omega))); have hzw3 := hb.size; have hlw3 := hbw3.size; (try simp only [World.size_alloc, World.size_setCell, World.size_drew] at hlw3))
    (go_wp2_with fail; refine (alive_any _).mono ?_; rintro e wx ⟨rfl, rfl⟩)
    go_wp2
    go_ret
    exact ⟨rfl, (by repeat' (first | with_reducible assumption | with_reducible exact Below.refl _ _ | with_reducible refine Below.setCell ?_ ?_ _ | with_reducible refine Below.alloc ?_ ?_ _ | with_reducible apply Below.drew | with_reducible apply Below.drewn | (simp; done) | (simp; omega)))⟩
  · have E := Lib.hid (ruleDay_yes c)
    obtain ⟨r1, r2, r3, r4, r5, r6⟩ := rDay_is c
    have dd := date_of r1 r2
    have V := rv_yes (ok_yes c).1
    have hl := dim_of (ok_yes c).2.1 (ok_yes c).2.2 (show 1 ≤ m by omega) (show m ≤ 12 by omega)
    rw [← hl] at r4
    generalize rDay m k d y = n at *
    generalize num y m 1 = f at *
    generalize hL : dim y m = L at *
    have hw : wdy n = d := by unfold wdy; rw [if_pos ⟨r5, r6⟩]; exact r3
    have hq : n - f = n - f + 1 - 1 := by omega
    rw [hq] at r4
    generalize n - f + 1 = D at *
    have D1 := Lib.hid dd.1; have D2 := Lib.hid dd.2.1; have D3 := Lib.hid dd.2.2; have HW := Lib.hid hw; have HL := Lib.hid hL
    obtain ⟨_, _, _, _, R1, R2⟩ := r1
    have lb := len_bd y m
    obtain ⟨V1, V2, V3, V4, V5, V6, V7, V8⟩ := V
    rw [← hl] at R2 lb
    clear c dd hw hL r2 hl hq
    have hS := four_at hb (.int .i64 m) (.int .i64 k) (.int .i64 d) (.int .i64 i) 24
    have hw1 : IntKind.i64.wrap (D - 1) = D - 1 := IntWalk.i64_in _ (by omega)
    have hw2 : IntKind.i64.wrap (k - 1) = k - 1 := IntWalk.i64_in _ (by omega)
    have hw3 : IntKind.i64.wrap ((D - 1).tdiv 7) = (D - 1) / 7 := by rw [Int.tdiv_eq_ediv_of_nonneg (by omega)]; exact IntWalk.i64_in _ (by omega)
    have hw4 : IntKind.i64.wrap (D + 7) = D + 7 := IntWalk.i64_in _ (by omega)
    rcases Classical.em ((D - 1) / 7 = k - 1) with q | q
    · clear r4
      (go_wp2_with fail; refine (iRuleDay _ _ _ _ _ _).mono ?_; (rw [E.out]); rintro e w2 ⟨rfl, hbw2⟩; have hCw2 := Below_at hbw2; have hFw2 := Below_fr hbw2; have hb := Below.trans (show Below w.heap.size w _ from (by repeat' (first | with_reducible assumption | with_reducible exact Below.refl _ _ | with_reducible refine Below.setCell ?_ ?_ _ | with_reducible refine Below.alloc ?_ ?_ _ | with_reducible apply Below.drew | with_reducible apply Below.drewn | (simp; done) | (simp; omega)))) (hbw2.mono (by first | omega | (simp; done) | (simp; omega))); have hzw2 := hb.size; have hlw2 := hbw2.size; (try simp only [World.size_alloc, World.size_setCell, World.size_drew] at hlw2))
      have hS := four_stayB _ _ _ _ _ _ _ _ hbw2 hS
      (go_wp2_with fail; refine (sRuleDay _ _ _ _ _ _).mono ?_; (rw [E.out]); rintro e w3 ⟨rfl, hbw3⟩; have hCw3 := Below_at hbw3; have hFw3 := Below_fr hbw3; have hb := Below.trans (show Below w.heap.size w _ from (by repeat' (first | with_reducible assumption | with_reducible exact Below.refl _ _ | with_reducible refine Below.setCell ?_ ?_ _ | with_reducible refine Below.alloc ?_ ?_ _ | with_reducible apply Below.drew | with_reducible apply Below.drewn | (simp; done) | (simp; omega)))) (hbw3.mono (by first | omega | (simp; done) | (simp; omega))); have hzw3 := hb.size; have hlw3 := hbw3.size; (try simp only [World.size_alloc, World.size_setCell, World.size_drew] at hlw3))
      have hS := four_stayB _ _ _ _ _ _ _ _ hbw3 hS
      go_wp2_with fail
      refine (iDateOf _ _).mono ?_
      rw [D1.out, D2.out, D3.out]
      rintro e w' ⟨rfl, rfl⟩
      go_wp2_with fail
      obtain ⟨_, s0, s1, s2, s3⟩ := hS
      clear hCw2 hFw2 hCw3 hFw3
      have cW : ∀ w, Calls Try.prog 17 #[.int .i64 n] w fun e w' => e = .returned (.int .i64 d) ∧ w' = w := fun w => (iWeekdayOf n w).mono fun e w' h => ⟨by rw [h.1, HW.out], h.2.symm⟩
      have cD : ∀ w, Calls Try.prog 18 #[.int .i64 y, .int .i64 m] w fun e w' => e = .returned (.int .i64 L) ∧ w' = w := fun w => (iDaysIn y m w).mono fun e w' h => ⟨by rw [h.1, HL.out], h.2.symm⟩
      go_quiet (first | (go_at_call 17; exact Calls.quiet_of_same (cW _)) | (go_at_call 18; exact Calls.quiet_of_same (cD _)))
      go_wp2
      go_ret
      exact ⟨rfl, (by repeat' (first | with_reducible assumption | with_reducible exact Below.refl _ _ | with_reducible refine Below.setCell ?_ ?_ _ | with_reducible refine Below.alloc ?_ ?_ _ | with_reducible apply Below.drew | with_reducible apply Below.drewn | (simp; done) | (simp; omega)))⟩
    · have r4' : k = 5 ∧ L < D + 7 := by rcases r4 with c | c; exact absurd c q; exact ⟨c.1, by omega⟩
      have q' : ((D - 1) / 7 == k - 1) = false := by simpa using q
      have r7 : decide (L < D + 7) = true := by simpa using r4'.2
      obtain ⟨k5, r4'⟩ := r4'
      have k5' : (k == 5) = true := by simpa using k5
      clear r4 q k5
      (go_wp2_with fail; refine (iRuleDay _ _ _ _ _ _).mono ?_; (rw [E.out]); rintro e w2 ⟨rfl, hbw2⟩; have hCw2 := Below_at hbw2; have hFw2 := Below_fr hbw2; have hb := Below.trans (show Below w.heap.size w _ from (by repeat' (first | with_reducible assumption | with_reducible exact Below.refl _ _ | with_reducible refine Below.setCell ?_ ?_ _ | with_reducible refine Below.alloc ?_ ?_ _ | with_reducible apply Below.drew | with_reducible apply Below.drewn | (simp; done) | (simp; omega)))) (hbw2.mono (by first | omega | (simp; done) | (simp; omega))); have hzw2 := hb.size; have hlw2 := hbw2.size; (try simp only [World.size_alloc, World.size_setCell, World.size_drew] at hlw2))
      have hS := four_stayB _ _ _ _ _ _ _ _ hbw2 hS
      (go_wp2_with fail; refine (sRuleDay _ _ _ _ _ _).mono ?_; (rw [E.out]); rintro e w3 ⟨rfl, hbw3⟩; have hCw3 := Below_at hbw3; have hFw3 := Below_fr hbw3; have hb := Below.trans (show Below w.heap.size w _ from (by repeat' (first | with_reducible assumption | with_reducible exact Below.refl _ _ | with_reducible refine Below.setCell ?_ ?_ _ | with_reducible refine Below.alloc ?_ ?_ _ | with_reducible apply Below.drew | with_reducible apply Below.drewn | (simp; done) | (simp; omega)))) (hbw3.mono (by first | omega | (simp; done) | (simp; omega))); have hzw3 := hb.size; have hlw3 := hbw3.size; (try simp only [World.size_alloc, World.size_setCell, World.size_drew] at hlw3))
      have hS := four_stayB _ _ _ _ _ _ _ _ hbw3 hS
      go_wp2_with fail
      refine (iDateOf _ _).mono ?_
      rw [D1.out, D2.out, D3.out]
      rintro e w' ⟨rfl, rfl⟩
      go_wp2_with fail
      obtain ⟨_, s0, s1, s2, s3⟩ := hS
      clear hCw2 hFw2 hCw3 hFw3
      have cW : ∀ w, Calls Try.prog 17 #[.int .i64 n] w fun e w' => e = .returned (.int .i64 d) ∧ w' = w := fun w => (iWeekdayOf n w).mono fun e w' h => ⟨by rw [h.1, HW.out], h.2.symm⟩
      have cD : ∀ w, Calls Try.prog 18 #[.int .i64 y, .int .i64 m] w fun e w' => e = .returned (.int .i64 L) ∧ w' = w := fun w => (iDaysIn y m w).mono fun e w' h => ⟨by rw [h.1, HL.out], h.2.symm⟩
      go_quiet (first | (go_at_call 17; exact Calls.quiet_of_same (cW _)) | (go_at_call 18; exact Calls.quiet_of_same (cD _)))
      go_wp2
      go_ret
      exact ⟨rfl, (by repeat' (first | with_reducible assumption | with_reducible exact Below.refl _ _ | with_reducible refine Below.setCell ?_ ?_ _ | with_reducible refine Below.alloc ?_ ?_ _ | with_reducible apply Below.drew | with_reducible apply Below.drewn | (simp; done) | (simp; omega)))⟩

theorem own : ownKnob Try.prog.godebug = none := by kernel_rfl
theorem laid : laidOutB Try.prog = true := by kernel_rfl
theorem readable : ∀ t ∈ Try.f4.params.toList, Try.prog.readableRec t = true ∧ t < Try.prog.types.size := by
  have h : (Try.f4.params.toList.all fun t => Try.prog.readableRec t && decide (t < Try.prog.types.size)) = true := by kernel_rfl
  intro t ht
  have := List.all_eq_true.1 h t ht
  simpa using this

set_option maxRecDepth 100000 in
theorem lifted (os : Os) (started : os.Started) (H : Type) (enc : TypeId × Value → H) :
    ReturnsInHanded {} Try.checked os 4 .any (Rows.fnRuleDaySpec.pre6 enc Try.prog Try.f4 Rows.fnRuleDayRow.domain false) (Rows.fnRuleDaySpec.post enc Try.prog Try.f4 false true false false) := by
  refine returnsInHanded_of_change (C := Try.checked) own started (by kernel_rfl) Try.func4
    (ChangeSpec.witness6 (enc := enc) (C := Try.checked) false ⟨#[], #[.slice none 0 0], []⟩ 8 (by kernel_rfl) (by kernel_rfl) (by kernel_rfl) (by kernel_rfl)) ?_
  intro W base args ds gs before hval0 hW hcnd _
  have hval : ∀ (j : Nat) t v, Try.f4.params[j]? = some t → args[j]? = some v → Value.okWide Try.prog W .any base t v := hval0
  have hW' := hW
  obtain ⟨p, q, hA0, hV, rfl, hfz, hnd⟩ := hW
  have hA : DataW.TrodAll enc Try.prog W 0 (fun _ => true) true Try.f4.params.toList args.toList ds p := hA0
  rw [Try.params4] at hA hval
  obtain ⟨v0, vs0, d0, ds0, p0, q0, hargs, rfl, rfl, h0, r0⟩ := trodAll_cons hA
  obtain ⟨rfl, rfl, rfl⟩ := trodAll_nil r0
  obtain rfl : args = #[v0] := by cases args; simp_all
  obtain ⟨rfl, rfl⟩ := trodVars_none hV
  have b0 := Law.bytes_arg Try.underlying22 Try.underlying5 (by kernel_rfl) (hval 0 22 v0 rfl rfl) h0 (fun x hx => hW'.lt x (by simp [hx]))
  clear hA0 hval0
  refine (walk W v0 W.heap.size b0 rfl).mono fun e W' ⟨he, hg⟩ => ?_
  subst he
  exact ⟨_, rfl, Law.law_post laid readable (B := 4) rfl Try.underlying4 rfl hW' rfl hg⟩

theorem over : Rows.fnRuleDayRow.holds Try.pinned (OpenSpec.ofChange Rows.fnRuleDaySpec) :=
  OpenClaim.holds_of_wide 4 Try.f4 rfl rfl rfl rfl rfl rfl rfl ⟨rfl, rfl, rfl, rfl, rfl⟩ rfl rfl rfl rfl rfl (by kernel_rfl) Try.func4 (by kernel_rfl)
    (of_decide_eq_true (by kernel_rfl)) (by unfold Func.isWrapper; first | (rw [if_pos (by decide +kernel)]; kernel_rfl) | (rw [if_neg (by decide +kernel)]; exact ⟨rfl, rfl⟩))
    (fun os started H enc _ => lifted os started H enc)

theorem proved : Rows.FnRuleDaySaid :=
  over
end Go.Proofs.Ytkjlgliekmpdiaa.fnRuleDay
