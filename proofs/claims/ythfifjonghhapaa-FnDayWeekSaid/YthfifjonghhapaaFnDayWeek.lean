/-
  FnDayWeek holds: whatever the input, the law answers true and leaves its arguments as they were. Conditions: none.
-/
import Derived.Test.YthfifjonghhapaaRows
import Derived.Test.YthfifjonghhapaaLaw
import Derived.WalkKit
import Derived.ProofKit
import Derived.OpenShut
import Derived.Lib.Hide
import Derived.Outline
import Derived.Test.YthfifjonghhapaaDays
import Derived.Test.YthfifjonghhapaaDates
import Derived.Test.YthfifjonghhapaaDrawDays
set_option linter.unusedVariables false
set_option linter.unusedSimpArgs false
namespace Go.Proofs.Ythfifjonghhapaa.fnDayWeek
open Go.ChangeShapes Go.WideShapes Go.ChangeAt Go.RowKit Cal
set_option maxHeartbeats 2000000 in
theorem walk (w : World) (code : Value) (B : Nat) (h_code : Law.BytesAt w B code) (hB : B = w.heap.size) :
    Calls Try.prog 8 #[code] w fun e w' => e = .returned (.bool true) ∧ Below w.heap.size w w' := by
  have hq := h_code
  obtain ⟨a, ln, cap, rfl, hl1, hl2, _⟩ := hq
  unfold maxLen at hl2
  subst hB
  by_cases hc : 1048576 < ln
  · go_enter Try.func8, Try.ntmps8
    go_wp2
    go_ret
    exact ⟨rfl, Below.refl _ _⟩
  have hc' : decide (1048576 < ln) = false := by simpa using hc
  go_enter Try.func8, Try.ntmps8
  go_wp2_with fail
  refine (drawYear _ _ _ h_code rfl).mono ?_
  rintro e w1 ⟨y, rfl, y0, y9, hb⟩
  (go_wp2_with fail; refine (iLeap _ _).mono ?_; rintro e wx ⟨rfl, rfl⟩)
  (go_wp2_with fail; refine (sLeap _ _).mono ?_; rintro e wx ⟨rfl, rfl⟩)
  by_cases hd : 1 ≤ y ∧ y < 4000
  · obtain ⟨d1, d2⟩ := hd
    have hi : isDate y 1 1 := ⟨d1, by omega, by omega, by omega, by omega, by have := len_bd y 1; omega⟩
    have hi2 : isDate (y + 1) 1 1 := ⟨by omega, by omega, by omega, by omega, by omega, by have := len_bd (y + 1) 1; omega⟩
    have e1 : dayOf y 1 1 = before y := by rw [dayOf_yes hi]; simp [num, cum]
    have e2 : dayOf (y + 1) 1 1 = before (y + 1) := by rw [dayOf_yes hi2]; simp [num, cum]
    have hs := before_succ d1
    have b1 := before_bd d1 (by omega)
    have b2 := before_bd (y := y + 1) (by omega) (by omega)
    have b3 := before_bd (y := y + 1 + 1) (by omega) (by omega)
    have hs2 := before_succ (y := y + 1) (by omega)
    have l2 := lp01 (y + 1)
    have l1 := lp01 y
    have w1' : wdy (before y) = before y % 7 := by unfold wdy; rw [if_pos (by omega)]
    have w2' : wdy (before (y + 1)) = before (y + 1) % 7 := by unfold wdy; exact if_pos ⟨by omega, by omega⟩
    have wb : 0 ≤ before y % 7 ∧ before y % 7 ≤ 6 := by omega
    rcases hl : leapB y with _ | _
    · have e3 := lp_of_false hl d1 (by omega)
      have f : before (y + 1) % 7 = (before y % 7 + 1) % 7 := by omega
      have F := Lib.hid f; have E1 := Lib.hid e1; have E2 := Lib.hid e2; have W1 := Lib.hid w1'; have W2 := Lib.hid w2'
      clear f e1 e2 w1' w2' e3 hl hs hs2 hi hi2
      obtain ⟨wb1, wb2⟩ := wb
      go_wp2_with fail
      refine (iDayOf _ _ _ _).mono ?_
      rw [E2.out]
      rintro e w' ⟨rfl, rfl⟩
      go_wp2_with fail
      refine (iWeekdayOf _ _).mono ?_
      rw [W2.out, F.out]
      rintro e w' ⟨rfl, rfl⟩
      go_wp2_with fail
      refine (iDayOf _ _ _ _).mono ?_
      rw [E1.out]
      rintro e w' ⟨rfl, rfl⟩
      go_wp2_with fail
      refine (iWeekdayOf _ _).mono ?_
      rw [W1.out]
      rintro e w' ⟨rfl, rfl⟩
      go_wp2
      go_ret
      exact ⟨by simp, hb⟩
    · have e3 := lp_of_true hl
      have f : before (y + 1) % 7 = (before y % 7 + 2) % 7 := by omega
      have F := Lib.hid f; have E1 := Lib.hid e1; have E2 := Lib.hid e2; have W1 := Lib.hid w1'; have W2 := Lib.hid w2'
      clear f e1 e2 w1' w2' e3 hl hs hs2 hi hi2
      obtain ⟨wb1, wb2⟩ := wb
      go_wp2_with fail
      refine (iDayOf _ _ _ _).mono ?_
      rw [E2.out]
      rintro e w' ⟨rfl, rfl⟩
      go_wp2_with fail
      refine (iWeekdayOf _ _).mono ?_
      rw [W2.out, F.out]
      rintro e w' ⟨rfl, rfl⟩
      go_wp2_with fail
      refine (iDayOf _ _ _ _).mono ?_
      rw [E1.out]
      rintro e w' ⟨rfl, rfl⟩
      go_wp2_with fail
      refine (iWeekdayOf _ _).mono ?_
      rw [W1.out]
      rintro e w' ⟨rfl, rfl⟩
      go_wp2
      go_ret
      exact ⟨by simp, hb⟩
  · by_cases a : y < 1
    · clear hd
      generalize leapB y = bb
      (go_wp2_with fail; refine (alive_any _).mono ?_; rintro e wx ⟨rfl, rfl⟩)
      go_wp2
      go_ret
      exact ⟨rfl, hb⟩
    · have b : 4000 ≤ y := by omega
      clear hd
      generalize leapB y = bb
      (go_wp2_with fail; refine (alive_any _).mono ?_; rintro e wx ⟨rfl, rfl⟩)
      go_wp2
      go_ret
      exact ⟨rfl, hb⟩

theorem own : ownKnob Try.prog.godebug = none := by kernel_rfl
theorem laid : laidOutB Try.prog = true := by kernel_rfl
theorem readable : ∀ t ∈ Try.f8.params.toList, Try.prog.readableRec t = true ∧ t < Try.prog.types.size := by
  have h : (Try.f8.params.toList.all fun t => Try.prog.readableRec t && decide (t < Try.prog.types.size)) = true := by kernel_rfl
  intro t ht
  have := List.all_eq_true.1 h t ht
  simpa using this

set_option maxRecDepth 100000 in
theorem lifted (os : Os) (started : os.Started) (H : Type) (enc : TypeId × Value → H) :
    ReturnsInHanded {} Try.checked os 8 .any (Rows.fnDayWeekSpec.pre6 enc Try.prog Try.f8 Rows.fnDayWeekRow.domain false) (Rows.fnDayWeekSpec.post enc Try.prog Try.f8 false true false false) := by
  refine returnsInHanded_of_change (C := Try.checked) own started (by kernel_rfl) Try.func8
    (ChangeSpec.witness6 (enc := enc) (C := Try.checked) false ⟨#[], #[.slice none 0 0], []⟩ 8 (by kernel_rfl) (by kernel_rfl) (by kernel_rfl) (by kernel_rfl)) ?_
  intro W base args ds gs before hval0 hW hcnd _
  have hval : ∀ (j : Nat) t v, Try.f8.params[j]? = some t → args[j]? = some v → Value.okWide Try.prog W .any base t v := hval0
  have hW' := hW
  obtain ⟨p, q, hA0, hV, rfl, hfz, hnd⟩ := hW
  have hA : DataW.TrodAll enc Try.prog W 0 (fun _ => true) true Try.f8.params.toList args.toList ds p := hA0
  rw [Try.params8] at hA hval
  obtain ⟨v0, vs0, d0, ds0, p0, q0, hargs, rfl, rfl, h0, r0⟩ := trodAll_cons hA
  obtain ⟨rfl, rfl, rfl⟩ := trodAll_nil r0
  obtain rfl : args = #[v0] := by cases args; simp_all
  obtain ⟨rfl, rfl⟩ := trodVars_none hV
  have b0 := Law.bytes_arg Try.underlying22 Try.underlying5 (by kernel_rfl) (hval 0 22 v0 rfl rfl) h0 (fun x hx => hW'.lt x (by simp [hx]))
  clear hA0 hval0
  refine (walk W v0 W.heap.size b0 rfl).mono fun e W' ⟨he, hg⟩ => ?_
  subst he
  exact ⟨_, rfl, Law.law_post laid readable (B := 4) rfl Try.underlying4 rfl hW' rfl hg⟩

theorem over : Rows.fnDayWeekRow.holds Try.pinned (OpenSpec.ofChange Rows.fnDayWeekSpec) :=
  OpenClaim.holds_of_wide 8 Try.f8 rfl rfl rfl rfl rfl rfl rfl ⟨rfl, rfl, rfl, rfl, rfl⟩ rfl rfl rfl rfl rfl (by kernel_rfl) Try.func8 (by kernel_rfl)
    (of_decide_eq_true (by kernel_rfl)) (by unfold Func.isWrapper; first | (rw [if_pos (by decide +kernel)]; kernel_rfl) | (rw [if_neg (by decide +kernel)]; exact ⟨rfl, rfl⟩))
    (fun os started H enc _ => lifted os started H enc)

theorem proved : Rows.FnDayWeekSaid :=
  over
end Go.Proofs.Ythfifjonghhapaa.fnDayWeek
