/-
  FnDayCentury holds: whatever the input, the law answers true and leaves its arguments as they were. Conditions: none.
-/
import Derived.Test.YthfifjonghhapaaRows
import Derived.Test.YthfifjonghhapaaLaw
import Derived.WalkKit
import Derived.ProofKit
import Derived.OpenShut
import Derived.Lib.Hide
import Derived.Outline
import Derived.Test.YthfifjonghhapaaDays
import Derived.Test.YthfifjonghhapaaDates
import Derived.Test.YthfifjonghhapaaDrawDays
import Derived.Test.YthfifjonghhapaaDrawDate
set_option linter.unusedVariables false
set_option linter.unusedSimpArgs false
namespace Go.Proofs.Ythfifjonghhapaa.fnDayCentury
open Go.ChangeShapes Go.WideShapes Go.ChangeAt Go.RowKit Cal
theorem lp_400 (y : Int) : lp (y + 400) = lp y := by
  unfold lp
  rw [show (y + 400) % 4 = y % 4 by omega, show (y + 400) % 100 = y % 100 by omega, show (y + 400) % 400 = y % 400 by omega]
theorem len_400 (y m : Int) : len (y + 400) m = len y m := by unfold len; rw [lp_400]
theorem num_400 (y m d : Int) : num (y + 400) m d = num y m d + 146097 := by
  unfold num cum before; rw [lp_400]; omega
set_option maxHeartbeats 2000000 in
theorem walk (w : World) (code : Value) (B : Nat) (h_code : Law.BytesAt w B code) (hB : B = w.heap.size) :
    Calls Try.prog 9 #[code] w fun e w' => e = .returned (.bool true) ∧ Below w.heap.size w w' := by
  have hq := h_code
  obtain ⟨a, ln, cap, rfl, hl1, hl2, _⟩ := hq
  unfold maxLen at hl2
  subst hB
  by_cases hc : 1048576 < ln
  · go_enter Try.func9, Try.ntmps9
    go_wp2
    go_ret
    exact ⟨rfl, Below.refl _ _⟩
  have hc' : decide (1048576 < ln) = false := by simpa using hc
  go_enter Try.func9, Try.ntmps9
  go_wp2_with fail
  refine (drawDate _ _ _ h_code rfl).mono ?_
  rintro e w1 ⟨y, m, d, rfl, y0, y9, m0, m9, d0, d9, hb⟩
  (go_wp2_with fail; refine (iDayOf _ _ _ _).mono ?_; rintro e wx ⟨rfl, rfl⟩)
  (go_wp2_with fail; refine (sDayOf _ _ _ _).mono ?_; rintro e wx ⟨rfl, hbx⟩; have hb := hb.trans (hbx.mono hb.size))
  by_cases hi : isDate y m d ∧ y ≤ 3600
  · obtain ⟨hi, hy⟩ := hi
    have hn := num_range hi
    have hj : isDate (y + 400) m d := by
      obtain ⟨h1, h2, h3, h4, h5, h6⟩ := hi
      exact ⟨by omega, by omega, h3, h4, h5, by rw [len_400]; exact h6⟩
    have hk := num_range hj
    have e1 : num (y + 400) m d = num y m d + 146097 := num_400 y m d
    have e2 : dayOf (y + 400) m d = num y m d + 146097 := by rw [dayOf_yes hj]; exact e1
    rw [dayOf_yes hi]
    have w1' : wdy (num y m d) = num y m d % 7 := by unfold wdy; exact if_pos ⟨by omega, by omega⟩
    have w2' : wdy (num y m d + 146097) = num y m d % 7 := by unfold wdy; rw [if_pos ⟨by omega, by omega⟩]; omega
    have E2 := Lib.hid e2; have W1 := Lib.hid w1'; have W2 := Lib.hid w2'; have E1 := Lib.hid e1
    have hk2 : num y m d + 146097 ≤ 1460969 := by omega
    have Hi := Lib.hid hi; have Hj := Lib.hid hj
    clear hi hj hk e1 e2 w1' w2'
    generalize hN : num y m d = n at *
    have HN := Lib.hid hN; clear hN
    obtain ⟨n0, n9⟩ := hn
    go_wp2_with fail
    refine (iDayOf _ _ _ _).mono ?_
    rw [E2.out]
    rintro e wx ⟨rfl, rfl⟩
    go_wp2_with fail
    refine (iWeekdayOf _ _).mono ?_
    rw [W2.out]
    rintro e wx ⟨rfl, rfl⟩
    go_wp2_with fail
    refine (iWeekdayOf _ _).mono ?_
    rw [W1.out]
    rintro e wx ⟨rfl, rfl⟩
    go_wp2
    go_ret
    exact ⟨rfl, hb⟩
  · by_cases hd : isDate y m d
    · have hy : 3600 < y := by
        by_cases c : y ≤ 3600
        · exact absurd ⟨hd, c⟩ hi
        · omega
      have hn := num_range hd
      rw [dayOf_yes hd]
      clear hi hd
      generalize num y m d = n at *
      obtain ⟨n0, n9⟩ := hn
      (go_wp2_with fail; refine (alive_any _).mono ?_; rintro e wx ⟨rfl, rfl⟩)
      go_wp2
      go_ret
      exact ⟨rfl, hb⟩
    · rw [dayOf_no hd]
      clear hi hd
      (go_wp2_with fail; refine (alive_any _).mono ?_; rintro e wx ⟨rfl, rfl⟩)
      go_wp2
      go_ret
      exact ⟨rfl, hb⟩

theorem own : ownKnob Try.prog.godebug = none := by kernel_rfl
theorem laid : laidOutB Try.prog = true := by kernel_rfl
theorem readable : ∀ t ∈ Try.f9.params.toList, Try.prog.readableRec t = true ∧ t < Try.prog.types.size := by
  have h : (Try.f9.params.toList.all fun t => Try.prog.readableRec t && decide (t < Try.prog.types.size)) = true := by kernel_rfl
  intro t ht
  have := List.all_eq_true.1 h t ht
  simpa using this

set_option maxRecDepth 100000 in
theorem lifted (os : Os) (started : os.Started) (H : Type) (enc : TypeId × Value → H) :
    ReturnsInHanded {} Try.checked os 9 .any (Rows.fnDayCenturySpec.pre6 enc Try.prog Try.f9 Rows.fnDayCenturyRow.domain false) (Rows.fnDayCenturySpec.post enc Try.prog Try.f9 false true false false) := by
  refine returnsInHanded_of_change (C := Try.checked) own started (by kernel_rfl) Try.func9
    (ChangeSpec.witness6 (enc := enc) (C := Try.checked) false ⟨#[], #[.slice none 0 0], []⟩ 8 (by kernel_rfl) (by kernel_rfl) (by kernel_rfl) (by kernel_rfl)) ?_
  intro W base args ds gs before hval0 hW hcnd _
  have hval : ∀ (j : Nat) t v, Try.f9.params[j]? = some t → args[j]? = some v → Value.okWide Try.prog W .any base t v := hval0
  have hW' := hW
  obtain ⟨p, q, hA0, hV, rfl, hfz, hnd⟩ := hW
  have hA : DataW.TrodAll enc Try.prog W 0 (fun _ => true) true Try.f9.params.toList args.toList ds p := hA0
  rw [Try.params9] at hA hval
  obtain ⟨v0, vs0, d0, ds0, p0, q0, hargs, rfl, rfl, h0, r0⟩ := trodAll_cons hA
  obtain ⟨rfl, rfl, rfl⟩ := trodAll_nil r0
  obtain rfl : args = #[v0] := by cases args; simp_all
  obtain ⟨rfl, rfl⟩ := trodVars_none hV
  have b0 := Law.bytes_arg Try.underlying22 Try.underlying5 (by kernel_rfl) (hval 0 22 v0 rfl rfl) h0 (fun x hx => hW'.lt x (by simp [hx]))
  clear hA0 hval0
  refine (walk W v0 W.heap.size b0 rfl).mono fun e W' ⟨he, hg⟩ => ?_
  subst he
  exact ⟨_, rfl, Law.law_post laid readable (B := 4) rfl Try.underlying4 rfl hW' rfl hg⟩

theorem over : Rows.fnDayCenturyRow.holds Try.pinned (OpenSpec.ofChange Rows.fnDayCenturySpec) :=
  OpenClaim.holds_of_wide 9 Try.f9 rfl rfl rfl rfl rfl rfl rfl ⟨rfl, rfl, rfl, rfl, rfl⟩ rfl rfl rfl rfl rfl (by kernel_rfl) Try.func9 (by kernel_rfl)
    (of_decide_eq_true (by kernel_rfl)) (by unfold Func.isWrapper; first | (rw [if_pos (by decide +kernel)]; kernel_rfl) | (rw [if_neg (by decide +kernel)]; exact ⟨rfl, rfl⟩))
    (fun os started H enc _ => lifted os started H enc)

theorem proved : Rows.FnDayCenturySaid :=
  over
end Go.Proofs.Ythfifjonghhapaa.fnDayCentury
