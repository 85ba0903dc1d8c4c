/-
  FnLeapYear holds: whatever the input, the law answers true and leaves its arguments as they were. Conditions: none.
-/
import Derived.Test.YthfifjonghhapaaRows
import Derived.Test.YthfifjonghhapaaLaw
import Derived.WalkKit
import Derived.ProofKit
import Derived.OpenShut
import Derived.Lib.Hide
import Derived.Outline
import Derived.Test.YthfifjonghhapaaDays
import Derived.Test.YthfifjonghhapaaDates
import Derived.Test.YthfifjonghhapaaDrawDays
set_option linter.unusedVariables false
set_option linter.unusedSimpArgs false
namespace Go.Proofs.Ythfifjonghhapaa.fnLeapYear
open Go.ChangeShapes Go.WideShapes Go.ChangeAt Go.RowKit Cal
set_option maxHeartbeats 2000000 in
theorem walk (w : World) (code : Value) (B : Nat) (h_code : Law.BytesAt w B code) (hB : B = w.heap.size) :
    Calls Try.prog 3 #[code] w fun e w' => e = .returned (.bool true) ∧ Below w.heap.size w w' := by
  have hq := h_code
  obtain ⟨a, ln, cap, rfl, hl1, hl2, _⟩ := hq
  unfold maxLen at hl2
  subst hB
  by_cases hc : 1048576 < ln
  · go_enter Try.func3, Try.ntmps3
    go_wp2
    go_ret
    exact ⟨rfl, Below.refl _ _⟩
  have hc' : decide (1048576 < ln) = false := by simpa using hc
  go_enter Try.func3, Try.ntmps3
  go_wp2_with fail
  refine (drawYear _ _ _ h_code rfl).mono ?_
  rintro e w1 ⟨y, rfl, y0, y9, hb⟩
  (go_wp2_with fail; refine (iLeap _ _).mono ?_; rintro e wx ⟨rfl, rfl⟩)
  (go_wp2_with fail; refine (sLeap _ _).mono ?_; rintro e wx ⟨rfl, rfl⟩)
  by_cases hd : 1 ≤ y ∧ y ≤ 4000
  · obtain ⟨d1, d2⟩ := hd
    rcases hl : leapB y with _ | _
    · have e1 := lp_of_false hl d1 d2
      have hs : Hid (∀ j, 1 ≤ j → j ≤ 12 → cum y (j + 1) = cum y j + dim y j) := fun j h1 h2 => by rw [dim_of d1 d2 h1 h2]; exact cum_succ y j h1 h2
      have hbd : Hid (∀ j, 1 ≤ j → j ≤ 13 → 0 ≤ cum y j ∧ cum y j ≤ 366) := fun j h1 h2 => by have := cum_bd y j h1 h2; have := lp01 y; omega
      have h13 : Hid (cum y 13 = 365) := by have := cum13 y; show cum y 13 = 365; omega
      clear e1 hl
      go_wp2_with fail
      go_loop [5, 6] (fun s i => ∃ j : Int, 1 ≤ j ∧ j ≤ 13 ∧ i = .int .i64 j ∧ s = .int .i64 (cum y j)) (fun _ i => (13 - intOf i).toNat)
      case atStart => exact ⟨1, by omega, by omega, rfl, by simp [cum]⟩
      case round =>
        obtain ⟨j, j1, j2, rfl, rfl⟩ := hrel
        have b := hbd.out j j1 j2
        obtain ⟨b1, b2⟩ := b
        by_cases hj : j ≤ 12
        · have d := dim_bd y j
          obtain ⟨d3, d4⟩ := d
          have e := Lib.hid (hs.out j j1 hj)
          go_wp2_with fail
          refine (iDaysIn _ _ _).mono ?_
          rintro e w' ⟨rfl, rfl⟩
          go_wp2_with fail
          go_round
          case rel => exact ⟨j + 1, by omega, by omega, by go_num, by first | (rw [e.out]; done) | (rw [e.out]; go_num)⟩
          case measure => simp [intOf]; omega
        · obtain rfl : j = 13 := by omega
          rw [h13.out]
          go_wp2_with fail
          refine (alive_any _).mono ?_
          rintro e w' ⟨rfl, rfl⟩
          go_wp2
          go_ret
          exact ⟨rfl, hb⟩
    · have e1 := lp_of_true hl
      have hs : Hid (∀ j, 1 ≤ j → j ≤ 12 → cum y (j + 1) = cum y j + dim y j) := fun j h1 h2 => by rw [dim_of d1 d2 h1 h2]; exact cum_succ y j h1 h2
      have hbd : Hid (∀ j, 1 ≤ j → j ≤ 13 → 0 ≤ cum y j ∧ cum y j ≤ 366) := fun j h1 h2 => by have := cum_bd y j h1 h2; have := lp01 y; omega
      have h13 : Hid (cum y 13 = 366) := by have := cum13 y; show cum y 13 = 366; omega
      clear e1 hl
      go_wp2_with fail
      go_loop [5, 6] (fun s i => ∃ j : Int, 1 ≤ j ∧ j ≤ 13 ∧ i = .int .i64 j ∧ s = .int .i64 (cum y j)) (fun _ i => (13 - intOf i).toNat)
      case atStart => exact ⟨1, by omega, by omega, rfl, by simp [cum]⟩
      case round =>
        obtain ⟨j, j1, j2, rfl, rfl⟩ := hrel
        have b := hbd.out j j1 j2
        obtain ⟨b1, b2⟩ := b
        by_cases hj : j ≤ 12
        · have d := dim_bd y j
          obtain ⟨d3, d4⟩ := d
          have e := Lib.hid (hs.out j j1 hj)
          go_wp2_with fail
          refine (iDaysIn _ _ _).mono ?_
          rintro e w' ⟨rfl, rfl⟩
          go_wp2_with fail
          go_round
          case rel => exact ⟨j + 1, by omega, by omega, by go_num, by first | (rw [e.out]; done) | (rw [e.out]; go_num)⟩
          case measure => simp [intOf]; omega
        · obtain rfl : j = 13 := by omega
          rw [h13.out]
          go_wp2_with fail
          refine (alive_any _).mono ?_
          rintro e w' ⟨rfl, rfl⟩
          go_wp2
          go_ret
          exact ⟨rfl, hb⟩
  · have hl : leapB y = false := by simp [leapB]; omega
    rw [hl]
    clear hl
    have hz : Hid (∀ j, dim y j = 0) := fun j => dim_no (by omega)
    have hyy : (decide (y < 1) || decide (4000 < y)) = true := by simp; omega
    go_wp2_with fail
    go_loop [5, 6] (fun s i => ∃ j : Int, 1 ≤ j ∧ j ≤ 13 ∧ i = .int .i64 j ∧ s = .int .i64 0) (fun _ i => (13 - intOf i).toNat)
    case atStart => exact ⟨1, by omega, by omega, rfl, rfl⟩
    case round =>
      obtain ⟨j, j1, j2, rfl, rfl⟩ := hrel
      by_cases hj : j ≤ 12
      · go_wp2_with fail
        refine (iDaysIn _ _ _).mono ?_
        rw [hz.out]
        rintro e w' ⟨rfl, rfl⟩
        go_wp2_with fail
        go_round
        case rel => exact ⟨j + 1, by omega, by omega, by go_num, by go_num⟩
        case measure => simp [intOf]; omega
      · obtain rfl : j = 13 := by omega
        by_cases a : y < 1
        · clear hd
          go_wp2_with fail
          refine (alive_any _).mono ?_
          rintro e w' ⟨rfl, rfl⟩
          go_wp2
          go_ret
          exact ⟨rfl, hb⟩
        · have b : 4000 < y := by omega
          clear hd
          go_wp2_with fail
          refine (alive_any _).mono ?_
          rintro e w' ⟨rfl, rfl⟩
          go_wp2
          go_ret
          exact ⟨rfl, hb⟩

theorem own : ownKnob Try.prog.godebug = none := by kernel_rfl
theorem laid : laidOutB Try.prog = true := by kernel_rfl
theorem readable : ∀ t ∈ Try.f3.params.toList, Try.prog.readableRec t = true ∧ t < Try.prog.types.size := by
  have h : (Try.f3.params.toList.all fun t => Try.prog.readableRec t && decide (t < Try.prog.types.size)) = true := by kernel_rfl
  intro t ht
  have := List.all_eq_true.1 h t ht
  simpa using this

set_option maxRecDepth 100000 in
theorem lifted (os : Os) (started : os.Started) (H : Type) (enc : TypeId × Value → H) :
    ReturnsInHanded {} Try.checked os 3 .any (Rows.fnLeapYearSpec.pre6 enc Try.prog Try.f3 Rows.fnLeapYearRow.domain false) (Rows.fnLeapYearSpec.post enc Try.prog Try.f3 false true false false) := by
  refine returnsInHanded_of_change (C := Try.checked) own started (by kernel_rfl) Try.func3
    (ChangeSpec.witness6 (enc := enc) (C := Try.checked) false ⟨#[], #[.slice none 0 0], []⟩ 8 (by kernel_rfl) (by kernel_rfl) (by kernel_rfl) (by kernel_rfl)) ?_
  intro W base args ds gs before hval0 hW hcnd _
  have hval : ∀ (j : Nat) t v, Try.f3.params[j]? = some t → args[j]? = some v → Value.okWide Try.prog W .any base t v := hval0
  have hW' := hW
  obtain ⟨p, q, hA0, hV, rfl, hfz, hnd⟩ := hW
  have hA : DataW.TrodAll enc Try.prog W 0 (fun _ => true) true Try.f3.params.toList args.toList ds p := hA0
  rw [Try.params3] at hA hval
  obtain ⟨v0, vs0, d0, ds0, p0, q0, hargs, rfl, rfl, h0, r0⟩ := trodAll_cons hA
  obtain ⟨rfl, rfl, rfl⟩ := trodAll_nil r0
  obtain rfl : args = #[v0] := by cases args; simp_all
  obtain ⟨rfl, rfl⟩ := trodVars_none hV
  have b0 := Law.bytes_arg Try.underlying22 Try.underlying5 (by kernel_rfl) (hval 0 22 v0 rfl rfl) h0 (fun x hx => hW'.lt x (by simp [hx]))
  clear hA0 hval0
  refine (walk W v0 W.heap.size b0 rfl).mono fun e W' ⟨he, hg⟩ => ?_
  subst he
  exact ⟨_, rfl, Law.law_post laid readable (B := 4) rfl Try.underlying4 rfl hW' rfl hg⟩

theorem over : Rows.fnLeapYearRow.holds Try.pinned (OpenSpec.ofChange Rows.fnLeapYearSpec) :=
  OpenClaim.holds_of_wide 3 Try.f3 rfl rfl rfl rfl rfl rfl rfl ⟨rfl, rfl, rfl, rfl, rfl⟩ rfl rfl rfl rfl rfl (by kernel_rfl) Try.func3 (by kernel_rfl)
    (of_decide_eq_true (by kernel_rfl)) (by unfold Func.isWrapper; first | (rw [if_pos (by decide +kernel)]; kernel_rfl) | (rw [if_neg (by decide +kernel)]; exact ⟨rfl, rfl⟩))
    (fun os started H enc _ => lifted os started H enc)

theorem proved : Rows.FnLeapYearSaid :=
  over
end Go.Proofs.Ythfifjonghhapaa.fnLeapYear
