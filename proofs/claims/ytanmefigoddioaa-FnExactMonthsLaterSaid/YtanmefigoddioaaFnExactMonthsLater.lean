/-
  FnExactMonthsLater holds: whatever the input, the law answers true and leaves its arguments as they were. Conditions: none.
-/
import Derived.Test.YtanmefigoddioaaRows
import Derived.Test.YtanmefigoddioaaLaw
import Derived.WalkKit
import Derived.ProofKit
import Derived.OpenShut
import Derived.Lib.Hide
import Derived.Outline
import Derived.Test.YtanmefigoddioaaLawMom
import Derived.Test.YtanmefigoddioaaMonths
set_option linter.unusedVariables false
set_option linter.unusedSimpArgs false
namespace Go.Proofs.Ytanmefigoddioaa.fnExactMonthsLater
open Go.ChangeShapes Go.WideShapes Go.ChangeAt Go.RowKit Cal
theorem walk (w : World) (aS_year aS_month aS_day aS_hour aS_minute aS_second : Int) (aMonths : Int) (h_aMonths : Law.I64 aMonths) :
    Calls Try.prog 8 #[.agg #[.int .i64 aS_year, .int .i64 aS_month, .int .i64 aS_day, .int .i64 aS_hour, .int .i64 aS_minute, .int .i64 aS_second], .int .i64 aMonths] w fun e w' => e = .returned (.bool true) ∧ Below w.heap.size w w' := by
  go_enter Try.func8, Try.ntmps8
  (go_wp2_with fail; refine (toStamp_any _ _ _ _ _ _ _).mono ?_; rintro e w1 ⟨rfl, hbw1⟩; have hCw1 := Below_at hbw1; have hFw1 := Below_fr hbw1; have hb := Below.trans (show Below w.heap.size w _ from (by repeat' (first | with_reducible assumption | with_reducible exact Below.refl _ _ | with_reducible refine Below.setCell ?_ ?_ _ | with_reducible refine Below.alloc ?_ ?_ _ | with_reducible apply Below.drew | (simp; done) | (simp; omega)))) (hbw1.mono (by first | omega | (simp; done) | (simp; omega))); have hzw1 := hb.size; have hlw1 := hbw1.size; (try simp only [World.size_alloc, World.size_setCell, World.size_drew] at hlw1))
  have p1 : w.heap.size < w1.heap.size := by omega
  (go_wp2_with fail; refine (sMonthsLater _ _ _ _ _ _ _ _).mono ?_; rintro e w2 ⟨rfl, hbw2⟩; have hCw2 := Below_at hbw2; have hFw2 := Below_fr hbw2; have hb := Below.trans (show Below w.heap.size w _ from (by repeat' (first | with_reducible assumption | with_reducible exact Below.refl _ _ | with_reducible refine Below.setCell ?_ ?_ _ | with_reducible refine Below.alloc ?_ ?_ _ | with_reducible apply Below.drew | (simp; done) | (simp; omega)))) (hbw2.mono (by first | omega | (simp; done) | (simp; omega))); have hzw2 := hb.size; have hlw2 := hbw2.size; (try simp only [World.size_alloc, World.size_setCell, World.size_drew] at hlw2))
  have p2 : w.heap.size < w2.heap.size := by omega
  (go_wp2_with fail; refine (toStamp_any _ _ _ _ _ _ _).mono ?_; rintro e w3 ⟨rfl, hbw3⟩; have hCw3 := Below_at hbw3; have hFw3 := Below_fr hbw3; have hb := Below.trans (show Below w.heap.size w _ from (by repeat' (first | with_reducible assumption | with_reducible exact Below.refl _ _ | with_reducible refine Below.setCell ?_ ?_ _ | with_reducible refine Below.alloc ?_ ?_ _ | with_reducible apply Below.drew | (simp; done) | (simp; omega)))) (hbw3.mono (by first | omega | (simp; done) | (simp; omega))); have hzw3 := hb.size; have hlw3 := hbw3.size; (try simp only [World.size_alloc, World.size_setCell, World.size_drew] at hlw3))
  have q3 : w2.heap.size < w3.heap.size := by omega
  (go_wp2_with fail; refine (iMonthsLater _ _ _ _ _ _ _ _).mono ?_; rintro e w4 ⟨rfl, hbw4⟩; have hCw4 := Below_at hbw4; have hFw4 := Below_fr hbw4; have hb := Below.trans (show Below w.heap.size w _ from (by repeat' (first | with_reducible assumption | with_reducible exact Below.refl _ _ | with_reducible refine Below.setCell ?_ ?_ _ | with_reducible refine Below.alloc ?_ ?_ _ | with_reducible apply Below.drew | (simp; done) | (simp; omega)))) (hbw4.mono (by first | omega | (simp; done) | (simp; omega))); have hzw4 := hb.size; have hlw4 := hbw4.size; (try simp only [World.size_alloc, World.size_setCell, World.size_drew] at hlw4))
  have q4 : w2.heap.size < w4.heap.size := by omega
  (go_wp2_with fail; refine (eqStamp_same _ _ _ _ _ _ _).mono ?_; rintro e w5 ⟨rfl, hbw5⟩; have hCw5 := Below_at hbw5; have hFw5 := Below_fr hbw5; have hb := Below.trans (show Below w.heap.size w _ from (by repeat' (first | with_reducible assumption | with_reducible exact Below.refl _ _ | with_reducible refine Below.setCell ?_ ?_ _ | with_reducible refine Below.alloc ?_ ?_ _ | with_reducible apply Below.drew | (simp; done) | (simp; omega)))) (hbw5.mono (by first | omega | (simp; done) | (simp; omega))); have hzw5 := hb.size; have hlw5 := hbw5.size; (try simp only [World.size_alloc, World.size_setCell, World.size_drew] at hlw5))
  have q5 : w2.heap.size < w5.heap.size := by omega
  go_wp2
  all_goals
    go_ret
    exact ⟨rfl, (by repeat' (first | with_reducible assumption | with_reducible exact Below.refl _ _ | with_reducible refine Below.setCell ?_ ?_ _ | with_reducible refine Below.alloc ?_ ?_ _ | with_reducible apply Below.drew | (simp; done) | (simp; omega)))⟩

theorem own : ownKnob Try.prog.godebug = none := by kernel_rfl
theorem laid : laidOutB Try.prog = true := by kernel_rfl
theorem readable : ∀ t ∈ Try.f8.params.toList, Try.prog.readableRec t = true ∧ t < Try.prog.types.size := by
  have h : (Try.f8.params.toList.all fun t => Try.prog.readableRec t && decide (t < Try.prog.types.size)) = true := by kernel_rfl
  intro t ht
  have := List.all_eq_true.1 h t ht
  simpa using this

set_option maxRecDepth 100000 in
theorem lifted (os : Os) (started : os.Started) (H : Type) (enc : TypeId × Value → H) :
    ReturnsInHanded {} Try.checked os 8 .any (Rows.fnExactMonthsLaterSpec.pre6 enc Try.prog Try.f8 Rows.fnExactMonthsLaterRow.domain false) (Rows.fnExactMonthsLaterSpec.post enc Try.prog Try.f8 false true false false) := by
  refine returnsInHanded_of_change (C := Try.checked) own started (by kernel_rfl) Try.func8
    (ChangeSpec.witness6 (enc := enc) (C := Try.checked) false ⟨#[], #[.agg #[.int .i64 0, .int .i64 0, .int .i64 0, .int .i64 0, .int .i64 0, .int .i64 0], .int .i64 0], []⟩ 8 (by kernel_rfl) (by kernel_rfl) (by kernel_rfl) (by kernel_rfl)) ?_
  intro W base args ds gs before hval0 hW hcnd _
  have hval : ∀ (j : Nat) t v, Try.f8.params[j]? = some t → args[j]? = some v → Value.okWide Try.prog W .any base t v := hval0
  have hW' := hW
  obtain ⟨p, q, hA0, hV, rfl, hfz, hnd⟩ := hW
  have hA : DataW.TrodAll enc Try.prog W 0 (fun _ => true) true Try.f8.params.toList args.toList ds p := hA0
  rw [Try.params8] at hA hval
  obtain ⟨v0, vs0, d0, ds0, p0, q0, hargs, rfl, rfl, h0, r0⟩ := trodAll_cons hA
  obtain ⟨v1, vs1, d1, ds1, p1, q1, rfl, rfl, rfl, h1, r1⟩ := trodAll_cons r0
  obtain ⟨rfl, rfl, rfl⟩ := trodAll_nil r1
  obtain rfl : args = #[v0, v1] := by cases args; simp_all
  obtain ⟨rfl, rfl⟩ := trodVars_none hV
  obtain ⟨zs0, zl0, zb0, rfl⟩ := Law.ints_arg Try.underlying35 (by kernel_rfl) (by kernel_rfl) (by intro i f hf; have hm := Array.mem_of_getElem? hf; simp at hm; rcases hm with rfl | rfl | rfl | rfl | rfl | rfl <;> exact Try.underlying3) (hval 0 35 v0 rfl rfl) h0
  obtain ⟨a0_0, a0_1, a0_2, a0_3, a0_4, a0_5, rfl⟩ := six_of zl0
  obtain ⟨a1, rfl, rfl, rfl, w1⟩ := open_int Try.underlying3 (hval 1 3 v1 rfl rfl) h1
  clear hA0 hval0
  refine (walk W a0_0 a0_1 a0_2 a0_3 a0_4 a0_5 a1 (Law.i64_arg w1)).mono fun e W' ⟨he, hg⟩ => ?_
  subst he
  exact ⟨_, rfl, Law.law_post laid readable (B := 4) rfl Try.underlying4 rfl hW' rfl hg⟩

theorem over : Rows.fnExactMonthsLaterRow.holds Try.pinned (OpenSpec.ofChange Rows.fnExactMonthsLaterSpec) :=
  OpenClaim.holds_of_wide 8 Try.f8 rfl rfl rfl rfl rfl rfl rfl ⟨rfl, rfl, rfl, rfl, rfl⟩ rfl rfl rfl rfl rfl (by kernel_rfl) Try.func8 (by kernel_rfl)
    (of_decide_eq_true (by kernel_rfl)) (by unfold Func.isWrapper; first | (rw [if_pos (by decide +kernel)]; kernel_rfl) | (rw [if_neg (by decide +kernel)]; exact ⟨rfl, rfl⟩))
    (fun os started H enc _ => lifted os started H enc)

theorem proved : Rows.FnExactMonthsLaterSaid :=
  over
end Go.Proofs.Ytanmefigoddioaa.fnExactMonthsLater
