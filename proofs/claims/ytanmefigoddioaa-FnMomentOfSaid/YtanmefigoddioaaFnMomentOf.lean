/-
  FnMomentOf holds: whatever the input, the law answers true and leaves its arguments as they were. Conditions: none.
-/
import Derived.Test.YtanmefigoddioaaRows
import Derived.Test.YtanmefigoddioaaLaw
import Derived.WalkKit
import Derived.ProofKit
import Derived.OpenShut
import Derived.Lib.Hide
import Derived.Outline
import Derived.Test.YtanmefigoddioaaLawMom
import Derived.Test.YtanmefigoddioaaDrawMom
set_option linter.unusedVariables false
set_option linter.unusedSimpArgs false
namespace Go.Proofs.Ytanmefigoddioaa.fnMomentOf
open Go.ChangeShapes Go.WideShapes Go.ChangeAt Go.RowKit Cal
set_option maxHeartbeats 4000000 in
theorem walk (w : World) (code : Value) (B : Nat) (h_code : Law.BytesAt w B code) (hB : B = w.heap.size) :
    Calls Try.prog 3 #[code] w fun e w' => e = .returned (.bool true) ∧ Below w.heap.size w w' := by
  have hq := h_code
  obtain ⟨a, ln, cap, rfl, hl1, hl2, _⟩ := hq
  unfold maxLen at hl2
  subst hB
  by_cases hc : 1048576 < ln
  · go_enter Try.func3, Try.ntmps3
    go_wp2
    go_ret
    exact ⟨rfl, Below.refl _ _⟩
  have hc' : decide (1048576 < ln) = false := by simpa using hc
  go_enter Try.func3, Try.ntmps3
  go_wp2_with fail
  refine (drawMomentOf _ _ _ h_code rfl).mono ?_
  rintro e w1 ⟨y, m, d, h, i, s, rfl, _, _, _, _, _, _, hb⟩
  have hz := hb.size
  cases c : svB y m d h i s
  · have E := Lib.hid (mom_no c)
    have C := Lib.hid c
    clear c
    (go_wp2_with fail; refine (iMomentOf _ _ _ _ _ _ _).mono ?_; (rw [E.out]); rintro e wx ⟨rfl, hbx⟩; have hC := Below_at hbx; have hF := Below_fr hbx; have hb := Below.trans (show Below w.heap.size w _ from (by repeat' (first | with_reducible assumption | with_reducible exact Below.refl _ _ | with_reducible refine Below.setCell ?_ ?_ _ | with_reducible refine Below.alloc ?_ ?_ _ | with_reducible apply Below.drew | (simp; done) | (simp; omega)))) (hbx.mono (by first | omega | (simp; done) | (simp; omega))); have hz := hb.size; have hl := hbx.size; (try simp only [World.size_alloc, World.size_setCell, World.size_drew] at hl); (try have hl1 := Nat.lt_of_succ_le hl); (try have hl2 := Nat.lt_of_succ_lt hl1))
    (go_wp2_with fail; refine (sMomentOf _ _ _ _ _ _ _).mono ?_; (rw [E.out]); rintro e wx ⟨rfl, hbx⟩; have hC := Below_at hbx; have hF := Below_fr hbx; have hb := Below.trans (show Below w.heap.size w _ from (by repeat' (first | with_reducible assumption | with_reducible exact Below.refl _ _ | with_reducible refine Below.setCell ?_ ?_ _ | with_reducible refine Below.alloc ?_ ?_ _ | with_reducible apply Below.drew | (simp; done) | (simp; omega)))) (hbx.mono (by first | omega | (simp; done) | (simp; omega))); have hz := hb.size; have hl := hbx.size; (try simp only [World.size_alloc, World.size_setCell, World.size_drew] at hl); (try have hl1 := Nat.lt_of_succ_le hl); (try have hl2 := Nat.lt_of_succ_lt hl1))
    (go_wp2_with fail; refine (sStampValid _ _ _ _ _ _ _).mono ?_; (rw [C.out]); rintro e wx ⟨rfl, hbx⟩; have hC := Below_at hbx; have hF := Below_fr hbx; have hb := Below.trans (show Below w.heap.size w _ from (by repeat' (first | with_reducible assumption | with_reducible exact Below.refl _ _ | with_reducible refine Below.setCell ?_ ?_ _ | with_reducible refine Below.alloc ?_ ?_ _ | with_reducible apply Below.drew | (simp; done) | (simp; omega)))) (hbx.mono (by first | omega | (simp; done) | (simp; omega))); have hz := hb.size; have hl := hbx.size; (try simp only [World.size_alloc, World.size_setCell, World.size_drew] at hl); (try have hl1 := Nat.lt_of_succ_le hl); (try have hl2 := Nat.lt_of_succ_lt hl1))
    (go_wp2_with fail; refine (alive_any _).mono ?_; rintro e wx ⟨rfl, rfl⟩)
    go_wp2
    all_goals
      go_ret
      exact ⟨rfl, (by repeat' (first | with_reducible assumption | with_reducible exact Below.refl _ _ | with_reducible refine Below.setCell ?_ ?_ _ | with_reducible refine Below.alloc ?_ ?_ _ | with_reducible apply Below.drew | (simp; done) | (simp; omega)))⟩
  · have k := stamp_of c
    have b := mom_bd y m d h i s
    have t := mom_time c
    have v := sv_yes c
    have e0 := mom_yes c
    generalize hn : mom y m d h i s = n at *
    obtain ⟨v0, v1, v2, v3, v4, v5, v6⟩ := v
    have n0 : 0 ≤ n := by omega
    have HN := Lib.hid hn
    have K1 := Lib.hid k.1; have K2 := Lib.hid k.2.1; have K3 := Lib.hid k.2.2.1; have K4 := Lib.hid k.2.2.2.1; have K5 := Lib.hid k.2.2.2.2.1; have K6 := Lib.hid k.2.2.2.2.2; have T := Lib.hid t
    clear c k t e0 hn
    have hS := made_at hb (.int .i64 y) (.int .i64 m) (.int .i64 d) (.int .i64 h) (.int .i64 i) (.int .i64 s) 24
    (go_wp2_with fail; refine (iMomentOf _ _ _ _ _ _ _).mono ?_; (rw [HN.out]); rintro e wx ⟨rfl, hbx⟩; have hC := Below_at hbx; have hF := Below_fr hbx; have hb := Below.trans (show Below w.heap.size w _ from (by repeat' (first | with_reducible assumption | with_reducible exact Below.refl _ _ | with_reducible refine Below.setCell ?_ ?_ _ | with_reducible refine Below.alloc ?_ ?_ _ | with_reducible apply Below.drew | (simp; done) | (simp; omega)))) (hbx.mono (by first | omega | (simp; done) | (simp; omega))); have hz := hb.size; have hl := hbx.size; (try simp only [World.size_alloc, World.size_setCell, World.size_drew] at hl); (try have hl1 := Nat.lt_of_succ_le hl); (try have hl2 := Nat.lt_of_succ_lt hl1))
    have hS := kept hbx hS
    (go_wp2_with fail; refine (sMomentOf _ _ _ _ _ _ _).mono ?_; (rw [HN.out]); rintro e wx ⟨rfl, hbx⟩; have hC := Below_at hbx; have hF := Below_fr hbx; have hb := Below.trans (show Below w.heap.size w _ from (by repeat' (first | with_reducible assumption | with_reducible exact Below.refl _ _ | with_reducible refine Below.setCell ?_ ?_ _ | with_reducible refine Below.alloc ?_ ?_ _ | with_reducible apply Below.drew | (simp; done) | (simp; omega)))) (hbx.mono (by first | omega | (simp; done) | (simp; omega))); have hz := hb.size; have hl := hbx.size; (try simp only [World.size_alloc, World.size_setCell, World.size_drew] at hl); (try have hl1 := Nat.lt_of_succ_le hl); (try have hl2 := Nat.lt_of_succ_lt hl1))
    have hS := kept hbx hS
    go_wp2_with fail
    go_region_held3 (fun w' => Below w.heap.size w w' ∧ w1.heap.size < w'.heap.size ∧ w'.cell? ⟨w1.heap.size, 0, none⟩ = some (.int .i64 (y)) ∧ w'.cell? ⟨w1.heap.size, 1, none⟩ = some (.int .i64 (m)) ∧ w'.cell? ⟨w1.heap.size, 2, none⟩ = some (.int .i64 (d)) ∧ w'.cell? ⟨w1.heap.size, 3, none⟩ = some (.int .i64 (h)) ∧ w'.cell? ⟨w1.heap.size, 4, none⟩ = some (.int .i64 (i)) ∧ w'.cell? ⟨w1.heap.size, 5, none⟩ = some (.int .i64 (s)))
      (first | exact kept (Below.refl _ _).drew hS | exact kept hbx (by assumption))
      (first | (go_at_call 17; refine (iStampOf _ _).mono ?_; rw [K1.out, K2.out, K3.out, K4.out, K5.out, K6.out]; rintro e wx ⟨rfl, hbx⟩))
    all_goals go_wp2_with fail
    all_goals
      go_ret
      exact ⟨ret_bool (by rw [beq_iff_eq, Int.tmod_eq_emod_of_nonneg n0]; have := T.out; simp only [IntKind.wrap_i64]; omega), (kept hbx (kept (Below.refl _ _).drew hS)).1⟩

theorem own : ownKnob Try.prog.godebug = none := by kernel_rfl
theorem laid : laidOutB Try.prog = true := by kernel_rfl
theorem readable : ∀ t ∈ Try.f3.params.toList, Try.prog.readableRec t = true ∧ t < Try.prog.types.size := by
  have h : (Try.f3.params.toList.all fun t => Try.prog.readableRec t && decide (t < Try.prog.types.size)) = true := by kernel_rfl
  intro t ht
  have := List.all_eq_true.1 h t ht
  simpa using this

set_option maxRecDepth 100000 in
theorem lifted (os : Os) (started : os.Started) (H : Type) (enc : TypeId × Value → H) :
    ReturnsInHanded {} Try.checked os 3 .any (Rows.fnMomentOfSpec.pre6 enc Try.prog Try.f3 Rows.fnMomentOfRow.domain false) (Rows.fnMomentOfSpec.post enc Try.prog Try.f3 false true false false) := by
  refine returnsInHanded_of_change (C := Try.checked) own started (by kernel_rfl) Try.func3
    (ChangeSpec.witness6 (enc := enc) (C := Try.checked) false ⟨#[], #[.slice none 0 0], []⟩ 8 (by kernel_rfl) (by kernel_rfl) (by kernel_rfl) (by kernel_rfl)) ?_
  intro W base args ds gs before hval0 hW hcnd _
  have hval : ∀ (j : Nat) t v, Try.f3.params[j]? = some t → args[j]? = some v → Value.okWide Try.prog W .any base t v := hval0
  have hW' := hW
  obtain ⟨p, q, hA0, hV, rfl, hfz, hnd⟩ := hW
  have hA : DataW.TrodAll enc Try.prog W 0 (fun _ => true) true Try.f3.params.toList args.toList ds p := hA0
  rw [Try.params3] at hA hval
  obtain ⟨v0, vs0, d0, ds0, p0, q0, hargs, rfl, rfl, h0, r0⟩ := trodAll_cons hA
  obtain ⟨rfl, rfl, rfl⟩ := trodAll_nil r0
  obtain rfl : args = #[v0] := by cases args; simp_all
  obtain ⟨rfl, rfl⟩ := trodVars_none hV
  have b0 := Law.bytes_arg Try.underlying22 Try.underlying5 (by kernel_rfl) (hval 0 22 v0 rfl rfl) h0 (fun x hx => hW'.lt x (by simp [hx]))
  clear hA0 hval0
  refine (walk W v0 W.heap.size b0 rfl).mono fun e W' ⟨he, hg⟩ => ?_
  subst he
  exact ⟨_, rfl, Law.law_post laid readable (B := 4) rfl Try.underlying4 rfl hW' rfl hg⟩

theorem over : Rows.fnMomentOfRow.holds Try.pinned (OpenSpec.ofChange Rows.fnMomentOfSpec) :=
  OpenClaim.holds_of_wide 3 Try.f3 rfl rfl rfl rfl rfl rfl rfl ⟨rfl, rfl, rfl, rfl, rfl⟩ rfl rfl rfl rfl rfl (by kernel_rfl) Try.func3 (by kernel_rfl)
    (of_decide_eq_true (by kernel_rfl)) (by unfold Func.isWrapper; first | (rw [if_pos (by decide +kernel)]; kernel_rfl) | (rw [if_neg (by decide +kernel)]; exact ⟨rfl, rfl⟩))
    (fun os started H enc _ => lifted os started H enc)

theorem proved : Rows.FnMomentOfSaid :=
  over
end Go.Proofs.Ytanmefigoddioaa.fnMomentOf
