/-
  FnStampOf holds: whatever the input, the law answers true and leaves its arguments as they were. Conditions: none.
-/
import Derived.Test.YtanmefigoddioaaRows
import Derived.Test.YtanmefigoddioaaLaw
import Derived.WalkKit
import Derived.ProofKit
import Derived.OpenShut
import Derived.Lib.Hide
import Derived.Outline
import Derived.Test.YtanmefigoddioaaLawMom
import Derived.Test.YtanmefigoddioaaDrawMom
set_option linter.unusedVariables false
set_option linter.unusedSimpArgs false
namespace Go.Proofs.Ytanmefigoddioaa.fnStampOf
open Go.ChangeShapes Go.WideShapes Go.ChangeAt Go.RowKit Cal
set_option maxHeartbeats 4000000 in
theorem walk (w : World) (code : Value) (B : Nat) (h_code : Law.BytesAt w B code) (hB : B = w.heap.size) :
    Calls Try.prog 10 #[code] w fun e w' => e = .returned (.bool true) ∧ Below w.heap.size w w' := by
  have hq := h_code
  obtain ⟨a, ln, cap, rfl, hl1, hl2, _⟩ := hq
  unfold maxLen at hl2
  subst hB
  by_cases hc : 1048576 < ln
  · go_enter Try.func10, Try.ntmps10
    go_wp2
    go_ret
    exact ⟨rfl, Below.refl _ _⟩
  have hc' : decide (1048576 < ln) = false := by simpa using hc
  go_enter Try.func10, Try.ntmps10
  go_wp2_with fail
  refine (drawStampOf _ _ _ h_code rfl).mono ?_
  rintro e w1 ⟨n, rfl, n0, n9, hb⟩
  have hz := hb.size
  by_cases c : 0 ≤ n ∧ n ≤ 126227807999
  · have k := stamp_is c.1 c.2
    have C := Lib.hid k.1; have M := Lib.hid k.2
    obtain ⟨c0, c9⟩ := c
    clear k
    (go_wp2_with fail; refine (iStampOf _ _).mono ?_; rintro e w2 ⟨rfl, hbw2⟩; have hCw2 := Below_at hbw2; have hFw2 := Below_fr hbw2; have hb := Below.trans (show Below w.heap.size w _ from (by repeat' (first | with_reducible assumption | with_reducible exact Below.refl _ _ | with_reducible refine Below.setCell ?_ ?_ _ | with_reducible refine Below.alloc ?_ ?_ _ | with_reducible apply Below.drew | (simp; done) | (simp; omega)))) (hbw2.mono (by first | omega | (simp; done) | (simp; omega))); have hzw2 := hb.size; have hlw2 := hbw2.size; (try simp only [World.size_alloc, World.size_setCell, World.size_drew] at hlw2))
    have hS := made_at hb (.int .i64 (tY n)) (.int .i64 (tO n)) (.int .i64 (tD n)) (.int .i64 (tH n)) (.int .i64 (tI n)) (.int .i64 (tS n)) 24
    go_wp2_with fail
    go_region_held3 (fun w' => Below w.heap.size w w' ∧ w2.heap.size < w'.heap.size ∧ w'.cell? ⟨w2.heap.size, 0, none⟩ = some (.int .i64 (tY n)) ∧ w'.cell? ⟨w2.heap.size, 1, none⟩ = some (.int .i64 (tO n)) ∧ w'.cell? ⟨w2.heap.size, 2, none⟩ = some (.int .i64 (tD n)) ∧ w'.cell? ⟨w2.heap.size, 3, none⟩ = some (.int .i64 (tH n)) ∧ w'.cell? ⟨w2.heap.size, 4, none⟩ = some (.int .i64 (tI n)) ∧ w'.cell? ⟨w2.heap.size, 5, none⟩ = some (.int .i64 (tS n)))
      (first | exact kept (Below.refl _ _).drew hS | exact kept hbx (by assumption))
      (first | (go_at_call 23; refine (sStampOf _ _).mono ?_; rintro e w3 ⟨rfl, hbx⟩))
    all_goals
      have hS3 := kept hbx (kept (Below.refl _ _).drew hS)
      have hb := hS3.1
      (go_wp2_with fail; refine (iStampValid _ _ _ _ _ _ _).mono ?_; (rw [C.out]); rintro e w4 ⟨rfl, hbw4⟩; have hCw4 := Below_at hbw4; have hFw4 := Below_fr hbw4; have hb := Below.trans (show Below w.heap.size w _ from (by repeat' (first | with_reducible assumption | with_reducible exact Below.refl _ _ | with_reducible refine Below.setCell ?_ ?_ _ | with_reducible refine Below.alloc ?_ ?_ _ | with_reducible apply Below.drew | (simp; done) | (simp; omega)))) (hbw4.mono (by first | omega | (simp; done) | (simp; omega))); have hzw4 := hb.size; have hlw4 := hbw4.size; (try simp only [World.size_alloc, World.size_setCell, World.size_drew] at hlw4))
      (go_wp2_with fail; refine (iMomentOf _ _ _ _ _ _ _).mono ?_; (rw [M.out]); rintro e w5 ⟨rfl, hbw5⟩; have hCw5 := Below_at hbw5; have hFw5 := Below_fr hbw5; have hb := Below.trans (show Below w.heap.size w _ from (by repeat' (first | with_reducible assumption | with_reducible exact Below.refl _ _ | with_reducible refine Below.setCell ?_ ?_ _ | with_reducible refine Below.alloc ?_ ?_ _ | with_reducible apply Below.drew | (simp; done) | (simp; omega)))) (hbw5.mono (by first | omega | (simp; done) | (simp; omega))); have hzw5 := hb.size; have hlw5 := hbw5.size; (try simp only [World.size_alloc, World.size_setCell, World.size_drew] at hlw5))
      go_wp2
      all_goals
        go_ret
        exact ⟨rfl, (by repeat' (first | with_reducible assumption | with_reducible exact Below.refl _ _ | with_reducible refine Below.setCell ?_ ?_ _ | with_reducible refine Below.alloc ?_ ?_ _ | with_reducible apply Below.drew | (simp; done) | (simp; omega)))⟩
  · obtain ⟨z1, z2, z3, z4, z5, z6⟩ := stamp_no c
    have Z1 := Lib.hid z1; have Z2 := Lib.hid z2; have Z3 := Lib.hid z3; have Z4 := Lib.hid z4; have Z5 := Lib.hid z5; have Z6 := Lib.hid z6
    clear z1 z2 z3 z4 z5 z6
    have cs : n < 0 ∨ 126227807999 < n := by omega
    clear c
    (go_wp2_with fail; refine (iStampOf _ _).mono ?_; (rw [Z1.out, Z2.out, Z3.out, Z4.out, Z5.out, Z6.out]); rintro e w2 ⟨rfl, hbw2⟩; have hCw2 := Below_at hbw2; have hFw2 := Below_fr hbw2; have hb := Below.trans (show Below w.heap.size w _ from (by repeat' (first | with_reducible assumption | with_reducible exact Below.refl _ _ | with_reducible refine Below.setCell ?_ ?_ _ | with_reducible refine Below.alloc ?_ ?_ _ | with_reducible apply Below.drew | (simp; done) | (simp; omega)))) (hbw2.mono (by first | omega | (simp; done) | (simp; omega))); have hzw2 := hb.size; have hlw2 := hbw2.size; (try simp only [World.size_alloc, World.size_setCell, World.size_drew] at hlw2))
    have hS := made_at hb (.int .i64 0) (.int .i64 0) (.int .i64 0) (.int .i64 0) (.int .i64 0) (.int .i64 0) 24
    go_wp2_with fail
    go_region_held3 (fun w' => Below w.heap.size w w' ∧ w2.heap.size < w'.heap.size ∧ w'.cell? ⟨w2.heap.size, 0, none⟩ = some (.int .i64 (0)) ∧ w'.cell? ⟨w2.heap.size, 1, none⟩ = some (.int .i64 (0)) ∧ w'.cell? ⟨w2.heap.size, 2, none⟩ = some (.int .i64 (0)) ∧ w'.cell? ⟨w2.heap.size, 3, none⟩ = some (.int .i64 (0)) ∧ w'.cell? ⟨w2.heap.size, 4, none⟩ = some (.int .i64 (0)) ∧ w'.cell? ⟨w2.heap.size, 5, none⟩ = some (.int .i64 (0)))
      (first | exact kept (Below.refl _ _).drew hS | exact kept hbx (by assumption))
      (first | (go_at_call 23; refine (sStampOf _ _).mono ?_; rw [Z1.out, Z2.out, Z3.out, Z4.out, Z5.out, Z6.out]; rintro e w3 ⟨rfl, hbx⟩))
    all_goals
      have hS3 := kept hbx (kept (Below.refl _ _).drew hS)
      have hb := hS3.1
      rcases cs with cs | cs
    all_goals
      (go_wp2_with fail; refine (alive_any _).mono ?_; rintro e wx ⟨rfl, rfl⟩)
      go_wp2
      all_goals
        go_ret
        exact ⟨rfl, (by repeat' (first | with_reducible assumption | with_reducible exact Below.refl _ _ | with_reducible refine Below.setCell ?_ ?_ _ | with_reducible refine Below.alloc ?_ ?_ _ | with_reducible apply Below.drew | (simp; done) | (simp; omega)))⟩

theorem own : ownKnob Try.prog.godebug = none := by kernel_rfl
theorem laid : laidOutB Try.prog = true := by kernel_rfl
theorem readable : ∀ t ∈ Try.f10.params.toList, Try.prog.readableRec t = true ∧ t < Try.prog.types.size := by
  have h : (Try.f10.params.toList.all fun t => Try.prog.readableRec t && decide (t < Try.prog.types.size)) = true := by kernel_rfl
  intro t ht
  have := List.all_eq_true.1 h t ht
  simpa using this

set_option maxRecDepth 100000 in
theorem lifted (os : Os) (started : os.Started) (H : Type) (enc : TypeId × Value → H) :
    ReturnsInHanded {} Try.checked os 10 .any (Rows.fnStampOfSpec.pre6 enc Try.prog Try.f10 Rows.fnStampOfRow.domain false) (Rows.fnStampOfSpec.post enc Try.prog Try.f10 false true false false) := by
  refine returnsInHanded_of_change (C := Try.checked) own started (by kernel_rfl) Try.func10
    (ChangeSpec.witness6 (enc := enc) (C := Try.checked) false ⟨#[], #[.slice none 0 0], []⟩ 8 (by kernel_rfl) (by kernel_rfl) (by kernel_rfl) (by kernel_rfl)) ?_
  intro W base args ds gs before hval0 hW hcnd _
  have hval : ∀ (j : Nat) t v, Try.f10.params[j]? = some t → args[j]? = some v → Value.okWide Try.prog W .any base t v := hval0
  have hW' := hW
  obtain ⟨p, q, hA0, hV, rfl, hfz, hnd⟩ := hW
  have hA : DataW.TrodAll enc Try.prog W 0 (fun _ => true) true Try.f10.params.toList args.toList ds p := hA0
  rw [Try.params10] at hA hval
  obtain ⟨v0, vs0, d0, ds0, p0, q0, hargs, rfl, rfl, h0, r0⟩ := trodAll_cons hA
  obtain ⟨rfl, rfl, rfl⟩ := trodAll_nil r0
  obtain rfl : args = #[v0] := by cases args; simp_all
  obtain ⟨rfl, rfl⟩ := trodVars_none hV
  have b0 := Law.bytes_arg Try.underlying22 Try.underlying5 (by kernel_rfl) (hval 0 22 v0 rfl rfl) h0 (fun x hx => hW'.lt x (by simp [hx]))
  clear hA0 hval0
  refine (walk W v0 W.heap.size b0 rfl).mono fun e W' ⟨he, hg⟩ => ?_
  subst he
  exact ⟨_, rfl, Law.law_post laid readable (B := 4) rfl Try.underlying4 rfl hW' rfl hg⟩

theorem over : Rows.fnStampOfRow.holds Try.pinned (OpenSpec.ofChange Rows.fnStampOfSpec) :=
  OpenClaim.holds_of_wide 10 Try.f10 rfl rfl rfl rfl rfl rfl rfl ⟨rfl, rfl, rfl, rfl, rfl⟩ rfl rfl rfl rfl rfl (by kernel_rfl) Try.func10 (by kernel_rfl)
    (of_decide_eq_true (by kernel_rfl)) (by unfold Func.isWrapper; first | (rw [if_pos (by decide +kernel)]; kernel_rfl) | (rw [if_neg (by decide +kernel)]; exact ⟨rfl, rfl⟩))
    (fun os started H enc _ => lifted os started H enc)

theorem proved : Rows.FnStampOfSaid :=
  over
end Go.Proofs.Ytanmefigoddioaa.fnStampOf
