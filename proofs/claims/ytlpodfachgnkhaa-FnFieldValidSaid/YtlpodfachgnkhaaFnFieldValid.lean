/-
  FnFieldValid holds: whatever the input, the law answers true and leaves its arguments as they were. Conditions: none.
-/
import Derived.Test.YtlpodfachgnkhaaRows
import Derived.Test.YtlpodfachgnkhaaLaw
import Derived.WalkKit
import Derived.ProofKit
import Derived.OpenShut
import Derived.Lib.Hide
import Derived.Outline
import Derived.LoopN
import Derived.IntWalk
import Derived.Deep.RegionHeld3
import Derived.Deep.RegionWith
import Derived.Test.YtlpodfachgnkhaaDrawField
import Derived.Test.YtlpodfachgnkhaaIFields
set_option linter.unusedVariables false
set_option linter.unusedSimpArgs false
namespace Go.Proofs.Ytlpodfachgnkhaa.fnFieldValid
open Go.ChangeShapes Go.WideShapes Go.ChangeAt Go.RowKit Cal
set_option maxRecDepth 100000 in
set_option maxHeartbeats 8000000 in
theorem walk (w : World) (code : Value) (B : Nat) (h_code : Law.BytesAt w B code) (hB : B = w.heap.size) :
    Calls Try.prog 3 #[code] w fun e w' => e = .returned (.bool true) ∧ Below w.heap.size w w' := by
  have hq := h_code
  obtain ⟨a, ln, cap, rfl, hl1, hl2, _⟩ := hq
  unfold maxLen at hl2
  subst hB
  by_cases hc : 1048576 < ln
  · go_enter Try.func3, Try.ntmps3
    go_wp2
    go_ret
    exact ⟨rfl, Below.refl _ _⟩
  have hc' : decide (1048576 < ln) = false := by simpa using hc
  have LE := lists_eq
  have K0 := k0
  have SZ := strOfNums_size
  go_enter Try.func3, Try.ntmps3
  go_wp2_with fail
  refine (drawFieldValid _ _ _ h_code rfl).mono ?_
  rintro e w1 ⟨z, lo, hh, rfl, ⟨z0, z9⟩, hlo, hhh, hb⟩
  have hz := hb.size
  have h63 : z < 2 ^ 63 := by omega
  cases c : fvB z lo hh
  · have C := Lib.hid c
    clear c
    (go_wp2_with fail; refine (iFieldValid _ _ _ _ h63).mono ?_; (rw [C.out]); rintro e w2 ⟨rfl, hbw2⟩; have hCw2 := Below_at hbw2; have hFw2 := Below_fr hbw2; have hb := Below.trans (show Below w.heap.size w _ from (by repeat' (first | with_reducible assumption | with_reducible exact Below.refl _ _ | with_reducible refine Below.setCell ?_ ?_ _ | with_reducible refine Below.alloc ?_ ?_ _ | with_reducible apply Below.drew | with_reducible apply Below.drewn | (simp; done) | (simp; omega)))) (hbw2.mono (by first | omega | (simp; done) | (simp; omega))); have hzw2 := hb.size; have hlw2 := hbw2.size; (try simp only [World.size_alloc, World.size_setCell, World.size_drew] at hlw2))
    go_wp2_with fail
    refine (sFieldValid _ _ _ _ h63).mono ?_
    rw [C.out]
    rintro e wx ⟨rfl, rfl⟩
    (go_wp2_with fail; refine (alive_any _).mono ?_; rintro e wx ⟨rfl, rfl⟩)
    go_wp2
    go_ret
    exact ⟨rfl, (by repeat' (first | with_reducible assumption | with_reducible exact Below.refl _ _ | with_reducible refine Below.setCell ?_ ?_ _ | with_reducible refine Below.alloc ?_ ?_ _ | with_reducible apply Below.drew | with_reducible apply Below.drewn | (simp; done) | (simp; omega)))⟩
  · obtain ⟨fd, p, hin⟩ := fv_yes c h63
    obtain ⟨f0, f1, f9⟩ := fd_yes fd
    have C := Lib.hid c
    have hlt := inF_lt hin (by omega)
    have Z := Lib.hid (show fvB 0 lo hh = false by unfold fvB; simp)
    obtain ⟨A, rfl⟩ := Int.eq_ofNat_of_zero_le (Int.le_of_lt p)
    rw [Int.toNat_natCast] at hin hlt
    have HIN := Lib.hid hin
    clear c hin
    (go_wp2_with fail; refine (iFieldValid _ _ _ _ h63).mono ?_; (rw [C.out]); rintro e w2 ⟨rfl, hbw2⟩; have hCw2 := Below_at hbw2; have hFw2 := Below_fr hbw2; have hb := Below.trans (show Below w.heap.size w _ from (by repeat' (first | with_reducible assumption | with_reducible exact Below.refl _ _ | with_reducible refine Below.setCell ?_ ?_ _ | with_reducible refine Below.alloc ?_ ?_ _ | with_reducible apply Below.drew | with_reducible apply Below.drewn | (simp; done) | (simp; omega)))) (hbw2.mono (by first | omega | (simp; done) | (simp; omega))); have hzw2 := hb.size; have hlw2 := hbw2.size; (try simp only [World.size_alloc, World.size_setCell, World.size_drew] at hlw2))
    go_wp2_with fail
    refine (sFieldValid _ _ _ _ h63).mono ?_
    rw [C.out]
    rintro e wx ⟨rfl, rfl⟩
    go_wp2_with fail
    go_loopg [7, 8] 60 (fun q mv nv wr => ∃ (m : Int) (n : Nat), mv = .int .i64 m ∧ nv = .int .i64 (n : Int) ∧ n + q = 60 ∧ (0 ≤ m ∧ m ≤ n) ∧ (m = 0 → ∀ i, i < n → A.testBit i = false) ∧ Below w.heap.size w wr)
    case atStart => exact ⟨0, 0, rfl, rfl, by omega, by omega, fun _ i hi => by omega, hb⟩
    case round =>
      obtain ⟨m, n, rfl, rfl, hn, ⟨m0, m9⟩, hm, hb⟩ := hrel
      have HM := Lib.hid hm; clear hm
      have hzr := hb.size
      by_cases g : n < 60
      · obtain ⟨q, rfl⟩ : ∃ q, gk = q + 1 := ⟨gk - 1, by omega⟩
        have g' : (n : Int) < 60 := by omega
        have fh : fhB (A : Int) (n : Int) = A.testBit n := by
          have := fhB_of (S := (A : Int)) (n := (n : Int)) (by omega) (by omega) (by omega)
          rwa [Int.toNat_natCast, Int.toNat_natCast] at this
        cases t : A.testBit n
        · have FH := Lib.hid (fh.trans t)
          have T := Lib.hid t
          clear fh t
          (go_wp2_with fail; refine (iFieldHas _ _ _ h63).mono ?_; rw [FH.out]; rintro e wx ⟨rfl, hbx⟩; have hC := Below_at hbx; have hF := Below_fr hbx; have hb := Below.trans (show Below w.heap.size w _ from (by repeat' (first | with_reducible assumption | with_reducible exact Below.refl _ _ | with_reducible refine Below.setCell ?_ ?_ _ | with_reducible refine Below.alloc ?_ ?_ _ | with_reducible apply Below.drew | with_reducible apply Below.drewn | (simp; done) | (simp; omega)))) (hbx.mono (by first | omega | (simp; done) | (simp; omega))); have hz := hb.size; have hl := hbx.size; (try simp only [World.size_alloc, World.size_setCell, World.size_drew] at hl); (try have hs0 : w.heap.size < wx.heap.size := by omega); (try have hs1 : w.heap.size + 1 < wx.heap.size := by omega); clear hl)
          go_wp2
          go_roundg q
          case measure => omega
          case rel =>
            refine ⟨m, n + 1, rfl, by go_num, by omega, by omega, fun h i hi => ?_, (by repeat' (first | with_reducible assumption | with_reducible exact Below.refl _ _ | with_reducible refine Below.setCell ?_ ?_ _ | with_reducible refine Below.alloc ?_ ?_ _ | with_reducible apply Below.drew | with_reducible apply Below.drewn | (simp; done) | (simp; omega)))⟩
            by_cases e : i = n
            · rw [e]; exact T.out
            · exact HM.out h i (by omega)
        · have FH := Lib.hid (fh.trans t)
          have rg := HIN.out n t
          have g1 : decide ((n : Int) < lo) = false := by simp; omega
          have g2 : decide (hh < (n : Int)) = false := by simp; omega
          clear fh t rg
          (go_wp2_with fail; refine (iFieldHas _ _ _ h63).mono ?_; rw [FH.out]; rintro e wx ⟨rfl, hbx⟩; have hC := Below_at hbx; have hF := Below_fr hbx; have hb := Below.trans (show Below w.heap.size w _ from (by repeat' (first | with_reducible assumption | with_reducible exact Below.refl _ _ | with_reducible refine Below.setCell ?_ ?_ _ | with_reducible refine Below.alloc ?_ ?_ _ | with_reducible apply Below.drew | with_reducible apply Below.drewn | (simp; done) | (simp; omega)))) (hbx.mono (by first | omega | (simp; done) | (simp; omega))); have hz := hb.size; have hl := hbx.size; (try simp only [World.size_alloc, World.size_setCell, World.size_drew] at hl); (try have hs0 : w.heap.size < wx.heap.size := by omega); (try have hs1 : w.heap.size + 1 < wx.heap.size := by omega); clear hl)
          go_wp2
          go_roundg q
          case measure => omega
          case rel => exact ⟨m + 1, n + 1, by go_num, by go_num, by omega, by omega, fun h => by omega, (by repeat' (first | with_reducible assumption | with_reducible exact Below.refl _ _ | with_reducible refine Below.setCell ?_ ?_ _ | with_reducible refine Below.alloc ?_ ?_ _ | with_reducible apply Below.drew | with_reducible apply Below.drewn | (simp; done) | (simp; omega)))⟩
      · have hn60 : n = 60 := by omega
        subst hn60
        have mp : 0 < m := by
          by_cases h : 0 < m
          · exact h
          · have h0 : m = 0 := by omega
            have := HM.out h0
            have z : A = 0 := by
              apply Nat.eq_of_testBit_eq
              intro i
              rw [Nat.zero_testBit]
              by_cases hi : i < 60
              · exact this i hi
              · exact Nat.testBit_lt_two_pow (Nat.lt_of_lt_of_le hlt (Nat.pow_le_pow_right (by omega) (by omega)))
            omega
        clear HM
        (go_wp2_with fail; refine (iFieldValid _ _ _ _ (by omega)).mono ?_; rw [Z.out]; rintro e wx ⟨rfl, hbx⟩; have hC := Below_at hbx; have hF := Below_fr hbx; have hb := Below.trans (show Below w.heap.size w _ from (by repeat' (first | with_reducible assumption | with_reducible exact Below.refl _ _ | with_reducible refine Below.setCell ?_ ?_ _ | with_reducible refine Below.alloc ?_ ?_ _ | with_reducible apply Below.drew | with_reducible apply Below.drewn | (simp; done) | (simp; omega)))) (hbx.mono (by first | omega | (simp; done) | (simp; omega))); have hz := hb.size; have hl := hbx.size; (try simp only [World.size_alloc, World.size_setCell, World.size_drew] at hl); (try have hs0 : w.heap.size < wx.heap.size := by omega); (try have hs1 : w.heap.size + 1 < wx.heap.size := by omega); clear hl)
        go_wp2
        go_ret
        exact ⟨rfl, (by repeat' (first | with_reducible assumption | with_reducible exact Below.refl _ _ | with_reducible refine Below.setCell ?_ ?_ _ | with_reducible refine Below.alloc ?_ ?_ _ | with_reducible apply Below.drew | with_reducible apply Below.drewn | (simp; done) | (simp; omega)))⟩

theorem own : ownKnob Try.prog.godebug = none := by kernel_rfl
theorem laid : laidOutB Try.prog = true := by kernel_rfl
theorem readable : ∀ t ∈ Try.f3.params.toList, Try.prog.readableRec t = true ∧ t < Try.prog.types.size := by
  have h : (Try.f3.params.toList.all fun t => Try.prog.readableRec t && decide (t < Try.prog.types.size)) = true := by kernel_rfl
  intro t ht
  have := List.all_eq_true.1 h t ht
  simpa using this

set_option maxRecDepth 100000 in
theorem lifted (os : Os) (started : os.Started) (H : Type) (enc : TypeId × Value → H) :
    ReturnsInHanded {} Try.checked os 3 .any (Rows.fnFieldValidSpec.pre6 enc Try.prog Try.f3 Rows.fnFieldValidRow.domain false) (Rows.fnFieldValidSpec.post enc Try.prog Try.f3 false true false false) := by
  refine returnsInHanded_of_change (C := Try.checked) own started (by kernel_rfl) Try.func3
    (ChangeSpec.witness6 (enc := enc) (C := Try.checked) false ⟨#[], #[.slice none 0 0], []⟩ 8 (by kernel_rfl) (by kernel_rfl) (by kernel_rfl) (by kernel_rfl)) ?_
  intro W base args ds gs before hval0 hW hcnd _
  have hval : ∀ (j : Nat) t v, Try.f3.params[j]? = some t → args[j]? = some v → Value.okWide Try.prog W .any base t v := hval0
  have hW' := hW
  obtain ⟨p, q, hA0, hV, rfl, hfz, hnd⟩ := hW
  have hA : DataW.TrodAll enc Try.prog W 0 (fun _ => true) true Try.f3.params.toList args.toList ds p := hA0
  rw [Try.params3] at hA hval
  obtain ⟨v0, vs0, d0, ds0, p0, q0, hargs, rfl, rfl, h0, r0⟩ := trodAll_cons hA
  obtain ⟨rfl, rfl, rfl⟩ := trodAll_nil r0
  obtain rfl : args = #[v0] := by cases args; simp_all
  obtain ⟨rfl, rfl⟩ := trodVars_none hV
  have b0 := Law.bytes_arg Try.underlying22 Try.underlying5 (by kernel_rfl) (hval 0 22 v0 rfl rfl) h0 (fun x hx => hW'.lt x (by simp [hx]))
  clear hA0 hval0
  refine (walk W v0 W.heap.size b0 rfl).mono fun e W' ⟨he, hg⟩ => ?_
  subst he
  exact ⟨_, rfl, Law.law_post laid readable (B := 4) rfl Try.underlying4 rfl hW' rfl hg⟩

theorem over : Rows.fnFieldValidRow.holds Try.pinned (OpenSpec.ofChange Rows.fnFieldValidSpec) :=
  OpenClaim.holds_of_wide 3 Try.f3 rfl rfl rfl rfl rfl rfl rfl ⟨rfl, rfl, rfl, rfl, rfl⟩ rfl rfl rfl rfl rfl (by kernel_rfl) Try.func3 (by kernel_rfl)
    (of_decide_eq_true (by kernel_rfl)) (by unfold Func.isWrapper; first | (rw [if_pos (by decide +kernel)]; kernel_rfl) | (rw [if_neg (by decide +kernel)]; exact ⟨rfl, rfl⟩))
    (fun os started H enc _ => lifted os started H enc)

theorem proved : Rows.FnFieldValidSaid :=
  over
end Go.Proofs.Ytlpodfachgnkhaa.fnFieldValid
