/-
  FnReadStamp holds: whatever the input, the law answers true and leaves its arguments as they were. Conditions: none.
-/
import Derived.Test.YthiogmkicdgpiaaRows
import Derived.Test.YthiogmkicdgpiaaLaw
import Derived.WalkKit
import Derived.ProofKit
import Derived.OpenShut
import Derived.Lib.Hide
import Derived.Outline
import Derived.LoopN
import Derived.IntWalk
import Derived.Deep.RegionHeld3
import Derived.Deep.RegionWith
import Derived.Test.YthiogmkicdgpiaaLawMom
import Derived.Test.YthiogmkicdgpiaaDrawText
import Derived.Test.YthiogmkicdgpiaaITexts
set_option linter.unusedVariables false
set_option linter.unusedSimpArgs false
namespace Go.Proofs.Ythiogmkicdgpiaa.fnReadStamp
open Go.ChangeShapes Go.WideShapes Go.ChangeAt Go.RowKit Cal
set_option maxHeartbeats 8000000 in
theorem walk (w : World) (code : Value) (B : Nat) (h_code : Law.BytesAt w B code) (hB : B = w.heap.size) :
    Calls Try.prog 4 #[code] w fun e w' => e = .returned (.bool true) ∧ Below w.heap.size w w' := by
  have hq := h_code
  obtain ⟨a, ln, cap, rfl, hl1, hl2, _⟩ := hq
  unfold maxLen at hl2
  subst hB
  by_cases hc : 1048576 < ln
  · go_enter Try.func4, Try.ntmps4
    go_wp2
    go_ret
    exact ⟨rfl, Below.refl _ _⟩
  have hc' : decide (1048576 < ln) = false := by simpa using hc
  have LE := lists_eq
  have K0 := k0; have K90 := k90
  have SZ := strOfNums_size
  go_enter Try.func4, Try.ntmps4
  go_wp2_with fail
  refine (drawReadStamp _ _ _ h_code rfl).mono ?_
  rintro e w1 ⟨t, rfl, ht, hb⟩
  have hz := hb.size
  cases ok : rOk t
  · have v1 := rV_no ok
    have OK := Lib.hid ok
    have V1 := Lib.hid (v1 (rY t)); have V2 := Lib.hid (v1 (rO t)); have V3 := Lib.hid (v1 (rD t)); have V4 := Lib.hid (v1 (rH t)); have V5 := Lib.hid (v1 (rI t)); have V6 := Lib.hid (v1 (rS t))
    clear ok v1
    (go_wp2_with fail; refine (iReadStamp t _ (by omega)).mono ?_; (rw [V1.out, V2.out, V3.out, V4.out, V5.out, V6.out, OK.out]); rintro e w2 ⟨rfl, hbw2⟩; have hCw2 := Below_at hbw2; have hFw2 := Below_fr hbw2; have hb := Below.trans (show Below w.heap.size w _ from (by repeat' (first | with_reducible assumption | with_reducible exact Below.refl _ _ | with_reducible refine Below.setCell ?_ ?_ _ | with_reducible refine Below.alloc ?_ ?_ _ | with_reducible apply Below.drew | with_reducible apply Below.drewn | (simp; done) | (simp; omega)))) (hbw2.mono (by first | omega | (simp; done) | (simp; omega))); have hzw2 := hb.size; have hlw2 := hbw2.size; (try simp only [World.size_alloc, World.size_setCell, World.size_drew] at hlw2))
    (go_wp2_with fail; refine (sReadStamp t _ (by omega)).mono ?_; (rw [V1.out, V2.out, V3.out, V4.out, V5.out, V6.out, OK.out]); rintro e w3 ⟨rfl, hbw3⟩; have hCw3 := Below_at hbw3; have hFw3 := Below_fr hbw3; have hb := Below.trans (show Below w.heap.size w _ from (by repeat' (first | with_reducible assumption | with_reducible exact Below.refl _ _ | with_reducible refine Below.setCell ?_ ?_ _ | with_reducible refine Below.alloc ?_ ?_ _ | with_reducible apply Below.drew | with_reducible apply Below.drewn | (simp; done) | (simp; omega)))) (hbw3.mono (by first | omega | (simp; done) | (simp; omega))); have hzw3 := hb.size; have hlw3 := hbw3.size; (try simp only [World.size_alloc, World.size_setCell, World.size_drew] at hlw3))
    have q3 : w2.heap.size < w3.heap.size := by omega
    go_wp2_with (go_at_call 15; refine (alive_any _).mono ?_; rintro e wx ⟨rfl, rfl⟩)
    all_goals
      go_ret
      exact ⟨rfl, (by repeat' (first | with_reducible assumption | with_reducible exact Below.refl _ _ | with_reducible refine Below.setCell ?_ ?_ _ | with_reducible refine Below.alloc ?_ ?_ _ | with_reducible apply Below.drew | with_reducible apply Below.drewn | (simp; done) | (simp; omega)))⟩
  · have v1 := rV_yes ok
    obtain ⟨c, ht2⟩ := rOk_yes ok
    have hm : rOk (t ++ strOfNums [48]) = false := read_more ok (by rw [ByteArray.size_append]; rfl)
    have n1 := rV_no hm
    have OK := Lib.hid ok; have HM := Lib.hid hm; have N1 := Lib.hid n1
    have V1 := Lib.hid (v1 (rY t)); have V2 := Lib.hid (v1 (rO t)); have V3 := Lib.hid (v1 (rD t)); have V4 := Lib.hid (v1 (rH t)); have V5 := Lib.hid (v1 (rI t)); have V6 := Lib.hid (v1 (rS t))
    clear ok v1 hm n1
    generalize hY : rY t = y at *
    generalize hO : rO t = m at *
    generalize hD : rD t = d at *
    generalize hH : rH t = h at *
    generalize hI : rI t = i at *
    generalize hS : rS t = s at *
    have HY := Lib.hid hY; have HO := Lib.hid hO; have HD := Lib.hid hD; have HH := Lib.hid hH; have HI := Lib.hid hI; have HS := Lib.hid hS; have HT := Lib.hid ht2
    clear hY hO hD hH hI hS ht2 c
    have K48 : (⟨#[48]⟩ : ByteArray) = strOfNums [48] := rfl
    have hl : ¬ (9223372036854775807 < t.size + 1) := by omega
    have h48 : (t ++ strOfNums [48]).size ≤ 1000000000 := by rw [ByteArray.size_append, strOfNums_size]; simp; omega
    have H48 := Lib.hid h48; clear h48
    (go_wp2_with fail; refine (iReadStamp t _ (by omega)).mono ?_; (rw [HY.out, HO.out, HD.out, HH.out, HI.out, HS.out, V1.out, V2.out, V3.out, V4.out, V5.out, V6.out, OK.out]); rintro e w2 ⟨rfl, hbw2⟩; have hCw2 := Below_at hbw2; have hFw2 := Below_fr hbw2; have hb := Below.trans (show Below w.heap.size w _ from (by repeat' (first | with_reducible assumption | with_reducible exact Below.refl _ _ | with_reducible refine Below.setCell ?_ ?_ _ | with_reducible refine Below.alloc ?_ ?_ _ | with_reducible apply Below.drew | with_reducible apply Below.drewn | (simp; done) | (simp; omega)))) (hbw2.mono (by first | omega | (simp; done) | (simp; omega))); have hzw2 := hb.size; have hlw2 := hbw2.size; (try simp only [World.size_alloc, World.size_setCell, World.size_drew] at hlw2))
    (go_wp2_with fail; refine (sReadStamp t _ (by omega)).mono ?_; (rw [HY.out, HO.out, HD.out, HH.out, HI.out, HS.out, V1.out, V2.out, V3.out, V4.out, V5.out, V6.out, OK.out]); rintro e w3 ⟨rfl, hbw3⟩; have hCw3 := Below_at hbw3; have hFw3 := Below_fr hbw3; have hb := Below.trans (show Below w.heap.size w _ from (by repeat' (first | with_reducible assumption | with_reducible exact Below.refl _ _ | with_reducible refine Below.setCell ?_ ?_ _ | with_reducible refine Below.alloc ?_ ?_ _ | with_reducible apply Below.drew | with_reducible apply Below.drewn | (simp; done) | (simp; omega)))) (hbw3.mono (by first | omega | (simp; done) | (simp; omega))); have hzw3 := hb.size; have hlw3 := hbw3.size; (try simp only [World.size_alloc, World.size_setCell, World.size_drew] at hlw3))
    have q3 : w2.heap.size < w3.heap.size := by omega
    (go_wp2_with fail; refine (iReadStamp (t ++ strOfNums [48]) _ H48.out).mono ?_; (rw [HM.out]); rintro e w4 ⟨rfl, hbw4⟩; have hCw4 := Below_at hbw4; have hFw4 := Below_fr hbw4; have hb := Below.trans (show Below w.heap.size w _ from (by repeat' (first | with_reducible assumption | with_reducible exact Below.refl _ _ | with_reducible refine Below.setCell ?_ ?_ _ | with_reducible refine Below.alloc ?_ ?_ _ | with_reducible apply Below.drew | with_reducible apply Below.drewn | (simp; done) | (simp; omega)))) (hbw4.mono (by first | omega | (simp; done) | (simp; omega))); have hzw4 := hb.size; have hlw4 := hbw4.size; (try simp only [World.size_alloc, World.size_setCell, World.size_drew] at hlw4))
    have q4 : w2.heap.size < w4.heap.size := by omega
    have r4 : w3.heap.size < w4.heap.size := by omega
    (go_wp2_with fail; refine (iStampText _ _ _ _ _ _ _).mono ?_; (rw [HT.out]); rintro e w5 ⟨rfl, hbw5⟩; have hCw5 := Below_at hbw5; have hFw5 := Below_fr hbw5; have hb := Below.trans (show Below w.heap.size w _ from (by repeat' (first | with_reducible assumption | with_reducible exact Below.refl _ _ | with_reducible refine Below.setCell ?_ ?_ _ | with_reducible refine Below.alloc ?_ ?_ _ | with_reducible apply Below.drew | with_reducible apply Below.drewn | (simp; done) | (simp; omega)))) (hbw5.mono (by first | omega | (simp; done) | (simp; omega))); have hzw5 := hb.size; have hlw5 := hbw5.size; (try simp only [World.size_alloc, World.size_setCell, World.size_drew] at hlw5))
    go_wp2
    all_goals
      go_ret
      exact ⟨rfl, (by repeat' (first | with_reducible assumption | with_reducible exact Below.refl _ _ | with_reducible refine Below.setCell ?_ ?_ _ | with_reducible refine Below.alloc ?_ ?_ _ | with_reducible apply Below.drew | with_reducible apply Below.drewn | (simp; done) | (simp; omega)))⟩

theorem own : ownKnob Try.prog.godebug = none := by kernel_rfl
theorem laid : laidOutB Try.prog = true := by kernel_rfl
theorem readable : ∀ t ∈ Try.f4.params.toList, Try.prog.readableRec t = true ∧ t < Try.prog.types.size := by
  have h : (Try.f4.params.toList.all fun t => Try.prog.readableRec t && decide (t < Try.prog.types.size)) = true := by kernel_rfl
  intro t ht
  have := List.all_eq_true.1 h t ht
  simpa using this

set_option maxRecDepth 100000 in
theorem lifted (os : Os) (started : os.Started) (H : Type) (enc : TypeId × Value → H) :
    ReturnsInHanded {} Try.checked os 4 .any (Rows.fnReadStampSpec.pre6 enc Try.prog Try.f4 Rows.fnReadStampRow.domain false) (Rows.fnReadStampSpec.post enc Try.prog Try.f4 false true false false) := by
  refine returnsInHanded_of_change (C := Try.checked) own started (by kernel_rfl) Try.func4
    (ChangeSpec.witness6 (enc := enc) (C := Try.checked) false ⟨#[], #[.slice none 0 0], []⟩ 8 (by kernel_rfl) (by kernel_rfl) (by kernel_rfl) (by kernel_rfl)) ?_
  intro W base args ds gs before hval0 hW hcnd _
  have hval : ∀ (j : Nat) t v, Try.f4.params[j]? = some t → args[j]? = some v → Value.okWide Try.prog W .any base t v := hval0
  have hW' := hW
  obtain ⟨p, q, hA0, hV, rfl, hfz, hnd⟩ := hW
  have hA : DataW.TrodAll enc Try.prog W 0 (fun _ => true) true Try.f4.params.toList args.toList ds p := hA0
  rw [Try.params4] at hA hval
  obtain ⟨v0, vs0, d0, ds0, p0, q0, hargs, rfl, rfl, h0, r0⟩ := trodAll_cons hA
  obtain ⟨rfl, rfl, rfl⟩ := trodAll_nil r0
  obtain rfl : args = #[v0] := by cases args; simp_all
  obtain ⟨rfl, rfl⟩ := trodVars_none hV
  have b0 := Law.bytes_arg Try.underlying22 Try.underlying5 (by kernel_rfl) (hval 0 22 v0 rfl rfl) h0 (fun x hx => hW'.lt x (by simp [hx]))
  clear hA0 hval0
  refine (walk W v0 W.heap.size b0 rfl).mono fun e W' ⟨he, hg⟩ => ?_
  subst he
  exact ⟨_, rfl, Law.law_post laid readable (B := 4) rfl Try.underlying4 rfl hW' rfl hg⟩

theorem over : Rows.fnReadStampRow.holds Try.pinned (OpenSpec.ofChange Rows.fnReadStampSpec) :=
  OpenClaim.holds_of_wide 4 Try.f4 rfl rfl rfl rfl rfl rfl rfl ⟨rfl, rfl, rfl, rfl, rfl⟩ rfl rfl rfl rfl rfl (by kernel_rfl) Try.func4 (by kernel_rfl)
    (of_decide_eq_true (by kernel_rfl)) (by unfold Func.isWrapper; first | (rw [if_pos (by decide +kernel)]; kernel_rfl) | (rw [if_neg (by decide +kernel)]; exact ⟨rfl, rfl⟩))
    (fun os started H enc _ => lifted os started H enc)

theorem proved : Rows.FnReadStampSaid :=
  over
end Go.Proofs.Ythiogmkicdgpiaa.fnReadStamp
