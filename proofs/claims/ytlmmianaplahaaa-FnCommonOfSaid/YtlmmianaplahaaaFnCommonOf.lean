/-
  FnCommonOf holds: whatever the input, the law answers true and leaves its arguments as they were. Conditions: none.
-/
import Derived.Test.YtlmmianaplahaaaRows
import Derived.Test.YtlmmianaplahaaaLaw
import Derived.WalkKit
import Derived.ProofKit
import Derived.OpenShut
import Derived.Lib.Hide
import Derived.Outline
import Derived.LoopN
import Derived.IntWalk
import Derived.Deep.RegionHeld3
import Derived.Deep.RegionWith
import Derived.Test.YtlmmianaplahaaaLawZone
import Derived.Test.YtlmmianaplahaaaDrawLocal
import Derived.Test.YtlmmianaplahaaaILocals
import Derived.Test.YtlmmianaplahaaaLocalLaw
import Derived.Test.YtlmmianaplahaaaInts
import Derived.Test.YtlmmianaplahaaaZoneLaw
set_option linter.unusedVariables false
set_option linter.unusedSimpArgs false
namespace Go.Proofs.Ytlmmianaplahaaa.fnCommonOf
open Go.ChangeShapes Go.WideShapes Go.ChangeAt Go.RowKit Cal
set_option maxHeartbeats 8000000 in
theorem walk (w : World) (code : Value) (B : Nat) (h_code : Law.BytesAt w B code) (hB : B = w.heap.size) :
    Calls Try.prog 6 #[code] w fun e w' => e = .returned (.bool true) ∧ Below w.heap.size w w' := by
  have hq := h_code
  obtain ⟨a, ln, cap, rfl, hl1, hl2, _⟩ := hq
  unfold maxLen at hl2
  subst hB
  by_cases hc : 1048576 < ln
  · go_enter Try.func6, Try.ntmps6
    go_wp2
    go_ret
    exact ⟨rfl, Below.refl _ _⟩
  have hc' : decide (1048576 < ln) = false := by simpa using hc
  go_enter Try.func6, Try.ntmps6
  go_wp2_with fail
  refine (drawCommonOf _ _ _ h_code rfl).mono ?_
  rintro e w1 ⟨z, n, l, rfl, hzb, hn, hb⟩
  have hz := hb.size
  have hs : -3000 ≤ z.s ∧ z.s ≤ 3000 := by unfold Zb near at hzb; omega
  clear hzb
  obtain ⟨n1, n2⟩ := hn
  by_cases vg : zvB z = true ∧ lGood n = true
  · obtain ⟨v, g⟩ := vg
    obtain ⟨⟨m1, m2⟩, ml⟩ := com_is (z := z) (n := n) l v g
    have cl := com_last v g
    have cn : comOf z (n + 60) false = -1 ∨ comOf z n false ≤ comOf z (n + 60) false := by
      cases g' : lGood (n + 60)
      · exact .inl (comOf_no (.inr g'))
      · exact .inr (com_next v g g')
    have lb := locOf_bd z (comOf z n l)
    generalize hm : comOf z n l = m at *
    generalize hL : locOf z m = L at *
    generalize hf : comOf z n false = f at *
    generalize ht : comOf z n true = t at *
    generalize hx : comOf z (n + 60) false = x at *
    generalize hk : tKind z n = k at *
    have HM := Lib.hid hm; have HL := Lib.hid hL; have HF := Lib.hid hf; have HT := Lib.hid ht; have HX := Lib.hid hx; have HK := Lib.hid hk
    clear hm hL hf ht hx hk v g
    have CN := Lib.hid cn; have ML := Lib.hid ml; have CL := Lib.hid cl
    clear cn ml cl
    (go_wp2_with fail; refine (iCommonOf z _ _ _).mono ?_; (rw [HM.out]); rintro e w2 ⟨rfl, hbw2⟩; have hCw2 := Below_at hbw2; have hFw2 := Below_fr hbw2; have hb := Below.trans (show Below w.heap.size w _ from (by repeat' (first | with_reducible assumption | with_reducible exact Below.refl _ _ | with_reducible refine Below.setCell ?_ ?_ _ | with_reducible refine Below.alloc ?_ ?_ _ | with_reducible apply Below.drew | with_reducible apply Below.drewn | (simp; done) | (simp; omega)))) (hbw2.mono (by first | omega | (simp; done) | (simp; omega))); have hzw2 := hb.size; have hlw2 := hbw2.size; (try simp only [World.size_alloc, World.size_setCell, World.size_drew] at hlw2))
    have p2 : w1.heap.size < w2.heap.size := by omega
    (go_wp2_with fail; refine (sCommonOf z _ _ _).mono ?_; (rw [HM.out]); rintro e w3 ⟨rfl, hbw3⟩; have hCw3 := Below_at hbw3; have hFw3 := Below_fr hbw3; have hb := Below.trans (show Below w.heap.size w _ from (by repeat' (first | with_reducible assumption | with_reducible exact Below.refl _ _ | with_reducible refine Below.setCell ?_ ?_ _ | with_reducible refine Below.alloc ?_ ?_ _ | with_reducible apply Below.drew | with_reducible apply Below.drewn | (simp; done) | (simp; omega)))) (hbw3.mono (by first | omega | (simp; done) | (simp; omega))); have hzw3 := hb.size; have hlw3 := hbw3.size; (try simp only [World.size_alloc, World.size_setCell, World.size_drew] at hlw3))
    have p3 : w1.heap.size < w3.heap.size := by omega
    (go_wp2_with fail; refine (iLocalOf z _ _).mono ?_; (rw [HL.out]); rintro e w4 ⟨rfl, hbw4⟩; have hCw4 := Below_at hbw4; have hFw4 := Below_fr hbw4; have hb := Below.trans (show Below w.heap.size w _ from (by repeat' (first | with_reducible assumption | with_reducible exact Below.refl _ _ | with_reducible refine Below.setCell ?_ ?_ _ | with_reducible refine Below.alloc ?_ ?_ _ | with_reducible apply Below.drew | with_reducible apply Below.drewn | (simp; done) | (simp; omega)))) (hbw4.mono (by first | omega | (simp; done) | (simp; omega))); have hzw4 := hb.size; have hlw4 := hbw4.size; (try simp only [World.size_alloc, World.size_setCell, World.size_drew] at hlw4))
    have p4 : w1.heap.size < w4.heap.size := by omega
    (go_wp2_with fail; refine (iCommonOf z _ _ _).mono ?_; (rw [HF.out]); rintro e w5 ⟨rfl, hbw5⟩; have hCw5 := Below_at hbw5; have hFw5 := Below_fr hbw5; have hb := Below.trans (show Below w.heap.size w _ from (by repeat' (first | with_reducible assumption | with_reducible exact Below.refl _ _ | with_reducible refine Below.setCell ?_ ?_ _ | with_reducible refine Below.alloc ?_ ?_ _ | with_reducible apply Below.drew | with_reducible apply Below.drewn | (simp; done) | (simp; omega)))) (hbw5.mono (by first | omega | (simp; done) | (simp; omega))); have hzw5 := hb.size; have hlw5 := hbw5.size; (try simp only [World.size_alloc, World.size_setCell, World.size_drew] at hlw5))
    have p5 : w1.heap.size < w5.heap.size := by omega
    (go_wp2_with fail; refine (iCommonOf z _ _ _).mono ?_; (rw [HX.out]); rintro e w6 ⟨rfl, hbw6⟩; have hCw6 := Below_at hbw6; have hFw6 := Below_fr hbw6; have hb := Below.trans (show Below w.heap.size w _ from (by repeat' (first | with_reducible assumption | with_reducible exact Below.refl _ _ | with_reducible refine Below.setCell ?_ ?_ _ | with_reducible refine Below.alloc ?_ ?_ _ | with_reducible apply Below.drew | with_reducible apply Below.drewn | (simp; done) | (simp; omega)))) (hbw6.mono (by first | omega | (simp; done) | (simp; omega))); have hzw6 := hb.size; have hlw6 := hbw6.size; (try simp only [World.size_alloc, World.size_setCell, World.size_drew] at hlw6))
    have p6 : w1.heap.size < w6.heap.size := by omega
    (go_wp2_with fail; refine (iTimeKind z _ _).mono ?_; (rw [HK.out]); rintro e w7 ⟨rfl, hbw7⟩; have hCw7 := Below_at hbw7; have hFw7 := Below_fr hbw7; have hb := Below.trans (show Below w.heap.size w _ from (by repeat' (first | with_reducible assumption | with_reducible exact Below.refl _ _ | with_reducible refine Below.setCell ?_ ?_ _ | with_reducible refine Below.alloc ?_ ?_ _ | with_reducible apply Below.drew | with_reducible apply Below.drewn | (simp; done) | (simp; omega)))) (hbw7.mono (by first | omega | (simp; done) | (simp; omega))); have hzw7 := hb.size; have hlw7 := hbw7.size; (try simp only [World.size_alloc, World.size_setCell, World.size_drew] at hlw7))
    have p7 : w1.heap.size < w7.heap.size := by omega
    have cl := CL.out
    have cl' : decide (f ≤ t) = true := by simpa using cl
    rcases ML.out with rfl | ⟨rfl, q1, q2⟩
    · (go_wp2_with fail; refine (iCommonOf z _ _ _).mono ?_; (rw [HT.out]); rintro e w8 ⟨rfl, hbw8⟩; have hCw8 := Below_at hbw8; have hFw8 := Below_fr hbw8; have hb := Below.trans (show Below w.heap.size w _ from (by repeat' (first | with_reducible assumption | with_reducible exact Below.refl _ _ | with_reducible refine Below.setCell ?_ ?_ _ | with_reducible refine Below.alloc ?_ ?_ _ | with_reducible apply Below.drew | with_reducible apply Below.drewn | (simp; done) | (simp; omega)))) (hbw8.mono (by first | omega | (simp; done) | (simp; omega))); have hzw8 := hb.size; have hlw8 := hbw8.size; (try simp only [World.size_alloc, World.size_setCell, World.size_drew] at hlw8))
      have cn := CN.out
      go_wp2
      all_goals
        go_ret
        first
          | exact ⟨rfl, (by repeat' (first | with_reducible assumption | with_reducible exact Below.refl _ _ | with_reducible refine Below.setCell ?_ ?_ _ | with_reducible refine Below.alloc ?_ ?_ _ | with_reducible apply Below.drew | with_reducible apply Below.drewn | (simp; done) | (simp; omega)))⟩
          | exact ⟨ret_bool (by simp; omega), (by repeat' (first | with_reducible assumption | with_reducible exact Below.refl _ _ | with_reducible refine Below.setCell ?_ ?_ _ | with_reducible refine Below.alloc ?_ ?_ _ | with_reducible apply Below.drew | with_reducible apply Below.drewn | (simp; done) | (simp; omega)))⟩
    · have hw1 : IntKind.i64.wrap (60 * z.s) = 60 * z.s := IntWalk.i64_in _ (by omega)
      have q0 : (L == n) = false := by simp; omega
      (go_wp2_with fail; refine (iCommonOf z _ _ _).mono ?_; (rw [HT.out]); rintro e w8 ⟨rfl, hbw8⟩; have hCw8 := Below_at hbw8; have hFw8 := Below_fr hbw8; have hb := Below.trans (show Below w.heap.size w _ from (by repeat' (first | with_reducible assumption | with_reducible exact Below.refl _ _ | with_reducible refine Below.setCell ?_ ?_ _ | with_reducible refine Below.alloc ?_ ?_ _ | with_reducible apply Below.drew | with_reducible apply Below.drewn | (simp; done) | (simp; omega)))) (hbw8.mono (by first | omega | (simp; done) | (simp; omega))); have hzw8 := hb.size; have hlw8 := hbw8.size; (try simp only [World.size_alloc, World.size_setCell, World.size_drew] at hlw8))
      have cn := CN.out
      go_wp2
      all_goals
        go_ret
        first
          | exact ⟨rfl, (by repeat' (first | with_reducible assumption | with_reducible exact Below.refl _ _ | with_reducible refine Below.setCell ?_ ?_ _ | with_reducible refine Below.alloc ?_ ?_ _ | with_reducible apply Below.drew | with_reducible apply Below.drewn | (simp; done) | (simp; omega)))⟩
          | exact ⟨ret_bool (by simp; omega), (by repeat' (first | with_reducible assumption | with_reducible exact Below.refl _ _ | with_reducible refine Below.setCell ?_ ?_ _ | with_reducible refine Below.alloc ?_ ?_ _ | with_reducible apply Below.drew | with_reducible apply Below.drewn | (simp; done) | (simp; omega)))⟩
  · have c : zvB z = false ∨ lGood n = false := by
      by_cases v : zvB z = true
      · exact .inr (by simpa using fun g => vg ⟨v, g⟩)
      · exact .inl (by simpa using v)
    have HK := Lib.hid (comOf_no (b := l) c)
    clear c vg
    (go_wp2_with fail; refine (iCommonOf z _ _ _).mono ?_; (rw [HK.out]); rintro e w2 ⟨rfl, hbw2⟩; have hCw2 := Below_at hbw2; have hFw2 := Below_fr hbw2; have hb := Below.trans (show Below w.heap.size w _ from (by repeat' (first | with_reducible assumption | with_reducible exact Below.refl _ _ | with_reducible refine Below.setCell ?_ ?_ _ | with_reducible refine Below.alloc ?_ ?_ _ | with_reducible apply Below.drew | with_reducible apply Below.drewn | (simp; done) | (simp; omega)))) (hbw2.mono (by first | omega | (simp; done) | (simp; omega))); have hzw2 := hb.size; have hlw2 := hbw2.size; (try simp only [World.size_alloc, World.size_setCell, World.size_drew] at hlw2))
    have p2 : w1.heap.size < w2.heap.size := by omega
    (go_wp2_with fail; refine (sCommonOf z _ _ _).mono ?_; (rw [HK.out]); rintro e w3 ⟨rfl, hbw3⟩; have hCw3 := Below_at hbw3; have hFw3 := Below_fr hbw3; have hb := Below.trans (show Below w.heap.size w _ from (by repeat' (first | with_reducible assumption | with_reducible exact Below.refl _ _ | with_reducible refine Below.setCell ?_ ?_ _ | with_reducible refine Below.alloc ?_ ?_ _ | with_reducible apply Below.drew | with_reducible apply Below.drewn | (simp; done) | (simp; omega)))) (hbw3.mono (by first | omega | (simp; done) | (simp; omega))); have hzw3 := hb.size; have hlw3 := hbw3.size; (try simp only [World.size_alloc, World.size_setCell, World.size_drew] at hlw3))
    (go_wp2_with fail; refine (alive_any _).mono ?_; rintro e wx ⟨rfl, rfl⟩)
    go_wp2
    go_ret
    exact ⟨rfl, (by repeat' (first | with_reducible assumption | with_reducible exact Below.refl _ _ | with_reducible refine Below.setCell ?_ ?_ _ | with_reducible refine Below.alloc ?_ ?_ _ | with_reducible apply Below.drew | with_reducible apply Below.drewn | (simp; done) | (simp; omega)))⟩

theorem own : ownKnob Try.prog.godebug = none := by kernel_rfl
theorem laid : laidOutB Try.prog = true := by kernel_rfl
theorem readable : ∀ t ∈ Try.f6.params.toList, Try.prog.readableRec t = true ∧ t < Try.prog.types.size := by
  have h : (Try.f6.params.toList.all fun t => Try.prog.readableRec t && decide (t < Try.prog.types.size)) = true := by kernel_rfl
  intro t ht
  have := List.all_eq_true.1 h t ht
  simpa using this

set_option maxRecDepth 100000 in
theorem lifted (os : Os) (started : os.Started) (H : Type) (enc : TypeId × Value → H) :
    ReturnsInHanded {} Try.checked os 6 .any (Rows.fnCommonOfSpec.pre6 enc Try.prog Try.f6 Rows.fnCommonOfRow.domain false) (Rows.fnCommonOfSpec.post enc Try.prog Try.f6 false true false false) := by
  refine returnsInHanded_of_change (C := Try.checked) own started (by kernel_rfl) Try.func6
    (ChangeSpec.witness6 (enc := enc) (C := Try.checked) false ⟨#[], #[.slice none 0 0], []⟩ 8 (by kernel_rfl) (by kernel_rfl) (by kernel_rfl) (by kernel_rfl)) ?_
  intro W base args ds gs before hval0 hW hcnd _
  have hval : ∀ (j : Nat) t v, Try.f6.params[j]? = some t → args[j]? = some v → Value.okWide Try.prog W .any base t v := hval0
  have hW' := hW
  obtain ⟨p, q, hA0, hV, rfl, hfz, hnd⟩ := hW
  have hA : DataW.TrodAll enc Try.prog W 0 (fun _ => true) true Try.f6.params.toList args.toList ds p := hA0
  rw [Try.params6] at hA hval
  obtain ⟨v0, vs0, d0, ds0, p0, q0, hargs, rfl, rfl, h0, r0⟩ := trodAll_cons hA
  obtain ⟨rfl, rfl, rfl⟩ := trodAll_nil r0
  obtain rfl : args = #[v0] := by cases args; simp_all
  obtain ⟨rfl, rfl⟩ := trodVars_none hV
  have b0 := Law.bytes_arg Try.underlying22 Try.underlying5 (by kernel_rfl) (hval 0 22 v0 rfl rfl) h0 (fun x hx => hW'.lt x (by simp [hx]))
  clear hA0 hval0
  refine (walk W v0 W.heap.size b0 rfl).mono fun e W' ⟨he, hg⟩ => ?_
  subst he
  exact ⟨_, rfl, Law.law_post laid readable (B := 4) rfl Try.underlying4 rfl hW' rfl hg⟩

theorem over : Rows.fnCommonOfRow.holds Try.pinned (OpenSpec.ofChange Rows.fnCommonOfSpec) :=
  OpenClaim.holds_of_wide 6 Try.f6 rfl rfl rfl rfl rfl rfl rfl ⟨rfl, rfl, rfl, rfl, rfl⟩ rfl rfl rfl rfl rfl (by kernel_rfl) Try.func6 (by kernel_rfl)
    (of_decide_eq_true (by kernel_rfl)) (by unfold Func.isWrapper; first | (rw [if_pos (by decide +kernel)]; kernel_rfl) | (rw [if_neg (by decide +kernel)]; exact ⟨rfl, rfl⟩))
    (fun os started H enc _ => lifted os started H enc)

theorem proved : Rows.FnCommonOfSaid :=
  over
end Go.Proofs.Ytlmmianaplahaaa.fnCommonOf
