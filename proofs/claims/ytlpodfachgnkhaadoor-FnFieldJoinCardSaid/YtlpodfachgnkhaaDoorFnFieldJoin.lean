/-
  FnFieldJoin holds: whatever the input, the law answers true and leaves its arguments as they were. Conditions: none.
-/
import Derived.Test.YtlpodfachgnkhaaDoorRows
import Derived.Test.YtlpodfachgnkhaaDoorLaw
import Derived.Test.YtlpodfachgnkhaaDoorLaid
import Derived.Test.YtlpodfachgnkhaaDoorCards
import Derived.Test.YtlpodfachgnkhaaDoorTie
import Derived.SevenTiedAt
import Derived.WalkKit
import Derived.ProofKit
import Derived.OpenShut
import Derived.Lib.Hide
import Derived.Outline
import Derived.LoopN
import Derived.IntWalk
import Derived.Deep.RegionHeld3
import Derived.Deep.RegionWith
import Derived.Test.YtlpodfachgnkhaaDoorDrawField
import Derived.Test.YtlpodfachgnkhaaDoorIFields
set_option linter.unusedVariables false
set_option linter.unusedSimpArgs false
namespace Go.Proofs.YtlpodfachgnkhaaDoor.fnFieldJoin
open Go.ChangeShapes Go.WideShapes Go.ChangeAt Go.RowKit Cal
set_option maxRecDepth 100000 in
set_option maxHeartbeats 8000000 in
theorem walk (w : World) (HL : Tz w) (code : Value) (B : Nat) (h_code : Law.BytesAt w B code) (hB : B = w.heap.size) (more : Value) (B2 : Nat) (h_more : Law.BytesAt w B2 more) (hB2 : B2 = w.heap.size) :
    Calls Tryd.prog 5 #[code, more] w fun e w' => e = .returned (.bool true) ∧ Below w.heap.size w w' := by
  subst hB hB2
  have hq := h_code
  obtain ⟨a, ln, cap, rfl, hl1, hl2, _⟩ := hq
  have hq := h_more
  obtain ⟨a', ln', cap', rfl, hl1', hl2', _⟩ := hq
  unfold maxLen at hl2 hl2'
  by_cases hc : 1048576 < ln
  · go_enter Tryd.func5, Tryd.ntmps5
    go_wp2
    go_ret
    exact ⟨rfl, Below.refl _ _⟩
  have hc' : decide (1048576 < ln) = false := by simpa using hc
  by_cases hd : 1048576 < ln'
  · go_enter Tryd.func5, Tryd.ntmps5
    go_wp2
    go_ret
    exact ⟨rfl, Below.refl _ _⟩
  have hd' : decide (1048576 < ln') = false := by simpa using hd
  have LE := lists_eq
  have K0 := k0; have K44 := k44
  have SZ := strOfNums_size
  go_enter Tryd.func5, Tryd.ntmps5
  go_wp2_with fail
  refine (drawFieldText _ _ _ h_code rfl).mono ?_
  rintro e w1 ⟨z, lo, hh, rfl, ⟨z0, z9⟩, hlo, hhh, hb⟩
  have hz := hb.size
  have h63 : z < 2 ^ 63 := by omega
  have hm1 := fun (w2 : World) (k : Below w.heap.size w w2) => bytes_below h_more k
  have HM := Lib.hid hm1
  clear hm1 h_more
  have sz1 : (strOfNums (fdTxt z lo hh)).size ≤ 400 := by rw [strOfNums_size]; exact fdTxt_len z lo hh
  cases c : fvB z lo hh
  · have E := Lib.hid (show fdTxt z lo hh = [] by unfold fdTxt; rw [c]; rfl)
    clear c
    (go_wp2_with fail; refine (iFieldText _ _ _ _ h63 (HL.below (Nat.le_refl _) (by repeat' (first | with_reducible assumption | with_reducible exact Below.refl _ _ | with_reducible refine Below.setCell ?_ ?_ _ | with_reducible refine Below.alloc ?_ ?_ _ | with_reducible apply Below.drew | with_reducible apply Below.drewn | (simp; done) | (simp; omega))))).mono ?_; (rw [E.out]); rintro e w2 ⟨rfl, hbw2⟩; have hCw2 := Below_at hbw2; have hFw2 := Below_fr hbw2; have hb := Below.trans (show Below w.heap.size w _ from (by repeat' (first | with_reducible assumption | with_reducible exact Below.refl _ _ | with_reducible refine Below.setCell ?_ ?_ _ | with_reducible refine Below.alloc ?_ ?_ _ | with_reducible apply Below.drew | with_reducible apply Below.drewn | (simp; done) | (simp; omega)))) (hbw2.mono (by first | omega | (simp; done) | (simp; omega))); have hzw2 := hb.size; have hlw2 := hbw2.size; (try simp only [World.size_alloc, World.size_setCell, World.size_drew] at hlw2))
    (go_wp2_with fail; refine (sFieldText _ _ _ _ h63).mono ?_; (rw [E.out]); rintro e w3 ⟨rfl, hbw3⟩; have hCw3 := Below_at hbw3; have hFw3 := Below_fr hbw3; have hb := Below.trans (show Below w.heap.size w _ from (by repeat' (first | with_reducible assumption | with_reducible exact Below.refl _ _ | with_reducible refine Below.setCell ?_ ?_ _ | with_reducible refine Below.alloc ?_ ?_ _ | with_reducible apply Below.drew | with_reducible apply Below.drewn | (simp; done) | (simp; omega)))) (hbw3.mono (by first | omega | (simp; done) | (simp; omega))); have hzw3 := hb.size; have hlw3 := hbw3.size; (try simp only [World.size_alloc, World.size_setCell, World.size_drew] at hlw3))
    go_wp2_with fail
    refine (drawFieldText _ _ _ (HM.out _ hb) rfl).mono ?_
    rintro e w4 ⟨z2, lo2, hh2, rfl, ⟨y0, y9⟩, _, _, hbw4⟩
    have hb := hb.trans (hbw4.mono (by omega))
    have hz4 := hb.size
    have g63 : z2 < 2 ^ 63 := by omega
    (go_wp2_with fail; refine (iFieldText _ _ _ _ g63 (HL.below (Nat.le_refl _) (by repeat' (first | with_reducible assumption | with_reducible exact Below.refl _ _ | with_reducible refine Below.setCell ?_ ?_ _ | with_reducible refine Below.alloc ?_ ?_ _ | with_reducible apply Below.drew | with_reducible apply Below.drewn | (simp; done) | (simp; omega))))).mono ?_; rintro e w5 ⟨rfl, hbw5⟩; have hCw5 := Below_at hbw5; have hFw5 := Below_fr hbw5; have hb := Below.trans (show Below w.heap.size w _ from (by repeat' (first | with_reducible assumption | with_reducible exact Below.refl _ _ | with_reducible refine Below.setCell ?_ ?_ _ | with_reducible refine Below.alloc ?_ ?_ _ | with_reducible apply Below.drew | with_reducible apply Below.drewn | (simp; done) | (simp; omega)))) (hbw5.mono (by first | omega | (simp; done) | (simp; omega))); have hzw5 := hb.size; have hlw5 := hbw5.size; (try simp only [World.size_alloc, World.size_setCell, World.size_drew] at hlw5))
    (go_wp2_with fail; refine (alive_any _).mono ?_; rintro e wx ⟨rfl, rfl⟩)
    go_wp2
    all_goals
      go_ret
      exact ⟨rfl, (by repeat' (first | with_reducible assumption | with_reducible exact Below.refl _ _ | with_reducible refine Below.setCell ?_ ?_ _ | with_reducible refine Below.alloc ?_ ?_ _ | with_reducible apply Below.drew | with_reducible apply Below.drewn | (simp; done) | (simp; omega)))⟩
  · obtain ⟨e1, e2, e3⟩ := fdTxt_read c h63
    obtain ⟨fd, zp, zin⟩ := fv_yes c h63
    have zlt := inF_lt zin (by have := fd_yes fd; omega)
    have E3 := Lib.hid (show decide (strOfNums (fdTxt z lo hh) = strOfNums []) = false by simpa using e3)
    have e3' := E3.out
    generalize hT : strOfNums (fdTxt z lo hh) = s at *
    have HT := Lib.hid hT
    have R1 := Lib.hid e1
    clear hT e1 e3 E3 c fd zin
    (go_wp2_with fail; refine (iFieldText _ _ _ _ h63 (HL.below (Nat.le_refl _) (by repeat' (first | with_reducible assumption | with_reducible exact Below.refl _ _ | with_reducible refine Below.setCell ?_ ?_ _ | with_reducible refine Below.alloc ?_ ?_ _ | with_reducible apply Below.drew | with_reducible apply Below.drewn | (simp; done) | (simp; omega))))).mono ?_; (rw [HT.out]); rintro e w2 ⟨rfl, hbw2⟩; have hCw2 := Below_at hbw2; have hFw2 := Below_fr hbw2; have hb := Below.trans (show Below w.heap.size w _ from (by repeat' (first | with_reducible assumption | with_reducible exact Below.refl _ _ | with_reducible refine Below.setCell ?_ ?_ _ | with_reducible refine Below.alloc ?_ ?_ _ | with_reducible apply Below.drew | with_reducible apply Below.drewn | (simp; done) | (simp; omega)))) (hbw2.mono (by first | omega | (simp; done) | (simp; omega))); have hzw2 := hb.size; have hlw2 := hbw2.size; (try simp only [World.size_alloc, World.size_setCell, World.size_drew] at hlw2))
    (go_wp2_with fail; refine (sFieldText _ _ _ _ h63).mono ?_; (rw [HT.out]); rintro e w3 ⟨rfl, hbw3⟩; have hCw3 := Below_at hbw3; have hFw3 := Below_fr hbw3; have hb := Below.trans (show Below w.heap.size w _ from (by repeat' (first | with_reducible assumption | with_reducible exact Below.refl _ _ | with_reducible refine Below.setCell ?_ ?_ _ | with_reducible refine Below.alloc ?_ ?_ _ | with_reducible apply Below.drew | with_reducible apply Below.drewn | (simp; done) | (simp; omega)))) (hbw3.mono (by first | omega | (simp; done) | (simp; omega))); have hzw3 := hb.size; have hlw3 := hbw3.size; (try simp only [World.size_alloc, World.size_setCell, World.size_drew] at hlw3))
    go_wp2_with fail
    refine (drawFieldText _ _ _ (HM.out _ hb) rfl).mono ?_
    rintro e w4 ⟨z2, lo2, hh2, rfl, ⟨y0, y9⟩, _, _, hbw4⟩
    have hb := hb.trans (hbw4.mono (by omega))
    have hz4 := hb.size
    have g63 : z2 < 2 ^ 63 := by omega
    cases d : fvB z2 lo hh
    · have E := Lib.hid (show fdTxt z2 lo hh = [] by unfold fdTxt; rw [d]; rfl)
      clear d
      (go_wp2_with fail; refine (iFieldText _ _ _ _ g63 (HL.below (Nat.le_refl _) (by repeat' (first | with_reducible assumption | with_reducible exact Below.refl _ _ | with_reducible refine Below.setCell ?_ ?_ _ | with_reducible refine Below.alloc ?_ ?_ _ | with_reducible apply Below.drew | with_reducible apply Below.drewn | (simp; done) | (simp; omega))))).mono ?_; (rw [E.out]); rintro e w5 ⟨rfl, hbw5⟩; have hCw5 := Below_at hbw5; have hFw5 := Below_fr hbw5; have hb := Below.trans (show Below w.heap.size w _ from (by repeat' (first | with_reducible assumption | with_reducible exact Below.refl _ _ | with_reducible refine Below.setCell ?_ ?_ _ | with_reducible refine Below.alloc ?_ ?_ _ | with_reducible apply Below.drew | with_reducible apply Below.drewn | (simp; done) | (simp; omega)))) (hbw5.mono (by first | omega | (simp; done) | (simp; omega))); have hzw5 := hb.size; have hlw5 := hbw5.size; (try simp only [World.size_alloc, World.size_setCell, World.size_drew] at hlw5))
      (go_wp2_with fail; refine (alive_any _).mono ?_; rintro e wx ⟨rfl, rfl⟩)
      go_wp2
      all_goals
        go_ret
        exact ⟨rfl, (by repeat' (first | with_reducible assumption | with_reducible exact Below.refl _ _ | with_reducible refine Below.setCell ?_ ?_ _ | with_reducible refine Below.alloc ?_ ?_ _ | with_reducible apply Below.drew | with_reducible apply Below.drewn | (simp; done) | (simp; omega)))⟩
    · obtain ⟨f1, f2, f3⟩ := fdTxt_read d g63
      obtain ⟨fd2, zp2, zin2⟩ := fv_yes d g63
      have zlt2 := inF_lt zin2 (by have := fd_yes fd2; omega)
      have sz2 : (strOfNums (fdTxt z2 lo hh)).size ≤ 400 := by rw [strOfNums_size]; exact fdTxt_len z2 lo hh
      have E3 := Lib.hid (show decide (strOfNums (fdTxt z2 lo hh) = strOfNums []) = false by simpa using f3)
      have f3' := E3.out
      generalize hT2 : strOfNums (fdTxt z2 lo hh) = t at *
      have HT2 := Lib.hid hT2
      have jn : fdRd ((s ++ strOfNums [44]) ++ t) lo hh = some (z.toNat ||| z2.toNat) := by
        rw [ByteArray.append_assoc, fdRd_join R1.out, f1]; rfl
      have orr : bits .or .i64 z z2 = ((z.toNat ||| z2.toNat : Nat) : Int) := by
        have := i64_or z.toNat z2.toNat (by omega) (by omega)
        rwa [e2, f2] at this
      have J1 := Lib.hid (show (((fdRd ((s ++ strOfNums [44]) ++ t) lo hh).getD 0 : Nat) : Int) = ((z.toNat ||| z2.toNat : Nat) : Int) by rw [jn]; rfl)
      have J2 := Lib.hid (show (fdRd ((s ++ strOfNums [44]) ++ t) lo hh).isSome = true by rw [jn]; rfl)
      have SZJ := Lib.hid (show ((s ++ strOfNums [44]) ++ t).size ≤ 1000000000 by rw [ByteArray.size_append, ByteArray.size_append, strOfNums_size]; simp; omega)
      generalize z.toNat ||| z2.toNat = X at *
      generalize hU : (s ++ strOfNums [44]) ++ t = u at J1 J2 SZJ
      have hl1 : ¬ (9223372036854775807 < s.size + 1) := by omega
      have hl2 : ¬ (9223372036854775807 < s.size + 1 + t.size) := by omega
      clear hT2 f1 f3 E3 jn d fd2 zin2 e2 f2
      (go_wp2_with fail; refine (iFieldText _ _ _ _ g63 (HL.below (Nat.le_refl _) (by repeat' (first | with_reducible assumption | with_reducible exact Below.refl _ _ | with_reducible refine Below.setCell ?_ ?_ _ | with_reducible refine Below.alloc ?_ ?_ _ | with_reducible apply Below.drew | with_reducible apply Below.drewn | (simp; done) | (simp; omega))))).mono ?_; (rw [HT2.out]); rintro e w5 ⟨rfl, hbw5⟩; have hCw5 := Below_at hbw5; have hFw5 := Below_fr hbw5; have hb := Below.trans (show Below w.heap.size w _ from (by repeat' (first | with_reducible assumption | with_reducible exact Below.refl _ _ | with_reducible refine Below.setCell ?_ ?_ _ | with_reducible refine Below.alloc ?_ ?_ _ | with_reducible apply Below.drew | with_reducible apply Below.drewn | (simp; done) | (simp; omega)))) (hbw5.mono (by first | omega | (simp; done) | (simp; omega))); have hzw5 := hb.size; have hlw5 := hbw5.size; (try simp only [World.size_alloc, World.size_setCell, World.size_drew] at hlw5))
      (go_wp2_with fail; refine (iReadField u _ _ _ SZJ.out).mono ?_; (rw [J1.out, J2.out]); rintro e w6 ⟨rfl, hbw6⟩; have hCw6 := Below_at hbw6; have hFw6 := Below_fr hbw6; have hb := Below.trans (show Below w.heap.size w _ from (by repeat' (first | with_reducible assumption | with_reducible exact Below.refl _ _ | with_reducible refine Below.setCell ?_ ?_ _ | with_reducible refine Below.alloc ?_ ?_ _ | with_reducible apply Below.drew | with_reducible apply Below.drewn | (simp; done) | (simp; omega)))) (hbw6.mono (by first | omega | (simp; done) | (simp; omega))); have hzw6 := hb.size; have hlw6 := hbw6.size; (try simp only [World.size_alloc, World.size_setCell, World.size_drew] at hlw6))
      go_wp2
      all_goals
        go_ret
        exact ⟨rfl, (by repeat' (first | with_reducible assumption | with_reducible exact Below.refl _ _ | with_reducible refine Below.setCell ?_ ?_ _ | with_reducible refine Below.alloc ?_ ?_ _ | with_reducible apply Below.drew | with_reducible apply Below.drewn | (simp; done) | (simp; omega)))⟩

theorem own : ownKnob Tryd.prog.godebug = none := by kernel_rfl
theorem laid : laidOutB Tryd.prog = true := by kernel_rfl
theorem readable : ∀ t ∈ Tryd.f5.params.toList, Tryd.prog.readableRec t = true ∧ t < Tryd.prog.types.size := by
  have h : (Tryd.f5.params.toList.all fun t => Tryd.prog.readableRec t && decide (t < Tryd.prog.types.size)) = true := by kernel_rfl
  intro t ht
  have := List.all_eq_true.1 h t ht
  simpa using this

set_option maxRecDepth 100000 in
theorem lifted (os : Os) (started : os.Started) (H : Type) (enc : TypeId × Value → H) :
    ReturnsInHanded {} Tryd.checked os 5 .any (fun w args => (Rows.fnFieldJoinSpec.pre enc Tryd.prog Tryd.f5 Rows.fnFieldJoinRow.domain false w args ∧ laidMetH Tryd.prog Rows.fnFieldJoinRow.laid w) ∧ sizedMet enc Tryd.prog Tryd.f5 (OpenSpec.ofChange Rows.fnFieldJoinSpec) false w args)
      (Rows.fnFieldJoinSpec.post enc Tryd.prog Tryd.f5 false true false false) := by
  refine returnsInHanded_of_change_and (C := Tryd.checked) (X := fun w _ => laidMetH Tryd.prog Rows.fnFieldJoinRow.laid w) (fun _ _ _ hh h => h.of_heap hh) own started (by kernel_rfl) Tryd.func5
    (ChangeSpec.witness_shaped (enc := enc) (C := Tryd.checked) (os := os) (X := fun w _ => laidMetH Tryd.prog Rows.fnFieldJoinRow.laid w) false (World.laidAll Tryd.prog os Rows.fnFieldJoinRow.laid) #[.slice none 0 0, .slice none 0 0] 8 (World.laidAll_os _ _ _)
      (World.shaped_of_ZipB (by kernel_rfl) (by kernel_rfl)) (by kernel_rfl) (by kernel_rfl) (by kernel_rfl)
      (by rw [MakeChecks.laidMetH_plain _ _ _ (by kernel_rfl)]; exact laidMet_laidAll _ (by kernel_rfl) (by kernel_rfl))) ?_
  intro W base args ds gs before hval0 hW hcnd _ hL _
  have hL0 : laidMet Tryd.prog Rows.fnFieldJoinRow.laid W := by rw [← MakeChecks.laidMetH_plain _ _ _ (by kernel_rfl)]; exact hL
  have hval : ∀ (j : Nat) t v, Tryd.f5.params[j]? = some t → args[j]? = some v → Value.okWide Tryd.prog W .any base t v := hval0
  have hW' := hW
  obtain ⟨p, q, hA0, hV, rfl, hfz, hnd⟩ := hW
  have hA : DataW.TrodAll enc Tryd.prog W 0 (fun _ => true) true Tryd.f5.params.toList args.toList ds p := hA0
  rw [Tryd.params5] at hA hval
  obtain ⟨v0, vs0, d0, ds0, p0, q0, hargs, rfl, rfl, h0, r0⟩ := trodAll_cons hA
  obtain ⟨v1, vs1, d1, ds1, p1, q1, rfl, rfl, rfl, h1, r1⟩ := trodAll_cons r0
  obtain ⟨rfl, rfl, rfl⟩ := trodAll_nil r1
  obtain rfl : args = #[v0, v1] := by cases args; simp_all
  obtain ⟨rfl, rfl⟩ := trodVars_none hV
  have b0 := Law.bytes_arg Tryd.underlying22 Tryd.underlying5 (by kernel_rfl) (hval 0 22 v0 rfl rfl) h0 (fun x hx => hW'.lt x (by simp [hx]))
  have b1 := Law.bytes_arg Tryd.underlying22 Tryd.underlying5 (by kernel_rfl) (hval 1 22 v1 rfl rfl) h1 (fun x hx => hW'.lt x (by simp [hx]))
  clear hA0 hval0
  refine (walk W (Law.tz_of_laid 1 hL0 (by kernel_rfl)) v0 W.heap.size b0 rfl v1 W.heap.size b1 rfl).mono fun e W' ⟨he, hg⟩ => ?_
  subst he
  exact ⟨_, rfl, Law.law_post laid readable (B := 4) rfl Tryd.underlying4 rfl hW' rfl hg⟩

theorem over : Rows.FnFieldJoinSaid :=
  OpenClaim.holds_of_wide 5 Tryd.f5 rfl rfl rfl rfl rfl rfl rfl ⟨rfl, rfl, rfl, rfl, rfl⟩ rfl rfl rfl rfl rfl (by kernel_rfl) Tryd.func5 (by kernel_rfl)
    (of_decide_eq_true (by kernel_rfl)) (by unfold Func.isWrapper; first | (rw [if_pos (by decide +kernel)]; kernel_rfl) | (rw [if_neg (by decide +kernel)]; exact ⟨rfl, rfl⟩))
    (fun os started H enc _ => lifted os started H enc)
theorem plain (f : FuncId) (fn : Func) (hf : Tryd.pinned.checked.prog.funcNamed Rows.fnFieldJoinRow.func = some f) (hfn : Tryd.pinned.checked.prog.funcs[f]? = some fn) :
    false = Tryd.pinned.checked.prog.looks [] ∧ ∀ (j : Nat) t, fn.params[j]? = some t → Tryd.pinned.checked.prog.wantsStandIn t = false := by
  obtain rfl : f = 5 := Option.some.inj ((show Tryd.prog.funcNamed Rows.fnFieldJoinRow.func = some 5 by kernel_rfl).symm.trans hf) |>.symm
  obtain rfl : fn = Tryd.f5 := (Option.some.inj (Tryd.func5.symm.trans hfn)).symm
  refine ⟨by kernel_rfl, fun j t ht => ?_⟩
  have hall : (Tryd.f5.params.toList.all fun u => !Tryd.prog.wantsStandIn u) = true := by kernel_rfl
  have hm : t ∈ Tryd.f5.params.toList := by simpa using Array.mem_of_getElem? ht
  exact (show Tryd.prog.wantsStandIn t = false by simpa using List.all_eq_true.1 hall t hm)

theorem proved : Rows.FnFieldJoinCardSaid :=
  Claim7.holds_tied_plain_at .later [] _ _ _ _ over (fun _ h => by cases h) (by kernel_rfl) (fun _ h => by cases h) fnFieldJoin_row_tie rfl ⟨rfl, rfl⟩ (by kernel_rfl) rfl plain (by kernel_rfl)
end Go.Proofs.YtlpodfachgnkhaaDoor.fnFieldJoin
