/-
  FnExactCommonOptions holds: whatever the input, the law answers true and leaves its arguments as they were. Conditions: none.
-/
import Derived.Test.YtlmmianaplahaaaRows
import Derived.Test.YtlmmianaplahaaaLaw
import Derived.WalkKit
import Derived.ProofKit
import Derived.OpenShut
import Derived.Lib.Hide
import Derived.Outline
import Derived.LoopN
import Derived.IntWalk
import Derived.Deep.RegionHeld3
import Derived.Deep.RegionWith
import Derived.Test.YtlmmianaplahaaaLawZone
import Derived.Test.YtlmmianaplahaaaLocals
import Derived.Test.YtlmmianaplahaaaILocals
import Derived.Test.YtlmmianaplahaaaInts
import Derived.Test.YtlmmianaplahaaaFlat
set_option linter.unusedVariables false
set_option linter.unusedSimpArgs false
namespace Go.Proofs.Ytlmmianaplahaaa.fnExactCommonOptions
open Go.ChangeShapes Go.WideShapes Go.ChangeAt Go.RowKit Cal
set_option maxHeartbeats 2000000 in
theorem walk (w : World) (aZ : Zn) (aLocal : Int) (h_aLocal : Law.I64 aLocal) :
    Calls Try.prog 7 #[.agg #[.int .i64 aZ.o, .int .i64 aZ.s, .int .i64 aZ.m, .int .i64 aZ.k, .int .i64 aZ.d, .int .i64 aZ.i, .int .i64 aZ.m', .int .i64 aZ.k', .int .i64 aZ.d', .int .i64 aZ.i'], .int .i64 aLocal] w fun e w' => e = .returned (.bool true) ∧ Below w.heap.size w w' := by
  generalize hxs : cOpts aZ aLocal = xs
  have HX := Lib.hid hxs; clear hxs
  have cs : ∀ w, Calls Try.prog 24 #[(.agg #[.int .i64 (aZ.o), .int .i64 (aZ.s), .int .i64 (aZ.m), .int .i64 (aZ.k), .int .i64 (aZ.d), .int .i64 (aZ.i), .int .i64 (aZ.m'), .int .i64 (aZ.k'), .int .i64 (aZ.d'), .int .i64 (aZ.i')]), .int .i64 aLocal] w (GaveInts xs w) := fun w => HX.out ▸ sCommonOptions aZ aLocal w
  have ci : ∀ w, Calls Try.prog 20 #[(.agg #[.int .i64 (aZ.o), .int .i64 (aZ.s), .int .i64 (aZ.m), .int .i64 (aZ.k), .int .i64 (aZ.d), .int .i64 (aZ.i), .int .i64 (aZ.m'), .int .i64 (aZ.k'), .int .i64 (aZ.d'), .int .i64 (aZ.i')]), .int .i64 aLocal] w (GaveInts xs w) := fun w => HX.out ▸ iCommonOptions aZ aLocal w
  have CS := Lib.hid cs; have CI := Lib.hid ci; clear cs ci
  go_enter Try.func7, Try.ntmps7
  (go_wp2_with fail; refine (toZone_any aZ _).mono ?_; rintro e w1 ⟨rfl, hbw1⟩; have hCw1 := Below_at hbw1; have hFw1 := Below_fr hbw1; have hb := Below.trans (show Below w.heap.size w _ from (by repeat' (first | with_reducible assumption | with_reducible exact Below.refl _ _ | with_reducible refine Below.setCell ?_ ?_ _ | with_reducible refine Below.alloc ?_ ?_ _ | with_reducible apply Below.drew | with_reducible apply Below.drewn | (simp; done) | (simp; omega)))) (hbw1.mono (by first | omega | (simp; done) | (simp; omega))); have hzw1 := hb.size; have hlw1 := hbw1.size; (try simp only [World.size_alloc, World.size_setCell, World.size_drew] at hlw1))
  have p1 : w.heap.size < w1.heap.size := by omega
  (go_wp2_with fail; refine (CS.out _).mono ?_; rintro e w2 ⟨v0, rfl, hv0, hbw2⟩; have hCw2 := Below_at hbw2; have hFw2 := Below_fr hbw2; have hb := Below.trans (show Below w.heap.size w _ from (by repeat' (first | with_reducible assumption | with_reducible exact Below.refl _ _ | with_reducible refine Below.setCell ?_ ?_ _ | with_reducible refine Below.alloc ?_ ?_ _ | with_reducible apply Below.drew | with_reducible apply Below.drewn | (simp; done) | (simp; omega)))) (hbw2.mono (by first | omega | (simp; done) | (simp; omega))); have hzw2 := hb.size; have hlw2 := hbw2.size; (try simp only [World.size_alloc, World.size_setCell, World.size_drew] at hlw2))
  have p2 : w.heap.size < w2.heap.size := by omega
  (go_wp2_with fail; refine (toZone_any aZ _).mono ?_; rintro e w3 ⟨rfl, hbw3⟩; have hCw3 := Below_at hbw3; have hFw3 := Below_fr hbw3; have hb := Below.trans (show Below w.heap.size w _ from (by repeat' (first | with_reducible assumption | with_reducible exact Below.refl _ _ | with_reducible refine Below.setCell ?_ ?_ _ | with_reducible refine Below.alloc ?_ ?_ _ | with_reducible apply Below.drew | with_reducible apply Below.drewn | (simp; done) | (simp; omega)))) (hbw3.mono (by first | omega | (simp; done) | (simp; omega))); have hzw3 := hb.size; have hlw3 := hbw3.size; (try simp only [World.size_alloc, World.size_setCell, World.size_drew] at hlw3))
  have p3 : w.heap.size < w3.heap.size := by omega
  (go_wp2_with fail; refine (CI.out _).mono ?_; rintro e w4 ⟨v1, rfl, hv1, hbw4⟩; have hCw4 := Below_at hbw4; have hFw4 := Below_fr hbw4; have hb := Below.trans (show Below w.heap.size w _ from (by repeat' (first | with_reducible assumption | with_reducible exact Below.refl _ _ | with_reducible refine Below.setCell ?_ ?_ _ | with_reducible refine Below.alloc ?_ ?_ _ | with_reducible apply Below.drew | with_reducible apply Below.drewn | (simp; done) | (simp; omega)))) (hbw4.mono (by first | omega | (simp; done) | (simp; omega))); have hzw4 := hb.size; have hlw4 := hbw4.size; (try simp only [World.size_alloc, World.size_setCell, World.size_drew] at hlw4))
  have p4 : w.heap.size < w4.heap.size := by omega
  have k4 : Below w2.heap.size w2 w4 := hbw3.trans (hbw4.mono hlw3)
  (go_wp2_with fail; refine (eqIntS_same xs _ _ _ _ _ hv1 (hv0.below k4)).mono ?_; rintro e w5 ⟨rfl, hbw5⟩; have hCw5 := Below_at hbw5; have hFw5 := Below_fr hbw5; have hb := Below.trans (show Below w.heap.size w _ from (by repeat' (first | with_reducible assumption | with_reducible exact Below.refl _ _ | with_reducible refine Below.setCell ?_ ?_ _ | with_reducible refine Below.alloc ?_ ?_ _ | with_reducible apply Below.drew | with_reducible apply Below.drewn | (simp; done) | (simp; omega)))) (hbw5.mono (by first | omega | (simp; done) | (simp; omega))); have hzw5 := hb.size; have hlw5 := hbw5.size; (try simp only [World.size_alloc, World.size_setCell, World.size_drew] at hlw5))
  have p5 : w.heap.size < w5.heap.size := by omega
  have k5 := k4.trans (hbw5.mono k4.size)
  have hv1 := hv1.below hbw5
  generalize hn : xs.length = n at *
  go_wp2_with fail
  refine (markIntS_any xs 1 _ _ _ hv1 (by omega)).mono ?_
  rw [hn]
  rintro e w6 ⟨rfl, hb6, hs6, hm⟩
  have hC6 := Below_at hb6; have hF6 := Below_fr hb6
  have p6 : w.heap.size < w6.heap.size := by omega
  have k6 := k5.trans (hb6.mono hlw3)
  have hb := hb.trans (hb6.mono (by omega))
  have hz6 := hb.size
  go_wp2_with fail
  refine (heldIntS_any n 1 _ _ _ hm (by omega)).mono ?_
  rintro e w7 ⟨rfl, rfl⟩
  have hn0 : (0 : Int) ≤ (n : Int) := by omega
  have hn1 : decide (1 + (n : Int) < 0) = false := by simp; omega
  (go_wp2_with fail; refine (toZone_any aZ _).mono ?_; rintro e w8 ⟨rfl, hbw8⟩; have hCw8 := Below_at hbw8; have hFw8 := Below_fr hbw8; have hb := Below.trans (show Below w.heap.size w _ from (by repeat' (first | with_reducible assumption | with_reducible exact Below.refl _ _ | with_reducible refine Below.setCell ?_ ?_ _ | with_reducible refine Below.alloc ?_ ?_ _ | with_reducible apply Below.drew | with_reducible apply Below.drewn | (simp; done) | (simp; omega)))) (hbw8.mono (by first | omega | (simp; done) | (simp; omega))); have hzw8 := hb.size; have hlw8 := hbw8.size; (try simp only [World.size_alloc, World.size_setCell, World.size_drew] at hlw8))
  have p8 : w.heap.size < w8.heap.size := by omega
  (go_wp2_with fail; refine (CI.out _).mono ?_; rintro e w9 ⟨v2, rfl, hv2, hbw9⟩; have hCw9 := Below_at hbw9; have hFw9 := Below_fr hbw9; have hb := Below.trans (show Below w.heap.size w _ from (by repeat' (first | with_reducible assumption | with_reducible exact Below.refl _ _ | with_reducible refine Below.setCell ?_ ?_ _ | with_reducible refine Below.alloc ?_ ?_ _ | with_reducible apply Below.drew | with_reducible apply Below.drewn | (simp; done) | (simp; omega)))) (hbw9.mono (by first | omega | (simp; done) | (simp; omega))); have hzw9 := hb.size; have hlw9 := hbw9.size; (try simp only [World.size_alloc, World.size_setCell, World.size_drew] at hlw9))
  have k9 := (k6.trans (hbw8.mono k6.size)).trans (hbw9.mono (Nat.le_trans k6.size hbw8.size))
  (go_wp2_with fail; refine (eqIntS_same xs _ _ _ _ _ hv2 (hv0.below k9)).mono ?_; rintro e w10 ⟨rfl, hbw10⟩; have hCw10 := Below_at hbw10; have hFw10 := Below_fr hbw10; have hb := Below.trans (show Below w.heap.size w _ from (by repeat' (first | with_reducible assumption | with_reducible exact Below.refl _ _ | with_reducible refine Below.setCell ?_ ?_ _ | with_reducible refine Below.alloc ?_ ?_ _ | with_reducible apply Below.drew | with_reducible apply Below.drewn | (simp; done) | (simp; omega)))) (hbw10.mono (by first | omega | (simp; done) | (simp; omega))); have hzw10 := hb.size; have hlw10 := hbw10.size; (try simp only [World.size_alloc, World.size_setCell, World.size_drew] at hlw10))
  have hm := hm.below ((hbw8.trans (hbw9.mono hbw8.size)).trans (hbw10.mono (Nat.le_trans hbw8.size hbw9.size)))
  go_wp2_with fail
  refine (heldIntS_any n 1 _ _ _ hm (by omega)).mono ?_
  rintro e w11 ⟨rfl, rfl⟩
  go_wp2
  all_goals
    go_ret
    exact ⟨rfl, (by repeat' (first | with_reducible assumption | with_reducible exact Below.refl _ _ | with_reducible refine Below.setCell ?_ ?_ _ | with_reducible refine Below.alloc ?_ ?_ _ | with_reducible apply Below.drew | with_reducible apply Below.drewn | (simp; done) | (simp; omega)))⟩

theorem own : ownKnob Try.prog.godebug = none := by kernel_rfl
theorem laid : laidOutB Try.prog = true := by kernel_rfl
theorem readable : ∀ t ∈ Try.f7.params.toList, Try.prog.readableRec t = true ∧ t < Try.prog.types.size := by
  have h : (Try.f7.params.toList.all fun t => Try.prog.readableRec t && decide (t < Try.prog.types.size)) = true := by kernel_rfl
  intro t ht
  have := List.all_eq_true.1 h t ht
  simpa using this

set_option maxRecDepth 100000 in
theorem lifted (os : Os) (started : os.Started) (H : Type) (enc : TypeId × Value → H) :
    ReturnsInHanded {} Try.checked os 7 .any (Rows.fnExactCommonOptionsSpec.pre6 enc Try.prog Try.f7 Rows.fnExactCommonOptionsRow.domain false) (Rows.fnExactCommonOptionsSpec.post enc Try.prog Try.f7 false true false false) := by
  refine returnsInHanded_of_change (C := Try.checked) own started (by kernel_rfl) Try.func7
    (ChangeSpec.witness6 (enc := enc) (C := Try.checked) false ⟨#[], #[.agg #[.int .i64 0, .int .i64 0, .int .i64 0, .int .i64 0, .int .i64 0, .int .i64 0, .int .i64 0, .int .i64 0, .int .i64 0, .int .i64 0], .int .i64 0], []⟩ 8 (by kernel_rfl) (by kernel_rfl) (by kernel_rfl) (by kernel_rfl)) ?_
  intro W base args ds gs before hval0 hW hcnd _
  have hval : ∀ (j : Nat) t v, Try.f7.params[j]? = some t → args[j]? = some v → Value.okWide Try.prog W .any base t v := hval0
  have hW' := hW
  obtain ⟨p, q, hA0, hV, rfl, hfz, hnd⟩ := hW
  have hA : DataW.TrodAll enc Try.prog W 0 (fun _ => true) true Try.f7.params.toList args.toList ds p := hA0
  rw [Try.params7] at hA hval
  obtain ⟨v0, vs0, d0, ds0, p0, q0, hargs, rfl, rfl, h0, r0⟩ := trodAll_cons hA
  obtain ⟨v1, vs1, d1, ds1, p1, q1, rfl, rfl, rfl, h1, r1⟩ := trodAll_cons r0
  obtain ⟨rfl, rfl, rfl⟩ := trodAll_nil r1
  obtain rfl : args = #[v0, v1] := by cases args; simp_all
  obtain ⟨rfl, rfl⟩ := trodVars_none hV
  obtain ⟨zs0, zl0, zb0, rfl⟩ := Law.flat_arg Try.underlying40 4 10 (by kernel_rfl) (by kernel_rfl) (hval 0 40 v0 rfl rfl) h0
  obtain ⟨a0, rfl⟩ := zn_of zl0
  obtain ⟨a1, rfl, rfl, rfl, w1⟩ := open_int Try.underlying3 (hval 1 3 v1 rfl rfl) h1
  clear hA0 hval0
  refine (walk W a0 a1 (Law.i64_arg w1)).mono fun e W' ⟨he, hg⟩ => ?_
  subst he
  exact ⟨_, rfl, Law.law_post laid readable (B := 4) rfl Try.underlying4 rfl hW' rfl hg⟩

theorem over : Rows.fnExactCommonOptionsRow.holds Try.pinned (OpenSpec.ofChange Rows.fnExactCommonOptionsSpec) :=
  OpenClaim.holds_of_wide 7 Try.f7 rfl rfl rfl rfl rfl rfl rfl ⟨rfl, rfl, rfl, rfl, rfl⟩ rfl rfl rfl rfl rfl (by kernel_rfl) Try.func7 (by kernel_rfl)
    (of_decide_eq_true (by kernel_rfl)) (by unfold Func.isWrapper; first | (rw [if_pos (by decide +kernel)]; kernel_rfl) | (rw [if_neg (by decide +kernel)]; exact ⟨rfl, rfl⟩))
    (fun os started H enc _ => lifted os started H enc)

theorem proved : Rows.FnExactCommonOptionsSaid :=
  over
end Go.Proofs.Ytlmmianaplahaaa.fnExactCommonOptions
