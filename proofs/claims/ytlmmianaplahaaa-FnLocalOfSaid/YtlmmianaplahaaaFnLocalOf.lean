/-
  FnLocalOf holds: whatever the input, the law answers true and leaves its arguments as they were. Conditions: none.
-/
import Derived.Test.YtlmmianaplahaaaRows
import Derived.Test.YtlmmianaplahaaaLaw
import Derived.WalkKit
import Derived.ProofKit
import Derived.OpenShut
import Derived.Lib.Hide
import Derived.Outline
import Derived.LoopN
import Derived.IntWalk
import Derived.Deep.RegionHeld3
import Derived.Deep.RegionWith
import Derived.Test.YtlmmianaplahaaaLawZone
import Derived.Test.YtlmmianaplahaaaDrawLocal
import Derived.Test.YtlmmianaplahaaaILocals
import Derived.Test.YtlmmianaplahaaaLocalLaw
import Derived.Test.YtlmmianaplahaaaInts
import Derived.Test.YtlmmianaplahaaaZoneLaw
set_option linter.unusedVariables false
set_option linter.unusedSimpArgs false
namespace Go.Proofs.Ytlmmianaplahaaa.fnLocalOf
open Go.ChangeShapes Go.WideShapes Go.ChangeAt Go.RowKit Cal
set_option maxHeartbeats 8000000 in
theorem walk (w : World) (code : Value) (B : Nat) (h_code : Law.BytesAt w B code) (hB : B = w.heap.size) :
    Calls Try.prog 3 #[code] w fun e w' => e = .returned (.bool true) ∧ Below w.heap.size w w' := by
  have hq := h_code
  obtain ⟨a, ln, cap, rfl, hl1, hl2, _⟩ := hq
  unfold maxLen at hl2
  subst hB
  by_cases hc : 1048576 < ln
  · go_enter Try.func3, Try.ntmps3
    go_wp2
    go_ret
    exact ⟨rfl, Below.refl _ _⟩
  have hc' : decide (1048576 < ln) = false := by simpa using hc
  go_enter Try.func3, Try.ntmps3
  go_wp2_with fail
  refine (drawLocalOf _ _ _ h_code rfl).mono ?_
  rintro e w1 ⟨z, n, rfl, hzb, hn, hb⟩
  have hz := hb.size
  clear hzb
  obtain ⟨n1, n2⟩ := hn
  by_cases vg : zvB z = true ∧ zGood n = true
  · obtain ⟨v, g⟩ := vg
    obtain ⟨o1, o9, s1, s9, _⟩ := zv_yes v
    obtain ⟨g1, g9⟩ := zGood_yes g
    have hl := locOf_yes v g
    have ho := offAt_yes v g
    have two := zOff_two z n
    have opt := loc_opt v g
    have no : lGood (n + 60 * zOff z n) = false → cOpts z (n + 60 * zOff z n) = [] := fun h => cOpts_no (.inr h)
    generalize zOff z n = d at *
    have hd : -720 ≤ d ∧ d ≤ 960 := by omega
    generalize hm : n + 60 * d = m at *
    have HL := Lib.hid hl; have HO := Lib.hid ho
    clear hl ho two v g
    generalize hxs : cOpts z m = xs at *
    have HX := Lib.hid hxs; clear hxs
    have ci : ∀ w, Calls Try.prog 20 #[(.agg #[.int .i64 (z.o), .int .i64 (z.s), .int .i64 (z.m), .int .i64 (z.k), .int .i64 (z.d), .int .i64 (z.i), .int .i64 (z.m'), .int .i64 (z.k'), .int .i64 (z.d'), .int .i64 (z.i')]), .int .i64 m] w (GaveInts xs w) := fun w => HX.out ▸ iCommonOptions z m w
    have CI := Lib.hid ci; clear ci
    have hw1 : IntKind.i64.wrap (60 * d) = 60 * d := IntWalk.i64_in _ (by omega)
    have hw2 : IntKind.i64.wrap (n + 60 * d) = m := by rw [hm]; exact IntWalk.i64_in _ (by omega)
    (go_wp2_with fail; refine (iLocalOf z _ _).mono ?_; (rw [HL.out]); rintro e w2 ⟨rfl, hbw2⟩; have hCw2 := Below_at hbw2; have hFw2 := Below_fr hbw2; have hb := Below.trans (show Below w.heap.size w _ from (by repeat' (first | with_reducible assumption | with_reducible exact Below.refl _ _ | with_reducible refine Below.setCell ?_ ?_ _ | with_reducible refine Below.alloc ?_ ?_ _ | with_reducible apply Below.drew | with_reducible apply Below.drewn | (simp; done) | (simp; omega)))) (hbw2.mono (by first | omega | (simp; done) | (simp; omega))); have hzw2 := hb.size; have hlw2 := hbw2.size; (try simp only [World.size_alloc, World.size_setCell, World.size_drew] at hlw2))
    have p2 : w1.heap.size < w2.heap.size := by omega
    (go_wp2_with fail; refine (sLocalOf z _ _).mono ?_; (rw [HL.out]); rintro e w3 ⟨rfl, hbw3⟩; have hCw3 := Below_at hbw3; have hFw3 := Below_fr hbw3; have hb := Below.trans (show Below w.heap.size w _ from (by repeat' (first | with_reducible assumption | with_reducible exact Below.refl _ _ | with_reducible refine Below.setCell ?_ ?_ _ | with_reducible refine Below.alloc ?_ ?_ _ | with_reducible apply Below.drew | with_reducible apply Below.drewn | (simp; done) | (simp; omega)))) (hbw3.mono (by first | omega | (simp; done) | (simp; omega))); have hzw3 := hb.size; have hlw3 := hbw3.size; (try simp only [World.size_alloc, World.size_setCell, World.size_drew] at hlw3))
    have p3 : w1.heap.size < w3.heap.size := by omega
    go_wp2_with fail
    refine (CI.out _).mono ?_
    rintro e w4 ⟨u, rfl, hu, hb4⟩
    have hC4 := Below_at hb4
    have hb := Below.trans (show Below w.heap.size w _ from (by repeat' (first | with_reducible assumption | with_reducible exact Below.refl _ _ | with_reducible refine Below.setCell ?_ ?_ _ | with_reducible refine Below.alloc ?_ ?_ _ | with_reducible apply Below.drew | with_reducible apply Below.drewn | (simp; done) | (simp; omega)))) (hb4.mono (by omega))
    have p4 : w1.heap.size < w4.heap.size := Nat.lt_of_lt_of_le p3 hb4.size
    cases gm : lGood m
    · have e0 := no gm
      have gn := lGood_no gm
      subst e0
      obtain ⟨p, cap, rfl, l1, l2, l3⟩ := hu
      clear l3 no opt gm
      rcases gn with gn | gn
      all_goals
        go_wp2_with fail
        refine wp_loop_rounds 1 ?_
        rw [rounds_succ]
        (go_wp2_with fail; refine (iOffsetAt z _ _).mono ?_; (rw [HO.out]); rintro e w5 ⟨rfl, hbw5⟩; have hCw5 := Below_at hbw5; have hFw5 := Below_fr hbw5; have hb := Below.trans (show Below w.heap.size w _ from (by repeat' (first | with_reducible assumption | with_reducible exact Below.refl _ _ | with_reducible refine Below.setCell ?_ ?_ _ | with_reducible refine Below.alloc ?_ ?_ _ | with_reducible apply Below.drew | with_reducible apply Below.drewn | (simp; done) | (simp; omega)))) (hbw5.mono (by first | omega | (simp; done) | (simp; omega))); have hzw5 := hb.size; have hlw5 := hbw5.size; (try simp only [World.size_alloc, World.size_setCell, World.size_drew] at hlw5))
        go_wp2
        all_goals
          go_ret
          first
            | exact ⟨rfl, (by repeat' (first | with_reducible assumption | with_reducible exact Below.refl _ _ | with_reducible refine Below.setCell ?_ ?_ _ | with_reducible refine Below.alloc ?_ ?_ _ | with_reducible apply Below.drew | with_reducible apply Below.drewn | (simp; done) | (simp; omega)))⟩
            | exact ⟨ret_bool (by simp; omega), (by repeat' (first | with_reducible assumption | with_reducible exact Below.refl _ _ | with_reducible refine Below.setCell ?_ ?_ _ | with_reducible refine Below.alloc ?_ ?_ _ | with_reducible apply Below.drew | with_reducible apply Below.drewn | (simp; done) | (simp; omega)))⟩
    · have gn := lGood_yes gm
      have o := opt gm
      clear no opt gm
      rcases o with rfl | ⟨a, rfl | rfl⟩
      · obtain ⟨p, cap, rfl, l1, l2, l3⟩ := hu
        obtain ⟨c, off, rfl, e2, e3, e4, e5⟩ := l3 (by simp)
        have c0 : w4.cell? ⟨c, off, none⟩ = some (.int .i64 n) := e4 0 (by simp)
        clear e4 e5 l3
        go_wp2_with fail
        refine wp_loop_rounds 2 ?_
        rw [rounds_succ]
        go_wp2_with fail
        rw [rounds_succ]
        (go_wp2_with fail; refine (iOffsetAt z _ _).mono ?_; (rw [HO.out]); rintro e w5 ⟨rfl, hbw5⟩; have hCw5 := Below_at hbw5; have hFw5 := Below_fr hbw5; have hb := Below.trans (show Below w.heap.size w _ from (by repeat' (first | with_reducible assumption | with_reducible exact Below.refl _ _ | with_reducible refine Below.setCell ?_ ?_ _ | with_reducible refine Below.alloc ?_ ?_ _ | with_reducible apply Below.drew | with_reducible apply Below.drewn | (simp; done) | (simp; omega)))) (hbw5.mono (by first | omega | (simp; done) | (simp; omega))); have hzw5 := hb.size; have hlw5 := hbw5.size; (try simp only [World.size_alloc, World.size_setCell, World.size_drew] at hlw5))
        go_wp2
        all_goals
          go_ret
          first
            | exact ⟨rfl, (by repeat' (first | with_reducible assumption | with_reducible exact Below.refl _ _ | with_reducible refine Below.setCell ?_ ?_ _ | with_reducible refine Below.alloc ?_ ?_ _ | with_reducible apply Below.drew | with_reducible apply Below.drewn | (simp; done) | (simp; omega)))⟩
            | exact ⟨ret_bool (by simp; omega), (by repeat' (first | with_reducible assumption | with_reducible exact Below.refl _ _ | with_reducible refine Below.setCell ?_ ?_ _ | with_reducible refine Below.alloc ?_ ?_ _ | with_reducible apply Below.drew | with_reducible apply Below.drewn | (simp; done) | (simp; omega)))⟩
      · obtain ⟨p, cap, rfl, l1, l2, l3⟩ := hu
        obtain ⟨c, off, rfl, e2, e3, e4, e5⟩ := l3 (by simp)
        have c0 : w4.cell? ⟨c, off, none⟩ = some (.int .i64 a) := e4 0 (by simp)
        have c1 : w4.cell? ⟨c, off + 1, none⟩ = some (.int .i64 n) := e4 1 (by simp)
        clear e4 e5 l3
        rcases Bool.eq_false_or_eq_true (a == n) with q | q
        all_goals
          go_wp2_with fail
          refine wp_loop_rounds 3 ?_
          rw [rounds_succ]
          go_wp2_with fail
          rw [rounds_succ]
          go_wp2_with fail
          rw [rounds_succ]
          (go_wp2_with fail; refine (iOffsetAt z _ _).mono ?_; (rw [HO.out]); rintro e w5 ⟨rfl, hbw5⟩; have hCw5 := Below_at hbw5; have hFw5 := Below_fr hbw5; have hb := Below.trans (show Below w.heap.size w _ from (by repeat' (first | with_reducible assumption | with_reducible exact Below.refl _ _ | with_reducible refine Below.setCell ?_ ?_ _ | with_reducible refine Below.alloc ?_ ?_ _ | with_reducible apply Below.drew | with_reducible apply Below.drewn | (simp; done) | (simp; omega)))) (hbw5.mono (by first | omega | (simp; done) | (simp; omega))); have hzw5 := hb.size; have hlw5 := hbw5.size; (try simp only [World.size_alloc, World.size_setCell, World.size_drew] at hlw5))
          go_wp2
          all_goals
            go_ret
            first
              | exact ⟨rfl, (by repeat' (first | with_reducible assumption | with_reducible exact Below.refl _ _ | with_reducible refine Below.setCell ?_ ?_ _ | with_reducible refine Below.alloc ?_ ?_ _ | with_reducible apply Below.drew | with_reducible apply Below.drewn | (simp; done) | (simp; omega)))⟩
              | exact ⟨ret_bool (by simp; omega), (by repeat' (first | with_reducible assumption | with_reducible exact Below.refl _ _ | with_reducible refine Below.setCell ?_ ?_ _ | with_reducible refine Below.alloc ?_ ?_ _ | with_reducible apply Below.drew | with_reducible apply Below.drewn | (simp; done) | (simp; omega)))⟩
      · obtain ⟨p, cap, rfl, l1, l2, l3⟩ := hu
        obtain ⟨c, off, rfl, e2, e3, e4, e5⟩ := l3 (by simp)
        have c0 : w4.cell? ⟨c, off, none⟩ = some (.int .i64 n) := e4 0 (by simp)
        have c1 : w4.cell? ⟨c, off + 1, none⟩ = some (.int .i64 a) := e4 1 (by simp)
        clear e4 e5 l3
        go_wp2_with fail
        refine wp_loop_rounds 3 ?_
        rw [rounds_succ]
        go_wp2_with fail
        rw [rounds_succ]
        go_wp2_with fail
        rw [rounds_succ]
        (go_wp2_with fail; refine (iOffsetAt z _ _).mono ?_; (rw [HO.out]); rintro e w5 ⟨rfl, hbw5⟩; have hCw5 := Below_at hbw5; have hFw5 := Below_fr hbw5; have hb := Below.trans (show Below w.heap.size w _ from (by repeat' (first | with_reducible assumption | with_reducible exact Below.refl _ _ | with_reducible refine Below.setCell ?_ ?_ _ | with_reducible refine Below.alloc ?_ ?_ _ | with_reducible apply Below.drew | with_reducible apply Below.drewn | (simp; done) | (simp; omega)))) (hbw5.mono (by first | omega | (simp; done) | (simp; omega))); have hzw5 := hb.size; have hlw5 := hbw5.size; (try simp only [World.size_alloc, World.size_setCell, World.size_drew] at hlw5))
        go_wp2
        all_goals
          go_ret
          first
            | exact ⟨rfl, (by repeat' (first | with_reducible assumption | with_reducible exact Below.refl _ _ | with_reducible refine Below.setCell ?_ ?_ _ | with_reducible refine Below.alloc ?_ ?_ _ | with_reducible apply Below.drew | with_reducible apply Below.drewn | (simp; done) | (simp; omega)))⟩
            | exact ⟨ret_bool (by simp; omega), (by repeat' (first | with_reducible assumption | with_reducible exact Below.refl _ _ | with_reducible refine Below.setCell ?_ ?_ _ | with_reducible refine Below.alloc ?_ ?_ _ | with_reducible apply Below.drew | with_reducible apply Below.drewn | (simp; done) | (simp; omega)))⟩
  · have c : zvB z = false ∨ zGood n = false := by
      by_cases v : zvB z = true
      · exact .inr (by simpa using fun g => vg ⟨v, g⟩)
      · exact .inl (by simpa using v)
    have HK := Lib.hid (locOf_no c)
    clear c vg
    (go_wp2_with fail; refine (iLocalOf z _ _).mono ?_; (rw [HK.out]); rintro e w2 ⟨rfl, hbw2⟩; have hCw2 := Below_at hbw2; have hFw2 := Below_fr hbw2; have hb := Below.trans (show Below w.heap.size w _ from (by repeat' (first | with_reducible assumption | with_reducible exact Below.refl _ _ | with_reducible refine Below.setCell ?_ ?_ _ | with_reducible refine Below.alloc ?_ ?_ _ | with_reducible apply Below.drew | with_reducible apply Below.drewn | (simp; done) | (simp; omega)))) (hbw2.mono (by first | omega | (simp; done) | (simp; omega))); have hzw2 := hb.size; have hlw2 := hbw2.size; (try simp only [World.size_alloc, World.size_setCell, World.size_drew] at hlw2))
    have p2 : w1.heap.size < w2.heap.size := by omega
    (go_wp2_with fail; refine (sLocalOf z _ _).mono ?_; (rw [HK.out]); rintro e w3 ⟨rfl, hbw3⟩; have hCw3 := Below_at hbw3; have hFw3 := Below_fr hbw3; have hb := Below.trans (show Below w.heap.size w _ from (by repeat' (first | with_reducible assumption | with_reducible exact Below.refl _ _ | with_reducible refine Below.setCell ?_ ?_ _ | with_reducible refine Below.alloc ?_ ?_ _ | with_reducible apply Below.drew | with_reducible apply Below.drewn | (simp; done) | (simp; omega)))) (hbw3.mono (by first | omega | (simp; done) | (simp; omega))); have hzw3 := hb.size; have hlw3 := hbw3.size; (try simp only [World.size_alloc, World.size_setCell, World.size_drew] at hlw3))
    (go_wp2_with fail; refine (alive_any _).mono ?_; rintro e wx ⟨rfl, rfl⟩)
    go_wp2
    go_ret
    exact ⟨rfl, (by repeat' (first | with_reducible assumption | with_reducible exact Below.refl _ _ | with_reducible refine Below.setCell ?_ ?_ _ | with_reducible refine Below.alloc ?_ ?_ _ | with_reducible apply Below.drew | with_reducible apply Below.drewn | (simp; done) | (simp; omega)))⟩

theorem own : ownKnob Try.prog.godebug = none := by kernel_rfl
theorem laid : laidOutB Try.prog = true := by kernel_rfl
theorem readable : ∀ t ∈ Try.f3.params.toList, Try.prog.readableRec t = true ∧ t < Try.prog.types.size := by
  have h : (Try.f3.params.toList.all fun t => Try.prog.readableRec t && decide (t < Try.prog.types.size)) = true := by kernel_rfl
  intro t ht
  have := List.all_eq_true.1 h t ht
  simpa using this

set_option maxRecDepth 100000 in
theorem lifted (os : Os) (started : os.Started) (H : Type) (enc : TypeId × Value → H) :
    ReturnsInHanded {} Try.checked os 3 .any (Rows.fnLocalOfSpec.pre6 enc Try.prog Try.f3 Rows.fnLocalOfRow.domain false) (Rows.fnLocalOfSpec.post enc Try.prog Try.f3 false true false false) := by
  refine returnsInHanded_of_change (C := Try.checked) own started (by kernel_rfl) Try.func3
    (ChangeSpec.witness6 (enc := enc) (C := Try.checked) false ⟨#[], #[.slice none 0 0], []⟩ 8 (by kernel_rfl) (by kernel_rfl) (by kernel_rfl) (by kernel_rfl)) ?_
  intro W base args ds gs before hval0 hW hcnd _
  have hval : ∀ (j : Nat) t v, Try.f3.params[j]? = some t → args[j]? = some v → Value.okWide Try.prog W .any base t v := hval0
  have hW' := hW
  obtain ⟨p, q, hA0, hV, rfl, hfz, hnd⟩ := hW
  have hA : DataW.TrodAll enc Try.prog W 0 (fun _ => true) true Try.f3.params.toList args.toList ds p := hA0
  rw [Try.params3] at hA hval
  obtain ⟨v0, vs0, d0, ds0, p0, q0, hargs, rfl, rfl, h0, r0⟩ := trodAll_cons hA
  obtain ⟨rfl, rfl, rfl⟩ := trodAll_nil r0
  obtain rfl : args = #[v0] := by cases args; simp_all
  obtain ⟨rfl, rfl⟩ := trodVars_none hV
  have b0 := Law.bytes_arg Try.underlying22 Try.underlying5 (by kernel_rfl) (hval 0 22 v0 rfl rfl) h0 (fun x hx => hW'.lt x (by simp [hx]))
  clear hA0 hval0
  refine (walk W v0 W.heap.size b0 rfl).mono fun e W' ⟨he, hg⟩ => ?_
  subst he
  exact ⟨_, rfl, Law.law_post laid readable (B := 4) rfl Try.underlying4 rfl hW' rfl hg⟩

theorem over : Rows.fnLocalOfRow.holds Try.pinned (OpenSpec.ofChange Rows.fnLocalOfSpec) :=
  OpenClaim.holds_of_wide 3 Try.f3 rfl rfl rfl rfl rfl rfl rfl ⟨rfl, rfl, rfl, rfl, rfl⟩ rfl rfl rfl rfl rfl (by kernel_rfl) Try.func3 (by kernel_rfl)
    (of_decide_eq_true (by kernel_rfl)) (by unfold Func.isWrapper; first | (rw [if_pos (by decide +kernel)]; kernel_rfl) | (rw [if_neg (by decide +kernel)]; exact ⟨rfl, rfl⟩))
    (fun os started H enc _ => lifted os started H enc)

theorem proved : Rows.FnLocalOfSaid :=
  over
end Go.Proofs.Ytlmmianaplahaaa.fnLocalOf
