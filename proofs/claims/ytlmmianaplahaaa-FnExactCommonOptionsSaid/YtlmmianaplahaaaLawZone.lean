/-
  CONTRACTS OF THE LAWS' OWN FUNCTIONS ON ZONES.
-/
import Derived.Test.YtlmmianaplahaaaLawRule
import Derived.Test.YtlmmianaplahaaaZone
import Derived.Test.YtlmmianaplahaaaTen
set_option linter.unusedVariables false
set_option linter.unusedSimpArgs false
namespace Go.Proofs.Ytlmmianaplahaaa
open Go.ChangeShapes Go.WideShapes Go.ChangeAt Go.RowKit Cal

theorem zn_of {zs : List Int} (h : zs.length = 10) : ∃ z : Zn, zs = [z.o, z.s, z.m, z.k, z.d, z.i, z.m', z.k', z.d', z.i'] := by
  match zs, h with
  | [a, b, c, d, e, f, g, h, i, j], _ => exact ⟨⟨a, b, c, d, e, f, g, h, i, j⟩, rfl⟩

set_option maxHeartbeats 1000000 in
theorem toZone_any (z : Zn) (w : World) :
    Calls Try.prog 31 #[(.agg #[.int .i64 (z.o), .int .i64 (z.s), .int .i64 (z.m), .int .i64 (z.k), .int .i64 (z.d), .int .i64 (z.i), .int .i64 (z.m'), .int .i64 (z.k'), .int .i64 (z.d'), .int .i64 (z.i')])] w fun e w' => e = .returned (.agg #[.int .i64 (z.o), .int .i64 (z.s), .int .i64 (z.m), .int .i64 (z.k), .int .i64 (z.d), .int .i64 (z.i), .int .i64 (z.m'), .int .i64 (z.k'), .int .i64 (z.d'), .int .i64 (z.i')]) ∧ Below w.heap.size w w' := by
  go_enter Try.func31, Try.ntmps31
  (go_wp2_with fail; refine (toRule_any _ _ _ _ _).mono ?_; rintro e w1 ⟨rfl, hbw1⟩; have hCw1 := Below_at hbw1; have hFw1 := Below_fr hbw1; have hb := Below.trans (show Below w.heap.size w _ from (by repeat' (first | with_reducible assumption | with_reducible exact Below.refl _ _ | with_reducible refine Below.setCell ?_ ?_ _ | with_reducible refine Below.alloc ?_ ?_ _ | with_reducible apply Below.drew | with_reducible apply Below.drewn | (simp; done) | (simp; omega)))) (hbw1.mono (by first | omega | (simp; done) | (simp; omega))); have hzw1 := hb.size; have hlw1 := hbw1.size; (try simp only [World.size_alloc, World.size_setCell, World.size_drew] at hlw1))
  have SS := same_some
  have p1 : w.heap.size + 1 < w1.heap.size := by omega
  have p2 : w.heap.size + 2 < w1.heap.size := by omega
  (go_wp2_with fail; refine (toRule_any _ _ _ _ _).mono ?_; rintro e w2 ⟨rfl, hbw2⟩; have hCw2 := Below_at hbw2; have hFw2 := Below_fr hbw2; have hb := Below.trans (show Below w.heap.size w _ from (by repeat' (first | with_reducible assumption | with_reducible exact Below.refl _ _ | with_reducible refine Below.setCell ?_ ?_ _ | with_reducible refine Below.alloc ?_ ?_ _ | with_reducible apply Below.drew | with_reducible apply Below.drewn | (simp; done) | (simp; omega)))) (hbw2.mono (by first | omega | (simp; done) | (simp; omega))); have hzw2 := hb.size; have hlw2 := hbw2.size; (try simp only [World.size_alloc, World.size_setCell, World.size_drew] at hlw2))
  go_wp2_with fail
  ((try simp only [Exit.inBlock, Exit.then]); refine bodyPost_ret (v := (.agg #[.int .i64 (z.o), .int .i64 (z.s), .int .i64 (z.m), .int .i64 (z.k), .int .i64 (z.d), .int .i64 (z.i), .int .i64 (z.m'), .int .i64 (z.k'), .int .i64 (z.d'), .int .i64 (z.i')])) (by simp [results, Try.results31, go_sem, *]; try rfl) rfl ?_)
  exact ⟨rfl, (by repeat' (first | with_reducible assumption | with_reducible exact Below.refl _ _ | with_reducible refine Below.setCell ?_ ?_ _ | with_reducible refine Below.alloc ?_ ?_ _ | with_reducible apply Below.drew | with_reducible apply Below.drewn | (simp; done) | (simp; omega)))⟩
end Go.Proofs.Ytlmmianaplahaaa
