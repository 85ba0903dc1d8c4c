/-
  CONTRACTS OF CHAPTER 6, of the program at 17568f05: the texts of stamps, written and read.
-/
import Derived.Test.YthiogmkicdgpiaaIPut
import Derived.Test.YthiogmkicdgpiaaTexts
import Derived.Test.YthiogmkicdgpiaaReg
import Derived.StillTailTactics
import Derived.Deep.CutRange
import Derived.Lib.SlBytesConst
set_option linter.unusedVariables false
set_option linter.unusedSimpArgs false
namespace Go.Proofs.Ythiogmkicdgpiaa
open Go.ChangeShapes Go.WideShapes Go.ChangeAt Go.RowKit Cal

theorem BR_alloc (w : World) (xs : List Int) (T : TypeId) : BR (w.alloc (.cells (xs.map (Value.int .u8)).toArray T (xs.length, xs.length + 1))) w.heap.size xs.length (fun i => xs.getD i 0) := by
  refine ⟨by simp, fun i hi => ⟨?_, ?_⟩⟩
  · rw [World.cell?_alloc_mark]
    simp [List.getElem?_eq_getElem hi]
  · rw [World.frozen?_alloc_mark]
    simp; omega
theorem BR.below {w w' : World} {b B S : Nat} {f : Nat → Int} (h : BR w b S f) (k : Below B w w') (hb : b < B) : BR w' b S f :=
  ⟨by have := k.size; have := h.1; omega, fun i hi => by
    obtain ⟨c, g⟩ := h.2 i hi
    exact ⟨(Below_at k b i hb).trans c, (Below_fr k b i hb).trans g⟩⟩
theorem BR.drew {w : World} {b S : Nat} {f : Nat → Int} (h : BR w b S f) : BR w.drew b S f := h
theorem six_low (w : World) (B : Nat) (hB : w.heap.size < B) (y m d h i s : Int) {w1 w2 : World} (k : Below B w1 w2) (g : (fun w' => Below w.heap.size w w' ∧ w'.cell? ⟨w.heap.size, 0, none⟩ = some (.int .i64 (y)) ∧ w'.cell? ⟨w.heap.size, 1, none⟩ = some (.int .i64 (m)) ∧ w'.cell? ⟨w.heap.size, 2, none⟩ = some (.int .i64 (d)) ∧ w'.cell? ⟨w.heap.size, 3, none⟩ = some (.int .i64 (h)) ∧ w'.cell? ⟨w.heap.size, 4, none⟩ = some (.int .i64 (i)) ∧ w'.cell? ⟨w.heap.size, 5, none⟩ = some (.int .i64 (s))) w1) : (fun w' => Below w.heap.size w w' ∧ w'.cell? ⟨w.heap.size, 0, none⟩ = some (.int .i64 (y)) ∧ w'.cell? ⟨w.heap.size, 1, none⟩ = some (.int .i64 (m)) ∧ w'.cell? ⟨w.heap.size, 2, none⟩ = some (.int .i64 (d)) ∧ w'.cell? ⟨w.heap.size, 3, none⟩ = some (.int .i64 (h)) ∧ w'.cell? ⟨w.heap.size, 4, none⟩ = some (.int .i64 (i)) ∧ w'.cell? ⟨w.heap.size, 5, none⟩ = some (.int .i64 (s))) w2 := by
  obtain ⟨b, a0, a1, a2, a3, a4, a5⟩ := g
  exact ⟨b.trans (k.mono (by omega)), (Below_at k _ _ hB).trans a0, (Below_at k _ _ hB).trans a1, (Below_at k _ _ hB).trans a2, (Below_at k _ _ hB).trans a3, (Below_at k _ _ hB).trans a4, (Below_at k _ _ hB).trans a5⟩
theorem st_new {w wx : World} {y m d h i s : Int} (hlt : w.heap.size < wx.heap.size) (g : (fun w' => Below w.heap.size w w' ∧ w'.cell? ⟨w.heap.size, 0, none⟩ = some (.int .i64 (y)) ∧ w'.cell? ⟨w.heap.size, 1, none⟩ = some (.int .i64 (m)) ∧ w'.cell? ⟨w.heap.size, 2, none⟩ = some (.int .i64 (d)) ∧ w'.cell? ⟨w.heap.size, 3, none⟩ = some (.int .i64 (h)) ∧ w'.cell? ⟨w.heap.size, 4, none⟩ = some (.int .i64 (i)) ∧ w'.cell? ⟨w.heap.size, 5, none⟩ = some (.int .i64 (s))) wx) : (fun w' => Below w.heap.size w w' ∧ w'.cell? ⟨w.heap.size, 0, none⟩ = some (.int .i64 (y)) ∧ w'.cell? ⟨w.heap.size, 1, none⟩ = some (.int .i64 (m)) ∧ w'.cell? ⟨w.heap.size, 2, none⟩ = some (.int .i64 (d)) ∧ w'.cell? ⟨w.heap.size, 3, none⟩ = some (.int .i64 (h)) ∧ w'.cell? ⟨w.heap.size, 4, none⟩ = some (.int .i64 (i)) ∧ w'.cell? ⟨w.heap.size, 5, none⟩ = some (.int .i64 (s))) (wx.alloc (Obj.cells #[.int .u8 48, .int .u8 48, .int .u8 48, .int .u8 48, .int .u8 45, .int .u8 48, .int .u8 48, .int .u8 45, .int .u8 48, .int .u8 48, .int .u8 84, .int .u8 48, .int .u8 48, .int .u8 58, .int .u8 48, .int .u8 48, .int .u8 58, .int .u8 48, .int .u8 48] 5 (19, 20))) ∧ BR (wx.alloc (Obj.cells #[.int .u8 48, .int .u8 48, .int .u8 48, .int .u8 48, .int .u8 45, .int .u8 48, .int .u8 48, .int .u8 45, .int .u8 48, .int .u8 48, .int .u8 84, .int .u8 48, .int .u8 48, .int .u8 58, .int .u8 48, .int .u8 48, .int .u8 58, .int .u8 48, .int .u8 48] 5 (19, 20))) wx.heap.size 19 (fun k => [48, 48, 48, 48, 45, 48, 48, 45, 48, 48, 84, 48, 48, 58, 48, 48, 58, 48, 48].getD k 0) :=
  ⟨six_low w _ hlt _ _ _ _ _ _ ((Below.refl _ _).alloc (Nat.le_refl _) _) g, BR_alloc wx [48, 48, 48, 48, 45, 48, 48, 45, 48, 48, 84, 48, 48, 58, 48, 48, 58, 48, 48] 5⟩

/-- What the text's bytes are when all numbers have been put. -/
theorem put_st {y m d h i s : Int} (y0 : 0 ≤ y) (m0 : 0 ≤ m) (d0 : 0 ≤ d) (h0 : 0 ≤ h) (i0 : 0 ≤ i) (s0 : 0 ≤ s) :
    ∀ k, k < 19 → putF (putF (putF (putF (putF (putF (fun k => [48, 48, 48, 48, 45, 48, 48, 45, 48, 48, 84, 48, 48, 58, 48, 48, 58, 48, 48].getD k 0) 0 4 y) 5 2 m) 8 2 d) 11 2 h) 14 2 i) 17 2 s k = (stTxt y m d h i s).getD k 0 := by
  intro k hk
  have : k = 0 ∨ k = 1 ∨ k = 2 ∨ k = 3 ∨ k = 4 ∨ k = 5 ∨ k = 6 ∨ k = 7 ∨ k = 8 ∨ k = 9 ∨ k = 10 ∨ k = 11 ∨ k = 12 ∨ k = 13 ∨ k = 14 ∨ k = 15 ∨ k = 16 ∨ k = 17 ∨ k = 18 := by omega
  rcases this with rfl | rfl | rfl | rfl | rfl | rfl | rfl | rfl | rfl | rfl | rfl | rfl | rfl | rfl | rfl | rfl | rfl | rfl | rfl <;> simp [putF, stTxt, d2] <;> omega

set_option maxHeartbeats 8000000 in
theorem iStampText (y m d h i s : Int) (w : World) :
    Calls Try.prog 12 #[(.agg #[.int .i64 (y), .int .i64 (m), .int .i64 (d), .int .i64 (h), .int .i64 (i), .int .i64 (s)])] w fun e w' => e = .returned (.string (stStr y m d h i s)) ∧ Below w.heap.size w w' := by
  cases c : svB y m d h i s
  · rw [stStr_no c]
    have C := Lib.hid c; clear c
    go_enter Try.func12, Try.ntmps12
    (go_wp2_with fail; refine (iStampValid _ _ _ _ _ _ _).mono ?_; rw [C.out]; rintro e wx ⟨rfl, hbx⟩; have hC := Below_at hbx; have hF := Below_fr hbx; have hb := Below.trans (show Below w.heap.size w _ from (by repeat' (first | with_reducible assumption | with_reducible exact Below.refl _ _ | with_reducible refine Below.setCell ?_ ?_ _ | with_reducible refine Below.alloc ?_ ?_ _ | with_reducible apply Below.drew | with_reducible apply Below.drewn | (simp; done) | (simp; omega)))) (hbx.mono (by first | omega | (simp; done) | (simp; omega))); have hz := hb.size; have hl := hbx.size; (try simp only [World.size_alloc, World.size_setCell, World.size_drew] at hl); (try have hs0 : w.heap.size < wx.heap.size := by omega); (try have hs1 : w.heap.size + 1 < wx.heap.size := by omega); clear hl)
    go_wp2
    go_ret
    exact ⟨ret_str rfl, (by repeat' (first | with_reducible assumption | with_reducible exact Below.refl _ _ | with_reducible refine Below.setCell ?_ ?_ _ | with_reducible refine Below.alloc ?_ ?_ _ | with_reducible apply Below.drew | with_reducible apply Below.drewn | (simp; done) | (simp; omega)))⟩
  · rw [stStr_yes c]
    obtain ⟨v, h0, h9, i0, i9, s0, s9⟩ := sv_yes c
    obtain ⟨⟨y1, y9⟩, ⟨m1, m9⟩, d1, d9⟩ := dayOf_ok v
    have C := Lib.hid c; clear c v
    have hX : (fun w' => Below w.heap.size w w' ∧ w'.cell? ⟨w.heap.size, 0, none⟩ = some (.int .i64 (y)) ∧ w'.cell? ⟨w.heap.size, 1, none⟩ = some (.int .i64 (m)) ∧ w'.cell? ⟨w.heap.size, 2, none⟩ = some (.int .i64 (d)) ∧ w'.cell? ⟨w.heap.size, 3, none⟩ = some (.int .i64 (h)) ∧ w'.cell? ⟨w.heap.size, 4, none⟩ = some (.int .i64 (i)) ∧ w'.cell? ⟨w.heap.size, 5, none⟩ = some (.int .i64 (s))) (w.alloc (.cells #[.int .i64 y, .int .i64 m, .int .i64 d, .int .i64 h, .int .i64 i, .int .i64 s] 24)) := ⟨(Below.refl _ _).alloc (Nat.le_refl _) _, World.cell?_alloc_new _ _ _ _, World.cell?_alloc_new _ _ _ _, World.cell?_alloc_new _ _ _ _, World.cell?_alloc_new _ _ _ _, World.cell?_alloc_new _ _ _ _, World.cell?_alloc_new _ _ _ _⟩
    go_enter Try.func12, Try.ntmps12
    go_wp2_with fail
    refine (iStampValid _ _ _ _ _ _ _).mono ?_
    rw [C.out]
    rintro e wx ⟨rfl, hbx⟩
    have hX := six_keep _ _ _ _ _ _ _ _ _ _ hbx hX
    have CV := fun (W : World) (C : Array Value) (n c : Nat) => Lib.run_convert_bytes_const (P := Try.prog) W 22 5 C n c (by kernel_rfl) (by kernel_rfl)
    have hlt : w.heap.size < wx.heap.size := by have := hbx.size; simp at this; omega
    go_wp2_with fail
    clear hbx
    obtain ⟨hX, hB⟩ := st_new hlt hX
    generalize wx.alloc (Obj.cells #[.int .u8 48, .int .u8 48, .int .u8 48, .int .u8 48, .int .u8 45, .int .u8 48, .int .u8 48, .int .u8 45, .int .u8 48, .int .u8 48, .int .u8 84, .int .u8 48, .int .u8 48, .int .u8 58, .int .u8 48, .int .u8 48, .int .u8 58, .int .u8 48, .int .u8 48] 5 (19, 20)) = v0 at hX hB ⊢
    clear CV
    generalize wx.heap.size = B1 at *
    have hw : True := trivial
    ((try go_wp2_with fail); go_still_tail 4, (by kernel_rfl); change wpList _ _ _ _ _ (World.drew v0); have hX := six_low w B1 hlt _ _ _ _ _ _ ((Below.refl B1 v0).drew) hX; have hB := BR.drew hB; generalize World.drew v0 = wq at hX hB ⊢; clear hw; go_wp2_with fail; refine (iPut _ _ _ _ _ _ 19 _ hB (by omega) (by omega) (by omega)).mono ?_; rintro e v1 ⟨rfl, hB', hw⟩; have hX' := six_low w B1 hlt _ _ _ _ _ _ hw hX; clear hX hB; have hX := hX'; have hB := hB'; clear hX' hB')
    ((try go_wp2_with fail); go_still_tail 4, (by kernel_rfl); change wpList _ _ _ _ _ (World.drew v1); have hX := six_low w B1 hlt _ _ _ _ _ _ ((Below.refl B1 v1).drew) hX; have hB := BR.drew hB; generalize World.drew v1 = wq at hX hB ⊢; clear hw; go_wp2_with fail; refine (iPut _ _ _ _ _ _ 19 _ hB (by omega) (by omega) (by omega)).mono ?_; rintro e v2 ⟨rfl, hB', hw⟩; have hX' := six_low w B1 hlt _ _ _ _ _ _ hw hX; clear hX hB; have hX := hX'; have hB := hB'; clear hX' hB')
    ((try go_wp2_with fail); go_still_tail 4, (by kernel_rfl); change wpList _ _ _ _ _ (World.drew v2); have hX := six_low w B1 hlt _ _ _ _ _ _ ((Below.refl B1 v2).drew) hX; have hB := BR.drew hB; generalize World.drew v2 = wq at hX hB ⊢; clear hw; go_wp2_with fail; refine (iPut _ _ _ _ _ _ 19 _ hB (by omega) (by omega) (by omega)).mono ?_; rintro e v3 ⟨rfl, hB', hw⟩; have hX' := six_low w B1 hlt _ _ _ _ _ _ hw hX; clear hX hB; have hX := hX'; have hB := hB'; clear hX' hB')
    ((try go_wp2_with fail); go_still_tail 4, (by kernel_rfl); change wpList _ _ _ _ _ (World.drew v3); have hX := six_low w B1 hlt _ _ _ _ _ _ ((Below.refl B1 v3).drew) hX; have hB := BR.drew hB; generalize World.drew v3 = wq at hX hB ⊢; clear hw; go_wp2_with fail; refine (iPut _ _ _ _ _ _ 19 _ hB (by omega) (by omega) (by omega)).mono ?_; rintro e v4 ⟨rfl, hB', hw⟩; have hX' := six_low w B1 hlt _ _ _ _ _ _ hw hX; clear hX hB; have hX := hX'; have hB := hB'; clear hX' hB')
    ((try go_wp2_with fail); go_still_tail 4, (by kernel_rfl); change wpList _ _ _ _ _ (World.drew v4); have hX := six_low w B1 hlt _ _ _ _ _ _ ((Below.refl B1 v4).drew) hX; have hB := BR.drew hB; generalize World.drew v4 = wq at hX hB ⊢; clear hw; go_wp2_with fail; refine (iPut _ _ _ _ _ _ 19 _ hB (by omega) (by omega) (by omega)).mono ?_; rintro e v5 ⟨rfl, hB', hw⟩; have hX' := six_low w B1 hlt _ _ _ _ _ _ hw hX; clear hX hB; have hX := hX'; have hB := hB'; clear hX' hB')
    ((try go_wp2_with fail); go_still_tail 4, (by kernel_rfl); change wpList _ _ _ _ _ (World.drew v5); have hX := six_low w B1 hlt _ _ _ _ _ _ ((Below.refl B1 v5).drew) hX; have hB := BR.drew hB; generalize World.drew v5 = wq at hX hB ⊢; clear hw; go_wp2_with fail; refine (iPut _ _ _ _ _ _ 19 _ hB (by omega) (by omega) (by omega)).mono ?_; rintro e v6 ⟨rfl, hB', hw⟩; have hX' := six_low w B1 hlt _ _ _ _ _ _ hw hX; clear hX hB; have hX := hX'; have hB := hB'; clear hX' hB')
    have CV := run_convert_bytes_arg (P := Try.prog) v6 22 5 (by kernel_rfl) (by kernel_rfl) B1 0 19 19 (stTxt y m d h i s) rfl (fun k hk => by
      rw [Nat.zero_add]
      have e := put_st (y := y) (m := m) (d := d) (h := h) (i := i) (s := s) (by omega) (by omega) (by omega) h0 i0 s0 k hk
      rw [← e]
      exact (hB.2 k hk).1) 9 (by kernel_rfl)
    go_wp2
    go_ret
    exact ⟨ret_str rfl, hX.1⟩

theorem ext_le (t : ByteArray) (a b : Nat) (h : b ≤ a + 4) : (t.extract a b).size ≤ 4 := by
  have := nms_ext t a b
  rw [← nms_size, this, List.length_take]
  omega

theorem getD_ff {l : Array Bool} {i : Nat} (h : l.getD i true = false) : l.getD i false = false := by
  rw [Array.getD_eq_getD_getElem?] at h ⊢
  cases d : l[i]?
  · rfl
  · rw [d] at h
    exact h

theorem zero_keep {w V V' : World} {B : Nat} (k : Below B V V') (hB : w.heap.size < B) (hb : Below w.heap.size w V) (h : ∀ i, i < 6 → V.cell? ⟨w.heap.size, i, none⟩ = some (.int .i64 0) ∧ V.frozen? ⟨w.heap.size, i, none⟩ = false) :
    Below w.heap.size w V' ∧ ∀ i, i < 6 → V'.cell? ⟨w.heap.size, i, none⟩ = some (.int .i64 0) ∧ V'.frozen? ⟨w.heap.size, i, none⟩ = false :=
  ⟨hb.trans (k.mono (by omega)), fun i hi => ⟨(Below_at k _ _ hB).trans (h i hi).1, (Below_fr k _ _ hB).trans (h i hi).2⟩⟩

/-- What the operations of ReadStamp's region yield. -/
def TRS (t : ByteArray) (c : Nat) (i : Nat) (_ : World) (v : Value) : Prop := match i with
  | 0 => v = .string t
  | 1 => v = .string (t.extract 0 4)
  | 2 => v = .int .i64 (pN t 0 4)
  | 3 => v = .string t
  | 4 => v = .string (t.extract 5 7)
  | 5 => v = .int .i64 (pN t 5 7)
  | 6 => v = .string t
  | 7 => v = .string (t.extract 8 10)
  | 8 => v = .int .i64 (pN t 8 10)
  | 9 => v = .string t
  | 10 => v = .string (t.extract 11 13)
  | 11 => v = .int .i64 (pN t 11 13)
  | 12 => v = .string t
  | 13 => v = .string (t.extract 14 16)
  | 14 => v = .int .i64 (pN t 14 16)
  | 15 => v = .string t
  | 16 => v = .string (t.extract 17 19)
  | 17 => v = .int .i64 (pN t 17 19)
  | 18 => v = (.agg #[.int .i64 (pN t 0 4), .int .i64 (pN t 5 7), .int .i64 (pN t 8 10), .int .i64 (pN t 11 13), .int .i64 (pN t 14 16), .int .i64 (pN t 17 19)])
  | 19 => v = .pointer (some ⟨c, 0, none⟩)
  | _ => True
/-- What the world is: W, one block more, and that block written. -/
def GRS (t : ByteArray) (W : World) (_ : Nat) (l : Array Bool) (w : World) : Prop := (l.getD 20 false = true → l.getD 19 false = true) ∧ w = if l.getD 20 false then W.alloc (.cells #[.int .i64 (pN t 0 4), .int .i64 (pN t 5 7), .int .i64 (pN t 8 10), .int .i64 (pN t 11 13), .int .i64 (pN t 14 16), .int .i64 (pN t 17 19)] 24) else if l.getD 19 false then W.alloc (.cells #[.int .i64 0, .int .i64 0, .int .i64 0, .int .i64 0, .int .i64 0, .int .i64 0] 24) else W
theorem GRS.same {t : ByteArray} {W w : World} {k k' : Nat} {l : Array Bool} {i : Nat} (h : GRS t W k l w) (hi : l.getD i true = false) (h1 : i ≠ 19) (h2 : i ≠ 20) : GRS t W k' (l.setIfInBounds i true) w := by
  unfold GRS at h ⊢
  rw [Reg.getD_set hi, Reg.getD_set hi, if_neg h1, if_neg h2]
  exact h

set_option maxHeartbeats 8000000 in
theorem iReadStamp (t : ByteArray) (w : World) (hs : t.size ≤ 1000000000) :
    Calls Try.prog 16 #[.string t] w fun e w' => e = .returned (.tuple #[(.agg #[.int .i64 (rV t (rY t)), .int .i64 (rV t (rO t)), .int .i64 (rV t (rD t)), .int .i64 (rV t (rH t)), .int .i64 (rV t (rI t)), .int .i64 (rV t (rS t))]), .bool (rOk t)]) ∧ Below w.heap.size w w' := by
  by_cases h19 : t.size = 19
  · have h19' : ((t.size : Nat) : Int) = 19 := by omega
    have NI := fun (a b : Nat) (h : b ≤ a + 4) => ext_le t a b h
    go_enter Try.func16, Try.ntmps16
    go_wp2_with fail
    go_cut [4] from 9 to 27 (fun s4 wx => s4 = .pointer (some ⟨w.heap.size + 1, 0, none⟩) ∧ ∃ W, W = (w.alloc (.cells #[.int .i64 0, .int .i64 0, .int .i64 0, .int .i64 0, .int .i64 0, .int .i64 0] 24)).drew ∧ wx = W.alloc (.cells #[.int .i64 (pN t 0 4), .int .i64 (pN t 5 7), .int .i64 (pN t 8 10), .int .i64 (pN t 11 13), .int .i64 (pN t 14 16), .int .i64 (pN t 17 19)] 24))
    case first =>
      generalize hW : w.alloc (.cells #[.int .i64 0, .int .i64 0, .int .i64 0, .int .i64 0, .int .i64 0, .int .i64 0] 24) = W
      refine Reg.wp_region_typed (by kernel_rfl) (TRS t (w.heap.size + 1)) (GRS t W.drew) (fun _ _ => True) (fun _ _ _ _ h _ => h) (by kernel_rfl) ?_ (Reg.each_op ⟨?_, ?_, ?_, ?_, ?_, ?_, ?_, ?_, ?_, ?_, ?_, ?_, ?_, ?_, ?_, ?_, ?_, ?_, ?_, ?_, ?_, trivial⟩) ?_
      · exact ⟨fun h => by simp [Array.getD_eq_getD_getElem?] at h, by simp [Array.getD_eq_getD_getElem?]⟩
      · intro l a w' k hi hk hO hA hL hG K hK
        have h0 := hO 0 (Reg.no_dst (by kernel_rfl))
        simp at h0
        unfold Oper.wp
        simp [execOp, Act.eval, Oper.upon, h0, go_sem]
        exact hK _ _ (fun _ => rfl) trivial (fun k' h1 h2 => hG.same hi (by omega) (by omega))
      · intro l a w' k hi hk hO hA hL hG K hK
        have h0 := hA 0 _ 9 rfl (by simp; first | exact rfl | exact .inl rfl) rfl
        simp only [TRS] at h0
        simp only [Array.getD_eq_getD_getElem?] at h0
        unfold Oper.wp
        simp [execOp, Act.eval, Oper.upon, h0, go_sem, h19, h19']
        exact hK _ _ (fun _ => rfl) trivial (fun k' h1 h2 => hG.same hi (by omega) (by omega))
      · intro l a w' k hi hk hO hA hL hG K hK
        have h0 := hA 1 _ 10 rfl (by simp; first | exact rfl | exact .inl rfl) rfl
        simp only [TRS] at h0
        simp only [Array.getD_eq_getD_getElem?] at h0
        unfold Oper.wp
        simp [execOp, Act.eval, Oper.upon, h0, go_sem]
        refine (iNumberIn _ _ (NI 0 4 (by omega))).mono ?_
        rintro e wz ⟨rfl, rfl⟩
        exact hK _ _ (fun _ => rfl) trivial (fun k' h1 h2 => hG.same hi (by omega) (by omega))
      · intro l a w' k hi hk hO hA hL hG K hK
        have h0 := hO 0 (Reg.no_dst (by kernel_rfl))
        simp at h0
        unfold Oper.wp
        simp [execOp, Act.eval, Oper.upon, h0, go_sem]
        exact hK _ _ (fun _ => rfl) trivial (fun k' h1 h2 => hG.same hi (by omega) (by omega))
      · intro l a w' k hi hk hO hA hL hG K hK
        have h0 := hA 3 _ 12 rfl (by simp; first | exact rfl | exact .inl rfl) rfl
        simp only [TRS] at h0
        simp only [Array.getD_eq_getD_getElem?] at h0
        unfold Oper.wp
        simp [execOp, Act.eval, Oper.upon, h0, go_sem, h19, h19']
        exact hK _ _ (fun _ => rfl) trivial (fun k' h1 h2 => hG.same hi (by omega) (by omega))
      · intro l a w' k hi hk hO hA hL hG K hK
        have h0 := hA 4 _ 13 rfl (by simp; first | exact rfl | exact .inl rfl) rfl
        simp only [TRS] at h0
        simp only [Array.getD_eq_getD_getElem?] at h0
        unfold Oper.wp
        simp [execOp, Act.eval, Oper.upon, h0, go_sem]
        refine (iNumberIn _ _ (NI 5 7 (by omega))).mono ?_
        rintro e wz ⟨rfl, rfl⟩
        exact hK _ _ (fun _ => rfl) trivial (fun k' h1 h2 => hG.same hi (by omega) (by omega))
      · intro l a w' k hi hk hO hA hL hG K hK
        have h0 := hO 0 (Reg.no_dst (by kernel_rfl))
        simp at h0
        unfold Oper.wp
        simp [execOp, Act.eval, Oper.upon, h0, go_sem]
        exact hK _ _ (fun _ => rfl) trivial (fun k' h1 h2 => hG.same hi (by omega) (by omega))
      · intro l a w' k hi hk hO hA hL hG K hK
        have h0 := hA 6 _ 15 rfl (by simp; first | exact rfl | exact .inl rfl) rfl
        simp only [TRS] at h0
        simp only [Array.getD_eq_getD_getElem?] at h0
        unfold Oper.wp
        simp [execOp, Act.eval, Oper.upon, h0, go_sem, h19, h19']
        exact hK _ _ (fun _ => rfl) trivial (fun k' h1 h2 => hG.same hi (by omega) (by omega))
      · intro l a w' k hi hk hO hA hL hG K hK
        have h0 := hA 7 _ 16 rfl (by simp; first | exact rfl | exact .inl rfl) rfl
        simp only [TRS] at h0
        simp only [Array.getD_eq_getD_getElem?] at h0
        unfold Oper.wp
        simp [execOp, Act.eval, Oper.upon, h0, go_sem]
        refine (iNumberIn _ _ (NI 8 10 (by omega))).mono ?_
        rintro e wz ⟨rfl, rfl⟩
        exact hK _ _ (fun _ => rfl) trivial (fun k' h1 h2 => hG.same hi (by omega) (by omega))
      · intro l a w' k hi hk hO hA hL hG K hK
        have h0 := hO 0 (Reg.no_dst (by kernel_rfl))
        simp at h0
        unfold Oper.wp
        simp [execOp, Act.eval, Oper.upon, h0, go_sem]
        exact hK _ _ (fun _ => rfl) trivial (fun k' h1 h2 => hG.same hi (by omega) (by omega))
      · intro l a w' k hi hk hO hA hL hG K hK
        have h0 := hA 9 _ 18 rfl (by simp; first | exact rfl | exact .inl rfl) rfl
        simp only [TRS] at h0
        simp only [Array.getD_eq_getD_getElem?] at h0
        unfold Oper.wp
        simp [execOp, Act.eval, Oper.upon, h0, go_sem, h19, h19']
        exact hK _ _ (fun _ => rfl) trivial (fun k' h1 h2 => hG.same hi (by omega) (by omega))
      · intro l a w' k hi hk hO hA hL hG K hK
        have h0 := hA 10 _ 19 rfl (by simp; first | exact rfl | exact .inl rfl) rfl
        simp only [TRS] at h0
        simp only [Array.getD_eq_getD_getElem?] at h0
        unfold Oper.wp
        simp [execOp, Act.eval, Oper.upon, h0, go_sem]
        refine (iNumberIn _ _ (NI 11 13 (by omega))).mono ?_
        rintro e wz ⟨rfl, rfl⟩
        exact hK _ _ (fun _ => rfl) trivial (fun k' h1 h2 => hG.same hi (by omega) (by omega))
      · intro l a w' k hi hk hO hA hL hG K hK
        have h0 := hO 0 (Reg.no_dst (by kernel_rfl))
        simp at h0
        unfold Oper.wp
        simp [execOp, Act.eval, Oper.upon, h0, go_sem]
        exact hK _ _ (fun _ => rfl) trivial (fun k' h1 h2 => hG.same hi (by omega) (by omega))
      · intro l a w' k hi hk hO hA hL hG K hK
        have h0 := hA 12 _ 21 rfl (by simp; first | exact rfl | exact .inl rfl) rfl
        simp only [TRS] at h0
        simp only [Array.getD_eq_getD_getElem?] at h0
        unfold Oper.wp
        simp [execOp, Act.eval, Oper.upon, h0, go_sem, h19, h19']
        exact hK _ _ (fun _ => rfl) trivial (fun k' h1 h2 => hG.same hi (by omega) (by omega))
      · intro l a w' k hi hk hO hA hL hG K hK
        have h0 := hA 13 _ 22 rfl (by simp; first | exact rfl | exact .inl rfl) rfl
        simp only [TRS] at h0
        simp only [Array.getD_eq_getD_getElem?] at h0
        unfold Oper.wp
        simp [execOp, Act.eval, Oper.upon, h0, go_sem]
        refine (iNumberIn _ _ (NI 14 16 (by omega))).mono ?_
        rintro e wz ⟨rfl, rfl⟩
        exact hK _ _ (fun _ => rfl) trivial (fun k' h1 h2 => hG.same hi (by omega) (by omega))
      · intro l a w' k hi hk hO hA hL hG K hK
        have h0 := hO 0 (Reg.no_dst (by kernel_rfl))
        simp at h0
        unfold Oper.wp
        simp [execOp, Act.eval, Oper.upon, h0, go_sem]
        exact hK _ _ (fun _ => rfl) trivial (fun k' h1 h2 => hG.same hi (by omega) (by omega))
      · intro l a w' k hi hk hO hA hL hG K hK
        have h0 := hA 15 _ 24 rfl (by simp; first | exact rfl | exact .inl rfl) rfl
        simp only [TRS] at h0
        simp only [Array.getD_eq_getD_getElem?] at h0
        unfold Oper.wp
        simp [execOp, Act.eval, Oper.upon, h0, go_sem, h19, h19']
        exact hK _ _ (fun _ => rfl) trivial (fun k' h1 h2 => hG.same hi (by omega) (by omega))
      · intro l a w' k hi hk hO hA hL hG K hK
        have h0 := hA 16 _ 25 rfl (by simp; first | exact rfl | exact .inl rfl) rfl
        simp only [TRS] at h0
        simp only [Array.getD_eq_getD_getElem?] at h0
        unfold Oper.wp
        simp [execOp, Act.eval, Oper.upon, h0, go_sem]
        refine (iNumberIn _ _ (NI 17 19 (by omega))).mono ?_
        rintro e wz ⟨rfl, rfl⟩
        exact hK _ _ (fun _ => rfl) trivial (fun k' h1 h2 => hG.same hi (by omega) (by omega))
      · intro l a w' k hi hk hO hA hL hG K hK
        have h0 := hA 2 _ 11 rfl (by simp; first | exact rfl | exact .inl rfl) rfl
        simp only [TRS] at h0
        simp only [Array.getD_eq_getD_getElem?] at h0
        have h1 := hA 5 _ 14 rfl (by simp; first | exact rfl | exact .inl rfl) rfl
        simp only [TRS] at h1
        simp only [Array.getD_eq_getD_getElem?] at h1
        have h2 := hA 8 _ 17 rfl (by simp; first | exact rfl | exact .inl rfl) rfl
        simp only [TRS] at h2
        simp only [Array.getD_eq_getD_getElem?] at h2
        have h3 := hA 11 _ 20 rfl (by simp; first | exact rfl | exact .inl rfl) rfl
        simp only [TRS] at h3
        simp only [Array.getD_eq_getD_getElem?] at h3
        have h4 := hA 14 _ 23 rfl (by simp; first | exact rfl | exact .inl rfl) rfl
        simp only [TRS] at h4
        simp only [Array.getD_eq_getD_getElem?] at h4
        have h5 := hA 17 _ 26 rfl (by simp; first | exact rfl | exact .inl rfl) rfl
        simp only [TRS] at h5
        simp only [Array.getD_eq_getD_getElem?] at h5
        unfold Oper.wp
        simp [execOp, Act.eval, Oper.upon, h0, h1, h2, h3, h4, h5, go_sem]
        exact hK _ _ (fun _ => rfl) trivial (fun k' h1 h2 => hG.same hi (by omega) (by omega))
      · intro l a w' k hi hk hO hA hL hG K hK
        obtain ⟨g1, g2⟩ := hG
        have e19 : l.getD 19 false = false := getD_ff hi
        have e20 : l.getD 20 false = false := by
          cases c : l.getD 20 false
          · rfl
          · have := g1 c
            rw [e19] at this
            exact absurd this (by simp)
        rw [e20, e19] at g2
        simp only [Bool.false_eq_true, if_false] at g2
        subst g2
        unfold Oper.wp
        simp [execOp, Act.eval, Oper.upon, go_sem]
        refine hK _ _ (fun _ => ?_) trivial (fun k' h1 h2 => ?_)
        · show _ = _
          rw [← hW]
          simp
        · refine ⟨fun _ => by rw [Reg.getD_set hi, if_pos rfl], ?_⟩
          have a1 : (l.setIfInBounds 19 true).getD 20 false = false := by rw [Reg.getD_set hi, if_neg (by omega)]; exact e20
          have a2 : (l.setIfInBounds 19 true).getD 19 false = true := by rw [Reg.getD_set hi, if_pos rfl]
          rw [a1, a2]
          rfl
      · intro l a w' k hi hk hO hA hL hG K hK
        obtain ⟨g1, g2⟩ := hG
        have e20 : l.getD 20 false = false := getD_ff hi
        have e19 := hL 19 (by simp; first | exact rfl | exact .inl rfl)
        have h4 := hA 19 _ 4 rfl (by simp; first | exact rfl | exact .inl rfl) rfl
        simp only [TRS] at h4
        simp only [Array.getD_eq_getD_getElem?] at h4
        have h27 := hA 18 _ 27 rfl (by simp; first | exact rfl | exact .inl rfl) rfl
        simp only [TRS] at h27
        simp only [Array.getD_eq_getD_getElem?] at h27
        rw [e20, e19] at g2
        simp only [Bool.false_eq_true, if_false, if_true] at g2
        have hsz : w.heap.size + 1 = W.drew.heap.size := by rw [← hW]; simp
        rw [hsz] at h4
        generalize W.drew = V at *
        subst g2
        unfold Oper.wp
        simp [execOp, Act.eval, Oper.upon, h4, h27, go_sem]
        exact hK undef _ (fun h => absurd rfl h) trivial (fun k' h1 h2 => ⟨fun _ => by rw [Reg.getD_set hi, if_neg (by omega)]; exact e19, by rw [Reg.getD_set hi, if_pos rfl]; rfl⟩)
      · intro l a wd hK hall
        obtain ⟨_, g2⟩ := hK.world
        rw [hall 20 (by decide), if_pos rfl] at g2
        have hsz := hK.size
        have hdf := hK.defers
        have e0 := hK.other 0 (Reg.no_dst (by kernel_rfl))
        have e1 := hK.other 1 (Reg.no_dst (by kernel_rfl))
        have e2 := hK.other 2 (Reg.no_dst (by kernel_rfl))
        have e3 := hK.other 3 (Reg.no_dst (by kernel_rfl))
        have e5 := hK.other 5 (Reg.no_dst (by kernel_rfl))
        have e6 := hK.other 6 (Reg.no_dst (by kernel_rfl))
        have e7 := hK.other 7 (Reg.no_dst (by kernel_rfl))
        have e8 := hK.other 8 (Reg.no_dst (by kernel_rfl))
        have e28 := hK.other 28 (Reg.no_dst (by kernel_rfl))
        have e29 := hK.other 29 (Reg.no_dst (by kernel_rfl))
        have e30 := hK.other 30 (Reg.no_dst (by kernel_rfl))
        have e31 := hK.other 31 (Reg.no_dst (by kernel_rfl))
        have e32 := hK.other 32 (Reg.no_dst (by kernel_rfl))
        have e33 := hK.other 33 (Reg.no_dst (by kernel_rfl))
        simp at e0 e1 e2 e3 e5 e6 e7 e8 e28 e29 e30 e31 e32 e33
        have h4 := hK.val 19 _ 4 rfl (hall 19 (by decide)) rfl
        simp only [TRS] at h4
        simp only [Array.getD_eq_getD_getElem?] at h4
        have hl := Reg.lit hsz
        simp [List.range, List.range.loop, e0, e1, e2, e3, e5, e6, e7, e8, e28, e29, e30, e31, e32, e33, h4] at hl
        clear hK hall hsz h4 e0 e1 e2 e3 e5 e6 e7 e8 e28 e29 e30 e31 e32 e33
        obtain ⟨tm, df⟩ := a
        simp only at hl hdf
        generalize (tm[9]?).getD undef = w9 at hl
        generalize (tm[10]?).getD undef = w10 at hl
        generalize (tm[11]?).getD undef = w11 at hl
        generalize (tm[12]?).getD undef = w12 at hl
        generalize (tm[13]?).getD undef = w13 at hl
        generalize (tm[14]?).getD undef = w14 at hl
        generalize (tm[15]?).getD undef = w15 at hl
        generalize (tm[16]?).getD undef = w16 at hl
        generalize (tm[17]?).getD undef = w17 at hl
        generalize (tm[18]?).getD undef = w18 at hl
        generalize (tm[19]?).getD undef = w19 at hl
        generalize (tm[20]?).getD undef = w20 at hl
        generalize (tm[21]?).getD undef = w21 at hl
        generalize (tm[22]?).getD undef = w22 at hl
        generalize (tm[23]?).getD undef = w23 at hl
        generalize (tm[24]?).getD undef = w24 at hl
        generalize (tm[25]?).getD undef = w25 at hl
        generalize (tm[26]?).getD undef = w26 at hl
        generalize (tm[27]?).getD undef = w27 at hl
        subst hl hdf
        go_wp2_with fail
        go_meet
        exact ⟨rfl, _, rfl, by rw [g2, ← hW]⟩
    case rest =>
      obtain ⟨rfl, W, hW, rfl⟩ := hcut
      have hsz : W.heap.size = w.heap.size + 1 := by rw [hW]; simp
      have hb0 : Below w.heap.size w W := by rw [hW]; exact ((Below.refl _ _).alloc (Nat.le_refl _) _).drew
      have hz0 : ∀ i, i < 6 → W.cell? ⟨w.heap.size, i, none⟩ = some (.int .i64 0) ∧ W.frozen? ⟨w.heap.size, i, none⟩ = false := fun i hi => by
        rw [hW]
        have hi' : i = 0 ∨ i = 1 ∨ i = 2 ∨ i = 3 ∨ i = 4 ∨ i = 5 := by omega
        rcases hi' with rfl | rfl | rfl | rfl | rfl | rfl <;> exact ⟨(World.cell?_alloc_new _ _ _ _), (World.frozen?_alloc_mark _ _ _ _ _ _).trans (by simp)⟩
      clear hW
      have hv := rV_yes (t := t)
      have hn := rV_no (t := t)
      have HS := st_same h19
      generalize pN t 0 4 = y at *
      generalize pN t 5 7 = m at *
      generalize pN t 8 10 = d at *
      generalize pN t 11 13 = h at *
      generalize pN t 14 16 = i at *
      generalize pN t 17 19 = s at *
      have hZ := fun o => zero_keep ((Below.refl _ _).alloc (Nat.le_refl W.heap.size) o) (by omega) hb0 hz0
      have hV := fun j v (hv : (#[Value.int .i64 y, Value.int .i64 m, Value.int .i64 d, Value.int .i64 h, Value.int .i64 i, Value.int .i64 s])[j]? = some v) => (World.cell?_alloc_new W #[.int .i64 y, .int .i64 m, .int .i64 d, .int .i64 h, .int .i64 i, .int .i64 s] 24 j).trans hv
      rw [hsz] at hV
      have v0 := hV 0 _ rfl
      have v1 := hV 1 _ rfl
      have v2 := hV 2 _ rfl
      have v3 := hV 3 _ rfl
      have v4 := hV 4 _ rfl
      have v5 := hV 5 _ rfl
      clear hV
      have hZ := hZ (.cells #[.int .i64 y, .int .i64 m, .int .i64 d, .int .i64 h, .int .i64 i, .int .i64 s] 24)
      have hlt : w.heap.size < (W.alloc (.cells #[.int .i64 y, .int .i64 m, .int .i64 d, .int .i64 h, .int .i64 i, .int .i64 s] 24)).heap.size := by simp; omega
      have hlt2 : w.heap.size + 1 < (W.alloc (.cells #[.int .i64 y, .int .i64 m, .int .i64 d, .int .i64 h, .int .i64 i, .int .i64 s] 24)).heap.size := by simp; omega
      clear hz0 hb0 hsz
      generalize W.alloc (.cells #[.int .i64 y, .int .i64 m, .int .i64 d, .int .i64 h, .int .i64 i, .int .i64 s] 24) = V at *
      have LE := lists_eq
      rcases HS with ⟨c, ok, e1, e2, e3, e4, e5, e6⟩ | ⟨c, ok⟩
      · have C := Lib.hid c
        have E1 := Lib.hid (e1.trans (hv ok _).symm); have E2 := Lib.hid (e2.trans (hv ok _).symm); have E3 := Lib.hid (e3.trans (hv ok _).symm); have E4 := Lib.hid (e4.trans (hv ok _).symm); have E5 := Lib.hid (e5.trans (hv ok _).symm); have E6 := Lib.hid (e6.trans (hv ok _).symm); have OK := Lib.hid ok
        clear hv hn c ok e1 e2 e3 e4 e5 e6
        go_wp2_with fail
        refine (iStampText _ _ _ _ _ _ _).mono ?_
        rw [C.out]
        rintro e wx ⟨rfl, hbx⟩
        have hC := Below_at hbx
        have hZ := zero_keep hbx hlt hZ.1 hZ.2
        obtain ⟨hb, hz⟩ := hZ
        have q := (fun j hj => (hz j hj).1); have fz := (fun j hj => (hz j hj).2)
        have z0 := q 0 (by omega); have z1 := q 1 (by omega); have z2 := q 2 (by omega); have z3 := q 3 (by omega); have z4 := q 4 (by omega); have z5 := q 5 (by omega)
        have f0 := fz 0 (by omega); have f1 := fz 1 (by omega); have f2 := fz 2 (by omega); have f3 := fz 3 (by omega); have f4 := fz 4 (by omega); have f5 := fz 5 (by omega)
        clear hz q fz
        have x0 := (hC _ _ hlt2).trans v0; have x1 := (hC _ _ hlt2).trans v1; have x2 := (hC _ _ hlt2).trans v2; have x3 := (hC _ _ hlt2).trans v3; have x4 := (hC _ _ hlt2).trans v4; have x5 := (hC _ _ hlt2).trans v5
        clear hC v0 v1 v2 v3 v4 v5
        go_wp2
        ((try simp only [Exit.inBlock, Exit.then]); refine bodyPost_ret (v := .tuple #[(.agg #[.int .i64 (_), .int .i64 (_), .int .i64 (_), .int .i64 (_), .int .i64 (_), .int .i64 (_)]), .bool _]) (by simp [results, Try.results16, go_sem, *]; first | exact ⟨⟨rfl, rfl, rfl, rfl, rfl, rfl⟩, rfl⟩ | exact ⟨rfl, rfl, rfl, rfl, rfl, rfl⟩ | rfl) rfl ?_)
        exact ⟨ret_stb E1.out E2.out E3.out E4.out E5.out E6.out OK.out.symm, (by repeat' (first | with_reducible assumption | with_reducible exact Below.refl _ _ | with_reducible refine Below.setCell ?_ ?_ _ | with_reducible refine Below.alloc ?_ ?_ _ | with_reducible apply Below.drew | with_reducible apply Below.drewn | (simp; done) | (simp; omega)))⟩
      · have c3 : decide (stStr y m d h i s = t) = false := by simpa using c
        have N1 := Lib.hid (hn ok (rY t)); have N2 := Lib.hid (hn ok (rO t)); have N3 := Lib.hid (hn ok (rD t)); have N4 := Lib.hid (hn ok (rH t)); have N5 := Lib.hid (hn ok (rI t)); have N6 := Lib.hid (hn ok (rS t)); have OK := Lib.hid ok
        clear hv hn c ok
        go_wp2_with fail
        refine (iStampText _ _ _ _ _ _ _).mono ?_
        rintro e wx ⟨rfl, hbx⟩
        have hZ := zero_keep hbx hlt hZ.1 hZ.2
        obtain ⟨hb, hz⟩ := hZ
        have q := (fun j hj => (hz j hj).1); have fz := (fun j hj => (hz j hj).2)
        have z0 := q 0 (by omega); have z1 := q 1 (by omega); have z2 := q 2 (by omega); have z3 := q 3 (by omega); have z4 := q 4 (by omega); have z5 := q 5 (by omega)
        have f0 := fz 0 (by omega); have f1 := fz 1 (by omega); have f2 := fz 2 (by omega); have f3 := fz 3 (by omega); have f4 := fz 4 (by omega); have f5 := fz 5 (by omega)
        clear hz q fz
        go_wp2
        ((try simp only [Exit.inBlock, Exit.then]); refine bodyPost_ret (v := .tuple #[(.agg #[.int .i64 (_), .int .i64 (_), .int .i64 (_), .int .i64 (_), .int .i64 (_), .int .i64 (_)]), .bool _]) (by simp [results, Try.results16, go_sem, *]; first | exact ⟨⟨rfl, rfl, rfl, rfl, rfl, rfl⟩, rfl⟩ | exact ⟨rfl, rfl, rfl, rfl, rfl, rfl⟩ | rfl) rfl ?_)
        exact ⟨ret_stb N1.out.symm N2.out.symm N3.out.symm N4.out.symm N5.out.symm N6.out.symm OK.out.symm, (by repeat' (first | with_reducible assumption | with_reducible exact Below.refl _ _ | with_reducible refine Below.setCell ?_ ?_ _ | with_reducible refine Below.alloc ?_ ?_ _ | with_reducible apply Below.drew | with_reducible apply Below.drewn | (simp; done) | (simp; omega)))⟩
  · have h19' : (((t.size : Nat) : Int) != 19) = true := by simp; omega
    have k : rOk t = false := by
      cases e : rOk t
      · rfl
      · exact absurd (read_len e) h19
    simp only [rV_no k, k]
    clear k h19
    go_enter Try.func16, Try.ntmps16
    go_wp2
    ((try simp only [Exit.inBlock, Exit.then]); refine bodyPost_ret (v := .tuple #[(.agg #[.int .i64 (_), .int .i64 (_), .int .i64 (_), .int .i64 (_), .int .i64 (_), .int .i64 (_)]), .bool _]) (by simp [results, Try.results16, go_sem, *]; first | exact ⟨⟨rfl, rfl, rfl, rfl, rfl, rfl⟩, rfl⟩ | exact ⟨rfl, rfl, rfl, rfl, rfl, rfl⟩ | rfl) rfl ?_)
    exact ⟨rfl, (by repeat' (first | with_reducible assumption | with_reducible exact Below.refl _ _ | with_reducible refine Below.setCell ?_ ?_ _ | with_reducible refine Below.alloc ?_ ?_ _ | with_reducible apply Below.drew | with_reducible apply Below.drewn | (simp; done) | (simp; omega)))⟩
end Go.Proofs.Ythiogmkicdgpiaa
