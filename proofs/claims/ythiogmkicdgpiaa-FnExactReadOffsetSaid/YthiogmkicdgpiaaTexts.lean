/-
  CONTRACTS OF CHAPTER 6, of the model: the texts of stamps and offsets, written and read.
-/
import Derived.Test.YthiogmkicdgpiaaText
import Derived.Test.YthiogmkicdgpiaaMoms
import Derived.Test.YthiogmkicdgpiaaCalm
import Derived.Test.YthiogmkicdgpiaaTwo
set_option linter.unusedVariables false
set_option linter.unusedSimpArgs false
namespace Go.Proofs.Ythiogmkicdgpiaa
open Go.ChangeShapes Go.WideShapes Go.ChangeAt Go.RowKit Cal

/-- The text of digits, from place f up to place t. -/
def dgs (s : ByteArray) (f t : Int) : Int := dgl ((nms s).drop f.toNat) (t - f).toNat 0
def cap : Nat → Int
  | 0 => 0
  | n + 1 => 10 * cap n + 9
theorem cap_le {n : Nat} (h : n ≤ 4) : 0 ≤ cap n ∧ cap n ≤ 9999 := by
  have : n = 0 ∨ n = 1 ∨ n = 2 ∨ n = 3 ∨ n = 4 := by omega
  rcases this with rfl | rfl | rfl | rfl | rfl <;> simp [cap]

set_option maxHeartbeats 4000000 in
theorem sDigits (s : ByteArray) (f t : Int) (w : World) (hf : 0 ≤ f ∧ f ≤ t) (ht : t ≤ f + 4 ∧ t ≤ 100) (hs : s.size ≤ 1000000000) :
    Calls Try.prog 38 #[.string s, .int .i64 f, .int .i64 t] w fun e w' => e = .returned (.int .i64 (dgs s f t)) ∧ w = w' := by
  generalize hR : dgs s f t = R
  have HR : Hid (dgl ((nms s).drop f.toNat) (t - f).toNat 0 = R) := hR
  clear hR
  go_enter Try.func38, Try.ntmps38
  go_wp2
  go_loop [7, 8] (fun nv kv => ∃ (k : Nat) (n : Int), kv = .int .i64 k ∧ nv = .int .i64 n ∧ (f ≤ k ∧ (k : Int) ≤ t) ∧ (0 ≤ n ∧ n ≤ cap ((k : Int) - f).toNat) ∧ dgl ((nms s).drop k) (t - k).toNat n = R) (fun _ kv => (t - intOf kv).toNat)
  case atStart => exact ⟨f.toNat, 0, by simp; omega, rfl, by omega, by rw [show (((f.toNat : Nat) : Int) - f).toNat = 0 by omega]; simp [cap], by rw [show ((f.toNat : Nat) : Int) = f by omega]; exact HR.out⟩
  case round =>
    obtain ⟨k, n, rfl, rfl, ⟨hk1, hk2⟩, ⟨hn0, hn9⟩, hR⟩ := hrel
    have HR2 := Lib.hid hR
    clear hR
    by_cases h : (k : Int) < t
    · have hc := cap_le (n := ((k : Int) - f).toNat) (by omega)
      by_cases hlt : k < s.size
      · have e : dgl ((s[k].toNat : Int) :: (nms s).drop (k + 1)) ((t - (k + 1 : Nat)).toNat + 1) n = R := by
          rw [← nms_at hlt, show (t - (k + 1 : Nat)).toNat + 1 = (t - k).toNat by omega]
          exact HR2.out
        simp only [dgl] at e
        have E := Lib.hid e
        clear e
        have hb := s[k].toNat_lt
        have cs : cap (((k + 1 : Nat) : Int) - f).toNat = 10 * cap ((k : Int) - f).toNat + 9 := by
          rw [show (((k + 1 : Nat) : Int) - f).toNat = ((k : Int) - f).toNat + 1 by omega]
          rfl
        have CS := Lib.hid cs
        clear cs
        generalize cap ((k : Int) - f).toNat = C at *
        by_cases c : 48 ≤ (s[k].toNat : Int) ∧ (s[k].toNat : Int) ≤ 57
        · obtain ⟨c1, c2⟩ := c
          go_wp2
          all_goals
            go_round
            case rel =>
              refine ⟨k + 1, 10 * n + ((s[k].toNat : Int) - 48), by go_num, rfl, by omega, by rw [CS.out]; omega, ?_⟩
              have := E.out
              rw [if_pos ⟨c1, c2⟩] at this
              exact this
            case measure => simp [intOf]; omega
        · have eR : R = -1 := by
            have := E.out
            rw [if_neg c] at this
            exact this.symm
          rcases (show (s[k].toNat : Int) < 48 ∨ 57 < (s[k].toNat : Int) by omega) with c3 | c3
          all_goals
            clear c
            go_wp2
            go_ret
            exact ⟨ret_int (by omega), rfl⟩
      · have eR : R = -1 := by
          have := HR2.out
          rw [List.drop_of_length_le (by rw [nms_size]; omega), show (t - k).toNat = (t - k - 1).toNat + 1 by omega] at this
          simpa [dgl] using this.symm
        go_wp2
        go_ret
        exact ⟨ret_int (by omega), rfl⟩
    · have eR : n = R := by
        have := HR2.out
        rw [show (t - k).toNat = 0 by omega] at this
        simpa [dgl] using this
      go_wp2
      go_ret
      exact ⟨ret_int (by first | rfl | exact eR), rfl⟩

/-- What a text begins with is not changed by memory that is made later: a stamp's block, and the world below. -/
theorem six_keep (w : World) (b : Nat) (y m d h i s : Int) : Stays (fun w' => Below w.heap.size w w' ∧ w'.cell? ⟨b, 0, none⟩ = some (.int .i64 y) ∧ w'.cell? ⟨b, 1, none⟩ = some (.int .i64 m) ∧ w'.cell? ⟨b, 2, none⟩ = some (.int .i64 d) ∧ w'.cell? ⟨b, 3, none⟩ = some (.int .i64 h) ∧ w'.cell? ⟨b, 4, none⟩ = some (.int .i64 i) ∧ w'.cell? ⟨b, 5, none⟩ = some (.int .i64 s)) := (by repeat' (first | with_reducible exact Stays.below _ | with_reducible exact Stays.cell _ _ _ | with_reducible exact Stays.size _ | with_reducible refine Stays.and ?_ ?_))

set_option maxHeartbeats 8000000 in
theorem sStampText (y m d h i s : Int) (w : World) :
    Calls Try.prog 13 #[(.agg #[.int .i64 (y), .int .i64 (m), .int .i64 (d), .int .i64 (h), .int .i64 (i), .int .i64 (s)])] w fun e w' => e = .returned (.string (stStr y m d h i s)) ∧ Below w.heap.size w w' := by
  cases c : svB y m d h i s
  · rw [stStr_no c]
    have C := Lib.hid c; clear c
    go_enter Try.func13, Try.ntmps13
    (go_wp2_with fail; refine (sStampValid _ _ _ _ _ _ _).mono ?_; rw [C.out]; rintro e wx ⟨rfl, hbx⟩; have hC := Below_at hbx; have hF := Below_fr hbx; have hb := Below.trans (show Below w.heap.size w _ from (by repeat' (first | with_reducible assumption | with_reducible exact Below.refl _ _ | with_reducible refine Below.setCell ?_ ?_ _ | with_reducible refine Below.alloc ?_ ?_ _ | with_reducible apply Below.drew | with_reducible apply Below.drewn | (simp; done) | (simp; omega)))) (hbx.mono (by first | omega | (simp; done) | (simp; omega))); have hz := hb.size; have hl := hbx.size; (try simp only [World.size_alloc, World.size_setCell, World.size_drew] at hl); (try have hs0 : w.heap.size < wx.heap.size := by omega); (try have hs1 : w.heap.size + 1 < wx.heap.size := by omega); clear hl)
    go_wp2
    go_ret
    exact ⟨ret_str rfl, (by repeat' (first | with_reducible assumption | with_reducible exact Below.refl _ _ | with_reducible refine Below.setCell ?_ ?_ _ | with_reducible refine Below.alloc ?_ ?_ _ | with_reducible apply Below.drew | with_reducible apply Below.drewn | (simp; done) | (simp; omega)))⟩
  · rw [stStr_yes c]
    obtain ⟨v, h0, h9, i0, i9, s0, s9⟩ := sv_yes c
    obtain ⟨⟨y1, y9⟩, ⟨m1, m9⟩, d1, d9⟩ := dayOf_ok v
    have C := Lib.hid c; clear c v
    have q1 : y.tdiv 100 = y / 100 := Int.tdiv_eq_ediv_of_nonneg (by omega)
    have q2 : y.tmod 100 = y % 100 := Int.tmod_eq_emod_of_nonneg (by omega)
    have hX : (fun w' => Below w.heap.size w w' ∧ w'.cell? ⟨w.heap.size, 0, none⟩ = some (.int .i64 (y)) ∧ w'.cell? ⟨w.heap.size, 1, none⟩ = some (.int .i64 (m)) ∧ w'.cell? ⟨w.heap.size, 2, none⟩ = some (.int .i64 (d)) ∧ w'.cell? ⟨w.heap.size, 3, none⟩ = some (.int .i64 (h)) ∧ w'.cell? ⟨w.heap.size, 4, none⟩ = some (.int .i64 (i)) ∧ w'.cell? ⟨w.heap.size, 5, none⟩ = some (.int .i64 (s))) (w.alloc (.cells #[.int .i64 y, .int .i64 m, .int .i64 d, .int .i64 h, .int .i64 i, .int .i64 s] 24)) := ⟨(Below.refl _ _).alloc (Nat.le_refl _) _, World.cell?_alloc_new _ _ _ _, World.cell?_alloc_new _ _ _ _, World.cell?_alloc_new _ _ _ _, World.cell?_alloc_new _ _ _ _, World.cell?_alloc_new _ _ _ _, World.cell?_alloc_new _ _ _ _⟩
    have SA := str_app
    have SZ := strOfNums_size
    have DL := d2_len
    have K45 := k45; have K84 := k84; have K58 := k58
    go_enter Try.func13, Try.ntmps13
    go_wp2_with fail
    refine (sStampValid _ _ _ _ _ _ _).mono ?_
    rw [C.out]
    rintro e wx ⟨rfl, hbx⟩
    have hX := six_keep _ _ _ _ _ _ _ _ _ _ hbx hX
    go_wp2_with fail
    (refine wp_region_calm ((fun w' => Below w.heap.size w w' ∧ w'.cell? ⟨w.heap.size, 0, none⟩ = some (.int .i64 (y)) ∧ w'.cell? ⟨w.heap.size, 1, none⟩ = some (.int .i64 (m)) ∧ w'.cell? ⟨w.heap.size, 2, none⟩ = some (.int .i64 (d)) ∧ w'.cell? ⟨w.heap.size, 3, none⟩ = some (.int .i64 (h)) ∧ w'.cell? ⟨w.heap.size, 4, none⟩ = some (.int .i64 (i)) ∧ w'.cell? ⟨w.heap.size, 5, none⟩ = some (.int .i64 (s)))) (by kernel_rfl) (by kernel_rfl) (six_keep _ _ _ _ _ _ _ _ _ _ (Below.refl _ _).drew hX) ?_; intro I W hNe hW hI; (try dsimp only at hW); have HI := Lib.hid hI; clear hI)
    repeat (go_big_quiet_step ((go_at_call 31; refine (sTwo _ _ (by omega) (by omega)).mono ?_; rintro e w5 ⟨rfl, hbw5⟩; exact ⟨rfl, HI.out _ (six_keep _ _ _ _ _ _ _ _ _ _ hbw5 (hW _))⟩)))
    (refine wpQuiet_nil ?_; intro _ hw'; obtain ⟨nq, hw''⟩ := hw'; subst hw''; have hN := hW nq; clear HI; generalize W nq = w9 at *; clear hW)
    have hb := hN.1
    go_wp2
    go_ret
    exact ⟨ret_str (by simp [stTxt]), (by repeat' (first | with_reducible assumption | with_reducible exact Below.refl _ _ | with_reducible refine Below.setCell ?_ ?_ _ | with_reducible refine Below.alloc ?_ ?_ _ | with_reducible apply Below.drew | with_reducible apply Below.drewn | (simp; done) | (simp; omega)))⟩

theorem dgs_is (t : ByteArray) : dgs t 0 4 = rY t ∧ dgs t 5 7 = rO t ∧ dgs t 8 10 = rD t ∧ dgs t 11 13 = rH t ∧ dgs t 14 16 = rI t ∧ dgs t 17 19 = rS t := ⟨rfl, rfl, rfl, rfl, rfl, rfl⟩
theorem ret_stb {a b c d e f a' b' c' d' e' f' : Int} {x y : Bool} (h1 : a = a') (h2 : b = b') (h3 : c = c') (h4 : d = d') (h5 : e = e') (h6 : f = f') (h7 : x = y) : Ending.returned (.tuple #[(.agg #[.int .i64 (a), .int .i64 (b), .int .i64 (c), .int .i64 (d), .int .i64 (e), .int .i64 (f)]), .bool x]) = .returned (.tuple #[(.agg #[.int .i64 (a'), .int .i64 (b'), .int .i64 (c'), .int .i64 (d'), .int .i64 (e'), .int .i64 (f')]), .bool y]) := by rw [h1, h2, h3, h4, h5, h6, h7]

set_option maxHeartbeats 8000000 in
theorem sReadStamp (t : ByteArray) (w : World) (hs : t.size ≤ 1000000000) :
    Calls Try.prog 18 #[.string t] w fun e w' => e = .returned (.tuple #[(.agg #[.int .i64 (rV t (rY t)), .int .i64 (rV t (rO t)), .int .i64 (rV t (rD t)), .int .i64 (rV t (rH t)), .int .i64 (rV t (rI t)), .int .i64 (rV t (rS t))]), .bool (rOk t)]) ∧ Below w.heap.size w w' := by
  obtain ⟨e1, e2, e3, e4, e5, e6⟩ := dgs_is t
  have E1 := Lib.hid e1; have E2 := Lib.hid e2; have E3 := Lib.hid e3; have E4 := Lib.hid e4; have E5 := Lib.hid e5; have E6 := Lib.hid e6
  clear e1 e2 e3 e4 e5 e6
  have hv := rV_yes (t := t)
  have hn := rV_no (t := t)
  have ho : rOk t = (svB (rY t) (rO t) (rD t) (rH t) (rI t) (rS t) && decide (stStr (rY t) (rO t) (rD t) (rH t) (rI t) (rS t) = t)) := rfl
  generalize rY t = y at *
  generalize rO t = m at *
  generalize rD t = d at *
  generalize rH t = h at *
  generalize rI t = i at *
  generalize rS t = s at *
  have HV := Lib.hid hv; have HN := Lib.hid hn
  clear hv hn
  have SS := same_some
  have LE := lists_eq
  have hZ : (fun w' => Below w.heap.size w w' ∧ w'.cell? ⟨w.heap.size, 0, none⟩ = some (.int .i64 (0)) ∧ w'.cell? ⟨w.heap.size, 1, none⟩ = some (.int .i64 (0)) ∧ w'.cell? ⟨w.heap.size, 2, none⟩ = some (.int .i64 (0)) ∧ w'.cell? ⟨w.heap.size, 3, none⟩ = some (.int .i64 (0)) ∧ w'.cell? ⟨w.heap.size, 4, none⟩ = some (.int .i64 (0)) ∧ w'.cell? ⟨w.heap.size, 5, none⟩ = some (.int .i64 (0))) (w.alloc (.cells #[.int .i64 0, .int .i64 0, .int .i64 0, .int .i64 0, .int .i64 0, .int .i64 0] 24)) := ⟨(Below.refl _ _).alloc (Nat.le_refl _) _, World.cell?_alloc_new _ _ _ _, World.cell?_alloc_new _ _ _ _, World.cell?_alloc_new _ _ _ _, World.cell?_alloc_new _ _ _ _, World.cell?_alloc_new _ _ _ _, World.cell?_alloc_new _ _ _ _⟩
  cases c : svB y m d h i s
  · have k : rOk t = false := by rw [ho, c]; rfl
    simp only [HN.out k, k]
    have C := Lib.hid c; clear c ho k
    go_enter Try.func18, Try.ntmps18
    (go_wp2_with fail; refine (sDigits t 0 4 _ (by omega) (by omega) hs).mono ?_; rw [E1.out]; rintro e wq ⟨rfl, rfl⟩; go_wp2_with fail; refine (sDigits t 5 7 _ (by omega) (by omega) hs).mono ?_; rw [E2.out]; rintro e wq ⟨rfl, rfl⟩; go_wp2_with fail; refine (sDigits t 8 10 _ (by omega) (by omega) hs).mono ?_; rw [E3.out]; rintro e wq ⟨rfl, rfl⟩; go_wp2_with fail; refine (sDigits t 11 13 _ (by omega) (by omega) hs).mono ?_; rw [E4.out]; rintro e wq ⟨rfl, rfl⟩; go_wp2_with fail; refine (sDigits t 14 16 _ (by omega) (by omega) hs).mono ?_; rw [E5.out]; rintro e wq ⟨rfl, rfl⟩; go_wp2_with fail; refine (sDigits t 17 19 _ (by omega) (by omega) hs).mono ?_; rw [E6.out]; rintro e wq ⟨rfl, rfl⟩)
    (go_wp2_with fail; refine (sStampValid _ _ _ _ _ _ _).mono ?_; rw [C.out]; rintro e wx ⟨rfl, hbx⟩; have hC := Below_at hbx; have hF := Below_fr hbx; have hb := Below.trans (show Below w.heap.size w _ from (by repeat' (first | with_reducible assumption | with_reducible exact Below.refl _ _ | with_reducible refine Below.setCell ?_ ?_ _ | with_reducible refine Below.alloc ?_ ?_ _ | with_reducible apply Below.drew | with_reducible apply Below.drewn | (simp; done) | (simp; omega)))) (hbx.mono (by first | omega | (simp; done) | (simp; omega))); have hz := hb.size; have hl := hbx.size; (try simp only [World.size_alloc, World.size_setCell, World.size_drew] at hl); (try have hs0 : w.heap.size < wx.heap.size := by omega); (try have hs1 : w.heap.size + 1 < wx.heap.size := by omega); clear hl)
    have hZ := six_keep _ _ _ _ _ _ _ _ _ _ (Below.trans ((Below.refl _ _).alloc (Nat.le_refl _) _) (hbx.mono (by simp))) hZ
    obtain ⟨_, z0, z1, z2, z3, z4, z5⟩ := hZ
    go_wp2
    ((try simp only [Exit.inBlock, Exit.then]); refine bodyPost_ret (v := .tuple #[(.agg #[.int .i64 (_), .int .i64 (_), .int .i64 (_), .int .i64 (_), .int .i64 (_), .int .i64 (_)]), .bool _]) (by simp [results, Try.results18, go_sem, *]; first | exact ⟨⟨rfl, rfl, rfl, rfl, rfl, rfl⟩, rfl⟩ | exact ⟨rfl, rfl, rfl, rfl, rfl, rfl⟩ | rfl) rfl ?_)
    exact ⟨rfl, (by repeat' (first | with_reducible assumption | with_reducible exact Below.refl _ _ | with_reducible refine Below.setCell ?_ ?_ _ | with_reducible refine Below.alloc ?_ ?_ _ | with_reducible apply Below.drew | with_reducible apply Below.drewn | (simp; done) | (simp; omega)))⟩
  · by_cases c2 : stStr y m d h i s = t
    · have k : rOk t = true := by rw [ho, c]; simp [c2]
      simp only [HV.out k, k]
      have C := Lib.hid c; have C2 := Lib.hid c2; clear c ho k c2
      go_enter Try.func18, Try.ntmps18
      (go_wp2_with fail; refine (sDigits t 0 4 _ (by omega) (by omega) hs).mono ?_; rw [E1.out]; rintro e wq ⟨rfl, rfl⟩; go_wp2_with fail; refine (sDigits t 5 7 _ (by omega) (by omega) hs).mono ?_; rw [E2.out]; rintro e wq ⟨rfl, rfl⟩; go_wp2_with fail; refine (sDigits t 8 10 _ (by omega) (by omega) hs).mono ?_; rw [E3.out]; rintro e wq ⟨rfl, rfl⟩; go_wp2_with fail; refine (sDigits t 11 13 _ (by omega) (by omega) hs).mono ?_; rw [E4.out]; rintro e wq ⟨rfl, rfl⟩; go_wp2_with fail; refine (sDigits t 14 16 _ (by omega) (by omega) hs).mono ?_; rw [E5.out]; rintro e wq ⟨rfl, rfl⟩; go_wp2_with fail; refine (sDigits t 17 19 _ (by omega) (by omega) hs).mono ?_; rw [E6.out]; rintro e wq ⟨rfl, rfl⟩)
      (go_wp2_with fail; refine (sStampValid _ _ _ _ _ _ _).mono ?_; rw [C.out]; rintro e wx ⟨rfl, hbx⟩; have hC := Below_at hbx; have hF := Below_fr hbx; have hb := Below.trans (show Below w.heap.size w _ from (by repeat' (first | with_reducible assumption | with_reducible exact Below.refl _ _ | with_reducible refine Below.setCell ?_ ?_ _ | with_reducible refine Below.alloc ?_ ?_ _ | with_reducible apply Below.drew | with_reducible apply Below.drewn | (simp; done) | (simp; omega)))) (hbx.mono (by first | omega | (simp; done) | (simp; omega))); have hz := hb.size; have hl := hbx.size; (try simp only [World.size_alloc, World.size_setCell, World.size_drew] at hl); (try have hs0 : w.heap.size < wx.heap.size := by omega); (try have hs1 : w.heap.size + 1 < wx.heap.size := by omega); clear hl)
      have hZ := six_keep _ _ _ _ _ _ _ _ _ _ (Below.trans ((Below.refl _ _).alloc (Nat.le_refl _) _) (hbx.mono (by simp))) hZ
      (go_wp2_with fail; refine (sStampText _ _ _ _ _ _ _).mono ?_; rw [C2.out]; rintro e wx ⟨rfl, hbx⟩; have hC := Below_at hbx; have hF := Below_fr hbx; have hb := Below.trans (show Below w.heap.size w _ from (by repeat' (first | with_reducible assumption | with_reducible exact Below.refl _ _ | with_reducible refine Below.setCell ?_ ?_ _ | with_reducible refine Below.alloc ?_ ?_ _ | with_reducible apply Below.drew | with_reducible apply Below.drewn | (simp; done) | (simp; omega)))) (hbx.mono (by first | omega | (simp; done) | (simp; omega))); have hz := hb.size; have hl := hbx.size; (try simp only [World.size_alloc, World.size_setCell, World.size_drew] at hl); (try have hs0 : w.heap.size < wx.heap.size := by omega); (try have hs1 : w.heap.size + 1 < wx.heap.size := by omega); clear hl)
      have hZ := six_keep _ _ _ _ _ _ _ _ _ _ hbx hZ
      obtain ⟨_, z0, z1, z2, z3, z4, z5⟩ := hZ
      go_wp2
      ((try simp only [Exit.inBlock, Exit.then]); refine bodyPost_ret (v := .tuple #[(.agg #[.int .i64 (_), .int .i64 (_), .int .i64 (_), .int .i64 (_), .int .i64 (_), .int .i64 (_)]), .bool _]) (by simp [results, Try.results18, go_sem, *]; first | exact ⟨⟨rfl, rfl, rfl, rfl, rfl, rfl⟩, rfl⟩ | exact ⟨rfl, rfl, rfl, rfl, rfl, rfl⟩ | rfl) rfl ?_)
      exact ⟨rfl, (by repeat' (first | with_reducible assumption | with_reducible exact Below.refl _ _ | with_reducible refine Below.setCell ?_ ?_ _ | with_reducible refine Below.alloc ?_ ?_ _ | with_reducible apply Below.drew | with_reducible apply Below.drewn | (simp; done) | (simp; omega)))⟩
    · have k : rOk t = false := by rw [ho, c]; simp [c2]
      simp only [HN.out k, k]
      have c3 : decide (stStr y m d h i s = t) = false := by simpa using c2
      have C := Lib.hid c; clear c ho k
      go_enter Try.func18, Try.ntmps18
      (go_wp2_with fail; refine (sDigits t 0 4 _ (by omega) (by omega) hs).mono ?_; rw [E1.out]; rintro e wq ⟨rfl, rfl⟩; go_wp2_with fail; refine (sDigits t 5 7 _ (by omega) (by omega) hs).mono ?_; rw [E2.out]; rintro e wq ⟨rfl, rfl⟩; go_wp2_with fail; refine (sDigits t 8 10 _ (by omega) (by omega) hs).mono ?_; rw [E3.out]; rintro e wq ⟨rfl, rfl⟩; go_wp2_with fail; refine (sDigits t 11 13 _ (by omega) (by omega) hs).mono ?_; rw [E4.out]; rintro e wq ⟨rfl, rfl⟩; go_wp2_with fail; refine (sDigits t 14 16 _ (by omega) (by omega) hs).mono ?_; rw [E5.out]; rintro e wq ⟨rfl, rfl⟩; go_wp2_with fail; refine (sDigits t 17 19 _ (by omega) (by omega) hs).mono ?_; rw [E6.out]; rintro e wq ⟨rfl, rfl⟩)
      (go_wp2_with fail; refine (sStampValid _ _ _ _ _ _ _).mono ?_; rw [C.out]; rintro e wx ⟨rfl, hbx⟩; have hC := Below_at hbx; have hF := Below_fr hbx; have hb := Below.trans (show Below w.heap.size w _ from (by repeat' (first | with_reducible assumption | with_reducible exact Below.refl _ _ | with_reducible refine Below.setCell ?_ ?_ _ | with_reducible refine Below.alloc ?_ ?_ _ | with_reducible apply Below.drew | with_reducible apply Below.drewn | (simp; done) | (simp; omega)))) (hbx.mono (by first | omega | (simp; done) | (simp; omega))); have hz := hb.size; have hl := hbx.size; (try simp only [World.size_alloc, World.size_setCell, World.size_drew] at hl); (try have hs0 : w.heap.size < wx.heap.size := by omega); (try have hs1 : w.heap.size + 1 < wx.heap.size := by omega); clear hl)
      have hZ := six_keep _ _ _ _ _ _ _ _ _ _ (Below.trans ((Below.refl _ _).alloc (Nat.le_refl _) _) (hbx.mono (by simp))) hZ
      (go_wp2_with fail; refine (sStampText _ _ _ _ _ _ _).mono ?_; rintro e wx ⟨rfl, hbx⟩; have hC := Below_at hbx; have hF := Below_fr hbx; have hb := Below.trans (show Below w.heap.size w _ from (by repeat' (first | with_reducible assumption | with_reducible exact Below.refl _ _ | with_reducible refine Below.setCell ?_ ?_ _ | with_reducible refine Below.alloc ?_ ?_ _ | with_reducible apply Below.drew | with_reducible apply Below.drewn | (simp; done) | (simp; omega)))) (hbx.mono (by first | omega | (simp; done) | (simp; omega))); have hz := hb.size; have hl := hbx.size; (try simp only [World.size_alloc, World.size_setCell, World.size_drew] at hl); (try have hs0 : w.heap.size < wx.heap.size := by omega); (try have hs1 : w.heap.size + 1 < wx.heap.size := by omega); clear hl)
      have hZ := six_keep _ _ _ _ _ _ _ _ _ _ hbx hZ
      obtain ⟨_, z0, z1, z2, z3, z4, z5⟩ := hZ
      go_wp2
      ((try simp only [Exit.inBlock, Exit.then]); refine bodyPost_ret (v := .tuple #[(.agg #[.int .i64 (_), .int .i64 (_), .int .i64 (_), .int .i64 (_), .int .i64 (_), .int .i64 (_)]), .bool _]) (by simp [results, Try.results18, go_sem, *]; first | exact ⟨⟨rfl, rfl, rfl, rfl, rfl, rfl⟩, rfl⟩ | exact ⟨rfl, rfl, rfl, rfl, rfl, rfl⟩ | rfl) rfl ?_)
      exact ⟨rfl, (by repeat' (first | with_reducible assumption | with_reducible exact Below.refl _ _ | with_reducible refine Below.setCell ?_ ?_ _ | with_reducible refine Below.alloc ?_ ?_ _ | with_reducible apply Below.drew | with_reducible apply Below.drewn | (simp; done) | (simp; omega)))⟩

set_option maxHeartbeats 8000000 in
theorem sOffsetText (n : Int) (w : World) :
    Calls Try.prog 21 #[.int .i64 n] w fun e w' => e = .returned (.string (ofStr n)) ∧ Below w.heap.size w w' := by
  have SA := str_app
  have SZ := strOfNums_size
  have DL := d2_len
  have K45 := k45; have K43 := k43; have K58 := k58
  cases c : ofIn n
  · rw [ofStr_no c]
    have cc : n < -720 ∨ 960 < n := by have := of_decide_eq_false c; omega
    have C := Lib.hid cc; clear c cc
    go_enter Try.func21, Try.ntmps21
    go_wp2_with (go_at_call 33; refine (l1In_no _ _ _ _ C.out).mono ?_; rintro e wx ⟨rfl, rfl⟩)
    go_ret
    exact ⟨ret_str rfl, (by repeat' (first | with_reducible assumption | with_reducible exact Below.refl _ _ | with_reducible refine Below.setCell ?_ ?_ _ | with_reducible refine Below.alloc ?_ ?_ _ | with_reducible apply Below.drew | with_reducible apply Below.drewn | (simp; done) | (simp; omega)))⟩
  · rw [ofStr_yes c]
    have cc : -720 ≤ n ∧ n ≤ 960 := of_decide_eq_true c
    obtain ⟨n1, n9⟩ := cc
    clear c
    unfold ofTxt
    rcases Int.lt_trichotomy n 0 with g | g | g
    · rw [if_neg (by omega), if_pos g]
      have q1 : (-n).tdiv 60 = -n / 60 := Int.tdiv_eq_ediv_of_nonneg (by omega)
      have q2 : (-n).tmod 60 = -n % 60 := Int.tmod_eq_emod_of_nonneg (by omega)
      go_enter Try.func21, Try.ntmps21
      go_wp2_with (go_at_call 33; refine (l1In_yes _ _ _ _ (by omega) (by omega)).mono ?_; rintro e wx ⟨rfl, rfl⟩)
      (refine (sTwo _ _ (by omega) (by omega)).mono ?_; rintro e wx ⟨rfl, hbx⟩; have hC := Below_at hbx; have hF := Below_fr hbx; have hb := Below.trans (show Below w.heap.size w _ from (by repeat' (first | with_reducible assumption | with_reducible exact Below.refl _ _ | with_reducible refine Below.setCell ?_ ?_ _ | with_reducible refine Below.alloc ?_ ?_ _ | with_reducible apply Below.drew | with_reducible apply Below.drewn | (simp; done) | (simp; omega)))) (hbx.mono (by first | omega | (simp; done) | (simp; omega))); have hz := hb.size; have hl := hbx.size; (try simp only [World.size_alloc, World.size_setCell, World.size_drew] at hl); (try have hs0 : w.heap.size < wx.heap.size := by omega); (try have hs1 : w.heap.size + 1 < wx.heap.size := by omega); clear hl)
      (go_wp2_with fail; refine (sTwo _ _ (by omega) (by omega)).mono ?_; rintro e wx ⟨rfl, hbx⟩; have hC := Below_at hbx; have hF := Below_fr hbx; have hb := Below.trans (show Below w.heap.size w _ from (by repeat' (first | with_reducible assumption | with_reducible exact Below.refl _ _ | with_reducible refine Below.setCell ?_ ?_ _ | with_reducible refine Below.alloc ?_ ?_ _ | with_reducible apply Below.drew | with_reducible apply Below.drewn | (simp; done) | (simp; omega)))) (hbx.mono (by first | omega | (simp; done) | (simp; omega))); have hz := hb.size; have hl := hbx.size; (try simp only [World.size_alloc, World.size_setCell, World.size_drew] at hl); (try have hs0 : w.heap.size < wx.heap.size := by omega); (try have hs1 : w.heap.size + 1 < wx.heap.size := by omega); clear hl)
      go_wp2
      go_ret
      exact ⟨ret_str (by simp), (by repeat' (first | with_reducible assumption | with_reducible exact Below.refl _ _ | with_reducible refine Below.setCell ?_ ?_ _ | with_reducible refine Below.alloc ?_ ?_ _ | with_reducible apply Below.drew | with_reducible apply Below.drewn | (simp; done) | (simp; omega)))⟩
    · rw [if_pos g]
      subst g
      go_enter Try.func21, Try.ntmps21
      go_wp2_with (go_at_call 33; refine (l1In_yes _ _ _ _ (by omega) (by omega)).mono ?_; rintro e wx ⟨rfl, rfl⟩)
      go_ret
      exact ⟨ret_str rfl, (by repeat' (first | with_reducible assumption | with_reducible exact Below.refl _ _ | with_reducible refine Below.setCell ?_ ?_ _ | with_reducible refine Below.alloc ?_ ?_ _ | with_reducible apply Below.drew | with_reducible apply Below.drewn | (simp; done) | (simp; omega)))⟩
    · rw [if_neg (by omega), if_neg (by omega)]
      have q1 : n.tdiv 60 = n / 60 := Int.tdiv_eq_ediv_of_nonneg (by omega)
      have q2 : n.tmod 60 = n % 60 := Int.tmod_eq_emod_of_nonneg (by omega)
      go_enter Try.func21, Try.ntmps21
      go_wp2_with (go_at_call 33; refine (l1In_yes _ _ _ _ (by omega) (by omega)).mono ?_; rintro e wx ⟨rfl, rfl⟩)
      (refine (sTwo _ _ (by omega) (by omega)).mono ?_; rintro e wx ⟨rfl, hbx⟩; have hC := Below_at hbx; have hF := Below_fr hbx; have hb := Below.trans (show Below w.heap.size w _ from (by repeat' (first | with_reducible assumption | with_reducible exact Below.refl _ _ | with_reducible refine Below.setCell ?_ ?_ _ | with_reducible refine Below.alloc ?_ ?_ _ | with_reducible apply Below.drew | with_reducible apply Below.drewn | (simp; done) | (simp; omega)))) (hbx.mono (by first | omega | (simp; done) | (simp; omega))); have hz := hb.size; have hl := hbx.size; (try simp only [World.size_alloc, World.size_setCell, World.size_drew] at hl); (try have hs0 : w.heap.size < wx.heap.size := by omega); (try have hs1 : w.heap.size + 1 < wx.heap.size := by omega); clear hl)
      (go_wp2_with fail; refine (sTwo _ _ (by omega) (by omega)).mono ?_; rintro e wx ⟨rfl, hbx⟩; have hC := Below_at hbx; have hF := Below_fr hbx; have hb := Below.trans (show Below w.heap.size w _ from (by repeat' (first | with_reducible assumption | with_reducible exact Below.refl _ _ | with_reducible refine Below.setCell ?_ ?_ _ | with_reducible refine Below.alloc ?_ ?_ _ | with_reducible apply Below.drew | with_reducible apply Below.drewn | (simp; done) | (simp; omega)))) (hbx.mono (by first | omega | (simp; done) | (simp; omega))); have hz := hb.size; have hl := hbx.size; (try simp only [World.size_alloc, World.size_setCell, World.size_drew] at hl); (try have hs0 : w.heap.size < wx.heap.size := by omega); (try have hs1 : w.heap.size + 1 < wx.heap.size := by omega); clear hl)
      go_wp2
      go_ret
      exact ⟨ret_str (by simp), (by repeat' (first | with_reducible assumption | with_reducible exact Below.refl _ _ | with_reducible refine Below.setCell ?_ ?_ _ | with_reducible refine Below.alloc ?_ ?_ _ | with_reducible apply Below.drew | with_reducible apply Below.drewn | (simp; done) | (simp; omega)))⟩

/-- What a text says as an offset: 0 if it is none. -/
def qR (t : ByteArray) : Int := if qOk t then qV t else 0
theorem ret_ib {a b : Int} {x y : Bool} (h1 : a = b) (h2 : x = y) : Ending.returned (.tuple #[.int .i64 a, .bool x]) = .returned (.tuple #[.int .i64 b, .bool y]) := by rw [h1, h2]
theorem head_at {t : ByteArray} (h : 0 < t.size) : (nms t).head? = some (t[0].toNat : Int) := by
  have := nms_at h
  rw [List.drop_zero] at this
  rw [this, List.head?_cons]

set_option maxHeartbeats 8000000 in
theorem sReadOffset (t : ByteArray) (w : World) (hs : t.size ≤ 1000000000) :
    Calls Try.prog 24 #[.string t] w fun e w' => e = .returned (.tuple #[.int .i64 (qR t), .bool (qOk t)]) ∧ Below w.heap.size w w' := by
  have K90 := k90; have K0 := k0
  have LE := lists_eq
  have ba := dgl2_bd ((nms t).drop 1)
  have bb := dgl2_bd ((nms t).drop 4)
  have ea : dgs t 1 3 = dgl ((nms t).drop 1) 2 0 := rfl
  have eb : dgs t 4 6 = dgl ((nms t).drop 4) 2 0 := rfl
  have en : qN t = 60 * dgl ((nms t).drop 1) 2 0 + dgl ((nms t).drop 4) 2 0 := rfl
  generalize dgl ((nms t).drop 1) 2 0 = a at *
  generalize dgl ((nms t).drop 4) 2 0 = b at *
  have EA := Lib.hid ea; have EB := Lib.hid eb
  clear ea eb
  have hZ := head_at (t := t)
  have hv : qV t = if (nms t).head? = some 45 then -(if t = strOfNums [90] then 0 else qN t) else if t = strOfNums [90] then 0 else qN t := rfl
  have hk : qOk t = (decide (t ≠ strOfNums []) && decide (ofStr (qV t) = t)) := rfl
  rw [en] at hv
  clear en
  by_cases e0 : t = strOfNums []
  · have k : qOk t = false := by rw [hk]; simp [e0]
    unfold qR
    rw [k, if_neg (by simp)]
    have ez : ¬ t = strOfNums [90] := by rw [e0]; intro h; have := congrArg ByteArray.size h; simp [strOfNums_size] at this
    have e1 : decide (t = strOfNums []) = true := by simpa using e0
    have e2 : decide (t = strOfNums [90]) = false := by simpa using ez
    clear hZ hv hk k e0 ez
    go_enter Try.func24, Try.ntmps24
    go_wp2_with fail
    refine (sDigits t 1 3 _ (by omega) (by omega) hs).mono ?_
    rw [EA.out]
    rintro e wq ⟨rfl, rfl⟩
    go_wp2_with fail
    refine (sDigits t 4 6 _ (by omega) (by omega) hs).mono ?_
    rw [EB.out]
    rintro e wq ⟨rfl, rfl⟩
    go_wp2
    go_ret2
    exact ⟨rfl, (by repeat' (first | with_reducible assumption | with_reducible exact Below.refl _ _ | with_reducible refine Below.setCell ?_ ?_ _ | with_reducible refine Below.alloc ?_ ?_ _ | with_reducible apply Below.drew | with_reducible apply Below.drewn | (simp; done) | (simp; omega)))⟩
  · have hp : 0 < t.size := by
      rcases Nat.eq_zero_or_pos t.size with h | h
      · exact absurd (nms_inj (by rw [nms_of (by simp)]; exact List.eq_nil_of_length_eq_zero (by rw [nms_size]; exact h))) e0
      · exact h
    have hz := hZ hp
    clear hZ
    rw [hz] at hv
    have hb := t[0].toNat_lt
    by_cases z : t = strOfNums [90]
    · have t0 : (t[0].toNat : Int) = 90 := by
        have : nms t = [90] := by rw [z]; exact nms_of (by simp)
        rw [this] at hz
        simpa using hz.symm
      have v : qV t = 0 := by rw [hv, if_pos z]; simp
      rw [v] at hk
      have z1 : decide (t = strOfNums [90]) = true := by simpa using z
      have e1 : decide (t = strOfNums []) = false := by simpa using e0
      clear hv hz z
      by_cases g : ofStr 0 = t
      · have k : qOk t = true := by rw [hk]; simp [e0, g]
        clear e0
        unfold qR
        rw [k, if_pos rfl, v]
        have G := Lib.hid g; clear g hk k v
        go_enter Try.func24, Try.ntmps24
        (go_wp2_with fail; refine (sDigits t 1 3 _ (by omega) (by omega) hs).mono ?_; rw [EA.out]; rintro e wq ⟨rfl, rfl⟩; go_wp2_with fail; refine (sDigits t 4 6 _ (by omega) (by omega) hs).mono ?_; rw [EB.out]; rintro e wq ⟨rfl, rfl⟩)
        go_wp2_with fail
        refine (sOffsetText _ _).mono ?_
        rw [G.out]
        rintro e wx ⟨rfl, hb⟩
        go_wp2
        go_ret2
        exact ⟨rfl, (by repeat' (first | with_reducible assumption | with_reducible exact Below.refl _ _ | with_reducible refine Below.setCell ?_ ?_ _ | with_reducible refine Below.alloc ?_ ?_ _ | with_reducible apply Below.drew | with_reducible apply Below.drewn | (simp; done) | (simp; omega)))⟩
      · have k : qOk t = false := by rw [hk]; simp [g]
        unfold qR
        rw [k, if_neg (by simp)]
        clear hk k v
        go_enter Try.func24, Try.ntmps24
        (go_wp2_with fail; refine (sDigits t 1 3 _ (by omega) (by omega) hs).mono ?_; rw [EA.out]; rintro e wq ⟨rfl, rfl⟩; go_wp2_with fail; refine (sDigits t 4 6 _ (by omega) (by omega) hs).mono ?_; rw [EB.out]; rintro e wq ⟨rfl, rfl⟩)
        go_wp2_with fail
        refine (sOffsetText _ _).mono ?_
        rintro e wx ⟨rfl, hb⟩
        go_wp2
        go_ret2
        exact ⟨rfl, (by repeat' (first | with_reducible assumption | with_reducible exact Below.refl _ _ | with_reducible refine Below.setCell ?_ ?_ _ | with_reducible refine Below.alloc ?_ ?_ _ | with_reducible apply Below.drew | with_reducible apply Below.drewn | (simp; done) | (simp; omega)))⟩
    · rw [if_neg z] at hv
      have t0 : ∃ x : Int, (t[0].toNat : Int) = x := ⟨_, rfl⟩
      by_cases n0 : (t[0].toNat : Int) = 45
      · have v : qV t = -(60 * a + b) := by rw [hv, n0, if_pos rfl]
        rw [v] at hk
        have n0' : ((t[0].toNat : Int) == 45) = true := by simpa using n0
        clear hv hz n0 t0
        by_cases g : ofStr (-(60 * a + b)) = t
        · have k : qOk t = true := by rw [hk]; simp [e0, g]
          unfold qR
          rw [k, if_pos rfl, v]
          have G := Lib.hid g; clear g hk k v
          go_enter Try.func24, Try.ntmps24
          (go_wp2_with fail; refine (sDigits t 1 3 _ (by omega) (by omega) hs).mono ?_; rw [EA.out]; rintro e wq ⟨rfl, rfl⟩; go_wp2_with fail; refine (sDigits t 4 6 _ (by omega) (by omega) hs).mono ?_; rw [EB.out]; rintro e wq ⟨rfl, rfl⟩)
          go_wp2_with fail
          refine (sOffsetText _ _).mono ?_
          rw [G.out]
          rintro e wx ⟨rfl, hb⟩
          go_wp2
          go_ret2
          exact ⟨rfl, (by repeat' (first | with_reducible assumption | with_reducible exact Below.refl _ _ | with_reducible refine Below.setCell ?_ ?_ _ | with_reducible refine Below.alloc ?_ ?_ _ | with_reducible apply Below.drew | with_reducible apply Below.drewn | (simp; done) | (simp; omega)))⟩
        · have k : qOk t = false := by rw [hk]; simp [g]
          unfold qR
          rw [k, if_neg (by simp)]
          clear hk k v
          go_enter Try.func24, Try.ntmps24
          (go_wp2_with fail; refine (sDigits t 1 3 _ (by omega) (by omega) hs).mono ?_; rw [EA.out]; rintro e wq ⟨rfl, rfl⟩; go_wp2_with fail; refine (sDigits t 4 6 _ (by omega) (by omega) hs).mono ?_; rw [EB.out]; rintro e wq ⟨rfl, rfl⟩)
          go_wp2_with fail
          refine (sOffsetText _ _).mono ?_
          rintro e wx ⟨rfl, hb⟩
          go_wp2
          go_ret2
          exact ⟨rfl, (by repeat' (first | with_reducible assumption | with_reducible exact Below.refl _ _ | with_reducible refine Below.setCell ?_ ?_ _ | with_reducible refine Below.alloc ?_ ?_ _ | with_reducible apply Below.drew | with_reducible apply Below.drewn | (simp; done) | (simp; omega)))⟩
      · have v : qV t = 60 * a + b := by rw [hv, if_neg (by simpa using n0)]
        rw [v] at hk
        have n0' : ((t[0].toNat : Int) == 45) = false := by simpa using n0
        clear hv hz n0 t0
        by_cases g : ofStr (60 * a + b) = t
        · have k : qOk t = true := by rw [hk]; simp [e0, g]
          unfold qR
          rw [k, if_pos rfl, v]
          have G := Lib.hid g; clear g hk k v
          go_enter Try.func24, Try.ntmps24
          (go_wp2_with fail; refine (sDigits t 1 3 _ (by omega) (by omega) hs).mono ?_; rw [EA.out]; rintro e wq ⟨rfl, rfl⟩; go_wp2_with fail; refine (sDigits t 4 6 _ (by omega) (by omega) hs).mono ?_; rw [EB.out]; rintro e wq ⟨rfl, rfl⟩)
          go_wp2_with fail
          refine (sOffsetText _ _).mono ?_
          rw [G.out]
          rintro e wx ⟨rfl, hb⟩
          go_wp2
          go_ret2
          exact ⟨rfl, (by repeat' (first | with_reducible assumption | with_reducible exact Below.refl _ _ | with_reducible refine Below.setCell ?_ ?_ _ | with_reducible refine Below.alloc ?_ ?_ _ | with_reducible apply Below.drew | with_reducible apply Below.drewn | (simp; done) | (simp; omega)))⟩
        · have k : qOk t = false := by rw [hk]; simp [g]
          unfold qR
          rw [k, if_neg (by simp)]
          clear hk k v
          go_enter Try.func24, Try.ntmps24
          (go_wp2_with fail; refine (sDigits t 1 3 _ (by omega) (by omega) hs).mono ?_; rw [EA.out]; rintro e wq ⟨rfl, rfl⟩; go_wp2_with fail; refine (sDigits t 4 6 _ (by omega) (by omega) hs).mono ?_; rw [EB.out]; rintro e wq ⟨rfl, rfl⟩)
          go_wp2_with fail
          refine (sOffsetText _ _).mono ?_
          rintro e wx ⟨rfl, hb⟩
          go_wp2
          go_ret2
          exact ⟨rfl, (by repeat' (first | with_reducible assumption | with_reducible exact Below.refl _ _ | with_reducible refine Below.setCell ?_ ?_ _ | with_reducible refine Below.alloc ?_ ?_ _ | with_reducible apply Below.drew | with_reducible apply Below.drewn | (simp; done) | (simp; omega)))⟩
end Go.Proofs.Ythiogmkicdgpiaa
