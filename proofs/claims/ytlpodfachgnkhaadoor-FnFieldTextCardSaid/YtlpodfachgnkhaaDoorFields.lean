/-
  CONTRACTS OF CHAPTER 7, of the model: fields, their sets and their texts.
-/
import Derived.Test.YtlpodfachgnkhaaDoorBits
import Derived.Test.YtlpodfachgnkhaaDoorTwo
import Derived.Test.YtlpodfachgnkhaaDoorHas
import Derived.Test.YtlpodfachgnkhaaDoorDates
import Derived.Deep.LoopGhost
import Derived.Deep.CutRange
import Derived.Deep.DeepCutAuto
set_option linter.unusedVariables false
set_option linter.unusedSimpArgs false
namespace Go.Proofs.YtlpodfachgnkhaaDoor
open Go.ChangeShapes Go.WideShapes Go.ChangeAt Go.RowKit Cal

set_option maxHeartbeats 4000000 in
theorem sFull (lo hi : Nat) (w : World) (h1 : lo ≤ hi) (h9 : hi ≤ 59) :
    Calls Tryd.prog 24 #[.int .i64 (lo : Int), .int .i64 (hi : Int)] w fun e w' => e = .returned (.int .i64 ((fullF lo hi : Nat) : Int)) ∧ w = w' := by
  generalize hF : fullF lo hi = F
  have HF : Hid (addR 0 lo 1 (hi + 1 - lo) = F) := hF
  clear hF
  go_enter Tryd.func24, Tryd.ntmps24
  go_wp2
  go_loop [5, 6] (fun sv kv => ∃ k S : Nat, kv = .int .i64 (k : Int) ∧ sv = .int .i64 (S : Int) ∧ lo ≤ k ∧ k ≤ hi + 1 ∧ S < 2 ^ 60 ∧ addR S k 1 (hi + 1 - k) = F) (fun _ kv => ((hi : Int) + 1 - intOf kv).toNat)
  case atStart => exact ⟨lo, 0, rfl, rfl, by omega, by omega, by omega, HF.out⟩
  case round =>
    obtain ⟨k, S, rfl, rfl, hk0, hk1, hS, hR⟩ := hrel
    have HR := Lib.hid hR
    clear hR
    by_cases h : k ≤ hi
    · have hh : (k : Int) ≤ hi := by omega
      have p : (2 : Nat) ^ k < 2 ^ 60 := Nat.pow_lt_pow_right (by omega) (by omega)
      have r1 := shl_wrap (k := k) (by omega)
      have r2 := Lib.hid (or_bit hS (show k ≤ 59 by omega))
      go_wp2
      go_round
      case rel =>
        refine ⟨k + 1, S ||| 2 ^ k, by go_num, by rw [r2.out], by omega, by omega, Nat.or_lt_two_pow hS p, ?_⟩
        have := HR.out
        rw [show hi + 1 - k = (hi + 1 - (k + 1)) + 1 by omega] at this
        exact this
      case measure => simp [intOf]; omega
    · have : k = hi + 1 := by omega
      subst this
      have e := HR.out
      rw [Nat.sub_self] at e
      go_wp2
      go_ret
      exact ⟨ret_int (by simp only [addR] at e; rw [e]), rfl⟩

/-- There is such a field. -/
def fdB (lo hi : Int) : Bool := decide (0 ≤ lo ∧ lo ≤ 59) && decide (lo ≤ hi ∧ hi ≤ 59)
theorem fd_yes {lo hi : Int} (c : fdB lo hi = true) : 0 ≤ lo ∧ lo ≤ hi ∧ hi ≤ 59 := by
  unfold fdB at c
  simp at c
  omega
/-- A set is one of a field. -/
def fvB (S lo hi : Int) : Bool := fdB lo hi && (decide (0 < S) && decide (minus S.toNat (fullF lo.toNat hi.toNat) = 0))

theorem sValidF (lo hi : Int) (w : World) :
    Calls Tryd.prog 26 #[.int .i64 lo, .int .i64 hi] w fun e w' => e = .returned (.bool (fdB lo hi)) ∧ w = w' := by
  by_cases c1 : 0 ≤ lo ∧ lo ≤ 59
  · by_cases c2 : lo ≤ hi ∧ hi ≤ 59
    · have e : fdB lo hi = true := by unfold fdB; simp [c1, c2]
      rw [e]
      obtain ⟨a1, a2⟩ := c1; obtain ⟨b1, b2⟩ := c2
      go_enter Tryd.func26, Tryd.ntmps26
      go_wp2_with (go_at_call 35; refine (l1In_yes _ _ _ _ (by omega) (by omega)).mono ?_; rintro e wx ⟨rfl, rfl⟩)
      go_ret
      exact ⟨rfl, rfl⟩
    · have e : fdB lo hi = false := by unfold fdB; simp [c2]
      rw [e]
      have C := Lib.hid (show hi < lo ∨ 59 < hi by omega)
      obtain ⟨a1, a2⟩ := c1
      clear c2 e
      go_enter Tryd.func26, Tryd.ntmps26
      go_wp2_with (first | (go_at_call_of 35 (Value.int IntKind.i64 lo); refine (l1In_yes _ _ _ _ (by omega) (by omega)).mono ?_; rintro e wx ⟨rfl, rfl⟩) | (go_at_call 35; refine (l1In_no _ _ _ _ C.out).mono ?_; rintro e wx ⟨rfl, rfl⟩))
      go_ret
      exact ⟨rfl, rfl⟩
  · have e : fdB lo hi = false := by unfold fdB; simp [c1]
    rw [e]
    have C := Lib.hid (show lo < 0 ∨ 59 < lo by omega)
    clear c1 e
    go_enter Tryd.func26, Tryd.ntmps26
    go_wp2_with (go_at_call 35; refine (l1In_no _ _ _ _ C.out).mono ?_; rintro e wx ⟨rfl, rfl⟩)
    go_ret
    exact ⟨rfl, rfl⟩

theorem sFullI (lo hi : Int) (w : World) (h : fdB lo hi = true) :
    Calls Tryd.prog 24 #[.int .i64 lo, .int .i64 hi] w fun e w' => e = .returned (.int .i64 ((fullF lo.toNat hi.toNat : Nat) : Int)) ∧ w = w' := by
  obtain ⟨h0, h1, h9⟩ := fd_yes h
  have := sFull lo.toNat hi.toNat w (by omega) (by omega)
  rwa [show ((lo.toNat : Nat) : Int) = lo by omega, show ((hi.toNat : Nat) : Int) = hi by omega] at this

theorem sFieldValid (S lo hi : Int) (w : World) (hS : S < 2 ^ 63) :
    Calls Tryd.prog 11 #[.int .i64 S, .int .i64 lo, .int .i64 hi] w fun e w' => e = .returned (.bool (fvB S lo hi)) ∧ w = w' := by
  cases c : fdB lo hi
  · have e : fvB S lo hi = false := by unfold fvB; rw [c]; rfl
    rw [e]
    have C := Lib.hid c; clear c e
    go_enter Tryd.func11, Tryd.ntmps11
    go_wp2_with (go_at_call 26; refine (sValidF _ _ _).mono ?_; rw [C.out]; rintro e wx ⟨rfl, rfl⟩)
    go_ret
    exact ⟨rfl, rfl⟩
  · by_cases p : 0 < S
    · have e : fvB S lo hi = decide (minus S.toNat (fullF lo.toNat hi.toNat) = 0) := by unfold fvB; simp [c, p]
      rw [e]
      obtain ⟨h0, h1, h9⟩ := fd_yes c
      have fl : fullF lo.toNat hi.toNat < 2 ^ 60 := inF_lt (lo := lo.toNat) (hi := hi.toNat) (fun n hn => by rw [fullF_bit] at hn; simpa using hn) (by omega)
      have m := i64_minus S.toNat (fullF lo.toNat hi.toNat) (by omega) (by omega)
      rw [show ((S.toNat : Nat) : Int) = S by omega] at m
      have C := Lib.hid c; clear c e
      have MM := Lib.hid m; clear m fl
      go_enter Tryd.func11, Tryd.ntmps11
      go_wp2_with (first | (go_at_call 26; refine (sValidF _ _ _).mono ?_; rw [C.out]; rintro e wx ⟨rfl, rfl⟩) | (go_at_call 24; refine (sFullI _ _ _ C.out).mono ?_; rintro e wx ⟨rfl, rfl⟩))
      go_ret
      exact ⟨ret_bool (by rw [MM.out, Bool.eq_iff_iff, beq_iff_eq, decide_eq_true_eq]; omega), rfl⟩
    · have e : fvB S lo hi = false := by unfold fvB; simp [p]
      rw [e]
      have C := Lib.hid c; clear c e
      go_enter Tryd.func11, Tryd.ntmps11
      go_wp2_with (go_at_call 26; refine (sValidF _ _ _).mono ?_; rw [C.out]; rintro e wx ⟨rfl, rfl⟩)
      go_ret
      exact ⟨rfl, rfl⟩

/-- A number is in a set. -/
def fhB (S n : Int) : Bool := decide (0 ≤ S) && (decide (0 ≤ n ∧ n ≤ 59) && S.toNat.testBit n.toNat)
theorem fhB_of {S n : Int} (hS : 0 ≤ S) (h0 : 0 ≤ n) (h9 : n ≤ 59) : fhB S n = S.toNat.testBit n.toNat := by
  unfold fhB; simp [hS, h0, h9]
theorem ret_ii {a b c d : Int} (h1 : a = b) (h2 : c = d) : Ending.returned (.tuple #[.int .i64 a, .int .i64 c]) = .returned (.tuple #[.int .i64 b, .int .i64 d]) := by rw [h1, h2]
/-- A byte becomes a text. -/
theorem conv1 (W : World) (x : Int) : Sem.run Tryd.prog (convert 22 9 (.slice (some ⟨W.heap.size, 0, none⟩) 1 1)) (W.alloc (.cells #[.int .u8 x] 5)) = .ok (.string (strOfNums [x])) (W.alloc (.cells #[.int .u8 x] 5)) :=
  run_convert_bytes_arg _ 22 5 (by kernel_rfl) (by kernel_rfl) W.heap.size 0 1 1 [x] rfl (fun i hi => by
    rw [World.cell?_alloc_new]
    match i, hi with
    | 0, _ => rfl) 9 (by kernel_rfl)
theorem sNumber (n : Nat) (w : World) (h : n ≤ 99) :
    Calls Tryd.prog 25 #[.int .i64 (n : Int)] w fun e w' => e = .returned (.string (strOfNums (numT n))) ∧ Below w.heap.size w w' := by
  have CV := conv1
  unfold numT
  by_cases c : n < 10
  · rw [if_pos c]
    have c' : (n : Int) < 10 := by omega
    go_enter Tryd.func25, Tryd.ntmps25
    go_wp2
    go_ret
    exact ⟨ret_str rfl, (by repeat' (first | with_reducible assumption | with_reducible exact Below.refl _ _ | with_reducible refine Below.setCell ?_ ?_ _ | with_reducible refine Below.alloc ?_ ?_ _ | with_reducible apply Below.drew | with_reducible apply Below.drewn | (simp; done) | (simp; omega)))⟩
  · rw [if_neg c]
    have c' : ¬ (n : Int) < 10 := by omega
    go_enter Tryd.func25, Tryd.ntmps25
    (go_wp2_with fail; refine (sTwo _ _ (by omega) (by omega)).mono ?_; rintro e wx ⟨rfl, hbx⟩; have hC := Below_at hbx; have hF := Below_fr hbx; have hb := Below.trans (show Below w.heap.size w _ from (by repeat' (first | with_reducible assumption | with_reducible exact Below.refl _ _ | with_reducible refine Below.setCell ?_ ?_ _ | with_reducible refine Below.alloc ?_ ?_ _ | with_reducible apply Below.drew | with_reducible apply Below.drewn | (simp; done) | (simp; omega)))) (hbx.mono (by first | omega | (simp; done) | (simp; omega))); have hz := hb.size; have hl := hbx.size; (try simp only [World.size_alloc, World.size_setCell, World.size_drew] at hl); (try have hs0 : w.heap.size < wx.heap.size := by omega); (try have hs1 : w.heap.size + 1 < wx.heap.size := by omega); clear hl)
    go_wp2
    go_ret
    exact ⟨ret_str rfl, (by repeat' (first | with_reducible assumption | with_reducible exact Below.refl _ _ | with_reducible refine Below.setCell ?_ ?_ _ | with_reducible refine Below.alloc ?_ ?_ _ | with_reducible apply Below.drew | with_reducible apply Below.drewn | (simp; done) | (simp; omega)))⟩

/-- The text of a set, or none. -/
def fdTxt (S lo hi : Int) : List Int := if fvB S lo hi then fTxt S.toNat lo.toNat hi.toNat else []
theorem fv_yes {S lo hi : Int} (h : fvB S lo hi = true) (h9 : S < 2 ^ 63) : fdB lo hi = true ∧ 0 < S ∧ inF S.toNat lo.toNat hi.toNat := by
  unfold fvB at h
  simp only [Bool.and_eq_true, decide_eq_true_eq] at h
  exact ⟨h.1, h.2.1, (minus_zero (by omega)).1 h.2.2⟩
theorem k44 : (⟨#[44]⟩ : ByteArray) = strOfNums [44] := rfl
theorem k42 : (⟨#[42]⟩ : ByteArray) = strOfNums [42] := rfl
theorem str_none {xs : List Int} (h : ∀ x ∈ xs, 0 ≤ x ∧ x < 256) : (strOfNums xs = strOfNums []) ↔ xs = [] := str_eq h (by simp)

theorem spanT_bd {k e : Nat} (h1 : k ≤ 59) (h2 : e ≤ 59) : ∀ x ∈ spanT k e, 0 ≤ x ∧ x < 256 := by
  intro x hx
  unfold spanT at hx
  rcases List.mem_append.1 hx with h | h
  · exact numT_bd h1 x h
  · split at h
    · rcases List.mem_cons.1 h with h | h
      · omega
      · exact numT_bd h2 x h
    · simp at h
theorem spanT_len (k e : Nat) : (spanT k e).length ≤ 5 := by
  unfold spanT
  have := num_len k; have := num_len e
  split <;> simp <;> omega
theorem joinT_bd {out t : List Int} (h : ∀ x ∈ out, 0 ≤ x ∧ x < 256) (k : ∀ x ∈ t, 0 ≤ x ∧ x < 256) : ∀ x ∈ joinT out t, 0 ≤ x ∧ x < 256 := by
  intro x hx
  unfold joinT at hx
  split at hx
  · exact k x hx
  · rcases List.mem_append.1 hx with g | g
    · exact h x g
    · rcases List.mem_cons.1 g with g | g
      · omega
      · exact k x g
theorem joinT_len {out t : List Int} (h : t.length ≤ 5) : (joinT out t).length ≤ out.length + 6 := by
  unfold joinT
  split
  · omega
  · simp; omega

set_option maxHeartbeats 8000000 in
theorem sFieldTextRuns (S lo hi : Nat) (w : World) (h1 : lo ≤ hi) (h9 : hi ≤ 59) (hS : S < 2 ^ 60) (hv : fvB (S : Int) (lo : Int) (hi : Int) = true) (hf : S ≠ fullF lo hi) :
    Calls Tryd.prog 10 #[.int .i64 (S : Int), .int .i64 (lo : Int), .int .i64 (hi : Int)] w fun e w' => e = .returned (.string (strOfNums (ftx S hi (hi + 2 - lo) lo []))) ∧ Below w.heap.size w w' := by
  generalize hR : ftx S hi (hi + 2 - lo) lo [] = R
  have HR := Lib.hid hR; clear hR
  have hfd : fdB (lo : Int) (hi : Int) = true := by unfold fdB; simp; omega
  have HV := Lib.hid hv; have HFD := Lib.hid hfd; clear hv hfd
  have hff : ((S : Int) == ((fullF lo hi : Nat) : Int)) = false := by simp; omega
  have HF : Hid (fullF (lo : Int).toNat (hi : Int).toNat = fullF lo hi) := by rw [Int.toNat_natCast, Int.toNat_natCast]; exact rfl
  have TB := bit_tmod
  have LE := lists_eq
  have K0 := k0; have K44 := k44; have K45 := k45
  have SA := str_app
  have SZ := strOfNums_size
  go_enter Tryd.func10, Tryd.ntmps10
  go_wp2_with (first | (go_at_call 11; refine (sFieldValid _ _ _ _ (by omega)).mono ?_; rw [HV.out]; rintro e wx ⟨rfl, rfl⟩) | (go_at_call 24; refine (sFullI _ _ _ HFD.out).mono ?_; rw [HF.out]; rintro e wx ⟨rfl, rfl⟩))
  go_loopg [7, 8] (hi + 2 - lo) (fun r ov kv wr => ∃ (k : Nat) (out : List Int), kv = .int .i64 (k : Int) ∧ ov = .string (strOfNums out) ∧ (lo ≤ k ∧ k ≤ hi + 1) ∧ hi + 1 - k < r ∧ out.length ≤ 6 * k ∧ (∀ x ∈ out, 0 ≤ x ∧ x < 256) ∧ ftx S hi r k out = R ∧ Below w.heap.size w wr)
  case atStart => exact ⟨lo, [], rfl, rfl, by omega, by omega, by simp, by simp, HR.out, Below.refl _ _⟩
  case round =>
    obtain ⟨k, out, rfl, rfl, ⟨hk0, hk1⟩, hg, hlen, hob, hR, hb⟩ := hrel
    obtain ⟨r, rfl⟩ : ∃ r, gk = r + 1 := ⟨gk - 1, by omega⟩
    have HR2 := Lib.hid hR; clear hR
    have HO := Lib.hid hob; clear hob
    have hz0 := hb.size
    by_cases c : k ≤ hi
    · have c' : (k : Int) ≤ hi := by omega
      cases hb' : S.testBit k
      · go_wp2
        go_roundg r
        case measure => omega
        case rel =>
          have e := HR2.out
          simp only [ftx] at e
          rw [if_neg (by omega), if_pos hb'] at e
          exact ⟨k + 1, out, by go_num, rfl, by omega, by omega, by omega, HO.out, e, hb⟩
      · have e := HR2.out
        simp only [ftx] at e
        rw [if_neg (by omega), if_neg (by rw [hb']; simp)] at e
        have re := runE_is (S := S) (hi := hi) (hi - k) k c (Nat.le_refl _)
        generalize hE : runE S hi (hi - k) k = E at *
        have HE := Lib.hid hE; have HR3 := Lib.hid e; have RE := Lib.hid re
        clear hE e re HR2
        go_wp2_with fail
        go_loopg [9] (hi - k) (fun q ev w2 => wr = w2 ∧ ∃ e : Nat, ev = .int .i64 (e : Int) ∧ k ≤ e ∧ e ≤ hi ∧ hi - e ≤ q ∧ runE S hi q e = E)
        case atStart => exact ⟨rfl, k, rfl, by omega, by omega, by omega, HE.out⟩
        case round =>
          obtain ⟨rfl, e, rfl, he0, he1, hq, hr⟩ := hrel
          have HQ := Lib.hid hr
          clear hr
          by_cases d : e < hi ∧ S.testBit (e + 1) = true
          · obtain ⟨d1, d2⟩ := d
            obtain ⟨q, rfl⟩ : ∃ q, gk = q + 1 := ⟨gk - 1, by omega⟩
            have d1' : (e : Int) < hi := by omega
            go_wp2
            go_roundg q
            case measure => omega
            case rel =>
              have x := HQ.out
              simp only [runE] at x
              rw [if_pos ⟨d1, d2⟩] at x
              exact ⟨rfl, e + 1, by go_num, by omega, by omega, by omega, x⟩
          · have x : e = E := by
              have x := HQ.out
              cases gk with
              | zero => exact x
              | succ q => simp only [runE] at x; rw [if_neg d] at x; exact x
            clear HQ
            have d' : ¬ (e : Int) < hi ∨ ((e : Int) < hi ∧ S.testBit (e + 1) = false) := by
              by_cases g : e < hi
              · exact .inr ⟨by omega, by simpa [g] using d⟩
              · exact .inl (by omega)
            clear d
            subst x
            have nk := num_len k; have ne := num_len e
            have bk := numT_bd (n := k) (by omega); have be := numT_bd (n := e) (by omega)
            have BK := Lib.hid bk; have BE := Lib.hid be
            clear bk be
            have HJ : Hid (∀ x ∈ joinT out (spanT k e), 0 ≤ x ∧ x < 256) := joinT_bd HO.out (spanT_bd (by omega) (by omega))
            have HL : Hid ((joinT out (spanT k e)).length ≤ out.length + 6) := joinT_len (spanT_len k e)
            have ok : decide (strOfNums out = strOfNums []) = decide (out = []) := by rw [decide_eq_decide]; exact str_none HO.out
            have ko : (out = [] ∧ joinT out (spanT k e) = spanT k e) ∨ (decide (strOfNums out = strOfNums []) = false ∧ joinT out (spanT k e) = out ++ 44 :: spanT k e) := by
              by_cases oe : out = []
              · exact .inl ⟨oe, by unfold joinT; rw [if_pos oe]⟩
              · exact .inr ⟨by rw [ok]; simpa using oe, by unfold joinT; rw [if_neg oe]⟩
            have ke : ((k : Int) < e ∧ spanT k e = numT k ++ 45 :: numT e) ∨ (¬ (k : Int) < e ∧ spanT k e = numT k) := by
              by_cases g : k < e
              · exact .inl ⟨by omega, by unfold spanT; rw [if_pos g]⟩
              · exact .inr ⟨by omega, by unfold spanT; rw [if_neg g, List.append_nil]⟩
            clear ok
            rcases ke with ⟨ke1, ke2⟩ | ⟨ke1, ke2⟩
            all_goals
              have KE := Lib.hid ke2; clear ke2
              rcases ko with ⟨rfl, ko2⟩ | ⟨ko1, ko2⟩
            all_goals
              have KO := Lib.hid ko2; clear ko2
              rcases d' with d1 | ⟨d1, d2⟩
            all_goals
              (go_wp2_with fail; refine (sNumber k _ (by omega)).mono ?_; rintro e wx ⟨rfl, hbx⟩; have hC := Below_at hbx; have hF := Below_fr hbx; have hb := Below.trans (show Below w.heap.size w _ from (by repeat' (first | with_reducible assumption | with_reducible exact Below.refl _ _ | with_reducible refine Below.setCell ?_ ?_ _ | with_reducible refine Below.alloc ?_ ?_ _ | with_reducible apply Below.drew | with_reducible apply Below.drewn | (simp; done) | (simp; omega)))) (hbx.mono (by first | omega | (simp; done) | (simp; omega))); have hz := hb.size; have hl := hbx.size; (try simp only [World.size_alloc, World.size_setCell, World.size_drew] at hl); (try have hs0 : w.heap.size < wx.heap.size := by omega); (try have hs1 : w.heap.size + 1 < wx.heap.size := by omega); clear hl)
              first | ((go_wp2_with fail; refine (sNumber e _ (by omega)).mono ?_; rintro e wx ⟨rfl, hbx⟩; have hC := Below_at hbx; have hF := Below_fr hbx; have hb := Below.trans (show Below w.heap.size w _ from (by repeat' (first | with_reducible assumption | with_reducible exact Below.refl _ _ | with_reducible refine Below.setCell ?_ ?_ _ | with_reducible refine Below.alloc ?_ ?_ _ | with_reducible apply Below.drew | with_reducible apply Below.drewn | (simp; done) | (simp; omega)))) (hbx.mono (by first | omega | (simp; done) | (simp; omega))); have hz := hb.size; have hl := hbx.size; (try simp only [World.size_alloc, World.size_setCell, World.size_drew] at hl); (try have hs0 : w.heap.size < wx.heap.size := by omega); (try have hs1 : w.heap.size + 1 < wx.heap.size := by omega); clear hl); go_wp2_with fail) | go_wp2_with fail
              go_roundg r
              case measure => omega
              case rel => exact ⟨e + 1, joinT _ (spanT k e), by go_num, by rw [KO.out, KE.out] <;> simp, by omega, by omega, by have := HL.out; first | omega | (simp only [List.length_nil] at this; omega), HJ.out, HR3.out, (by repeat' (first | with_reducible assumption | with_reducible exact Below.refl _ _ | with_reducible refine Below.setCell ?_ ?_ _ | with_reducible refine Below.alloc ?_ ?_ _ | with_reducible apply Below.drew | with_reducible apply Below.drewn | (simp; done) | (simp; omega)))⟩
    · have e := HR2.out
      simp only [ftx] at e
      rw [if_pos (by omega)] at e
      go_wp2
      go_ret
      exact ⟨ret_str (by rw [e]), hb⟩

theorem ftx_len {S hi : Nat} (h9 : hi ≤ 59) : ∀ (r k : Nat) (out : List Int), k ≤ hi + 1 → (ftx S hi r k out).length ≤ out.length + 6 * (hi + 1 - k)
  | 0, k, out, h => by simp only [ftx]; omega
  | r + 1, k, out, h => by
    simp only [ftx]
    split
    · omega
    · split
      · have := ftx_len (S := S) h9 r (k + 1) out (by omega)
        omega
      · obtain ⟨e1, e2, _⟩ := runE_is (S := S) (hi := hi) (hi - k) k (by omega) (Nat.le_refl _)
        have l := ftx_len (S := S) h9 r (runE S hi (hi - k) k + 1) (joinT out (spanT k (runE S hi (hi - k) k))) (by omega)
        have m := joinT_len (out := out) (spanT_len k (runE S hi (hi - k) k))
        omega
theorem ftx_bd {S hi : Nat} (h9 : hi ≤ 59) : ∀ (r k : Nat) (out : List Int), k ≤ hi + 1 → (∀ x ∈ out, 0 ≤ x ∧ x < 256) → ∀ x ∈ ftx S hi r k out, 0 ≤ x ∧ x < 256
  | 0, k, out, h, ho => by simp only [ftx]; exact ho
  | r + 1, k, out, h, ho => by
    simp only [ftx]
    split
    · exact ho
    · split
      · exact ftx_bd (S := S) h9 r (k + 1) out (by omega) ho
      · obtain ⟨e1, e2, _⟩ := runE_is (S := S) (hi := hi) (hi - k) k (by omega) (Nat.le_refl _)
        exact ftx_bd (S := S) h9 r _ _ (by omega) (joinT_bd ho (spanT_bd (by omega) (by omega)))
theorem fdTxt_len (S lo hi : Int) : (fdTxt S lo hi).length ≤ 400 := by
  unfold fdTxt
  split
  · rename_i c
    have fd : fdB lo hi = true := by
      unfold fvB at c
      simp only [Bool.and_eq_true] at c
      exact c.1
    obtain ⟨h0, h1, h9⟩ := fd_yes fd
    unfold fTxt
    split
    · simp
    · have := ftx_len (S := S.toNat) (hi := hi.toNat) (by omega) (hi.toNat + 2 - lo.toNat) lo.toNat [] (by omega)
      simp only [List.length_nil] at this
      omega
  · simp
theorem fdTxt_bd (S lo hi : Int) : ∀ x ∈ fdTxt S lo hi, 0 ≤ x ∧ x < 256 := by
  unfold fdTxt
  split
  · rename_i c
    have fd : fdB lo hi = true := by
      unfold fvB at c
      simp only [Bool.and_eq_true] at c
      exact c.1
    obtain ⟨h0, h1, h9⟩ := fd_yes fd
    unfold fTxt
    split
    · simp
    · exact ftx_bd (by omega) _ _ _ (by omega) (by simp)
  · simp

theorem sFieldText (S lo hi : Int) (w : World) (hS : S < 2 ^ 63) :
    Calls Tryd.prog 10 #[.int .i64 S, .int .i64 lo, .int .i64 hi] w fun e w' => e = .returned (.string (strOfNums (fdTxt S lo hi))) ∧ Below w.heap.size w w' := by
  cases c : fvB S lo hi
  · have e : fdTxt S lo hi = [] := by unfold fdTxt; rw [c]; rfl
    rw [e]
    have C := Lib.hid c; clear c e
    go_enter Tryd.func10, Tryd.ntmps10
    go_wp2_with (go_at_call 11; refine (sFieldValid _ _ _ _ hS).mono ?_; rw [C.out]; rintro e wx ⟨rfl, rfl⟩)
    go_ret
    exact ⟨ret_str rfl, Below.refl _ _⟩
  · obtain ⟨fd, p, hin⟩ := fv_yes c hS
    obtain ⟨h0, h1, h9⟩ := fd_yes fd
    have hlt := inF_lt hin (by omega)
    have e : fdTxt S lo hi = fTxt S.toNat lo.toNat hi.toNat := by unfold fdTxt; rw [c, if_pos rfl]
    rw [e]
    obtain ⟨A, rfl⟩ := Int.eq_ofNat_of_zero_le (Int.le_of_lt p)
    obtain ⟨l, rfl⟩ := Int.eq_ofNat_of_zero_le h0
    obtain ⟨h, rfl⟩ := Int.eq_ofNat_of_zero_le (show 0 ≤ hi by omega)
    simp only [Int.toNat_natCast] at hlt ⊢
    unfold fTxt
    by_cases f : A = fullF l h
    · rw [if_pos f]
      have FF : Hid (((fullF (l : Int).toNat (h : Int).toNat : Nat) : Int) = (A : Int)) := by rw [Int.toNat_natCast, Int.toNat_natCast, f]; exact rfl
      have C := Lib.hid c; have FD := Lib.hid fd; clear c e fd f
      go_enter Tryd.func10, Tryd.ntmps10
      go_wp2_with (first | (go_at_call 11; refine (sFieldValid _ _ _ _ hS).mono ?_; rw [C.out]; rintro e wx ⟨rfl, rfl⟩) | (go_at_call 24; refine (sFullI _ _ _ FD.out).mono ?_; rw [FF.out]; rintro e wx ⟨rfl, rfl⟩))
      go_ret
      exact ⟨ret_str rfl, Below.refl _ _⟩
    · rw [if_neg f]
      exact sFieldTextRuns A l h w (by omega) (by omega) hlt c f

/-- What a number at the beginning is, and how many digits it has. -/
def n2c : List Int → Nat
  | x :: y :: _ => if dig x then (if dig y then 2 else 1) else 0
  | [x] => if dig x then 1 else 0
  | [] => 0
def n2v : List Int → Int
  | x :: y :: _ => if dig x then (if dig y then 10 * (x - 48) + (y - 48) else x - 48) else 0
  | [x] => if dig x then x - 48 else 0
  | [] => 0
theorem n2_is (xs : List Int) : n2 xs = (if n2c xs = 0 then none else some ((n2v xs).toNat, xs.drop (n2c xs))) ∧ 0 ≤ n2v xs ∧ n2v xs ≤ 99 ∧ n2c xs ≤ 2 ∧ n2c xs ≤ xs.length := by
  match xs with
  | [] => simp [n2, n2c, n2v]
  | [x] =>
    cases d : dig x
    · simp [n2, n2c, n2v, d]
    · have := of_decide_eq_true d
      simp [n2, n2c, n2v, d]; omega
  | x :: y :: t =>
    cases d : dig x
    · simp [n2, n2c, n2v, d]
    · have := of_decide_eq_true d
      cases d' : dig y
      · simp [n2, n2c, n2v, d, d']; omega
      · have := of_decide_eq_true d'
        simp [n2, n2c, n2v, d, d']; omega

set_option maxHeartbeats 4000000 in
theorem sNum2 (s : ByteArray) (a : Nat) (w : World) (ha : a ≤ s.size) (hs : s.size ≤ 1000000000) :
    Calls Tryd.prog 34 #[.string s, .int .i64 (a : Int)] w fun e w' => e = .returned (.tuple #[.int .i64 (n2v ((nms s).drop a)), .int .i64 ((a + n2c ((nms s).drop a) : Nat) : Int)]) ∧ w = w' := by
  by_cases h1 : a < s.size
  · have e1 := nms_at h1
    have b1 := s[a].toNat_lt
    by_cases d1 : 48 ≤ (s[a].toNat : Int) ∧ (s[a].toNat : Int) ≤ 57
    · have g1 : dig (s[a].toNat : Int) = true := decide_eq_true d1
      obtain ⟨d11, d19⟩ := d1
      by_cases h2 : a + 1 < s.size
      · have e2 := nms_at h2
        have b2 := s[a + 1].toNat_lt
        by_cases d2 : 48 ≤ (s[a + 1].toNat : Int) ∧ (s[a + 1].toNat : Int) ≤ 57
        · have g2 : dig (s[a + 1].toNat : Int) = true := decide_eq_true d2
          obtain ⟨d21, d29⟩ := d2
          have v : n2v ((nms s).drop a) = 10 * ((s[a].toNat : Int) - 48) + ((s[a + 1].toNat : Int) - 48) := by rw [e1, e2]; simp [n2v, g1, g2]
          have c : n2c ((nms s).drop a) = 2 := by rw [e1, e2]; simp [n2c, g1, g2]
          rw [v, c]
          clear e1 e2 g1 g2
          clear v c
          go_enter Tryd.func34, Tryd.ntmps34
          go_wp2_with fail
          refine wp_loop_rounds 3 ?_
          rw [rounds_succ]
          go_wp2_with fail
          all_goals
            rw [rounds_succ]
            go_wp2_with fail
          all_goals
            rw [rounds_succ]
            go_wp2
          all_goals
            go_ret2
            exact ⟨ret_ii (by omega) (by omega), rfl⟩
        · have g2 : dig (s[a + 1].toNat : Int) = false := decide_eq_false d2
          have v : n2v ((nms s).drop a) = (s[a].toNat : Int) - 48 := by rw [e1, e2]; simp [n2v, g1, g2]
          have c : n2c ((nms s).drop a) = 1 := by rw [e1, e2]; simp [n2c, g1, g2]
          rw [v, c]
          clear e1 e2 g1 g2
          rcases (show (s[a + 1].toNat : Int) < 48 ∨ 57 < (s[a + 1].toNat : Int) by omega) with d3 | d3
          all_goals
            clear d2
            clear v c
            go_enter Tryd.func34, Tryd.ntmps34
            go_wp2_with fail
            refine wp_loop_rounds 2 ?_
            rw [rounds_succ]
            go_wp2_with fail
            all_goals
              rw [rounds_succ]
              go_wp2
            all_goals
              go_ret2
              exact ⟨ret_ii (by omega) (by omega), rfl⟩
      · have e2 : (nms s).drop (a + 1) = [] := List.drop_of_length_le (by rw [nms_size]; omega)
        have v : n2v ((nms s).drop a) = (s[a].toNat : Int) - 48 := by rw [e1, e2]; simp [n2v, g1]
        have c : n2c ((nms s).drop a) = 1 := by rw [e1, e2]; simp [n2c, g1]
        rw [v, c]
        clear e1 e2 g1
        clear v c
        go_enter Tryd.func34, Tryd.ntmps34
        go_wp2_with fail
        refine wp_loop_rounds 2 ?_
        rw [rounds_succ]
        go_wp2_with fail
        all_goals
          rw [rounds_succ]
          go_wp2
        all_goals
          go_ret2
          exact ⟨ret_ii (by omega) (by omega), rfl⟩
    · have g1 : dig (s[a].toNat : Int) = false := decide_eq_false d1
      have v : n2v ((nms s).drop a) = 0 := by rw [e1]; cases (nms s).drop (a + 1) <;> simp [n2v, g1]
      have c : n2c ((nms s).drop a) = 0 := by rw [e1]; cases (nms s).drop (a + 1) <;> simp [n2c, g1]
      rw [v, c]
      clear e1 g1
      rcases (show (s[a].toNat : Int) < 48 ∨ 57 < (s[a].toNat : Int) by omega) with d3 | d3
      all_goals
        clear d1
        clear v c
        go_enter Tryd.func34, Tryd.ntmps34
        go_wp2_with fail
        refine wp_loop_rounds 1 ?_
        rw [rounds_succ]
        go_wp2
        all_goals
          go_ret2
          exact ⟨ret_ii (by omega) (by omega), rfl⟩
  · have e1 : (nms s).drop a = [] := List.drop_of_length_le (by rw [nms_size]; omega)
    have v : n2v ((nms s).drop a) = 0 := by rw [e1]; rfl
    have c : n2c ((nms s).drop a) = 0 := by rw [e1]; rfl
    rw [v, c]
    clear e1
    clear v c
    go_enter Tryd.func34, Tryd.ntmps34
    go_wp2_with fail
    refine wp_loop_rounds 1 ?_
    rw [rounds_succ]
    go_wp2
    all_goals
      go_ret2
      exact ⟨ret_ii (by omega) (by omega), rfl⟩

section
variable {lo hi : Nat} {xs : List Int}
theorem n2_no (h : n2c xs = 0) : n2 xs = none := by rw [(n2_is xs).1, if_pos h]
theorem n2_yes (h : n2c xs ≠ 0) : n2 xs = some ((n2v xs).toNat, xs.drop (n2c xs)) := by rw [(n2_is xs).1, if_neg h]
theorem segP_none (h : ¬ xs.head? = some 42) (c : n2c xs = 0) : segP lo hi xs = none := by
  unfold segP; rw [if_neg h, n2_no c]
theorem segP_out (h : ¬ xs.head? = some 42) (c : n2c xs ≠ 0) (b : ¬ ((lo : Int) ≤ n2v xs ∧ n2v xs ≤ hi)) : segP lo hi xs = none := by
  have := n2_is xs
  unfold segP; rw [if_neg h, n2_yes c]
  simp only
  rw [if_neg (by omega)]
theorem segP_one (h : ¬ xs.head? = some 42) (c : n2c xs ≠ 0) (b : (lo : Int) ≤ n2v xs ∧ n2v xs ≤ hi) (d : ¬ (xs.drop (n2c xs)).head? = some 45) : segP lo hi xs = some ((n2v xs).toNat, (n2v xs).toNat, true, xs.drop (n2c xs)) := by
  have := n2_is xs
  unfold segP; rw [if_neg h, n2_yes c]
  simp only
  rw [if_pos (by omega), if_neg d]
theorem segP_none2 (h : ¬ xs.head? = some 42) (c : n2c xs ≠ 0) (b : (lo : Int) ≤ n2v xs ∧ n2v xs ≤ hi) (d : (xs.drop (n2c xs)).head? = some 45) (c2 : n2c (xs.drop (n2c xs)).tail = 0) : segP lo hi xs = none := by
  have := n2_is xs
  unfold segP; rw [if_neg h, n2_yes c]
  simp only
  rw [if_pos (by omega), if_pos d, n2_no c2]
theorem segP_out2 (h : ¬ xs.head? = some 42) (c : n2c xs ≠ 0) (b : (lo : Int) ≤ n2v xs ∧ n2v xs ≤ hi) (d : (xs.drop (n2c xs)).head? = some 45) (c2 : n2c (xs.drop (n2c xs)).tail ≠ 0) (b2 : ¬ (n2v xs ≤ n2v (xs.drop (n2c xs)).tail ∧ n2v (xs.drop (n2c xs)).tail ≤ hi)) : segP lo hi xs = none := by
  have := n2_is xs
  have := n2_is (xs.drop (n2c xs)).tail
  unfold segP; rw [if_neg h, n2_yes c]
  simp only
  rw [if_pos (by omega), if_pos d, n2_yes c2]
  simp only
  rw [if_neg (by omega)]
theorem segP_two (h : ¬ xs.head? = some 42) (c : n2c xs ≠ 0) (b : (lo : Int) ≤ n2v xs ∧ n2v xs ≤ hi) (d : (xs.drop (n2c xs)).head? = some 45) (c2 : n2c (xs.drop (n2c xs)).tail ≠ 0) (b2 : n2v xs ≤ n2v (xs.drop (n2c xs)).tail ∧ n2v (xs.drop (n2c xs)).tail ≤ hi) :
    segP lo hi xs = some ((n2v xs).toNat, (n2v (xs.drop (n2c xs)).tail).toNat, false, (xs.drop (n2c xs)).tail.drop (n2c (xs.drop (n2c xs)).tail)) := by
  have := n2_is xs
  have := n2_is (xs.drop (n2c xs)).tail
  unfold segP; rw [if_neg h, n2_yes c]
  simp only
  rw [if_pos (by omega), if_pos d, n2_yes c2]
  simp only
  rw [if_pos (by omega)]
theorem rd_none2 {S f t : Nat} {b : Bool} {r : List Int} (h : segP lo hi xs = some (f, t, b, r)) (k : stepP hi f t b r = none) : rd lo hi xs S = none := by
  rw [rd_eq]; unfold pt; rw [h]; simp only; rw [k]
theorem rd_step {S f t t2 st : Nat} {b : Bool} {r r2 : List Int} (h : segP lo hi xs = some (f, t, b, r)) (k : stepP hi f t b r = some (f, t2, st, r2)) :
    rd lo hi xs S = if r2 = [] then some (addR S f st ((t2 - f) / st + 1)) else if r2.head? = some 44 then rd lo hi r2.tail (addR S f st ((t2 - f) / st + 1)) else none := by
  rw [rd_eq]; unfold pt; rw [h]; simp only; rw [k]
theorem pt_is {f t t2 st : Nat} {b : Bool} {r r2 : List Int} (h : segP lo hi xs = some (f, t, b, r)) (k : stepP hi f t b r = some (f, t2, st, r2)) : pt lo hi xs = some (f, t2, st, r2) := by
  unfold pt; rw [h]; exact k
theorem stP_no {f t : Nat} {b : Bool} (h : ¬ xs.head? = some 47) : stepP hi f t b xs = some (f, t, 1, xs) := by
  unfold stepP; rw [if_neg h]
theorem stP_none {f t : Nat} {b : Bool} (h : xs.head? = some 47) (c : n2c xs.tail = 0) : stepP hi f t b xs = none := by
  unfold stepP; rw [if_pos h, n2_no c]
theorem stP_out {f t : Nat} {b : Bool} (h : xs.head? = some 47) (c : n2c xs.tail ≠ 0) (g : ¬ (1 ≤ n2v xs.tail ∧ n2v xs.tail ≤ 59)) : stepP hi f t b xs = none := by
  have := n2_is xs.tail
  unfold stepP; rw [if_pos h, n2_yes c]
  simp only
  rw [if_neg (by omega)]
theorem stP_yes {f t : Nat} {b : Bool} (h : xs.head? = some 47) (c : n2c xs.tail ≠ 0) (g : 1 ≤ n2v xs.tail ∧ n2v xs.tail ≤ 59) : stepP hi f t b xs = some (f, if b then hi else t, (n2v xs.tail).toNat, xs.tail.drop (n2c xs.tail)) := by
  have := n2_is xs.tail
  unfold stepP; rw [if_pos h, n2_yes c]
  simp only
  rw [if_pos (by omega)]
/-- How many numbers there are from k up to t in steps of s. -/
def cntR (t s k : Nat) : Nat := if k ≤ t then (t - k) / s + 1 else 0
theorem cntR_next {t s k : Nat} (hs : 1 ≤ s) (h : k ≤ t) : cntR t s k = cntR t s (k + s) + 1 := by
  unfold cntR
  rw [if_pos h]
  split
  · rename_i g
    rw [show t - k = t - (k + s) + s by omega, Nat.add_div_right _ hs]
  · rename_i g
    rw [Nat.div_eq_of_lt (by omega)]
theorem rd_none {S : Nat} (h : segP lo hi xs = none) : rd lo hi xs S = none := by
  rw [rd_eq]; unfold pt; rw [h]
end
theorem bool_val {a b : Bool} (h : a = b) : Value.bool a = Value.bool b := by rw [h]
theorem head_drop {s : ByteArray} {a : Nat} (h : a < s.size) : ((nms s).drop a).head? = some (s[a].toNat : Int) := by rw [nms_at h, List.head?_cons]
theorem head_end {s : ByteArray} {a : Nat} (h : ¬ a < s.size) : (nms s).drop a = [] := List.drop_of_length_le (by rw [nms_size]; omega)
theorem drop_ne {s : ByteArray} {a : Nat} (h : a < s.size) : (nms s).drop a ≠ [] := by rw [nms_at h]; simp
/-- What is read, as the function hands it back. -/
def GaveOpt (R : Option Nat) (w : World) (e : Ending) (w' : World) : Prop := e = .returned (.tuple #[.int .i64 ((R.getD 0 : Nat) : Int), .bool R.isSome]) ∧ w = w'

set_option maxRecDepth 100000 in
set_option maxHeartbeats 16000000 in
theorem sReadFieldN (s : ByteArray) (lo hi : Nat) (w : World) (h1 : lo ≤ hi) (h9 : hi ≤ 59) (hs : s.size ≤ 1000000000) :
    Calls Tryd.prog 15 #[.string s, .int .i64 (lo : Int), .int .i64 (hi : Int)] w (GaveOpt (rd lo hi (nms s) 0) w) := by
  generalize hR : rd lo hi (nms s) 0 = R
  have HR := Lib.hid hR; clear hR
  have hfd : fdB (lo : Int) (hi : Int) = true := by unfold fdB; simp; omega
  have FD := Lib.hid hfd; clear hfd
  go_enter Tryd.func15, Tryd.ntmps15
  go_wp2_with (go_at_call 26; refine (sValidF _ _ _).mono ?_; rw [FD.out]; rintro e wx ⟨rfl, rfl⟩)
  go_loopg [8, 9] (s.size + 1) (fun q sv av wr => w = wr ∧ ∃ (S a : Nat), sv = .int .i64 (S : Int) ∧ av = .int .i64 (a : Int) ∧ a ≤ s.size ∧ s.size - a < q ∧ S < 2 ^ 60 ∧ rd lo hi ((nms s).drop a) S = R)
  case atStart => exact ⟨rfl, 0, 0, rfl, rfl, by omega, by omega, by omega, HR.out⟩
  case round =>
    obtain ⟨rfl, S, a, rfl, rfl, ha, hq, hS, hR⟩ := hrel
    obtain ⟨q, rfl⟩ : ∃ q, gk = q + 1 := ⟨gk - 1, by omega⟩
    have HR2 := Lib.hid hR; clear hR
    go_upto_region 8 with fail
    go_cut [34] from 25 to 33 (fun s34 wx => w = wx ∧ s34 = .bool (decide (((nms s).drop a).head? = some 42)))
    case first =>
      by_cases c1 : a < s.size
      · have hd := head_drop c1
        have HD := Lib.hid hd; clear hd
        have b1 := s[a].toNat_lt
        go_wp2_with fail
        go_meet
        exact ⟨rfl, by rw [HD.out]; exact bool_val (by rw [Bool.eq_iff_iff]; simp)⟩
      · have hd := head_end c1
        have HD := Lib.hid hd; clear hd
        go_wp2_with fail
        go_meet
        exact ⟨rfl, by rw [HD.out]; rfl⟩
    case rest =>
      obtain ⟨rfl, rfl⟩ := hcut
      go_upto_if 34 with fail
      go_cut [9, 10, 11, 12] from 34 to 85 (fun s9 s10 s11 s12 wx => w = wx ∧ ∃ (a1 f t : Nat) (b : Bool), s9 = .int .i64 (a1 : Int) ∧ s10 = .int .i64 (f : Int) ∧ s11 = .int .i64 (t : Int) ∧ s12 = .bool b ∧ a1 ≤ s.size ∧ a < a1 ∧ segP lo hi ((nms s).drop a) = some (f, t, b, (nms s).drop a1))
      case first =>
        by_cases c1 : ((nms s).drop a).head? = some 42
        · have hlt : a < s.size := by
            by_cases c : a < s.size
            · exact c
            · rw [head_end c] at c1; simp at c1
          have hp : segP lo hi ((nms s).drop a) = some (lo, hi, false, (nms s).drop (a + 1)) := by
            unfold segP
            rw [if_pos c1, nms_at hlt, List.tail_cons]
          have D := Lib.hid (show decide (((nms s).drop a).head? = some 42) = true by simpa using c1)
          have HP := Lib.hid hp
          clear hp c1
          rw [D.out]
          go_wp2_with fail
          go_meet
          exact ⟨rfl, a + 1, lo, hi, false, by go_num, rfl, rfl, rfl, by omega, by omega, HP.out⟩
        · have D := Lib.hid (show decide (((nms s).drop a).head? = some 42) = false by simpa using c1)
          rw [D.out]
          clear D
          obtain ⟨_, nv0, nv9, nc2, ncl⟩ := n2_is ((nms s).drop a)
          rw [List.length_drop, nms_size] at ncl
          have hnum := sNum2 s a w ha hs
          have s0 := segP_none (lo := lo) (hi := hi) c1
          have s1 := segP_out (lo := lo) (hi := hi) c1
          have s2 := segP_one (lo := lo) (hi := hi) c1
          have s3 := segP_none2 (lo := lo) (hi := hi) c1
          have s4 := segP_out2 (lo := lo) (hi := hi) c1
          have s5 := segP_two (lo := lo) (hi := hi) c1
          have hrn := fun h => HR2.out.symm.trans (rd_none (S := S) (lo := lo) (hi := hi) (xs := (nms s).drop a) h)
          clear c1
          have dd : ∀ c, ((nms s).drop a).drop c = (nms s).drop (a + c) := fun c => List.drop_drop
          simp only [dd, List.tail_drop] at s2 s3 s4 s5
          generalize hV : n2v ((nms s).drop a) = V at *
          generalize hC : n2c ((nms s).drop a) = C at *
          clear hV hC dd
          have HN := Lib.hid hnum; have HX := Lib.hid hrn; have S0 := Lib.hid s0; have S1 := Lib.hid s1; have S2 := Lib.hid s2; have S3 := Lib.hid s3; have S4 := Lib.hid s4; have S5 := Lib.hid s5
          clear hnum hrn s0 s1 s2 s3 s4 s5
          by_cases c0 : C = 0
          · have hno := HX.out (S0.out c0)
            subst c0
            subst hno
            clear HR2 HX S0 S1 S2 S3 S4 S5
            go_wp2_with fail
            refine HN.out.mono ?_
            rintro e wx ⟨rfl, rfl⟩
            go_wp2
            go_ret2
            exact ⟨rfl, rfl⟩
          · have c0' : ((a : Int) + (C : Int) == (a : Int)) = false := by simp; omega
            by_cases b : (lo : Int) ≤ V ∧ V ≤ hi
            · obtain ⟨b1, b2⟩ := b
              have vv : ((V.toNat : Nat) : Int) = V := by omega
              by_cases d : ((nms s).drop (a + C)).head? = some 45
              · have hlt : a + C < s.size := by
                  by_cases c : a + C < s.size
                  · exact c
                  · rw [head_end c] at d; simp at d
                have sv : (s[a + C].toNat : Int) = 45 := by
                  rw [head_drop hlt] at d
                  simpa using d
                have SV := Lib.hid (show ((s[a + C].toNat : Int) == 45) = true by simpa using sv)
                have sv' := SV.out
                clear sv
                obtain ⟨_, mv0, mv9, mc2, mcl⟩ := n2_is ((nms s).drop (a + C + 1))
                rw [List.length_drop, nms_size] at mcl
                have hnum2 := sNum2 s (a + C + 1) w (by omega) hs
                have t3 := fun c2 => S3.out c0 ⟨b1, b2⟩ d c2
                have t4 := fun c2 b' => S4.out c0 ⟨b1, b2⟩ d c2 b'
                have t5 := fun c2 b' => S5.out c0 ⟨b1, b2⟩ d c2 b'
                have dd : ∀ c, ((nms s).drop (a + C + 1)).drop c = (nms s).drop (a + C + 1 + c) := fun c => List.drop_drop
                simp only [dd] at t5
                clear S0 S1 S2 S3 S4 S5 d dd
                generalize hM : n2v ((nms s).drop (a + C + 1)) = M at *
                generalize hE : n2c ((nms s).drop (a + C + 1)) = E at *
                clear hM hE
                rw [show ((a + C + 1 : Nat) : Int) = (a : Int) + C + 1 by omega] at hnum2
                have HN2 := Lib.hid hnum2; have T3 := Lib.hid t3; have T4 := Lib.hid t4; have T5 := Lib.hid t5
                clear hnum2 t3 t4 t5
                by_cases e0 : E = 0
                · have hno := HX.out (T3.out e0)
                  subst e0
                  subst hno
                  clear HR2 HX T3 T4 T5
                  go_wp2_with fail
                  refine HN.out.mono ?_
                  rintro e wx ⟨rfl, rfl⟩
                  go_wp2_with (first | (go_at_call 35; refine (l1In_yes _ _ _ _ (by omega) (by omega)).mono ?_; rintro e wx ⟨rfl, rfl⟩) | (go_at_call 34; refine HN2.out.mono ?_; rintro e wx ⟨rfl, rfl⟩))
                  go_ret2
                  exact ⟨rfl, rfl⟩
                · have e0' : ((a : Int) + C + 1 + E == (a : Int) + C + 1) = false := by simp; omega
                  by_cases g : V ≤ M ∧ M ≤ hi
                  · have hp := T5.out e0 g
                    obtain ⟨g1, g2⟩ := g
                    have HP := Lib.hid hp
                    have mm : ((M.toNat : Nat) : Int) = M := by omega
                    clear HR2 HX T3 T4 T5 hp
                    go_wp2_with fail
                    refine HN.out.mono ?_
                    rintro e wx ⟨rfl, rfl⟩
                    go_wp2_with (first | (go_at_call 35; refine (l1In_yes _ _ _ _ (by omega) (by omega)).mono ?_; rintro e wx ⟨rfl, rfl⟩) | (go_at_call 34; refine HN2.out.mono ?_; rintro e wx ⟨rfl, rfl⟩) | fail)
                    go_meet
                    exact ⟨rfl, a + C + 1 + E, V.toNat, M.toNat, false, by go_num, by rw [vv], by rw [mm], rfl, by omega, by omega, HP.out⟩
                  · have hno := HX.out (T4.out e0 g)
                    subst hno
                    have G := Lib.hid (show M < V ∨ (hi : Int) < M by omega)
                    clear HR2 HX T3 T4 T5 g
                    go_wp2_with fail
                    refine HN.out.mono ?_
                    rintro e wx ⟨rfl, rfl⟩
                    go_wp2_with (first | (go_at_call 34; refine HN2.out.mono ?_; rintro e wx ⟨rfl, rfl⟩) | (go_at_call_of 35 (Value.int IntKind.i64 V); refine (l1In_yes _ _ _ _ (by omega) (by omega)).mono ?_; rintro e wx ⟨rfl, rfl⟩) | (go_at_call 35; refine (l1In_no _ _ _ _ G.out).mono ?_; rintro e wx ⟨rfl, rfl⟩))
                    go_ret2
                    exact ⟨rfl, rfl⟩
              · have hp := S2.out c0 ⟨b1, b2⟩ d
                have HP := Lib.hid hp
                clear HR2 HX S0 S1 S2 S3 S4 S5 hp
                by_cases hlt : a + C < s.size
                · have sv : ((s[a + C].toNat : Int) == 45) = false := by
                    rw [head_drop hlt] at d
                    simpa using d
                  clear d
                  have b1' := s[a + C].toNat_lt
                  go_wp2_with fail
                  refine HN.out.mono ?_
                  rintro e wx ⟨rfl, rfl⟩
                  go_wp2_with (first | (go_at_call 35; refine (l1In_yes _ _ _ _ (by omega) (by omega)).mono ?_; rintro e wx ⟨rfl, rfl⟩) | fail)
                  go_meet
                  exact ⟨rfl, a + C, V.toNat, V.toNat, true, by go_num, by rw [vv], by rw [vv], rfl, by omega, by omega, HP.out⟩
                · clear d
                  go_wp2_with fail
                  refine HN.out.mono ?_
                  rintro e wx ⟨rfl, rfl⟩
                  go_wp2_with (first | (go_at_call 35; refine (l1In_yes _ _ _ _ (by omega) (by omega)).mono ?_; rintro e wx ⟨rfl, rfl⟩) | fail)
                  go_meet
                  exact ⟨rfl, a + C, V.toNat, V.toNat, true, by go_num, by rw [vv], by rw [vv], rfl, by omega, by omega, HP.out⟩
            · have hno := HX.out (S1.out c0 b)
              subst hno
              clear HR2 HX S0 S1 S2 S3 S4 S5
              have B := Lib.hid (show V < (lo : Int) ∨ (hi : Int) < V by omega)
              clear b
              go_wp2_with fail
              refine HN.out.mono ?_
              rintro e wx ⟨rfl, rfl⟩
              go_wp2_with (go_at_call 35; refine (l1In_no _ _ _ _ B.out).mono ?_; rintro e wx ⟨rfl, rfl⟩)
              go_ret2
              exact ⟨rfl, rfl⟩
      case rest =>
        obtain ⟨rfl, a1, f, t, b, rfl, rfl, rfl, rfl, ha1, hlt1, hseg⟩ := hcut
        have HSEG := Lib.hid hseg; clear hseg
        go_upto_region 25 with fail
        go_cut [95] from 86 to 94 (fun s95 wx => w = wx ∧ s95 = .bool (decide (((nms s).drop a1).head? = some 47)))
        case first =>
          by_cases c1 : a1 < s.size
          · have hd := head_drop c1
            have HD := Lib.hid hd; clear hd
            have b1 := s[a1].toNat_lt
            go_wp2_with fail
            go_meet
            exact ⟨rfl, by rw [HD.out]; exact bool_val (by rw [Bool.eq_iff_iff]; simp)⟩
          · have hd := head_end c1
            have HD := Lib.hid hd; clear hd
            go_wp2_with fail
            go_meet
            exact ⟨rfl, by rw [HD.out]; rfl⟩
        case rest =>
          obtain ⟨rfl, rfl⟩ := hcut
          go_upto_if 95 with fail
          go_cut [9, 11, 15] from 95 to 115 (fun s9 s11 s15 wx => w = wx ∧ ∃ (a2 t2 st : Nat), s9 = .int .i64 (a2 : Int) ∧ s11 = .int .i64 (t2 : Int) ∧ s15 = .int .i64 (st : Int) ∧ a2 ≤ s.size ∧ a1 ≤ a2 ∧ st ≤ 59 ∧ stepP hi f t b ((nms s).drop a1) = some (f, t2, st, (nms s).drop a2))
          case first =>
            by_cases c1 : ((nms s).drop a1).head? = some 47
            · have hlt : a1 < s.size := by
                by_cases c : a1 < s.size
                · exact c
                · rw [head_end c] at c1; simp at c1
              have D := Lib.hid (show decide (((nms s).drop a1).head? = some 47) = true by simpa using c1)
              rw [D.out]
              clear D
              obtain ⟨_, mv0, mv9, mc2, mcl⟩ := n2_is ((nms s).drop (a1 + 1))
              rw [List.length_drop, nms_size] at mcl
              have hnum2 := sNum2 s (a1 + 1) w (by omega) hs
              have t3 := fun c2 => stP_none (hi := hi) (f := f) (t := t) (b := b) c1 c2
              have t4 := fun c2 g => stP_out (hi := hi) (f := f) (t := t) (b := b) c1 c2 g
              have t5 := fun c2 g => stP_yes (hi := hi) (f := f) (t := t) (b := b) c1 c2 g
              have dd : ∀ c, ((nms s).drop (a1 + 1)).drop c = (nms s).drop (a1 + 1 + c) := fun c => List.drop_drop
              simp only [List.tail_drop] at t3 t4 t5
              simp only [dd] at t5
              have hrn := fun h => HR2.out.symm.trans (rd_none2 (S := S) HSEG.out h)
              clear c1 dd
              generalize hM : n2v ((nms s).drop (a1 + 1)) = M at *
              generalize hE : n2c ((nms s).drop (a1 + 1)) = E at *
              clear hM hE
              rw [show ((a1 + 1 : Nat) : Int) = (a1 : Int) + 1 by omega] at hnum2
              have HN2 := Lib.hid hnum2; have T3 := Lib.hid t3; have T4 := Lib.hid t4; have T5 := Lib.hid t5; have HX := Lib.hid hrn
              clear hnum2 t3 t4 t5 hrn
              by_cases e0 : E = 0
              · have hno := HX.out (T3.out e0)
                subst e0
                subst hno
                clear HR2 HX T3 T4 T5
                go_wp2_with fail
                refine HN2.out.mono ?_
                rintro e wx ⟨rfl, rfl⟩
                go_wp2
                go_ret2
                exact ⟨rfl, rfl⟩
              · have e0' : ((a1 : Int) + 1 + E == (a1 : Int) + 1) = false := by simp; omega
                by_cases g : 1 ≤ M ∧ M ≤ 59
                · have hp := T5.out e0 g
                  obtain ⟨g1, g2⟩ := g
                  have HP := Lib.hid hp
                  have mm : ((M.toNat : Nat) : Int) = M := by omega
                  clear HR2 HX T3 T4 T5 hp
                  cases b
                  · go_wp2_with fail
                    refine HN2.out.mono ?_
                    rintro e wx ⟨rfl, rfl⟩
                    go_wp2_with (first | (go_at_call 35; refine (l1In_yes _ _ _ _ (by omega) (by omega)).mono ?_; rintro e wx ⟨rfl, rfl⟩) | fail)
                    go_meet
                    exact ⟨rfl, a1 + 1 + E, t, M.toNat, by go_num, rfl, by rw [mm], by omega, by omega, by omega, HP.out⟩
                  · go_wp2_with fail
                    refine HN2.out.mono ?_
                    rintro e wx ⟨rfl, rfl⟩
                    go_wp2_with (first | (go_at_call 35; refine (l1In_yes _ _ _ _ (by omega) (by omega)).mono ?_; rintro e wx ⟨rfl, rfl⟩) | fail)
                    go_meet
                    exact ⟨rfl, a1 + 1 + E, hi, M.toNat, by go_num, rfl, by rw [mm], by omega, by omega, by omega, HP.out⟩
                · have hno := HX.out (T4.out e0 g)
                  subst hno
                  have G := Lib.hid (show M < 1 ∨ 59 < M by omega)
                  clear HR2 HX T3 T4 T5 g
                  go_wp2_with fail
                  refine HN2.out.mono ?_
                  rintro e wx ⟨rfl, rfl⟩
                  go_wp2_with (go_at_call 35; refine (l1In_no _ _ _ _ G.out).mono ?_; rintro e wx ⟨rfl, rfl⟩)
                  go_ret2
                  exact ⟨rfl, rfl⟩
            · have D := Lib.hid (show decide (((nms s).drop a1).head? = some 47) = false by simpa using c1)
              have HP := Lib.hid (stP_no (hi := hi) (f := f) (t := t) (b := b) c1)
              rw [D.out]
              clear D c1
              go_wp2_with fail
              go_meet
              exact ⟨rfl, a1, t, 1, rfl, rfl, rfl, by omega, by omega, by omega, HP.out⟩
          case rest =>
            obtain ⟨rfl, a2, t2, st, rfl, rfl, rfl, ha2, hlt2, hst9, hstep⟩ := hcut
            obtain ⟨i1, i2, i3, i4⟩ := pt_in h1 (pt_is HSEG.out hstep)
            simp only at i1 i2 i3 i4
            have hrd := HR2.out.symm.trans (rd_step (S := S) HSEG.out hstep)
            clear HSEG hstep HR2
            generalize hF : addR S f st ((t2 - f) / st + 1) = F at *
            have HF : Hid (addR S f st (cntR t2 st f) = F) := by
              show addR S f st (cntR t2 st f) = F
              unfold cntR; rw [if_pos i2]; exact hF
            have HRD := Lib.hid hrd
            clear hF hrd
            go_wp2_with fail
            go_loopg [8, 18] (cntR t2 st f) (fun q' sv kv wr => w = wr ∧ ∃ (S1 k : Nat), sv = .int .i64 (S1 : Int) ∧ kv = .int .i64 (k : Int) ∧ k ≤ t2 + st ∧ q' = cntR t2 st k ∧ S1 < 2 ^ 60 ∧ addR S1 k st q' = F)
            case atStart => exact ⟨rfl, S, f, rfl, rfl, by omega, rfl, hS, HF.out⟩
            case round =>
              obtain ⟨rfl, S1, k, rfl, rfl, hk, hq', hS1, hA⟩ := hrel
              have HA := Lib.hid hA; clear hA
              by_cases g : k ≤ t2
              · have g' : (k : Int) ≤ t2 := by omega
                have nx := cntR_next i4 g
                rw [hq'] at HA
                rw [nx] at HA hq'
                subst hq'
                have p : (2 : Nat) ^ k < 2 ^ 60 := Nat.pow_lt_pow_right (by omega) (by omega)
                have r1 := shl_wrap (k := k) (by omega)
                have r2 := Lib.hid (or_bit hS1 (show k ≤ 59 by omega))
                clear nx
                go_wp2
                go_roundg (cntR t2 st (k + st))
                case measure => omega
                case rel => exact ⟨rfl, S1 ||| 2 ^ k, k + st, by rw [r2.out], by go_num, by omega, rfl, Nat.or_lt_two_pow hS1 p, HA.out⟩
              · have g' : ¬ (k : Int) ≤ t2 := by omega
                have z : gk = 0 := by rw [hq']; unfold cntR; rw [if_neg g]
                subst z
                have e := HA.out
                simp only [addR] at e
                subst e
                clear HA hq' g HF
                by_cases c : a2 = s.size
                · have c' : ((a2 : Int) == (s.size : Int)) = true := by simp; omega
                  have e : R = some S1 := by
                    have := HRD.out
                    rw [if_pos (List.drop_of_length_le (by rw [nms_size]; omega))] at this
                    exact this
                  subst e
                  clear HRD c
                  go_wp2
                  go_ret2
                  exact ⟨rfl, rfl⟩
                · have hlt : a2 < s.size := by omega
                  have c' : ((a2 : Int) == (s.size : Int)) = false := by simp; omega
                  have hd := head_drop hlt
                  have hr := HRD.out
                  rw [if_neg (drop_ne hlt), hd] at hr
                  have b1 := s[a2].toNat_lt
                  clear HRD c hd
                  by_cases cm : (s[a2].toNat : Int) = 44
                  · rw [if_pos (by rw [cm]), List.tail_drop] at hr
                    have cm' : ((s[a2].toNat : Int) == 44) = true := by simpa using cm
                    have HRR := Lib.hid hr
                    clear hr cm
                    go_wp2
                    go_roundg q
                    case measure => omega
                    case rel => exact ⟨rfl, S1, a2 + 1, rfl, by go_num, by omega, by omega, hS1, HRR.out.symm⟩
                  · rw [if_neg (by simpa using cm)] at hr
                    subst hr
                    have cm' : ((s[a2].toNat : Int) == 44) = false := by simpa using cm
                    go_wp2
                    go_ret2
                    exact ⟨rfl, rfl⟩

/-- What a text says as a field, if it says something. -/
def fdRd (s : ByteArray) (lo hi : Int) : Option Nat := if fdB lo hi then rd lo.toNat hi.toNat (nms s) 0 else none
theorem sReadField (s : ByteArray) (lo hi : Int) (w : World) (hs : s.size ≤ 1000000000) :
    Calls Tryd.prog 15 #[.string s, .int .i64 lo, .int .i64 hi] w (GaveOpt (fdRd s lo hi) w) := by
  cases c : fdB lo hi
  · have e : fdRd s lo hi = none := by unfold fdRd; rw [c]; rfl
    rw [e]
    have C := Lib.hid c; clear c e
    go_enter Tryd.func15, Tryd.ntmps15
    go_wp2_with (go_at_call 26; refine (sValidF _ _ _).mono ?_; rw [C.out]; rintro e wx ⟨rfl, rfl⟩)
    go_ret2
    exact ⟨rfl, rfl⟩
  · have e : fdRd s lo hi = rd lo.toNat hi.toNat (nms s) 0 := by unfold fdRd; rw [c, if_pos rfl]
    rw [e]
    obtain ⟨h0, h1, h9⟩ := fd_yes c
    have := sReadFieldN s lo.toNat hi.toNat w (by omega) (by omega) hs
    rwa [show ((lo.toNat : Nat) : Int) = lo by omega, show ((hi.toNat : Nat) : Int) = hi by omega] at this
/-- A set's text says the set. -/
theorem fdTxt_is {S lo hi : Int} (c : fvB S lo hi = true) (h9 : S < 2 ^ 63) : fdTxt S lo hi = fTxt S.toNat lo.toNat hi.toNat := by unfold fdTxt; rw [c, if_pos rfl]
theorem fdTxt_read {S lo hi : Int} (c : fvB S lo hi = true) (h9 : S < 2 ^ 63) : fdRd (strOfNums (fdTxt S lo hi)) lo hi = some S.toNat ∧ ((S.toNat : Nat) : Int) = S ∧ strOfNums (fdTxt S lo hi) ≠ strOfNums [] := by
  obtain ⟨fd, p, hin⟩ := fv_yes c h9
  obtain ⟨h0, h1, h9'⟩ := fd_yes fd
  obtain ⟨r1, r2⟩ := fTxt_rd (S := S.toNat) (lo := lo.toNat) (hi := hi.toNat) (by omega) (by omega) hin (by omega)
  refine ⟨?_, by omega, fun h => ?_⟩
  · unfold fdRd
    rw [fd, if_pos rfl, nms_of (fdTxt_bd S lo hi), fdTxt_is c h9]
    exact r1
  · have := (str_none (fdTxt_bd S lo hi)).1 h
    rw [fdTxt_is c h9] at this
    exact r2 this
/-- What is read is a set of the field. -/
theorem fdRd_in {s : ByteArray} {lo hi : Int} {A : Nat} (h : fdRd s lo hi = some A) : fvB (A : Int) lo hi = true ∧ fdB lo hi = true ∧ inF A lo.toNat hi.toNat ∧ A < 2 ^ 60 := by
  unfold fdRd at h
  split at h
  · rename_i fd
    obtain ⟨h0, h1, h9⟩ := fd_yes fd
    obtain ⟨k1, k2⟩ := rd_in (lo := lo.toNat) (hi := hi.toNat) (by omega) (nms s).length (nms s) (Nat.le_refl _) 0 A (fun n hn => by rw [Nat.zero_testBit] at hn; simp at hn) h
    have lt := inF_lt k1 (by omega)
    refine ⟨?_, fd, k1, lt⟩
    unfold fvB
    rw [fd, Int.toNat_natCast, decide_eq_true ((minus_zero (by omega)).2 k1)]
    simp
    omega
  · simp at h
/-- Two texts with a comma between them say both sets. -/
theorem fdRd_join {s t : ByteArray} {lo hi : Int} {A : Nat} (h : fdRd s lo hi = some A) : fdRd (s ++ (strOfNums [44] ++ t)) lo hi = (fdRd t lo hi).map (A ||| ·) := by
  obtain ⟨_, fd, _, _⟩ := fdRd_in h
  obtain ⟨h0, h1, h9⟩ := fd_yes fd
  unfold fdRd at h ⊢
  rw [fd, if_pos rfl] at h
  rw [fd, if_pos rfl, if_pos rfl, nms_app, nms_app, nms_of (by simp)]
  show rd lo.toNat hi.toNat (nms s ++ 44 :: nms t) 0 = _
  rw [rd_app (nms s).length (nms s) (Nat.le_refl _) 0 A h]
  have := rd_or (lo := lo.toNat) (hi := hi.toNat) (by omega) (nms t).length (nms t) (Nat.le_refl _) A 0
  rw [Nat.or_zero] at this
  exact this
theorem fdRd_star {lo hi : Int} (fd : fdB lo hi = true) : fdRd (strOfNums [42]) lo hi = some (fullF lo.toNat hi.toNat) := by
  obtain ⟨h0, h1, h9⟩ := fd_yes fd
  unfold fdRd
  rw [fd, if_pos rfl, nms_of (by simp), star_rd (by omega)]
  rfl
/-- A number is added to a set. -/
theorem or_field {S n : Int} (h0 : 0 ≤ S) (h9 : S < 2 ^ 63) (n0 : 0 ≤ n) (n9 : n ≤ 59) :
    wrap64 ((2 : Int) ^ n.toNat) = (2 : Int) ^ n.toNat ∧ bits .or .i64 S (wrap64 ((2 : Int) ^ n.toNat)) < 2 ^ 63 ∧ fhB (bits .or .i64 S (wrap64 ((2 : Int) ^ n.toNat))) n = true ∧ 0 ≤ bits .or .i64 S (wrap64 ((2 : Int) ^ n.toNat)) := by
  obtain ⟨A, rfl⟩ := Int.eq_ofNat_of_zero_le h0
  obtain ⟨k, rfl⟩ := Int.eq_ofNat_of_zero_le n0
  rw [Int.toNat_natCast]
  obtain ⟨o1, o2⟩ := or_bit63 (S := A) (k := k) (by omega) (by omega)
  have r : wrap64 ((2 : Int) ^ k) = (2 : Int) ^ k := by rw [shl_wrap (by omega)]; simp
  rw [r, o1]
  refine ⟨rfl, by omega, ?_, by omega⟩
  rw [fhB_of (by omega) (by omega) (by omega), Int.toNat_natCast, Int.toNat_natCast, Nat.testBit_or, Nat.testBit_two_pow_self, Bool.or_true]
end Go.Proofs.YtlpodfachgnkhaaDoor
