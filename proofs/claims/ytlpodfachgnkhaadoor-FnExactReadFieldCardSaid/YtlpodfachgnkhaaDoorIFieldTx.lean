/-
  CONTRACTS OF CHAPTER 7, of the program at ba67aba3: texts of fields are written.
-/
import Derived.Test.YtlpodfachgnkhaaDoorISets
import Derived.Test.YtlpodfachgnkhaaDoorLib1
import Derived.Test.YtlpodfachgnkhaaDoorFieldX
set_option linter.unusedVariables false
set_option linter.unusedSimpArgs false
namespace Go.Proofs.YtlpodfachgnkhaaDoor
open Go.ChangeShapes Go.WideShapes Go.ChangeAt Go.RowKit Cal

/-- All bits of a word turned. -/
theorem xor_all {q : Nat} (h : q < 18446744073709551616) : bits BinOp.xor IntKind.u64 IntKind.u64.max (q : Int) = ((18446744073709551615 - q : Nat) : Int) := by
  have e1 : BitVec.ofInt 64 IntKind.u64.max = BitVec.allOnes 64 := by decide
  have e2 : (BitVec.ofInt 64 (q : Int)).toNat = q := ofInt_64 q h
  have e3 : (BitVec.ofInt 64 IntKind.u64.max ^^^ BitVec.ofInt 64 (q : Int)).toNat = 18446744073709551615 - q := by
    rw [e1, BitVec.allOnes_xor, BitVec.toNat_not, e2]
  show IntKind.u64.wrap ((BitVec.ofInt 64 IntKind.u64.max ^^^ BitVec.ofInt 64 (q : Int)).toNat : Int) = _
  rw [e3, IntKind.wrap_u64]
  omega
theorem xor_shr {T f : Nat} (hT : T < 2 ^ 60) (hf : f < 64) : bits BinOp.xor IntKind.u64 IntKind.u64.max ((T : Int) / 2 ^ f) = ((18446744073709551615 - T / 2 ^ f : Nat) : Int) := by
  have hq : T / 2 ^ f < 18446744073709551616 := Nat.lt_of_le_of_lt (Nat.div_le_self _ _) (Nat.lt_trans hT (by decide))
  rw [← xor_all hq]
  simp
set_option maxRecDepth 100000 in
set_option maxHeartbeats 4000000 in
theorem iFirstRun (T : Nat) (w : World) (hT : T < 2 ^ 60) (h0 : T ≠ 0) (HT : Tz w) :
    Calls Tryd.prog 21 #[.int .i64 (T : Int)] w fun e w' => (∃ f l : Nat, e = .returned (.tuple #[.int .i64 (f : Int), .int .i64 (l : Int)]) ∧ T.testBit f = true ∧ (∀ n, n < f → T.testBit n = false) ∧ f ≤ l ∧ (∀ n, f ≤ n → n ≤ l → T.testBit n = true) ∧ T.testBit (l + 1) = false) ∧ Below w.heap.size w w' := by
  have w1 : IntKind.u64.wrap (T : Int) = T := by rw [IntKind.wrap_u64]; omega
  obtain ⟨c1, c2, c3⟩ := ctz_bit h0 (Nat.lt_trans hT (by decide))
  have KX := Lib.hid (xor_shr (f := Lib.ctz 64 T) hT c3)
  have TZ1 := fun W (h : Tz W) => iTz T (Nat.lt_trans hT (by decide)) h0 W h
  obtain ⟨g0, g1, g2, g3, g4⟩ := gap_bit hT c1
  generalize Lib.ctz 64 T = f at *
  have TZ2 := fun W (h : Tz W) => iTz _ g1 g0 W h
  generalize Lib.ctz 64 (18446744073709551615 - T / 2 ^ f) = g at *
  generalize 18446744073709551615 - T / 2 ^ f = x at *
  have w2 : IntKind.i64.wrap ((f : Int) + g) = f + g := IntWalk.i64_in _ (by
    have : f + g ≤ 60 := by
      have e := g3 (f + g - 1) (by omega) (by omega)
      have : ¬ 60 ≤ f + g - 1 := fun hh => by
        rw [Nat.testBit_lt_two_pow (Nat.lt_of_lt_of_le hT (Nat.pow_le_pow_right (by omega) hh))] at e
        simp at e
      omega
    omega)
  have w3 : IntKind.i64.wrap ((f : Int) + g - 1) = ((f + g - 1 : Nat) : Int) := by
    rw [IntWalk.i64_in _ (by
      have : f + g ≤ 60 := by
        have e := g3 (f + g - 1) (by omega) (by omega)
        have : ¬ 60 ≤ f + g - 1 := fun hh => by
          rw [Nat.testBit_lt_two_pow (Nat.lt_of_lt_of_le hT (Nat.pow_le_pow_right (by omega) hh))] at e
          simp at e
        omega
      omega)]
    omega
  have FIN := Lib.hid (show ∃ f' l' : Nat, (f' : Int) = f ∧ (l' : Int) = ((f + g - 1 : Nat) : Int) ∧ T.testBit f' = true ∧ (∀ n, n < f' → T.testBit n = false) ∧ f' ≤ l' ∧ (∀ n, f' ≤ n → n ≤ l' → T.testBit n = true) ∧ T.testBit (l' + 1) = false from
    ⟨f, f + g - 1, rfl, rfl, c1, c2, by omega, fun n a b => g3 n a (by omega), by rw [show f + g - 1 + 1 = f + g by omega]; exact g4⟩)
  clear g0 g1 g2 g3 g4 c1 c2 hT h0
  have TZ1 := Lib.hid TZ1; have TZ2 := Lib.hid TZ2
  have WW := Lib.hid w3
  go_enter Tryd.func21, Tryd.ntmps21
  go_wp2_with fail
  refine (TZ1.out _ HT).mono ?_
  rintro e wz ⟨rfl, rfl⟩
  go_wp2_with fail
  rw [KX.out]
  refine (TZ2.out _ HT).mono ?_
  rintro e wz ⟨rfl, rfl⟩
  go_wp2_with fail
  go_ret2
  obtain ⟨f', l', e1, e2, FF⟩ := FIN.out
  refine ⟨⟨f', l', ?_, FF⟩, (by repeat' (first | with_reducible assumption | with_reducible exact Below.refl _ _ | with_reducible refine Below.setCell ?_ ?_ _ | with_reducible refine Below.alloc ?_ ?_ _ | with_reducible apply Below.drew | with_reducible apply Below.drewn | (simp; done) | (simp; omega)))⟩
  rw [e1, e2]
  exact ret_ii rfl (by rw [← WW.out])

set_option maxHeartbeats 4000000 in
theorem iRunText (f l : Nat) (w : World) (h : f ≤ l) (h9 : l ≤ 59) :
    Calls Tryd.prog 22 #[.int .i64 (f : Int), .int .i64 (l : Int)] w fun e w' => e = .returned (.string (strOfNums (spanT f l))) ∧ Below w.heap.size w w' := by
  have K45 := k45
  have SA := str_app
  have SZ := strOfNums_size
  have n1 := num_len f; have n2 := num_len l
  have I1 := fun W => iItoa f (by omega) W
  have I2 := fun W => iItoa l h9 W
  unfold spanT
  by_cases c : f < l
  · rw [if_pos c]
    have c' : ((f : Int) == l) = false := by simp; omega
    go_enter Tryd.func22, Tryd.ntmps22
    go_wp2_with (first | (go_at_call_of 37 (Value.int IntKind.i64 (f : Int)); refine (I1 _).mono ?_; rintro e wx ⟨rfl, rfl⟩) | (go_at_call_of 37 (Value.int IntKind.i64 (l : Int)); refine (I2 _).mono ?_; rintro e wx ⟨rfl, rfl⟩))
    go_ret
    exact ⟨ret_str (by simp), Below.refl _ _⟩
  · rw [if_neg c]
    obtain rfl : f = l := by omega
    go_enter Tryd.func22, Tryd.ntmps22
    go_wp2_with (go_at_call 37; refine (I1 _).mono ?_; rintro e wx ⟨rfl, rfl⟩)
    go_ret
    exact ⟨ret_str (by simp), Below.refl _ _⟩

theorem OwnS.nil (w : World) (B : Nat) : OwnS w B (.slice none 0 0) [] := by
  unfold OwnS
  exact ⟨rfl, .inl ⟨rfl, rfl⟩⟩
theorem jnC_cons (c : Int) (a : List Int) : ∀ ws : List (List Int), jnC c (a :: ws) = a ++ (ws.map (c :: ·)).flatten
  | [] => by simp [jnC]
  | b :: t => by
    rw [jnC, jnC_cons c b t]
    simp
theorem jnT_is {ws : List (List Int)} (h : ∀ x ∈ ws, x ≠ []) : jnT ws = jnC 44 ws := by
  cases ws with
  | nil => rfl
  | cons a t =>
    rw [jnC_cons]
    unfold jnT
    have e : joinT [] a = a := by unfold joinT; rw [if_pos rfl]
    rw [List.foldl_cons, e, foldl_joinT t a (h a (by simp)) (fun x hx => h x (by simp [hx]))]
theorem jnC_len {c : Int} {n : Nat} : ∀ {ws : List (List Int)}, (∀ x ∈ ws, x.length ≤ n) → (jnC c ws).length ≤ (n + 1) * ws.length
  | [], _ => by simp [jnC]
  | [a], h => by
    have := h a (by simp)
    simp only [jnC, List.length_singleton]
    omega
  | a :: b :: t, h => by
    have i := jnC_len (c := c) (n := n) (ws := b :: t) (fun x hx => h x (by simp [hx]))
    have := h a (by simp)
    rw [jnC, List.length_append, List.length_cons, List.length_cons (a := a), Nat.mul_add (n + 1)]
    omega
theorem lft_next {S k T f e : Nat} (hk : lft S k T) (hT : T < 2 ^ 60) (fk : k ≤ f) (fe : f ≤ e) (e9 : e ≤ 59) (f2 : ∀ n, n < f → T.testBit n = false) : lft S (e + 1) (minus T (fullF f e)) := by
  intro n
  rw [minus_bit (by omega), fullF_bit, hk n]
  have := f2 n
  by_cases a : n < f
  · have b := f2 n a
    rw [hk n] at b
    rw [b]
    have : ¬ (e + 1 ≤ n) := by omega
    simp [this]
  · by_cases c : n ≤ e
    · have : ¬ (e + 1 ≤ n) := by omega
      have d : f ≤ n ∧ n ≤ e := ⟨by omega, c⟩
      simp [this, d]
    · have d : ¬ (f ≤ n ∧ n ≤ e) := by omega
      have g : k ≤ n := by omega
      have i : e + 1 ≤ n := by omega
      simp [d, g, i]

set_option maxHeartbeats 8000000 in
theorem iFieldTextRuns (S lo hi : Nat) (w : World) (HT : Tz w) (h1 : lo ≤ hi) (h9 : hi ≤ 59) (hS : S < 2 ^ 60) (hv : fvB (S : Int) (lo : Int) (hi : Int) = true) (hf : S ≠ fullF lo hi) :
    Calls Tryd.prog 9 #[.int .i64 (S : Int), .int .i64 (lo : Int), .int .i64 (hi : Int)] w fun e w' => e = .returned (.string (strOfNums (ftx S hi (hi + 2 - lo) lo []))) ∧ Below w.heap.size w w' := by
  generalize hR : ftx S hi (hi + 2 - lo) lo [] = R
  have HR := Lib.hid hR; clear hR
  obtain ⟨_, hpos, hin⟩ := fv_yes hv (by omega)
  simp only [Int.toNat_natCast] at hin
  have h0 : S ≠ 0 := by omega
  have C := fun W => iFieldValid (S : Int) (lo : Int) (hi : Int) W (by omega)
  rw [hv] at C
  have RN := fun W => iRunOf lo hi W (by omega) h9
  have hff : ((S : Int) == ((fullF lo hi : Nat) : Int)) = false := by simp; omega
  have HIN := Lib.hid hin
  have C := Lib.hid C; have RN := Lib.hid RN
  clear hv hf hin
  go_enter Tryd.func9, Tryd.ntmps9
  go_wp2_with (first | (go_at_call 16; refine (C.out _).mono ?_; rintro e wx ⟨rfl, hb⟩) | (go_at_call 20; refine (RN.out _).mono ?_; rintro e wy ⟨rfl, hb2⟩))
  have hb := hb.trans (hb2.mono hb.size)
  have hzy := hb.size
  clear hb2 C RN hff
  go_loopg [0, 7] (hi + 1 - lo) (fun q sv pv wr => ∃ (k T r : Nat) (ws : List (List Int)), sv = .int .i64 (T : Int) ∧ OwnS wr w.heap.size pv ws ∧ lft S k T ∧ (lo ≤ k ∧ k ≤ hi + 1) ∧ hi + 1 - k ≤ q ∧ hi + 1 - k < r ∧ ftx S hi r k (jnT ws) = R ∧ (∀ x ∈ ws, x ≠ [] ∧ (∀ y ∈ x, 0 ≤ y ∧ y < 256) ∧ x.length ≤ 5) ∧ ws.length ≤ k ∧ (T = 0 → ws ≠ []) ∧ Below w.heap.size w wr)
  case atStart => exact ⟨lo, S, hi + 2 - lo, [], rfl, OwnS.nil _ _, lft_zero HIN.out, by omega, by omega, by omega, HR.out, by simp, by simp, fun h => absurd h h0, hb⟩
  case round =>
    obtain ⟨k, T, r, ws, rfl, hO, hk, ⟨hk0, hk1⟩, hq, hr, hR, hw, hlen, hne, hbr⟩ := hrel
    have hzr := hbr.size
    by_cases c : T = 0
    · subst c
      rw [ftx_end hk r hr hk1] at hR
      have hne := hne rfl
      have hl := jnC_len (c := 44) (fun x hx => (hw x hx).2.2)
      rw [jnT_is (fun x hx => (hw x hx).1)] at hR
      have J := iJoin1 44 w.heap.size u7 ws wr hO hne (by rw [show ((44 : UInt8).toNat : Int) = 44 from rfl]; omega) (by omega) (fun x hx => (hw x hx).2.1)
      rw [show ((44 : UInt8).toNat : Int) = 44 from rfl, hR] at J
      have J := Lib.hid J
      clear hR hl hw hk
      go_wp2_with (go_at_call 23; refine J.out.mono ?_; rintro e wz ⟨rfl, hb3⟩)
      go_ret
      exact ⟨rfl, hbr.trans (hb3.mono hzr)⟩
    · have c' : ((T : Int) == 0) = false := by simp; omega
      obtain ⟨q, rfl⟩ : ∃ q, gk = q + 1 := ⟨gk - 1, by
        have : ¬ (gk = 0) := by
          intro e
          subst e
          apply c
          apply Nat.eq_of_testBit_eq
          intro n
          rw [hk n, Nat.zero_testBit]
          cases d : S.testBit n
          · rfl
          · have := HIN.out n d
            simp; omega
        omega⟩
      have hT := lft_lt hk hS
      have FR := Lib.hid (iFirstRun T wr hT c (HT.below (Nat.le_refl _) hbr))
      have HR2 := Lib.hid hR; have HW := Lib.hid hw; have HO := Lib.hid hO; have HK := Lib.hid hk
      clear hR hw hO hk hne HR
      go_wp2_with fail
      refine FR.out.mono ?_
      rintro e wa ⟨⟨f, l, rfl, f1, f2, fe, e1, e2⟩, hb2⟩
      obtain ⟨r1, r2, r', r3, r4⟩ := ftx_run (out := jnT ws) HIN.out h9 HK.out r hr hk1 f1 f2 fe e1 e2
      have r3 := r3.symm.trans HR2.out
      have nk := lft_next HK.out hT r1 fe (by omega) f2
      have RT := Lib.hid (fun W => iRunText f l W fe (by omega))
      have RN := Lib.hid (fun W => iRunOf f l W (by omega) (by omega))
      have MI := Lib.hid (i64_minus T (fullF f l) (by omega) (by have := fullF_lt (f := f) (show l ≤ 59 by omega); omega))
      have ST := Lib.hid (show spanT f l ≠ [] ∧ (∀ y ∈ spanT f l, 0 ≤ y ∧ y < 256) ∧ (spanT f l).length ≤ 5 from ⟨spanT_ne f l, spanT_bd (by omega) (by omega), spanT_len f l⟩)
      have R3 := Lib.hid r3; have NK := Lib.hid nk
      have hba := hbr.trans (hb2.mono hzr)
      have hza := hba.size
      have HO := Lib.hid (HO.out.below hb2)
      clear FR f1 f2 e1 e2 r3 nk HR2 HK
      go_wp2_with fail
      refine (RT.out _).mono ?_
      rintro e wb ⟨rfl, hb3⟩
      have hb := hba.trans (hb3.mono hza)
      have hzb := hb.size
      have HO := Lib.hid (HO.out.below hb3)
      clear hb2 hb3 RT
      go_wp2_with (at_builtin; refine append_str rfl _ _ rfl w.heap.size u7 ws rfl (OwnS.below HO.out ((Below.refl _ _).alloc (Nat.le_refl _) _)) _ 1 (spanT f l) rfl (World.cell?_alloc_new _ _ _ _) (by omega) (by simp; omega) ?_)
      intro v' w' hO' hb'
      have hb := Below.trans (show Below w.heap.size w _ from (by repeat' (first | with_reducible assumption | with_reducible exact Below.refl _ _ | with_reducible refine Below.setCell ?_ ?_ _ | with_reducible refine Below.alloc ?_ ?_ _ | with_reducible apply Below.drew | with_reducible apply Below.drewn | (simp; done) | (simp; omega)))) hb'
      have hz' := hb.size
      have HO := Lib.hid hO'
      clear hO' hb'
      go_wp2_with (go_at_call 20; refine (RN.out _).mono ?_; rintro e wd ⟨rfl, hb4⟩)
      go_roundg q
      case measure => omega
      case rel =>
        refine ⟨l + 1, minus T (fullF f l), r', ws ++ [spanT f l], by rw [MI.out], HO.out.below hb4, NK.out, by omega, by omega, r4, ?_, ?_, by simp; omega, fun _ => by simp, hb.trans (hb4.mono hz')⟩
        · rw [jnT_add]; exact R3.out
        · intro x hx
          rcases List.mem_append.1 hx with hx | hx
          · exact HW.out x hx
          · simp at hx; subst hx; exact ST.out

theorem iFieldText (S lo hi : Int) (w : World) (hS : S < 2 ^ 63) (HT : Tz w) :
    Calls Tryd.prog 9 #[.int .i64 S, .int .i64 lo, .int .i64 hi] w fun e w' => e = .returned (.string (strOfNums (fdTxt S lo hi))) ∧ Below w.heap.size w w' := by
  cases c : fvB S lo hi
  · have e : fdTxt S lo hi = [] := by unfold fdTxt; rw [c]; rfl
    rw [e]
    have C := Lib.hid c; clear c e
    go_enter Tryd.func9, Tryd.ntmps9
    go_wp2_with (go_at_call 16; refine (iFieldValid _ _ _ _ hS).mono ?_; rw [C.out]; rintro e wx ⟨rfl, hb⟩)
    go_ret
    exact ⟨ret_str rfl, hb⟩
  · obtain ⟨fd, p, hin⟩ := fv_yes c hS
    obtain ⟨h0, h1, h9⟩ := fd_yes fd
    have hlt := inF_lt hin (by omega)
    have e : fdTxt S lo hi = fTxt S.toNat lo.toNat hi.toNat := by unfold fdTxt; rw [c, if_pos rfl]
    rw [e]
    obtain ⟨A, rfl⟩ := Int.eq_ofNat_of_zero_le (Int.le_of_lt p)
    obtain ⟨l, rfl⟩ := Int.eq_ofNat_of_zero_le h0
    obtain ⟨h, rfl⟩ := Int.eq_ofNat_of_zero_le (show 0 ≤ hi by omega)
    simp only [Int.toNat_natCast] at hlt ⊢
    unfold fTxt
    by_cases f : A = fullF l h
    · rw [if_pos f]
      have FF : Hid (((fullF (l : Int).toNat (h : Int).toNat : Nat) : Int) = (A : Int)) := by rw [Int.toNat_natCast, Int.toNat_natCast, f]; exact rfl
      have C := Lib.hid c; have FD := Lib.hid fd; clear c e fd f
      go_enter Tryd.func9, Tryd.ntmps9
      go_wp2_with (first | (go_at_call 16; refine (iFieldValid _ _ _ _ hS).mono ?_; rw [C.out]; rintro e wx ⟨rfl, hb⟩) | (go_at_call 20; refine (iRunOfI _ _ _ FD.out).mono ?_; rw [FF.out]; rintro e wy ⟨rfl, hb2⟩))
      go_ret
      exact ⟨ret_str rfl, hb.trans (hb2.mono hb.size)⟩
    · rw [if_neg f]
      exact iFieldTextRuns A l h w HT (by omega) (by omega) hlt c f
end Go.Proofs.YtlpodfachgnkhaaDoor
