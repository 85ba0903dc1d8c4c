/-
  THE LIBRARY's FUNCTIONS that the program calls: texts cut and split at a byte, joined, small numerals, trailing zeros.
-/
import Derived.Test.YtlpodfachgnkhaaDoorShelf
import Derived.Test.YtlpodfachgnkhaaDoorCut
import Derived.Test.YtlpodfachgnkhaaDoorStrs
import Derived.Test.YtlpodfachgnkhaaDoorHas
import Derived.Test.YtlpodfachgnkhaaDoorField
import Derived.Deep.QuietTactic
import Derived.BigQuiet
import Derived.RegionTactic
import Derived.Shelf.Spec.TrailingZeros
set_option linter.unusedVariables false
set_option linter.unusedSimpArgs false
namespace Go.Proofs.YtlpodfachgnkhaaDoor
open Go Go.ChangeShapes Go.WideShapes Go.ChangeAt Go.RowKit Cal

theorem index_is (c : UInt8) : ∀ l : List UInt8, Lib.index l [c] = Lib.indexByte l c
  | [] => rfl
  | b :: l => by
    have ih := index_is c l
    by_cases e : b = c
    · subst e; simp [Lib.index, Lib.indexByte, List.isPrefixOf]
    · have e' : ¬ c = b := fun h => e h.symm
      simp [Lib.index, Lib.indexByte, List.isPrefixOf, e, e', ih]
theorem str_eta (s : ByteArray) : (⟨s.data.toList.toArray⟩ : ByteArray) = s := by
  apply ByteArray.ext; simp

/-- strings.Split at a byte. -/
theorem iSplit1 (s : ByteArray) (b : UInt8) (w : World) (hs : s.size < 4294967281) :
    Calls Tryd.prog 29 #[.string s, .string ⟨#[b]⟩] w fun e w' =>
      e = .returned (.slice (some ⟨w.heap.size, 0, none⟩) (splC (b.toNat : Int) (nms s)).length (splC (b.toNat : Int) (nms s)).length) ∧ w' = w.alloc (.cells ((splC (b.toNat : Int) (nms s)).map strV).toArray 9) := by
  have key := splitB_is s b
  have hle := Lib.countB_le ⟨#[b]⟩ (Nat.le_refl 1) s.size s (Nat.le_refl _)
  have hlen := Lib.splitB_all ⟨#[b]⟩ (Nat.le_refl 1) 0 _ s rfl
  have c := Any.strings_genSplit_core { Tryd.lays146 with } (by kernel_rfl) s ⟨#[b]⟩ 0 (-1) (Lib.countB s ⟨#[b]⟩ + 1) w hs (Nat.le_refl 1) (Nat.zero_le _)
    (fun x c hx => (Tryd.strings_Index_one x b _).mono fun e w' ⟨he, hw⟩ => ⟨by rw [he, ← index_is] <;> rfl, hw⟩)
    ((Tryd.strings_Count_one s b w).mono fun e w' ⟨he, hw⟩ => ⟨by
      rw [he]
      show _ = Ending.returned (Value.int .i64 ((Lib.count s.data.toList [b] : Nat) : Int))
      rw [Lib.count_one]
      rfl, hw⟩)
    (by decide) (by decide) (by rw [if_pos (by decide)]; omega)
  rw [Nat.add_sub_cancel, hlen] at c
  have e2 : Lib.cellsOf (Lib.splitB ⟨#[b]⟩ 0 (Lib.countB s ⟨#[b]⟩) s) (Lib.countB s ⟨#[b]⟩ + 1) = ((splC (b.toNat : Int) (nms s)).map strV).toArray := by
    rw [← hlen, Lib.cellsOf_full, ← key, List.map_map]
    congr 2
    funext x
    show Value.string x = .string (strOfNums (nms x))
    rw [str_nms]
  have e3 : Lib.countB s ⟨#[b]⟩ + 1 = (splC (b.toNat : Int) (nms s)).length := by rw [← key, List.length_map, hlen]
  rw [e2, e3] at c
  go_enter Tryd.func29, Tryd.ntmps29
  go_wp2_with (go_at_call 45; refine c.mono ?_; rintro e w' ⟨rfl, hw⟩; rw [hw])
  go_ret
  exact ⟨rfl, rfl⟩

theorem iCut0 (s : ByteArray) (b : UInt8) (w : World) (hs : s.size < 4294967281) :
    Calls Tryd.prog 56 #[.string s, .string ⟨#[b]⟩] w fun e w' => e = .returned (.tuple #[.string ⟨(Lib.cut s.data.toList [b]).1.toArray⟩, .string ⟨(Lib.cut s.data.toList [b]).2.1.toArray⟩, .bool (Lib.cut s.data.toList [b]).2.2]) ∧ Below w.heap.size w w' := by
  have IX := fun W => (Tryd.stringslite_Index_one s b W)
  rw [← index_is] at IX
  rcases Lib.indexB_cases s ⟨#[b]⟩ with hix | ⟨i, hix, hroom⟩
  · obtain ⟨e1, e2, e3⟩ := Lib.cutB_miss s ⟨#[b]⟩ hix
    have e1 : (⟨(Lib.cut s.data.toList [b]).1.toArray⟩ : ByteArray) = s := e1
    have e2 : (⟨(Lib.cut s.data.toList [b]).2.1.toArray⟩ : ByteArray) = _ := e2
    have e3 : (Lib.cut s.data.toList [b]).2.2 = _ := e3
    rw [e1, e2, e3]
    have HI := Lib.hid (show Lib.index s.data.toList [b] = -1 from hix)
    go_enter Tryd.func56, Tryd.ntmps56
    go_wp2_with (go_at_call 64; refine (IX _).mono ?_; rw [HI.out]; rintro e w' ⟨rfl, rfl⟩)
    go_ret3
    exact ⟨rfl, Below.refl _ _⟩
  · obtain ⟨e1, e2, e3⟩ := Lib.cutB_hit s ⟨#[b]⟩ i hix
    have e1 : (⟨(Lib.cut s.data.toList [b]).1.toArray⟩ : ByteArray) = _ := e1
    have e2 : (⟨(Lib.cut s.data.toList [b]).2.1.toArray⟩ : ByteArray) = _ := e2
    have e3 : (Lib.cut s.data.toList [b]).2.2 = _ := e3
    rw [e1, e2, e3]
    have HI := Lib.hid (show Lib.index s.data.toList [b] = i from hix)
    have hroom : i + 1 ≤ s.size := hroom
    have w1 : IntKind.i64.wrap ((i : Int) + 1) = i + 1 := IntWalk.i64_in _ (by omega)
    have c1 : (0 : Int) ≤ ↑i := by omega
    have c2 : (↑i : Int) ≤ ↑s.size := by omega
    have c3 : (0 : Int) ≤ ↑i + 1 := by omega
    have c4 : (↑i + 1 : Int) ≤ ↑s.size := by omega
    go_enter Tryd.func56, Tryd.ntmps56
    go_wp2_with (go_at_call 64; refine (IX _).mono ?_; rw [HI.out]; rintro e w' ⟨rfl, rfl⟩)
    go_region
    go_wp2
    go_ret3
    exact ⟨rfl, (by repeat' (first | with_reducible assumption | with_reducible exact Below.refl _ _ | with_reducible refine Below.setCell ?_ ?_ _ | with_reducible refine Below.alloc ?_ ?_ _ | with_reducible apply Below.drew | with_reducible apply Below.drewn | (simp; done) | (simp; omega)))⟩
/-- strings.Cut at a byte. -/
theorem iCut1 (s : ByteArray) (b : UInt8) (w : World) (hs : s.size < 4294967281) :
    Calls Tryd.prog 46 #[.string s, .string ⟨#[b]⟩] w fun e w' => e = .returned (.tuple #[.string (strOfNums (cutC (b.toNat : Int) (nms s)).1), .string (strOfNums (cutC (b.toNat : Int) (nms s)).2.1), .bool (cutC (b.toNat : Int) (nms s)).2.2]) ∧ Below w.heap.size w w' := by
  obtain ⟨e1, e2, e3⟩ := cut_is s.data.toList b
  have c := iCut0 s b w hs
  rw [str_ns (Lib.cut s.data.toList [b]).1, str_ns (Lib.cut s.data.toList [b]).2.1, e1, e2, e3] at c
  rw [nms_ns]
  have C := Lib.hid c
  clear c
  go_enter Tryd.func46, Tryd.ntmps46
  go_wp2_with (go_at_call 56; refine C.out.mono ?_; rintro e w' ⟨rfl, hb⟩)
  go_ret3
  exact ⟨rfl, hb⟩

theorem ns_dec {n : Nat} (h : n ≤ 59) : ns (Lib.decDigits n) = numT n := by
  unfold numT
  by_cases c : n < 10
  · rw [if_pos c, Lib.decDigits, dif_pos c]
    show [((UInt8.ofNat (48 + n)).toNat : Int)] = _
    rw [UInt8.toNat_ofNat']
    simp; omega
  · rw [if_neg c, Lib.decDigits, dif_neg c, Lib.decDigits, dif_pos (by omega)]
    show [((UInt8.ofNat (48 + n / 10)).toNat : Int), ((UInt8.ofNat (48 + n % 10)).toNat : Int)] = _
    rw [UInt8.toNat_ofNat', UInt8.toNat_ofNat']
    unfold d2
    simp; omega
/-- strconv.Itoa of a number less than 60. -/
theorem iItoa (n : Nat) (h : n ≤ 59) (w : World) :
    Calls Tryd.prog 37 #[.int .i64 (n : Int)] w fun e w' => e = .returned (.string (strOfNums (numT n))) ∧ w = w' := by
  have c := Tryd.strconv_Itoa_small n (by omega) w
  rw [str_ns, ns_dec h] at c
  exact c.mono fun e w' ⟨a, b⟩ => ⟨a, b.symm⟩

/-- Texts joined by a byte. -/
def jnC (c : Int) : List (List Int) → List Int
  | [] => []
  | [a] => a
  | a :: b :: t => a ++ c :: jnC c (b :: t)
theorem join_is (c : UInt8) : ∀ ws : List (List UInt8), ns (Lib.join ws [c]) = jnC (c.toNat : Int) (ws.map ns)
  | [] => rfl
  | [a] => by rw [Lib.join_one]; rfl
  | a :: b :: t => by
    have ih := join_is c (b :: t)
    have e : Lib.join (a :: b :: t) [c] = a ++ c :: Lib.join (b :: t) [c] := by
      unfold Lib.join
      simp [List.intercalate, List.intersperse]
    rw [e]
    show ns (a ++ c :: _) = ns a ++ (c.toNat : Int) :: jnC _ (List.map ns (b :: t))
    rw [← ih]
    unfold ns
    rw [List.map_append, List.map_cons]
/-- strings.Join at a byte, of a slice of one's own. -/
theorem iJoin1 (b : UInt8) (B : Nat) (v : Value) (ws : List (List Int)) (w : World) (hO : OwnS w B v ws) (hn : ws ≠ []) (hl : (jnC (b.toNat : Int) ws).length ≤ 1000000000) (hk : ws.length ≤ 1000000000) (hb : ∀ x ∈ ws, ∀ y ∈ x, 0 ≤ y ∧ y < 256) :
    Calls Tryd.prog 23 #[v, .string ⟨#[b]⟩] w fun e w' => e = .returned (.string (strOfNums (jnC (b.toNat : Int) ws))) ∧ Below w.heap.size w w' := by
  obtain ⟨g, cap, rfl, hg, hgs⟩ := hO.form hn
  have hcap : ws.length ≤ cap := by
    rcases hO.2 with ⟨h, _⟩ | ⟨g', cap', cur, e, h1, h2, h3⟩
    · simp at h
    · simp only [Value.slice.injEq, Option.some.injEq, Addr.mk.injEq] at e
      omega
  have e1 : (ws.map strOfNums).map (fun x : ByteArray => x.data.toList) = ws.map fun x => (strOfNums x).data.toList := by rw [List.map_map]; rfl
  have e2 : ((ws.map strOfNums).map (fun x : ByteArray => x.data.toList)).map ns = ws := by
    rw [List.map_map, List.map_map]
    conv => rhs; rw [← List.map_id ws]
    exact List.map_congr_left fun x hx => nms_of (hb x hx)
  have e3 := join_is b ((ws.map strOfNums).map (fun x : ByteArray => x.data.toList))
  rw [e2] at e3
  have e4 : (Lib.join ((ws.map strOfNums).map (fun x : ByteArray => x.data.toList)) [b]).length = (jnC (b.toNat : Int) ws).length := by rw [← e3]; unfold ns; rw [List.length_map]
  have c := Tryd.strings_Join g 0 cap (ws.map strOfNums) ⟨#[b]⟩ w (fun j x hj => by
      rw [List.getElem?_map] at hj
      obtain ⟨y, hy, rfl⟩ := Option.map_eq_some_iff.1 hj
      rw [Nat.zero_add]
      exact hO.cell hy) hgs (by rw [List.length_map]; omega) (by rw [List.length_map]; exact hcap) (by
      show (Lib.join _ [b]).length ≤ _
      rw [e4]; omega)
  rw [List.length_map] at c
  have e5 : (⟨(Lib.join ((ws.map strOfNums).map (fun x : ByteArray => x.data.toList)) [b]).toArray⟩ : ByteArray) = strOfNums (jnC (b.toNat : Int) ws) := by rw [str_ns, e3]
  have c : Calls Tryd.prog 23 #[.slice (some ⟨g, 0, none⟩) ws.length cap, .string ⟨#[b]⟩] w fun e w' => e = .returned (.string ⟨(Lib.join ((ws.map strOfNums).map (fun x : ByteArray => x.data.toList)) [b]).toArray⟩) ∧ Below w.heap.size w w' := c
  rw [e5] at c
  exact c

/-- The table of trailing zeros lies in the world as the program's text lays it. -/
def Tz (w : World) : Prop := TabAt 0 Lib.deBruijn64tab w
theorem Tz.below {w w' : World} {B : Nat} (h : Tz w) (hB : w.heap.size ≤ B) (k : Below B w w') : Tz w' := fun j hj => by
  have c := h j hj
  exact (Below_at (k.mono hB) 0 j (World.block_lt_of_cell? _ _ c)).trans c
set_option maxHeartbeats 1000000 in
theorem tz_core (x k idx : Nat) (w : World) (hx0 : ((x : Int) == 0) = false)
    (key : IntKind.u64.wrap (bits BinOp.and IntKind.u64 (x : Int) (IntKind.u64.wrap (-(x : Int))) * 285870213051353865) / 288230376151711744 = (idx : Int))
    (hi : idx < 64) (hk : k < 64) (hcell : w.cell? ⟨0, idx, none⟩ = some (.int .u8 k)) :
    Calls Tryd.prog 36 #[.int .u64 x] w fun e w' => e = .returned (.int .i64 k) ∧ w' = w := by
  go_enter Tryd.func36, Tryd.ntmps36
  go_wp2_with (simp only [key])
  go_ret
  exact ⟨rfl, rfl⟩
/-- math/bits.TrailingZeros64 of a number that is not 0. -/
theorem iTz (x : Nat) (hx : x < 18446744073709551616) (hx0 : x ≠ 0) (w : World) (hT : Tz w) :
    Calls Tryd.prog 36 #[.int .u64 (x : Int)] w fun e w' => e = .returned (.int .i64 (Lib.ctz 64 x : Int)) ∧ w' = w := by
  obtain ⟨hlow, hk⟩ := Lib.lowest_bit 64 x hx0 hx
  obtain ⟨hi, htab⟩ := Lib.deBruijn64_at _ hk
  have hcell := hT _ hi
  rw [htab] at hcell
  exact tz_core x _ _ w (by simp; omega) (tz64_key x _ hx hx0 hlow) hi hk hcell
end Go.Proofs.YtlpodfachgnkhaaDoor
