/-
  CONTRACTS OF THE MODEL's READER: it gives numbers in their ranges and moves on; nothing else changes.
-/
import Derived.Test.YtlpodfachgnkhaaDoorChecked
import Derived.Test.YtlpodfachgnkhaaDoorLaw
import Derived.WalkKit
import Derived.ProofKit
import Derived.Outline
import Derived.Lib.Hide
import Derived.Deep.QuietTactic
import Derived.BigQuiet
import Derived.IntWalk
set_option linter.unusedVariables false
set_option linter.unusedSimpArgs false
namespace Go.Proofs.YtlpodfachgnkhaaDoor
open Go.ChangeShapes Go.WideShapes Go.ChangeAt Go.RowKit Law

theorem open_any (v : Value) (w : World) (B : Nat) (h : BytesAt w B v) (hB : B ≤ w.heap.size) :
    Calls Tryd.prog 17 #[v] w fun e w' => e = .returned (.pointer (some ⟨w.heap.size, 0, none⟩)) ∧ ∃ u, BytesAt w B u ∧ w' = w.alloc (.cells #[u, .int .i64 0] 54) := by
  obtain ⟨a, len, cap, rfl, h1, h2, h3⟩ := h
  unfold maxLen at h2
  by_cases c : 2000 < len
  · have hu : Hid (BytesAt w B (.slice a 2000 cap)) := ⟨a, 2000, cap, rfl, by omega, by unfold maxLen; omega, fun _ => by
      obtain ⟨b, off, e, e1, e2⟩ := h3 (by omega)
      exact ⟨b, off, e, e1, fun i hi => e2 i (by omega)⟩⟩
    clear h3
    go_enter Tryd.func17, Tryd.ntmps17
    go_wp2
    go_ret
    exact ⟨rfl, _, hu.out, rfl⟩
  · have hu : Hid (BytesAt w B (.slice a len cap)) := ⟨a, len, cap, rfl, h1, by unfold maxLen; omega, h3⟩
    clear h3
    have c' : decide (2000 < len) = false := by simpa using c
    go_enter Tryd.func17, Tryd.ntmps17
    go_wp2
    go_ret
    exact ⟨rfl, _, hu.out, rfl⟩

/-- All that lay in w lies in w' as it was, but for the reader's block. -/
def Moved (r : Nat) (w w' : World) : Prop := w'.os = w.os ∧ w'.tape = w.tape ∧ w'.output = w.output ∧ w.heap.size ≤ w'.heap.size ∧ ∀ b, b < w.heap.size → b ≠ r → w'.heap[b]? = w.heap[b]?
/-- Block r is a reader of bytes that lie below B; it has given at most K numbers. -/
def Rd (w : World) (B r K : Nat) : Prop := B ≤ r ∧ r < w.heap.size ∧ (∃ u, w.cell? ⟨r, 0, none⟩ = some u ∧ BytesAt w B u) ∧ (∃ k : Nat, k ≤ K ∧ w.cell? ⟨r, 1, none⟩ = some (.int .i64 k)) ∧ w.frozen? ⟨r, 1, none⟩ = false

theorem i64_xor_nat (a b : Nat) (ha : a < 9223372036854775808) (hb : b < 9223372036854775808) : bits .xor .i64 (a : Int) (b : Int) = ((a ^^^ b : Nat) : Int) := by
  have hx : a ^^^ b < 2 ^ 63 := Nat.xor_lt_two_pow (by omega) (by omega)
  show IntKind.i64.wrap ((BitVec.ofInt 64 (a : Int) ^^^ BitVec.ofInt 64 (b : Int)).toNat : Int) = _
  rw [BitVec.toNat_xor, ofInt_u64 a (by omega), ofInt_u64 b (by omega), IntKind.wrap_i64]
  omega
theorem xor_bd (x : Int) (h0 : 0 ≤ x) (h : x ≤ 1000000000000000000) : 0 ≤ bits .xor .i64 x (x / 64) ∧ bits .xor .i64 x (x / 64) ≤ 9223372036854775807 := by
  obtain ⟨X, rfl⟩ := Int.eq_ofNat_of_zero_le h0
  have e : ((X : Int) / 64) = ((X / 64 : Nat) : Int) := by omega
  rw [e, i64_xor_nat X (X / 64) (by omega) (by omega)]
  have hx : X ^^^ (X / 64) < 2 ^ 63 := Nat.xor_lt_two_pow (by omega) (by omega)
  omega

set_option maxHeartbeats 1000000 in
theorem pick_low (n : Int) (w : World) (B r K : Nat) (h : Rd w B r K) (hK : K < 1000000000) (hn : n < 1) :
    Calls Tryd.prog 33 #[.pointer (some ⟨r, 0, none⟩), .int .i64 n] w fun e w' => e = .returned (.int .i64 0) ∧ ∃ k : Nat, k ≤ K ∧ w' = w.setCell ⟨r, 1, none⟩ (.int .i64 (k + 1)) := by
  obtain ⟨hBr, hr, ⟨u, hu, a, len, cap, rfl, h1, h2, h3⟩, ⟨k, hk, hk1⟩, hf⟩ := h
  unfold maxLen at h2
  go_enter Tryd.func33, Tryd.ntmps33
  go_wp2
  go_ret
  exact ⟨rfl, k, hk, rfl⟩

set_option maxHeartbeats 1000000 in
theorem pick_empty (n : Int) (w : World) (B r K : Nat) (hr : r < w.heap.size) (a : Option Addr) (cap : Nat) (k : Nat) (hu : w.cell? ⟨r, 0, none⟩ = some (.slice a 0 cap)) (hk : w.cell? ⟨r, 1, none⟩ = some (.int .i64 k)) (hf : w.frozen? ⟨r, 1, none⟩ = false) (hK : k < 1000000000) (hn : 1 ≤ n) :
    Calls Tryd.prog 33 #[.pointer (some ⟨r, 0, none⟩), .int .i64 n] w fun e w' => e = .returned (.int .i64 0) ∧ w' = w.setCell ⟨r, 1, none⟩ (.int .i64 (k + 1)) := by
  have hn' : decide (n < 1) = false := by simpa using hn
  go_enter Tryd.func33, Tryd.ntmps33
  go_wp2
  go_ret
  exact ⟨rfl, rfl⟩

set_option maxHeartbeats 1000000 in
theorem pick_near (n : Int) (w : World) (r : Nat) (hr : r < w.heap.size) (b off len cap : Nat) (k : Nat) (c : Int) (hu : w.cell? ⟨r, 0, none⟩ = some (.slice (some ⟨b, off, none⟩) len cap)) (hk : w.cell? ⟨r, 1, none⟩ = some (.int .i64 k)) (hf : w.frozen? ⟨r, 1, none⟩ = false) (hK : k < 1000000000) (hn : 1 ≤ n) (hn9 : n ≤ 9223372036854775807)
    (hlen : len ≤ 9223372036854775807) (hkl : k < len) (hbr : b ≠ r) (hc : w.cell? ⟨b, off + k, none⟩ = some (.int .u8 c)) (c0 : 0 ≤ c) (c9 : c ≤ 255) :
    Calls Tryd.prog 33 #[.pointer (some ⟨r, 0, none⟩), .int .i64 n] w fun e w' => e = .returned (.int .i64 (c % n)) ∧ w' = w.setCell ⟨r, 1, none⟩ (.int .i64 (k + 1)) := by
  have hn' : decide (n < 1) = false := by simpa using hn
  have hl' : ((len : Int) == 0) = false := by simp; omega
  have hz : decide (k < len) = true := by simpa using hkl
  go_enter Tryd.func33, Tryd.ntmps33
  go_wp2
  go_ret
  exact ⟨rfl, rfl⟩

set_option maxHeartbeats 2000000 in
theorem pick_far (n : Int) (w : World) (r : Nat) (hr : r < w.heap.size) (b off len cap : Nat) (k : Nat) (c d : Int) (hu : w.cell? ⟨r, 0, none⟩ = some (.slice (some ⟨b, off, none⟩) len cap)) (hk : w.cell? ⟨r, 1, none⟩ = some (.int .i64 k)) (hf : w.frozen? ⟨r, 1, none⟩ = false) (hK : k < 1000000000) (hn : 1 ≤ n) (hn9 : n ≤ 9223372036854775807)
    (hlen : len ≤ 9223372036854775807) (hl0 : 0 < len) (hkl : len ≤ k) (hbr : b ≠ r) (hc : w.cell? ⟨b, off + k % len, none⟩ = some (.int .u8 c)) (c0 : 0 ≤ c) (c9 : c ≤ 255)
    (hd : w.cell? ⟨b, off + (k * 7 + 3) % len, none⟩ = some (.int .u8 d)) (d0 : 0 ≤ d) (d9 : d ≤ 255) :
    Calls Tryd.prog 33 #[.pointer (some ⟨r, 0, none⟩), .int .i64 n] w fun e w' => ∃ m : Int, e = .returned (.int .i64 m) ∧ 0 ≤ m ∧ m < n ∧ ∃ q, w' = (w.setCell ⟨r, 1, none⟩ (.int .i64 (k + 1))).drewN q := by
  have hn' : decide (n < 1) = false := by simpa using hn
  have hl' : ((len : Int) == 0) = false := by simp; omega
  have hz : decide (k < len) = false := by simpa using hkl
  have hz2 : decide ((k : Int) < len) = false := by simpa using hkl
  have i1 : 0 ≤ (k : Int) % len := Int.emod_nonneg _ (by omega)
  have i2 : (k : Int) % len < len := Int.emod_lt_of_pos _ (by omega)
  have i3 : ((k : Int) % (len : Int)).toNat = k % len := by rw [show ((k : Int) % (len : Int)) = ((k % len : Nat) : Int) from by simp]; exact Int.toNat_natCast _
  have j1 : 0 ≤ ((k : Int) * 7 + 3) % len := Int.emod_nonneg _ (by omega)
  have j2 : ((k : Int) * 7 + 3) % len < len := Int.emod_lt_of_pos _ (by omega)
  have j3 : (((k : Int) * 7 + 3) % (len : Int)).toNat = (k * 7 + 3) % len := by rw [show (((k : Int) * 7 + 3) % (len : Int)) = (((k * 7 + 3) % len : Nat) : Int) from by simp]; exact Int.toNat_natCast _
  have l1 : 0 ≤ (k : Int) / len := Int.ediv_nonneg (by omega) (by omega)
  have l2 : (k : Int) / len ≤ k := Int.ediv_le_self _ (by omega)
  obtain ⟨x1, x2⟩ := xor_bd (c * 131 + d * 1117 + (k : Int) * 29 + (k : Int) / len * 53) (by omega) (by omega)
  go_enter Tryd.func33, Tryd.ntmps33
  go_wp2
  go_quiet (fail)
  go_wp2
  go_ret
  exact ⟨_, rfl, Int.emod_nonneg _ (by omega), Int.emod_lt_of_pos _ (by omega), _, rfl⟩

theorem Moved.refl (r : Nat) (w : World) : Moved r w w := ⟨rfl, rfl, rfl, Nat.le_refl _, fun _ _ _ => rfl⟩
theorem Moved.trans {r : Nat} {a b c : World} (h : Moved r a b) (k : Moved r b c) : Moved r a c :=
  ⟨k.1.trans h.1, k.2.1.trans h.2.1, k.2.2.1.trans h.2.2.1, Nat.le_trans h.2.2.2.1 k.2.2.2.1, fun x h1 h2 => (k.2.2.2.2 x (Nat.lt_of_lt_of_le h1 h.2.2.2.1) h2).trans (h.2.2.2.2 x h1 h2)⟩
theorem Moved.below {r : Nat} {a b c : World} (h : Moved r a b) (k : Below b.heap.size b c) : Moved r a c :=
  h.trans ⟨k.os, k.tape, k.output, k.size, fun x h1 _ => k.block x h1⟩
theorem Moved.alloc {r : Nat} {a b : World} (h : Moved r a b) (o : Obj) : Moved r a (b.alloc o) := h.below ((Below.refl _ _).alloc (Nat.le_refl _) o)
theorem Moved.store {r : Nat} {a b : World} (h : Moved r a b) {p : Addr} (hp : a.heap.size ≤ p.block) (u : Value) : Moved r a (b.setCell p u) := by
  have k : Below a.heap.size b (b.setCell p u) := (Below.refl _ _).setCell hp u
  exact ⟨k.os.trans h.1, k.tape.trans h.2.1, k.output.trans h.2.2.1, Nat.le_trans h.2.2.2.1 k.size, fun x h1 h2 => (k.block x h1).trans (h.2.2.2.2 x h1 h2)⟩
theorem Moved.to_below {r : Nat} {w w' : World} (h : Moved r w w') (B : Nat) (hB : B ≤ r) (hw : B ≤ w.heap.size) : Below B w w' :=
  ⟨h.1, h.2.1, h.2.2.1, h.2.2.2.1, fun x hx => h.2.2.2.2 x (by omega) (by omega)⟩
theorem Moved.cell {r : Nat} {w w' : World} (h : Moved r w w') : (∀ b o, b < w.heap.size → b ≠ r → w'.cell? ⟨b, o, none⟩ = w.cell? ⟨b, o, none⟩) ∧ (∀ b o, b < w.heap.size → b ≠ r → w'.frozen? ⟨b, o, none⟩ = w.frozen? ⟨b, o, none⟩) :=
  ⟨fun b o h1 h2 => World.cell?_of_block (h.2.2.2.2 b h1 h2), fun b o h1 h2 => World.frozen?_of_block (h.2.2.2.2 b h1 h2)⟩

theorem bytes_keep {w w' : World} {B : Nat} {v : Value} (h : BytesAt w B v) (hk : ∀ b o, b < B → w'.cell? ⟨b, o, none⟩ = w.cell? ⟨b, o, none⟩) : BytesAt w' B v := by
  obtain ⟨a, len, cap, e, h1, h2, h3⟩ := h
  refine ⟨a, len, cap, e, h1, h2, fun h0 => ?_⟩
  obtain ⟨b, off, e1, e2, e3⟩ := h3 h0
  refine ⟨b, off, e1, e2, fun i hi => ?_⟩
  obtain ⟨n, n0, n9, hn⟩ := e3 i hi
  exact ⟨n, n0, n9, by rw [hk b _ e2]; exact hn⟩

/-- A reader stays one where its block, and the bytes' blocks, are as they were. -/
theorem Rd.keep {w w' : World} {B r K : Nat} (h : Rd w B r K) (hs : w.heap.size ≤ w'.heap.size) (hk : ∀ b, b ≤ r → w'.heap[b]? = w.heap[b]?) : Rd w' B r K := by
  obtain ⟨h1, h2, ⟨u, hu, hb⟩, ⟨k, hk1, hk2⟩, hf⟩ := h
  have c : ∀ b o, b ≤ r → w'.cell? ⟨b, o, none⟩ = w.cell? ⟨b, o, none⟩ := fun b o h => World.cell?_of_block (hk b h)
  exact ⟨h1, by omega, ⟨u, by rw [c r 0 (Nat.le_refl _)]; exact hu, bytes_keep hb fun b o hb => c b o (by omega)⟩, ⟨k, hk1, by rw [c r 1 (Nat.le_refl _)]; exact hk2⟩, (World.frozen?_of_block (a := ⟨r, 1, none⟩) (hk r (Nat.le_refl _))).trans hf⟩
theorem Rd.below {w w' : World} {B r K : Nat} (h : Rd w B r K) (k : Below w.heap.size w w') : Rd w' B r K := h.keep k.size fun b hb => k.block b (by have := h.2.1; omega)
theorem Rd.alloc {w : World} {B r K : Nat} (h : Rd w B r K) (o : Obj) : Rd (w.alloc o) B r K := h.below ((Below.refl _ _).alloc (Nat.le_refl _) o)
theorem Rd.drew {w : World} {B r K : Nat} (h : Rd w B r K) : Rd w.drew B r K := h
theorem Rd.store {w : World} {B r K : Nat} (h : Rd w B r K) {p : Addr} (hp : r < p.block) (u : Value) : Rd (w.setCell p u) B r K := by
  have k : Below p.block w (w.setCell p u) := (Below.refl _ _).setCell (Nat.le_refl _) u
  exact h.keep k.size fun b hb => k.block b (by omega)
theorem Rd.made {w : World} {B : Nat} {u : Value} {T : TypeId} (hB : B ≤ w.heap.size) (h : BytesAt w B u) : Rd (w.alloc (.cells #[u, .int .i64 0] T)) B w.heap.size 0 := by
  have k : Below w.heap.size w (w.alloc (.cells #[u, .int .i64 0] T)) := (Below.refl _ _).alloc (Nat.le_refl _) _
  have kc : ∀ b o, b < B → (w.alloc (.cells #[u, .int .i64 0] T)).cell? ⟨b, o, none⟩ = w.cell? ⟨b, o, none⟩ := fun b o hb => k.cell (p := ⟨b, o, none⟩) (by show b < _; omega)
  refine ⟨hB, by simp, ⟨u, by go_simp, bytes_keep h kc⟩, ⟨0, Nat.le_refl _, by go_simp⟩, by go_simp⟩

/-- What a call of pick leaves. -/
theorem picked {w : World} {B r K : Nat} (h : Rd w B r K) (k q : Nat) (hk : k ≤ K) : Rd ((w.setCell ⟨r, 1, none⟩ (.int .i64 (k + 1))).drewN q) B r (K + 1) ∧ Moved r w ((w.setCell ⟨r, 1, none⟩ (.int .i64 (k + 1))).drewN q) := by
  obtain ⟨h1, h2, ⟨u, hu, hb⟩, ⟨k0, hk1, hk2⟩, hf⟩ := h
  have hs : Below r w (w.setCell ⟨r, 1, none⟩ (.int .i64 (k + 1))) := Below.setCell (B := r) (Below.refl r w) (p := ⟨r, 1, none⟩) (Nat.le_refl r) _
  have R : Rd (w.setCell ⟨r, 1, none⟩ (.int .i64 (k + 1))) B r (K + 1) := by
    refine ⟨h1, by rw [World.size_setCell]; exact h2, ⟨u, ?_, bytes_keep hb fun b o hb => hs.cell (p := ⟨b, o, none⟩) (by show b < r; omega)⟩, ⟨k + 1, by omega, ?_⟩, ?_⟩
    · rw [World.cell?_setCell_other _ _ _ _ (by simp)]; exact hu
    · rw [World.cell?_setCell_same _ _ _ hk2]; rfl
    · rw [World.frozen?_setCell]; exact hf
  have M : Moved r w (w.setCell ⟨r, 1, none⟩ (.int .i64 (k + 1))) := ⟨hs.os, hs.tape, hs.output, hs.size, fun b _ hb => Below.heap_setCell w ⟨r, 1, none⟩ _ b hb⟩
  exact ⟨R, M⟩

/-- The reader gives a number in 0..n-1, and 0 if there is none. -/
theorem pick_any (n : Int) (r : Nat) (w : World) (B K : Nat) (h : Rd w B r K) (hK : K < 1000000000) (hn9 : n ≤ 9223372036854775807) :
    Calls Tryd.prog 33 #[.pointer (some ⟨r, 0, none⟩), .int .i64 n] w fun e w' => ∃ m : Int, e = .returned (.int .i64 m) ∧ 0 ≤ m ∧ (m < n ∨ n < 1 ∧ m = 0) ∧ Rd w' B r (K + 1) ∧ Moved r w w' ∧ w'.heap.size = w.heap.size := by
  by_cases hn : n < 1
  · refine (pick_low n w B r K h hK hn).mono fun e w' ⟨he, k, hk, hw⟩ => ?_
    have := picked h k 0 hk
    subst hw
    exact ⟨0, he, by omega, Or.inr ⟨hn, rfl⟩, this.1, this.2, by simp⟩
  · have h0 := h
    obtain ⟨hBr, hr, ⟨u, hu, a, len, cap, rfl, h1, h2, h3⟩, ⟨k, hk, hk1⟩, hf⟩ := h0
    unfold maxLen at h2
    by_cases hl : len = 0
    · subst hl
      refine (pick_empty n w B r K hr a cap k hu hk1 hf (by omega) (by omega)).mono fun e w' ⟨he, hw⟩ => ?_
      have := picked h k 0 hk
      subst hw
      exact ⟨0, he, by omega, Or.inl (by omega), this.1, this.2, by simp⟩
    · obtain ⟨b, off, rfl, hbB, hc⟩ := h3 (by omega)
      by_cases hkl : k < len
      · obtain ⟨c, c0, c9, hcc⟩ := hc k hkl
        refine (pick_near n w r hr b off len cap k c hu hk1 hf (by omega) (by omega) hn9 (by omega) hkl (by omega) hcc c0 c9).mono fun e w' ⟨he, hw⟩ => ?_
        have := picked h k 0 hk
        subst hw
        exact ⟨_, he, Int.emod_nonneg _ (by omega), Or.inl (Int.emod_lt_of_pos _ (by omega)), this.1, this.2, by simp⟩
      · obtain ⟨c, c0, c9, hcc⟩ := hc (k % len) (Nat.mod_lt _ (by omega))
        obtain ⟨d, d0, d9, hdd⟩ := hc ((k * 7 + 3) % len) (Nat.mod_lt _ (by omega))
        refine (pick_far n w r hr b off len cap k c d hu hk1 hf (by omega) (by omega) hn9 (by omega) (by omega) (by omega) (by omega) hcc c0 c9 hdd d0 d9).mono fun e w' ⟨m, he, m0, m9, q, hw⟩ => ?_
        have := picked h k q hk
        subst hw
        exact ⟨m, he, m0, Or.inl m9, this.1, this.2, by simp⟩

theorem pick_pos (n : Int) (r : Nat) (w : World) (B K : Nat) (h : Rd w B r K) (hK : K < 1000000000) (hn1 : 1 ≤ n) (hn9 : n ≤ 9223372036854775807) :
    Calls Tryd.prog 33 #[.pointer (some ⟨r, 0, none⟩), .int .i64 n] w fun e w' => ∃ m : Int, e = .returned (.int .i64 m) ∧ 0 ≤ m ∧ m < n ∧ Rd w' B r (K + 1) ∧ Moved r w w' :=
  (pick_any n r w B K h hK hn9).mono fun e w' ⟨m, he, m0, m9, hR, hM, _⟩ => ⟨m, he, m0, by omega, hR, hM⟩

/-- The numbers of a table's cells. -/
def nums (cs : Array Value) : List Int := cs.toList.map intOf
theorem tab_at (w0 : World) (cs : Array Value) (T : TypeId) (lo hi m : Int) (hn : (nums cs).map (Value.int .i64) = cs.toList) (h0 : 0 ≤ m) (h9 : m < (nums cs).length) (hb : ∀ x ∈ nums cs, lo ≤ x ∧ x ≤ hi) :
    ∃ x : Int, lo ≤ x ∧ x ≤ hi ∧ (w0.alloc (.cells cs T)).cell? ⟨w0.heap.size, m.toNat, none⟩ = some (.int .i64 x) := by
  have hl : m.toNat < (nums cs).length := by omega
  have hx := hb _ (List.getElem_mem hl)
  refine ⟨(nums cs)[m.toNat]'hl, hx.1, hx.2, ?_⟩
  have e : cs[m.toNat]? = some (.int .i64 ((nums cs)[m.toNat]'hl)) := by
    rw [← Array.getElem?_toList, ← hn, List.getElem?_map, List.getElem?_eq_getElem hl]; rfl
  rw [World.cell?_alloc_new]; exact e
/-- A table that was made last ahead of a pick, read behind it. -/
theorem tabB {r : Nat} {w0 wp : World} {cs : Array Value} {T : TypeId} (hM : Moved r (w0.alloc (.cells cs T)) wp) (hr : r < w0.heap.size) (lo hi m : Int) (hn : (nums cs).map (Value.int .i64) = cs.toList) (h0 : 0 ≤ m) (h9 : m < (nums cs).length) (hb : ∀ x ∈ nums cs, lo ≤ x ∧ x ≤ hi) :
    ∃ x : Int, lo ≤ x ∧ x ≤ hi ∧ wp.cell? ⟨w0.heap.size, m.toNat, none⟩ = some (.int .i64 x) := by
  obtain ⟨x, h1, h2, h3⟩ := tab_at w0 cs T lo hi m hn h0 h9 hb
  exact ⟨x, h1, h2, by rw [hM.cell.1 _ _ (by simp) (by omega)]; exact h3⟩
/-- A table that was made ahead of another one. -/
theorem tabA {r : Nat} {w0 wp : World} {cs : Array Value} {T : TypeId} {o : Obj} (hM : Moved r ((w0.alloc (.cells cs T)).alloc o) wp) (hr : r < w0.heap.size) (lo hi m : Int) (hn : (nums cs).map (Value.int .i64) = cs.toList) (h0 : 0 ≤ m) (h9 : m < (nums cs).length) (hb : ∀ x ∈ nums cs, lo ≤ x ∧ x ≤ hi) :
    ∃ x : Int, lo ≤ x ∧ x ≤ hi ∧ wp.cell? ⟨w0.heap.size, m.toNat, none⟩ = some (.int .i64 x) := by
  obtain ⟨x, h1, h2, h3⟩ := tab_at w0 cs T lo hi m hn h0 h9 hb
  exact ⟨x, h1, h2, by rw [hM.cell.1 _ _ (by simp; omega) (by omega), World.cell?_alloc_old _ _ _ (by simp)]; exact h3⟩

/-- A reader is opened: all that was there stays. -/
theorem open_rd (v : Value) (w : World) (B : Nat) (h : BytesAt w B v) (hB : B ≤ w.heap.size) :
    Calls Tryd.prog 17 #[v] w fun e w' => ∃ r : Nat, e = .returned (.pointer (some ⟨r, 0, none⟩)) ∧ w.heap.size ≤ r ∧ Rd w' B r 0 ∧ Below w.heap.size w w' :=
  (open_any v w B h hB).mono fun e w' ⟨he, u, hu, hw⟩ => by
    subst hw
    exact ⟨_, he, Nat.le_refl _, Rd.made hB hu, (Below.refl _ _).alloc (Nat.le_refl _) _⟩
end Go.Proofs.YtlpodfachgnkhaaDoor
