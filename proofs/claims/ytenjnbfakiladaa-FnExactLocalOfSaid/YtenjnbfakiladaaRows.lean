/-
  No cell of these rows narrows 'for every input' (looked for: loops, veiled, ifaces, maps, wideKeys, modest, calm, conditions, laid).
  DERIVED. THE GIVEN ROWS OF THIS SEAT. 8 by the template 'for every input the law returns true; each argument reads behind the call as it read before'; 0 by the template 'total and deterministic' (their statements: YtenjnbfakiladaaTotals.lean).
  GIVEN WITH THE SEED: the statements are not yours to turn. If you find one false, say at which input.
  Laid BY PROGRAM, IN A SANDBOX (cutbox-rows.mjs): the forced cells as the released guide's own fill.sh prints them over the translation 9f9ee427ee52ebcd… (all of the seat's roots in one cut). By AI agents, Wed Nov 11 2026. No macro, syntax, notation, axiom, sorry.
-/
import Derived.Test.YtenjnbfakiladaaChecked
import GoSem.Claim
import GoSem.ClaimJoined
import GoSem.ClaimMapViews
import Derived.JoinedTies
import Derived.KernelRfl
namespace Go.Proofs.Ytenjnbfakiladaa
/- THE CELL 'sum', in the pinned program and in every row, IS THE sha256 OF THE DUMP (.gsa) THAT YtenjnbfakiladaaProg.lean LOADS. Nothing in Lean hashes anything: it is a label: what it is worth is what the hold of that sum in a sandbox is worth. -/
noncomputable def Try.pinned : Pinned := { name := "ytenjnbfakiladaa", sum := "9f9ee427ee52ebcdaba2770f959b384287e0b185f89a3be796b1bfccc6fc6e71", checked := Try.checked }
namespace Rows
def none {H : Type} : Left H := { results := [], args := [] }

/-- 'laws.FnZoneValid': WHATEVER THE INPUT: true; the input reads as it did. -/
def fnZoneValidSpec : ChangeSpec := { name := "fnZoneValid", fn := fun _ => fun
  | [d] => { results := [.lit (.bool true)], args := [d] }
  | _ => none }
def fnZoneValidRow : OpenClaim := { program := "ytenjnbfakiladaa", sum := "9f9ee427ee52ebcdaba2770f959b384287e0b185f89a3be796b1bfccc6fc6e71", func := "loop.example/clockdaemon/laws.FnZoneValid", spec := "fnZoneValid", apart := false }
def FnZoneValidSaid : Prop := fnZoneValidRow.holds Try.pinned (OpenSpec.ofChange fnZoneValidSpec)

/-- ITS FALSE NEIGHBOUR: 'it returns false'. Refute it at one input. -/
def fnZoneValidWrong : ChangeSpec := { name := "fnZoneValid", fn := fun _ => fun
  | [d] => { results := [.lit (.bool false)], args := [d] }
  | _ => none }
def FnZoneValidWrongFalsely : Prop := fnZoneValidRow.holds Try.pinned (OpenSpec.ofChange fnZoneValidWrong)

/-- 'laws.FnOffsetAt': WHATEVER THE INPUT: true; the input reads as it did. -/
def fnOffsetAtSpec : ChangeSpec := { name := "fnOffsetAt", fn := fun _ => fun
  | [d] => { results := [.lit (.bool true)], args := [d] }
  | _ => none }
def fnOffsetAtRow : OpenClaim := { program := "ytenjnbfakiladaa", sum := "9f9ee427ee52ebcdaba2770f959b384287e0b185f89a3be796b1bfccc6fc6e71", func := "loop.example/clockdaemon/laws.FnOffsetAt", spec := "fnOffsetAt", apart := false }
def FnOffsetAtSaid : Prop := fnOffsetAtRow.holds Try.pinned (OpenSpec.ofChange fnOffsetAtSpec)

/-- ITS FALSE NEIGHBOUR: 'it returns false'. Refute it at one input. -/
def fnOffsetAtWrong : ChangeSpec := { name := "fnOffsetAt", fn := fun _ => fun
  | [d] => { results := [.lit (.bool false)], args := [d] }
  | _ => none }
def FnOffsetAtWrongFalsely : Prop := fnOffsetAtRow.holds Try.pinned (OpenSpec.ofChange fnOffsetAtWrong)

/-- 'laws.FnChangesOf': WHATEVER THE INPUT: true; the input reads as it did. -/
def fnChangesOfSpec : ChangeSpec := { name := "fnChangesOf", fn := fun _ => fun
  | [d] => { results := [.lit (.bool true)], args := [d] }
  | _ => none }
def fnChangesOfRow : OpenClaim := { program := "ytenjnbfakiladaa", sum := "9f9ee427ee52ebcdaba2770f959b384287e0b185f89a3be796b1bfccc6fc6e71", func := "loop.example/clockdaemon/laws.FnChangesOf", spec := "fnChangesOf", apart := false }
def FnChangesOfSaid : Prop := fnChangesOfRow.holds Try.pinned (OpenSpec.ofChange fnChangesOfSpec)

/-- ITS FALSE NEIGHBOUR: 'it returns false'. Refute it at one input. -/
def fnChangesOfWrong : ChangeSpec := { name := "fnChangesOf", fn := fun _ => fun
  | [d] => { results := [.lit (.bool false)], args := [d] }
  | _ => none }
def FnChangesOfWrongFalsely : Prop := fnChangesOfRow.holds Try.pinned (OpenSpec.ofChange fnChangesOfWrong)

/-- 'laws.FnZoneDay': WHATEVER THE INPUT: true; the input reads as it did. -/
def fnZoneDaySpec : ChangeSpec := { name := "fnZoneDay", fn := fun _ => fun
  | [d] => { results := [.lit (.bool true)], args := [d] }
  | _ => none }
def fnZoneDayRow : OpenClaim := { program := "ytenjnbfakiladaa", sum := "9f9ee427ee52ebcdaba2770f959b384287e0b185f89a3be796b1bfccc6fc6e71", func := "loop.example/clockdaemon/laws.FnZoneDay", spec := "fnZoneDay", apart := false }
def FnZoneDaySaid : Prop := fnZoneDayRow.holds Try.pinned (OpenSpec.ofChange fnZoneDaySpec)

/-- ITS FALSE NEIGHBOUR: 'it returns false'. Refute it at one input. -/
def fnZoneDayWrong : ChangeSpec := { name := "fnZoneDay", fn := fun _ => fun
  | [d] => { results := [.lit (.bool false)], args := [d] }
  | _ => none }
def FnZoneDayWrongFalsely : Prop := fnZoneDayRow.holds Try.pinned (OpenSpec.ofChange fnZoneDayWrong)

/-- 'laws.FnExactZoneValid': WHATEVER THE INPUT: true; the input reads as it did. -/
def fnExactZoneValidSpec : ChangeSpec := { name := "fnExactZoneValid", fn := fun _ => fun
  | [d] => { results := [.lit (.bool true)], args := [d] }
  | _ => none }
def fnExactZoneValidRow : OpenClaim := { program := "ytenjnbfakiladaa", sum := "9f9ee427ee52ebcdaba2770f959b384287e0b185f89a3be796b1bfccc6fc6e71", func := "loop.example/clockdaemon/laws.FnExactZoneValid", spec := "fnExactZoneValid", apart := false }
def FnExactZoneValidSaid : Prop := fnExactZoneValidRow.holds Try.pinned (OpenSpec.ofChange fnExactZoneValidSpec)

/-- ITS FALSE NEIGHBOUR: 'it returns false'. Refute it at one input. -/
def fnExactZoneValidWrong : ChangeSpec := { name := "fnExactZoneValid", fn := fun _ => fun
  | [d] => { results := [.lit (.bool false)], args := [d] }
  | _ => none }
def FnExactZoneValidWrongFalsely : Prop := fnExactZoneValidRow.holds Try.pinned (OpenSpec.ofChange fnExactZoneValidWrong)

/-- 'laws.FnExactOffsetAt': WHATEVER THE INPUT: true; the input reads as it did. -/
def fnExactOffsetAtSpec : ChangeSpec := { name := "fnExactOffsetAt", fn := fun _ => fun
  | [d1, d2] => { results := [.lit (.bool true)], args := [d1, d2] }
  | _ => none }
def fnExactOffsetAtRow : OpenClaim := { program := "ytenjnbfakiladaa", sum := "9f9ee427ee52ebcdaba2770f959b384287e0b185f89a3be796b1bfccc6fc6e71", func := "loop.example/clockdaemon/laws.FnExactOffsetAt", spec := "fnExactOffsetAt", apart := false }
def FnExactOffsetAtSaid : Prop := fnExactOffsetAtRow.holds Try.pinned (OpenSpec.ofChange fnExactOffsetAtSpec)

/-- ITS FALSE NEIGHBOUR: 'it returns false'. Refute it at one input. -/
def fnExactOffsetAtWrong : ChangeSpec := { name := "fnExactOffsetAt", fn := fun _ => fun
  | [d1, d2] => { results := [.lit (.bool false)], args := [d1, d2] }
  | _ => none }
def FnExactOffsetAtWrongFalsely : Prop := fnExactOffsetAtRow.holds Try.pinned (OpenSpec.ofChange fnExactOffsetAtWrong)

/-- 'laws.FnExactLocalOf': WHATEVER THE INPUT: true; the input reads as it did. -/
def fnExactLocalOfSpec : ChangeSpec := { name := "fnExactLocalOf", fn := fun _ => fun
  | [d1, d2] => { results := [.lit (.bool true)], args := [d1, d2] }
  | _ => none }
def fnExactLocalOfRow : OpenClaim := { program := "ytenjnbfakiladaa", sum := "9f9ee427ee52ebcdaba2770f959b384287e0b185f89a3be796b1bfccc6fc6e71", func := "loop.example/clockdaemon/laws.FnExactLocalOf", spec := "fnExactLocalOf", apart := false }
def FnExactLocalOfSaid : Prop := fnExactLocalOfRow.holds Try.pinned (OpenSpec.ofChange fnExactLocalOfSpec)

/-- ITS FALSE NEIGHBOUR: 'it returns false'. Refute it at one input. -/
def fnExactLocalOfWrong : ChangeSpec := { name := "fnExactLocalOf", fn := fun _ => fun
  | [d1, d2] => { results := [.lit (.bool false)], args := [d1, d2] }
  | _ => none }
def FnExactLocalOfWrongFalsely : Prop := fnExactLocalOfRow.holds Try.pinned (OpenSpec.ofChange fnExactLocalOfWrong)

/-- 'laws.FnExactChangesOf': WHATEVER THE INPUT: true; the input reads as it did. -/
def fnExactChangesOfSpec : ChangeSpec := { name := "fnExactChangesOf", fn := fun _ => fun
  | [d1, d2] => { results := [.lit (.bool true)], args := [d1, d2] }
  | _ => none }
def fnExactChangesOfRow : OpenClaim := { program := "ytenjnbfakiladaa", sum := "9f9ee427ee52ebcdaba2770f959b384287e0b185f89a3be796b1bfccc6fc6e71", func := "loop.example/clockdaemon/laws.FnExactChangesOf", spec := "fnExactChangesOf", apart := false }
def FnExactChangesOfSaid : Prop := fnExactChangesOfRow.holds Try.pinned (OpenSpec.ofChange fnExactChangesOfSpec)

/-- ITS FALSE NEIGHBOUR: 'it returns false'. Refute it at one input. -/
def fnExactChangesOfWrong : ChangeSpec := { name := "fnExactChangesOf", fn := fun _ => fun
  | [d1, d2] => { results := [.lit (.bool false)], args := [d1, d2] }
  | _ => none }
def FnExactChangesOfWrongFalsely : Prop := fnExactChangesOfRow.holds Try.pinned (OpenSpec.ofChange fnExactChangesOfWrong)

/- THE SECOND FORM. 'bulk': how many values and letters a reading holds, each counted each time it is reached (what is shared counts as often as it is met; a slice's spare places count too). A statement '..UptoSaid' is the law's where the arguments, and the package variables that the reading takes, are together of bulk at most 1048576: NARROWER than '..Said'. Prove '..Said' where nothing that the law and all that it calls make is longer than what came in: it says more and counts as full. Else prove '..UptoSaid'. A law counts once. -/
mutual
def uptoBulk {H : Type} : DataW H → Nat
  | .lit (.string bytes) => bytes.length + 1
  | .lit _ => 1
  | .nil => 1
  | .ptr d => uptoBulk d + 1
  | .slice elems spare => uptoBulkAll elems + uptoBulkAll spare + 1
  | .agg parts => uptoBulkAll parts + 1
  | .iface _ d => uptoBulk d + 1
  | .map entries => uptoBulkEntries entries + 1
  | .held _ => 1
def uptoBulkAll {H : Type} : List (DataW H) → Nat
  | [] => 0
  | d :: r => uptoBulk d + uptoBulkAll r
def uptoBulkEntries {H : Type} : List (Lit × DataW H) → Nat
  | [] => 0
  | x :: r => uptoBulkEntry x + uptoBulkEntries r
def uptoBulkEntry {H : Type} : Lit × DataW H → Nat
  | (.string bytes, d) => bytes.length + uptoBulk d + 1
  | (_, d) => uptoBulk d + 1
 end
def uptoSmall : (H : Type) → List (DataW H) → Bool := fun _ ds => decide (uptoBulkAll ds ≤ 1048576)
def OpenSpec.upto (s : _root_.Go.ChangeSpec) : _root_.Go.OpenSpec := { _root_.Go.OpenSpec.ofChange s with cond := some uptoSmall }

/-- 'laws.FnZoneValid', WHERE WHAT IT READS IS OF BULK AT MOST 1048576: true; the input reads as it did. -/
def fnZoneValidUptoRow : OpenClaim := { program := "ytenjnbfakiladaa", sum := "9f9ee427ee52ebcdaba2770f959b384287e0b185f89a3be796b1bfccc6fc6e71", func := "loop.example/clockdaemon/laws.FnZoneValid", spec := "fnZoneValid", apart := false, narrowed := true }
def FnZoneValidUptoSaid : Prop := fnZoneValidUptoRow.holds Try.pinned (OpenSpec.upto fnZoneValidSpec)

/-- 'laws.FnOffsetAt', WHERE WHAT IT READS IS OF BULK AT MOST 1048576: true; the input reads as it did. -/
def fnOffsetAtUptoRow : OpenClaim := { program := "ytenjnbfakiladaa", sum := "9f9ee427ee52ebcdaba2770f959b384287e0b185f89a3be796b1bfccc6fc6e71", func := "loop.example/clockdaemon/laws.FnOffsetAt", spec := "fnOffsetAt", apart := false, narrowed := true }
def FnOffsetAtUptoSaid : Prop := fnOffsetAtUptoRow.holds Try.pinned (OpenSpec.upto fnOffsetAtSpec)

/-- 'laws.FnChangesOf', WHERE WHAT IT READS IS OF BULK AT MOST 1048576: true; the input reads as it did. -/
def fnChangesOfUptoRow : OpenClaim := { program := "ytenjnbfakiladaa", sum := "9f9ee427ee52ebcdaba2770f959b384287e0b185f89a3be796b1bfccc6fc6e71", func := "loop.example/clockdaemon/laws.FnChangesOf", spec := "fnChangesOf", apart := false, narrowed := true }
def FnChangesOfUptoSaid : Prop := fnChangesOfUptoRow.holds Try.pinned (OpenSpec.upto fnChangesOfSpec)

/-- 'laws.FnZoneDay', WHERE WHAT IT READS IS OF BULK AT MOST 1048576: true; the input reads as it did. -/
def fnZoneDayUptoRow : OpenClaim := { program := "ytenjnbfakiladaa", sum := "9f9ee427ee52ebcdaba2770f959b384287e0b185f89a3be796b1bfccc6fc6e71", func := "loop.example/clockdaemon/laws.FnZoneDay", spec := "fnZoneDay", apart := false, narrowed := true }
def FnZoneDayUptoSaid : Prop := fnZoneDayUptoRow.holds Try.pinned (OpenSpec.upto fnZoneDaySpec)

/-- 'laws.FnExactZoneValid', WHERE WHAT IT READS IS OF BULK AT MOST 1048576: true; the input reads as it did. -/
def fnExactZoneValidUptoRow : OpenClaim := { program := "ytenjnbfakiladaa", sum := "9f9ee427ee52ebcdaba2770f959b384287e0b185f89a3be796b1bfccc6fc6e71", func := "loop.example/clockdaemon/laws.FnExactZoneValid", spec := "fnExactZoneValid", apart := false, narrowed := true }
def FnExactZoneValidUptoSaid : Prop := fnExactZoneValidUptoRow.holds Try.pinned (OpenSpec.upto fnExactZoneValidSpec)

/-- 'laws.FnExactOffsetAt', WHERE WHAT IT READS IS OF BULK AT MOST 1048576: true; the input reads as it did. -/
def fnExactOffsetAtUptoRow : OpenClaim := { program := "ytenjnbfakiladaa", sum := "9f9ee427ee52ebcdaba2770f959b384287e0b185f89a3be796b1bfccc6fc6e71", func := "loop.example/clockdaemon/laws.FnExactOffsetAt", spec := "fnExactOffsetAt", apart := false, narrowed := true }
def FnExactOffsetAtUptoSaid : Prop := fnExactOffsetAtUptoRow.holds Try.pinned (OpenSpec.upto fnExactOffsetAtSpec)

/-- 'laws.FnExactLocalOf', WHERE WHAT IT READS IS OF BULK AT MOST 1048576: true; the input reads as it did. -/
def fnExactLocalOfUptoRow : OpenClaim := { program := "ytenjnbfakiladaa", sum := "9f9ee427ee52ebcdaba2770f959b384287e0b185f89a3be796b1bfccc6fc6e71", func := "loop.example/clockdaemon/laws.FnExactLocalOf", spec := "fnExactLocalOf", apart := false, narrowed := true }
def FnExactLocalOfUptoSaid : Prop := fnExactLocalOfUptoRow.holds Try.pinned (OpenSpec.upto fnExactLocalOfSpec)

/-- 'laws.FnExactChangesOf', WHERE WHAT IT READS IS OF BULK AT MOST 1048576: true; the input reads as it did. -/
def fnExactChangesOfUptoRow : OpenClaim := { program := "ytenjnbfakiladaa", sum := "9f9ee427ee52ebcdaba2770f959b384287e0b185f89a3be796b1bfccc6fc6e71", func := "loop.example/clockdaemon/laws.FnExactChangesOf", spec := "fnExactChangesOf", apart := false, narrowed := true }
def FnExactChangesOfUptoSaid : Prop := fnExactChangesOfUptoRow.holds Try.pinned (OpenSpec.upto fnExactChangesOfSpec)

end Rows
end Go.Proofs.Ytenjnbfakiladaa
