/-
  No cell of these rows narrows 'for every input' (looked for: loops, veiled, ifaces, maps, wideKeys, modest, calm, conditions, laid).
  DERIVED. THE GIVEN ROWS OF THIS SEAT. 13 by the template 'for every input the law returns true; each argument reads behind the call as it read before'; 0 by the template 'total and deterministic' (their statements: YtlmmianaplahaaaTotals.lean).
  GIVEN WITH THE SEED: the statements are not yours to turn. If you find one false, say at which input.
  Laid BY PROGRAM, IN A SANDBOX (cutbox-rows.mjs): the forced cells as the released guide's own fill.sh prints them over the translation ace8676835ce0d52… (all of the seat's roots in one cut). By AI agents, Wed Nov 11 2026. No macro, syntax, notation, axiom, sorry.
-/
import Derived.Test.YtlmmianaplahaaaChecked
import GoSem.Claim
import GoSem.ClaimJoined
import GoSem.ClaimMapViews
import Derived.JoinedTies
import Derived.KernelRfl
namespace Go.Proofs.Ytlmmianaplahaaa
/- THE CELL 'sum', in the pinned program and in every row, IS THE sha256 OF THE DUMP (.gsa) THAT YtlmmianaplahaaaProg.lean LOADS. Nothing in Lean hashes anything: it is a label: what it is worth is what the hold of that sum in a sandbox is worth. -/
noncomputable def Try.pinned : Pinned := { name := "ytlmmianaplahaaa", sum := "ace8676835ce0d52a543f4e54bac04bd1141fb237d1aa4420ef3be7438f73ee6", checked := Try.checked }
namespace Rows
def none {H : Type} : Left H := { results := [], args := [] }

/-- 'laws.FnLocalOf': WHATEVER THE INPUT: true; the input reads as it did. -/
def fnLocalOfSpec : ChangeSpec := { name := "fnLocalOf", fn := fun _ => fun
  | [d] => { results := [.lit (.bool true)], args := [d] }
  | _ => none }
def fnLocalOfRow : OpenClaim := { program := "ytlmmianaplahaaa", sum := "ace8676835ce0d52a543f4e54bac04bd1141fb237d1aa4420ef3be7438f73ee6", func := "loop.example/clockdaemon/laws.FnLocalOf", spec := "fnLocalOf", apart := false }
def FnLocalOfSaid : Prop := fnLocalOfRow.holds Try.pinned (OpenSpec.ofChange fnLocalOfSpec)

/-- ITS FALSE NEIGHBOUR: 'it returns false'. Refute it at one input. -/
def fnLocalOfWrong : ChangeSpec := { name := "fnLocalOf", fn := fun _ => fun
  | [d] => { results := [.lit (.bool false)], args := [d] }
  | _ => none }
def FnLocalOfWrongFalsely : Prop := fnLocalOfRow.holds Try.pinned (OpenSpec.ofChange fnLocalOfWrong)

/-- 'laws.FnCommonOptions': WHATEVER THE INPUT: true; the input reads as it did. -/
def fnCommonOptionsSpec : ChangeSpec := { name := "fnCommonOptions", fn := fun _ => fun
  | [d] => { results := [.lit (.bool true)], args := [d] }
  | _ => none }
def fnCommonOptionsRow : OpenClaim := { program := "ytlmmianaplahaaa", sum := "ace8676835ce0d52a543f4e54bac04bd1141fb237d1aa4420ef3be7438f73ee6", func := "loop.example/clockdaemon/laws.FnCommonOptions", spec := "fnCommonOptions", apart := false }
def FnCommonOptionsSaid : Prop := fnCommonOptionsRow.holds Try.pinned (OpenSpec.ofChange fnCommonOptionsSpec)

/-- ITS FALSE NEIGHBOUR: 'it returns false'. Refute it at one input. -/
def fnCommonOptionsWrong : ChangeSpec := { name := "fnCommonOptions", fn := fun _ => fun
  | [d] => { results := [.lit (.bool false)], args := [d] }
  | _ => none }
def FnCommonOptionsWrongFalsely : Prop := fnCommonOptionsRow.holds Try.pinned (OpenSpec.ofChange fnCommonOptionsWrong)

/-- 'laws.FnTimeKind': WHATEVER THE INPUT: true; the input reads as it did. -/
def fnTimeKindSpec : ChangeSpec := { name := "fnTimeKind", fn := fun _ => fun
  | [d] => { results := [.lit (.bool true)], args := [d] }
  | _ => none }
def fnTimeKindRow : OpenClaim := { program := "ytlmmianaplahaaa", sum := "ace8676835ce0d52a543f4e54bac04bd1141fb237d1aa4420ef3be7438f73ee6", func := "loop.example/clockdaemon/laws.FnTimeKind", spec := "fnTimeKind", apart := false }
def FnTimeKindSaid : Prop := fnTimeKindRow.holds Try.pinned (OpenSpec.ofChange fnTimeKindSpec)

/-- ITS FALSE NEIGHBOUR: 'it returns false'. Refute it at one input. -/
def fnTimeKindWrong : ChangeSpec := { name := "fnTimeKind", fn := fun _ => fun
  | [d] => { results := [.lit (.bool false)], args := [d] }
  | _ => none }
def FnTimeKindWrongFalsely : Prop := fnTimeKindRow.holds Try.pinned (OpenSpec.ofChange fnTimeKindWrong)

/-- 'laws.FnCommonOf': WHATEVER THE INPUT: true; the input reads as it did. -/
def fnCommonOfSpec : ChangeSpec := { name := "fnCommonOf", fn := fun _ => fun
  | [d] => { results := [.lit (.bool true)], args := [d] }
  | _ => none }
def fnCommonOfRow : OpenClaim := { program := "ytlmmianaplahaaa", sum := "ace8676835ce0d52a543f4e54bac04bd1141fb237d1aa4420ef3be7438f73ee6", func := "loop.example/clockdaemon/laws.FnCommonOf", spec := "fnCommonOf", apart := false }
def FnCommonOfSaid : Prop := fnCommonOfRow.holds Try.pinned (OpenSpec.ofChange fnCommonOfSpec)

/-- ITS FALSE NEIGHBOUR: 'it returns false'. Refute it at one input. -/
def fnCommonOfWrong : ChangeSpec := { name := "fnCommonOf", fn := fun _ => fun
  | [d] => { results := [.lit (.bool false)], args := [d] }
  | _ => none }
def FnCommonOfWrongFalsely : Prop := fnCommonOfRow.holds Try.pinned (OpenSpec.ofChange fnCommonOfWrong)

/-- 'laws.FnExactCommonOptions': WHATEVER THE INPUT: true; the input reads as it did. -/
def fnExactCommonOptionsSpec : ChangeSpec := { name := "fnExactCommonOptions", fn := fun _ => fun
  | [d1, d2] => { results := [.lit (.bool true)], args := [d1, d2] }
  | _ => none }
def fnExactCommonOptionsRow : OpenClaim := { program := "ytlmmianaplahaaa", sum := "ace8676835ce0d52a543f4e54bac04bd1141fb237d1aa4420ef3be7438f73ee6", func := "loop.example/clockdaemon/laws.FnExactCommonOptions", spec := "fnExactCommonOptions", apart := false }
def FnExactCommonOptionsSaid : Prop := fnExactCommonOptionsRow.holds Try.pinned (OpenSpec.ofChange fnExactCommonOptionsSpec)

/-- ITS FALSE NEIGHBOUR: 'it returns false'. Refute it at one input. -/
def fnExactCommonOptionsWrong : ChangeSpec := { name := "fnExactCommonOptions", fn := fun _ => fun
  | [d1, d2] => { results := [.lit (.bool false)], args := [d1, d2] }
  | _ => none }
def FnExactCommonOptionsWrongFalsely : Prop := fnExactCommonOptionsRow.holds Try.pinned (OpenSpec.ofChange fnExactCommonOptionsWrong)

/-- 'laws.FnExactTimeKind': WHATEVER THE INPUT: true; the input reads as it did. -/
def fnExactTimeKindSpec : ChangeSpec := { name := "fnExactTimeKind", fn := fun _ => fun
  | [d1, d2] => { results := [.lit (.bool true)], args := [d1, d2] }
  | _ => none }
def fnExactTimeKindRow : OpenClaim := { program := "ytlmmianaplahaaa", sum := "ace8676835ce0d52a543f4e54bac04bd1141fb237d1aa4420ef3be7438f73ee6", func := "loop.example/clockdaemon/laws.FnExactTimeKind", spec := "fnExactTimeKind", apart := false }
def FnExactTimeKindSaid : Prop := fnExactTimeKindRow.holds Try.pinned (OpenSpec.ofChange fnExactTimeKindSpec)

/-- ITS FALSE NEIGHBOUR: 'it returns false'. Refute it at one input. -/
def fnExactTimeKindWrong : ChangeSpec := { name := "fnExactTimeKind", fn := fun _ => fun
  | [d1, d2] => { results := [.lit (.bool false)], args := [d1, d2] }
  | _ => none }
def FnExactTimeKindWrongFalsely : Prop := fnExactTimeKindRow.holds Try.pinned (OpenSpec.ofChange fnExactTimeKindWrong)

/-- 'laws.FnExactCommonOf': WHATEVER THE INPUT: true; the input reads as it did. -/
def fnExactCommonOfSpec : ChangeSpec := { name := "fnExactCommonOf", fn := fun _ => fun
  | [d1, d2, d3] => { results := [.lit (.bool true)], args := [d1, d2, d3] }
  | _ => none }
def fnExactCommonOfRow : OpenClaim := { program := "ytlmmianaplahaaa", sum := "ace8676835ce0d52a543f4e54bac04bd1141fb237d1aa4420ef3be7438f73ee6", func := "loop.example/clockdaemon/laws.FnExactCommonOf", spec := "fnExactCommonOf", apart := false }
def FnExactCommonOfSaid : Prop := fnExactCommonOfRow.holds Try.pinned (OpenSpec.ofChange fnExactCommonOfSpec)

/-- ITS FALSE NEIGHBOUR: 'it returns false'. Refute it at one input. -/
def fnExactCommonOfWrong : ChangeSpec := { name := "fnExactCommonOf", fn := fun _ => fun
  | [d1, d2, d3] => { results := [.lit (.bool false)], args := [d1, d2, d3] }
  | _ => none }
def FnExactCommonOfWrongFalsely : Prop := fnExactCommonOfRow.holds Try.pinned (OpenSpec.ofChange fnExactCommonOfWrong)

/-- 'laws.FnOffsetAt': WHATEVER THE INPUT: true; the input reads as it did. -/
def fnOffsetAtSpec : ChangeSpec := { name := "fnOffsetAt", fn := fun _ => fun
  | [d] => { results := [.lit (.bool true)], args := [d] }
  | _ => none }
def fnOffsetAtRow : OpenClaim := { program := "ytlmmianaplahaaa", sum := "ace8676835ce0d52a543f4e54bac04bd1141fb237d1aa4420ef3be7438f73ee6", func := "loop.example/clockdaemon/laws.FnOffsetAt", spec := "fnOffsetAt", apart := false }
def FnOffsetAtSaid : Prop := fnOffsetAtRow.holds Try.pinned (OpenSpec.ofChange fnOffsetAtSpec)

/-- ITS FALSE NEIGHBOUR: 'it returns false'. Refute it at one input. -/
def fnOffsetAtWrong : ChangeSpec := { name := "fnOffsetAt", fn := fun _ => fun
  | [d] => { results := [.lit (.bool false)], args := [d] }
  | _ => none }
def FnOffsetAtWrongFalsely : Prop := fnOffsetAtRow.holds Try.pinned (OpenSpec.ofChange fnOffsetAtWrong)

/-- 'laws.FnChangesOf': WHATEVER THE INPUT: true; the input reads as it did. -/
def fnChangesOfSpec : ChangeSpec := { name := "fnChangesOf", fn := fun _ => fun
  | [d] => { results := [.lit (.bool true)], args := [d] }
  | _ => none }
def fnChangesOfRow : OpenClaim := { program := "ytlmmianaplahaaa", sum := "ace8676835ce0d52a543f4e54bac04bd1141fb237d1aa4420ef3be7438f73ee6", func := "loop.example/clockdaemon/laws.FnChangesOf", spec := "fnChangesOf", apart := false }
def FnChangesOfSaid : Prop := fnChangesOfRow.holds Try.pinned (OpenSpec.ofChange fnChangesOfSpec)

/-- ITS FALSE NEIGHBOUR: 'it returns false'. Refute it at one input. -/
def fnChangesOfWrong : ChangeSpec := { name := "fnChangesOf", fn := fun _ => fun
  | [d] => { results := [.lit (.bool false)], args := [d] }
  | _ => none }
def FnChangesOfWrongFalsely : Prop := fnChangesOfRow.holds Try.pinned (OpenSpec.ofChange fnChangesOfWrong)

/-- 'laws.FnZoneDay': WHATEVER THE INPUT: true; the input reads as it did. -/
def fnZoneDaySpec : ChangeSpec := { name := "fnZoneDay", fn := fun _ => fun
  | [d] => { results := [.lit (.bool true)], args := [d] }
  | _ => none }
def fnZoneDayRow : OpenClaim := { program := "ytlmmianaplahaaa", sum := "ace8676835ce0d52a543f4e54bac04bd1141fb237d1aa4420ef3be7438f73ee6", func := "loop.example/clockdaemon/laws.FnZoneDay", spec := "fnZoneDay", apart := false }
def FnZoneDaySaid : Prop := fnZoneDayRow.holds Try.pinned (OpenSpec.ofChange fnZoneDaySpec)

/-- ITS FALSE NEIGHBOUR: 'it returns false'. Refute it at one input. -/
def fnZoneDayWrong : ChangeSpec := { name := "fnZoneDay", fn := fun _ => fun
  | [d] => { results := [.lit (.bool false)], args := [d] }
  | _ => none }
def FnZoneDayWrongFalsely : Prop := fnZoneDayRow.holds Try.pinned (OpenSpec.ofChange fnZoneDayWrong)

/-- 'laws.FnExactOffsetAt': WHATEVER THE INPUT: true; the input reads as it did. -/
def fnExactOffsetAtSpec : ChangeSpec := { name := "fnExactOffsetAt", fn := fun _ => fun
  | [d1, d2] => { results := [.lit (.bool true)], args := [d1, d2] }
  | _ => none }
def fnExactOffsetAtRow : OpenClaim := { program := "ytlmmianaplahaaa", sum := "ace8676835ce0d52a543f4e54bac04bd1141fb237d1aa4420ef3be7438f73ee6", func := "loop.example/clockdaemon/laws.FnExactOffsetAt", spec := "fnExactOffsetAt", apart := false }
def FnExactOffsetAtSaid : Prop := fnExactOffsetAtRow.holds Try.pinned (OpenSpec.ofChange fnExactOffsetAtSpec)

/-- ITS FALSE NEIGHBOUR: 'it returns false'. Refute it at one input. -/
def fnExactOffsetAtWrong : ChangeSpec := { name := "fnExactOffsetAt", fn := fun _ => fun
  | [d1, d2] => { results := [.lit (.bool false)], args := [d1, d2] }
  | _ => none }
def FnExactOffsetAtWrongFalsely : Prop := fnExactOffsetAtRow.holds Try.pinned (OpenSpec.ofChange fnExactOffsetAtWrong)

/-- 'laws.FnExactLocalOf': WHATEVER THE INPUT: true; the input reads as it did. -/
def fnExactLocalOfSpec : ChangeSpec := { name := "fnExactLocalOf", fn := fun _ => fun
  | [d1, d2] => { results := [.lit (.bool true)], args := [d1, d2] }
  | _ => none }
def fnExactLocalOfRow : OpenClaim := { program := "ytlmmianaplahaaa", sum := "ace8676835ce0d52a543f4e54bac04bd1141fb237d1aa4420ef3be7438f73ee6", func := "loop.example/clockdaemon/laws.FnExactLocalOf", spec := "fnExactLocalOf", apart := false }
def FnExactLocalOfSaid : Prop := fnExactLocalOfRow.holds Try.pinned (OpenSpec.ofChange fnExactLocalOfSpec)

/-- ITS FALSE NEIGHBOUR: 'it returns false'. Refute it at one input. -/
def fnExactLocalOfWrong : ChangeSpec := { name := "fnExactLocalOf", fn := fun _ => fun
  | [d1, d2] => { results := [.lit (.bool false)], args := [d1, d2] }
  | _ => none }
def FnExactLocalOfWrongFalsely : Prop := fnExactLocalOfRow.holds Try.pinned (OpenSpec.ofChange fnExactLocalOfWrong)

/-- 'laws.FnExactChangesOf': WHATEVER THE INPUT: true; the input reads as it did. -/
def fnExactChangesOfSpec : ChangeSpec := { name := "fnExactChangesOf", fn := fun _ => fun
  | [d1, d2] => { results := [.lit (.bool true)], args := [d1, d2] }
  | _ => none }
def fnExactChangesOfRow : OpenClaim := { program := "ytlmmianaplahaaa", sum := "ace8676835ce0d52a543f4e54bac04bd1141fb237d1aa4420ef3be7438f73ee6", func := "loop.example/clockdaemon/laws.FnExactChangesOf", spec := "fnExactChangesOf", apart := false }
def FnExactChangesOfSaid : Prop := fnExactChangesOfRow.holds Try.pinned (OpenSpec.ofChange fnExactChangesOfSpec)

/-- ITS FALSE NEIGHBOUR: 'it returns false'. Refute it at one input. -/
def fnExactChangesOfWrong : ChangeSpec := { name := "fnExactChangesOf", fn := fun _ => fun
  | [d1, d2] => { results := [.lit (.bool false)], args := [d1, d2] }
  | _ => none }
def FnExactChangesOfWrongFalsely : Prop := fnExactChangesOfRow.holds Try.pinned (OpenSpec.ofChange fnExactChangesOfWrong)

/- THE SECOND FORM. 'bulk': how many values and letters a reading holds, each counted each time it is reached (what is shared counts as often as it is met; a slice's spare places count too). A statement '..UptoSaid' is the law's where the arguments, and the package variables that the reading takes, are together of bulk at most 1048576: NARROWER than '..Said'. Prove '..Said' where nothing that the law and all that it calls make is longer than what came in: it says more and counts as full. Else prove '..UptoSaid'. A law counts once. -/
mutual
def uptoBulk {H : Type} : DataW H → Nat
  | .lit (.string bytes) => bytes.length + 1
  | .lit _ => 1
  | .nil => 1
  | .ptr d => uptoBulk d + 1
  | .slice elems spare => uptoBulkAll elems + uptoBulkAll spare + 1
  | .agg parts => uptoBulkAll parts + 1
  | .iface _ d => uptoBulk d + 1
  | .map entries => uptoBulkEntries entries + 1
  | .held _ => 1
def uptoBulkAll {H : Type} : List (DataW H) → Nat
  | [] => 0
  | d :: r => uptoBulk d + uptoBulkAll r
def uptoBulkEntries {H : Type} : List (Lit × DataW H) → Nat
  | [] => 0
  | x :: r => uptoBulkEntry x + uptoBulkEntries r
def uptoBulkEntry {H : Type} : Lit × DataW H → Nat
  | (.string bytes, d) => bytes.length + uptoBulk d + 1
  | (_, d) => uptoBulk d + 1
 end
def uptoSmall : (H : Type) → List (DataW H) → Bool := fun _ ds => decide (uptoBulkAll ds ≤ 1048576)
def OpenSpec.upto (s : _root_.Go.ChangeSpec) : _root_.Go.OpenSpec := { _root_.Go.OpenSpec.ofChange s with cond := some uptoSmall }

/-- 'laws.FnLocalOf', WHERE WHAT IT READS IS OF BULK AT MOST 1048576: true; the input reads as it did. -/
def fnLocalOfUptoRow : OpenClaim := { program := "ytlmmianaplahaaa", sum := "ace8676835ce0d52a543f4e54bac04bd1141fb237d1aa4420ef3be7438f73ee6", func := "loop.example/clockdaemon/laws.FnLocalOf", spec := "fnLocalOf", apart := false, narrowed := true }
def FnLocalOfUptoSaid : Prop := fnLocalOfUptoRow.holds Try.pinned (OpenSpec.upto fnLocalOfSpec)

/-- 'laws.FnCommonOptions', WHERE WHAT IT READS IS OF BULK AT MOST 1048576: true; the input reads as it did. -/
def fnCommonOptionsUptoRow : OpenClaim := { program := "ytlmmianaplahaaa", sum := "ace8676835ce0d52a543f4e54bac04bd1141fb237d1aa4420ef3be7438f73ee6", func := "loop.example/clockdaemon/laws.FnCommonOptions", spec := "fnCommonOptions", apart := false, narrowed := true }
def FnCommonOptionsUptoSaid : Prop := fnCommonOptionsUptoRow.holds Try.pinned (OpenSpec.upto fnCommonOptionsSpec)

/-- 'laws.FnTimeKind', WHERE WHAT IT READS IS OF BULK AT MOST 1048576: true; the input reads as it did. -/
def fnTimeKindUptoRow : OpenClaim := { program := "ytlmmianaplahaaa", sum := "ace8676835ce0d52a543f4e54bac04bd1141fb237d1aa4420ef3be7438f73ee6", func := "loop.example/clockdaemon/laws.FnTimeKind", spec := "fnTimeKind", apart := false, narrowed := true }
def FnTimeKindUptoSaid : Prop := fnTimeKindUptoRow.holds Try.pinned (OpenSpec.upto fnTimeKindSpec)

/-- 'laws.FnCommonOf', WHERE WHAT IT READS IS OF BULK AT MOST 1048576: true; the input reads as it did. -/
def fnCommonOfUptoRow : OpenClaim := { program := "ytlmmianaplahaaa", sum := "ace8676835ce0d52a543f4e54bac04bd1141fb237d1aa4420ef3be7438f73ee6", func := "loop.example/clockdaemon/laws.FnCommonOf", spec := "fnCommonOf", apart := false, narrowed := true }
def FnCommonOfUptoSaid : Prop := fnCommonOfUptoRow.holds Try.pinned (OpenSpec.upto fnCommonOfSpec)

/-- 'laws.FnExactCommonOptions', WHERE WHAT IT READS IS OF BULK AT MOST 1048576: true; the input reads as it did. -/
def fnExactCommonOptionsUptoRow : OpenClaim := { program := "ytlmmianaplahaaa", sum := "ace8676835ce0d52a543f4e54bac04bd1141fb237d1aa4420ef3be7438f73ee6", func := "loop.example/clockdaemon/laws.FnExactCommonOptions", spec := "fnExactCommonOptions", apart := false, narrowed := true }
def FnExactCommonOptionsUptoSaid : Prop := fnExactCommonOptionsUptoRow.holds Try.pinned (OpenSpec.upto fnExactCommonOptionsSpec)

/-- 'laws.FnExactTimeKind', WHERE WHAT IT READS IS OF BULK AT MOST 1048576: true; the input reads as it did. -/
def fnExactTimeKindUptoRow : OpenClaim := { program := "ytlmmianaplahaaa", sum := "ace8676835ce0d52a543f4e54bac04bd1141fb237d1aa4420ef3be7438f73ee6", func := "loop.example/clockdaemon/laws.FnExactTimeKind", spec := "fnExactTimeKind", apart := false, narrowed := true }
def FnExactTimeKindUptoSaid : Prop := fnExactTimeKindUptoRow.holds Try.pinned (OpenSpec.upto fnExactTimeKindSpec)

/-- 'laws.FnExactCommonOf', WHERE WHAT IT READS IS OF BULK AT MOST 1048576: true; the input reads as it did. -/
def fnExactCommonOfUptoRow : OpenClaim := { program := "ytlmmianaplahaaa", sum := "ace8676835ce0d52a543f4e54bac04bd1141fb237d1aa4420ef3be7438f73ee6", func := "loop.example/clockdaemon/laws.FnExactCommonOf", spec := "fnExactCommonOf", apart := false, narrowed := true }
def FnExactCommonOfUptoSaid : Prop := fnExactCommonOfUptoRow.holds Try.pinned (OpenSpec.upto fnExactCommonOfSpec)

/-- 'laws.FnOffsetAt', WHERE WHAT IT READS IS OF BULK AT MOST 1048576: true; the input reads as it did. -/
def fnOffsetAtUptoRow : OpenClaim := { program := "ytlmmianaplahaaa", sum := "ace8676835ce0d52a543f4e54bac04bd1141fb237d1aa4420ef3be7438f73ee6", func := "loop.example/clockdaemon/laws.FnOffsetAt", spec := "fnOffsetAt", apart := false, narrowed := true }
def FnOffsetAtUptoSaid : Prop := fnOffsetAtUptoRow.holds Try.pinned (OpenSpec.upto fnOffsetAtSpec)

/-- 'laws.FnChangesOf', WHERE WHAT IT READS IS OF BULK AT MOST 1048576: true; the input reads as it did. -/
def fnChangesOfUptoRow : OpenClaim := { program := "ytlmmianaplahaaa", sum := "ace8676835ce0d52a543f4e54bac04bd1141fb237d1aa4420ef3be7438f73ee6", func := "loop.example/clockdaemon/laws.FnChangesOf", spec := "fnChangesOf", apart := false, narrowed := true }
def FnChangesOfUptoSaid : Prop := fnChangesOfUptoRow.holds Try.pinned (OpenSpec.upto fnChangesOfSpec)

/-- 'laws.FnZoneDay', WHERE WHAT IT READS IS OF BULK AT MOST 1048576: true; the input reads as it did. -/
def fnZoneDayUptoRow : OpenClaim := { program := "ytlmmianaplahaaa", sum := "ace8676835ce0d52a543f4e54bac04bd1141fb237d1aa4420ef3be7438f73ee6", func := "loop.example/clockdaemon/laws.FnZoneDay", spec := "fnZoneDay", apart := false, narrowed := true }
def FnZoneDayUptoSaid : Prop := fnZoneDayUptoRow.holds Try.pinned (OpenSpec.upto fnZoneDaySpec)

/-- 'laws.FnExactOffsetAt', WHERE WHAT IT READS IS OF BULK AT MOST 1048576: true; the input reads as it did. -/
def fnExactOffsetAtUptoRow : OpenClaim := { program := "ytlmmianaplahaaa", sum := "ace8676835ce0d52a543f4e54bac04bd1141fb237d1aa4420ef3be7438f73ee6", func := "loop.example/clockdaemon/laws.FnExactOffsetAt", spec := "fnExactOffsetAt", apart := false, narrowed := true }
def FnExactOffsetAtUptoSaid : Prop := fnExactOffsetAtUptoRow.holds Try.pinned (OpenSpec.upto fnExactOffsetAtSpec)

/-- 'laws.FnExactLocalOf', WHERE WHAT IT READS IS OF BULK AT MOST 1048576: true; the input reads as it did. -/
def fnExactLocalOfUptoRow : OpenClaim := { program := "ytlmmianaplahaaa", sum := "ace8676835ce0d52a543f4e54bac04bd1141fb237d1aa4420ef3be7438f73ee6", func := "loop.example/clockdaemon/laws.FnExactLocalOf", spec := "fnExactLocalOf", apart := false, narrowed := true }
def FnExactLocalOfUptoSaid : Prop := fnExactLocalOfUptoRow.holds Try.pinned (OpenSpec.upto fnExactLocalOfSpec)

/-- 'laws.FnExactChangesOf', WHERE WHAT IT READS IS OF BULK AT MOST 1048576: true; the input reads as it did. -/
def fnExactChangesOfUptoRow : OpenClaim := { program := "ytlmmianaplahaaa", sum := "ace8676835ce0d52a543f4e54bac04bd1141fb237d1aa4420ef3be7438f73ee6", func := "loop.example/clockdaemon/laws.FnExactChangesOf", spec := "fnExactChangesOf", apart := false, narrowed := true }
def FnExactChangesOfUptoSaid : Prop := fnExactChangesOfUptoRow.holds Try.pinned (OpenSpec.upto fnExactChangesOfSpec)

end Rows
end Go.Proofs.Ytlmmianaplahaaa
