/-
  No cell of these rows narrows 'for every input' (looked for: loops, veiled, ifaces, maps, wideKeys, modest, calm, conditions, laid).
  DERIVED. THE GIVEN ROWS OF THIS SEAT. 12 by the template 'for every input the law returns true; each argument reads behind the call as it read before'; 0 by the template 'total and deterministic' (their statements: YthfifjonghhapaaTotals.lean).
  GIVEN WITH THE SEED: the statements are not yours to turn. If you find one false, say at which input.
  Laid BY PROGRAM, IN A SANDBOX (cutbox-rows.mjs): the forced cells as the released guide's own fill.sh prints them over the translation 1daafa298fbaf35b… (all of the seat's roots in one cut). By AI agents, Wed Nov 11 2026. No macro, syntax, notation, axiom, sorry.
-/
import Derived.Test.YthfifjonghhapaaChecked
import GoSem.Claim
import GoSem.ClaimJoined
import GoSem.ClaimMapViews
import Derived.JoinedTies
import Derived.KernelRfl
namespace Go.Proofs.Ythfifjonghhapaa
/- THE CELL 'sum', in the pinned program and in every row, IS THE sha256 OF THE DUMP (.gsa) THAT YthfifjonghhapaaProg.lean LOADS. Nothing in Lean hashes anything: it is a label: what it is worth is what the hold of that sum in a sandbox is worth. -/
noncomputable def Try.pinned : Pinned := { name := "ythfifjonghhapaa", sum := "1daafa298fbaf35b66cd577dfbc5d1f120e330fb3dedd5762fdf9107cce9a1e9", checked := Try.checked }
namespace Rows
def none {H : Type} : Left H := { results := [], args := [] }

/-- 'laws.FnLeapYear': WHATEVER THE INPUT: true; the input reads as it did. -/
def fnLeapYearSpec : ChangeSpec := { name := "fnLeapYear", fn := fun _ => fun
  | [d] => { results := [.lit (.bool true)], args := [d] }
  | _ => none }
def fnLeapYearRow : OpenClaim := { program := "ythfifjonghhapaa", sum := "1daafa298fbaf35b66cd577dfbc5d1f120e330fb3dedd5762fdf9107cce9a1e9", func := "loop.example/clockdaemon/laws.FnLeapYear", spec := "fnLeapYear", apart := false }
def FnLeapYearSaid : Prop := fnLeapYearRow.holds Try.pinned (OpenSpec.ofChange fnLeapYearSpec)

/-- ITS FALSE NEIGHBOUR: 'it returns false'. Refute it at one input. -/
def fnLeapYearWrong : ChangeSpec := { name := "fnLeapYear", fn := fun _ => fun
  | [d] => { results := [.lit (.bool false)], args := [d] }
  | _ => none }
def FnLeapYearWrongFalsely : Prop := fnLeapYearRow.holds Try.pinned (OpenSpec.ofChange fnLeapYearWrong)

/-- 'laws.FnDaysIn': WHATEVER THE INPUT: true; the input reads as it did. -/
def fnDaysInSpec : ChangeSpec := { name := "fnDaysIn", fn := fun _ => fun
  | [d] => { results := [.lit (.bool true)], args := [d] }
  | _ => none }
def fnDaysInRow : OpenClaim := { program := "ythfifjonghhapaa", sum := "1daafa298fbaf35b66cd577dfbc5d1f120e330fb3dedd5762fdf9107cce9a1e9", func := "loop.example/clockdaemon/laws.FnDaysIn", spec := "fnDaysIn", apart := false }
def FnDaysInSaid : Prop := fnDaysInRow.holds Try.pinned (OpenSpec.ofChange fnDaysInSpec)

/-- ITS FALSE NEIGHBOUR: 'it returns false'. Refute it at one input. -/
def fnDaysInWrong : ChangeSpec := { name := "fnDaysIn", fn := fun _ => fun
  | [d] => { results := [.lit (.bool false)], args := [d] }
  | _ => none }
def FnDaysInWrongFalsely : Prop := fnDaysInRow.holds Try.pinned (OpenSpec.ofChange fnDaysInWrong)

/-- 'laws.FnDayOf': WHATEVER THE INPUT: true; the input reads as it did. -/
def fnDayOfSpec : ChangeSpec := { name := "fnDayOf", fn := fun _ => fun
  | [d] => { results := [.lit (.bool true)], args := [d] }
  | _ => none }
def fnDayOfRow : OpenClaim := { program := "ythfifjonghhapaa", sum := "1daafa298fbaf35b66cd577dfbc5d1f120e330fb3dedd5762fdf9107cce9a1e9", func := "loop.example/clockdaemon/laws.FnDayOf", spec := "fnDayOf", apart := false }
def FnDayOfSaid : Prop := fnDayOfRow.holds Try.pinned (OpenSpec.ofChange fnDayOfSpec)

/-- ITS FALSE NEIGHBOUR: 'it returns false'. Refute it at one input. -/
def fnDayOfWrong : ChangeSpec := { name := "fnDayOf", fn := fun _ => fun
  | [d] => { results := [.lit (.bool false)], args := [d] }
  | _ => none }
def FnDayOfWrongFalsely : Prop := fnDayOfRow.holds Try.pinned (OpenSpec.ofChange fnDayOfWrong)

/-- 'laws.FnDateOf': WHATEVER THE INPUT: true; the input reads as it did. -/
def fnDateOfSpec : ChangeSpec := { name := "fnDateOf", fn := fun _ => fun
  | [d] => { results := [.lit (.bool true)], args := [d] }
  | _ => none }
def fnDateOfRow : OpenClaim := { program := "ythfifjonghhapaa", sum := "1daafa298fbaf35b66cd577dfbc5d1f120e330fb3dedd5762fdf9107cce9a1e9", func := "loop.example/clockdaemon/laws.FnDateOf", spec := "fnDateOf", apart := false }
def FnDateOfSaid : Prop := fnDateOfRow.holds Try.pinned (OpenSpec.ofChange fnDateOfSpec)

/-- ITS FALSE NEIGHBOUR: 'it returns false'. Refute it at one input. -/
def fnDateOfWrong : ChangeSpec := { name := "fnDateOf", fn := fun _ => fun
  | [d] => { results := [.lit (.bool false)], args := [d] }
  | _ => none }
def FnDateOfWrongFalsely : Prop := fnDateOfRow.holds Try.pinned (OpenSpec.ofChange fnDateOfWrong)

/-- 'laws.FnWeekdayOf': WHATEVER THE INPUT: true; the input reads as it did. -/
def fnWeekdayOfSpec : ChangeSpec := { name := "fnWeekdayOf", fn := fun _ => fun
  | [d] => { results := [.lit (.bool true)], args := [d] }
  | _ => none }
def fnWeekdayOfRow : OpenClaim := { program := "ythfifjonghhapaa", sum := "1daafa298fbaf35b66cd577dfbc5d1f120e330fb3dedd5762fdf9107cce9a1e9", func := "loop.example/clockdaemon/laws.FnWeekdayOf", spec := "fnWeekdayOf", apart := false }
def FnWeekdayOfSaid : Prop := fnWeekdayOfRow.holds Try.pinned (OpenSpec.ofChange fnWeekdayOfSpec)

/-- ITS FALSE NEIGHBOUR: 'it returns false'. Refute it at one input. -/
def fnWeekdayOfWrong : ChangeSpec := { name := "fnWeekdayOf", fn := fun _ => fun
  | [d] => { results := [.lit (.bool false)], args := [d] }
  | _ => none }
def FnWeekdayOfWrongFalsely : Prop := fnWeekdayOfRow.holds Try.pinned (OpenSpec.ofChange fnWeekdayOfWrong)

/-- 'laws.FnDayWeek': WHATEVER THE INPUT: true; the input reads as it did. -/
def fnDayWeekSpec : ChangeSpec := { name := "fnDayWeek", fn := fun _ => fun
  | [d] => { results := [.lit (.bool true)], args := [d] }
  | _ => none }
def fnDayWeekRow : OpenClaim := { program := "ythfifjonghhapaa", sum := "1daafa298fbaf35b66cd577dfbc5d1f120e330fb3dedd5762fdf9107cce9a1e9", func := "loop.example/clockdaemon/laws.FnDayWeek", spec := "fnDayWeek", apart := false }
def FnDayWeekSaid : Prop := fnDayWeekRow.holds Try.pinned (OpenSpec.ofChange fnDayWeekSpec)

/-- ITS FALSE NEIGHBOUR: 'it returns false'. Refute it at one input. -/
def fnDayWeekWrong : ChangeSpec := { name := "fnDayWeek", fn := fun _ => fun
  | [d] => { results := [.lit (.bool false)], args := [d] }
  | _ => none }
def FnDayWeekWrongFalsely : Prop := fnDayWeekRow.holds Try.pinned (OpenSpec.ofChange fnDayWeekWrong)

/-- 'laws.FnDayCentury': WHATEVER THE INPUT: true; the input reads as it did. -/
def fnDayCenturySpec : ChangeSpec := { name := "fnDayCentury", fn := fun _ => fun
  | [d] => { results := [.lit (.bool true)], args := [d] }
  | _ => none }
def fnDayCenturyRow : OpenClaim := { program := "ythfifjonghhapaa", sum := "1daafa298fbaf35b66cd577dfbc5d1f120e330fb3dedd5762fdf9107cce9a1e9", func := "loop.example/clockdaemon/laws.FnDayCentury", spec := "fnDayCentury", apart := false }
def FnDayCenturySaid : Prop := fnDayCenturyRow.holds Try.pinned (OpenSpec.ofChange fnDayCenturySpec)

/-- ITS FALSE NEIGHBOUR: 'it returns false'. Refute it at one input. -/
def fnDayCenturyWrong : ChangeSpec := { name := "fnDayCentury", fn := fun _ => fun
  | [d] => { results := [.lit (.bool false)], args := [d] }
  | _ => none }
def FnDayCenturyWrongFalsely : Prop := fnDayCenturyRow.holds Try.pinned (OpenSpec.ofChange fnDayCenturyWrong)

/-- 'laws.FnExactLeapYear': WHATEVER THE INPUT: true; the input reads as it did. -/
def fnExactLeapYearSpec : ChangeSpec := { name := "fnExactLeapYear", fn := fun _ => fun
  | [d] => { results := [.lit (.bool true)], args := [d] }
  | _ => none }
def fnExactLeapYearRow : OpenClaim := { program := "ythfifjonghhapaa", sum := "1daafa298fbaf35b66cd577dfbc5d1f120e330fb3dedd5762fdf9107cce9a1e9", func := "loop.example/clockdaemon/laws.FnExactLeapYear", spec := "fnExactLeapYear", apart := false }
def FnExactLeapYearSaid : Prop := fnExactLeapYearRow.holds Try.pinned (OpenSpec.ofChange fnExactLeapYearSpec)

/-- ITS FALSE NEIGHBOUR: 'it returns false'. Refute it at one input. -/
def fnExactLeapYearWrong : ChangeSpec := { name := "fnExactLeapYear", fn := fun _ => fun
  | [d] => { results := [.lit (.bool false)], args := [d] }
  | _ => none }
def FnExactLeapYearWrongFalsely : Prop := fnExactLeapYearRow.holds Try.pinned (OpenSpec.ofChange fnExactLeapYearWrong)

/-- 'laws.FnExactDaysIn': WHATEVER THE INPUT: true; the input reads as it did. -/
def fnExactDaysInSpec : ChangeSpec := { name := "fnExactDaysIn", fn := fun _ => fun
  | [d1, d2] => { results := [.lit (.bool true)], args := [d1, d2] }
  | _ => none }
def fnExactDaysInRow : OpenClaim := { program := "ythfifjonghhapaa", sum := "1daafa298fbaf35b66cd577dfbc5d1f120e330fb3dedd5762fdf9107cce9a1e9", func := "loop.example/clockdaemon/laws.FnExactDaysIn", spec := "fnExactDaysIn", apart := false }
def FnExactDaysInSaid : Prop := fnExactDaysInRow.holds Try.pinned (OpenSpec.ofChange fnExactDaysInSpec)

/-- ITS FALSE NEIGHBOUR: 'it returns false'. Refute it at one input. -/
def fnExactDaysInWrong : ChangeSpec := { name := "fnExactDaysIn", fn := fun _ => fun
  | [d1, d2] => { results := [.lit (.bool false)], args := [d1, d2] }
  | _ => none }
def FnExactDaysInWrongFalsely : Prop := fnExactDaysInRow.holds Try.pinned (OpenSpec.ofChange fnExactDaysInWrong)

/-- 'laws.FnExactDayOf': WHATEVER THE INPUT: true; the input reads as it did. -/
def fnExactDayOfSpec : ChangeSpec := { name := "fnExactDayOf", fn := fun _ => fun
  | [d1, d2, d3] => { results := [.lit (.bool true)], args := [d1, d2, d3] }
  | _ => none }
def fnExactDayOfRow : OpenClaim := { program := "ythfifjonghhapaa", sum := "1daafa298fbaf35b66cd577dfbc5d1f120e330fb3dedd5762fdf9107cce9a1e9", func := "loop.example/clockdaemon/laws.FnExactDayOf", spec := "fnExactDayOf", apart := false }
def FnExactDayOfSaid : Prop := fnExactDayOfRow.holds Try.pinned (OpenSpec.ofChange fnExactDayOfSpec)

/-- ITS FALSE NEIGHBOUR: 'it returns false'. Refute it at one input. -/
def fnExactDayOfWrong : ChangeSpec := { name := "fnExactDayOf", fn := fun _ => fun
  | [d1, d2, d3] => { results := [.lit (.bool false)], args := [d1, d2, d3] }
  | _ => none }
def FnExactDayOfWrongFalsely : Prop := fnExactDayOfRow.holds Try.pinned (OpenSpec.ofChange fnExactDayOfWrong)

/-- 'laws.FnExactDateOf': WHATEVER THE INPUT: true; the input reads as it did. -/
def fnExactDateOfSpec : ChangeSpec := { name := "fnExactDateOf", fn := fun _ => fun
  | [d] => { results := [.lit (.bool true)], args := [d] }
  | _ => none }
def fnExactDateOfRow : OpenClaim := { program := "ythfifjonghhapaa", sum := "1daafa298fbaf35b66cd577dfbc5d1f120e330fb3dedd5762fdf9107cce9a1e9", func := "loop.example/clockdaemon/laws.FnExactDateOf", spec := "fnExactDateOf", apart := false }
def FnExactDateOfSaid : Prop := fnExactDateOfRow.holds Try.pinned (OpenSpec.ofChange fnExactDateOfSpec)

/-- ITS FALSE NEIGHBOUR: 'it returns false'. Refute it at one input. -/
def fnExactDateOfWrong : ChangeSpec := { name := "fnExactDateOf", fn := fun _ => fun
  | [d] => { results := [.lit (.bool false)], args := [d] }
  | _ => none }
def FnExactDateOfWrongFalsely : Prop := fnExactDateOfRow.holds Try.pinned (OpenSpec.ofChange fnExactDateOfWrong)

/-- 'laws.FnExactWeekdayOf': WHATEVER THE INPUT: true; the input reads as it did. -/
def fnExactWeekdayOfSpec : ChangeSpec := { name := "fnExactWeekdayOf", fn := fun _ => fun
  | [d] => { results := [.lit (.bool true)], args := [d] }
  | _ => none }
def fnExactWeekdayOfRow : OpenClaim := { program := "ythfifjonghhapaa", sum := "1daafa298fbaf35b66cd577dfbc5d1f120e330fb3dedd5762fdf9107cce9a1e9", func := "loop.example/clockdaemon/laws.FnExactWeekdayOf", spec := "fnExactWeekdayOf", apart := false }
def FnExactWeekdayOfSaid : Prop := fnExactWeekdayOfRow.holds Try.pinned (OpenSpec.ofChange fnExactWeekdayOfSpec)

/-- ITS FALSE NEIGHBOUR: 'it returns false'. Refute it at one input. -/
def fnExactWeekdayOfWrong : ChangeSpec := { name := "fnExactWeekdayOf", fn := fun _ => fun
  | [d] => { results := [.lit (.bool false)], args := [d] }
  | _ => none }
def FnExactWeekdayOfWrongFalsely : Prop := fnExactWeekdayOfRow.holds Try.pinned (OpenSpec.ofChange fnExactWeekdayOfWrong)

/- THE SECOND FORM. 'bulk': how many values and letters a reading holds, each counted each time it is reached (what is shared counts as often as it is met; a slice's spare places count too). A statement '..UptoSaid' is the law's where the arguments, and the package variables that the reading takes, are together of bulk at most 1048576: NARROWER than '..Said'. Prove '..Said' where nothing that the law and all that it calls make is longer than what came in: it says more and counts as full. Else prove '..UptoSaid'. A law counts once. -/
mutual
def uptoBulk {H : Type} : DataW H → Nat
  | .lit (.string bytes) => bytes.length + 1
  | .lit _ => 1
  | .nil => 1
  | .ptr d => uptoBulk d + 1
  | .slice elems spare => uptoBulkAll elems + uptoBulkAll spare + 1
  | .agg parts => uptoBulkAll parts + 1
  | .iface _ d => uptoBulk d + 1
  | .map entries => uptoBulkEntries entries + 1
  | .held _ => 1
def uptoBulkAll {H : Type} : List (DataW H) → Nat
  | [] => 0
  | d :: r => uptoBulk d + uptoBulkAll r
def uptoBulkEntries {H : Type} : List (Lit × DataW H) → Nat
  | [] => 0
  | x :: r => uptoBulkEntry x + uptoBulkEntries r
def uptoBulkEntry {H : Type} : Lit × DataW H → Nat
  | (.string bytes, d) => bytes.length + uptoBulk d + 1
  | (_, d) => uptoBulk d + 1
 end
def uptoSmall : (H : Type) → List (DataW H) → Bool := fun _ ds => decide (uptoBulkAll ds ≤ 1048576)
def OpenSpec.upto (s : _root_.Go.ChangeSpec) : _root_.Go.OpenSpec := { _root_.Go.OpenSpec.ofChange s with cond := some uptoSmall }

/-- 'laws.FnLeapYear', WHERE WHAT IT READS IS OF BULK AT MOST 1048576: true; the input reads as it did. -/
def fnLeapYearUptoRow : OpenClaim := { program := "ythfifjonghhapaa", sum := "1daafa298fbaf35b66cd577dfbc5d1f120e330fb3dedd5762fdf9107cce9a1e9", func := "loop.example/clockdaemon/laws.FnLeapYear", spec := "fnLeapYear", apart := false, narrowed := true }
def FnLeapYearUptoSaid : Prop := fnLeapYearUptoRow.holds Try.pinned (OpenSpec.upto fnLeapYearSpec)

/-- 'laws.FnDaysIn', WHERE WHAT IT READS IS OF BULK AT MOST 1048576: true; the input reads as it did. -/
def fnDaysInUptoRow : OpenClaim := { program := "ythfifjonghhapaa", sum := "1daafa298fbaf35b66cd577dfbc5d1f120e330fb3dedd5762fdf9107cce9a1e9", func := "loop.example/clockdaemon/laws.FnDaysIn", spec := "fnDaysIn", apart := false, narrowed := true }
def FnDaysInUptoSaid : Prop := fnDaysInUptoRow.holds Try.pinned (OpenSpec.upto fnDaysInSpec)

/-- 'laws.FnDayOf', WHERE WHAT IT READS IS OF BULK AT MOST 1048576: true; the input reads as it did. -/
def fnDayOfUptoRow : OpenClaim := { program := "ythfifjonghhapaa", sum := "1daafa298fbaf35b66cd577dfbc5d1f120e330fb3dedd5762fdf9107cce9a1e9", func := "loop.example/clockdaemon/laws.FnDayOf", spec := "fnDayOf", apart := false, narrowed := true }
def FnDayOfUptoSaid : Prop := fnDayOfUptoRow.holds Try.pinned (OpenSpec.upto fnDayOfSpec)

/-- 'laws.FnDateOf', WHERE WHAT IT READS IS OF BULK AT MOST 1048576: true; the input reads as it did. -/
def fnDateOfUptoRow : OpenClaim := { program := "ythfifjonghhapaa", sum := "1daafa298fbaf35b66cd577dfbc5d1f120e330fb3dedd5762fdf9107cce9a1e9", func := "loop.example/clockdaemon/laws.FnDateOf", spec := "fnDateOf", apart := false, narrowed := true }
def FnDateOfUptoSaid : Prop := fnDateOfUptoRow.holds Try.pinned (OpenSpec.upto fnDateOfSpec)

/-- 'laws.FnWeekdayOf', WHERE WHAT IT READS IS OF BULK AT MOST 1048576: true; the input reads as it did. -/
def fnWeekdayOfUptoRow : OpenClaim := { program := "ythfifjonghhapaa", sum := "1daafa298fbaf35b66cd577dfbc5d1f120e330fb3dedd5762fdf9107cce9a1e9", func := "loop.example/clockdaemon/laws.FnWeekdayOf", spec := "fnWeekdayOf", apart := false, narrowed := true }
def FnWeekdayOfUptoSaid : Prop := fnWeekdayOfUptoRow.holds Try.pinned (OpenSpec.upto fnWeekdayOfSpec)

/-- 'laws.FnDayWeek', WHERE WHAT IT READS IS OF BULK AT MOST 1048576: true; the input reads as it did. -/
def fnDayWeekUptoRow : OpenClaim := { program := "ythfifjonghhapaa", sum := "1daafa298fbaf35b66cd577dfbc5d1f120e330fb3dedd5762fdf9107cce9a1e9", func := "loop.example/clockdaemon/laws.FnDayWeek", spec := "fnDayWeek", apart := false, narrowed := true }
def FnDayWeekUptoSaid : Prop := fnDayWeekUptoRow.holds Try.pinned (OpenSpec.upto fnDayWeekSpec)

/-- 'laws.FnDayCentury', WHERE WHAT IT READS IS OF BULK AT MOST 1048576: true; the input reads as it did. -/
def fnDayCenturyUptoRow : OpenClaim := { program := "ythfifjonghhapaa", sum := "1daafa298fbaf35b66cd577dfbc5d1f120e330fb3dedd5762fdf9107cce9a1e9", func := "loop.example/clockdaemon/laws.FnDayCentury", spec := "fnDayCentury", apart := false, narrowed := true }
def FnDayCenturyUptoSaid : Prop := fnDayCenturyUptoRow.holds Try.pinned (OpenSpec.upto fnDayCenturySpec)

/-- 'laws.FnExactLeapYear', WHERE WHAT IT READS IS OF BULK AT MOST 1048576: true; the input reads as it did. -/
def fnExactLeapYearUptoRow : OpenClaim := { program := "ythfifjonghhapaa", sum := "1daafa298fbaf35b66cd577dfbc5d1f120e330fb3dedd5762fdf9107cce9a1e9", func := "loop.example/clockdaemon/laws.FnExactLeapYear", spec := "fnExactLeapYear", apart := false, narrowed := true }
def FnExactLeapYearUptoSaid : Prop := fnExactLeapYearUptoRow.holds Try.pinned (OpenSpec.upto fnExactLeapYearSpec)

/-- 'laws.FnExactDaysIn', WHERE WHAT IT READS IS OF BULK AT MOST 1048576: true; the input reads as it did. -/
def fnExactDaysInUptoRow : OpenClaim := { program := "ythfifjonghhapaa", sum := "1daafa298fbaf35b66cd577dfbc5d1f120e330fb3dedd5762fdf9107cce9a1e9", func := "loop.example/clockdaemon/laws.FnExactDaysIn", spec := "fnExactDaysIn", apart := false, narrowed := true }
def FnExactDaysInUptoSaid : Prop := fnExactDaysInUptoRow.holds Try.pinned (OpenSpec.upto fnExactDaysInSpec)

/-- 'laws.FnExactDayOf', WHERE WHAT IT READS IS OF BULK AT MOST 1048576: true; the input reads as it did. -/
def fnExactDayOfUptoRow : OpenClaim := { program := "ythfifjonghhapaa", sum := "1daafa298fbaf35b66cd577dfbc5d1f120e330fb3dedd5762fdf9107cce9a1e9", func := "loop.example/clockdaemon/laws.FnExactDayOf", spec := "fnExactDayOf", apart := false, narrowed := true }
def FnExactDayOfUptoSaid : Prop := fnExactDayOfUptoRow.holds Try.pinned (OpenSpec.upto fnExactDayOfSpec)

/-- 'laws.FnExactDateOf', WHERE WHAT IT READS IS OF BULK AT MOST 1048576: true; the input reads as it did. -/
def fnExactDateOfUptoRow : OpenClaim := { program := "ythfifjonghhapaa", sum := "1daafa298fbaf35b66cd577dfbc5d1f120e330fb3dedd5762fdf9107cce9a1e9", func := "loop.example/clockdaemon/laws.FnExactDateOf", spec := "fnExactDateOf", apart := false, narrowed := true }
def FnExactDateOfUptoSaid : Prop := fnExactDateOfUptoRow.holds Try.pinned (OpenSpec.upto fnExactDateOfSpec)

/-- 'laws.FnExactWeekdayOf', WHERE WHAT IT READS IS OF BULK AT MOST 1048576: true; the input reads as it did. -/
def fnExactWeekdayOfUptoRow : OpenClaim := { program := "ythfifjonghhapaa", sum := "1daafa298fbaf35b66cd577dfbc5d1f120e330fb3dedd5762fdf9107cce9a1e9", func := "loop.example/clockdaemon/laws.FnExactWeekdayOf", spec := "fnExactWeekdayOf", apart := false, narrowed := true }
def FnExactWeekdayOfUptoSaid : Prop := fnExactWeekdayOfUptoRow.holds Try.pinned (OpenSpec.upto fnExactWeekdayOfSpec)

end Rows
end Go.Proofs.Ythfifjonghhapaa
