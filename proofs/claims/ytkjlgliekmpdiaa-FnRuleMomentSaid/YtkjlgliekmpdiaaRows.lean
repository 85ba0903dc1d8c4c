/-
  No cell of these rows narrows 'for every input' (looked for: loops, veiled, ifaces, maps, wideKeys, modest, calm, conditions, laid).
  DERIVED. THE GIVEN ROWS OF THIS SEAT. 6 by the template 'for every input the law returns true; each argument reads behind the call as it read before'; 0 by the template 'total and deterministic' (their statements: YtkjlgliekmpdiaaTotals.lean).
  GIVEN WITH THE SEED: the statements are not yours to turn. If you find one false, say at which input.
  Laid BY PROGRAM, IN A SANDBOX (cutbox-rows.mjs): the forced cells as the released guide's own fill.sh prints them over the translation 4be89b339cb674a2… (all of the seat's roots in one cut). By AI agents, Wed Nov 11 2026. No macro, syntax, notation, axiom, sorry.
-/
import Derived.Test.YtkjlgliekmpdiaaChecked
import GoSem.Claim
import GoSem.ClaimJoined
import GoSem.ClaimMapViews
import Derived.JoinedTies
import Derived.KernelRfl
namespace Go.Proofs.Ytkjlgliekmpdiaa
/- THE CELL 'sum', in the pinned program and in every row, IS THE sha256 OF THE DUMP (.gsa) THAT YtkjlgliekmpdiaaProg.lean LOADS. Nothing in Lean hashes anything: it is a label: what it is worth is what the hold of that sum in a sandbox is worth. -/
noncomputable def Try.pinned : Pinned := { name := "ytkjlgliekmpdiaa", sum := "4be89b339cb674a21baacc69d456d2b2f2f7596547ebefb9540405216f357fb0", checked := Try.checked }
namespace Rows
def none {H : Type} : Left H := { results := [], args := [] }

/-- 'laws.FnRuleValid': WHATEVER THE INPUT: true; the input reads as it did. -/
def fnRuleValidSpec : ChangeSpec := { name := "fnRuleValid", fn := fun _ => fun
  | [d] => { results := [.lit (.bool true)], args := [d] }
  | _ => none }
def fnRuleValidRow : OpenClaim := { program := "ytkjlgliekmpdiaa", sum := "4be89b339cb674a21baacc69d456d2b2f2f7596547ebefb9540405216f357fb0", func := "loop.example/clockdaemon/laws.FnRuleValid", spec := "fnRuleValid", apart := false }
def FnRuleValidSaid : Prop := fnRuleValidRow.holds Try.pinned (OpenSpec.ofChange fnRuleValidSpec)

/-- ITS FALSE NEIGHBOUR: 'it returns false'. Refute it at one input. -/
def fnRuleValidWrong : ChangeSpec := { name := "fnRuleValid", fn := fun _ => fun
  | [d] => { results := [.lit (.bool false)], args := [d] }
  | _ => none }
def FnRuleValidWrongFalsely : Prop := fnRuleValidRow.holds Try.pinned (OpenSpec.ofChange fnRuleValidWrong)

/-- 'laws.FnRuleDay': WHATEVER THE INPUT: true; the input reads as it did. -/
def fnRuleDaySpec : ChangeSpec := { name := "fnRuleDay", fn := fun _ => fun
  | [d] => { results := [.lit (.bool true)], args := [d] }
  | _ => none }
def fnRuleDayRow : OpenClaim := { program := "ytkjlgliekmpdiaa", sum := "4be89b339cb674a21baacc69d456d2b2f2f7596547ebefb9540405216f357fb0", func := "loop.example/clockdaemon/laws.FnRuleDay", spec := "fnRuleDay", apart := false }
def FnRuleDaySaid : Prop := fnRuleDayRow.holds Try.pinned (OpenSpec.ofChange fnRuleDaySpec)

/-- ITS FALSE NEIGHBOUR: 'it returns false'. Refute it at one input. -/
def fnRuleDayWrong : ChangeSpec := { name := "fnRuleDay", fn := fun _ => fun
  | [d] => { results := [.lit (.bool false)], args := [d] }
  | _ => none }
def FnRuleDayWrongFalsely : Prop := fnRuleDayRow.holds Try.pinned (OpenSpec.ofChange fnRuleDayWrong)

/-- 'laws.FnRuleMoment': WHATEVER THE INPUT: true; the input reads as it did. -/
def fnRuleMomentSpec : ChangeSpec := { name := "fnRuleMoment", fn := fun _ => fun
  | [d] => { results := [.lit (.bool true)], args := [d] }
  | _ => none }
def fnRuleMomentRow : OpenClaim := { program := "ytkjlgliekmpdiaa", sum := "4be89b339cb674a21baacc69d456d2b2f2f7596547ebefb9540405216f357fb0", func := "loop.example/clockdaemon/laws.FnRuleMoment", spec := "fnRuleMoment", apart := false }
def FnRuleMomentSaid : Prop := fnRuleMomentRow.holds Try.pinned (OpenSpec.ofChange fnRuleMomentSpec)

/-- ITS FALSE NEIGHBOUR: 'it returns false'. Refute it at one input. -/
def fnRuleMomentWrong : ChangeSpec := { name := "fnRuleMoment", fn := fun _ => fun
  | [d] => { results := [.lit (.bool false)], args := [d] }
  | _ => none }
def FnRuleMomentWrongFalsely : Prop := fnRuleMomentRow.holds Try.pinned (OpenSpec.ofChange fnRuleMomentWrong)

/-- 'laws.FnExactRuleValid': WHATEVER THE INPUT: true; the input reads as it did. -/
def fnExactRuleValidSpec : ChangeSpec := { name := "fnExactRuleValid", fn := fun _ => fun
  | [d] => { results := [.lit (.bool true)], args := [d] }
  | _ => none }
def fnExactRuleValidRow : OpenClaim := { program := "ytkjlgliekmpdiaa", sum := "4be89b339cb674a21baacc69d456d2b2f2f7596547ebefb9540405216f357fb0", func := "loop.example/clockdaemon/laws.FnExactRuleValid", spec := "fnExactRuleValid", apart := false }
def FnExactRuleValidSaid : Prop := fnExactRuleValidRow.holds Try.pinned (OpenSpec.ofChange fnExactRuleValidSpec)

/-- ITS FALSE NEIGHBOUR: 'it returns false'. Refute it at one input. -/
def fnExactRuleValidWrong : ChangeSpec := { name := "fnExactRuleValid", fn := fun _ => fun
  | [d] => { results := [.lit (.bool false)], args := [d] }
  | _ => none }
def FnExactRuleValidWrongFalsely : Prop := fnExactRuleValidRow.holds Try.pinned (OpenSpec.ofChange fnExactRuleValidWrong)

/-- 'laws.FnExactRuleDay': WHATEVER THE INPUT: true; the input reads as it did. -/
def fnExactRuleDaySpec : ChangeSpec := { name := "fnExactRuleDay", fn := fun _ => fun
  | [d1, d2] => { results := [.lit (.bool true)], args := [d1, d2] }
  | _ => none }
def fnExactRuleDayRow : OpenClaim := { program := "ytkjlgliekmpdiaa", sum := "4be89b339cb674a21baacc69d456d2b2f2f7596547ebefb9540405216f357fb0", func := "loop.example/clockdaemon/laws.FnExactRuleDay", spec := "fnExactRuleDay", apart := false }
def FnExactRuleDaySaid : Prop := fnExactRuleDayRow.holds Try.pinned (OpenSpec.ofChange fnExactRuleDaySpec)

/-- ITS FALSE NEIGHBOUR: 'it returns false'. Refute it at one input. -/
def fnExactRuleDayWrong : ChangeSpec := { name := "fnExactRuleDay", fn := fun _ => fun
  | [d1, d2] => { results := [.lit (.bool false)], args := [d1, d2] }
  | _ => none }
def FnExactRuleDayWrongFalsely : Prop := fnExactRuleDayRow.holds Try.pinned (OpenSpec.ofChange fnExactRuleDayWrong)

/-- 'laws.FnExactRuleMoment': WHATEVER THE INPUT: true; the input reads as it did. -/
def fnExactRuleMomentSpec : ChangeSpec := { name := "fnExactRuleMoment", fn := fun _ => fun
  | [d1, d2] => { results := [.lit (.bool true)], args := [d1, d2] }
  | _ => none }
def fnExactRuleMomentRow : OpenClaim := { program := "ytkjlgliekmpdiaa", sum := "4be89b339cb674a21baacc69d456d2b2f2f7596547ebefb9540405216f357fb0", func := "loop.example/clockdaemon/laws.FnExactRuleMoment", spec := "fnExactRuleMoment", apart := false }
def FnExactRuleMomentSaid : Prop := fnExactRuleMomentRow.holds Try.pinned (OpenSpec.ofChange fnExactRuleMomentSpec)

/-- ITS FALSE NEIGHBOUR: 'it returns false'. Refute it at one input. -/
def fnExactRuleMomentWrong : ChangeSpec := { name := "fnExactRuleMoment", fn := fun _ => fun
  | [d1, d2] => { results := [.lit (.bool false)], args := [d1, d2] }
  | _ => none }
def FnExactRuleMomentWrongFalsely : Prop := fnExactRuleMomentRow.holds Try.pinned (OpenSpec.ofChange fnExactRuleMomentWrong)

/- THE SECOND FORM. 'bulk': how many values and letters a reading holds, each counted each time it is reached (what is shared counts as often as it is met; a slice's spare places count too). A statement '..UptoSaid' is the law's where the arguments, and the package variables that the reading takes, are together of bulk at most 1048576: NARROWER than '..Said'. Prove '..Said' where nothing that the law and all that it calls make is longer than what came in: it says more and counts as full. Else prove '..UptoSaid'. A law counts once. -/
mutual
def uptoBulk {H : Type} : DataW H → Nat
  | .lit (.string bytes) => bytes.length + 1
  | .lit _ => 1
  | .nil => 1
  | .ptr d => uptoBulk d + 1
  | .slice elems spare => uptoBulkAll elems + uptoBulkAll spare + 1
  | .agg parts => uptoBulkAll parts + 1
  | .iface _ d => uptoBulk d + 1
  | .map entries => uptoBulkEntries entries + 1
  | .held _ => 1
def uptoBulkAll {H : Type} : List (DataW H) → Nat
  | [] => 0
  | d :: r => uptoBulk d + uptoBulkAll r
def uptoBulkEntries {H : Type} : List (Lit × DataW H) → Nat
  | [] => 0
  | x :: r => uptoBulkEntry x + uptoBulkEntries r
def uptoBulkEntry {H : Type} : Lit × DataW H → Nat
  | (.string bytes, d) => bytes.length + uptoBulk d + 1
  | (_, d) => uptoBulk d + 1
 end
def uptoSmall : (H : Type) → List (DataW H) → Bool := fun _ ds => decide (uptoBulkAll ds ≤ 1048576)
def OpenSpec.upto (s : _root_.Go.ChangeSpec) : _root_.Go.OpenSpec := { _root_.Go.OpenSpec.ofChange s with cond := some uptoSmall }

/-- 'laws.FnRuleValid', WHERE WHAT IT READS IS OF BULK AT MOST 1048576: true; the input reads as it did. -/
def fnRuleValidUptoRow : OpenClaim := { program := "ytkjlgliekmpdiaa", sum := "4be89b339cb674a21baacc69d456d2b2f2f7596547ebefb9540405216f357fb0", func := "loop.example/clockdaemon/laws.FnRuleValid", spec := "fnRuleValid", apart := false, narrowed := true }
def FnRuleValidUptoSaid : Prop := fnRuleValidUptoRow.holds Try.pinned (OpenSpec.upto fnRuleValidSpec)

/-- 'laws.FnRuleDay', WHERE WHAT IT READS IS OF BULK AT MOST 1048576: true; the input reads as it did. -/
def fnRuleDayUptoRow : OpenClaim := { program := "ytkjlgliekmpdiaa", sum := "4be89b339cb674a21baacc69d456d2b2f2f7596547ebefb9540405216f357fb0", func := "loop.example/clockdaemon/laws.FnRuleDay", spec := "fnRuleDay", apart := false, narrowed := true }
def FnRuleDayUptoSaid : Prop := fnRuleDayUptoRow.holds Try.pinned (OpenSpec.upto fnRuleDaySpec)

/-- 'laws.FnRuleMoment', WHERE WHAT IT READS IS OF BULK AT MOST 1048576: true; the input reads as it did. -/
def fnRuleMomentUptoRow : OpenClaim := { program := "ytkjlgliekmpdiaa", sum := "4be89b339cb674a21baacc69d456d2b2f2f7596547ebefb9540405216f357fb0", func := "loop.example/clockdaemon/laws.FnRuleMoment", spec := "fnRuleMoment", apart := false, narrowed := true }
def FnRuleMomentUptoSaid : Prop := fnRuleMomentUptoRow.holds Try.pinned (OpenSpec.upto fnRuleMomentSpec)

/-- 'laws.FnExactRuleValid', WHERE WHAT IT READS IS OF BULK AT MOST 1048576: true; the input reads as it did. -/
def fnExactRuleValidUptoRow : OpenClaim := { program := "ytkjlgliekmpdiaa", sum := "4be89b339cb674a21baacc69d456d2b2f2f7596547ebefb9540405216f357fb0", func := "loop.example/clockdaemon/laws.FnExactRuleValid", spec := "fnExactRuleValid", apart := false, narrowed := true }
def FnExactRuleValidUptoSaid : Prop := fnExactRuleValidUptoRow.holds Try.pinned (OpenSpec.upto fnExactRuleValidSpec)

/-- 'laws.FnExactRuleDay', WHERE WHAT IT READS IS OF BULK AT MOST 1048576: true; the input reads as it did. -/
def fnExactRuleDayUptoRow : OpenClaim := { program := "ytkjlgliekmpdiaa", sum := "4be89b339cb674a21baacc69d456d2b2f2f7596547ebefb9540405216f357fb0", func := "loop.example/clockdaemon/laws.FnExactRuleDay", spec := "fnExactRuleDay", apart := false, narrowed := true }
def FnExactRuleDayUptoSaid : Prop := fnExactRuleDayUptoRow.holds Try.pinned (OpenSpec.upto fnExactRuleDaySpec)

/-- 'laws.FnExactRuleMoment', WHERE WHAT IT READS IS OF BULK AT MOST 1048576: true; the input reads as it did. -/
def fnExactRuleMomentUptoRow : OpenClaim := { program := "ytkjlgliekmpdiaa", sum := "4be89b339cb674a21baacc69d456d2b2f2f7596547ebefb9540405216f357fb0", func := "loop.example/clockdaemon/laws.FnExactRuleMoment", spec := "fnExactRuleMoment", apart := false, narrowed := true }
def FnExactRuleMomentUptoSaid : Prop := fnExactRuleMomentUptoRow.holds Try.pinned (OpenSpec.upto fnExactRuleMomentSpec)

end Rows
end Go.Proofs.Ytkjlgliekmpdiaa
