/-
  No cell of these rows narrows 'for every input' (looked for: loops, veiled, ifaces, maps, wideKeys, modest, calm, conditions, laid).
  DERIVED. THE GIVEN ROWS OF THIS SEAT. 4 by the template 'for every input the law returns true; each argument reads behind the call as it read before'; 0 by the template 'total and deterministic' (their statements: YtlpodfachgnkhaaTotals.lean).
  GIVEN WITH THE SEED: the statements are not yours to turn. If you find one false, say at which input.
  Laid BY PROGRAM, IN A SANDBOX (cutbox-rows.mjs): the forced cells as the released guide's own fill.sh prints them over the translation 7b969b077f46ba7b… (all of the seat's roots in one cut). By AI agents, Wed Nov 11 2026. No macro, syntax, notation, axiom, sorry.
-/
import Derived.Test.YtlpodfachgnkhaaChecked
import GoSem.Claim
import GoSem.ClaimJoined
import GoSem.ClaimMapViews
import Derived.JoinedTies
import Derived.KernelRfl
namespace Go.Proofs.Ytlpodfachgnkhaa
/- THE CELL 'sum', in the pinned program and in every row, IS THE sha256 OF THE DUMP (.gsa) THAT YtlpodfachgnkhaaProg.lean LOADS. Nothing in Lean hashes anything: it is a label: what it is worth is what the hold of that sum in a sandbox is worth. -/
noncomputable def Try.pinned : Pinned := { name := "ytlpodfachgnkhaa", sum := "7b969b077f46ba7bcf41182f54599256c1e5f2bbec71a31c119ed03c78807f8e", checked := Try.checked }
namespace Rows
def none {H : Type} : Left H := { results := [], args := [] }

/-- 'laws.FnFieldValid': WHATEVER THE INPUT: true; the input reads as it did. -/
def fnFieldValidSpec : ChangeSpec := { name := "fnFieldValid", fn := fun _ => fun
  | [d] => { results := [.lit (.bool true)], args := [d] }
  | _ => none }
def fnFieldValidRow : OpenClaim := { program := "ytlpodfachgnkhaa", sum := "7b969b077f46ba7bcf41182f54599256c1e5f2bbec71a31c119ed03c78807f8e", func := "loop.example/clockdaemon/laws.FnFieldValid", spec := "fnFieldValid", apart := false }
def FnFieldValidSaid : Prop := fnFieldValidRow.holds Try.pinned (OpenSpec.ofChange fnFieldValidSpec)

/-- ITS FALSE NEIGHBOUR: 'it returns false'. Refute it at one input. -/
def fnFieldValidWrong : ChangeSpec := { name := "fnFieldValid", fn := fun _ => fun
  | [d] => { results := [.lit (.bool false)], args := [d] }
  | _ => none }
def FnFieldValidWrongFalsely : Prop := fnFieldValidRow.holds Try.pinned (OpenSpec.ofChange fnFieldValidWrong)

/-- 'laws.FnFieldHas': WHATEVER THE INPUT: true; the input reads as it did. -/
def fnFieldHasSpec : ChangeSpec := { name := "fnFieldHas", fn := fun _ => fun
  | [d] => { results := [.lit (.bool true)], args := [d] }
  | _ => none }
def fnFieldHasRow : OpenClaim := { program := "ytlpodfachgnkhaa", sum := "7b969b077f46ba7bcf41182f54599256c1e5f2bbec71a31c119ed03c78807f8e", func := "loop.example/clockdaemon/laws.FnFieldHas", spec := "fnFieldHas", apart := false }
def FnFieldHasSaid : Prop := fnFieldHasRow.holds Try.pinned (OpenSpec.ofChange fnFieldHasSpec)

/-- ITS FALSE NEIGHBOUR: 'it returns false'. Refute it at one input. -/
def fnFieldHasWrong : ChangeSpec := { name := "fnFieldHas", fn := fun _ => fun
  | [d] => { results := [.lit (.bool false)], args := [d] }
  | _ => none }
def FnFieldHasWrongFalsely : Prop := fnFieldHasRow.holds Try.pinned (OpenSpec.ofChange fnFieldHasWrong)

/-- 'laws.FnExactFieldValid': WHATEVER THE INPUT: true; the input reads as it did. -/
def fnExactFieldValidSpec : ChangeSpec := { name := "fnExactFieldValid", fn := fun _ => fun
  | [d1, d2, d3] => { results := [.lit (.bool true)], args := [d1, d2, d3] }
  | _ => none }
def fnExactFieldValidRow : OpenClaim := { program := "ytlpodfachgnkhaa", sum := "7b969b077f46ba7bcf41182f54599256c1e5f2bbec71a31c119ed03c78807f8e", func := "loop.example/clockdaemon/laws.FnExactFieldValid", spec := "fnExactFieldValid", apart := false }
def FnExactFieldValidSaid : Prop := fnExactFieldValidRow.holds Try.pinned (OpenSpec.ofChange fnExactFieldValidSpec)

/-- ITS FALSE NEIGHBOUR: 'it returns false'. Refute it at one input. -/
def fnExactFieldValidWrong : ChangeSpec := { name := "fnExactFieldValid", fn := fun _ => fun
  | [d1, d2, d3] => { results := [.lit (.bool false)], args := [d1, d2, d3] }
  | _ => none }
def FnExactFieldValidWrongFalsely : Prop := fnExactFieldValidRow.holds Try.pinned (OpenSpec.ofChange fnExactFieldValidWrong)

/-- 'laws.FnExactFieldHas': WHATEVER THE INPUT: true; the input reads as it did. -/
def fnExactFieldHasSpec : ChangeSpec := { name := "fnExactFieldHas", fn := fun _ => fun
  | [d1, d2] => { results := [.lit (.bool true)], args := [d1, d2] }
  | _ => none }
def fnExactFieldHasRow : OpenClaim := { program := "ytlpodfachgnkhaa", sum := "7b969b077f46ba7bcf41182f54599256c1e5f2bbec71a31c119ed03c78807f8e", func := "loop.example/clockdaemon/laws.FnExactFieldHas", spec := "fnExactFieldHas", apart := false }
def FnExactFieldHasSaid : Prop := fnExactFieldHasRow.holds Try.pinned (OpenSpec.ofChange fnExactFieldHasSpec)

/-- ITS FALSE NEIGHBOUR: 'it returns false'. Refute it at one input. -/
def fnExactFieldHasWrong : ChangeSpec := { name := "fnExactFieldHas", fn := fun _ => fun
  | [d1, d2] => { results := [.lit (.bool false)], args := [d1, d2] }
  | _ => none }
def FnExactFieldHasWrongFalsely : Prop := fnExactFieldHasRow.holds Try.pinned (OpenSpec.ofChange fnExactFieldHasWrong)

/- THE SECOND FORM. 'bulk': how many values and letters a reading holds, each counted each time it is reached (what is shared counts as often as it is met; a slice's spare places count too). A statement '..UptoSaid' is the law's where the arguments, and the package variables that the reading takes, are together of bulk at most 1048576: NARROWER than '..Said'. Prove '..Said' where nothing that the law and all that it calls make is longer than what came in: it says more and counts as full. Else prove '..UptoSaid'. A law counts once. -/
mutual
def uptoBulk {H : Type} : DataW H → Nat
  | .lit (.string bytes) => bytes.length + 1
  | .lit _ => 1
  | .nil => 1
  | .ptr d => uptoBulk d + 1
  | .slice elems spare => uptoBulkAll elems + uptoBulkAll spare + 1
  | .agg parts => uptoBulkAll parts + 1
  | .iface _ d => uptoBulk d + 1
  | .map entries => uptoBulkEntries entries + 1
  | .held _ => 1
def uptoBulkAll {H : Type} : List (DataW H) → Nat
  | [] => 0
  | d :: r => uptoBulk d + uptoBulkAll r
def uptoBulkEntries {H : Type} : List (Lit × DataW H) → Nat
  | [] => 0
  | x :: r => uptoBulkEntry x + uptoBulkEntries r
def uptoBulkEntry {H : Type} : Lit × DataW H → Nat
  | (.string bytes, d) => bytes.length + uptoBulk d + 1
  | (_, d) => uptoBulk d + 1
 end
def uptoSmall : (H : Type) → List (DataW H) → Bool := fun _ ds => decide (uptoBulkAll ds ≤ 1048576)
def OpenSpec.upto (s : _root_.Go.ChangeSpec) : _root_.Go.OpenSpec := { _root_.Go.OpenSpec.ofChange s with cond := some uptoSmall }

/-- 'laws.FnFieldValid', WHERE WHAT IT READS IS OF BULK AT MOST 1048576: true; the input reads as it did. -/
def fnFieldValidUptoRow : OpenClaim := { program := "ytlpodfachgnkhaa", sum := "7b969b077f46ba7bcf41182f54599256c1e5f2bbec71a31c119ed03c78807f8e", func := "loop.example/clockdaemon/laws.FnFieldValid", spec := "fnFieldValid", apart := false, narrowed := true }
def FnFieldValidUptoSaid : Prop := fnFieldValidUptoRow.holds Try.pinned (OpenSpec.upto fnFieldValidSpec)

/-- 'laws.FnFieldHas', WHERE WHAT IT READS IS OF BULK AT MOST 1048576: true; the input reads as it did. -/
def fnFieldHasUptoRow : OpenClaim := { program := "ytlpodfachgnkhaa", sum := "7b969b077f46ba7bcf41182f54599256c1e5f2bbec71a31c119ed03c78807f8e", func := "loop.example/clockdaemon/laws.FnFieldHas", spec := "fnFieldHas", apart := false, narrowed := true }
def FnFieldHasUptoSaid : Prop := fnFieldHasUptoRow.holds Try.pinned (OpenSpec.upto fnFieldHasSpec)

/-- 'laws.FnExactFieldValid', WHERE WHAT IT READS IS OF BULK AT MOST 1048576: true; the input reads as it did. -/
def fnExactFieldValidUptoRow : OpenClaim := { program := "ytlpodfachgnkhaa", sum := "7b969b077f46ba7bcf41182f54599256c1e5f2bbec71a31c119ed03c78807f8e", func := "loop.example/clockdaemon/laws.FnExactFieldValid", spec := "fnExactFieldValid", apart := false, narrowed := true }
def FnExactFieldValidUptoSaid : Prop := fnExactFieldValidUptoRow.holds Try.pinned (OpenSpec.upto fnExactFieldValidSpec)

/-- 'laws.FnExactFieldHas', WHERE WHAT IT READS IS OF BULK AT MOST 1048576: true; the input reads as it did. -/
def fnExactFieldHasUptoRow : OpenClaim := { program := "ytlpodfachgnkhaa", sum := "7b969b077f46ba7bcf41182f54599256c1e5f2bbec71a31c119ed03c78807f8e", func := "loop.example/clockdaemon/laws.FnExactFieldHas", spec := "fnExactFieldHas", apart := false, narrowed := true }
def FnExactFieldHasUptoSaid : Prop := fnExactFieldHasUptoRow.holds Try.pinned (OpenSpec.upto fnExactFieldHasSpec)

end Rows
end Go.Proofs.Ytlpodfachgnkhaa
