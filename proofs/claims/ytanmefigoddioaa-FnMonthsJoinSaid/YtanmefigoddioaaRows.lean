/-
  No cell of these rows narrows 'for every input' (looked for: loops, veiled, ifaces, maps, wideKeys, modest, calm, conditions, laid).
  DERIVED. THE GIVEN ROWS OF THIS SEAT. 9 by the template 'for every input the law returns true; each argument reads behind the call as it read before'; 0 by the template 'total and deterministic' (their statements: YtanmefigoddioaaTotals.lean).
  GIVEN WITH THE SEED: the statements are not yours to turn. If you find one false, say at which input.
  Laid BY PROGRAM, IN A SANDBOX (cutbox-rows.mjs): the forced cells as the released guide's own fill.sh prints them over the translation 88df0a0e02802bea… (all of the seat's roots in one cut). By AI agents, Wed Nov 11 2026. No macro, syntax, notation, axiom, sorry.
-/
import Derived.Test.YtanmefigoddioaaChecked
import GoSem.Claim
import GoSem.ClaimJoined
import GoSem.ClaimMapViews
import Derived.JoinedTies
import Derived.KernelRfl
namespace Go.Proofs.Ytanmefigoddioaa
/- THE CELL 'sum', in the pinned program and in every row, IS THE sha256 OF THE DUMP (.gsa) THAT YtanmefigoddioaaProg.lean LOADS. Nothing in Lean hashes anything: it is a label: what it is worth is what the hold of that sum in a sandbox is worth. -/
noncomputable def Try.pinned : Pinned := { name := "ytanmefigoddioaa", sum := "88df0a0e02802bea9c43baa847a7818153370fd09a636de9efd71c3e285cfb56", checked := Try.checked }
namespace Rows
def none {H : Type} : Left H := { results := [], args := [] }

/-- 'laws.FnMomentOf': WHATEVER THE INPUT: true; the input reads as it did. -/
def fnMomentOfSpec : ChangeSpec := { name := "fnMomentOf", fn := fun _ => fun
  | [d] => { results := [.lit (.bool true)], args := [d] }
  | _ => none }
def fnMomentOfRow : OpenClaim := { program := "ytanmefigoddioaa", sum := "88df0a0e02802bea9c43baa847a7818153370fd09a636de9efd71c3e285cfb56", func := "loop.example/clockdaemon/laws.FnMomentOf", spec := "fnMomentOf", apart := false }
def FnMomentOfSaid : Prop := fnMomentOfRow.holds Try.pinned (OpenSpec.ofChange fnMomentOfSpec)

/-- ITS FALSE NEIGHBOUR: 'it returns false'. Refute it at one input. -/
def fnMomentOfWrong : ChangeSpec := { name := "fnMomentOf", fn := fun _ => fun
  | [d] => { results := [.lit (.bool false)], args := [d] }
  | _ => none }
def FnMomentOfWrongFalsely : Prop := fnMomentOfRow.holds Try.pinned (OpenSpec.ofChange fnMomentOfWrong)

/-- 'laws.FnMonthsJoin': WHATEVER THE INPUT: true; the input reads as it did. -/
def fnMonthsJoinSpec : ChangeSpec := { name := "fnMonthsJoin", fn := fun _ => fun
  | [d] => { results := [.lit (.bool true)], args := [d] }
  | _ => none }
def fnMonthsJoinRow : OpenClaim := { program := "ytanmefigoddioaa", sum := "88df0a0e02802bea9c43baa847a7818153370fd09a636de9efd71c3e285cfb56", func := "loop.example/clockdaemon/laws.FnMonthsJoin", spec := "fnMonthsJoin", apart := false }
def FnMonthsJoinSaid : Prop := fnMonthsJoinRow.holds Try.pinned (OpenSpec.ofChange fnMonthsJoinSpec)

/-- ITS FALSE NEIGHBOUR: 'it returns false'. Refute it at one input. -/
def fnMonthsJoinWrong : ChangeSpec := { name := "fnMonthsJoin", fn := fun _ => fun
  | [d] => { results := [.lit (.bool false)], args := [d] }
  | _ => none }
def FnMonthsJoinWrongFalsely : Prop := fnMonthsJoinRow.holds Try.pinned (OpenSpec.ofChange fnMonthsJoinWrong)

/-- 'laws.FnExactStampValid': WHATEVER THE INPUT: true; the input reads as it did. -/
def fnExactStampValidSpec : ChangeSpec := { name := "fnExactStampValid", fn := fun _ => fun
  | [d] => { results := [.lit (.bool true)], args := [d] }
  | _ => none }
def fnExactStampValidRow : OpenClaim := { program := "ytanmefigoddioaa", sum := "88df0a0e02802bea9c43baa847a7818153370fd09a636de9efd71c3e285cfb56", func := "loop.example/clockdaemon/laws.FnExactStampValid", spec := "fnExactStampValid", apart := false }
def FnExactStampValidSaid : Prop := fnExactStampValidRow.holds Try.pinned (OpenSpec.ofChange fnExactStampValidSpec)

/-- ITS FALSE NEIGHBOUR: 'it returns false'. Refute it at one input. -/
def fnExactStampValidWrong : ChangeSpec := { name := "fnExactStampValid", fn := fun _ => fun
  | [d] => { results := [.lit (.bool false)], args := [d] }
  | _ => none }
def FnExactStampValidWrongFalsely : Prop := fnExactStampValidRow.holds Try.pinned (OpenSpec.ofChange fnExactStampValidWrong)

/-- 'laws.FnExactMomentOf': WHATEVER THE INPUT: true; the input reads as it did. -/
def fnExactMomentOfSpec : ChangeSpec := { name := "fnExactMomentOf", fn := fun _ => fun
  | [d] => { results := [.lit (.bool true)], args := [d] }
  | _ => none }
def fnExactMomentOfRow : OpenClaim := { program := "ytanmefigoddioaa", sum := "88df0a0e02802bea9c43baa847a7818153370fd09a636de9efd71c3e285cfb56", func := "loop.example/clockdaemon/laws.FnExactMomentOf", spec := "fnExactMomentOf", apart := false }
def FnExactMomentOfSaid : Prop := fnExactMomentOfRow.holds Try.pinned (OpenSpec.ofChange fnExactMomentOfSpec)

/-- ITS FALSE NEIGHBOUR: 'it returns false'. Refute it at one input. -/
def fnExactMomentOfWrong : ChangeSpec := { name := "fnExactMomentOf", fn := fun _ => fun
  | [d] => { results := [.lit (.bool false)], args := [d] }
  | _ => none }
def FnExactMomentOfWrongFalsely : Prop := fnExactMomentOfRow.holds Try.pinned (OpenSpec.ofChange fnExactMomentOfWrong)

/-- 'laws.FnExactStampOf': WHATEVER THE INPUT: true; the input reads as it did. -/
def fnExactStampOfSpec : ChangeSpec := { name := "fnExactStampOf", fn := fun _ => fun
  | [d] => { results := [.lit (.bool true)], args := [d] }
  | _ => none }
def fnExactStampOfRow : OpenClaim := { program := "ytanmefigoddioaa", sum := "88df0a0e02802bea9c43baa847a7818153370fd09a636de9efd71c3e285cfb56", func := "loop.example/clockdaemon/laws.FnExactStampOf", spec := "fnExactStampOf", apart := false }
def FnExactStampOfSaid : Prop := fnExactStampOfRow.holds Try.pinned (OpenSpec.ofChange fnExactStampOfSpec)

/-- ITS FALSE NEIGHBOUR: 'it returns false'. Refute it at one input. -/
def fnExactStampOfWrong : ChangeSpec := { name := "fnExactStampOf", fn := fun _ => fun
  | [d] => { results := [.lit (.bool false)], args := [d] }
  | _ => none }
def FnExactStampOfWrongFalsely : Prop := fnExactStampOfRow.holds Try.pinned (OpenSpec.ofChange fnExactStampOfWrong)

/-- 'laws.FnExactMonthsLater': WHATEVER THE INPUT: true; the input reads as it did. -/
def fnExactMonthsLaterSpec : ChangeSpec := { name := "fnExactMonthsLater", fn := fun _ => fun
  | [d1, d2] => { results := [.lit (.bool true)], args := [d1, d2] }
  | _ => none }
def fnExactMonthsLaterRow : OpenClaim := { program := "ytanmefigoddioaa", sum := "88df0a0e02802bea9c43baa847a7818153370fd09a636de9efd71c3e285cfb56", func := "loop.example/clockdaemon/laws.FnExactMonthsLater", spec := "fnExactMonthsLater", apart := false }
def FnExactMonthsLaterSaid : Prop := fnExactMonthsLaterRow.holds Try.pinned (OpenSpec.ofChange fnExactMonthsLaterSpec)

/-- ITS FALSE NEIGHBOUR: 'it returns false'. Refute it at one input. -/
def fnExactMonthsLaterWrong : ChangeSpec := { name := "fnExactMonthsLater", fn := fun _ => fun
  | [d1, d2] => { results := [.lit (.bool false)], args := [d1, d2] }
  | _ => none }
def FnExactMonthsLaterWrongFalsely : Prop := fnExactMonthsLaterRow.holds Try.pinned (OpenSpec.ofChange fnExactMonthsLaterWrong)

/-- 'laws.FnStampValid': WHATEVER THE INPUT: true; the input reads as it did. -/
def fnStampValidSpec : ChangeSpec := { name := "fnStampValid", fn := fun _ => fun
  | [d] => { results := [.lit (.bool true)], args := [d] }
  | _ => none }
def fnStampValidRow : OpenClaim := { program := "ytanmefigoddioaa", sum := "88df0a0e02802bea9c43baa847a7818153370fd09a636de9efd71c3e285cfb56", func := "loop.example/clockdaemon/laws.FnStampValid", spec := "fnStampValid", apart := false }
def FnStampValidSaid : Prop := fnStampValidRow.holds Try.pinned (OpenSpec.ofChange fnStampValidSpec)

/-- ITS FALSE NEIGHBOUR: 'it returns false'. Refute it at one input. -/
def fnStampValidWrong : ChangeSpec := { name := "fnStampValid", fn := fun _ => fun
  | [d] => { results := [.lit (.bool false)], args := [d] }
  | _ => none }
def FnStampValidWrongFalsely : Prop := fnStampValidRow.holds Try.pinned (OpenSpec.ofChange fnStampValidWrong)

/-- 'laws.FnStampOf': WHATEVER THE INPUT: true; the input reads as it did. -/
def fnStampOfSpec : ChangeSpec := { name := "fnStampOf", fn := fun _ => fun
  | [d] => { results := [.lit (.bool true)], args := [d] }
  | _ => none }
def fnStampOfRow : OpenClaim := { program := "ytanmefigoddioaa", sum := "88df0a0e02802bea9c43baa847a7818153370fd09a636de9efd71c3e285cfb56", func := "loop.example/clockdaemon/laws.FnStampOf", spec := "fnStampOf", apart := false }
def FnStampOfSaid : Prop := fnStampOfRow.holds Try.pinned (OpenSpec.ofChange fnStampOfSpec)

/-- ITS FALSE NEIGHBOUR: 'it returns false'. Refute it at one input. -/
def fnStampOfWrong : ChangeSpec := { name := "fnStampOf", fn := fun _ => fun
  | [d] => { results := [.lit (.bool false)], args := [d] }
  | _ => none }
def FnStampOfWrongFalsely : Prop := fnStampOfRow.holds Try.pinned (OpenSpec.ofChange fnStampOfWrong)

/-- 'laws.FnMonthsLater': WHATEVER THE INPUT: true; the input reads as it did. -/
def fnMonthsLaterSpec : ChangeSpec := { name := "fnMonthsLater", fn := fun _ => fun
  | [d] => { results := [.lit (.bool true)], args := [d] }
  | _ => none }
def fnMonthsLaterRow : OpenClaim := { program := "ytanmefigoddioaa", sum := "88df0a0e02802bea9c43baa847a7818153370fd09a636de9efd71c3e285cfb56", func := "loop.example/clockdaemon/laws.FnMonthsLater", spec := "fnMonthsLater", apart := false }
def FnMonthsLaterSaid : Prop := fnMonthsLaterRow.holds Try.pinned (OpenSpec.ofChange fnMonthsLaterSpec)

/-- ITS FALSE NEIGHBOUR: 'it returns false'. Refute it at one input. -/
def fnMonthsLaterWrong : ChangeSpec := { name := "fnMonthsLater", fn := fun _ => fun
  | [d] => { results := [.lit (.bool false)], args := [d] }
  | _ => none }
def FnMonthsLaterWrongFalsely : Prop := fnMonthsLaterRow.holds Try.pinned (OpenSpec.ofChange fnMonthsLaterWrong)

/- THE SECOND FORM. 'bulk': how many values and letters a reading holds, each counted each time it is reached (what is shared counts as often as it is met; a slice's spare places count too). A statement '..UptoSaid' is the law's where the arguments, and the package variables that the reading takes, are together of bulk at most 1048576: NARROWER than '..Said'. Prove '..Said' where nothing that the law and all that it calls make is longer than what came in: it says more and counts as full. Else prove '..UptoSaid'. A law counts once. -/
mutual
def uptoBulk {H : Type} : DataW H → Nat
  | .lit (.string bytes) => bytes.length + 1
  | .lit _ => 1
  | .nil => 1
  | .ptr d => uptoBulk d + 1
  | .slice elems spare => uptoBulkAll elems + uptoBulkAll spare + 1
  | .agg parts => uptoBulkAll parts + 1
  | .iface _ d => uptoBulk d + 1
  | .map entries => uptoBulkEntries entries + 1
  | .held _ => 1
def uptoBulkAll {H : Type} : List (DataW H) → Nat
  | [] => 0
  | d :: r => uptoBulk d + uptoBulkAll r
def uptoBulkEntries {H : Type} : List (Lit × DataW H) → Nat
  | [] => 0
  | x :: r => uptoBulkEntry x + uptoBulkEntries r
def uptoBulkEntry {H : Type} : Lit × DataW H → Nat
  | (.string bytes, d) => bytes.length + uptoBulk d + 1
  | (_, d) => uptoBulk d + 1
 end
def uptoSmall : (H : Type) → List (DataW H) → Bool := fun _ ds => decide (uptoBulkAll ds ≤ 1048576)
def OpenSpec.upto (s : _root_.Go.ChangeSpec) : _root_.Go.OpenSpec := { _root_.Go.OpenSpec.ofChange s with cond := some uptoSmall }

/-- 'laws.FnMomentOf', WHERE WHAT IT READS IS OF BULK AT MOST 1048576: true; the input reads as it did. -/
def fnMomentOfUptoRow : OpenClaim := { program := "ytanmefigoddioaa", sum := "88df0a0e02802bea9c43baa847a7818153370fd09a636de9efd71c3e285cfb56", func := "loop.example/clockdaemon/laws.FnMomentOf", spec := "fnMomentOf", apart := false, narrowed := true }
def FnMomentOfUptoSaid : Prop := fnMomentOfUptoRow.holds Try.pinned (OpenSpec.upto fnMomentOfSpec)

/-- 'laws.FnMonthsJoin', WHERE WHAT IT READS IS OF BULK AT MOST 1048576: true; the input reads as it did. -/
def fnMonthsJoinUptoRow : OpenClaim := { program := "ytanmefigoddioaa", sum := "88df0a0e02802bea9c43baa847a7818153370fd09a636de9efd71c3e285cfb56", func := "loop.example/clockdaemon/laws.FnMonthsJoin", spec := "fnMonthsJoin", apart := false, narrowed := true }
def FnMonthsJoinUptoSaid : Prop := fnMonthsJoinUptoRow.holds Try.pinned (OpenSpec.upto fnMonthsJoinSpec)

/-- 'laws.FnExactStampValid', WHERE WHAT IT READS IS OF BULK AT MOST 1048576: true; the input reads as it did. -/
def fnExactStampValidUptoRow : OpenClaim := { program := "ytanmefigoddioaa", sum := "88df0a0e02802bea9c43baa847a7818153370fd09a636de9efd71c3e285cfb56", func := "loop.example/clockdaemon/laws.FnExactStampValid", spec := "fnExactStampValid", apart := false, narrowed := true }
def FnExactStampValidUptoSaid : Prop := fnExactStampValidUptoRow.holds Try.pinned (OpenSpec.upto fnExactStampValidSpec)

/-- 'laws.FnExactMomentOf', WHERE WHAT IT READS IS OF BULK AT MOST 1048576: true; the input reads as it did. -/
def fnExactMomentOfUptoRow : OpenClaim := { program := "ytanmefigoddioaa", sum := "88df0a0e02802bea9c43baa847a7818153370fd09a636de9efd71c3e285cfb56", func := "loop.example/clockdaemon/laws.FnExactMomentOf", spec := "fnExactMomentOf", apart := false, narrowed := true }
def FnExactMomentOfUptoSaid : Prop := fnExactMomentOfUptoRow.holds Try.pinned (OpenSpec.upto fnExactMomentOfSpec)

/-- 'laws.FnExactStampOf', WHERE WHAT IT READS IS OF BULK AT MOST 1048576: true; the input reads as it did. -/
def fnExactStampOfUptoRow : OpenClaim := { program := "ytanmefigoddioaa", sum := "88df0a0e02802bea9c43baa847a7818153370fd09a636de9efd71c3e285cfb56", func := "loop.example/clockdaemon/laws.FnExactStampOf", spec := "fnExactStampOf", apart := false, narrowed := true }
def FnExactStampOfUptoSaid : Prop := fnExactStampOfUptoRow.holds Try.pinned (OpenSpec.upto fnExactStampOfSpec)

/-- 'laws.FnExactMonthsLater', WHERE WHAT IT READS IS OF BULK AT MOST 1048576: true; the input reads as it did. -/
def fnExactMonthsLaterUptoRow : OpenClaim := { program := "ytanmefigoddioaa", sum := "88df0a0e02802bea9c43baa847a7818153370fd09a636de9efd71c3e285cfb56", func := "loop.example/clockdaemon/laws.FnExactMonthsLater", spec := "fnExactMonthsLater", apart := false, narrowed := true }
def FnExactMonthsLaterUptoSaid : Prop := fnExactMonthsLaterUptoRow.holds Try.pinned (OpenSpec.upto fnExactMonthsLaterSpec)

/-- 'laws.FnStampValid', WHERE WHAT IT READS IS OF BULK AT MOST 1048576: true; the input reads as it did. -/
def fnStampValidUptoRow : OpenClaim := { program := "ytanmefigoddioaa", sum := "88df0a0e02802bea9c43baa847a7818153370fd09a636de9efd71c3e285cfb56", func := "loop.example/clockdaemon/laws.FnStampValid", spec := "fnStampValid", apart := false, narrowed := true }
def FnStampValidUptoSaid : Prop := fnStampValidUptoRow.holds Try.pinned (OpenSpec.upto fnStampValidSpec)

/-- 'laws.FnStampOf', WHERE WHAT IT READS IS OF BULK AT MOST 1048576: true; the input reads as it did. -/
def fnStampOfUptoRow : OpenClaim := { program := "ytanmefigoddioaa", sum := "88df0a0e02802bea9c43baa847a7818153370fd09a636de9efd71c3e285cfb56", func := "loop.example/clockdaemon/laws.FnStampOf", spec := "fnStampOf", apart := false, narrowed := true }
def FnStampOfUptoSaid : Prop := fnStampOfUptoRow.holds Try.pinned (OpenSpec.upto fnStampOfSpec)

/-- 'laws.FnMonthsLater', WHERE WHAT IT READS IS OF BULK AT MOST 1048576: true; the input reads as it did. -/
def fnMonthsLaterUptoRow : OpenClaim := { program := "ytanmefigoddioaa", sum := "88df0a0e02802bea9c43baa847a7818153370fd09a636de9efd71c3e285cfb56", func := "loop.example/clockdaemon/laws.FnMonthsLater", spec := "fnMonthsLater", apart := false, narrowed := true }
def FnMonthsLaterUptoSaid : Prop := fnMonthsLaterUptoRow.holds Try.pinned (OpenSpec.upto fnMonthsLaterSpec)

end Rows
end Go.Proofs.Ytanmefigoddioaa
