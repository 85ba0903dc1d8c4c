/-
  No cell of these rows narrows 'for every input' (looked for: loops, veiled, ifaces, maps, wideKeys, modest, calm, conditions, laid).
  DERIVED. THE GIVEN ROWS OF THIS SEAT. 8 by the template 'for every input the law returns true; each argument reads behind the call as it read before'; 0 by the template 'total and deterministic' (their statements: YthiogmkicdgpiaaTotals.lean).
  GIVEN WITH THE SEED: the statements are not yours to turn. If you find one false, say at which input.
  Laid BY PROGRAM, IN A SANDBOX (cutbox-rows.mjs): the forced cells as the released guide's own fill.sh prints them over the translation 53bd2f21bd97531c… (all of the seat's roots in one cut). By AI agents, Wed Nov 11 2026. No macro, syntax, notation, axiom, sorry.
-/
import Derived.Test.YthiogmkicdgpiaaChecked
import GoSem.Claim
import GoSem.ClaimJoined
import GoSem.ClaimMapViews
import Derived.JoinedTies
import Derived.KernelRfl
namespace Go.Proofs.Ythiogmkicdgpiaa
/- THE CELL 'sum', in the pinned program and in every row, IS THE sha256 OF THE DUMP (.gsa) THAT YthiogmkicdgpiaaProg.lean LOADS. Nothing in Lean hashes anything: it is a label: what it is worth is what the hold of that sum in a sandbox is worth. -/
noncomputable def Try.pinned : Pinned := { name := "ythiogmkicdgpiaa", sum := "53bd2f21bd97531c13592cfef7089fcfd69d7a6b3dbc7349e048d0a7e38f4ee0", checked := Try.checked }
namespace Rows
def none {H : Type} : Left H := { results := [], args := [] }

/-- 'laws.FnStampText': WHATEVER THE INPUT: true; the input reads as it did. -/
def fnStampTextSpec : ChangeSpec := { name := "fnStampText", fn := fun _ => fun
  | [d] => { results := [.lit (.bool true)], args := [d] }
  | _ => none }
def fnStampTextRow : OpenClaim := { program := "ythiogmkicdgpiaa", sum := "53bd2f21bd97531c13592cfef7089fcfd69d7a6b3dbc7349e048d0a7e38f4ee0", func := "loop.example/clockdaemon/laws.FnStampText", spec := "fnStampText", apart := false }
def FnStampTextSaid : Prop := fnStampTextRow.holds Try.pinned (OpenSpec.ofChange fnStampTextSpec)

/-- ITS FALSE NEIGHBOUR: 'it returns false'. Refute it at one input. -/
def fnStampTextWrong : ChangeSpec := { name := "fnStampText", fn := fun _ => fun
  | [d] => { results := [.lit (.bool false)], args := [d] }
  | _ => none }
def FnStampTextWrongFalsely : Prop := fnStampTextRow.holds Try.pinned (OpenSpec.ofChange fnStampTextWrong)

/-- 'laws.FnReadStamp': WHATEVER THE INPUT: true; the input reads as it did. -/
def fnReadStampSpec : ChangeSpec := { name := "fnReadStamp", fn := fun _ => fun
  | [d] => { results := [.lit (.bool true)], args := [d] }
  | _ => none }
def fnReadStampRow : OpenClaim := { program := "ythiogmkicdgpiaa", sum := "53bd2f21bd97531c13592cfef7089fcfd69d7a6b3dbc7349e048d0a7e38f4ee0", func := "loop.example/clockdaemon/laws.FnReadStamp", spec := "fnReadStamp", apart := false }
def FnReadStampSaid : Prop := fnReadStampRow.holds Try.pinned (OpenSpec.ofChange fnReadStampSpec)

/-- ITS FALSE NEIGHBOUR: 'it returns false'. Refute it at one input. -/
def fnReadStampWrong : ChangeSpec := { name := "fnReadStamp", fn := fun _ => fun
  | [d] => { results := [.lit (.bool false)], args := [d] }
  | _ => none }
def FnReadStampWrongFalsely : Prop := fnReadStampRow.holds Try.pinned (OpenSpec.ofChange fnReadStampWrong)

/-- 'laws.FnOffsetText': WHATEVER THE INPUT: true; the input reads as it did. -/
def fnOffsetTextSpec : ChangeSpec := { name := "fnOffsetText", fn := fun _ => fun
  | [d] => { results := [.lit (.bool true)], args := [d] }
  | _ => none }
def fnOffsetTextRow : OpenClaim := { program := "ythiogmkicdgpiaa", sum := "53bd2f21bd97531c13592cfef7089fcfd69d7a6b3dbc7349e048d0a7e38f4ee0", func := "loop.example/clockdaemon/laws.FnOffsetText", spec := "fnOffsetText", apart := false }
def FnOffsetTextSaid : Prop := fnOffsetTextRow.holds Try.pinned (OpenSpec.ofChange fnOffsetTextSpec)

/-- ITS FALSE NEIGHBOUR: 'it returns false'. Refute it at one input. -/
def fnOffsetTextWrong : ChangeSpec := { name := "fnOffsetText", fn := fun _ => fun
  | [d] => { results := [.lit (.bool false)], args := [d] }
  | _ => none }
def FnOffsetTextWrongFalsely : Prop := fnOffsetTextRow.holds Try.pinned (OpenSpec.ofChange fnOffsetTextWrong)

/-- 'laws.FnReadOffset': WHATEVER THE INPUT: true; the input reads as it did. -/
def fnReadOffsetSpec : ChangeSpec := { name := "fnReadOffset", fn := fun _ => fun
  | [d] => { results := [.lit (.bool true)], args := [d] }
  | _ => none }
def fnReadOffsetRow : OpenClaim := { program := "ythiogmkicdgpiaa", sum := "53bd2f21bd97531c13592cfef7089fcfd69d7a6b3dbc7349e048d0a7e38f4ee0", func := "loop.example/clockdaemon/laws.FnReadOffset", spec := "fnReadOffset", apart := false }
def FnReadOffsetSaid : Prop := fnReadOffsetRow.holds Try.pinned (OpenSpec.ofChange fnReadOffsetSpec)

/-- ITS FALSE NEIGHBOUR: 'it returns false'. Refute it at one input. -/
def fnReadOffsetWrong : ChangeSpec := { name := "fnReadOffset", fn := fun _ => fun
  | [d] => { results := [.lit (.bool false)], args := [d] }
  | _ => none }
def FnReadOffsetWrongFalsely : Prop := fnReadOffsetRow.holds Try.pinned (OpenSpec.ofChange fnReadOffsetWrong)

/-- 'laws.FnExactStampText': WHATEVER THE INPUT: true; the input reads as it did. -/
def fnExactStampTextSpec : ChangeSpec := { name := "fnExactStampText", fn := fun _ => fun
  | [d] => { results := [.lit (.bool true)], args := [d] }
  | _ => none }
def fnExactStampTextRow : OpenClaim := { program := "ythiogmkicdgpiaa", sum := "53bd2f21bd97531c13592cfef7089fcfd69d7a6b3dbc7349e048d0a7e38f4ee0", func := "loop.example/clockdaemon/laws.FnExactStampText", spec := "fnExactStampText", apart := false }
def FnExactStampTextSaid : Prop := fnExactStampTextRow.holds Try.pinned (OpenSpec.ofChange fnExactStampTextSpec)

/-- ITS FALSE NEIGHBOUR: 'it returns false'. Refute it at one input. -/
def fnExactStampTextWrong : ChangeSpec := { name := "fnExactStampText", fn := fun _ => fun
  | [d] => { results := [.lit (.bool false)], args := [d] }
  | _ => none }
def FnExactStampTextWrongFalsely : Prop := fnExactStampTextRow.holds Try.pinned (OpenSpec.ofChange fnExactStampTextWrong)

/-- 'laws.FnExactReadStamp': WHATEVER THE INPUT: true; the input reads as it did. -/
def fnExactReadStampSpec : ChangeSpec := { name := "fnExactReadStamp", fn := fun _ => fun
  | [d] => { results := [.lit (.bool true)], args := [d] }
  | _ => none }
def fnExactReadStampRow : OpenClaim := { program := "ythiogmkicdgpiaa", sum := "53bd2f21bd97531c13592cfef7089fcfd69d7a6b3dbc7349e048d0a7e38f4ee0", func := "loop.example/clockdaemon/laws.FnExactReadStamp", spec := "fnExactReadStamp", apart := false }
def FnExactReadStampSaid : Prop := fnExactReadStampRow.holds Try.pinned (OpenSpec.ofChange fnExactReadStampSpec)

/-- ITS FALSE NEIGHBOUR: 'it returns false'. Refute it at one input. -/
def fnExactReadStampWrong : ChangeSpec := { name := "fnExactReadStamp", fn := fun _ => fun
  | [d] => { results := [.lit (.bool false)], args := [d] }
  | _ => none }
def FnExactReadStampWrongFalsely : Prop := fnExactReadStampRow.holds Try.pinned (OpenSpec.ofChange fnExactReadStampWrong)

/-- 'laws.FnExactOffsetText': WHATEVER THE INPUT: true; the input reads as it did. -/
def fnExactOffsetTextSpec : ChangeSpec := { name := "fnExactOffsetText", fn := fun _ => fun
  | [d] => { results := [.lit (.bool true)], args := [d] }
  | _ => none }
def fnExactOffsetTextRow : OpenClaim := { program := "ythiogmkicdgpiaa", sum := "53bd2f21bd97531c13592cfef7089fcfd69d7a6b3dbc7349e048d0a7e38f4ee0", func := "loop.example/clockdaemon/laws.FnExactOffsetText", spec := "fnExactOffsetText", apart := false }
def FnExactOffsetTextSaid : Prop := fnExactOffsetTextRow.holds Try.pinned (OpenSpec.ofChange fnExactOffsetTextSpec)

/-- ITS FALSE NEIGHBOUR: 'it returns false'. Refute it at one input. -/
def fnExactOffsetTextWrong : ChangeSpec := { name := "fnExactOffsetText", fn := fun _ => fun
  | [d] => { results := [.lit (.bool false)], args := [d] }
  | _ => none }
def FnExactOffsetTextWrongFalsely : Prop := fnExactOffsetTextRow.holds Try.pinned (OpenSpec.ofChange fnExactOffsetTextWrong)

/-- 'laws.FnExactReadOffset': WHATEVER THE INPUT: true; the input reads as it did. -/
def fnExactReadOffsetSpec : ChangeSpec := { name := "fnExactReadOffset", fn := fun _ => fun
  | [d] => { results := [.lit (.bool true)], args := [d] }
  | _ => none }
def fnExactReadOffsetRow : OpenClaim := { program := "ythiogmkicdgpiaa", sum := "53bd2f21bd97531c13592cfef7089fcfd69d7a6b3dbc7349e048d0a7e38f4ee0", func := "loop.example/clockdaemon/laws.FnExactReadOffset", spec := "fnExactReadOffset", apart := false }
def FnExactReadOffsetSaid : Prop := fnExactReadOffsetRow.holds Try.pinned (OpenSpec.ofChange fnExactReadOffsetSpec)

/-- ITS FALSE NEIGHBOUR: 'it returns false'. Refute it at one input. -/
def fnExactReadOffsetWrong : ChangeSpec := { name := "fnExactReadOffset", fn := fun _ => fun
  | [d] => { results := [.lit (.bool false)], args := [d] }
  | _ => none }
def FnExactReadOffsetWrongFalsely : Prop := fnExactReadOffsetRow.holds Try.pinned (OpenSpec.ofChange fnExactReadOffsetWrong)

/- THE SECOND FORM. 'bulk': how many values and letters a reading holds, each counted each time it is reached (what is shared counts as often as it is met; a slice's spare places count too). A statement '..UptoSaid' is the law's where the arguments, and the package variables that the reading takes, are together of bulk at most 1048576: NARROWER than '..Said'. Prove '..Said' where nothing that the law and all that it calls make is longer than what came in: it says more and counts as full. Else prove '..UptoSaid'. A law counts once. -/
mutual
def uptoBulk {H : Type} : DataW H → Nat
  | .lit (.string bytes) => bytes.length + 1
  | .lit _ => 1
  | .nil => 1
  | .ptr d => uptoBulk d + 1
  | .slice elems spare => uptoBulkAll elems + uptoBulkAll spare + 1
  | .agg parts => uptoBulkAll parts + 1
  | .iface _ d => uptoBulk d + 1
  | .map entries => uptoBulkEntries entries + 1
  | .held _ => 1
def uptoBulkAll {H : Type} : List (DataW H) → Nat
  | [] => 0
  | d :: r => uptoBulk d + uptoBulkAll r
def uptoBulkEntries {H : Type} : List (Lit × DataW H) → Nat
  | [] => 0
  | x :: r => uptoBulkEntry x + uptoBulkEntries r
def uptoBulkEntry {H : Type} : Lit × DataW H → Nat
  | (.string bytes, d) => bytes.length + uptoBulk d + 1
  | (_, d) => uptoBulk d + 1
 end
def uptoSmall : (H : Type) → List (DataW H) → Bool := fun _ ds => decide (uptoBulkAll ds ≤ 1048576)
def OpenSpec.upto (s : _root_.Go.ChangeSpec) : _root_.Go.OpenSpec := { _root_.Go.OpenSpec.ofChange s with cond := some uptoSmall }

/-- 'laws.FnStampText', WHERE WHAT IT READS IS OF BULK AT MOST 1048576: true; the input reads as it did. -/
def fnStampTextUptoRow : OpenClaim := { program := "ythiogmkicdgpiaa", sum := "53bd2f21bd97531c13592cfef7089fcfd69d7a6b3dbc7349e048d0a7e38f4ee0", func := "loop.example/clockdaemon/laws.FnStampText", spec := "fnStampText", apart := false, narrowed := true }
def FnStampTextUptoSaid : Prop := fnStampTextUptoRow.holds Try.pinned (OpenSpec.upto fnStampTextSpec)

/-- 'laws.FnReadStamp', WHERE WHAT IT READS IS OF BULK AT MOST 1048576: true; the input reads as it did. -/
def fnReadStampUptoRow : OpenClaim := { program := "ythiogmkicdgpiaa", sum := "53bd2f21bd97531c13592cfef7089fcfd69d7a6b3dbc7349e048d0a7e38f4ee0", func := "loop.example/clockdaemon/laws.FnReadStamp", spec := "fnReadStamp", apart := false, narrowed := true }
def FnReadStampUptoSaid : Prop := fnReadStampUptoRow.holds Try.pinned (OpenSpec.upto fnReadStampSpec)

/-- 'laws.FnOffsetText', WHERE WHAT IT READS IS OF BULK AT MOST 1048576: true; the input reads as it did. -/
def fnOffsetTextUptoRow : OpenClaim := { program := "ythiogmkicdgpiaa", sum := "53bd2f21bd97531c13592cfef7089fcfd69d7a6b3dbc7349e048d0a7e38f4ee0", func := "loop.example/clockdaemon/laws.FnOffsetText", spec := "fnOffsetText", apart := false, narrowed := true }
def FnOffsetTextUptoSaid : Prop := fnOffsetTextUptoRow.holds Try.pinned (OpenSpec.upto fnOffsetTextSpec)

/-- 'laws.FnReadOffset', WHERE WHAT IT READS IS OF BULK AT MOST 1048576: true; the input reads as it did. -/
def fnReadOffsetUptoRow : OpenClaim := { program := "ythiogmkicdgpiaa", sum := "53bd2f21bd97531c13592cfef7089fcfd69d7a6b3dbc7349e048d0a7e38f4ee0", func := "loop.example/clockdaemon/laws.FnReadOffset", spec := "fnReadOffset", apart := false, narrowed := true }
def FnReadOffsetUptoSaid : Prop := fnReadOffsetUptoRow.holds Try.pinned (OpenSpec.upto fnReadOffsetSpec)

/-- 'laws.FnExactStampText', WHERE WHAT IT READS IS OF BULK AT MOST 1048576: true; the input reads as it did. -/
def fnExactStampTextUptoRow : OpenClaim := { program := "ythiogmkicdgpiaa", sum := "53bd2f21bd97531c13592cfef7089fcfd69d7a6b3dbc7349e048d0a7e38f4ee0", func := "loop.example/clockdaemon/laws.FnExactStampText", spec := "fnExactStampText", apart := false, narrowed := true }
def FnExactStampTextUptoSaid : Prop := fnExactStampTextUptoRow.holds Try.pinned (OpenSpec.upto fnExactStampTextSpec)

/-- 'laws.FnExactReadStamp', WHERE WHAT IT READS IS OF BULK AT MOST 1048576: true; the input reads as it did. -/
def fnExactReadStampUptoRow : OpenClaim := { program := "ythiogmkicdgpiaa", sum := "53bd2f21bd97531c13592cfef7089fcfd69d7a6b3dbc7349e048d0a7e38f4ee0", func := "loop.example/clockdaemon/laws.FnExactReadStamp", spec := "fnExactReadStamp", apart := false, narrowed := true }
def FnExactReadStampUptoSaid : Prop := fnExactReadStampUptoRow.holds Try.pinned (OpenSpec.upto fnExactReadStampSpec)

/-- 'laws.FnExactOffsetText', WHERE WHAT IT READS IS OF BULK AT MOST 1048576: true; the input reads as it did. -/
def fnExactOffsetTextUptoRow : OpenClaim := { program := "ythiogmkicdgpiaa", sum := "53bd2f21bd97531c13592cfef7089fcfd69d7a6b3dbc7349e048d0a7e38f4ee0", func := "loop.example/clockdaemon/laws.FnExactOffsetText", spec := "fnExactOffsetText", apart := false, narrowed := true }
def FnExactOffsetTextUptoSaid : Prop := fnExactOffsetTextUptoRow.holds Try.pinned (OpenSpec.upto fnExactOffsetTextSpec)

/-- 'laws.FnExactReadOffset', WHERE WHAT IT READS IS OF BULK AT MOST 1048576: true; the input reads as it did. -/
def fnExactReadOffsetUptoRow : OpenClaim := { program := "ythiogmkicdgpiaa", sum := "53bd2f21bd97531c13592cfef7089fcfd69d7a6b3dbc7349e048d0a7e38f4ee0", func := "loop.example/clockdaemon/laws.FnExactReadOffset", spec := "fnExactReadOffset", apart := false, narrowed := true }
def FnExactReadOffsetUptoSaid : Prop := fnExactReadOffsetUptoRow.holds Try.pinned (OpenSpec.upto fnExactReadOffsetSpec)

end Rows
end Go.Proofs.Ythiogmkicdgpiaa
