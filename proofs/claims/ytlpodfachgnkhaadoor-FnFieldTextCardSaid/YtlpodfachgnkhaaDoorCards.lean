/-
  DERIVED. GIVEN WITH THE SEED: THE CARDS: each row of YtlpodfachgnkhaaDoorRows.lean that lists a variable, with what it lists TIED to the program's text (the seventh form; the later family's looks); each row that meets fmt, with fmt's text TOLD by the authors' own Lean function (tested against real Go, not proved from fmt's source: count such statements apart). THE CARD IS WHAT COUNTS. Prove the row's statement (the work); the ties are given (YtlpodfachgnkhaaDoorTie.lean); close each card by the builder's one call (the guide's Derived/Test/ToyasCard.lean, 'card_holds'). Laid BY PROGRAM, IN A SANDBOX (cutbox-door.mjs). By AI agents, Wed Nov 11 2026. No macro, syntax, notation, axiom, sorry.
-/
import Derived.Test.YtlpodfachgnkhaaDoorRows
import GoSem.ClaimSeven
namespace Go.Proofs.YtlpodfachgnkhaaDoor
namespace Rows

/-- THE TIED CARD OF 'laws.FnFieldText'. -/
def fnFieldTextCard : Claim7 := { stood := { row := fnFieldTextRow, standIns := [], harness := (true, "476b0669dd17dbf62fb6ee526884cace452d9cd8c39749fe6318d07159a4e7de"), looks := false }, kinds := [], alts := [], laidByText := true, laidKinds := [.data, .data, .data, .data, .pinned], laidTests := true, laidLooks := .later }
def FnFieldTextCardSaid : Prop := Claim7.holds Tryd.pinned (.plain (OpenSpec.ofChange fnFieldTextSpec)) fnFieldTextCard

/-- THE TIED CARD OF 'laws.FnReadField'. -/
def fnReadFieldCard : Claim7 := { stood := { row := fnReadFieldRow, standIns := [], harness := (true, "476b0669dd17dbf62fb6ee526884cace452d9cd8c39749fe6318d07159a4e7de"), looks := false }, kinds := [], alts := [], laidByText := true, laidKinds := [.data, .data, .data, .data, .pinned], laidTests := true, laidLooks := .later }
def FnReadFieldCardSaid : Prop := Claim7.holds Tryd.pinned (.plain (OpenSpec.ofChange fnReadFieldSpec)) fnReadFieldCard

/-- THE TIED CARD OF 'laws.FnFieldJoin'. -/
def fnFieldJoinCard : Claim7 := { stood := { row := fnFieldJoinRow, standIns := [], harness := (true, "476b0669dd17dbf62fb6ee526884cace452d9cd8c39749fe6318d07159a4e7de"), looks := false }, kinds := [], alts := [], laidByText := true, laidKinds := [.data, .data, .data, .data, .pinned], laidTests := true, laidLooks := .later }
def FnFieldJoinCardSaid : Prop := Claim7.holds Tryd.pinned (.plain (OpenSpec.ofChange fnFieldJoinSpec)) fnFieldJoinCard

/-- THE TIED CARD OF 'laws.FnExactFieldText'. -/
def fnExactFieldTextCard : Claim7 := { stood := { row := fnExactFieldTextRow, standIns := [], harness := (true, "476b0669dd17dbf62fb6ee526884cace452d9cd8c39749fe6318d07159a4e7de"), looks := false }, kinds := [], alts := [], laidByText := true, laidKinds := [.data, .data, .data], laidTests := true, laidLooks := .later }
def FnExactFieldTextCardSaid : Prop := Claim7.holds Tryd.pinned (.plain (OpenSpec.ofChange fnExactFieldTextSpec)) fnExactFieldTextCard

/-- THE TIED CARD OF 'laws.FnExactReadField'. -/
def fnExactReadFieldCard : Claim7 := { stood := { row := fnExactReadFieldRow, standIns := [], harness := (true, "476b0669dd17dbf62fb6ee526884cace452d9cd8c39749fe6318d07159a4e7de"), looks := false }, kinds := [], alts := [], laidByText := true, laidKinds := [.data, .pinned], laidTests := true, laidLooks := .later }
def FnExactReadFieldCardSaid : Prop := Claim7.holds Tryd.pinned (.plain (OpenSpec.ofChange fnExactReadFieldSpec)) fnExactReadFieldCard

/-- THE SECOND FORM's CARD OF 'laws.FnFieldText'. -/
def fnFieldTextUptoCard : Claim7 := { stood := { row := fnFieldTextUptoRow, standIns := [], harness := (true, "476b0669dd17dbf62fb6ee526884cace452d9cd8c39749fe6318d07159a4e7de"), looks := false }, kinds := [], alts := [], laidByText := true, laidKinds := [.data, .data, .data, .data, .pinned], laidTests := true, laidLooks := .later }
def FnFieldTextUptoCardSaid : Prop := Claim7.holds Tryd.pinned (.plain (OpenSpec.upto fnFieldTextSpec)) fnFieldTextUptoCard

/-- THE SECOND FORM's CARD OF 'laws.FnReadField'. -/
def fnReadFieldUptoCard : Claim7 := { stood := { row := fnReadFieldUptoRow, standIns := [], harness := (true, "476b0669dd17dbf62fb6ee526884cace452d9cd8c39749fe6318d07159a4e7de"), looks := false }, kinds := [], alts := [], laidByText := true, laidKinds := [.data, .data, .data, .data, .pinned], laidTests := true, laidLooks := .later }
def FnReadFieldUptoCardSaid : Prop := Claim7.holds Tryd.pinned (.plain (OpenSpec.upto fnReadFieldSpec)) fnReadFieldUptoCard

/-- THE SECOND FORM's CARD OF 'laws.FnFieldJoin'. -/
def fnFieldJoinUptoCard : Claim7 := { stood := { row := fnFieldJoinUptoRow, standIns := [], harness := (true, "476b0669dd17dbf62fb6ee526884cace452d9cd8c39749fe6318d07159a4e7de"), looks := false }, kinds := [], alts := [], laidByText := true, laidKinds := [.data, .data, .data, .data, .pinned], laidTests := true, laidLooks := .later }
def FnFieldJoinUptoCardSaid : Prop := Claim7.holds Tryd.pinned (.plain (OpenSpec.upto fnFieldJoinSpec)) fnFieldJoinUptoCard

/-- THE SECOND FORM's CARD OF 'laws.FnExactFieldText'. -/
def fnExactFieldTextUptoCard : Claim7 := { stood := { row := fnExactFieldTextUptoRow, standIns := [], harness := (true, "476b0669dd17dbf62fb6ee526884cace452d9cd8c39749fe6318d07159a4e7de"), looks := false }, kinds := [], alts := [], laidByText := true, laidKinds := [.data, .data, .data], laidTests := true, laidLooks := .later }
def FnExactFieldTextUptoCardSaid : Prop := Claim7.holds Tryd.pinned (.plain (OpenSpec.upto fnExactFieldTextSpec)) fnExactFieldTextUptoCard

/-- THE SECOND FORM's CARD OF 'laws.FnExactReadField'. -/
def fnExactReadFieldUptoCard : Claim7 := { stood := { row := fnExactReadFieldUptoRow, standIns := [], harness := (true, "476b0669dd17dbf62fb6ee526884cace452d9cd8c39749fe6318d07159a4e7de"), looks := false }, kinds := [], alts := [], laidByText := true, laidKinds := [.data, .pinned], laidTests := true, laidLooks := .later }
def FnExactReadFieldUptoCardSaid : Prop := Claim7.holds Tryd.pinned (.plain (OpenSpec.upto fnExactReadFieldSpec)) fnExactReadFieldUptoCard
end Rows
end Go.Proofs.YtlpodfachgnkhaaDoor
