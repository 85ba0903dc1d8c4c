/-
  A TABLE THAT A ROW LISTS: what the row's list gives a walk.
-/
import Derived.Lib.LaidTab
import Derived.Lay
import Derived.Stop.Joined
import Derived.LaidMore
import Derived.Test.YtlpodfachgnkhaaDoorLib1
set_option linter.unusedVariables false
namespace Go.Proofs.YtlpodfachgnkhaaDoor.Law
open Go Go.ChangeShapes Go.WideShapes Go.ChangeAt Go.RowKit

theorem laid_var {P : Program} {W : World} : ∀ {l : List (String × DataW Unit)} {ps : List MemPlace}, DataW.LaidVars P W l ps → ∀ x ∈ l, ∃ ps', DataW.LaidVars P W [x] ps'
  | [], _, _, x, hx => by simp at hx
  | (n, d) :: r, ps, h, x, hx => by
    obtain ⟨g, t, cs, fuel, p, q, h1, h2, h3, h4, h5, h6⟩ := h
    rcases List.mem_cons.1 hx with rfl | hx
    · exact ⟨_, g, t, cs, fuel, p, [], h1, h2, h3, h4, rfl, rfl⟩
    · exact laid_var h5 x hx
theorem tab_of_laid {P : Program} {W : World} {l : List (String × DataW Unit)} {name : String} {k : IntKind} {zs : List Int} {g : Nat} {t e : TypeId} {n : Nat} (i : Nat)
    (h : laidMet P l W) (hm : l[i]? = some (name, Lib.tabData k zs))
    (hg : P.globalNamed name = some g) (hty : (P.globals[g]?).map (·.type) = some t) (ht : P.underlying t = some (.array n e)) (he : P.underlying e = some (.int k)) (hce : P.cellsOf e = 1) (hct : P.cellsOf t = n) : Lib.TabIs P W name k zs := by
  obtain ⟨ps, hl, _, _⟩ := h
  obtain ⟨ps', g', t', cs, fuel, p, q, hg', ht', hvar, hd, _, _⟩ := laid_var hl _ (List.mem_of_getElem? hm)
  obtain rfl := Option.some.inj (hg.symm.trans hg')
  obtain rfl := Option.some.inj (hty.symm.trans ht')
  unfold Lib.TabIs
  rw [hvar, ← Lib.cells_of_tab ht he hce hct hd]
def tzZ : List Int := List.map (fun n : Nat => (n : Int)) Lib.deBruijn64tab
/-- The table of trailing zeros, of a row that lists it. -/
theorem tz_of_laid {W : World} {l : List (String × DataW Unit)} (i : Nat) (h : laidMet Tryd.prog l W) (hm : l[i]? = some ("math/bits.deBruijn64tab", Lib.tabData .u8 tzZ)) : Tz W := by
  have T := tab_of_laid (t := 73) i h hm (g := 0) (by kernel_rfl) (by kernel_rfl) Tryd.underlying73 Tryd.underlying5 (by kernel_rfl) (by kernel_rfl)
  intro j hj
  have c := T.cell (g := 0) (by kernel_rfl) j (by unfold tzZ; rw [List.length_map]; exact hj)
  rw [c]
  unfold tzZ
  have : (List.map (fun n : Nat => (n : Int)) Lib.deBruijn64tab).getD j 0 = ((Lib.deBruijn64tab.getD j 0 : Nat) : Int) := by
    simp [List.getD, List.getElem?_eq_getElem hj]
  rw [this]
end Go.Proofs.YtlpodfachgnkhaaDoor.Law
