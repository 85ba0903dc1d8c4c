/-
  CONTRACTS OF CHAPTER 7, of the program at ba67aba3.
-/
import Derived.Test.YtlpodfachgnkhaaISets
set_option linter.unusedVariables false
namespace Go.Proofs.Ytlpodfachgnkhaa
end Go.Proofs.Ytlpodfachgnkhaa
