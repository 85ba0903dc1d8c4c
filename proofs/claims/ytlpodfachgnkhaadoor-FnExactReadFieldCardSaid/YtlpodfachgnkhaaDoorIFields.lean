/-
  CONTRACTS OF CHAPTER 7, of the program at ba67aba3.
-/
import Derived.Test.YtlpodfachgnkhaaDoorISets
import Derived.Test.YtlpodfachgnkhaaDoorIFieldTx
import Derived.Test.YtlpodfachgnkhaaDoorIFieldRd
set_option linter.unusedVariables false
namespace Go.Proofs.YtlpodfachgnkhaaDoor
end Go.Proofs.YtlpodfachgnkhaaDoor
