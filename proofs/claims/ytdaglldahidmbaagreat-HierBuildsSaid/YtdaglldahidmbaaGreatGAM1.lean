/-
  Package hier: each of its laws for every argument; no conditions. The last text states which.
-/
import Derived.Test.YtdaglldahidmbaaGreatGAJ1
import Derived.Test.YtdaglldahidmbaaGreatGAmRk
import Derived.Test.YtdaglldahidmbaaGreatGVB
set_option linter.unusedVariables false
set_option linter.unusedSimpArgs false
open Go Go.Am Go.Proofs
namespace Go.Proofs.YtdaglldahidmbaaGreat
set_option maxRecDepth 100000
end Go.Proofs.YtdaglldahidmbaaGreat
