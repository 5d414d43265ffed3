/-
  Package hier: each of its laws for every argument; no conditions. The last text states which.
-/
import Derived.Test.YtdaglldahidmbaaHLR0
set_option linter.unusedVariables false
set_option linter.unusedSimpArgs false
open Go Go.Am Go.Proofs
namespace Go.Proofs.Ytdaglldahidmbaa.hierLong
set_option maxRecDepth 100000
theorem runL_8 (x0 : Int) : runL x0  [got 10 (i64 ((8 : Nat) : Int))] = some (.ret, (), some (.bool true), [.cr 16 [i64 x0, i64 16] [] (.val (i64 ((8 : Nat) : Int)))]) := by kernel_rfl
end Go.Proofs.Ytdaglldahidmbaa.hierLong
