/-
  Package hier: each of its laws for every argument; no conditions. The last text states which.
-/
import Derived.Test.YtdaglldahidmbaaHLR0
set_option linter.unusedVariables false
set_option linter.unusedSimpArgs false
open Go Go.Am Go.Proofs
namespace Go.Proofs.Ytdaglldahidmbaa.hierLong
set_option maxRecDepth 100000
theorem runL_10 (x0 : Int) : runL x0  [got 10 (i64 ((10 : Nat) : Int))] = some (.ret, (), some (.bool true), [.cr 16 [i64 x0, i64 16] [] (.val (i64 ((10 : Nat) : Int)))]) := by kernel_rfl
theorem runL_11 (x0 : Int) : runL x0  [got 10 (i64 ((11 : Nat) : Int))] = some (.ret, (), some (.bool true), [.cr 16 [i64 x0, i64 16] [] (.val (i64 ((11 : Nat) : Int)))]) := by kernel_rfl
theorem runL_12 (x0 : Int) : runL x0  [got 10 (i64 ((12 : Nat) : Int))] = some (.ret, (), some (.bool true), [.cr 16 [i64 x0, i64 16] [] (.val (i64 ((12 : Nat) : Int)))]) := by kernel_rfl
theorem runL_13 (x0 : Int) : runL x0  [got 10 (i64 ((13 : Nat) : Int))] = some (.ret, (), some (.bool true), [.cr 16 [i64 x0, i64 16] [] (.val (i64 ((13 : Nat) : Int)))]) := by kernel_rfl
theorem runL_14 (x0 : Int) : runL x0  [got 10 (i64 ((14 : Nat) : Int))] = some (.ret, (), some (.bool true), [.cr 16 [i64 x0, i64 16] [] (.val (i64 ((14 : Nat) : Int)))]) := by kernel_rfl
theorem runL_15 (x0 : Int) : runL x0  [got 10 (i64 ((15 : Nat) : Int))] = some (.ret, (), some (.bool true), [.cr 16 [i64 x0, i64 16] [] (.val (i64 ((15 : Nat) : Int)))]) := by kernel_rfl
end Go.Proofs.Ytdaglldahidmbaa.hierLong
