/-
  Package hier: each of its laws for every argument; no conditions. The last text states which.
-/
import Derived.Test.YtdaglldahidmbaaHLR0
set_option linter.unusedVariables false
set_option linter.unusedSimpArgs false
open Go Go.Am Go.Proofs
namespace Go.Proofs.Ytdaglldahidmbaa.hierLong
set_option maxRecDepth 100000
theorem runL_0 (x0 : Int) : runL x0  [got 10 (i64 ((0 : Nat) : Int))] = some (.ret, (), some (.bool true), [.cr 16 [i64 x0, i64 16] [] (.val (i64 ((0 : Nat) : Int)))]) := by kernel_rfl
theorem runL_1 (x0 : Int) : runL x0  [got 10 (i64 ((1 : Nat) : Int))] = some (.ret, (), some (.bool true), [.cr 16 [i64 x0, i64 16] [] (.val (i64 ((1 : Nat) : Int)))]) := by kernel_rfl
theorem runL_2 (x0 : Int) : runL x0  [got 10 (i64 ((2 : Nat) : Int))] = some (.ret, (), some (.bool true), [.cr 16 [i64 x0, i64 16] [] (.val (i64 ((2 : Nat) : Int)))]) := by kernel_rfl
theorem runL_3 (x0 : Int) : runL x0  [got 10 (i64 ((3 : Nat) : Int))] = some (.ret, (), some (.bool true), [.cr 16 [i64 x0, i64 16] [] (.val (i64 ((3 : Nat) : Int)))]) := by kernel_rfl
theorem runL_4 (x0 : Int) : runL x0  [got 10 (i64 ((4 : Nat) : Int))] = some (.ret, (), some (.bool true), [.cr 16 [i64 x0, i64 16] [] (.val (i64 ((4 : Nat) : Int)))]) := by kernel_rfl
theorem runL_5 (x0 : Int) : runL x0  [got 10 (i64 ((5 : Nat) : Int))] = some (.ret, (), some (.bool true), [.cr 16 [i64 x0, i64 16] [] (.val (i64 ((5 : Nat) : Int)))]) := by kernel_rfl
theorem runL_6 (x0 : Int) : runL x0  [got 10 (i64 ((6 : Nat) : Int))] = some (.ret, (), some (.bool true), [.cr 16 [i64 x0, i64 16] [] (.val (i64 ((6 : Nat) : Int)))]) := by kernel_rfl
end Go.Proofs.Ytdaglldahidmbaa.hierLong
