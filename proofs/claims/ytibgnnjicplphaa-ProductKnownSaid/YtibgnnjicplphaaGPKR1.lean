/-
  What is proved: ProductKnown: in this network, by these fourteen expressions, it costs just so. For every argument.
-/
import Derived.Test.YtibgnnjicplphaaGPKR0
open Go Go.Am Go.Proofs
namespace Go.Proofs.Ytibgnnjicplphaa.productKnown
set_option maxRecDepth 100000
theorem runL_0 (x0 : Int) : runL x0  [got 46 (i64 ((0 : Nat) : Int))] = some (.ret, (), some (.bool true), [.cr 16 [i64 x0, i64 14] [] (.val (i64 ((0 : Nat) : Int)))]) := by kernel_rfl
theorem runL_1 (x0 : Int) : runL x0  [got 46 (i64 ((1 : Nat) : Int))] = some (.ret, (), some (.bool true), [.cr 16 [i64 x0, i64 14] [] (.val (i64 ((1 : Nat) : Int)))]) := by kernel_rfl
theorem runL_2 (x0 : Int) : runL x0  [got 46 (i64 ((2 : Nat) : Int))] = some (.ret, (), some (.bool true), [.cr 16 [i64 x0, i64 14] [] (.val (i64 ((2 : Nat) : Int)))]) := by kernel_rfl
end Go.Proofs.Ytibgnnjicplphaa.productKnown
