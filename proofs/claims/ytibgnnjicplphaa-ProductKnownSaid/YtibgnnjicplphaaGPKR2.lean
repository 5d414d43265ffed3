/-
  What is proved: ProductKnown: in this network, by these fourteen expressions, it costs just so. For every argument.
-/
import Derived.Test.YtibgnnjicplphaaGPKR0
open Go Go.Am Go.Proofs
namespace Go.Proofs.Ytibgnnjicplphaa.productKnown
set_option maxRecDepth 100000
theorem runL_3 (x0 : Int) : runL x0  [got 46 (i64 ((3 : Nat) : Int))] = some (.ret, (), some (.bool true), [.cr 16 [i64 x0, i64 14] [] (.val (i64 ((3 : Nat) : Int)))]) := by kernel_rfl
theorem runL_4 (x0 : Int) : runL x0  [got 46 (i64 ((4 : Nat) : Int))] = some (.ret, (), some (.bool true), [.cr 16 [i64 x0, i64 14] [] (.val (i64 ((4 : Nat) : Int)))]) := by kernel_rfl
theorem runL_5 (x0 : Int) : runL x0  [got 46 (i64 ((5 : Nat) : Int))] = some (.ret, (), some (.bool true), [.cr 16 [i64 x0, i64 14] [] (.val (i64 ((5 : Nat) : Int)))]) := by kernel_rfl
end Go.Proofs.Ytibgnnjicplphaa.productKnown
