/-
  What is proved: ProductKnown: in this network, by these fourteen expressions, it costs just so. For every argument.
-/
import Derived.Test.YtibgnnjicplphaaGPKR0
open Go Go.Am Go.Proofs
namespace Go.Proofs.Ytibgnnjicplphaa.productKnown
set_option maxRecDepth 100000
theorem runL_12 (x0 : Int) : runL x0  [got 46 (i64 ((12 : Nat) : Int))] = some (.ret, (), some (.bool true), [.cr 16 [i64 x0, i64 14] [] (.val (i64 ((12 : Nat) : Int)))]) := by kernel_rfl
theorem runL_13 (x0 : Int) : runL x0  [got 46 (i64 ((13 : Nat) : Int))] = some (.ret, (), some (.bool true), [.cr 16 [i64 x0, i64 14] [] (.val (i64 ((13 : Nat) : Int)))]) := by kernel_rfl
end Go.Proofs.Ytibgnnjicplphaa.productKnown
