/-
  What is proved: NfaKnown: of these thirteen texts the machines have just so many states, steps, free ones. For every argument.
-/
import Derived.Test.YtnpalannikpfoaaGNKR0
open Go Go.Am Go.Proofs
namespace Go.Proofs.Ytnpalannikpfoaa.nfaKnown
set_option maxRecDepth 100000
theorem runL_10 (x0 : Int) : runL x0  [got 30 (i64 ((10 : Nat) : Int))] = some (.ret, (), some (.bool true), [.cr 25 [i64 x0, i64 13] [] (.val (i64 ((10 : Nat) : Int)))]) := by kernel_rfl
theorem runL_11 (x0 : Int) : runL x0  [got 30 (i64 ((11 : Nat) : Int))] = some (.ret, (), some (.bool true), [.cr 25 [i64 x0, i64 13] [] (.val (i64 ((11 : Nat) : Int)))]) := by kernel_rfl
theorem runL_12 (x0 : Int) : runL x0  [got 30 (i64 ((12 : Nat) : Int))] = some (.ret, (), some (.bool true), [.cr 25 [i64 x0, i64 13] [] (.val (i64 ((12 : Nat) : Int)))]) := by kernel_rfl
end Go.Proofs.Ytnpalannikpfoaa.nfaKnown
