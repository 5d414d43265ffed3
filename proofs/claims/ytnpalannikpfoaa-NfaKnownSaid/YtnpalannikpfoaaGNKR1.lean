/-
  What is proved: NfaKnown: of these thirteen texts the machines have just so many states, steps, free ones. For every argument.
-/
import Derived.Test.YtnpalannikpfoaaGNKR0
open Go Go.Am Go.Proofs
namespace Go.Proofs.Ytnpalannikpfoaa.nfaKnown
set_option maxRecDepth 100000
theorem runL_0 (x0 : Int) : runL x0  [got 30 (i64 ((0 : Nat) : Int))] = some (.ret, (), some (.bool true), [.cr 25 [i64 x0, i64 13] [] (.val (i64 ((0 : Nat) : Int)))]) := by kernel_rfl
theorem runL_1 (x0 : Int) : runL x0  [got 30 (i64 ((1 : Nat) : Int))] = some (.ret, (), some (.bool true), [.cr 25 [i64 x0, i64 13] [] (.val (i64 ((1 : Nat) : Int)))]) := by kernel_rfl
theorem runL_2 (x0 : Int) : runL x0  [got 30 (i64 ((2 : Nat) : Int))] = some (.ret, (), some (.bool true), [.cr 25 [i64 x0, i64 13] [] (.val (i64 ((2 : Nat) : Int)))]) := by kernel_rfl
theorem runL_3 (x0 : Int) : runL x0  [got 30 (i64 ((3 : Nat) : Int))] = some (.ret, (), some (.bool true), [.cr 25 [i64 x0, i64 13] [] (.val (i64 ((3 : Nat) : Int)))]) := by kernel_rfl
theorem runL_4 (x0 : Int) : runL x0  [got 30 (i64 ((4 : Nat) : Int))] = some (.ret, (), some (.bool true), [.cr 25 [i64 x0, i64 13] [] (.val (i64 ((4 : Nat) : Int)))]) := by kernel_rfl
end Go.Proofs.Ytnpalannikpfoaa.nfaKnown
