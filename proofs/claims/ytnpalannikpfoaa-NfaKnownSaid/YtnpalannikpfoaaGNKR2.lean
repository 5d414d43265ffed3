/-
  What is proved: NfaKnown: of these thirteen texts the machines have just so many states, steps, free ones. For every argument.
-/
import Derived.Test.YtnpalannikpfoaaGNKR0
open Go Go.Am Go.Proofs
namespace Go.Proofs.Ytnpalannikpfoaa.nfaKnown
set_option maxRecDepth 100000
theorem runL_5 (x0 : Int) : runL x0  [got 30 (i64 ((5 : Nat) : Int))] = some (.ret, (), some (.bool true), [.cr 25 [i64 x0, i64 13] [] (.val (i64 ((5 : Nat) : Int)))]) := by kernel_rfl
theorem runL_6 (x0 : Int) : runL x0  [got 30 (i64 ((6 : Nat) : Int))] = some (.ret, (), some (.bool true), [.cr 25 [i64 x0, i64 13] [] (.val (i64 ((6 : Nat) : Int)))]) := by kernel_rfl
theorem runL_7 (x0 : Int) : runL x0  [got 30 (i64 ((7 : Nat) : Int))] = some (.ret, (), some (.bool true), [.cr 25 [i64 x0, i64 13] [] (.val (i64 ((7 : Nat) : Int)))]) := by kernel_rfl
theorem runL_8 (x0 : Int) : runL x0  [got 30 (i64 ((8 : Nat) : Int))] = some (.ret, (), some (.bool true), [.cr 25 [i64 x0, i64 13] [] (.val (i64 ((8 : Nat) : Int)))]) := by kernel_rfl
theorem runL_9 (x0 : Int) : runL x0  [got 30 (i64 ((9 : Nat) : Int))] = some (.ret, (), some (.bool true), [.cr 25 [i64 x0, i64 13] [] (.val (i64 ((9 : Nat) : Int)))]) := by kernel_rfl
end Go.Proofs.Ytnpalannikpfoaa.nfaKnown
