/-
  RegexDeep: thirty brackets in one another are read, one more is refused at its place; whatever the argument. Conditions: none beyond the card's own.
-/
import Derived.Test.YtlgkpnlppgihcaaDoorGSDR0
open Go Go.Am Go.Proofs
namespace Go.Proofs.YtlgkpnlppgihcaaDoor.regexDeep
set_option maxRecDepth 100000
theorem runL_30 (x0 : Int) : runL x0  [got 10 (i64 ((30 : Nat) : Int))] = some (.ret, (), some (.bool true), [.cr 23 [i64 x0, i64 40] [] (.val (i64 ((30 : Nat) : Int)))]) := by kernel_rfl
theorem runL_31 (x0 : Int) : runL x0  [got 10 (i64 ((31 : Nat) : Int))] = some (.ret, (), some (.bool true), [.cr 23 [i64 x0, i64 40] [] (.val (i64 ((31 : Nat) : Int)))]) := by kernel_rfl
theorem runL_32 (x0 : Int) : runL x0  [got 10 (i64 ((32 : Nat) : Int))] = some (.ret, (), some (.bool true), [.cr 23 [i64 x0, i64 40] [] (.val (i64 ((32 : Nat) : Int)))]) := by kernel_rfl
theorem runL_33 (x0 : Int) : runL x0  [got 10 (i64 ((33 : Nat) : Int))] = some (.ret, (), some (.bool true), [.cr 23 [i64 x0, i64 40] [] (.val (i64 ((33 : Nat) : Int)))]) := by kernel_rfl
theorem runL_34 (x0 : Int) : runL x0  [got 10 (i64 ((34 : Nat) : Int))] = some (.ret, (), some (.bool true), [.cr 23 [i64 x0, i64 40] [] (.val (i64 ((34 : Nat) : Int)))]) := by kernel_rfl
end Go.Proofs.YtlgkpnlppgihcaaDoor.regexDeep
