/-
  RegexDeep: thirty brackets in one another are read, one more is refused at its place; whatever the argument. Conditions: none beyond the card's own.
-/
import Derived.Test.YtlgkpnlppgihcaaDoorGSDR0
open Go Go.Am Go.Proofs
namespace Go.Proofs.YtlgkpnlppgihcaaDoor.regexDeep
set_option maxRecDepth 100000
theorem runL_25 (x0 : Int) : runL x0  [got 10 (i64 ((25 : Nat) : Int))] = some (.ret, (), some (.bool true), [.cr 23 [i64 x0, i64 40] [] (.val (i64 ((25 : Nat) : Int)))]) := by kernel_rfl
theorem runL_26 (x0 : Int) : runL x0  [got 10 (i64 ((26 : Nat) : Int))] = some (.ret, (), some (.bool true), [.cr 23 [i64 x0, i64 40] [] (.val (i64 ((26 : Nat) : Int)))]) := by kernel_rfl
theorem runL_27 (x0 : Int) : runL x0  [got 10 (i64 ((27 : Nat) : Int))] = some (.ret, (), some (.bool true), [.cr 23 [i64 x0, i64 40] [] (.val (i64 ((27 : Nat) : Int)))]) := by kernel_rfl
theorem runL_28 (x0 : Int) : runL x0  [got 10 (i64 ((28 : Nat) : Int))] = some (.ret, (), some (.bool true), [.cr 23 [i64 x0, i64 40] [] (.val (i64 ((28 : Nat) : Int)))]) := by kernel_rfl
theorem runL_29 (x0 : Int) : runL x0  [got 10 (i64 ((29 : Nat) : Int))] = some (.ret, (), some (.bool true), [.cr 23 [i64 x0, i64 40] [] (.val (i64 ((29 : Nat) : Int)))]) := by kernel_rfl
end Go.Proofs.YtlgkpnlppgihcaaDoor.regexDeep
