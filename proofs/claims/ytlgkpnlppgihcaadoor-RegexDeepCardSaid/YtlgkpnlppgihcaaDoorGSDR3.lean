/-
  RegexDeep: thirty brackets in one another are read, one more is refused at its place; whatever the argument. Conditions: none beyond the card's own.
-/
import Derived.Test.YtlgkpnlppgihcaaDoorGSDR0
open Go Go.Am Go.Proofs
namespace Go.Proofs.YtlgkpnlppgihcaaDoor.regexDeep
set_option maxRecDepth 100000
theorem runL_10 (x0 : Int) : runL x0  [got 10 (i64 ((10 : Nat) : Int))] = some (.ret, (), some (.bool true), [.cr 23 [i64 x0, i64 40] [] (.val (i64 ((10 : Nat) : Int)))]) := by kernel_rfl
theorem runL_11 (x0 : Int) : runL x0  [got 10 (i64 ((11 : Nat) : Int))] = some (.ret, (), some (.bool true), [.cr 23 [i64 x0, i64 40] [] (.val (i64 ((11 : Nat) : Int)))]) := by kernel_rfl
theorem runL_12 (x0 : Int) : runL x0  [got 10 (i64 ((12 : Nat) : Int))] = some (.ret, (), some (.bool true), [.cr 23 [i64 x0, i64 40] [] (.val (i64 ((12 : Nat) : Int)))]) := by kernel_rfl
theorem runL_13 (x0 : Int) : runL x0  [got 10 (i64 ((13 : Nat) : Int))] = some (.ret, (), some (.bool true), [.cr 23 [i64 x0, i64 40] [] (.val (i64 ((13 : Nat) : Int)))]) := by kernel_rfl
theorem runL_14 (x0 : Int) : runL x0  [got 10 (i64 ((14 : Nat) : Int))] = some (.ret, (), some (.bool true), [.cr 23 [i64 x0, i64 40] [] (.val (i64 ((14 : Nat) : Int)))]) := by kernel_rfl
end Go.Proofs.YtlgkpnlppgihcaaDoor.regexDeep
