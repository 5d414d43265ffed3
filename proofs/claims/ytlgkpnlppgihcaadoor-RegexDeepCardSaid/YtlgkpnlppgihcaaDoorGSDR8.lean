/-
  RegexDeep: thirty brackets in one another are read, one more is refused at its place; whatever the argument. Conditions: none beyond the card's own.
-/
import Derived.Test.YtlgkpnlppgihcaaDoorGSDR0
open Go Go.Am Go.Proofs
namespace Go.Proofs.YtlgkpnlppgihcaaDoor.regexDeep
set_option maxRecDepth 100000
theorem runL_35 (x0 : Int) : runL x0  [got 10 (i64 ((35 : Nat) : Int))] = some (.ret, (), some (.bool true), [.cr 23 [i64 x0, i64 40] [] (.val (i64 ((35 : Nat) : Int)))]) := by kernel_rfl
theorem runL_36 (x0 : Int) : runL x0  [got 10 (i64 ((36 : Nat) : Int))] = some (.ret, (), some (.bool true), [.cr 23 [i64 x0, i64 40] [] (.val (i64 ((36 : Nat) : Int)))]) := by kernel_rfl
theorem runL_37 (x0 : Int) : runL x0  [got 10 (i64 ((37 : Nat) : Int))] = some (.ret, (), some (.bool true), [.cr 23 [i64 x0, i64 40] [] (.val (i64 ((37 : Nat) : Int)))]) := by kernel_rfl
theorem runL_38 (x0 : Int) : runL x0  [got 10 (i64 ((38 : Nat) : Int))] = some (.ret, (), some (.bool true), [.cr 23 [i64 x0, i64 40] [] (.val (i64 ((38 : Nat) : Int)))]) := by kernel_rfl
theorem runL_39 (x0 : Int) : runL x0  [got 10 (i64 ((39 : Nat) : Int))] = some (.ret, (), some (.bool true), [.cr 23 [i64 x0, i64 40] [] (.val (i64 ((39 : Nat) : Int)))]) := by kernel_rfl
end Go.Proofs.YtlgkpnlppgihcaaDoor.regexDeep
