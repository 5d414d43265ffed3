/-
  RegexDeep: thirty brackets in one another are read, one more is refused at its place; whatever the argument. Conditions: none beyond the card's own.
-/
import Derived.Test.YtlgkpnlppgihcaaDoorGSDR0
open Go Go.Am Go.Proofs
namespace Go.Proofs.YtlgkpnlppgihcaaDoor.regexDeep
set_option maxRecDepth 100000
theorem runL_20 (x0 : Int) : runL x0  [got 10 (i64 ((20 : Nat) : Int))] = some (.ret, (), some (.bool true), [.cr 23 [i64 x0, i64 40] [] (.val (i64 ((20 : Nat) : Int)))]) := by kernel_rfl
theorem runL_21 (x0 : Int) : runL x0  [got 10 (i64 ((21 : Nat) : Int))] = some (.ret, (), some (.bool true), [.cr 23 [i64 x0, i64 40] [] (.val (i64 ((21 : Nat) : Int)))]) := by kernel_rfl
theorem runL_22 (x0 : Int) : runL x0  [got 10 (i64 ((22 : Nat) : Int))] = some (.ret, (), some (.bool true), [.cr 23 [i64 x0, i64 40] [] (.val (i64 ((22 : Nat) : Int)))]) := by kernel_rfl
theorem runL_23 (x0 : Int) : runL x0  [got 10 (i64 ((23 : Nat) : Int))] = some (.ret, (), some (.bool true), [.cr 23 [i64 x0, i64 40] [] (.val (i64 ((23 : Nat) : Int)))]) := by kernel_rfl
theorem runL_24 (x0 : Int) : runL x0  [got 10 (i64 ((24 : Nat) : Int))] = some (.ret, (), some (.bool true), [.cr 23 [i64 x0, i64 40] [] (.val (i64 ((24 : Nat) : Int)))]) := by kernel_rfl
end Go.Proofs.YtlgkpnlppgihcaaDoor.regexDeep
