/-
  RegexDeep: thirty brackets in one another are read, one more is refused at its place; whatever the argument. Conditions: none beyond the card's own.
-/
import Derived.Test.YtlgkpnlppgihcaaDoorGSDR0
open Go Go.Am Go.Proofs
namespace Go.Proofs.YtlgkpnlppgihcaaDoor.regexDeep
set_option maxRecDepth 100000
theorem runL_5 (x0 : Int) : runL x0  [got 10 (i64 ((5 : Nat) : Int))] = some (.ret, (), some (.bool true), [.cr 23 [i64 x0, i64 40] [] (.val (i64 ((5 : Nat) : Int)))]) := by kernel_rfl
theorem runL_6 (x0 : Int) : runL x0  [got 10 (i64 ((6 : Nat) : Int))] = some (.ret, (), some (.bool true), [.cr 23 [i64 x0, i64 40] [] (.val (i64 ((6 : Nat) : Int)))]) := by kernel_rfl
theorem runL_7 (x0 : Int) : runL x0  [got 10 (i64 ((7 : Nat) : Int))] = some (.ret, (), some (.bool true), [.cr 23 [i64 x0, i64 40] [] (.val (i64 ((7 : Nat) : Int)))]) := by kernel_rfl
theorem runL_8 (x0 : Int) : runL x0  [got 10 (i64 ((8 : Nat) : Int))] = some (.ret, (), some (.bool true), [.cr 23 [i64 x0, i64 40] [] (.val (i64 ((8 : Nat) : Int)))]) := by kernel_rfl
theorem runL_9 (x0 : Int) : runL x0  [got 10 (i64 ((9 : Nat) : Int))] = some (.ret, (), some (.bool true), [.cr 23 [i64 x0, i64 40] [] (.val (i64 ((9 : Nat) : Int)))]) := by kernel_rfl
end Go.Proofs.YtlgkpnlppgihcaaDoor.regexDeep
