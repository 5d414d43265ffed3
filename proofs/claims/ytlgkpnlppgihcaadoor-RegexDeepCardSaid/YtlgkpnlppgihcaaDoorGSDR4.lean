/-
  RegexDeep: thirty brackets in one another are read, one more is refused at its place; whatever the argument. Conditions: none beyond the card's own.
-/
import Derived.Test.YtlgkpnlppgihcaaDoorGSDR0
open Go Go.Am Go.Proofs
namespace Go.Proofs.YtlgkpnlppgihcaaDoor.regexDeep
set_option maxRecDepth 100000
theorem runL_15 (x0 : Int) : runL x0  [got 10 (i64 ((15 : Nat) : Int))] = some (.ret, (), some (.bool true), [.cr 23 [i64 x0, i64 40] [] (.val (i64 ((15 : Nat) : Int)))]) := by kernel_rfl
theorem runL_16 (x0 : Int) : runL x0  [got 10 (i64 ((16 : Nat) : Int))] = some (.ret, (), some (.bool true), [.cr 23 [i64 x0, i64 40] [] (.val (i64 ((16 : Nat) : Int)))]) := by kernel_rfl
theorem runL_17 (x0 : Int) : runL x0  [got 10 (i64 ((17 : Nat) : Int))] = some (.ret, (), some (.bool true), [.cr 23 [i64 x0, i64 40] [] (.val (i64 ((17 : Nat) : Int)))]) := by kernel_rfl
theorem runL_18 (x0 : Int) : runL x0  [got 10 (i64 ((18 : Nat) : Int))] = some (.ret, (), some (.bool true), [.cr 23 [i64 x0, i64 40] [] (.val (i64 ((18 : Nat) : Int)))]) := by kernel_rfl
theorem runL_19 (x0 : Int) : runL x0  [got 10 (i64 ((19 : Nat) : Int))] = some (.ret, (), some (.bool true), [.cr 23 [i64 x0, i64 40] [] (.val (i64 ((19 : Nat) : Int)))]) := by kernel_rfl
end Go.Proofs.YtlgkpnlppgihcaaDoor.regexDeep
