/-
  RegexErrs: each of these texts is refused at its place; whatever the argument. Conditions: none beyond the card's own.
-/
import Derived.Test.YtlgkpnlppgihcaaDoorGSER0
open Go Go.Am Go.Proofs
namespace Go.Proofs.YtlgkpnlppgihcaaDoor.regexErrs
set_option maxRecDepth 100000
theorem runL_7 (x0 : Int) : runL x0  [got 22 (i64 ((7 : Nat) : Int))] = some (.ret, (), some (.bool true), [.cr 23 [i64 x0, i64 27] [] (.val (i64 ((7 : Nat) : Int)))]) := by kernel_rfl
theorem runL_8 (x0 : Int) : runL x0  [got 22 (i64 ((8 : Nat) : Int))] = some (.ret, (), some (.bool true), [.cr 23 [i64 x0, i64 27] [] (.val (i64 ((8 : Nat) : Int)))]) := by kernel_rfl
theorem runL_9 (x0 : Int) : runL x0  [got 22 (i64 ((9 : Nat) : Int))] = some (.ret, (), some (.bool true), [.cr 23 [i64 x0, i64 27] [] (.val (i64 ((9 : Nat) : Int)))]) := by kernel_rfl
theorem runL_10 (x0 : Int) : runL x0  [got 22 (i64 ((10 : Nat) : Int))] = some (.ret, (), some (.bool true), [.cr 23 [i64 x0, i64 27] [] (.val (i64 ((10 : Nat) : Int)))]) := by kernel_rfl
theorem runL_11 (x0 : Int) : runL x0  [got 22 (i64 ((11 : Nat) : Int))] = some (.ret, (), some (.bool true), [.cr 23 [i64 x0, i64 27] [] (.val (i64 ((11 : Nat) : Int)))]) := by kernel_rfl
theorem runL_12 (x0 : Int) : runL x0  [got 22 (i64 ((12 : Nat) : Int))] = some (.ret, (), some (.bool true), [.cr 23 [i64 x0, i64 27] [] (.val (i64 ((12 : Nat) : Int)))]) := by kernel_rfl
theorem runL_13 (x0 : Int) : runL x0  [got 22 (i64 ((13 : Nat) : Int))] = some (.ret, (), some (.bool true), [.cr 23 [i64 x0, i64 27] [] (.val (i64 ((13 : Nat) : Int)))]) := by kernel_rfl
end Go.Proofs.YtlgkpnlppgihcaaDoor.regexErrs
