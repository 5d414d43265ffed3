/-
  RegexKnown: each of these texts is read as its expression and written anew; whatever the argument. Conditions: none beyond the card's own.
-/
import Derived.Test.YtlgkpnlppgihcaaDoorGSKR0
open Go Go.Am Go.Proofs
namespace Go.Proofs.YtlgkpnlppgihcaaDoor.regexKnown
set_option maxRecDepth 100000
theorem runL_0 (x0 : Int) : runL x0  [got 22 (i64 ((0 : Nat) : Int))] = some (.ret, (), some (.bool true), [.cr 23 [i64 x0, i64 18] [] (.val (i64 ((0 : Nat) : Int)))]) := by kernel_rfl
theorem runL_1 (x0 : Int) : runL x0  [got 22 (i64 ((1 : Nat) : Int))] = some (.ret, (), some (.bool true), [.cr 23 [i64 x0, i64 18] [] (.val (i64 ((1 : Nat) : Int)))]) := by kernel_rfl
theorem runL_2 (x0 : Int) : runL x0  [got 22 (i64 ((2 : Nat) : Int))] = some (.ret, (), some (.bool true), [.cr 23 [i64 x0, i64 18] [] (.val (i64 ((2 : Nat) : Int)))]) := by kernel_rfl
theorem runL_3 (x0 : Int) : runL x0  [got 22 (i64 ((3 : Nat) : Int))] = some (.ret, (), some (.bool true), [.cr 23 [i64 x0, i64 18] [] (.val (i64 ((3 : Nat) : Int)))]) := by kernel_rfl
theorem runL_4 (x0 : Int) : runL x0  [got 22 (i64 ((4 : Nat) : Int))] = some (.ret, (), some (.bool true), [.cr 23 [i64 x0, i64 18] [] (.val (i64 ((4 : Nat) : Int)))]) := by kernel_rfl
end Go.Proofs.YtlgkpnlppgihcaaDoor.regexKnown
