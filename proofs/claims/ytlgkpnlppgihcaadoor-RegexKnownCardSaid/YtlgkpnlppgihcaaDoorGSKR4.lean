/-
  RegexKnown: each of these texts is read as its expression and written anew; whatever the argument. Conditions: none beyond the card's own.
-/
import Derived.Test.YtlgkpnlppgihcaaDoorGSKR0
open Go Go.Am Go.Proofs
namespace Go.Proofs.YtlgkpnlppgihcaaDoor.regexKnown
set_option maxRecDepth 100000
theorem runL_15 (x0 : Int) : runL x0  [got 22 (i64 ((15 : Nat) : Int))] = some (.ret, (), some (.bool true), [.cr 23 [i64 x0, i64 18] [] (.val (i64 ((15 : Nat) : Int)))]) := by kernel_rfl
theorem runL_16 (x0 : Int) : runL x0  [got 22 (i64 ((16 : Nat) : Int))] = some (.ret, (), some (.bool true), [.cr 23 [i64 x0, i64 18] [] (.val (i64 ((16 : Nat) : Int)))]) := by kernel_rfl
theorem runL_17 (x0 : Int) : runL x0  [got 22 (i64 ((17 : Nat) : Int))] = some (.ret, (), some (.bool true), [.cr 23 [i64 x0, i64 18] [] (.val (i64 ((17 : Nat) : Int)))]) := by kernel_rfl
end Go.Proofs.YtlgkpnlppgihcaaDoor.regexKnown
