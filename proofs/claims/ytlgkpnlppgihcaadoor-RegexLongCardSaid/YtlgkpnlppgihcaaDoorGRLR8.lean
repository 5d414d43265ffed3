/-
  RegexLong: two hundred letters are read, or refused at the last one, more are refused; whatever the arguments. Conditions: none beyond the card's own.
-/
import Derived.Test.YtlgkpnlppgihcaaDoorGRLR0
open Go Go.Am Go.Proofs
namespace Go.Proofs.YtlgkpnlppgihcaaDoor.regexLong
set_option maxRecDepth 100000
theorem runL_false_15 (x0 : Int) : runL x0 false [got 10 (i64 ((15 : Nat) : Int))] = some (.ret, (), some (.bool true), [.cr 23 [i64 x0, i64 20] [] (.val (i64 ((15 : Nat) : Int)))]) := by kernel_rfl
theorem runL_false_16 (x0 : Int) : runL x0 false [got 10 (i64 ((16 : Nat) : Int))] = some (.ret, (), some (.bool true), [.cr 23 [i64 x0, i64 20] [] (.val (i64 ((16 : Nat) : Int)))]) := by kernel_rfl
theorem runL_false_17 (x0 : Int) : runL x0 false [got 10 (i64 ((17 : Nat) : Int))] = some (.ret, (), some (.bool true), [.cr 23 [i64 x0, i64 20] [] (.val (i64 ((17 : Nat) : Int)))]) := by kernel_rfl
theorem runL_false_18 (x0 : Int) : runL x0 false [got 10 (i64 ((18 : Nat) : Int))] = some (.ret, (), some (.bool true), [.cr 23 [i64 x0, i64 20] [] (.val (i64 ((18 : Nat) : Int)))]) := by kernel_rfl
theorem runL_false_19 (x0 : Int) : runL x0 false [got 10 (i64 ((19 : Nat) : Int))] = some (.ret, (), some (.bool true), [.cr 23 [i64 x0, i64 20] [] (.val (i64 ((19 : Nat) : Int)))]) := by kernel_rfl
end Go.Proofs.YtlgkpnlppgihcaaDoor.regexLong
