/-
  RegexLong: two hundred letters are read, or refused at the last one, more are refused; whatever the arguments. Conditions: none beyond the card's own.
-/
import Derived.Test.YtlgkpnlppgihcaaDoorGRLR0
open Go Go.Am Go.Proofs
namespace Go.Proofs.YtlgkpnlppgihcaaDoor.regexLong
set_option maxRecDepth 100000
theorem runL_false_0 (x0 : Int) : runL x0 false [got 10 (i64 ((0 : Nat) : Int))] = some (.ret, (), some (.bool true), [.cr 23 [i64 x0, i64 20] [] (.val (i64 ((0 : Nat) : Int)))]) := by kernel_rfl
theorem runL_false_1 (x0 : Int) : runL x0 false [got 10 (i64 ((1 : Nat) : Int))] = some (.ret, (), some (.bool true), [.cr 23 [i64 x0, i64 20] [] (.val (i64 ((1 : Nat) : Int)))]) := by kernel_rfl
theorem runL_false_2 (x0 : Int) : runL x0 false [got 10 (i64 ((2 : Nat) : Int))] = some (.ret, (), some (.bool true), [.cr 23 [i64 x0, i64 20] [] (.val (i64 ((2 : Nat) : Int)))]) := by kernel_rfl
theorem runL_false_3 (x0 : Int) : runL x0 false [got 10 (i64 ((3 : Nat) : Int))] = some (.ret, (), some (.bool true), [.cr 23 [i64 x0, i64 20] [] (.val (i64 ((3 : Nat) : Int)))]) := by kernel_rfl
theorem runL_false_4 (x0 : Int) : runL x0 false [got 10 (i64 ((4 : Nat) : Int))] = some (.ret, (), some (.bool true), [.cr 23 [i64 x0, i64 20] [] (.val (i64 ((4 : Nat) : Int)))]) := by kernel_rfl
end Go.Proofs.YtlgkpnlppgihcaaDoor.regexLong
