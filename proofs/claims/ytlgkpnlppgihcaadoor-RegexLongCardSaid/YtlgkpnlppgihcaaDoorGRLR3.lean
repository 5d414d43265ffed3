/-
  RegexLong: two hundred letters are read, or refused at the last one, more are refused; whatever the arguments. Conditions: none beyond the card's own.
-/
import Derived.Test.YtlgkpnlppgihcaaDoorGRLR0
open Go Go.Am Go.Proofs
namespace Go.Proofs.YtlgkpnlppgihcaaDoor.regexLong
set_option maxRecDepth 100000
theorem runL_true_10 (x0 : Int) : runL x0 true [got 10 (i64 ((10 : Nat) : Int))] = some (.ret, (), some (.bool true), [.cr 23 [i64 x0, i64 20] [] (.val (i64 ((10 : Nat) : Int)))]) := by kernel_rfl
theorem runL_true_11 (x0 : Int) : runL x0 true [got 10 (i64 ((11 : Nat) : Int))] = some (.ret, (), some (.bool true), [.cr 23 [i64 x0, i64 20] [] (.val (i64 ((11 : Nat) : Int)))]) := by kernel_rfl
theorem runL_true_12 (x0 : Int) : runL x0 true [got 10 (i64 ((12 : Nat) : Int))] = some (.ret, (), some (.bool true), [.cr 23 [i64 x0, i64 20] [] (.val (i64 ((12 : Nat) : Int)))]) := by kernel_rfl
theorem runL_true_13 (x0 : Int) : runL x0 true [got 10 (i64 ((13 : Nat) : Int))] = some (.ret, (), some (.bool true), [.cr 23 [i64 x0, i64 20] [] (.val (i64 ((13 : Nat) : Int)))]) := by kernel_rfl
theorem runL_true_14 (x0 : Int) : runL x0 true [got 10 (i64 ((14 : Nat) : Int))] = some (.ret, (), some (.bool true), [.cr 23 [i64 x0, i64 20] [] (.val (i64 ((14 : Nat) : Int)))]) := by kernel_rfl
end Go.Proofs.YtlgkpnlppgihcaaDoor.regexLong
