/-
  RegexLong: two hundred letters are read, or refused at the last one, more are refused; whatever the arguments. Conditions: none beyond the card's own.
-/
import Derived.Test.YtlgkpnlppgihcaaDoorGRLR0
open Go Go.Am Go.Proofs
namespace Go.Proofs.YtlgkpnlppgihcaaDoor.regexLong
set_option maxRecDepth 100000
theorem runL_true_5 (x0 : Int) : runL x0 true [got 10 (i64 ((5 : Nat) : Int))] = some (.ret, (), some (.bool true), [.cr 23 [i64 x0, i64 20] [] (.val (i64 ((5 : Nat) : Int)))]) := by kernel_rfl
theorem runL_true_6 (x0 : Int) : runL x0 true [got 10 (i64 ((6 : Nat) : Int))] = some (.ret, (), some (.bool true), [.cr 23 [i64 x0, i64 20] [] (.val (i64 ((6 : Nat) : Int)))]) := by kernel_rfl
theorem runL_true_7 (x0 : Int) : runL x0 true [got 10 (i64 ((7 : Nat) : Int))] = some (.ret, (), some (.bool true), [.cr 23 [i64 x0, i64 20] [] (.val (i64 ((7 : Nat) : Int)))]) := by kernel_rfl
theorem runL_true_8 (x0 : Int) : runL x0 true [got 10 (i64 ((8 : Nat) : Int))] = some (.ret, (), some (.bool true), [.cr 23 [i64 x0, i64 20] [] (.val (i64 ((8 : Nat) : Int)))]) := by kernel_rfl
theorem runL_true_9 (x0 : Int) : runL x0 true [got 10 (i64 ((9 : Nat) : Int))] = some (.ret, (), some (.bool true), [.cr 23 [i64 x0, i64 20] [] (.val (i64 ((9 : Nat) : Int)))]) := by kernel_rfl
end Go.Proofs.YtlgkpnlppgihcaaDoor.regexLong
