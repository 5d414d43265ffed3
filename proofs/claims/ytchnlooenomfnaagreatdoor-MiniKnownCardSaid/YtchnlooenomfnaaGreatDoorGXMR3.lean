/-
  What is proved: MiniKnown: these sixteen texts' machines have just so many states, and are steady, or not. For every argument; one laid table (math/bits) is tied by the card.
-/
import Derived.Test.YtchnlooenomfnaaGreatDoorXMR0
open Go Go.Am Go.Proofs
namespace Go.Proofs.YtchnlooenomfnaaGreatDoor.miniKnown
set_option maxRecDepth 100000
theorem runL_2 (e : TypeId) (x0 : Int) : runL e x0  [got 26 (i64 ((2 : Nat) : Int))] = some (.ret, (), some (.bool true), [.cr 29 [i64 x0, i64 16] [] (.val (i64 ((2 : Nat) : Int)))]) := by kernel_rfl
end Go.Proofs.YtchnlooenomfnaaGreatDoor.miniKnown

open Go Go.Am Go.Proofs
namespace Go.Proofs.YtchnlooenomfnaaGreatDoor.miniKnown
set_option maxRecDepth 100000
theorem runL_3 (e : TypeId) (x0 : Int) : runL e x0  [got 26 (i64 ((3 : Nat) : Int))] = some (.ret, (), some (.bool true), [.cr 29 [i64 x0, i64 16] [] (.val (i64 ((3 : Nat) : Int)))]) := by kernel_rfl
end Go.Proofs.YtchnlooenomfnaaGreatDoor.miniKnown
