/-
  DfaParts: by one word, and another one, a state comes to where it does by both
-/
import Derived.Test.YtepgijgmnijdpaaDoorAmCall
import Derived.Test.YtepgijgmnijdpaaDoorAmKit
noncomputable section
namespace Go.Am
open Go
variable {P : Program} {GL : List Nat} {B : Bd}
end Go.Am
namespace Go.Am
open Go
end Go.Am
namespace Go.Am
open Go
variable {P : Program} {GL : List Nat} {B : Bd}
end Go.Am
end
