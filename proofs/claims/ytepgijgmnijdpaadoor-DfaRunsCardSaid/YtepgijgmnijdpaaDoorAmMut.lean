/-
  DfaRuns: where any state comes to by any word, whether a word is taken, are the document's
-/
import Derived.Test.YtepgijgmnijdpaaDoorAmCall
import Derived.Test.YtepgijgmnijdpaaDoorAmKit
noncomputable section
namespace Go.Am
open Go
variable {P : Program} {GL : List Nat} {B : Bd}
end Go.Am
namespace Go.Am
open Go
end Go.Am
namespace Go.Am
open Go
variable {P : Program} {GL : List Nat} {B : Bd}
end Go.Am
end
