/-
  DfaFlat: with all states turned to accept what they did not a machine takes just what it did not
-/
import Derived.Test.YtepgijgmnijdpaaDoorAmView
namespace Go.Am
open Go
variable {P : Program} {GL : List Nat} {B : Bd}
theorem takeN_all : ∀ {l : List Value} {n : Nat}, l.length = n → takeN n l = some l
  | [], n, h => by subst h; rfl
  | v :: l, n, h => by
    subst h
    simp only [List.length_cons, takeN]
    rw [takeN_all rfl]
theorem takeN_append : ∀ (a b : List Value), takeN a.length (a ++ b) = some a
  | [], b => rfl
  | v :: a, b => by
    simp only [List.length_cons, List.cons_append, takeN]
    rw [takeN_append a b]
end Go.Am
