/-
  DfaChecks: whether any machine is allowed is the document's
-/
import Derived.Test.YtepgijgmnijdpaaDoorAmView
namespace Go.Am
open Go
variable {P : Program} {GL : List Nat} {B : Bd}
theorem takeN_all : ∀ {l : List Value} {n : Nat}, l.length = n → takeN n l = some l
  | [], n, h => by subst h; rfl
  | v :: l, n, h => by
    subst h
    simp only [List.length_cons, takeN]
    rw [takeN_all rfl]
theorem takeN_append : ∀ (a b : List Value), takeN a.length (a ++ b) = some a
  | [], b => rfl
  | v :: a, b => by
    simp only [List.length_cons, List.cons_append, takeN]
    rw [takeN_append a b]
theorem splice_one : ∀ (l : List Value) (n : Nat) (v : Value), n < l.length → splice l n [v] = l.set n v
  | [], n, v, h => absurd h (Nat.not_lt_zero _)
  | c :: l, 0, v, _ => by cases l <;> rfl
  | c :: l, n + 1, v, h => by
    show c :: splice l n [v] = _
    rw [splice_one l n v (by simpa using h)]
    rfl
end Go.Am
