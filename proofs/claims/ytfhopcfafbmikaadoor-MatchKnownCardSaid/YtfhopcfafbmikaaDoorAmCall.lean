/-
  Proved: of these twenty texts and words whether the word is in the text's language, as milestonelaw5.MatchKnown asks it, holds whatever the argument is. Conditions: those of the given row alone (the table math/bits.deBruijn64tab starts as the program's text lays it).
-/
import Derived.Test.YtfhopcfafbmikaaDoorAmStart
import Derived.Test.YtfhopcfafbmikaaDoorAmLoop
noncomputable section
namespace Go.Am
open Go
variable {P : Program} {GL : List Nat} {B : Bd}
theorem calls_start' {φ : Emb} {w : World} {SP : Specs} (hN : noNum P) (hm : P.follows .mixedOrders = true) {n : Nat} {f : FuncId} {args args' : List Value} {v : Value} {M' : Mem} {l : List (Nat × ABlk)} {next : Nat}
    (hS : SpecsOk P GL w.heap.size SP) (hK : Knows1 P GL φ l next w) (h : arun P GL SP n f args (startMem l next) = some (v, M')) (ha : LRel φ args args') :
    Calls P f args'.toArray w fun e w' => ∃ φ' v', e = .returned v' ∧ Kept w w' ∧ w'.tape = w.tape ∧ VRel φ' v v' ∧ Rel P GL w.heap.size φ' M' w' := by
  have hG : Good φ (startMem l next) M' := fun id h1 _ => hK.fresh id h1
  have hc := arun_calls hN hm hS n h hK.rel hG args'.toArray ha
  refine hc.mono fun e w' ⟨L, φ', v', he, hlog, hp, hv'⟩ => ⟨φ', v', he, ⟨hp.fr.os, hp.fr.output, hp.fr.size, fun k hk => ?_⟩, hp.fr.tape, hv', hp.rel⟩
  rcases hp.fr.block k hk with h1 | ⟨h2, _⟩
  · exact h1
  · exact absurd h2.1 (Nat.not_le.2 hk)
end Go.Am
end
