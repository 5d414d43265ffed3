/-
  DfaFlat: with all states turned to accept what they did not a machine takes just what it did not
-/
import Derived.Test.YtepgijgmnijdpaaDoorAmTop
noncomputable section
namespace Go.Am
open Go
variable {P : Program} {GL : List Nat} {B : Bd} {callF : CallF}
def quietOp (o : Oper) : Bool :=
  match o.op with
  | .move _ | .assign _ | .pick _ _ _ | .nilCheck _ | .binOp _ _ _ _ _ | .unOp _ _ _ | .fieldAddr _ _ _ | .field _ _ _ | .indexAddr _ _ _ | .index _ _ _ | .extract _ _ | .load _ _ | .build _ _ | .makeInterface _ _ => true
  | .call c => (match c.callee with | .builtin .len => true | _ => false)
  | _ => false
theorem quiet_aop {o : Oper} {T : Tr Value} {M M' : Mem} {k : Nat} {r : AR} (hq : quietOp o = true) (h : aop P GL callF o T M = some (k, r, M')) : M' = M ∧ k ≤ 1 := by
  obtain ⟨dst, op, type, pos, after, guard⟩ := o
  unfold aop at h
  split at h
  · simp at h
    obtain ⟨rfl, _, rfl⟩ := h
    exact ⟨rfl, by omega⟩
  · rename_i h0
    clear h0
    replace h : aop1 P GL callF { dst := dst, op := op, type := type, pos := pos, after := after, guard := guard } T M = some (k, r, M') := by
      split at h
      · cases h
      · exact h
    cases op <;> simp [quietOp] at hq <;> simp only [aop1] at h <;> try (cases h; done)
    case load t x =>
      split at h <;> try (simp at h; done)
      split at h <;> try (simp at h; done)
      simp at h
      obtain ⟨rfl, _, rfl⟩ := h
      exact ⟨rfl, Nat.le_refl _⟩
    case call c =>
      obtain ⟨callee, args, argTypes⟩ := c
      cases callee with
      | builtin b => cases b <;> simp at hq <;> simp at h
      | value f => simp at hq
      | invoke x n => simp at hq
end Go.Am
end
