/-
  What is proved: RegexRight: whether any expression is right is what the document's own reading says, and so is one of which one thing was turned. For every argument; the tables are as the program lays them.
-/
import Derived.Test.YtlgkpnlppgihcaaDoorAmHint
noncomputable section
namespace Go.Am
open Go
variable {P : Program} {GL : List Nat} {callF : CallF} {SP : Specs}
def calleeAny (P : Program) (GL : List Nat) (o : Oper) (T : Tr Value) : Option (FuncId × List Value) :=
  match o.op with
  | .call c => match c.callee with
    | .value f => match ev GL T f, evs GL T c.args.toList with
      | some fv, some args => match target fv with
        | some (g, first, captured) => bif hasBody P g then some (g, first ++ args ++ captured) else none
        | none => none
      | _, _ => none
    | .invoke x name => match ev GL T x, evs GL T c.args.toList with
      | some (.iface t v), some args => match amethod P t name with
        | some g => bif hasBody P g then some (g, v :: args) else none
        | none => none
      | _, _ => none
    | _ => none
  | _ => none
theorem calleeAny_sound {o : Oper} {T : Tr Value} {g : FuncId} {args : List Value} (h : calleeAny P GL o T = some (g, args)) (M : Mem) : aop1 P GL callF o T M = acall callF g args M := by
  obtain ⟨dst, op, type, pos, after, guard⟩ := o
  unfold calleeAny at h
  split at h <;> rename_i hop <;> simp only at hop
  · rename_i c
    subst hop
    obtain ⟨callee, args', argTypes⟩ := c
    simp only at h
    split at h
    · rename_i f
      split at h
      · rename_i fv as hf has
        split at h
        · rename_i g' first captured htg
          cases hb : hasBody P g' <;> simp only [hb, cond_true, cond_false] at h
          · cases h
          · simp only [Option.some.injEq, Prod.mk.injEq] at h
            obtain ⟨rfl, rfl⟩ := h
            simp only [aop1, hf, has, htg, hb, cond_true]
        · cases h
      · cases h
    · rename_i x name
      split at h
      · rename_i t v as hf has
        split at h
        · rename_i g' hg'
          cases hb : hasBody P g' <;> simp only [hb, cond_true, cond_false] at h
          · cases h
          · simp only [Option.some.injEq, Prod.mk.injEq] at h
            obtain ⟨rfl, rfl⟩ := h
            simp only [aop1, hf, has, hg', hb, cond_true]
        · cases h
      · cases h
    · cases h
  · cases h
end Go.Am
end
