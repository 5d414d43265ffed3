/-
  DfaFlat: with all states turned to accept what they did not a machine takes just what it did not
-/
import Derived.Test.YtepgijgmnijdpaaDoorAmX
import Derived.Test.YtepgijgmnijdpaaDoorAmView
namespace Go.Am
open Go
variable {P : Program} {GL : List Nat} {B : Bd}
theorem xrun_of {SP : Specs} {n : Nat} {f : FuncId} {fn : Func} {c : Code} {args : List Value} {M : Mem} {F : List Fact} {ids : List Nat} {doors : Nat → Door} {e : AExit} {v : Value} {l : List QV} {α : Type} {look : Mem → α} {x : α}
    (hf : P.funcs[f]? = some fn) (hb : fn.body = some c) (hl : Nat.ble args.length fn.ntmps = true)
    (h : (xexec P GL SP n c ⟨initT args 0 .nil, fn.ntmps, M⟩ F 0).map (fun r => (r.1.1, look r.1.2.M, aresults P fn r.1.2, r.2.2.2.map (view doors ids))) = some (e, x, some v, l))
    (he : e = .normal ∨ e = .ret) (hq : ∀ p ∈ l, p.holds P SP doors ids) : ∃ M', arun P GL SP n f args M = some (v, M') ∧ look M' = x := by
  cases hx : xexec P GL SP n c ⟨initT args 0 .nil, fn.ntmps, M⟩ F 0 with
  | none => rw [hx] at h; cases h
  | some r =>
    obtain ⟨⟨e1, s1⟩, F1, c1, q1⟩ := r
    rw [hx] at h
    simp only [Option.map_some, Option.some.injEq, Prod.mk.injEq] at h
    obtain ⟨rfl, h2, h3, h4⟩ := h
    have hx' := xexec_sound n c _ F F1 0 c1 e1 s1 q1 hx (views_hold h4 hq)
    refine ⟨s1.M, ?_, h2⟩
    unfold arun aenter
    simp only [hf, hb, hl, cond_true, hx']
    rcases he with rfl | rfl <;> simp only [h3]
end Go.Am
