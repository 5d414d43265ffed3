/-
  THE ABSTRACT MACHINE, TOLD within calls: what was told, without the memories that it was told in.
-/
import Derived.Test.YtibgnnjicplphaaAmX
import Derived.Test.YtibgnnjicplphaaAmView
namespace Go.Am
open Go

variable {P : Program} {GL : List Nat} {B : Bd}

/- One round, told. -/
theorem xround_of {SP : Specs} {n n0 nx K : Nat} {b : Code} {s s2 : St} {F : List Fact} {mv : Moves} {keep L lg ids : List Nat} {doors : Nat → Door} {e : AExit} {st : List (List Value)} {l : List QV}
    (h : (xexec P GL SP n b s F 0).map (fun r => (r.1.1, rebase n0 nx mv keep L lg r.1.2, stills r.1.2.M mv, Nat.ble r.1.2.M.next K, r.2.2.2.map (view doors ids))) = some (e, some s2, st, true, l))
    (hl : ∀ p ∈ l, p.holds P SP doors ids) (hst : ∀ l ∈ st, renL mv l = some l) : ∃ s1, s1.M.next ≤ K ∧ aexec P GL SP n b s = some (e, s1) ∧ View n0 nx mv keep L lg s1 s2 := by
  cases hx : xexec P GL SP n b s F 0 with
  | none => rw [hx] at h; cases h
  | some r =>
    obtain ⟨⟨e1, s1⟩, F1, c1, q1⟩ := r
    rw [hx] at h
    simp only [Option.map_some, Option.some.injEq, Prod.mk.injEq] at h
    obtain ⟨rfl, h2, h3, h4, h5⟩ := h
    exact ⟨s1, Nat.le_of_ble_eq_true h4, xexec_sound n b s F F1 0 c1 e1 s1 q1 hx (views_hold h5 hl), h2, by rw [h3]; exact hst⟩

/- A whole function, told. -/
theorem xrun_of {SP : Specs} {n : Nat} {f : FuncId} {fn : Func} {c : Code} {args : List Value} {M : Mem} {F : List Fact} {ids : List Nat} {doors : Nat → Door} {e : AExit} {v : Value} {l : List QV} {α : Type} {look : Mem → α} {x : α}
    (hf : P.funcs[f]? = some fn) (hb : fn.body = some c) (hl : Nat.ble args.length fn.ntmps = true)
    (h : (xexec P GL SP n c ⟨initT args 0 .nil, fn.ntmps, M⟩ F 0).map (fun r => (r.1.1, look r.1.2.M, aresults P fn r.1.2, r.2.2.2.map (view doors ids))) = some (e, x, some v, l))
    (he : e = .normal ∨ e = .ret) (hq : ∀ p ∈ l, p.holds P SP doors ids) : ∃ M', arun P GL SP n f args M = some (v, M') ∧ look M' = x := by
  cases hx : xexec P GL SP n c ⟨initT args 0 .nil, fn.ntmps, M⟩ F 0 with
  | none => rw [hx] at h; cases h
  | some r =>
    obtain ⟨⟨e1, s1⟩, F1, c1, q1⟩ := r
    rw [hx] at h
    simp only [Option.map_some, Option.some.injEq, Prod.mk.injEq] at h
    obtain ⟨rfl, h2, h3, h4⟩ := h
    have hx' := xexec_sound n c _ F F1 0 c1 e1 s1 q1 hx (views_hold h4 hq)
    refine ⟨s1.M, ?_, h2⟩
    unfold arun aenter
    simp only [hf, hb, hl, cond_true, hx']
    rcases he with rfl | rfl <;> simp only [h3]

end Go.Am
