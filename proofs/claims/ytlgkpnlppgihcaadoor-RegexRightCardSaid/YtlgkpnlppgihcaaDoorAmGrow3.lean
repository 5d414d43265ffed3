/-
  What is proved: RegexRight: whether any expression is right is what the document's own reading says, and so is one of which one thing was turned. For every argument; the tables are as the program lays them.
-/
import Derived.Test.YtlgkpnlppgihcaaDoorAmGrow2
noncomputable section
namespace Go.Am
open Go Go.ChangeShapes Go.WideShapes
variable {P : Program} {w : World} {H : Type} {enc : TypeId × Value → H} {S E : TypeId} {k : Nat} {fs : Array Field} {held : Bool}
theorem open_slice (hT : TreeTy P S E k fs) {r : Reach} {base n : Nat} {v : Value} {d : DataW H} {p : List MemPlace} (hval : Value.okWide P w r base S v) (h : DataW.Trod enc P w 0 (fun _ => true) held S v d p) :
    ∃ m bs φ0 l a c rows, Laid P w n m bs φ0 ∧ (∀ φ : Emb, φ0.le φ → VRel φ (.slice a l.length c) v) ∧ l.length ≤ 9223372036854775807 ∧ ∀ M, Has M bs → RowsAt (k + 1) M l rows ∧ SlAt M (.slice a l.length c) l.length rows := by
  obtain ⟨fuel, h⟩ := h
  obtain ⟨u, hu, m, bs, φ0, l, a, c, rows, h1, h2, h3, h4⟩ := slice_out hT fuel n _ _ h
  refine ⟨m, bs, φ0, l, a, c, rows, h1, fun φ hφ => ?_, h3, h4⟩
  have hv : v = u := by
    unfold Value.okWide at hval
    rw [hT.us] at hval
    simp only at hval
    cases v with
    | agg cs =>
      exfalso
      unfold Cell.okWide at hval
      rw [hT.us] at hval
      simp only at hval
      unfold Cell.ok at hval
      rw [hT.us] at hval
      exact hval
    | _ => simp [Value.cells] at hu; exact hu
  rw [hv]
  exact h2 φ hφ
end Go.Am
end
