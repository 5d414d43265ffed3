/-
  Package adj: each of its laws for every argument; no conditions. The last text states which.
-/
import Derived.Test.YtipnhelkganmdaaUP8
import Derived.Test.YtipnhelkganmdaaGAmLoop
open Go Go.Am Go.Proofs
namespace Go.Proofs.Ytipnhelkganmdaa
set_option maxRecDepth 100000
set_option linter.unusedVariables false
set_option linter.unusedSimpArgs false
theorem knownRun : (Go.Am.arun Try.prog [] noSpecs 300 10 [] zeroMem).map (·.1) = some (.bool true) := by kernel_rfl
theorem okKnown (B : Bd) : SpecOk Try.prog [] B 10 (ansNone (.bool true)) := by
  cases hk : Go.Am.arun Try.prog [] noSpecs 300 10 [] zeroMem with
  | none => have := knownRun; rw [hk] at this; cases this
  | some r =>
    obtain ⟨v, M1⟩ := r
    have := knownRun
    rw [hk] at this
    cases this
    exact SpecOk.ansNone noNumP mixedP (fun B => SpecsOk.none) hk rfl
abbrev Q10 := FC as0 (plain pB) (fun _ => true)
theorem con10 {x : Unit} {lv : List Value} {M : Mem} (hM : MemOk M) (h : as0 x lv M) : ∃ v M', Con Try.prog [] 10 Q10 lv M v M' := by
  refine FC.con h ?_
  obtain rfl := h
  exact ⟨_, M, Ev.of_spec okKnown rfl, Ext.refl M, rfl⟩
end Go.Proofs.Ytipnhelkganmdaa
