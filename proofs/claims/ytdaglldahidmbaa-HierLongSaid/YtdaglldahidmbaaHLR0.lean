/-
  Package hier: each of its laws for every argument; no conditions. The last text states which.
-/
import Derived.Test.YtdaglldahidmbaaGVG
import Derived.Test.YtdaglldahidmbaaGAmTop
import Derived.Test.YtdaglldahidmbaaVQ2
import Derived.Test.YtdaglldahidmbaaVPL2
set_option linter.unusedVariables false
set_option linter.unusedSimpArgs false
open Go Go.Am Go.Proofs
namespace Go.Proofs.Ytdaglldahidmbaa.hierLong
set_option maxRecDepth 100000
noncomputable def BL : Code := Try.f8.body.get!
theorem bodyL : Try.f8.body = some BL := by kernel_rfl
noncomputable def SPL : Specs := specs [(9, ansNone (.bool true)), (16, gMod), (18, Go.Am.qrun Try.prog [] SPN qtsH 100000 18), (13, Go.Am.qrun Try.prog [] SPN qtsH 100000 13)]
theorem specsL (B : Bd) : SpecsOk Try.prog [] B SPL := specs_ok fun p hp => by
  simp only [List.mem_cons, List.not_mem_nil, or_false] at hp
  rcases hp with rfl | rfl | rfl | rfl
  · exact okKnown B
  · exact okMod B
  · exact SpecOk.qrun noNumP mixedP qokH (fun _ => rfl) (fun B => specsN B) 100000 18
  · exact SpecOk.qrun noNumP mixedP qokH (fun _ => rfl) (fun B => specsN B) 100000 13
noncomputable def runL (x0 : Int)  (F : List Fact) :=
  (xexec Try.prog [] SPL 2000 BL ⟨initT [i64 x0] 0 .nil, Try.f8.ntmps, startMem [] 0⟩ F 0).map (fun r => (r.1.1, (), aresults Try.prog Try.f8 r.1.2, r.2.2.2.map (view noDoors [])))
end Go.Proofs.Ytdaglldahidmbaa.hierLong
