/-
  What is proved: NfaKnown: of these thirteen texts the machines have just so many states, steps, free ones. For every argument.
-/
import Derived.Test.YtnpalannikpfoaaNB
import Derived.Test.YtnpalannikpfoaaAmFast
import Derived.Test.YtnpalannikpfoaaNQ1
open Go Go.Am Go.Proofs
namespace Go.Proofs.Ytnpalannikpfoaa.nfaKnown
set_option maxRecDepth 100000

noncomputable def BL : Code := Try.f9.body.get!
theorem bodyL : Try.f9.body = some BL := by kernel_rfl
noncomputable def SPL : Specs := specs [(12, ansNone (.bool true)), (25, gMod), (30, Go.Am.qrun Try.prog [] noSpecs qts 2000 30), (14, Go.Am.qrun Try.prog [] noSpecs qts 2000 14)]
theorem specsL (B : Nat) : SpecsOk Try.prog [] B SPL := specs_ok fun p hp => by
  simp only [List.mem_cons, List.not_mem_nil, or_false] at hp
  rcases hp with rfl | rfl | rfl | rfl
  · exact okKnown B
  · exact okMod B
  · exact SpecOk.qrun noNumP mixedP qokS (fun _ => rfl) (fun _ => SpecsOk.none) 2000 30
  · exact SpecOk.qrun noNumP mixedP qokS (fun _ => rfl) (fun _ => SpecsOk.none) 2000 14
noncomputable def runL (x0 : Int)  (F : List Fact) :=
  (xexec Try.prog [] SPL 2000 BL ⟨initT [i64 x0] 0 .nil, Try.f9.ntmps, startMem [] 0⟩ F 0).map (fun r => (r.1.1, (), aresults Try.prog Try.f9 r.1.2, r.2.2.2.map (view noDoors [])))
end Go.Proofs.Ytnpalannikpfoaa.nfaKnown
