/-
  What is proved: ProductKnown: in this network, by these fourteen expressions, it costs just so. For every argument.
-/
import Derived.Test.YtibgnnjicplphaaPB
import Derived.Test.YtibgnnjicplphaaAmFast
import Derived.Test.YtibgnnjicplphaaPQ
import Derived.Test.YtibgnnjicplphaaPM27_a
import Derived.Test.YtibgnnjicplphaaPM27_b
open Go Go.Am Go.Proofs
namespace Go.Proofs.Ytibgnnjicplphaa.productKnown
set_option maxRecDepth 100000

noncomputable def BL : Code := Try.f8.body.get!
theorem bodyL : Try.f8.body = some BL := by kernel_rfl
noncomputable def SPL : Specs := specs [(12, ansNone (.bool true)), (16, gMod), (27, orG (gMemo K27_a) (orG (gMemo K27_b) (Go.Am.qrun Try.prog [] noSpecs qts 100000 27))), (18, Go.Am.qrun Try.prog [] noSpecs qts 100000 18)]
theorem specsL (B : Bd) : SpecsOk Try.prog [] B SPL := specs_ok fun p hp => by
  simp only [List.mem_cons, List.not_mem_nil, or_false] at hp
  rcases hp with rfl | rfl | rfl | rfl
  · exact okKnown B
  · exact okMod B
  · exact SpecOk.orG (ok27_a B) (SpecOk.orG (ok27_b B) (SpecOk.qrun noNumP mixedP qokS (fun _ => rfl) (fun _ => SpecsOk.none) 100000 27))
  · exact SpecOk.qrun noNumP mixedP qokS (fun _ => rfl) (fun _ => SpecsOk.none) 100000 18
noncomputable def runL (x0 : Int)  (F : List Fact) :=
  (xexec Try.prog [] SPL 2000 BL ⟨initT [i64 x0] 0 .nil, Try.f8.ntmps, startMem [] 0⟩ F 0).map (fun r => (r.1.1, (), aresults Try.prog Try.f8 r.1.2, r.2.2.2.map (view noDoors [])))
end Go.Proofs.Ytibgnnjicplphaa.productKnown
