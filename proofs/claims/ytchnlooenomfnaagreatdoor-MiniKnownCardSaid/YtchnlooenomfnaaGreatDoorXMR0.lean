/-
  What is proved: MiniKnown: these sixteen texts' machines have just so many states, and are steady, or not. For every argument; one laid table (math/bits) is tied by the card.
-/
import Derived.Test.YtchnlooenomfnaaGreatDoorXT
import Derived.Test.YtchnlooenomfnaaGreatDoorAmFast
open Go Go.Am Go.Proofs
namespace Go.Proofs.YtchnlooenomfnaaGreatDoor.miniKnown
set_option maxRecDepth 100000

noncomputable def BL : Code := Tryz.f9.body.get!
theorem bodyL : Tryz.f9.body = some BL := by kernel_rfl
noncomputable def SPL : Specs := specs [(15, gKn), (29, gMod), (33, Go.Am.qrun Tryz.prog [0] SPK qts 100000 33), (20, Go.Am.qrun Tryz.prog [0] SPK qts 100000 20)]
theorem specsL (B : Bd) : SpecsOk Tryz.prog [0] B SPL := specs_ok fun p hp => by
  simp only [List.mem_cons, List.not_mem_nil, or_false] at hp
  rcases hp with rfl | rfl | rfl | rfl
  · exact okKn B
  · exact (okMod B).gl
  · exact SpecOk.qrun noNumP mixedP qokS (fun _ => rfl) specsK 100000 33
  · exact SpecOk.qrun noNumP mixedP qokS (fun _ => rfl) specsK 100000 20
noncomputable def runL (e : TypeId) (x0 : Int)  (F : List Fact) :=
  (xexec Tryz.prog [0] SPL 2000 BL ⟨initT [i64 x0] 0 .nil, Tryz.f9.ntmps, memT e⟩ F 0).map (fun r => (r.1.1, (), aresults Tryz.prog Tryz.f9 r.1.2, r.2.2.2.map (view noDoors [])))
end Go.Proofs.YtchnlooenomfnaaGreatDoor.miniKnown
