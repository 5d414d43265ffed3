/-
  RegexDeep: thirty brackets in one another are read, one more is refused at its place; whatever the argument. Conditions: none beyond the card's own.
-/
import Derived.Test.YtlgkpnlppgihcaaDoorRB4
import Derived.Test.YtlgkpnlppgihcaaDoorAmFast
import Derived.Test.YtlgkpnlppgihcaaDoorRQ5
import Derived.Test.YtlgkpnlppgihcaaDoorGRT1
open Go Go.Am Go.Proofs
namespace Go.Proofs.YtlgkpnlppgihcaaDoor.regexDeep
set_option maxRecDepth 100000

noncomputable def BL : Code := Tryd.f8.body.get!
theorem bodyL : Tryd.f8.body = some BL := by kernel_rfl
noncomputable def SPL : Specs := specs [(13, ansNone (.bool true)), (23, gMod), (21, Go.Am.qrun Tryd.prog [] SPT qts5 2000 21)]
theorem specsL (B : Nat) : SpecsOk Tryd.prog [] B SPL := specs_ok fun p hp => by
  simp only [List.mem_cons, List.not_mem_nil, or_false] at hp
  rcases hp with rfl | rfl | rfl
  · exact okKnown B
  · exact okMod B
  · exact SpecOk.qrun noNumP mixedP qok5 (fun _ => rfl) specsT 2000 21
noncomputable def runL (x0 : Int)  (F : List Fact) :=
  (xexec Tryd.prog [] SPL 2000 BL ⟨initT [i64 x0] 0 .nil, Tryd.f8.ntmps, startMem [] 0⟩ F 0).map (fun r => (r.1.1, (), aresults Tryd.prog Tryd.f8 r.1.2, r.2.2.2.map (view noDoors [])))
end Go.Proofs.YtlgkpnlppgihcaaDoor.regexDeep
