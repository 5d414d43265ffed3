/-
  Package hier: each of its laws for every argument; no conditions. The last text states which.
-/
import Derived.Test.YtdaglldahidmbaaGAmPw
import Derived.Test.YtdaglldahidmbaaVW
open Go Go.Am Go.Proofs
namespace Go.Proofs.Ytdaglldahidmbaa
set_option maxRecDepth 100000
set_option linter.unusedVariables false
set_option linter.unusedSimpArgs false
theorem dC3 : (Try.prog.underlying 3).map isAggD = some false := by kernel_rfl
end Go.Proofs.Ytdaglldahidmbaa

open Go Go.Am Go.Proofs
namespace Go.Proofs.Ytdaglldahidmbaa
set_option maxRecDepth 100000
set_option linter.unusedVariables false
set_option linter.unusedSimpArgs false
end Go.Proofs.Ytdaglldahidmbaa

open Go Go.Am Go.Proofs
namespace Go.Proofs.Ytdaglldahidmbaa
set_option maxRecDepth 100000
set_option linter.unusedVariables false
set_option linter.unusedSimpArgs false
def fnV : Tell → Value
  | .to => .func (.func 86) #[] #[]
  | .fr => .func (.func 88) #[] #[]
  | .set => .func (.func 89) #[] #[]
def pFn (k : Tell) (v : Value) (_ : Mem) : Prop := v = fnV k
instance : AP pFn := ⟨fun {x y _ _} h k => by unfold pFn at h k; rw [h] at k; cases x <;> cases y <;> first | rfl | (simp [fnV] at k), fun _ h => h⟩
end Go.Proofs.Ytdaglldahidmbaa
