/-
  Package hier: each of its laws for every argument; no conditions. The last text states which.
-/
import Derived.Test.YtdaglldahidmbaaGreatGAmTn
import Derived.Test.YtdaglldahidmbaaGreatGAmMk
set_option linter.unusedVariables false
set_option linter.unusedSimpArgs false
noncomputable section
namespace Go.Am
open Go
set_option linter.unusedVariables false
end Go.Am
end

noncomputable section
namespace Go.Am
open Go
set_option linter.unusedVariables false
theorem Sr{es:List E4}{i:Int}{e:E4}(h:es[i.toNat]?=some e):gI es i=e.c:=by unfold gI;rw[h];rfl
end Go.Am
end

noncomputable section
namespace Go.Am
open Go
set_option linter.unusedVariables false
end Go.Am
end

noncomputable section
namespace Go.Am
open Go
set_option linter.unusedVariables false
end Go.Am
end

noncomputable section
namespace Go.Am
open Go
set_option linter.unusedVariables false
section
variable{el:TypeId}{w n:Nat}{M0 M M':aB}{bad:List Nat}{cs:List Value}{S:Value}
theorem cM.form(h:cM el w M0 bad n cs S M):∃a:Option Addr,S= .slice a n n/\(a.isNone=true->n=0/\n=0):=by
 rcases h with⟨rfl,rfl,_⟩|⟨b,rfl,_⟩
 ·exact⟨none,rfl,fun _=>⟨rfl,rfl⟩⟩
 ·exact⟨some ⟨b,0,none⟩,rfl,fun h=>by cases h⟩
end
end Go.Am
end
