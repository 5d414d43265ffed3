/-
  Package hier: each of its laws for every argument; no conditions. The last text states which.
-/
import Derived.Test.YtdaglldahidmbaaGreatGAM1
import Derived.Test.YtdaglldahidmbaaGreatGAmTn
set_option linter.unusedVariables false
set_option linter.unusedSimpArgs false
open Go Go.Am Go.Proofs
namespace Go.Proofs.YtdaglldahidmbaaGreat
set_option maxRecDepth 100000
def pWk(x:Int×List Int)(nx:Nat)(v:Value)(M:aB):Prop:=∃W,v= .tuple #[i64 x.1,W,.bool true]/\eR aH x.2 nx W M
instance:AQ pWk:=⟨fun hE ⟨W,h1,h2⟩=>⟨W,h1,AQ.ext (R:=eR aH) hE h2⟩⟩
def OwnU(l:List Int)(nx:Nat)(v:Value)(M:aB):Prop:=∃b c,v=aC b 0 l.length c/\(c=l.length\/c=l.length+1)/\nx<=b/\M.get b=some ⟨l.map i64,3,1,0,true⟩
instance:AQ OwnU:=⟨fun hE ⟨b,c,h1,h2,h3,h4⟩=>⟨b,c,h1,h2,h3,hE _ _ h4⟩⟩
end Go.Proofs.YtdaglldahidmbaaGreat
