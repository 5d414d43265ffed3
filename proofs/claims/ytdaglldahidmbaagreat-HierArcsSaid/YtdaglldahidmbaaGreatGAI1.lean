/-
  Package hier: each of its laws for every argument; no conditions. The last text states which.
-/
import Derived.Test.YtdaglldahidmbaaGreatGAHL
import Derived.Test.YtdaglldahidmbaaGreatGVG
import Derived.Test.YtdaglldahidmbaaGreatGVB
set_option linter.unusedVariables false
set_option linter.unusedSimpArgs false
open Go Go.Am Go.Proofs Tryz
namespace Go.Proofs.YtdaglldahidmbaaGreat
set_option maxRecDepth 100000
def OwnE(nx:Nat)(l:List E4)(S:Value)(M:aB):Prop:=(S=eW/\l= [])\/ ∃b,S=aC b 0 l.length l.length/\0<l.length/\nx<=b/\M.get b=some ⟨(l.map cD).flatten,46,4,0,true⟩
def pMkO(x:Nat×List E4)(nx:Nat)(v:Value)(M:aB):Prop:= ∃S,v= .agg ⟨[i64 (x.1:Int),S]⟩/\OwnE nx x.2 S M
instance:AQ pMkO:=⟨fun hE ⟨S,h1,h2⟩=>⟨S,h1,h2.imp id fun⟨b,q1,q2,q3,q4⟩=>⟨b,q1,q2,q3,hE _ _ q4⟩⟩⟩
abbrev Q8:=FC as0 (plain pB) (fun _=>true)
theorem con8{x:Unit}{lv:List Value}{M:aB}(hM:aA M)(h:as0 x lv M): ∃v M',kR prog [] 8 Q8 lv M v M':=by
 refine FC.con h ?_
 obtain rfl:=h
 exact⟨_,M,Ev.of_spec Wr rfl,Ext.refl M,rfl⟩
theorem dA(z:Int):(!(z==z))=false:=by rw[beq_self_eq_true];rfl
end Go.Proofs.YtdaglldahidmbaaGreat
