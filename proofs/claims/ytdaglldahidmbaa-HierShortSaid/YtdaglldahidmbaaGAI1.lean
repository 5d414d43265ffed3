/-
  Package hier: each of its laws for every argument; no conditions. The last text states which.
-/
import Derived.Test.YtdaglldahidmbaaGAHL
import Derived.Test.YtdaglldahidmbaaGVG
import Derived.Test.YtdaglldahidmbaaGVB
import Derived.Test.YtdaglldahidmbaaGAmTn
set_option linter.unusedVariables false
set_option linter.unusedSimpArgs false
open Go Go.Am Go.Proofs
namespace Go.Proofs.Ytdaglldahidmbaa
set_option maxRecDepth 100000
def Jh(nx:Nat)(l:List E4)(S:Value)(M:aA):Prop:=(S=eZ/\l= [])\/ ∃b,S=aC b 0 l.length l.length/\0<l.length/\nx<=b/\M.get b=some ⟨(l.map cC).flatten,37,4,0,true⟩
def pMkO(x:Nat×List E4)(nx:Nat)(v:Value)(M:aA):Prop:= ∃S,v= .agg ⟨[i64 (x.1:Int),S]⟩/\Jh nx x.2 S M
instance:AQ pMkO:=⟨fun hE ⟨S,h1,h2⟩=>⟨S,h1,h2.imp id fun⟨b,q1,q2,q3,q4⟩=>⟨b,q1,q2,q3,hE _ _ q4⟩⟩⟩
abbrev Q9:=FC as0 (plain pB) (fun _=>true)
theorem con9{x:Unit}{lv:List Value}{M:aA}(hM:aB M)(h:as0 x lv M): ∃v M',lM Try.prog [] 9 Q9 lv M v M':=by
 refine FC.con h ?_
 obtain rfl:=h
 exact⟨_,M,Ev.of_spec Wf rfl,Ext.refl M,rfl⟩
theorem dE(z:Int):(!(z==z))=false:=by rw[beq_self_eq_true];rfl
theorem Jh.ext{nx:Nat}{l:List E4}{S:Value}{M M':aA}(h:Jh nx l S M)(hE: ∀id b,M.get id=some b->M'.get id=some b):Jh nx l S M':=h.imp id fun⟨b,q1,q2,q3,q4⟩=>⟨b,q1,q2,q3,hE _ _ q4⟩
instance{nx:Nat}:AP (fun(l:List E4) S M=>Jh nx l S M):=⟨fun{x y v M} h k=>by
 rcases h with⟨rfl,rfl⟩|⟨b,rfl,h1,h2,h3⟩
 ·rcases k with⟨_,rfl⟩|⟨b,hb,_⟩
  ·rfl
  ·cases hb
 ·rcases k with⟨hb,_⟩|⟨b',hb,k1,k2,k3⟩
  ·cases hb
  ·simp only [aC,Value.slice.injEq,Option.some.injEq,Addr.mk.injEq,and_true] at hb
   obtain⟨e1,e2,_⟩:=hb
   subst e1
   rw[h3] at k3
   have e3:(x.map cC).flatten=(y.map cC).flatten:=by simpa using k3
   clear h1 h2 h3 k1 k2 k3
   induction x generalizing y with
   |nil=>exact(List.eq_nil_of_length_eq_zero e2.symm).symm
   |cons a x ih=>cases y with
    |nil=>cases e2
    |cons c y=>
     simp only [List.map_cons,List.flatten_cons,cC,List.cons_append,List.nil_append,List.cons.injEq] at e3
     obtain⟨q1,q2,q3,q4,q5⟩:=e3
     rw[ih (by simpa using e2) (by simpa using e2) q5]
     have:cC a=cC c:=by simp [cC,q1,q2,q3,q4]
     rw[Uu.inj (g:=cC) _ _ this],fun hE h=>Jh.ext h hE⟩
instance{nx:Nat}:AP (Jh nx):=(inferInstance:AP (fun(l:List E4) S M=>Jh nx l S M))
end Go.Proofs.Ytdaglldahidmbaa
