/-
  Package hier: each of its laws for every argument; no conditions. The last text states which.
-/
import Derived.Test.YtdaglldahidmbaaGAmMk
import Derived.Test.YtdaglldahidmbaaAmOwn
set_option linter.unusedVariables false
set_option linter.unusedSimpArgs false
noncomputable section
namespace Go.Am
open Go
set_option linter.unusedVariables false
variable{P:Program}
theorem Qf{n:Nat}{M0 M:aA}{bad:List Nat}{cs:List Value}{S:Value}{sT xT:TypeId}{el:TypeId}{l:List E4}{m cx y:Nat}{a:Option Addr}(h:cX el 4 M0 bad n cs S M)(hE:Ext M0 M)(hM:aB M)(hb: ∀x∈bad,x<M.next)(a2:xQ P el=false)(hs:P.underlying sT=some (.slice el))(hx:P.underlying xT=some (.slice el))(he:elemOf P el=some (4,y,true))(hy:y<=1024)
  (hr:aI bJ 4 M (.slice a m cx) l) (a0:0<l.length) (hn:n+l.length<1073741824):
  ∃t S' M1,cU P [sT,xT] S (.slice a m cx) M=some ((bif t then 1 else 2),.val S',M1)/\Ext M0 M1/\aB M1/\cX el 4 M0 bad (n+l.length) (cs++(l.map bJ).flatten) S' M1/\(∀id b,M.get id=some b->id∈bad->M1.get id=some b):=by
 rcases h with⟨rfl,rfl,rfl⟩|⟨b,rfl,h2,h3,h4,h5,h6⟩
 ·obtain⟨v,M1,q1,_,q3,q4,q5⟩:=tH (P:=P) (sT:=sT) (xT:=xT) (elem:=el) (w:=4) (y:=y) hM hs hx he (by decide) hy rfl hr (by omega) (fun r _=>rfl)
  rcases q5 with⟨_,q5⟩|⟨b,q5,q6,q7⟩
  ·rw[q5] at a0;exact absurd a0 (by simp)
  ·refine⟨true,v,M1,q1,hE.trans q3,q4,.inr ⟨b,by rw[q5,Nat.zero_add],by omega,by rw[List.nil_append,Kq];omega,by have:=hE.next;omega,fun hh=>by have:=hb _ hh;omega,by rw[List.nil_append];exact q7⟩,fun id k g _=>q3.old g⟩
 ·obtain⟨t,b',c',M1,q1,q2,q3,q4,q5,q6,q7,q8,q9,_⟩:=Xa (P:=P) (sT:=sT) (xT:=xT) (w:=4) (y:=y) (g:=bJ) (c:=n) hE (.inr ⟨h2,rfl⟩) h3 h4 h6 hM a2 hs hx he (by decide) hy rfl hr hn (fun r _=>rfl)
  have a1:c'=n+l.length:=by
   rcases q6 with⟨z,_⟩|⟨_,z⟩
   ·omega
   ·exact z
  subst a1
  refine⟨t,_,M1,q1,q2,q3,.inr ⟨b',rfl,by omega,q7,q4,fun hh=> ?_,q5⟩,fun id k g hid=>q8 id k g (fun e=>h5 (e▸hid))⟩
  rcases q9 with e|e
  ·exact h5 (e▸hh)
  ·have:=hb _ hh;omega
end Go.Am
end
