/-
  Package hier: each of its laws for every argument; no conditions. The last text states which.
-/
import Derived.Test.YtdaglldahidmbaaGreatGAmPw
import Derived.Test.YtdaglldahidmbaaGreatProg
import Derived.Test.YtdaglldahidmbaaGreatGAmQ
import Derived.KernelRfl
import Derived.Test.YtdaglldahidmbaaGreatGAmLoop
set_option linter.unusedVariables false
set_option linter.unusedSimpArgs false
open Go Go.Am Go.Proofs Tryz
namespace Go.Proofs.YtdaglldahidmbaaGreat
set_option maxRecDepth 100000
theorem aG:dW prog:=by
 have h:prog.funcs.all (fun fn=> !(fn.name== "runtime.NumGoroutine"))=true:=by kernel_rfl
 refine⟨xAd (by kernel_rfl),fun f fn hf=> ?_⟩
 have:=(Array.all_eq_true_iff_forall_mem.1 h) fn (Array.mem_of_getElem? hf)
 simpa using this
theorem aF:prog.follows .mixedOrders=true:=by kernel_rfl
theorem Wh:laidOutB prog=true:=by kernel_rfl
theorem own':ownKnob prog.godebug=none:=by kernel_rfl
theorem gL(B:Bd): ∀p∈([]:List (FuncId×(List Value->aB->Option (Value×aB)))),dG prog [] B p.1 p.2:=fun p hp=>by cases hp
theorem Vi{B:Bd}(f:FuncId){g:List Value->aB->Option (Value×aB)}{l:List (FuncId×(List Value->aB->Option (Value×aB)))}(h:dG prog [] B f g)(t: ∀p∈l,dG prog [] B p.1 p.2): ∀p∈((f,g)::l),dG prog [] B p.1 p.2:=fun p hp=>by
 rcases List.mem_cons.1 hp with rfl|hp
 ·exact h
 ·exact t p hp
theorem gH{B:Bd}(f:FuncId)(Q:List Value->aB->Value->aB->Prop){l:List (FuncId×(List Value->aB->Option (Value×aB)))}(t: ∀p∈l,dG prog [] B p.1 p.2): ∀p∈((f,pick (kR prog [] f Q))::l),dG prog [] B p.1 p.2:=Vi f (kR.ok _) t
theorem lV{B:Bd}{l:List (FuncId×(List Value->aB->Option (Value×aB)))}(h: ∀p∈l,dG prog [] B p.1 p.2):cO prog [] B (tZ l []):=uN h fun p hp=>by cases hp
section
variable{B:Bd}{l:List (FuncId×(List Value->aB->Option (Value×aB)))}{b b':QC}{nt nt':Nat}{F F':List (Nat×Value)}{M M' N N':aB}{e e':cN}{T' U':Tr Value}
theorem wR(h: ∀p∈l,dG prog [] B p.1 p.2)(i:Nat)(hL:bL prog [] b nt (fr F) M e T' M'):cO prog [] B (tZ l [(i,bone (.loop b) nt (F.map (·.1)) (F.map fun p=>some p.2) M (yT i e) T' M')]):=uN h fun p hp=>by
 rcases List.mem_cons.1 hp with rfl|hp
 ·exact wT.loop aG aF hL
 ·cases hp
theorem sb2(h: ∀p∈l,dG prog [] B p.1 p.2)(i:Nat)(hL:bL prog [] b nt (fr F) M e T' M')(j:Nat)(a0:bL prog [] b' nt' (fr F') N e' U' N'):cO prog [] B (tZ l [(i,bone (.loop b) nt (F.map (·.1)) (F.map fun p=>some p.2) M (yT i e) T' M'),(j,bone (.loop b') nt' (F'.map (·.1)) (F'.map fun p=>some p.2) N (yT j e') U' N')]):=uN h fun p hp=>by
 rcases List.mem_cons.1 hp with rfl|hp
 ·exact wT.loop aG aF hL
 rcases List.mem_cons.1 hp with rfl|hp
 ·exact wT.loop aG aF a0
 ·cases hp
end
open Tryz
noncomputable section
theorem eR{P:Program}{f:FuncId}{q:QC}(h:(aE P f).getD QC.skip=q)(hs:(aE P f).isSome=true):aE P f=some q:=by
 cases hb:aE P f with
 |none=>rw[hb] at hs;cases hs
 |some x=>rw[hb] at h;exact congrArg some h
def q5:QC:=(aE prog 5).getD QC.skip
theorem q5_ok:aE prog 5=some q5:=eR rfl (by kernel_rfl)
def q9:QC:=(aE prog 9).getD QC.skip
theorem q9_ok:aE prog 9=some q9:=eR rfl (by kernel_rfl)
def q11:QC:=(aE prog 11).getD QC.skip
theorem aAA:aE prog 11=some q11:=eR rfl (by kernel_rfl)
def q16:QC:=(aE prog 16).getD QC.skip
theorem Uh:aE prog 16=some q16:=eR rfl (by kernel_rfl)
def q17:QC:=(aE prog 17).getD QC.skip
theorem aAB:aE prog 17=some q17:=eR rfl (by kernel_rfl)
def q18:QC:=(aE prog 18).getD QC.skip
theorem aAC:aE prog 18=some q18:=eR rfl (by kernel_rfl)
def q19:QC:=(aE prog 19).getD QC.skip
theorem Oq:aE prog 19=some q19:=eR rfl (by kernel_rfl)
def q20:QC:=(aE prog 20).getD QC.skip
theorem Ui:aE prog 20=some q20:=eR rfl (by kernel_rfl)
def q22:QC:=(aE prog 22).getD QC.skip
theorem Uj:aE prog 22=some q22:=eR rfl (by kernel_rfl)
def q24:QC:=(aE prog 24).getD QC.skip
theorem Jc:aE prog 24=some q24:=eR rfl (by kernel_rfl)
def q25:QC:=(aE prog 25).getD QC.skip
theorem aAD:aE prog 25=some q25:=eR rfl (by kernel_rfl)
def q26:QC:=(aE prog 26).getD QC.skip
theorem aAE:aE prog 26=some q26:=eR rfl (by kernel_rfl)
def q27:QC:=(aE prog 27).getD QC.skip
theorem aAF:aE prog 27=some q27:=eR rfl (by kernel_rfl)
def q28:QC:=(aE prog 28).getD QC.skip
theorem aAG:aE prog 28=some q28:=eR rfl (by kernel_rfl)
def q29:QC:=(aE prog 29).getD QC.skip
theorem aAH:aE prog 29=some q29:=eR rfl (by kernel_rfl)
def q43:QC:=(aE prog 43).getD QC.skip
theorem aAI:aE prog 43=some q43:=eR rfl (by kernel_rfl)
def q44:QC:=(aE prog 44).getD QC.skip
theorem aAJ:aE prog 44=some q44:=eR rfl (by kernel_rfl)
def q45:QC:=(aE prog 45).getD QC.skip
theorem aAK:aE prog 45=some q45:=eR rfl (by kernel_rfl)
def q46:QC:=(aE prog 46).getD QC.skip
theorem Uk:aE prog 46=some q46:=eR rfl (by kernel_rfl)
def q47:QC:=(aE prog 47).getD QC.skip
theorem aAL:aE prog 47=some q47:=eR rfl (by kernel_rfl)
def q48:QC:=(aE prog 48).getD QC.skip
theorem Ul:aE prog 48=some q48:=eR rfl (by kernel_rfl)
def q49:QC:=(aE prog 49).getD QC.skip
theorem Eb:aE prog 49=some q49:=eR rfl (by kernel_rfl)
def q50:QC:=(aE prog 50).getD QC.skip
theorem Um:aE prog 50=some q50:=eR rfl (by kernel_rfl)
def q52:QC:=(aE prog 52).getD QC.skip
theorem Uo:aE prog 52=some q52:=eR rfl (by kernel_rfl)
def q53:QC:=(aE prog 53).getD QC.skip
theorem aAM:aE prog 53=some q53:=eR rfl (by kernel_rfl)
def q54:QC:=(aE prog 54).getD QC.skip
theorem aAN:aE prog 54=some q54:=eR rfl (by kernel_rfl)
def Xf:QC:=(aE prog 55).getD QC.skip
theorem zO:aE prog 55=some Xf:=eR rfl (by kernel_rfl)
def q56:QC:=(aE prog 56).getD QC.skip
theorem aAO:aE prog 56=some q56:=eR rfl (by kernel_rfl)
def q57:QC:=(aE prog 57).getD QC.skip
theorem Up:aE prog 57=some q57:=eR rfl (by kernel_rfl)
def q58:QC:=(aE prog 58).getD QC.skip
theorem aAP:aE prog 58=some q58:=eR rfl (by kernel_rfl)
def q59:QC:=(aE prog 59).getD QC.skip
theorem aAQ:aE prog 59=some q59:=eR rfl (by kernel_rfl)
def q60:QC:=(aE prog 60).getD QC.skip
theorem aAR:aE prog 60=some q60:=eR rfl (by kernel_rfl)
def q61:QC:=(aE prog 61).getD QC.skip
theorem aAS:aE prog 61=some q61:=eR rfl (by kernel_rfl)
def q62:QC:=(aE prog 62).getD QC.skip
theorem Uq:aE prog 62=some q62:=eR rfl (by kernel_rfl)
def q63:QC:=(aE prog 63).getD QC.skip
theorem aAT:aE prog 63=some q63:=eR rfl (by kernel_rfl)
def q64:QC:=(aE prog 64).getD QC.skip
theorem aAU:aE prog 64=some q64:=eR rfl (by kernel_rfl)
def q65:QC:=(aE prog 65).getD QC.skip
theorem aAV:aE prog 65=some q65:=eR rfl (by kernel_rfl)
def q79:QC:=(aE prog 79).getD QC.skip
theorem aAW:aE prog 79=some q79:=eR rfl (by kernel_rfl)
def q80:QC:=(aE prog 80).getD QC.skip
theorem aAX:aE prog 80=some q80:=eR rfl (by kernel_rfl)
def q81:QC:=(aE prog 81).getD QC.skip
theorem Ur:aE prog 81=some q81:=eR rfl (by kernel_rfl)
def q82:QC:=(aE prog 82).getD QC.skip
theorem Us:aE prog 82=some q82:=eR rfl (by kernel_rfl)
def q84:QC:=(aE prog 84).getD QC.skip
theorem aAY:aE prog 84=some q84:=eR rfl (by kernel_rfl)
def q85:QC:=(aE prog 85).getD QC.skip
theorem aAZ:aE prog 85=some q85:=eR rfl (by kernel_rfl)
def q86:QC:=(aE prog 86).getD QC.skip
theorem aA0:aE prog 86=some q86:=eR rfl (by kernel_rfl)
def q87:QC:=(aE prog 87).getD QC.skip
theorem aA1:aE prog 87=some q87:=eR rfl (by kernel_rfl)
def q88:QC:=(aE prog 88).getD QC.skip
theorem aA2:aE prog 88=some q88:=eR rfl (by kernel_rfl)
def q89:QC:=(aE prog 89).getD QC.skip
theorem aA3:aE prog 89=some q89:=eR rfl (by kernel_rfl)
def q90:QC:=(aE prog 90).getD QC.skip
theorem aA4:aE prog 90=some q90:=eR rfl (by kernel_rfl)
def q91:QC:=(aE prog 91).getD QC.skip
theorem aA5:aE prog 91=some q91:=eR rfl (by kernel_rfl)
def q98:QC:=(aE prog 98).getD QC.skip
theorem aA6:aE prog 98=some q98:=eR rfl (by kernel_rfl)
def q99:QC:=(aE prog 99).getD QC.skip
theorem aA7:aE prog 99=some q99:=eR rfl (by kernel_rfl)
def q100:QC:=(aE prog 100).getD QC.skip
theorem Xa:aE prog 100=some q100:=eR rfl (by kernel_rfl)
def q101:QC:=(aE prog 101).getD QC.skip
theorem Xb:aE prog 101=some q101:=eR rfl (by kernel_rfl)
def q102:QC:=(aE prog 102).getD QC.skip
theorem xU:aE prog 102=some q102:=eR rfl (by kernel_rfl)
def q104:QC:=(aE prog 104).getD QC.skip
theorem Xc:aE prog 104=some q104:=eR rfl (by kernel_rfl)
def q105:QC:=(aE prog 105).getD QC.skip
theorem Jb:aE prog 105=some q105:=eR rfl (by kernel_rfl)
def q109:QC:=(aE prog 109).getD QC.skip
theorem Xd:aE prog 109=some q109:=eR rfl (by kernel_rfl)
def q112:QC:=(aE prog 112).getD QC.skip
theorem Xe:aE prog 112=some q112:=eR rfl (by kernel_rfl)
end
open Tryz
theorem rK22:Tryz.f22.results= #[.tmp 4]:=by kernel_rfl
theorem w19_0(x n:Int){M:aB}(hM:aA M)(a1:n≠0)(a0:(decide ((x.tmod n)<(0:Int)))=true): ∃v_ M',Ev prog [] 22 [i64 x,i64 n] M v_ M'/\Ext M M'/\aA M'/\v_=(i64 (IntKind.wrap .i64 ((x.tmod n)+n))):=by
 exact⟨i64 (IntKind.wrap .i64 ((x.tmod n)+n)),M,Ev.told_tmp (tb:=[]) (n:=60) (F:=[aQ 7,aQ 14]) aG aF Tryz.func22 Uj (by kernel_rfl) rK22 (aI prog) (fun _ _=>rfl) (by kernel_rfl) (hq (.q (.nz n) (eD true)) (q_nz a1) (hk (bT a0) hn)),Ext.refl M,hM,rfl⟩
theorem w19_1(x n:Int){M:aB}(hM:aA M)(a1:n≠0)(a0:(decide ((x.tmod n)<(0:Int)))=false): ∃v_ M',Ev prog [] 22 [i64 x,i64 n] M v_ M'/\Ext M M'/\aA M'/\v_=(i64 (x.tmod n)):=by
 exact⟨i64 (x.tmod n),M,Ev.told_tmp (tb:=[]) (n:=60) (F:=[aQ 7,aO 14]) aG aF Tryz.func22 Uj (by kernel_rfl) rK22 (aI prog) (fun _ _=>rfl) (by kernel_rfl) (hq (.q (.nz n) (eD true)) (q_nz a1) (hk (bF a0) hn)),Ext.refl M,hM,rfl⟩
abbrev Xs:=FC (gN (lX pI pI) fun x=>(decide (0<x.2)&&decide (x.2<2^62))=true) (plain pI) (fun x=>aD x.1 x.2)
theorem jV{x:Int×Int}{lv:List Value}{M:aB}(hM:aA M)(h:(gN (lX pI pI) fun x:Int×Int=>(decide (0<x.2)&&decide (x.2<2^62))=true) x lv M): ∃v M',kR prog [] 22 Xs lv M v M':=by
 refine FC.con h ?_
 obtain⟨⟨g0,g1,rfl,rfl,rfl⟩,hc⟩:=h
 obtain⟨x,n⟩:=x
 simp only [Bool.and_eq_true,decide_eq_true_eq] at hc⊢
 by_cases hlt:x.tmod n<0
 ·obtain⟨v,M',h1,h2,_,h3⟩:=w19_0 x n hM (by omega) (xAb hlt)
  exact⟨v,M',h1,h2,h3.trans (congrArg i64 (Ty hc.1 hc.2 hlt))⟩
 ·obtain⟨v,M',h1,h2,_,h3⟩:=w19_1 x n hM (by omega) (xAa hlt)
  exact⟨v,M',h1,h2,h3.trans (congrArg i64 (Tz hlt))⟩
end Go.Proofs.YtdaglldahidmbaaGreat
