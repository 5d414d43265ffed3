/-
  Package hier: each of its laws for every argument; no conditions. The last text states which.
-/
import Derived.Test.YtdaglldahidmbaaGAmPw
import Derived.Test.YtdaglldahidmbaaProg
import Derived.Test.YtdaglldahidmbaaGAmQ
import Derived.KernelRfl
import Derived.Test.YtdaglldahidmbaaGAmLoop
set_option linter.unusedVariables false
set_option linter.unusedSimpArgs false
open Go Go.Am Go.Proofs
namespace Go.Proofs.Ytdaglldahidmbaa
set_option maxRecDepth 100000
theorem aF:eD Try.prog:=by
 have h:Try.prog.funcs.all (fun fn=> !(fn.name== "runtime.NumGoroutine"))=true:=by kernel_rfl
 refine⟨Nat.le_of_ble_eq_true (by kernel_rfl),fun f fn hf=> ?_⟩
 have:=(Array.all_eq_true_iff_forall_mem.1 h) fn (Array.mem_of_getElem? hf)
 simpa using this
theorem aE:Try.prog.follows .mixedOrders=true:=by kernel_rfl
theorem Wm:laidOutB Try.prog=true:=by kernel_rfl
theorem own':ownKnob Try.prog.godebug=none:=by kernel_rfl
theorem iE(B:Bd): ∀p∈([]:List (FuncId×(List Value->aA->Option (Value×aA)))),dF Try.prog [] B p.1 p.2:=fun p hp=>by cases hp
theorem Vn{B:Bd}(f:FuncId){g:List Value->aA->Option (Value×aA)}{l:List (FuncId×(List Value->aA->Option (Value×aA)))}(h:dF Try.prog [] B f g)(t: ∀p∈l,dF Try.prog [] B p.1 p.2): ∀p∈((f,g)::l),dF Try.prog [] B p.1 p.2:=fun p hp=>by
 rcases List.mem_cons.1 hp with rfl|hp
 ·exact h
 ·exact t p hp
theorem hQ{B:Bd}(f:FuncId)(Q:List Value->aA->Value->aA->Prop){l:List (FuncId×(List Value->aA->Option (Value×aA)))}(t: ∀p∈l,dF Try.prog [] B p.1 p.2): ∀p∈((f,pick (lX Try.prog [] f Q))::l),dF Try.prog [] B p.1 p.2:=Vn f (lX.ok _) t
theorem lW{B:Bd}{l:List (FuncId×(List Value->aA->Option (Value×aA)))}(h: ∀p∈l,dF Try.prog [] B p.1 p.2):cR Try.prog [] B (uD l []):=rM h fun p hp=>by cases hp
section
variable{B:Bd}{l:List (FuncId×(List Value->aA->Option (Value×aA)))}{b b':QC}{nt nt':Nat}{F F':List (Nat×Value)}{M M' N N':aA}{e e':cQ}{T' U':Tr Value}
theorem Bm(h: ∀p∈l,dF Try.prog [] B p.1 p.2)(i:Nat)(hL:bN Try.prog [] b nt (fr F) M e T' M'):cR Try.prog [] B (uD l [(i,bone (.loop b) nt (F.map (·.1)) (F.map fun p=>some p.2) M (yX i e) T' M')]):=rM h fun p hp=>by
 rcases List.mem_cons.1 hp with rfl|hp
 ·exact sO.loop aF aE hL
 ·cases hp
theorem sb2(h: ∀p∈l,dF Try.prog [] B p.1 p.2)(i:Nat)(hL:bN Try.prog [] b nt (fr F) M e T' M')(j:Nat)(a0:bN Try.prog [] b' nt' (fr F') N e' U' N'):cR Try.prog [] B (uD l [(i,bone (.loop b) nt (F.map (·.1)) (F.map fun p=>some p.2) M (yX i e) T' M'),(j,bone (.loop b') nt' (F'.map (·.1)) (F'.map fun p=>some p.2) N (yX j e') U' N')]):=rM h fun p hp=>by
 rcases List.mem_cons.1 hp with rfl|hp
 ·exact sO.loop aF aE hL
 rcases List.mem_cons.1 hp with rfl|hp
 ·exact sO.loop aF aE a0
 ·cases hp
end
noncomputable section
theorem fJ{P:Program}{f:FuncId}{q:QC}(h:(aG P f).getD QC.skip=q)(hs:(aG P f).isSome=true):aG P f=some q:=by
 cases hb:aG P f with
 |none=>rw[hb] at hs;cases hs
 |some x=>rw[hb] at h;exact congrArg some h
def q10:QC:=(aG Try.prog 10).getD QC.skip
theorem aAy:aG Try.prog 10=some q10:=fJ rfl (by kernel_rfl)
def q11:QC:=(aG Try.prog 11).getD QC.skip
theorem aAz:aG Try.prog 11=some q11:=fJ rfl (by kernel_rfl)
def q19:QC:=(aG Try.prog 19).getD QC.skip
theorem Uk:aG Try.prog 19=some q19:=fJ rfl (by kernel_rfl)
def q20:QC:=(aG Try.prog 20).getD QC.skip
theorem Jc:aG Try.prog 20=some q20:=fJ rfl (by kernel_rfl)
def Vm:QC:=(aG Try.prog 21).getD QC.skip
theorem aAA:aG Try.prog 21=some Vm:=fJ rfl (by kernel_rfl)
def q22:QC:=(aG Try.prog 22).getD QC.skip
theorem aAB:aG Try.prog 22=some q22:=fJ rfl (by kernel_rfl)
def q23:QC:=(aG Try.prog 23).getD QC.skip
theorem aAC:aG Try.prog 23=some q23:=fJ rfl (by kernel_rfl)
def q24:QC:=(aG Try.prog 24).getD QC.skip
theorem aAD:aG Try.prog 24=some q24:=fJ rfl (by kernel_rfl)
def q25:QC:=(aG Try.prog 25).getD QC.skip
theorem aAE:aG Try.prog 25=some q25:=fJ rfl (by kernel_rfl)
def q41:QC:=(aG Try.prog 41).getD QC.skip
theorem Um:aG Try.prog 41=some q41:=fJ rfl (by kernel_rfl)
def q42:QC:=(aG Try.prog 42).getD QC.skip
theorem Ef:aG Try.prog 42=some q42:=fJ rfl (by kernel_rfl)
def q43:QC:=(aG Try.prog 43).getD QC.skip
theorem Uo:aG Try.prog 43=some q43:=fJ rfl (by kernel_rfl)
def q45:QC:=(aG Try.prog 45).getD QC.skip
theorem Up:aG Try.prog 45=some q45:=fJ rfl (by kernel_rfl)
def q46:QC:=(aG Try.prog 46).getD QC.skip
theorem aAI:aG Try.prog 46=some q46:=fJ rfl (by kernel_rfl)
def q47:QC:=(aG Try.prog 47).getD QC.skip
theorem aAJ:aG Try.prog 47=some q47:=fJ rfl (by kernel_rfl)
def Xg:QC:=(aG Try.prog 48).getD QC.skip
theorem zQ:aG Try.prog 48=some Xg:=fJ rfl (by kernel_rfl)
def q49:QC:=(aG Try.prog 49).getD QC.skip
theorem aAK:aG Try.prog 49=some q49:=fJ rfl (by kernel_rfl)
def q50:QC:=(aG Try.prog 50).getD QC.skip
theorem Uq:aG Try.prog 50=some q50:=fJ rfl (by kernel_rfl)
def q51:QC:=(aG Try.prog 51).getD QC.skip
theorem aAL:aG Try.prog 51=some q51:=fJ rfl (by kernel_rfl)
def q52:QC:=(aG Try.prog 52).getD QC.skip
theorem aAM:aG Try.prog 52=some q52:=fJ rfl (by kernel_rfl)
def q53:QC:=(aG Try.prog 53).getD QC.skip
theorem aAN:aG Try.prog 53=some q53:=fJ rfl (by kernel_rfl)
def q54:QC:=(aG Try.prog 54).getD QC.skip
theorem aAO:aG Try.prog 54=some q54:=fJ rfl (by kernel_rfl)
def q55:QC:=(aG Try.prog 55).getD QC.skip
theorem Ur:aG Try.prog 55=some q55:=fJ rfl (by kernel_rfl)
def q56:QC:=(aG Try.prog 56).getD QC.skip
theorem aAP:aG Try.prog 56=some q56:=fJ rfl (by kernel_rfl)
def q57:QC:=(aG Try.prog 57).getD QC.skip
theorem aAQ:aG Try.prog 57=some q57:=fJ rfl (by kernel_rfl)
def q58:QC:=(aG Try.prog 58).getD QC.skip
theorem aAR:aG Try.prog 58=some q58:=fJ rfl (by kernel_rfl)
def q70:QC:=(aG Try.prog 70).getD QC.skip
theorem Ut:aG Try.prog 70=some q70:=fJ rfl (by kernel_rfl)
def q72:QC:=(aG Try.prog 72).getD QC.skip
theorem aAU:aG Try.prog 72=some q72:=fJ rfl (by kernel_rfl)
def q73:QC:=(aG Try.prog 73).getD QC.skip
theorem aAV:aG Try.prog 73=some q73:=fJ rfl (by kernel_rfl)
def q74:QC:=(aG Try.prog 74).getD QC.skip
theorem aAW:aG Try.prog 74=some q74:=fJ rfl (by kernel_rfl)
def q75:QC:=(aG Try.prog 75).getD QC.skip
theorem aAX:aG Try.prog 75=some q75:=fJ rfl (by kernel_rfl)
def q76:QC:=(aG Try.prog 76).getD QC.skip
theorem aAY:aG Try.prog 76=some q76:=fJ rfl (by kernel_rfl)
def q77:QC:=(aG Try.prog 77).getD QC.skip
theorem aAZ:aG Try.prog 77=some q77:=fJ rfl (by kernel_rfl)
def q78:QC:=(aG Try.prog 78).getD QC.skip
theorem aA0:aG Try.prog 78=some q78:=fJ rfl (by kernel_rfl)
def q79:QC:=(aG Try.prog 79).getD QC.skip
theorem aA1:aG Try.prog 79=some q79:=fJ rfl (by kernel_rfl)
def q85:QC:=(aG Try.prog 85).getD QC.skip
theorem aA2:aG Try.prog 85=some q85:=fJ rfl (by kernel_rfl)
def q86:QC:=(aG Try.prog 86).getD QC.skip
theorem aA3:aG Try.prog 86=some q86:=fJ rfl (by kernel_rfl)
def q87:QC:=(aG Try.prog 87).getD QC.skip
theorem aA4:aG Try.prog 87=some q87:=fJ rfl (by kernel_rfl)
def q88:QC:=(aG Try.prog 88).getD QC.skip
theorem aA5:aG Try.prog 88=some q88:=fJ rfl (by kernel_rfl)
def q89:QC:=(aG Try.prog 89).getD QC.skip
theorem Eg:aG Try.prog 89=some q89:=fJ rfl (by kernel_rfl)
def q91:QC:=(aG Try.prog 91).getD QC.skip
theorem aA6:aG Try.prog 91=some q91:=fJ rfl (by kernel_rfl)
def q92:QC:=(aG Try.prog 92).getD QC.skip
theorem Ox:aG Try.prog 92=some q92:=fJ rfl (by kernel_rfl)
def q96:QC:=(aG Try.prog 96).getD QC.skip
theorem aA7:aG Try.prog 96=some q96:=fJ rfl (by kernel_rfl)
def q99:QC:=(aG Try.prog 99).getD QC.skip
theorem aA8:aG Try.prog 99=some q99:=fJ rfl (by kernel_rfl)
end
noncomputable section
def q6:QC:=(aG Try.prog 6).getD QC.skip
theorem q6_ok:aG Try.prog 6=some q6:=fJ rfl (by kernel_rfl)
def q12:QC:=(aG Try.prog 12).getD QC.skip
theorem Uj:aG Try.prog 12=some q12:=fJ rfl (by kernel_rfl)
def q26:QC:=(aG Try.prog 26).getD QC.skip
theorem aAF:aG Try.prog 26=some q26:=fJ rfl (by kernel_rfl)
def q27:QC:=(aG Try.prog 27).getD QC.skip
theorem aAG:aG Try.prog 27=some q27:=fJ rfl (by kernel_rfl)
def q28:QC:=(aG Try.prog 28).getD QC.skip
theorem aAH:aG Try.prog 28=some q28:=fJ rfl (by kernel_rfl)
def q29:QC:=(aG Try.prog 29).getD QC.skip
theorem Ul:aG Try.prog 29=some q29:=fJ rfl (by kernel_rfl)
def q59:QC:=(aG Try.prog 59).getD QC.skip
theorem aAS:aG Try.prog 59=some q59:=fJ rfl (by kernel_rfl)
def q60:QC:=(aG Try.prog 60).getD QC.skip
theorem aAT:aG Try.prog 60=some q60:=fJ rfl (by kernel_rfl)
def q61:QC:=(aG Try.prog 61).getD QC.skip
theorem Us:aG Try.prog 61=some q61:=fJ rfl (by kernel_rfl)
end
theorem rK19:Try.f19.results= #[.tmp 4]:=by kernel_rfl
theorem w19_0(x n:Int){M:aA}(hM:aB M)(a1:n≠0)(a0:(decide ((x.tmod n)<(0:Int)))=true): ∃v_ M',Ev Try.prog [] 19 [i64 x,i64 n] M v_ M'/\Ext M M'/\aB M'/\v_=(i64 (IntKind.wrap .i64 ((x.tmod n)+n))):=by
 exact⟨i64 (IntKind.wrap .i64 ((x.tmod n)+n)),M,Ev.told_tmp (tb:=[]) (n:=60) (F:=[aL 7,aL 14]) aF aE Try.func19 Uk (by kernel_rfl) rK19 (aH Try.prog) (fun _ _=>rfl) (by kernel_rfl) (hq (.q (.nz n) (fB true)) (q_nz a1) (hk (bT a0) hn)),Ext.refl M,hM,rfl⟩
theorem w19_1(x n:Int){M:aA}(hM:aB M)(a1:n≠0)(a0:(decide ((x.tmod n)<(0:Int)))=false): ∃v_ M',Ev Try.prog [] 19 [i64 x,i64 n] M v_ M'/\Ext M M'/\aB M'/\v_=(i64 (x.tmod n)):=by
 exact⟨i64 (x.tmod n),M,Ev.told_tmp (tb:=[]) (n:=60) (F:=[aL 7,aP 14]) aF aE Try.func19 Uk (by kernel_rfl) rK19 (aH Try.prog) (fun _ _=>rfl) (by kernel_rfl) (hq (.q (.nz n) (fB true)) (q_nz a1) (hk (bF a0) hn)),Ext.refl M,hM,rfl⟩
abbrev Xu:=FC (iP (oA pI pI) fun x=>(decide (0<x.2)&&decide (x.2<2^62))=true) (plain pI) (fun x=>aD x.1 x.2)
theorem kA{x:Int×Int}{lv:List Value}{M:aA}(hM:aB M)(h:(iP (oA pI pI) fun x:Int×Int=>(decide (0<x.2)&&decide (x.2<2^62))=true) x lv M): ∃v M',lX Try.prog [] 19 Xu lv M v M':=by
 refine FC.con h ?_
 obtain⟨⟨g0,g1,rfl,rfl,rfl⟩,hc⟩:=h
 obtain⟨x,n⟩:=x
 simp only [Bool.and_eq_true,decide_eq_true_eq] at hc⊢
 by_cases hlt:x.tmod n<0
 ·obtain⟨v,M',h1,h2,_,h3⟩:=w19_0 x n hM (by omega) (decide_eq_true hlt)
  exact⟨v,M',h1,h2,h3.trans (congrArg i64 (Ua hc.1 hc.2 hlt))⟩
 ·obtain⟨v,M',h1,h2,_,h3⟩:=w19_1 x n hM (by omega) (decide_eq_false hlt)
  exact⟨v,M',h1,h2,h3.trans (congrArg i64 (Ub hlt))⟩
end Go.Proofs.Ytdaglldahidmbaa
