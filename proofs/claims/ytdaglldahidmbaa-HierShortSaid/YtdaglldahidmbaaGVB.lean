/-
  Package hier: each of its laws for every argument; no conditions. The last text states which.
-/
import Derived.Test.YtdaglldahidmbaaGAmPw
import Derived.Test.YtdaglldahidmbaaProg
import Derived.Test.YtdaglldahidmbaaGAmQ
import Derived.KernelRfl
import Derived.Test.YtdaglldahidmbaaGAmLoop
set_option linter.unusedVariables false
set_option linter.unusedSimpArgs false
open Go Go.Am Go.Proofs
namespace Go.Proofs.Ytdaglldahidmbaa
set_option maxRecDepth 100000
theorem aG:dX Try.prog:=by
 have h:Try.prog.funcs.all (fun fn=> !(fn.name== "runtime.NumGoroutine"))=true:=by kernel_rfl
 refine⟨Nat.le_of_ble_eq_true (by kernel_rfl),fun f fn hf=> ?_⟩
 have:=(Array.all_eq_true_iff_forall_mem.1 h) fn (Array.mem_of_getElem? hf)
 simpa using this
theorem aF:Try.prog.follows .mixedOrders=true:=by kernel_rfl
theorem Vv:laidOutB Try.prog=true:=by kernel_rfl
theorem own':ownKnob Try.prog.godebug=none:=by kernel_rfl
theorem gS(B:Bd): ∀p∈([]:List (FuncId×(List Value->aA->Option (Value×aA)))),dC Try.prog [] B p.1 p.2:=fun p hp=>by cases hp
theorem Ux{B:Bd}(f:FuncId){g:List Value->aA->Option (Value×aA)}{l:List (FuncId×(List Value->aA->Option (Value×aA)))}(h:dC Try.prog [] B f g)(t: ∀p∈l,dC Try.prog [] B p.1 p.2): ∀p∈((f,g)::l),dC Try.prog [] B p.1 p.2:=fun p hp=>by
 rcases List.mem_cons.1 hp with rfl|hp
 ·exact h
 ·exact t p hp
theorem gP{B:Bd}(f:FuncId)(Q:List Value->aA->Value->aA->Prop){l:List (FuncId×(List Value->aA->Option (Value×aA)))}(t: ∀p∈l,dC Try.prog [] B p.1 p.2): ∀p∈((f,pick (lM Try.prog [] f Q))::l),dC Try.prog [] B p.1 p.2:=Ux f (lM.ok _) t
theorem lQ{B:Bd}{l:List (FuncId×(List Value->aA->Option (Value×aA)))}(h: ∀p∈l,dC Try.prog [] B p.1 p.2):cP Try.prog [] B (tR l []):=uF h fun p hp=>by cases hp
section
variable{B:Bd}{l:List (FuncId×(List Value->aA->Option (Value×aA)))}{b b':QC}{nt nt':Nat}{F F':List (Nat×Value)}{M M' N N':aA}{e e':cM}{T' U':Tr Value}
theorem zJ(h: ∀p∈l,dC Try.prog [] B p.1 p.2)(i:Nat)(hL:bN Try.prog [] b nt (fr F) M e T' M'):cP Try.prog [] B (tR l [(i,bone (.loop b) nt (F.map (·.1)) (F.map fun p=>some p.2) M (yL i e) T' M')]):=uF h fun p hp=>by
 rcases List.mem_cons.1 hp with rfl|hp
 ·exact wO.loop aG aF hL
 ·cases hp
theorem sb2(h: ∀p∈l,dC Try.prog [] B p.1 p.2)(i:Nat)(hL:bN Try.prog [] b nt (fr F) M e T' M')(j:Nat)(a0:bN Try.prog [] b' nt' (fr F') N e' U' N'):cP Try.prog [] B (tR l [(i,bone (.loop b) nt (F.map (·.1)) (F.map fun p=>some p.2) M (yL i e) T' M'),(j,bone (.loop b') nt' (F'.map (·.1)) (F'.map fun p=>some p.2) N (yL j e') U' N')]):=uF h fun p hp=>by
 rcases List.mem_cons.1 hp with rfl|hp
 ·exact wO.loop aG aF hL
 rcases List.mem_cons.1 hp with rfl|hp
 ·exact wO.loop aG aF a0
 ·cases hp
end
noncomputable section
theorem fG{P:Program}{f:FuncId}{q:QC}(h:(aE P f).getD QC.skip=q)(hs:(aE P f).isSome=true):aE P f=some q:=by
 cases hb:aE P f with
 |none=>rw[hb] at hs;cases hs
 |some x=>rw[hb] at h;exact congrArg some h
def q10:QC:=(aE Try.prog 10).getD QC.skip
theorem aAf:aE Try.prog 10=some q10:=fG rfl (by kernel_rfl)
def q11:QC:=(aE Try.prog 11).getD QC.skip
theorem aAg:aE Try.prog 11=some q11:=fG rfl (by kernel_rfl)
def q19:QC:=(aE Try.prog 19).getD QC.skip
theorem Tv:aE Try.prog 19=some q19:=fG rfl (by kernel_rfl)
def q20:QC:=(aE Try.prog 20).getD QC.skip
theorem Iv:aE Try.prog 20=some q20:=fG rfl (by kernel_rfl)
def Uw:QC:=(aE Try.prog 21).getD QC.skip
theorem aAi:aE Try.prog 21=some Uw:=fG rfl (by kernel_rfl)
def q22:QC:=(aE Try.prog 22).getD QC.skip
theorem aAj:aE Try.prog 22=some q22:=fG rfl (by kernel_rfl)
def q23:QC:=(aE Try.prog 23).getD QC.skip
theorem aAk:aE Try.prog 23=some q23:=fG rfl (by kernel_rfl)
def q24:QC:=(aE Try.prog 24).getD QC.skip
theorem aAl:aE Try.prog 24=some q24:=fG rfl (by kernel_rfl)
def q25:QC:=(aE Try.prog 25).getD QC.skip
theorem aAm:aE Try.prog 25=some q25:=fG rfl (by kernel_rfl)
def q41:QC:=(aE Try.prog 41).getD QC.skip
theorem Tx:aE Try.prog 41=some q41:=fG rfl (by kernel_rfl)
def q42:QC:=(aE Try.prog 42).getD QC.skip
theorem Dw:aE Try.prog 42=some q42:=fG rfl (by kernel_rfl)
def q43:QC:=(aE Try.prog 43).getD QC.skip
theorem Ty:aE Try.prog 43=some q43:=fG rfl (by kernel_rfl)
def q45:QC:=(aE Try.prog 45).getD QC.skip
theorem Tz:aE Try.prog 45=some q45:=fG rfl (by kernel_rfl)
def q46:QC:=(aE Try.prog 46).getD QC.skip
theorem aAr:aE Try.prog 46=some q46:=fG rfl (by kernel_rfl)
def q47:QC:=(aE Try.prog 47).getD QC.skip
theorem aAs:aE Try.prog 47=some q47:=fG rfl (by kernel_rfl)
def Wn:QC:=(aE Try.prog 48).getD QC.skip
theorem zG:aE Try.prog 48=some Wn:=fG rfl (by kernel_rfl)
def q49:QC:=(aE Try.prog 49).getD QC.skip
theorem aAu:aE Try.prog 49=some q49:=fG rfl (by kernel_rfl)
def q50:QC:=(aE Try.prog 50).getD QC.skip
theorem Ua:aE Try.prog 50=some q50:=fG rfl (by kernel_rfl)
def q51:QC:=(aE Try.prog 51).getD QC.skip
theorem aAv:aE Try.prog 51=some q51:=fG rfl (by kernel_rfl)
def q52:QC:=(aE Try.prog 52).getD QC.skip
theorem aAw:aE Try.prog 52=some q52:=fG rfl (by kernel_rfl)
def q53:QC:=(aE Try.prog 53).getD QC.skip
theorem aAx:aE Try.prog 53=some q53:=fG rfl (by kernel_rfl)
def q54:QC:=(aE Try.prog 54).getD QC.skip
theorem aAy:aE Try.prog 54=some q54:=fG rfl (by kernel_rfl)
def q55:QC:=(aE Try.prog 55).getD QC.skip
theorem Ub:aE Try.prog 55=some q55:=fG rfl (by kernel_rfl)
def q56:QC:=(aE Try.prog 56).getD QC.skip
theorem aAz:aE Try.prog 56=some q56:=fG rfl (by kernel_rfl)
def q57:QC:=(aE Try.prog 57).getD QC.skip
theorem aAA:aE Try.prog 57=some q57:=fG rfl (by kernel_rfl)
def q58:QC:=(aE Try.prog 58).getD QC.skip
theorem aAB:aE Try.prog 58=some q58:=fG rfl (by kernel_rfl)
def q70:QC:=(aE Try.prog 70).getD QC.skip
theorem Ud:aE Try.prog 70=some q70:=fG rfl (by kernel_rfl)
def q72:QC:=(aE Try.prog 72).getD QC.skip
theorem aAE:aE Try.prog 72=some q72:=fG rfl (by kernel_rfl)
def q73:QC:=(aE Try.prog 73).getD QC.skip
theorem aAF:aE Try.prog 73=some q73:=fG rfl (by kernel_rfl)
def q74:QC:=(aE Try.prog 74).getD QC.skip
theorem aAG:aE Try.prog 74=some q74:=fG rfl (by kernel_rfl)
def q75:QC:=(aE Try.prog 75).getD QC.skip
theorem aAH:aE Try.prog 75=some q75:=fG rfl (by kernel_rfl)
def q76:QC:=(aE Try.prog 76).getD QC.skip
theorem aAI:aE Try.prog 76=some q76:=fG rfl (by kernel_rfl)
def q77:QC:=(aE Try.prog 77).getD QC.skip
theorem aAJ:aE Try.prog 77=some q77:=fG rfl (by kernel_rfl)
def q78:QC:=(aE Try.prog 78).getD QC.skip
theorem aAK:aE Try.prog 78=some q78:=fG rfl (by kernel_rfl)
def q79:QC:=(aE Try.prog 79).getD QC.skip
theorem aAL:aE Try.prog 79=some q79:=fG rfl (by kernel_rfl)
def q85:QC:=(aE Try.prog 85).getD QC.skip
theorem aAM:aE Try.prog 85=some q85:=fG rfl (by kernel_rfl)
def q86:QC:=(aE Try.prog 86).getD QC.skip
theorem aAN:aE Try.prog 86=some q86:=fG rfl (by kernel_rfl)
def q87:QC:=(aE Try.prog 87).getD QC.skip
theorem aAO:aE Try.prog 87=some q87:=fG rfl (by kernel_rfl)
def q88:QC:=(aE Try.prog 88).getD QC.skip
theorem aAP:aE Try.prog 88=some q88:=fG rfl (by kernel_rfl)
def q89:QC:=(aE Try.prog 89).getD QC.skip
theorem Dx:aE Try.prog 89=some q89:=fG rfl (by kernel_rfl)
def q91:QC:=(aE Try.prog 91).getD QC.skip
theorem aAQ:aE Try.prog 91=some q91:=fG rfl (by kernel_rfl)
def q92:QC:=(aE Try.prog 92).getD QC.skip
theorem Oi:aE Try.prog 92=some q92:=fG rfl (by kernel_rfl)
def q96:QC:=(aE Try.prog 96).getD QC.skip
theorem aAR:aE Try.prog 96=some q96:=fG rfl (by kernel_rfl)
def q99:QC:=(aE Try.prog 99).getD QC.skip
theorem aAS:aE Try.prog 99=some q99:=fG rfl (by kernel_rfl)
end
noncomputable section
def q3:QC:=(aE Try.prog 3).getD QC.skip
theorem q3_ok:aE Try.prog 3=some q3:=fG rfl (by kernel_rfl)
def q12:QC:=(aE Try.prog 12).getD QC.skip
theorem Tu:aE Try.prog 12=some q12:=fG rfl (by kernel_rfl)
def q26:QC:=(aE Try.prog 26).getD QC.skip
theorem aAn:aE Try.prog 26=some q26:=fG rfl (by kernel_rfl)
def q27:QC:=(aE Try.prog 27).getD QC.skip
theorem aAo:aE Try.prog 27=some q27:=fG rfl (by kernel_rfl)
def q28:QC:=(aE Try.prog 28).getD QC.skip
theorem aAp:aE Try.prog 28=some q28:=fG rfl (by kernel_rfl)
def q29:QC:=(aE Try.prog 29).getD QC.skip
theorem Tw:aE Try.prog 29=some q29:=fG rfl (by kernel_rfl)
def q59:QC:=(aE Try.prog 59).getD QC.skip
theorem aAC:aE Try.prog 59=some q59:=fG rfl (by kernel_rfl)
def q60:QC:=(aE Try.prog 60).getD QC.skip
theorem aAD:aE Try.prog 60=some q60:=fG rfl (by kernel_rfl)
def q61:QC:=(aE Try.prog 61).getD QC.skip
theorem Uc:aE Try.prog 61=some q61:=fG rfl (by kernel_rfl)
end
theorem Ya{α:Type}{x:Option α}{d:α}(h:x.isSome=true):x=some (x.getD d):=by cases x with|none=>cases h|some=>rfl
noncomputable def q13:QC:=(aE Try.prog 13).getD QC.skip
theorem aAh:aE Try.prog 13=some q13:=Ya (by kernel_rfl)
noncomputable def q30:QC:=(aE Try.prog 30).getD QC.skip
theorem aAq:aE Try.prog 30=some q30:=Ya (by kernel_rfl)
theorem rK19:Try.f19.results= #[.tmp 4]:=by kernel_rfl
theorem w19_0(x n:Int){M:aA}(hM:aB M)(a1:n≠0)(a0:(decide ((x.tmod n)<(0:Int)))=true): ∃v_ M',Ev Try.prog [] 19 [i64 x,i64 n] M v_ M'/\Ext M M'/\aB M'/\v_=(i64 (IntKind.wrap .i64 ((x.tmod n)+n))):=by
 exact⟨i64 (IntKind.wrap .i64 ((x.tmod n)+n)),M,Ev.told_tmp (tb:=[]) (n:=60) (F:=[aP 7,aP 14]) aG aF Try.func19 Tv (by kernel_rfl) rK19 (aI Try.prog) (fun _ _=>rfl) (by kernel_rfl) (hq (.q (.nz n) (eT true)) (q_nz a1) (hk (bT a0) hn)),Ext.refl M,hM,rfl⟩
theorem w19_1(x n:Int){M:aA}(hM:aB M)(a1:n≠0)(a0:(decide ((x.tmod n)<(0:Int)))=false): ∃v_ M',Ev Try.prog [] 19 [i64 x,i64 n] M v_ M'/\Ext M M'/\aB M'/\v_=(i64 (x.tmod n)):=by
 exact⟨i64 (x.tmod n),M,Ev.told_tmp (tb:=[]) (n:=60) (F:=[aP 7,aO 14]) aG aF Try.func19 Tv (by kernel_rfl) rK19 (aI Try.prog) (fun _ _=>rfl) (by kernel_rfl) (hq (.q (.nz n) (eT true)) (q_nz a1) (hk (bF a0) hn)),Ext.refl M,hM,rfl⟩
abbrev Xc:=FC (hZ (mU pI pI) fun x=>(decide (0<x.2)&&decide (x.2<2^62))=true) (plain pI) (fun x=>aD x.1 x.2)
theorem jT{x:Int×Int}{lv:List Value}{M:aA}(hM:aB M)(h:(hZ (mU pI pI) fun x:Int×Int=>(decide (0<x.2)&&decide (x.2<2^62))=true) x lv M): ∃v M',lM Try.prog [] 19 Xc lv M v M':=by
 refine FC.con h ?_
 obtain⟨⟨g0,g1,rfl,rfl,rfl⟩,hc⟩:=h
 obtain⟨x,n⟩:=x
 simp only [Bool.and_eq_true,decide_eq_true_eq] at hc⊢
 by_cases hlt:x.tmod n<0
 ·obtain⟨v,M',h1,h2,_,h3⟩:=w19_0 x n hM (by omega) (decide_eq_true hlt)
  exact⟨v,M',h1,h2,h3.trans (congrArg i64 (Tl hc.1 hc.2 hlt))⟩
 ·obtain⟨v,M',h1,h2,_,h3⟩:=w19_1 x n hM (by omega) (decide_eq_false hlt)
  exact⟨v,M',h1,h2,h3.trans (congrArg i64 (Tm hlt))⟩
end Go.Proofs.Ytdaglldahidmbaa
