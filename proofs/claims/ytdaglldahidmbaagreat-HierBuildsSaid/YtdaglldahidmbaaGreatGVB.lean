/-
  Package hier: each of its laws for every argument; no conditions. The last text states which.
-/
import Derived.Test.YtdaglldahidmbaaGreatGAmPw
import Derived.Test.YtdaglldahidmbaaGreatGAmTn
import Derived.Test.YtdaglldahidmbaaGreatProg
import Derived.Test.YtdaglldahidmbaaGreatGAmQ
import Derived.KernelRfl
import Derived.Test.YtdaglldahidmbaaGreatGAmLoop
set_option linter.unusedVariables false
set_option linter.unusedSimpArgs false
open Go Go.Am Go.Proofs Tryz
namespace Go.Proofs.YtdaglldahidmbaaGreat
set_option maxRecDepth 100000
theorem gW:eJ prog:=by
 have h:prog.funcs.all (fun fn=> !(fn.name== "runtime.NumGoroutine"))=true:=by kernel_rfl
 refine⟨xAd (by kernel_rfl),fun f fn hf=>?_⟩;have:=(Array.all_eq_true_iff_forall_mem.1 h) fn (Array.mem_of_getElem? hf);simpa using this
theorem gV:prog.follows .mixedOrders=true:=by kernel_rfl
theorem eG(n:Nat)(F:List OF){SP:dC}{b:QC}{nt:Nat}{T:Tr Value}{M M':aB}{e:cT}{qs:oP}{ks:List Nat}{vs:List (Option Value)}(hS:∀B,cS prog [] B SP)(hh:fS prog SP qs)(tb:List Nat:=[])(hB:∀id,eX id tb=false->SP.blocks id=none:=by exact fun _ _=>rfl)(hx:(oB prog [] tb n nt b T M F 0).map (fun r=>(r.1.1,ks.map r.1.2.1.get,r.1.2.2,r.2.2.2))=some (e,vs,M',qs):=by kernel_rfl):∃T1,Rd prog [] b nt T M e T1 M'/\ks.map T1.get=vs:=Rd.told gW gV hS hB hx hh
theorem kA(n:Nat)(F:List OF){SP:dC}{f:FuncId}{fn:Func}{q:QC}{k:Nat}{args:List Value}{M M':aB}{v:Value}{qs:oP}(hf:prog.funcs[f]?=some fn)(hq:aF prog f=some q)(hr:fn.results=#[.tmp k])(hS:∀B,cS prog [] B SP)(hh:fS prog SP qs)(tb:List Nat:=[])(hB:∀id,eX id tb=false->SP.blocks id=none:=by exact fun _ _=>rfl)(hl:Nat.ble args.length fn.ntmps=true:=by kernel_rfl)(hx:(oB prog [] tb n fn.ntmps q (mR args 0 .nil) M F 0).map (fun r=>(r.1.1,r.1.2.1.get k,r.1.2.2,r.2.2.2))=some (.ret,some v,M',qs):=by kernel_rfl):Ev prog [] f args M v M':=Ev.told_tmp gW gV hf hq hl hr hS hB hx hh
theorem Rh(n:Nat)(F:List OF){SP:dC}{f:FuncId}{fn:Func}{q:QC}{args:List Value}{M M':aB}{e:cT}{qs:oP}(hf:prog.funcs[f]?=some fn)(hq:aF prog f=some q)(hr:fn.results=#[])(hS:∀B,cS prog [] B SP)(he:e=.ret\/e=.normal)(hh:fS prog SP qs)(tb:List Nat:=[])(hB:∀id,eX id tb=false->SP.blocks id=none:=by exact fun _ _=>rfl)(hl:Nat.ble args.length fn.ntmps=true:=by kernel_rfl)(hx:oU prog tb n fn q args M F=some (e,M',qs):=by kernel_rfl):Ev prog [] f args M (.tuple #[]) M':=Ev.told_none gW gV hf hq hl hr hS hB hx he hh
theorem Vu:laidOutB prog=true:=by kernel_rfl
theorem own':ownKnob prog.godebug=none:=by kernel_rfl
theorem eZ(B:Bd):∀p∈([]:List (FuncId×(List Value->aB->Option (Value×aB)))),dR prog [] B p.1 p.2:=fun p hp=>by cases hp
theorem Ok{B:Bd}(f:FuncId){g:List Value->aB->Option (Value×aB)}{l:List (FuncId×(List Value->aB->Option (Value×aB)))}(h:dR prog [] B f g)(t:∀p∈l,dR prog [] B p.1 p.2):∀p∈((f,g)::l),dR prog [] B p.1 p.2:=fun p hp=>by
 rcases List.mem_cons.1 hp with rfl|hp
 ·exact h
 ·exact t p hp
theorem fH{B:Bd}(f:FuncId)(Q:List Value->aB->Value->aB->Prop){l:List (FuncId×(List Value->aB->Option (Value×aB)))}(t:∀p∈l,dR prog [] B p.1 p.2):∀p∈((f,pick (lK prog [] f Q))::l),dR prog [] B p.1 p.2:=Ok f (lK.ok _) t
theorem jL{B:Bd}{l:List (FuncId×(List Value->aB->Option (Value×aB)))}(h:∀p∈l,dR prog [] B p.1 p.2):cS prog [] B (uG l []):=rO h fun p hp=>by cases hp
section
variable{B:Bd}{l:List (FuncId×(List Value->aB->Option (Value×aB)))}{b b':QC}{nt nt':Nat}{F F':List (Nat×Value)}{M M' N N':aB}{e e':cT}{T' U':Tr Value}
theorem vA(h:∀p∈l,dR prog [] B p.1 p.2)(i:Nat)(hL:bI prog [] b nt (fr F) M e T' M'):cS prog [] B (uG l [(i,bone (.loop b) nt (F.map (·.1)) (F.map fun p=>some p.2) M (yR i e) T' M')]):=rO h fun p hp=>by
 rcases List.mem_cons.1 hp with rfl|hp
 ·exact sO.loop gW gV hL
 ·cases hp
theorem sb2(h:∀p∈l,dR prog [] B p.1 p.2)(i:Nat)(hL:bI prog [] b nt (fr F) M e T' M')(j:Nat)(a0:bI prog [] b' nt' (fr F') N e' U' N'):cS prog [] B (uG l [(i,bone (.loop b) nt (F.map (·.1)) (F.map fun p=>some p.2) M (yR i e) T' M'),(j,bone (.loop b') nt' (F'.map (·.1)) (F'.map fun p=>some p.2) N (yR j e') U' N')]):=rO h fun p hp=>by
 rcases List.mem_cons.1 hp with rfl|hp
 ·exact sO.loop gW gV hL
 rcases List.mem_cons.1 hp with rfl|hp
 ·exact sO.loop gW gV a0
 ·cases hp
end
open Tryz
noncomputable section
theorem eP{P:Program}{f:FuncId}{q:QC}(h:(aF P f).getD QC.skip=q)(hs:(aF P f).isSome=true):aF P f=some q:=by
 cases hb:aF P f with
 |none=>rw[hb] at hs;cases hs
 |some x=>rw[hb] at h;exact congrArg some h
def q3:QC:=(aF prog 3).getD QC.skip
theorem q3_ok:aF prog 3=some q3:=eP rfl (by kernel_rfl)
def q9:QC:=(aF prog 9).getD QC.skip
theorem q9_ok:aF prog 9=some q9:=eP rfl (by kernel_rfl)
def q10:QC:=(aF prog 10).getD QC.skip
theorem aAk:aF prog 10=some q10:=eP rfl (by kernel_rfl)
def q11:QC:=(aF prog 11).getD QC.skip
theorem aAl:aF prog 11=some q11:=eP rfl (by kernel_rfl)
def q12:QC:=(aF prog 12).getD QC.skip
theorem aAm:aF prog 12=some q12:=eP rfl (by kernel_rfl)
def q19:QC:=(aF prog 19).getD QC.skip
theorem Oe:aF prog 19=some q19:=eP rfl (by kernel_rfl)
def q22:QC:=(aF prog 22).getD QC.skip
theorem Ub:aF prog 22=some q22:=eP rfl (by kernel_rfl)
def q23:QC:=(aF prog 23).getD QC.skip
theorem aAn:aF prog 23=some q23:=eP rfl (by kernel_rfl)
def q24:QC:=(aF prog 24).getD QC.skip
theorem It:aF prog 24=some q24:=eP rfl (by kernel_rfl)
def q25:QC:=(aF prog 25).getD QC.skip
theorem aAo:aF prog 25=some q25:=eP rfl (by kernel_rfl)
def q26:QC:=(aF prog 26).getD QC.skip
theorem aAp:aF prog 26=some q26:=eP rfl (by kernel_rfl)
def q27:QC:=(aF prog 27).getD QC.skip
theorem aAq:aF prog 27=some q27:=eP rfl (by kernel_rfl)
def q28:QC:=(aF prog 28).getD QC.skip
theorem aAr:aF prog 28=some q28:=eP rfl (by kernel_rfl)
def q29:QC:=(aF prog 29).getD QC.skip
theorem aAs:aF prog 29=some q29:=eP rfl (by kernel_rfl)
def q30:QC:=(aF prog 30).getD QC.skip
theorem aAu:aF prog 30=some q30:=eP rfl (by kernel_rfl)
def q31:QC:=(aF prog 31).getD QC.skip
theorem aAv:aF prog 31=some q31:=eP rfl (by kernel_rfl)
def q32:QC:=(aF prog 32).getD QC.skip
theorem aAw:aF prog 32=some q32:=eP rfl (by kernel_rfl)
def q33:QC:=(aF prog 33).getD QC.skip
theorem aAx:aF prog 33=some q33:=eP rfl (by kernel_rfl)
def q34:QC:=(aF prog 34).getD QC.skip
theorem Dw:aF prog 34=some q34:=eP rfl (by kernel_rfl)
def q48:QC:=(aF prog 48).getD QC.skip
theorem Uc:aF prog 48=some q48:=eP rfl (by kernel_rfl)
def q49:QC:=(aF prog 49).getD QC.skip
theorem Dx:aF prog 49=some q49:=eP rfl (by kernel_rfl)
def q50:QC:=(aF prog 50).getD QC.skip
theorem Ud:aF prog 50=some q50:=eP rfl (by kernel_rfl)
def Ue:QC:=(aF prog 52).getD QC.skip
theorem Uf:aF prog 52=some Ue:=eP rfl (by kernel_rfl)
def q53:QC:=(aF prog 53).getD QC.skip
theorem q53_ok:aF prog 53=some q53:=eP rfl (by kernel_rfl)
def q54:QC:=(aF prog 54).getD QC.skip
theorem q54_ok:aF prog 54=some q54:=eP rfl (by kernel_rfl)
def q55:QC:=(aF prog 55).getD QC.skip
theorem zJ:aF prog 55=some q55:=eP rfl (by kernel_rfl)
def q56:QC:=(aF prog 56).getD QC.skip
theorem q56_ok:aF prog 56=some q56:=eP rfl (by kernel_rfl)
def q57:QC:=(aF prog 57).getD QC.skip
theorem Ug:aF prog 57=some q57:=eP rfl (by kernel_rfl)
def q58:QC:=(aF prog 58).getD QC.skip
theorem q58_ok:aF prog 58=some q58:=eP rfl (by kernel_rfl)
def q59:QC:=(aF prog 59).getD QC.skip
theorem q59_ok:aF prog 59=some q59:=eP rfl (by kernel_rfl)
def q60:QC:=(aF prog 60).getD QC.skip
theorem q60_ok:aF prog 60=some q60:=eP rfl (by kernel_rfl)
def q61:QC:=(aF prog 61).getD QC.skip
theorem q61_ok:aF prog 61=some q61:=eP rfl (by kernel_rfl)
def q62:QC:=(aF prog 62).getD QC.skip
theorem Uh:aF prog 62=some q62:=eP rfl (by kernel_rfl)
def q63:QC:=(aF prog 63).getD QC.skip
theorem q63_ok:aF prog 63=some q63:=eP rfl (by kernel_rfl)
def q64:QC:=(aF prog 64).getD QC.skip
theorem q64_ok:aF prog 64=some q64:=eP rfl (by kernel_rfl)
def q65:QC:=(aF prog 65).getD QC.skip
theorem q65_ok:aF prog 65=some q65:=eP rfl (by kernel_rfl)
def q66:QC:=(aF prog 66).getD QC.skip
theorem q66_ok:aF prog 66=some q66:=eP rfl (by kernel_rfl)
def q67:QC:=(aF prog 67).getD QC.skip
theorem q67_ok:aF prog 67=some q67:=eP rfl (by kernel_rfl)
def q68:QC:=(aF prog 68).getD QC.skip
theorem q68_ok:aF prog 68=some q68:=eP rfl (by kernel_rfl)
def q69:QC:=(aF prog 69).getD QC.skip
theorem q69_ok:aF prog 69=some q69:=eP rfl (by kernel_rfl)
def q70:QC:=(aF prog 70).getD QC.skip
theorem q70_ok:aF prog 70=some q70:=eP rfl (by kernel_rfl)
def q71:QC:=(aF prog 71).getD QC.skip
theorem q71_ok:aF prog 71=some q71:=eP rfl (by kernel_rfl)
def q82:QC:=(aF prog 82).getD QC.skip
theorem Ui:aF prog 82=some q82:=eP rfl (by kernel_rfl)
def q84:QC:=(aF prog 84).getD QC.skip
theorem q84_ok:aF prog 84=some q84:=eP rfl (by kernel_rfl)
def q85:QC:=(aF prog 85).getD QC.skip
theorem q85_ok:aF prog 85=some q85:=eP rfl (by kernel_rfl)
def q86:QC:=(aF prog 86).getD QC.skip
theorem q86_ok:aF prog 86=some q86:=eP rfl (by kernel_rfl)
def q87:QC:=(aF prog 87).getD QC.skip
theorem q87_ok:aF prog 87=some q87:=eP rfl (by kernel_rfl)
def q88:QC:=(aF prog 88).getD QC.skip
theorem q88_ok:aF prog 88=some q88:=eP rfl (by kernel_rfl)
def q89:QC:=(aF prog 89).getD QC.skip
theorem q89_ok:aF prog 89=some q89:=eP rfl (by kernel_rfl)
def q90:QC:=(aF prog 90).getD QC.skip
theorem q90_ok:aF prog 90=some q90:=eP rfl (by kernel_rfl)
def q91:QC:=(aF prog 91).getD QC.skip
theorem q91_ok:aF prog 91=some q91:=eP rfl (by kernel_rfl)
def q92:QC:=(aF prog 92).getD QC.skip
theorem q92_ok:aF prog 92=some q92:=eP rfl (by kernel_rfl)
def q98:QC:=(aF prog 98).getD QC.skip
theorem q98_ok:aF prog 98=some q98:=eP rfl (by kernel_rfl)
def q99:QC:=(aF prog 99).getD QC.skip
theorem q99_ok:aF prog 99=some q99:=eP rfl (by kernel_rfl)
def q100:QC:=(aF prog 100).getD QC.skip
theorem Wj:aF prog 100=some q100:=eP rfl (by kernel_rfl)
def q101:QC:=(aF prog 101).getD QC.skip
theorem Wk:aF prog 101=some q101:=eP rfl (by kernel_rfl)
def Wl:QC:=(aF prog 102).getD QC.skip
theorem xV:aF prog 102=some Wl:=eP rfl (by kernel_rfl)
def q104:QC:=(aF prog 104).getD QC.skip
theorem Wm:aF prog 104=some q104:=eP rfl (by kernel_rfl)
def q105:QC:=(aF prog 105).getD QC.skip
theorem Ir:aF prog 105=some q105:=eP rfl (by kernel_rfl)
def q109:QC:=(aF prog 109).getD QC.skip
theorem Wn:aF prog 109=some q109:=eP rfl (by kernel_rfl)
def q112:QC:=(aF prog 112).getD QC.skip
theorem Wo:aF prog 112=some q112:=eP rfl (by kernel_rfl)
end
open Tryz
theorem rK22:Tryz.f22.results= #[.tmp 4]:=by kernel_rfl
theorem w19_0(x n:Int){M:aB}(hM:aA M)(a1:n≠0)(a0:(decide ((x.tmod n)<(0:Int)))=true):∃v_ M',Ev prog [] 22 [i64 x,i64 n] M v_ M'/\Ext M M'/\aA M'/\v_=(i64 (IntKind.wrap .i64 ((x.tmod n)+n))):=by exact⟨i64 (IntKind.wrap .i64 ((x.tmod n)+n)),M,kA 60 [aI 7,aI 14] Tryz.func22 Ub rK22 (aD prog) (hq (.q (.nz n) (uY true)) (q_nz a1) (hk (bT a0) hn)),Ext.refl M,hM,rfl⟩
theorem w19_1(x n:Int){M:aB}(hM:aA M)(a1:n≠0)(a0:(decide ((x.tmod n)<(0:Int)))=false):∃v_ M',Ev prog [] 22 [i64 x,i64 n] M v_ M'/\Ext M M'/\aA M'/\v_=(i64 (x.tmod n)):=by exact⟨i64 (x.tmod n),M,kA 60 [aI 7,aZ 14] Tryz.func22 Ub rK22 (aD prog) (hq (.q (.nz n) (uY true)) (q_nz a1) (hk (bF a0) hn)),Ext.refl M,hM,rfl⟩
abbrev Xd:=FC (hJ (lT pI pI) fun x=>(decide (0<x.2)&&decide (x.2<2^62))=true) (plain pI) (fun x=>aE x.1 x.2)
theorem kI{x:Int×Int}{lv:List Value}{M:aB}(hM:aA M)(h:(hJ (lT pI pI) fun x:Int×Int=>(decide (0<x.2)&&decide (x.2<2^62))=true) x lv M):∃v M',lK prog [] 22 Xd lv M v M':=by
 refine FC.con h ?_;obtain⟨⟨g0,g1,rfl,rfl,rfl⟩,hc⟩:=h;obtain⟨x,n⟩:=x;simp only [Bool.and_eq_true,decide_eq_true_eq] at hc⊢;by_cases hlt:x.tmod n<0
 ·obtain⟨v,M',h1,h2,_,h3⟩:=w19_0 x n hM (by omega) (xAb hlt);exact⟨v,M',h1,h2,h3.trans (congrArg i64 (Ts hc.1 hc.2 hlt))⟩
 ·obtain⟨v,M',h1,h2,_,h3⟩:=w19_1 x n hM (by omega) (xAa hlt);exact⟨v,M',h1,h2,h3.trans (congrArg i64 (Tt hlt))⟩
end Go.Proofs.YtdaglldahidmbaaGreat
