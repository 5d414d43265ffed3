/-
  Package hier: each of its laws for every argument; no conditions. The last text states which.
-/
import Derived.Test.YtdaglldahidmbaaGAmPw
import Derived.Test.YtdaglldahidmbaaProg
import Derived.Test.YtdaglldahidmbaaAmQ
import Derived.KernelRfl
import Derived.Test.YtdaglldahidmbaaGAmLoop
set_option linter.unusedVariables false
set_option linter.unusedSimpArgs false
open Go Go.Am Go.Proofs
namespace Go.Proofs.Ytdaglldahidmbaa
set_option maxRecDepth 100000
theorem noNumP:noNum Try.prog:=by
 have h:Try.prog.funcs.all (fun fn=> !(fn.name== "runtime.NumGoroutine"))=true:=by kernel_rfl
 refine⟨Nat.le_of_ble_eq_true (by kernel_rfl),fun f fn hf=> ?_⟩
 have:=(Array.all_eq_true_iff_forall_mem.1 h) fn (Array.mem_of_getElem? hf)
 simpa using this
theorem mixedP:Try.prog.follows .mixedOrders=true:=by kernel_rfl
theorem laidOut:laidOutB Try.prog=true:=by kernel_rfl
theorem own':ownKnob Try.prog.godebug=none:=by kernel_rfl
theorem sbN(B:Bd): ∀p∈([]:List (FuncId×(List Value→Mem→Option (Value×Mem)))),SpecOk Try.prog [] B p.1 p.2:=fun p hp=>by cases hp
theorem sbC{B:Bd}(f:FuncId){g:List Value→Mem→Option (Value×Mem)}{l:List (FuncId×(List Value→Mem→Option (Value×Mem)))}(h:SpecOk Try.prog [] B f g)(t: ∀p∈l,SpecOk Try.prog [] B p.1 p.2): ∀p∈((f,g)::l),SpecOk Try.prog [] B p.1 p.2:=fun p hp=>by
 rcases List.mem_cons.1 hp with rfl|hp
 ·exact h
 ·exact t p hp
theorem sbQ{B:Bd}(f:FuncId)(Q:List Value→Mem→Value→Mem→Prop){l:List (FuncId×(List Value→Mem→Option (Value×Mem)))}(t: ∀p∈l,SpecOk Try.prog [] B p.1 p.2): ∀p∈((f,pick (Con Try.prog [] f Q))::l),SpecOk Try.prog [] B p.1 p.2:=sbC f (Con.ok _) t
theorem sb0{B:Bd}{l:List (FuncId×(List Value→Mem→Option (Value×Mem)))}(h: ∀p∈l,SpecOk Try.prog [] B p.1 p.2):SpecsOk Try.prog [] B (specsB l []):=specsB_ok h fun p hp=>by cases hp
section
variable{B:Bd}{l:List (FuncId×(List Value→Mem→Option (Value×Mem)))}{b b':QC}{nt nt':Nat}{F F':List (Nat×Value)}{M M' N N':Mem}{e e':AExit}{T' U':Tr Value}
theorem sb1(h: ∀p∈l,SpecOk Try.prog [] B p.1 p.2)(i:Nat)(hL:LoopR Try.prog [] b nt (fr F) M e T' M'):SpecsOk Try.prog [] B (specsB l [(i,bone (.loop b) nt (F.map (·.1)) (F.map fun p=>some p.2) M (blkEnd i e) T' M')]):=specsB_ok h fun p hp=>by
 rcases List.mem_cons.1 hp with rfl|hp
 ·exact BlkOk.loop noNumP mixedP hL
 ·cases hp
theorem sb2(h: ∀p∈l,SpecOk Try.prog [] B p.1 p.2)(i:Nat)(hL:LoopR Try.prog [] b nt (fr F) M e T' M')(j:Nat)(hL':LoopR Try.prog [] b' nt' (fr F') N e' U' N'):SpecsOk Try.prog [] B (specsB l [(i,bone (.loop b) nt (F.map (·.1)) (F.map fun p=>some p.2) M (blkEnd i e) T' M'),(j,bone (.loop b') nt' (F'.map (·.1)) (F'.map fun p=>some p.2) N (blkEnd j e') U' N')]):=specsB_ok h fun p hp=>by
 rcases List.mem_cons.1 hp with rfl|hp
 ·exact BlkOk.loop noNumP mixedP hL
 rcases List.mem_cons.1 hp with rfl|hp
 ·exact BlkOk.loop noNumP mixedP hL'
 ·cases hp
end
theorem qget{P:Program}{f:FuncId}{q:QC}(h:(bodyComp P f).getD QC.skip=q)(hs:(bodyComp P f).isSome=true):bodyComp P f=some q:=by
 cases hb:bodyComp P f with
 |none=>rw[hb] at hs;cases hs
 |some x=>rw[hb] at h;exact congrArg some h
noncomputable def q10:QC:=(bodyComp Try.prog 10).getD QC.skip
theorem q10_ok:bodyComp Try.prog 10=some q10:=qget rfl (by kernel_rfl)
noncomputable def q11:QC:=(bodyComp Try.prog 11).getD QC.skip
theorem q11_ok:bodyComp Try.prog 11=some q11:=qget rfl (by kernel_rfl)
noncomputable def q16:QC:=(bodyComp Try.prog 16).getD QC.skip
theorem q16_ok:bodyComp Try.prog 16=some q16:=qget rfl (by kernel_rfl)
noncomputable def q17:QC:=(bodyComp Try.prog 17).getD QC.skip
theorem q17_ok:bodyComp Try.prog 17=some q17:=qget rfl (by kernel_rfl)
noncomputable def q19:QC:=(bodyComp Try.prog 19).getD QC.skip
theorem q19_ok:bodyComp Try.prog 19=some q19:=qget rfl (by kernel_rfl)
noncomputable def q20:QC:=(bodyComp Try.prog 20).getD QC.skip
theorem q20_ok:bodyComp Try.prog 20=some q20:=qget rfl (by kernel_rfl)
noncomputable def q21:QC:=(bodyComp Try.prog 21).getD QC.skip
theorem q21_ok:bodyComp Try.prog 21=some q21:=qget rfl (by kernel_rfl)
noncomputable def q22:QC:=(bodyComp Try.prog 22).getD QC.skip
theorem q22_ok:bodyComp Try.prog 22=some q22:=qget rfl (by kernel_rfl)
noncomputable def q23:QC:=(bodyComp Try.prog 23).getD QC.skip
theorem q23_ok:bodyComp Try.prog 23=some q23:=qget rfl (by kernel_rfl)
noncomputable def q24:QC:=(bodyComp Try.prog 24).getD QC.skip
theorem q24_ok:bodyComp Try.prog 24=some q24:=qget rfl (by kernel_rfl)
noncomputable def q25:QC:=(bodyComp Try.prog 25).getD QC.skip
theorem q25_ok:bodyComp Try.prog 25=some q25:=qget rfl (by kernel_rfl)
noncomputable def q41:QC:=(bodyComp Try.prog 41).getD QC.skip
theorem q41_ok:bodyComp Try.prog 41=some q41:=qget rfl (by kernel_rfl)
noncomputable def q42:QC:=(bodyComp Try.prog 42).getD QC.skip
theorem q42_ok:bodyComp Try.prog 42=some q42:=qget rfl (by kernel_rfl)
noncomputable def q43:QC:=(bodyComp Try.prog 43).getD QC.skip
theorem q43_ok:bodyComp Try.prog 43=some q43:=qget rfl (by kernel_rfl)
noncomputable def q45:QC:=(bodyComp Try.prog 45).getD QC.skip
theorem q45_ok:bodyComp Try.prog 45=some q45:=qget rfl (by kernel_rfl)
noncomputable def q46:QC:=(bodyComp Try.prog 46).getD QC.skip
theorem q46_ok:bodyComp Try.prog 46=some q46:=qget rfl (by kernel_rfl)
noncomputable def q47:QC:=(bodyComp Try.prog 47).getD QC.skip
theorem q47_ok:bodyComp Try.prog 47=some q47:=qget rfl (by kernel_rfl)
noncomputable def q48:QC:=(bodyComp Try.prog 48).getD QC.skip
theorem q48_ok:bodyComp Try.prog 48=some q48:=qget rfl (by kernel_rfl)
noncomputable def q49:QC:=(bodyComp Try.prog 49).getD QC.skip
theorem q49_ok:bodyComp Try.prog 49=some q49:=qget rfl (by kernel_rfl)
noncomputable def q50:QC:=(bodyComp Try.prog 50).getD QC.skip
theorem q50_ok:bodyComp Try.prog 50=some q50:=qget rfl (by kernel_rfl)
noncomputable def q51:QC:=(bodyComp Try.prog 51).getD QC.skip
theorem q51_ok:bodyComp Try.prog 51=some q51:=qget rfl (by kernel_rfl)
noncomputable def q52:QC:=(bodyComp Try.prog 52).getD QC.skip
theorem q52_ok:bodyComp Try.prog 52=some q52:=qget rfl (by kernel_rfl)
noncomputable def q53:QC:=(bodyComp Try.prog 53).getD QC.skip
theorem q53_ok:bodyComp Try.prog 53=some q53:=qget rfl (by kernel_rfl)
noncomputable def q54:QC:=(bodyComp Try.prog 54).getD QC.skip
theorem q54_ok:bodyComp Try.prog 54=some q54:=qget rfl (by kernel_rfl)
noncomputable def q55:QC:=(bodyComp Try.prog 55).getD QC.skip
theorem q55_ok:bodyComp Try.prog 55=some q55:=qget rfl (by kernel_rfl)
noncomputable def q56:QC:=(bodyComp Try.prog 56).getD QC.skip
theorem q56_ok:bodyComp Try.prog 56=some q56:=qget rfl (by kernel_rfl)
noncomputable def q57:QC:=(bodyComp Try.prog 57).getD QC.skip
theorem q57_ok:bodyComp Try.prog 57=some q57:=qget rfl (by kernel_rfl)
noncomputable def q58:QC:=(bodyComp Try.prog 58).getD QC.skip
theorem q58_ok:bodyComp Try.prog 58=some q58:=qget rfl (by kernel_rfl)
noncomputable def q70:QC:=(bodyComp Try.prog 70).getD QC.skip
theorem q70_ok:bodyComp Try.prog 70=some q70:=qget rfl (by kernel_rfl)
noncomputable def q72:QC:=(bodyComp Try.prog 72).getD QC.skip
theorem q72_ok:bodyComp Try.prog 72=some q72:=qget rfl (by kernel_rfl)
noncomputable def q73:QC:=(bodyComp Try.prog 73).getD QC.skip
theorem q73_ok:bodyComp Try.prog 73=some q73:=qget rfl (by kernel_rfl)
noncomputable def q74:QC:=(bodyComp Try.prog 74).getD QC.skip
theorem q74_ok:bodyComp Try.prog 74=some q74:=qget rfl (by kernel_rfl)
noncomputable def q75:QC:=(bodyComp Try.prog 75).getD QC.skip
theorem q75_ok:bodyComp Try.prog 75=some q75:=qget rfl (by kernel_rfl)
noncomputable def q76:QC:=(bodyComp Try.prog 76).getD QC.skip
theorem q76_ok:bodyComp Try.prog 76=some q76:=qget rfl (by kernel_rfl)
noncomputable def q77:QC:=(bodyComp Try.prog 77).getD QC.skip
theorem q77_ok:bodyComp Try.prog 77=some q77:=qget rfl (by kernel_rfl)
noncomputable def q78:QC:=(bodyComp Try.prog 78).getD QC.skip
theorem q78_ok:bodyComp Try.prog 78=some q78:=qget rfl (by kernel_rfl)
noncomputable def q79:QC:=(bodyComp Try.prog 79).getD QC.skip
theorem q79_ok:bodyComp Try.prog 79=some q79:=qget rfl (by kernel_rfl)
noncomputable def q85:QC:=(bodyComp Try.prog 85).getD QC.skip
theorem q85_ok:bodyComp Try.prog 85=some q85:=qget rfl (by kernel_rfl)
noncomputable def q86:QC:=(bodyComp Try.prog 86).getD QC.skip
theorem q86_ok:bodyComp Try.prog 86=some q86:=qget rfl (by kernel_rfl)
noncomputable def q87:QC:=(bodyComp Try.prog 87).getD QC.skip
theorem q87_ok:bodyComp Try.prog 87=some q87:=qget rfl (by kernel_rfl)
noncomputable def q88:QC:=(bodyComp Try.prog 88).getD QC.skip
theorem q88_ok:bodyComp Try.prog 88=some q88:=qget rfl (by kernel_rfl)
noncomputable def q89:QC:=(bodyComp Try.prog 89).getD QC.skip
theorem q89_ok:bodyComp Try.prog 89=some q89:=qget rfl (by kernel_rfl)
noncomputable def q91:QC:=(bodyComp Try.prog 91).getD QC.skip
theorem q91_ok:bodyComp Try.prog 91=some q91:=qget rfl (by kernel_rfl)
noncomputable def q92:QC:=(bodyComp Try.prog 92).getD QC.skip
theorem q92_ok:bodyComp Try.prog 92=some q92:=qget rfl (by kernel_rfl)
noncomputable def q96:QC:=(bodyComp Try.prog 96).getD QC.skip
theorem q96_ok:bodyComp Try.prog 96=some q96:=qget rfl (by kernel_rfl)
noncomputable def q99:QC:=(bodyComp Try.prog 99).getD QC.skip
theorem q99_ok:bodyComp Try.prog 99=some q99:=qget rfl (by kernel_rfl)
noncomputable def q7:QC:=(bodyComp Try.prog 7).getD QC.skip
theorem q7_ok:bodyComp Try.prog 7=some q7:=qget rfl (by kernel_rfl)
theorem rK19:Try.f19.results= #[.tmp 4]:=by kernel_rfl
theorem w19_0(x n:Int){M:Mem}(hM:MemOk M)(hnz:n≠0)(cc0:(decide ((x.tmod n)<(0:Int)))=true): ∃v_ M',Ev Try.prog [] 19 [i64 x,i64 n] M v_ M'∧Ext M M'∧MemOk M'∧v_=(i64 (IntKind.wrap .i64 ((x.tmod n)+n))):=by
 have hraw:oT Try.prog [] 60 Try.f19 q19 [i64 x,i64 n] M [ttT 7,ttT 14] 4=some (.ret,some (i64 (IntKind.wrap .i64 ((x.tmod n)+n))),M,[.q (.nz n) (ansB true),qT (decide ((x.tmod n)<(0:Int)))]):=by kernel_rfl
 exact⟨i64 (IntKind.wrap .i64 ((x.tmod n)+n)),M,Ev.told_tmp noNumP mixedP Try.func19 q19_ok (by kernel_rfl) rK19 (specs_none Try.prog) (fun _ _=>rfl) hraw (hk (q_nz hnz) (hk (bT cc0) hn)),Ext.refl M,hM,rfl⟩
theorem w19_1(x n:Int){M:Mem}(hM:MemOk M)(hnz:n≠0)(cc0:(decide ((x.tmod n)<(0:Int)))=false): ∃v_ M',Ev Try.prog [] 19 [i64 x,i64 n] M v_ M'∧Ext M M'∧MemOk M'∧v_=(i64 (x.tmod n)):=by
 have hraw:oT Try.prog [] 60 Try.f19 q19 [i64 x,i64 n] M [ttT 7,ttF 14] 4=some (.ret,some (i64 (x.tmod n)),M,[.q (.nz n) (ansB true),qF (decide ((x.tmod n)<(0:Int)))]):=by kernel_rfl
 exact⟨i64 (x.tmod n),M,Ev.told_tmp noNumP mixedP Try.func19 q19_ok (by kernel_rfl) rK19 (specs_none Try.prog) (fun _ _=>rfl) hraw (hk (q_nz hnz) (hk (bF cc0) hn)),Ext.refl M,hM,rfl⟩
abbrev Q19:=FC (asP (as2 pI pI) fun x=>(decide (0<x.2)&&decide (x.2<2^62))=true) (plain pI) (fun x=>modI x.1 x.2)
theorem con19{x:Int×Int}{lv:List Value}{M:Mem}(hM:MemOk M)(h:(asP (as2 pI pI) fun x:Int×Int=>(decide (0<x.2)&&decide (x.2<2^62))=true) x lv M): ∃v M',Con Try.prog [] 19 Q19 lv M v M':=by
 refine FC.con h ?_
 obtain⟨⟨g0,g1,rfl,rfl,rfl⟩,hc⟩:=h
 obtain⟨x,n⟩:=x
 simp only [Bool.and_eq_true,decide_eq_true_eq] at hc⊢
 by_cases hlt:x.tmod n<0
 ·obtain⟨v,M',h1,h2,_,h3⟩:=w19_0 x n hM (by omega) (decide_eq_true hlt)
  exact⟨v,M',h1,h2,h3.trans (congrArg i64 (modI_neg hc.1 hc.2 hlt))⟩
 ·obtain⟨v,M',h1,h2,_,h3⟩:=w19_1 x n hM (by omega) (decide_eq_false hlt)
  exact⟨v,M',h1,h2,h3.trans (congrArg i64 (modI_pos hlt))⟩
end Go.Proofs.Ytdaglldahidmbaa
