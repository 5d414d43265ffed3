/-
  Package hier: each of its laws for every argument; no conditions. The last text states which.
-/
import Derived.Test.YtdaglldahidmbaaGAmPw
import Derived.Test.YtdaglldahidmbaaProg
import Derived.Test.YtdaglldahidmbaaAmQ
import Derived.KernelRfl
import Derived.Test.YtdaglldahidmbaaGAmLoop
set_option linter.unusedVariables false
set_option linter.unusedSimpArgs false
open Go Go.Am Go.Proofs
namespace Go.Proofs.Ytdaglldahidmbaa
set_option maxRecDepth 100000
theorem aJ:dU Try.prog:=by
 have h:Try.prog.funcs.all (fun fn=> !(fn.name== "runtime.NumGoroutine"))=true:=by kernel_rfl
 refine⟨Nat.le_of_ble_eq_true (by kernel_rfl),fun f fn hf=> ?_⟩
 have:=(Array.all_eq_true_iff_forall_mem.1 h) fn (Array.mem_of_getElem? hf)
 simpa using this
theorem aI:Try.prog.follows .mixedOrders=true:=by kernel_rfl
theorem Sr:laidOutB Try.prog=true:=by kernel_rfl
theorem own':ownKnob Try.prog.godebug=none:=by kernel_rfl
theorem gQ(B:Bd): ∀p∈([]:List (FuncId×(List Value->aA->Option (Value×aA)))),cV Try.prog [] B p.1 p.2:=fun p hp=>by cases hp
theorem Rw{B:Bd}(f:FuncId){g:List Value->aA->Option (Value×aA)}{l:List (FuncId×(List Value->aA->Option (Value×aA)))}(h:cV Try.prog [] B f g)(t: ∀p∈l,cV Try.prog [] B p.1 p.2): ∀p∈((f,g)::l),cV Try.prog [] B p.1 p.2:=fun p hp=>by
 rcases List.mem_cons.1 hp with rfl|hp
 ·exact h
 ·exact t p hp
theorem gF{B:Bd}(f:FuncId)(Q:List Value->aA->Value->aA->Prop){l:List (FuncId×(List Value->aA->Option (Value×aA)))}(t: ∀p∈l,cV Try.prog [] B p.1 p.2): ∀p∈((f,pick (lQ Try.prog [] f Q))::l),cV Try.prog [] B p.1 p.2:=Rw f (lQ.ok _) t
theorem lO{B:Bd}{l:List (FuncId×(List Value->aA->Option (Value×aA)))}(h: ∀p∈l,cV Try.prog [] B p.1 p.2):cJ Try.prog [] B (sM l []):=tD h fun p hp=>by cases hp
section
variable{B:Bd}{l:List (FuncId×(List Value->aA->Option (Value×aA)))}{b b':QC}{nt nt':Nat}{F F':List (Nat×Value)}{M M' N N':aA}{e e':cH}{T' U':Tr Value}
theorem zN(h: ∀p∈l,cV Try.prog [] B p.1 p.2)(i:Nat)(hL:bJ Try.prog [] b nt (fr F) M e T' M'):cJ Try.prog [] B (sM l [(i,bone (.loop b) nt (F.map (·.1)) (F.map fun p=>some p.2) M (xC i e) T' M')]):=tD h fun p hp=>by
 rcases List.mem_cons.1 hp with rfl|hp
 ·exact vI.loop aJ aI hL
 ·cases hp
theorem sb2(h: ∀p∈l,cV Try.prog [] B p.1 p.2)(i:Nat)(hL:bJ Try.prog [] b nt (fr F) M e T' M')(j:Nat)(hL':bJ Try.prog [] b' nt' (fr F') N e' U' N'):cJ Try.prog [] B (sM l [(i,bone (.loop b) nt (F.map (·.1)) (F.map fun p=>some p.2) M (xC i e) T' M'),(j,bone (.loop b') nt' (F'.map (·.1)) (F'.map fun p=>some p.2) N (xC j e') U' N')]):=tD h fun p hp=>by
 rcases List.mem_cons.1 hp with rfl|hp
 ·exact vI.loop aJ aI hL
 rcases List.mem_cons.1 hp with rfl|hp
 ·exact vI.loop aJ aI hL'
 ·cases hp
end
theorem eY{P:Program}{f:FuncId}{q:QC}(h:(aL P f).getD QC.skip=q)(hs:(aL P f).isSome=true):aL P f=some q:=by
 cases hb:aL P f with
 |none=>rw[hb] at hs;cases hs
 |some x=>rw[hb] at h;exact congrArg some h
noncomputable def q10:QC:=(aL Try.prog 10).getD QC.skip
theorem Wx:aL Try.prog 10=some q10:=eY rfl (by kernel_rfl)
noncomputable def q11:QC:=(aL Try.prog 11).getD QC.skip
theorem Wy:aL Try.prog 11=some q11:=eY rfl (by kernel_rfl)
noncomputable def q14:QC:=(aL Try.prog 14).getD QC.skip
theorem Wz:aL Try.prog 14=some q14:=eY rfl (by kernel_rfl)
noncomputable def q15:QC:=(aL Try.prog 15).getD QC.skip
theorem Xa:aL Try.prog 15=some q15:=eY rfl (by kernel_rfl)
noncomputable def q19:QC:=(aL Try.prog 19).getD QC.skip
theorem Qy:aL Try.prog 19=some q19:=eY rfl (by kernel_rfl)
noncomputable def q20:QC:=(aL Try.prog 20).getD QC.skip
theorem Gx:aL Try.prog 20=some q20:=eY rfl (by kernel_rfl)
noncomputable def q21:QC:=(aL Try.prog 21).getD QC.skip
theorem Xb:aL Try.prog 21=some q21:=eY rfl (by kernel_rfl)
noncomputable def q22:QC:=(aL Try.prog 22).getD QC.skip
theorem Xc:aL Try.prog 22=some q22:=eY rfl (by kernel_rfl)
noncomputable def q23:QC:=(aL Try.prog 23).getD QC.skip
theorem Xd:aL Try.prog 23=some q23:=eY rfl (by kernel_rfl)
noncomputable def q24:QC:=(aL Try.prog 24).getD QC.skip
theorem Xe:aL Try.prog 24=some q24:=eY rfl (by kernel_rfl)
noncomputable def q25:QC:=(aL Try.prog 25).getD QC.skip
theorem Xf:aL Try.prog 25=some q25:=eY rfl (by kernel_rfl)
noncomputable def q31:QC:=(aL Try.prog 31).getD QC.skip
theorem Xg:aL Try.prog 31=some q31:=eY rfl (by kernel_rfl)
noncomputable def q32:QC:=(aL Try.prog 32).getD QC.skip
theorem Xh:aL Try.prog 32=some q32:=eY rfl (by kernel_rfl)
noncomputable def q33:QC:=(aL Try.prog 33).getD QC.skip
theorem Xi:aL Try.prog 33=some q33:=eY rfl (by kernel_rfl)
noncomputable def q34:QC:=(aL Try.prog 34).getD QC.skip
theorem Xj:aL Try.prog 34=some q34:=eY rfl (by kernel_rfl)
noncomputable def q41:QC:=(aL Try.prog 41).getD QC.skip
theorem Qz:aL Try.prog 41=some q41:=eY rfl (by kernel_rfl)
noncomputable def q42:QC:=(aL Try.prog 42).getD QC.skip
theorem Ch:aL Try.prog 42=some q42:=eY rfl (by kernel_rfl)
noncomputable def q43:QC:=(aL Try.prog 43).getD QC.skip
theorem Ra:aL Try.prog 43=some q43:=eY rfl (by kernel_rfl)
noncomputable def q45:QC:=(aL Try.prog 45).getD QC.skip
theorem Rb:aL Try.prog 45=some q45:=eY rfl (by kernel_rfl)
noncomputable def q46:QC:=(aL Try.prog 46).getD QC.skip
theorem Xk:aL Try.prog 46=some q46:=eY rfl (by kernel_rfl)
noncomputable def q47:QC:=(aL Try.prog 47).getD QC.skip
theorem Xl:aL Try.prog 47=some q47:=eY rfl (by kernel_rfl)
noncomputable def Tg:QC:=(aL Try.prog 48).getD QC.skip
theorem xW:aL Try.prog 48=some Tg:=eY rfl (by kernel_rfl)
noncomputable def q49:QC:=(aL Try.prog 49).getD QC.skip
theorem Xm:aL Try.prog 49=some q49:=eY rfl (by kernel_rfl)
noncomputable def q50:QC:=(aL Try.prog 50).getD QC.skip
theorem Rc:aL Try.prog 50=some q50:=eY rfl (by kernel_rfl)
noncomputable def q51:QC:=(aL Try.prog 51).getD QC.skip
theorem Xn:aL Try.prog 51=some q51:=eY rfl (by kernel_rfl)
noncomputable def q52:QC:=(aL Try.prog 52).getD QC.skip
theorem Xo:aL Try.prog 52=some q52:=eY rfl (by kernel_rfl)
noncomputable def q53:QC:=(aL Try.prog 53).getD QC.skip
theorem Xp:aL Try.prog 53=some q53:=eY rfl (by kernel_rfl)
noncomputable def q54:QC:=(aL Try.prog 54).getD QC.skip
theorem Xq:aL Try.prog 54=some q54:=eY rfl (by kernel_rfl)
noncomputable def q55:QC:=(aL Try.prog 55).getD QC.skip
theorem Re:aL Try.prog 55=some q55:=eY rfl (by kernel_rfl)
noncomputable def q56:QC:=(aL Try.prog 56).getD QC.skip
theorem Xr:aL Try.prog 56=some q56:=eY rfl (by kernel_rfl)
noncomputable def q57:QC:=(aL Try.prog 57).getD QC.skip
theorem Xs:aL Try.prog 57=some q57:=eY rfl (by kernel_rfl)
noncomputable def q58:QC:=(aL Try.prog 58).getD QC.skip
theorem Xt:aL Try.prog 58=some q58:=eY rfl (by kernel_rfl)
noncomputable def q62:QC:=(aL Try.prog 62).getD QC.skip
theorem Xu:aL Try.prog 62=some q62:=eY rfl (by kernel_rfl)
noncomputable def q70:QC:=(aL Try.prog 70).getD QC.skip
theorem Rf:aL Try.prog 70=some q70:=eY rfl (by kernel_rfl)
noncomputable def q72:QC:=(aL Try.prog 72).getD QC.skip
theorem Xv:aL Try.prog 72=some q72:=eY rfl (by kernel_rfl)
noncomputable def q73:QC:=(aL Try.prog 73).getD QC.skip
theorem Xw:aL Try.prog 73=some q73:=eY rfl (by kernel_rfl)
noncomputable def q74:QC:=(aL Try.prog 74).getD QC.skip
theorem Xx:aL Try.prog 74=some q74:=eY rfl (by kernel_rfl)
noncomputable def q75:QC:=(aL Try.prog 75).getD QC.skip
theorem Xy:aL Try.prog 75=some q75:=eY rfl (by kernel_rfl)
noncomputable def q76:QC:=(aL Try.prog 76).getD QC.skip
theorem Xz:aL Try.prog 76=some q76:=eY rfl (by kernel_rfl)
noncomputable def q77:QC:=(aL Try.prog 77).getD QC.skip
theorem Ya:aL Try.prog 77=some q77:=eY rfl (by kernel_rfl)
noncomputable def q78:QC:=(aL Try.prog 78).getD QC.skip
theorem Yb:aL Try.prog 78=some q78:=eY rfl (by kernel_rfl)
noncomputable def q79:QC:=(aL Try.prog 79).getD QC.skip
theorem Yc:aL Try.prog 79=some q79:=eY rfl (by kernel_rfl)
noncomputable def q85:QC:=(aL Try.prog 85).getD QC.skip
theorem Yd:aL Try.prog 85=some q85:=eY rfl (by kernel_rfl)
noncomputable def q86:QC:=(aL Try.prog 86).getD QC.skip
theorem Ye:aL Try.prog 86=some q86:=eY rfl (by kernel_rfl)
noncomputable def q87:QC:=(aL Try.prog 87).getD QC.skip
theorem Yf:aL Try.prog 87=some q87:=eY rfl (by kernel_rfl)
noncomputable def q88:QC:=(aL Try.prog 88).getD QC.skip
theorem Yg:aL Try.prog 88=some q88:=eY rfl (by kernel_rfl)
noncomputable def q89:QC:=(aL Try.prog 89).getD QC.skip
theorem Ci:aL Try.prog 89=some q89:=eY rfl (by kernel_rfl)
noncomputable def q91:QC:=(aL Try.prog 91).getD QC.skip
theorem Yh:aL Try.prog 91=some q91:=eY rfl (by kernel_rfl)
noncomputable def q92:QC:=(aL Try.prog 92).getD QC.skip
theorem Ly:aL Try.prog 92=some q92:=eY rfl (by kernel_rfl)
noncomputable def q96:QC:=(aL Try.prog 96).getD QC.skip
theorem Yi:aL Try.prog 96=some q96:=eY rfl (by kernel_rfl)
noncomputable def q99:QC:=(aL Try.prog 99).getD QC.skip
theorem Yj:aL Try.prog 99=some q99:=eY rfl (by kernel_rfl)
noncomputable def q4:QC:=(aL Try.prog 4).getD QC.skip
theorem q4_ok:aL Try.prog 4=some q4:=eY rfl (by kernel_rfl)
theorem rK19:Try.f19.results= #[.tmp 4]:=by kernel_rfl
theorem w19_0(x n:Int){M:aA}(hM:aB M)(hnz:n≠0)(cc0:(decide ((x.tmod n)<(0:Int)))=true): ∃v_ M',Ev Try.prog [] 19 [i64 x,i64 n] M v_ M'/\Ext M M'/\aB M'/\v_=(i64 (IntKind.wrap .i64 ((x.tmod n)+n))):=by
 exact⟨i64 (IntKind.wrap .i64 ((x.tmod n)+n)),M,Ev.told_tmp (tb:=[]) (n:=60) (F:=[aM 7,aM 14]) aJ aI Try.func19 Qy (by kernel_rfl) rK19 (aG Try.prog) (fun _ _=>rfl) (by kernel_rfl) (hq (.q (.nz n) (fM true)) (q_nz hnz) (hk (bT cc0) hn)),Ext.refl M,hM,rfl⟩
theorem w19_1(x n:Int){M:aA}(hM:aB M)(hnz:n≠0)(cc0:(decide ((x.tmod n)<(0:Int)))=false): ∃v_ M',Ev Try.prog [] 19 [i64 x,i64 n] M v_ M'/\Ext M M'/\aB M'/\v_=(i64 (x.tmod n)):=by
 exact⟨i64 (x.tmod n),M,Ev.told_tmp (tb:=[]) (n:=60) (F:=[aM 7,aO 14]) aJ aI Try.func19 Qy (by kernel_rfl) rK19 (aG Try.prog) (fun _ _=>rfl) (by kernel_rfl) (hq (.q (.nz n) (fM true)) (q_nz hnz) (hk (bF cc0) hn)),Ext.refl M,hM,rfl⟩
abbrev Tv:=FC (iG (mG pI pI) fun x=>(decide (0<x.2)&&decide (x.2<2^62))=true) (plain pI) (fun x=>aC x.1 x.2)
theorem cW{x:Int×Int}{lv:List Value}{M:aA}(hM:aB M)(h:(iG (mG pI pI) fun x:Int×Int=>(decide (0<x.2)&&decide (x.2<2^62))=true) x lv M): ∃v M',lQ Try.prog [] 19 Tv lv M v M':=by
 refine FC.con h ?_
 obtain⟨⟨g0,g1,rfl,rfl,rfl⟩,hc⟩:=h
 obtain⟨x,n⟩:=x
 simp only [Bool.and_eq_true,decide_eq_true_eq] at hc⊢
 by_cases hlt:x.tmod n<0
 ·obtain⟨v,M',h1,h2,_,h3⟩:=w19_0 x n hM (by omega) (decide_eq_true hlt)
  exact⟨v,M',h1,h2,h3.trans (congrArg i64 (Qp hc.1 hc.2 hlt))⟩
 ·obtain⟨v,M',h1,h2,_,h3⟩:=w19_1 x n hM (by omega) (decide_eq_false hlt)
  exact⟨v,M',h1,h2,h3.trans (congrArg i64 (Qq hlt))⟩
end Go.Proofs.Ytdaglldahidmbaa
