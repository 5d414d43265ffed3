/-
  Package hier: each of its laws for every argument; no conditions. The last text states which.
-/
import Derived.Test.YtdaglldahidmbaaGAHL
import Derived.Test.YtdaglldahidmbaaGVG
import Derived.Test.YtdaglldahidmbaaGVB
import Derived.Test.YtdaglldahidmbaaGAmTn
set_option linter.unusedVariables false
set_option linter.unusedSimpArgs false
open Go Go.Am Go.Proofs
namespace Go.Proofs.Ytdaglldahidmbaa
set_option maxRecDepth 100000
theorem erowL(l:List E4):((l.map eRow).flatten).length=l.length*4:=by
 induction l with
 |nil=>rfl
 |cons e l ih=>simp only [List.map_cons,List.flatten_cons,List.length_append,ih,List.length_cons];simp [eRow];omega
theorem spliceF: ∀(a b:List Value) (o:Nat) (v:List Value),splice (a++b) (a.length+o) v=a++splice b o v
 | [],b,o,v=>by simp
 |x::a,b,o,[]=>by
  cases hb:a.length+1+o<;>simp [splice]
  all_goals (cases b<;>simp [splice])
 |x::a,b,o,u::v=>by
  rw[List.cons_append,List.length_cons,show a.length+1+o=(a.length+o)+1 by omega]
  simp only [splice,List.cons_append]
  rw[spliceF a b o (u::v)]
def OwnE(nx:Nat)(l:List E4)(S:Value)(M:Mem):Prop:=(S=sln∧l= [])∨ ∃b,S=sli b 0 l.length l.length∧0<l.length∧nx≤b∧M.get b=some ⟨(l.map eRow).flatten,37,4,0,true⟩
def pMkO(x:Nat×List E4)(nx:Nat)(v:Value)(M:Mem):Prop:= ∃S,v= .agg ⟨[i64 (x.1:Int),S]⟩∧OwnE nx x.2 S M
instance:AQ pMkO:=⟨fun hE ⟨S,h1,h2⟩=>⟨S,h1,h2.imp id fun⟨b,q1,q2,q3,q4⟩=>⟨b,q1,q2,q3,hE _ _ q4⟩⟩⟩
theorem ownE_of{M0 M M':Mem}{S:Value}{l:List E4}{p r6:Nat}(h:AccC 37 4 M0 [p,r6] l.length ((l.map eRow).flatten) S M)(hk: ∀id,id≠r6→M'.get id=M.get id):OwnE M0.next l S M':=by
 rcases h with⟨rfl,h0,_⟩|⟨b,rfl,h2,_,h3,h5,h6⟩
 ·exact .inl ⟨rfl,List.eq_nil_of_length_eq_zero h0⟩
 ·exact .inr ⟨b,rfl,h2,h3,(hk b (fun e=>h5 (by simp [e]))).trans h6⟩
theorem w9b(size:Int)(ans:Option Addr)(cns:Nat)(ns:List Int)(md:Int){M:Mem}(hM:MemOk M)(hns:pInts ns (.slice ans ns.length cns) M): ∃v_ M',Ev Try.prog [] 10 [i64 size,.slice ans ns.length cns,i64 md] M v_ M'∧Ext M M'∧MemOk M'∧pMkO (nMk size,mkL size ns md) M.next v_ M':=by
 obtain⟨b1,M2,eb3,em4,g5,E6,hM7⟩:=new_t hM ⟨[i64 0,sln],26,2,0,true⟩
 have nb1:M.next≤b1:=by rw[←eb3];exact(Ext.refl M).next
 have X9:=(Ext.refl M).trans E6
 obtain⟨w10,N11,M12,p13,l14,e15,E16,hM17,F18⟩:=call_fc (x:=(size,12)) hM7 con19 (⟨⟨_,_,rfl,rfl,rfl⟩,rfl⟩)
 have g20:=E16.old g5
 have ew10:w10=(i64 (modI size 12)):=F18
 subst ew10
 have X21:=X9.trans E16
 obtain⟨b22,M23,eb24,em25,g26,E27,hM28⟩:=new_t hM17 ⟨[i64 0,sln],26,2,0,true⟩
 have nb22:M.next≤b22:=by rw[←eb24];exact X21.next
 have db1b22:b1≠b22:=by have:=Mem.lt_of_get g20;omega
 have g29:=E27.old g20
 have X31:=X21.trans E27
 obtain⟨M32,q33,g34,kp35,X36,hM37,nx38⟩:=store_t (o:=0) (v:=(.agg ⟨[i64 (IntKind.wrap .i64 ((1:Int)+(modI size 12))),sln]⟩)) (new:= [i64 (IntKind.wrap .i64 ((1:Int)+(modI size 12))),sln]) X31 nb22 hM28 dS26 g26 rfl rfl (Nat.zero_le _) (Nat.le_of_ble_eq_true rfl) rfl
 replace g34:M32.get b22=some ⟨[i64 (IntKind.wrap .i64 ((1:Int)+(modI size 12))),sln],26,2,0,true⟩:=g34
 have g39:=(kp35 _ db1b22).trans g29
 obtain⟨M43,hL44,X45,hM46,gq47,S40,gs42,A41⟩:=loop9 (md:=md) hM37 X36 hns nb22 (N:=(nMk size:Int)) (by rw[←nMk_eq];exact g34) g39 (Ne.symm db1b22) (by have:=nMk_range size;simp only [Bool.and_eq_true,decide_eq_true_eq];omega)
 have hcS:isCell S40=true:=AccC.isCell A41
 obtain⟨M48,q49,g50,kp51,X52,hM53,nx54⟩:=store_t (o:=0) (v:=(.agg ⟨[i64 ((nMk size:Int)),S40]⟩)) (new:= [i64 ((nMk size:Int)),S40]) X45 nb1 hM46 dS26 gq47 rfl (by show(isCell (i64 _)&&(isCell S40&&true))=true;rw[hcS];rfl) (Nat.zero_le _) (Nat.le_of_ble_eq_true rfl) rfl
 replace g50:M48.get b1=some ⟨[i64 ((nMk size:Int)),S40],26,2,0,true⟩:=g50
 have hraw:=w9_raw size ans cns ns md M b1 M2 M12 b22 M23 M32 S40 M43 M48
 exact⟨.agg ⟨[i64 ((nMk size:Int)),S40]⟩,M48,Ev.told_cell noNumP mixedP Try.func10 q10_ok (by kernel_rfl) rK10 (fun B=>sb1 (sbQ 19 Q19 (sbN _)) 0 hL44) (fun _ h=>blksF_one h) hraw (aload_agg (a:=⟨b1,0,none⟩) dA26 dS26 g50 rfl) (hk (q_eq (by rw[←eb3,←em4];kernel_rfl) Nat.one_ne_zero) (hk (q_call rfl p13 l14 e15) (hk (q_eq (by rw[←eb24,←em25];kernel_rfl) Nat.one_ne_zero) (hk (q_st q33) (hk (q_blk rfl) (hk (lA ⟨dA26,dS26⟩ gs42 rfl) (hk (q_st q49) hn))))))),X52,hM53,⟨_,rfl,ownE_of A41 kp51⟩⟩
abbrev Q10b:=FC (as3 pI pInts pI) pMkO (fun x:Int×List Int×Int=>(nMk x.1,mkL x.1 x.2.1 x.2.2))
theorem con10b{x:Int×List Int×Int}{lv:List Value}{M:Mem}(hM:MemOk M)(h:(as3 pI pInts pI) x lv M): ∃v M',Con Try.prog [] 10 Q10b lv M v M':=by
 refine FC.con h ?_
 obtain⟨g0,g1,g2,rfl,k0,k1,k2⟩:=h
 obtain⟨size,ns,md⟩:=x
 obtain rfl:=k0
 obtain rfl:=k2
 obtain⟨a,c,rfl⟩:=GRowsAt.form k1
 obtain⟨v,M',h1,h2,_,h3⟩:=w9b size a c ns md hM k1
 exact⟨v,M',h1,h2,h3⟩
abbrev Q9:=FC as0 (plain pB) (fun _=>true)
theorem con9{x:Unit}{lv:List Value}{M:Mem}(hM:MemOk M)(h:as0 x lv M): ∃v M',Con Try.prog [] 9 Q9 lv M v M':=by
 refine FC.con h ?_
 obtain rfl:=h
 exact⟨_,M,Ev.of_spec okKnown rfl,Ext.refl M,rfl⟩
theorem rK16:Try.f16.results= #[.tmp 4]:=by kernel_rfl
theorem w16_0(x n:Int){M:Mem}(hM:MemOk M)(hnz:n≠0)(cc0:(decide ((x.tmod n)<(0:Int)))=true): ∃v_ M',Ev Try.prog [] 16 [i64 x,i64 n] M v_ M'∧Ext M M'∧MemOk M'∧v_=(i64 (IntKind.wrap .i64 ((x.tmod n)+n))):=by
 have hraw:oT Try.prog [] 60 Try.f16 q16 [i64 x,i64 n] M [ttT 7,ttT 14] 4=some (.ret,some (i64 (IntKind.wrap .i64 ((x.tmod n)+n))),M,[.q (.nz n) (ansB true),qT (decide ((x.tmod n)<(0:Int)))]):=by kernel_rfl
 exact⟨i64 (IntKind.wrap .i64 ((x.tmod n)+n)),M,Ev.told_tmp noNumP mixedP Try.func16 q16_ok (by kernel_rfl) rK16 (specs_none Try.prog) (fun _ _=>rfl) hraw (hk (q_nz hnz) (hk (bT cc0) hn)),Ext.refl M,hM,rfl⟩
theorem w16_1(x n:Int){M:Mem}(hM:MemOk M)(hnz:n≠0)(cc0:(decide ((x.tmod n)<(0:Int)))=false): ∃v_ M',Ev Try.prog [] 16 [i64 x,i64 n] M v_ M'∧Ext M M'∧MemOk M'∧v_=(i64 (x.tmod n)):=by
 have hraw:oT Try.prog [] 60 Try.f16 q16 [i64 x,i64 n] M [ttT 7,ttF 14] 4=some (.ret,some (i64 (x.tmod n)),M,[.q (.nz n) (ansB true),qF (decide ((x.tmod n)<(0:Int)))]):=by kernel_rfl
 exact⟨i64 (x.tmod n),M,Ev.told_tmp noNumP mixedP Try.func16 q16_ok (by kernel_rfl) rK16 (specs_none Try.prog) (fun _ _=>rfl) hraw (hk (q_nz hnz) (hk (bF cc0) hn)),Ext.refl M,hM,rfl⟩
abbrev Q16:=FC (asP (as2 pI pI) fun x=>(decide (0<x.2)&&decide (x.2<2^62))=true) (plain pI) (fun x=>modI x.1 x.2)
theorem con16{x:Int×Int}{lv:List Value}{M:Mem}(hM:MemOk M)(h:(asP (as2 pI pI) fun x:Int×Int=>(decide (0<x.2)&&decide (x.2<2^62))=true) x lv M): ∃v M',Con Try.prog [] 16 Q16 lv M v M':=by
 refine FC.con h ?_
 obtain⟨⟨g0,g1,rfl,rfl,rfl⟩,hc⟩:=h
 obtain⟨x,n⟩:=x
 simp only [Bool.and_eq_true,decide_eq_true_eq] at hc⊢
 by_cases hlt:x.tmod n<0
 ·obtain⟨v,M',h1,h2,_,h3⟩:=w16_0 x n hM (by omega) (decide_eq_true hlt)
  exact⟨v,M',h1,h2,h3.trans (congrArg i64 (modI_neg hc.1 hc.2 hlt))⟩
 ·obtain⟨v,M',h1,h2,_,h3⟩:=w16_1 x n hM (by omega) (decide_eq_false hlt)
  exact⟨v,M',h1,h2,h3.trans (congrArg i64 (modI_pos hlt))⟩
theorem r7a(q1 q2 e1 e2 k i n:Nat)(cr1 cr2:List Value)(z0:Int)(z1:Int){M M0:Mem}(hM:MemOk M)(X0:Ext M0 M)(gq1:M.get q1=some ⟨[i64 n,sli e1 0 k k],26,2,0,true⟩)(gq2:M.get q2=some ⟨[i64 n,sli e2 0 k k],26,2,0,true⟩)(ne1:M0.next≤e1)(ne2:M0.next≤e2)(ge1:M.get e1=some ⟨cr1,37,4,0,true⟩)(ge2:M.get e2=some ⟨cr2,37,4,0,true⟩)(dq1e1:q1≠e1)(dq2e1:q2≠e1)(dq1e2:q1≠e2)(dq2e2:q2≠e2)(de1e2:e1≠e2)(cc0:(decide (((i:Int))<((k:Int))))=true)(hc0:(cr1)[0+((i:Int):Int).toNat*4+3]?=some (i64 z0))(hof1:0+((i:Int):Int).toNat*4+3+1≤(cr1).length)(hc2:((splice cr1 (0+((i:Int):Int).toNat*4+3) [i64 (modI z0 1000)]))[0+((i:Int):Int).toNat*4+3]?=some (i64 z1))(hof3:0+((i:Int):Int).toNat*4+3+1≤(cr2).length): ∃T1 M',Rd Try.prog [] (q7.loopAt 0) Try.f7.ntmps (fr [(7,(pt q1 0)),(8,(pt q2 0)),(9,(i64 ((i:Int))))]) M .normal T1 M'∧ [7,8,9].map T1.get= [some (pt q1 0),some (pt q2 0),some (i64 (IntKind.wrap .i64 (((i:Int))+(1:Int))))]∧Ext M0 M'∧MemOk M'∧M'.get q1=some ⟨[i64 ((n:Int)),sli e1 0 k k],26,2,0,true⟩∧M'.get q2=some ⟨[i64 ((n:Int)),sli e2 0 k k],26,2,0,true⟩∧M'.get e1=some ⟨splice cr1 (0+((i:Int):Int).toNat*4+3) [i64 (modI z0 1000)],37,4,0,true⟩∧M'.get e2=some ⟨splice cr2 (0+((i:Int):Int).toNat*4+3) [i64 (IntKind.wrap .i64 ((2:Int)*z1))],37,4,0,true⟩:=by
 obtain⟨R1,eR2⟩: ∃m:Mem,m=Mem.mk M.blks M.next M.hide []:=⟨_,rfl⟩
 have X3:Ext (Mem.mk M0.blks M0.next M0.hide []) R1:=by rw[eR2];exact Ext.aside (X0)
 have lg4:R1.log= []:=by rw[eR2]
 have hM5:MemOk R1:=by rw[eR2];exact MemOk.log hM
 have ltq1M:q1<M.next:=by have h:=Mem.lt_of_get gq1;exact h
 have g6:R1.get q1=some ⟨[i64 ((n:Int)),sli e1 0 k k],26,2,0,true⟩:=by rw[eR2];exact gq1
 have g7:R1.get q2=some ⟨[i64 ((n:Int)),sli e2 0 k k],26,2,0,true⟩:=by rw[eR2];exact gq2
 have g8:R1.get e1=some ⟨cr1,37,4,0,true⟩:=by rw[eR2];exact ge1
 have g9:R1.get e2=some ⟨cr2,37,4,0,true⟩:=by rw[eR2];exact ge2
 obtain⟨w10,N11,M12,p13,l14,e15,E16,hM17,F18⟩:=call_fc (x:=(z0,1000)) hM5 con16 (⟨⟨_,_,rfl,rfl,rfl⟩,rfl⟩)
 have g20:=E16.old g6
 have g21:=E16.old g7
 have g22:=E16.old g8
 have g23:=E16.old g9
 have ew10:w10=(i64 (modI z0 1000)):=F18
 subst ew10
 have lg24:M12.log= []:=by rw[←e15];exact lg4
 have X25:=X3.trans E16
 obtain⟨M26,q27,g28,kp29,X30,hM31,nx32⟩:=store_t (o:=0+((i:Int):Int).toNat*4+3) (v:=(i64 (modI z0 1000))) (new:=splice cr1 (0+((i:Int):Int).toNat*4+3) [i64 (modI z0 1000)]) X25 ne1 hM17 dS3 g22 rfl rfl (Nat.zero_le _) hof1 rfl
 replace g28:M26.get e1=some ⟨splice cr1 (0+((i:Int):Int).toNat*4+3) [i64 (modI z0 1000)],37,4,0,true⟩:=g28
 have g33:=(kp29 _ dq1e1).trans g20
 have g34:=(kp29 _ dq2e1).trans g21
 have g35:=(kp29 _ (Ne.symm de1e2)).trans g23
 have lg36:M26.log= [e1]:=by rw[nx32,lg24]
 obtain⟨M37,ef38⟩: ∃m:Mem,m=(Mem.mk M26.blks M26.next M26.hide (M26.log++M.log)):=⟨_,rfl⟩
 have X39:Ext M0 M37:=by rw[ef38];exact Ext.join (X0) (X30)
 have hM40:MemOk M37:=by rw[ef38];exact hM31
 have g41:M37.get q1=some ⟨[i64 ((n:Int)),sli e1 0 k k],26,2,0,true⟩:=by rw[ef38];exact g33
 have g42:M37.get q2=some ⟨[i64 ((n:Int)),sli e2 0 k k],26,2,0,true⟩:=by rw[ef38];exact g34
 have g43:M37.get e1=some ⟨splice cr1 (0+((i:Int):Int).toNat*4+3) [i64 (modI z0 1000)],37,4,0,true⟩:=by rw[ef38];exact g28
 have g44:M37.get e2=some ⟨cr2,37,4,0,true⟩:=by rw[ef38];exact g35
 obtain⟨M45,q46,g47,kp48,X49,hM50,nx51⟩:=store_t (o:=0+((i:Int):Int).toNat*4+3) (v:=(i64 (IntKind.wrap .i64 ((2:Int)*z1)))) (new:=splice cr2 (0+((i:Int):Int).toNat*4+3) [i64 (IntKind.wrap .i64 ((2:Int)*z1))]) X39 ne2 hM40 dS3 g44 rfl rfl (Nat.zero_le _) hof3 rfl
 replace g47:M45.get e2=some ⟨splice cr2 (0+((i:Int):Int).toNat*4+3) [i64 (IntKind.wrap .i64 ((2:Int)*z1))],37,4,0,true⟩:=g47
 have g52:=(kp48 _ dq1e2).trans g41
 have g53:=(kp48 _ dq2e2).trans g42
 have g54:=(kp48 _ de1e2).trans g43
 have hraw:oR Try.prog [] 60 Try.f7 (q7.loopAt 0) [(7,(pt q1 0)),(8,(pt q2 0)),(9,(i64 ((i:Int))))] M [ttL 5 (sli e1 0 k k),ttT 10,ttL 14 (sli e1 0 k k),ttL 20 (sli e1 0 k k),ttT 24,ttL 28 (i64 z0),ttV 30 (i64 (modI z0 1000)) M12,ttT 32,ttS 36 M26,ttL 40 (sli e2 0 k k),ttL 46 (sli e1 0 k k),ttT 50,ttL 54 (i64 z1),ttT 58,ttS 62 M45] [7,8,9]=some (.normal,[some (pt q1 0),some (pt q2 0),some (i64 (IntKind.wrap .i64 (((i:Int))+(1:Int))))],M45,[qL 24 q1 1 M (sli e1 0 k k),qT (decide (((i:Int))<((k:Int)))),qL 24 q1 1 (Mem.mk M.blks M.next M.hide []) (sli e1 0 k k),qT (Nat.blt q1 M.next),qL 24 q1 1 (Mem.mk M.blks M.next M.hide []) (sli e1 0 k k),.q (.inb ((i:Int)) k) (ansB true),qL 3 e1 (0+((i:Int):Int).toNat*4+3) (Mem.mk M.blks M.next M.hide []) (i64 z0),qC 16 [i64 z0,i64 1000] (Mem.mk M.blks M.next M.hide []) (i64 (modI z0 1000)) M12,.q (.inb ((i:Int)) k) (ansB true),qS 3 e1 (0+((i:Int):Int).toNat*4+3) (i64 (modI z0 1000)) (Mem.mk M12.blks M12.next M.hide M12.log) M26,qT (apartN [q1] M26.log),qL 24 q2 1 (Mem.mk M26.blks M26.next M.hide (M26.log++M.log)) (sli e2 0 k k),qL 24 q1 1 (Mem.mk M26.blks M26.next M.hide (M26.log++M.log)) (sli e1 0 k k),.q (.inb ((i:Int)) k) (ansB true),qL 3 e1 (0+((i:Int):Int).toNat*4+3) (Mem.mk M26.blks M26.next M.hide (M26.log++M.log)) (i64 z1),.q (.inb ((i:Int)) k) (ansB true),qS 3 e2 (0+((i:Int):Int).toNat*4+3) (i64 (IntKind.wrap .i64 ((2:Int)*z1))) (Mem.mk M26.blks M26.next M.hide (M26.log++M.log)) M45]):=by kernel_rfl
 have rw0:Mem.mk M.blks M.next M.hide []=R1:=eR2.symm
 have rw1:Mem.mk M12.blks M12.next M.hide M12.log=M12:=by rw[(show M.hide=M12.hide from((X0).hide.trans (X25).hide.symm))]
 have rw3:(Mem.mk M26.blks M26.next M.hide (M26.log++M.log))=(Mem.mk M26.blks M26.next M26.hide (M26.log++M.log)):=by rw[(show M.hide=M26.hide from((X0).hide.trans (X30).hide.symm))]
 have rw4:(Mem.mk M26.blks M26.next M26.hide (M26.log++M.log))=M37:=ef38.symm
 try rw[rw0] at hraw
 try rw[rw1] at hraw
 try rw[rw3] at hraw
 try rw[rw4] at hraw
 obtain⟨T1,h1,h2⟩:=Rd.told noNumP mixedP (fun B=>sb0 (sbQ 16 Q16 (sbN _))) (fun _ _=>rfl) hraw (hk (lC dC24 gq1 rfl) (hk (bT cc0) (hk (lC dC24 g6 rfl) (hk (q_lt ltq1M) (hk (lC dC24 g6 rfl) (hk (q_inb (by omega) (by simp at cc0;omega)) (hk (q_ld (aload_cell (a:=⟨e1,0+((i:Int):Int).toNat*4+3,none⟩) dC3 g8 hc0)) (hk (q_call rfl p13 l14 e15) (hk (q_inb (by omega) (by simp at cc0;omega)) (hk (q_st q27) (hk (q_apart (by rw[lg36];simp<;>omega)) (hk (lC dC24 g42 rfl) (hk (lC dC24 g41 rfl) (hk (q_inb (by omega) (by simp at cc0;omega)) (hk (q_ld (aload_cell (a:=⟨e1,0+((i:Int):Int).toNat*4+3,none⟩) dC3 g43 hc2)) (hk (q_inb (by omega) (by simp at cc0;omega)) (hk (q_st q46) hn)))))))))))))))))
 exact⟨T1,M45,h1,h2,X49,hM50,g52,g53,g54,g47⟩
theorem r7ax(q1 q2 k ce i n:Nat)(ae:Option Addr)(S2:Value){M:Mem}(hln:ae.isNone=true→k=0∧ce=0)(gq1:M.get q1=some ⟨[i64 n,.slice ae k ce],26,2,0,true⟩)(gq2:M.get q2=some ⟨[i64 n,S2],26,2,0,true⟩)(cc0:(decide (((i:Int))<((k:Int))))=false): ∃T1,Rd Try.prog [] (q7.loopAt 0) Try.f7.ntmps (fr [(7,(pt q1 0)),(8,(pt q2 0)),(9,(i64 ((i:Int))))]) M (.exit 0) T1 M∧ [7,8].map T1.get= [some (pt q1 0),some (pt q2 0)]:=by
 have hraw:oR Try.prog [] 60 Try.f7 (q7.loopAt 0) [(7,(pt q1 0)),(8,(pt q2 0)),(9,(i64 ((i:Int))))] M [ttL 5 (.slice ae k ce),ttT 7,ttF 10] [7,8]=some ((.exit 0),[some (pt q1 0),some (pt q2 0)],M,[qL 24 q1 1 M (.slice ae k ce),.ln ae k ce,qF (decide (((i:Int))<((k:Int))))]):=by kernel_rfl
 obtain⟨T1,h1,h2⟩:=Rd.told noNumP mixedP (specs_none Try.prog) (fun _ _=>rfl) hraw (hk (lC dC24 gq1 rfl) (hk (lN hln) (hk (bF cc0) hn)))
 exact⟨T1,h1,h2⟩
def pTo(g:E4→E4)(l:List E4)(i:Nat):List E4:=(l.take i).map g++l.drop i
theorem pTo_len(g:E4→E4){l:List E4}{i:Nat}(hi:i≤l.length):(pTo g l i).length=l.length:=by simp [pTo];omega
theorem pTo_all(g:E4→E4)(l:List E4):pTo g l l.length=l.map g:=by simp [pTo]
theorem pTo_zero(g:E4→E4)(l:List E4):pTo g l 0=l:=by simp [pTo]
theorem pTo_pre(g:E4→E4){l:List E4}{i:Nat}(hi:i<l.length):((((l.take i).map g).map eRow).flatten).length=i*4:=by rw[erowL,List.length_map,List.length_take,Nat.min_eq_left (Nat.le_of_lt hi)]
theorem pTo_cut(g:E4→E4){l:List E4}{i:Nat}(hi:i<l.length):((pTo g l i).map eRow).flatten=(((l.take i).map g).map eRow).flatten++(eRow l[i]++((l.drop (i+1)).map eRow).flatten):=by
 unfold pTo
 rw[List.drop_eq_getElem_cons hi,List.map_append,List.flatten_append]
 rfl
theorem pTo_next(g:E4→E4){l:List E4}{i:Nat}(hi:i<l.length):((pTo g l (i+1)).map eRow).flatten=(((l.take i).map g).map eRow).flatten++(eRow (g l[i])++((l.drop (i+1)).map eRow).flatten):=by
 unfold pTo
 rw[List.take_succ_eq_append_getElem hi,List.map_append,List.map_append,List.map_append,List.flatten_append,List.flatten_append,List.append_assoc]
 rfl
theorem pTo_cell(g:E4→E4){l:List E4}{i:Nat}(hi:i<l.length):(((pTo g l i).map eRow).flatten)[i*4+3]?=some (i64 l[i].c):=by
 rw[pTo_cut g hi,←pTo_pre g hi,List.getElem?_append_right (by omega),show∀k:Nat,k+3-k=3 from fun k=>by omega]
 rfl
theorem pTo_step{g:E4→E4}(hg: ∀e,(g e).f=e.f∧(g e).t=e.t∧(g e).m=e.m){l:List E4}{i:Nat}(hi:i<l.length):splice (((pTo g l i).map eRow).flatten) (i*4+3) [i64 (g l[i]).c]=((pTo g l (i+1)).map eRow).flatten:=by
 rw[pTo_cut g hi,pTo_next g hi,←pTo_pre g hi,spliceF]
 refine congrArg _ ?_
 obtain⟨h1,h2,h3⟩:=hg l[i]
 simp only [eRow,h1,h2,h3]
 rw[splice_one _ 3 _ (by simp)]
 rfl
theorem pTo_got{g:E4→E4}(hg: ∀e,(g e).f=e.f∧(g e).t=e.t∧(g e).m=e.m){l:List E4}{i:Nat}(hi:i<l.length):(splice (((pTo g l i).map eRow).flatten) (i*4+3) [i64 (g l[i]).c])[i*4+3]?=some (i64 (g l[i]).c):=by
 rw[pTo_step hg hi,pTo_next g hi,←pTo_pre g hi,List.getElem?_append_right (by omega),show∀k:Nat,k+3-k=3 from fun k=>by omega]
 rfl
def c2E(e:E4):E4:=⟨e.f,e.t,e.m,2*modI e.c 1000⟩
theorem c2E_map(l:List E4):l.map c2E=(l.map c1E).map dblE:=by rw[List.map_map];rfl
theorem loop7{q1 q2 n nx1 nx2:Nat}{S1 S2:Value}{l:List E4}{M0 M:Mem}(hM:MemOk M)(X:Ext M0 M)(gq1:M.get q1=some ⟨[i64 n,S1],26,2,0,true⟩)(gq2:M.get q2=some ⟨[i64 n,S2],26,2,0,true⟩)(h1:OwnE nx1 l S1 M)(h2:OwnE nx2 l S2 M)(hn1:M0.next≤nx1)(hn2:M0.next≤nx2)(hlt1: ∀b,S1=sli b 0 l.length l.length→b<nx2)(hd1: ∀b,(S1=sli b 0 l.length l.length∨S2=sli b 0 l.length l.length)→q1≠b∧q2≠b)(hl:l.length≤400):
  ∃M',LoopR Try.prog [] (q7.loopAt 0) Try.f7.ntmps (fr [(7,pt q1 0),(8,pt q2 0),(9,i64 ((0:Nat):Int))]) M (.exit 0) (fr [(7,pt q1 0),(8,pt q2 0)]) M'∧Ext M0 M'∧MemOk M'∧M'.get q1=some ⟨[i64 n,S1],26,2,0,true⟩∧M'.get q2=some ⟨[i64 n,S2],26,2,0,true⟩∧OwnE nx1 (l.map c1E) S1 M'∧OwnE nx2 (l.map c2E) S2 M':=by
 rcases h1 with⟨rfl,rfl⟩|⟨e1,rfl,p1,p2,p3⟩
 ·rcases h2 with⟨rfl,_⟩|⟨e2,rfl,k1,_⟩
  ·obtain⟨_,M',h1,h2,h3,h4,h5⟩:=LoopR.for (P:=Try.prog) (GL:= []) (b:=q7.loopAt 0) (nt:=Try.f7.ntmps) (id:=0) (σ:=Unit) (n:=0) (Inv:=fun _ _ M1=>Ext M0 M1∧MemOk M1∧M1.get q1=some ⟨[i64 n,sln],26,2,0,true⟩∧M1.get q2=some ⟨[i64 n,sln],26,2,0,true⟩)
    (F:=fun i _=> [(7,pt q1 0),(8,pt q2 0),(9,i64 ((i:Nat):Int))]) (O:=fun _=> [(7,pt q1 0),(8,pt q2 0)])
    (by rintro i _ M1 hi;omega)
    (by
     rintro _ M1 ⟨X1,hM1,hg1,hg2⟩
     exact r7ax q1 q2 0 0 0 n none sln (M:=M1) (fun _=>⟨rfl,rfl⟩) hg1 hg2 (decide_eq_false (by omega)))
    0 0 (by omega) (s:=()) (M:=M) ⟨X,hM,gq1,gq2⟩
   exact⟨M',h1,h2,h3,h4,h5,.inl ⟨rfl,rfl⟩,.inl ⟨rfl,rfl⟩⟩
  ·cases k1
 ·rcases h2 with⟨_,rfl⟩|⟨e2,rfl,k1,k2,k3⟩
  ·cases p1
  ·have d12:e1≠e2:=by have:=hlt1 e1 rfl;omega
   obtain⟨d1,d2⟩:=hd1 e1 (.inl rfl)
   obtain⟨d3,d4⟩:=hd1 e2 (.inr rfl)
   obtain⟨_,M',h1,h2,h3,h4,h5,h6,h7⟩:=LoopR.for (P:=Try.prog) (GL:= []) (b:=q7.loopAt 0) (nt:=Try.f7.ntmps) (id:=0) (σ:=Unit) (n:=l.length) (Inv:=fun i _ M1=>Ext M0 M1∧MemOk M1∧M1.get q1=some ⟨[i64 n,sli e1 0 l.length l.length],26,2,0,true⟩∧M1.get q2=some ⟨[i64 n,sli e2 0 l.length l.length],26,2,0,true⟩∧M1.get e1=some ⟨((pTo c1E l i).map eRow).flatten,37,4,0,true⟩∧M1.get e2=some ⟨((pTo c2E l i).map eRow).flatten,37,4,0,true⟩)
    (F:=fun i _=> [(7,pt q1 0),(8,pt q2 0),(9,i64 ((i:Nat):Int))]) (O:=fun _=> [(7,pt q1 0),(8,pt q2 0)])
    (by
     rintro i _ M1 hi ⟨X1,hM1,hg1,hg2,hb1,hb2⟩
     have hr:=modI_range (x:=l[i].c) (n:=1000) (by decide)
     have eo:0+((i:Int):Int).toNat*4+3=i*4+3:=by omega
     have hw:IntKind.wrap .i64 ((2:Int)*modI l[i].c 1000)=2*modI l[i].c 1000:=Go.Am.wrap_small (by omega) (by omega)
     obtain⟨T1,M2,h1,h2,h3,h4,h5,h6,h7,h8⟩:=r7a q1 q2 e1 e2 l.length i n _ _ l[i].c (modI l[i].c 1000) hM1 X1 hg1 hg2 (Nat.le_trans hn1 p2) (Nat.le_trans hn2 k2) hb1 hb2 d1 d2 d3 d4 d12 (decide_eq_true (by omega)) (by rw[eo];exact pTo_cell c1E hi) (by rw[eo,erowL,pTo_len c1E (by omega)];omega) (by rw[eo];exact pTo_got (g:=c1E) (fun _=>⟨rfl,rfl,rfl⟩) hi) (by rw[eo,erowL,pTo_len c2E (by omega)];omega)
     rw[wrap_succ (by omega)] at h2
     refine⟨(),T1,M2,h1,h2,h3,h4,h5,h6,?_,?_⟩
     ·rw[h7,eo];exact congrArg (fun x=>some (⟨x,37,4,0,true⟩:ABlk)) (pTo_step (g:=c1E) (fun _=>⟨rfl,rfl,rfl⟩) hi)
     ·rw[h8,eo,hw];exact congrArg (fun x=>some (⟨x,37,4,0,true⟩:ABlk)) (pTo_step (g:=c2E) (fun _=>⟨rfl,rfl,rfl⟩) hi))
    (by
     rintro _ M1 ⟨X1,hM1,hg1,hg2,_⟩
     exact r7ax q1 q2 l.length l.length l.length n (some ⟨e1,0,none⟩) (sli e2 0 l.length l.length) (M:=M1) (fun h=>by cases h) hg1 hg2 (decide_eq_false (by omega)))
    l.length 0 (by omega) (s:=()) (M:=M) ⟨X,hM,gq1,gq2,by rw[pTo_zero];exact p3,by rw[pTo_zero];exact k3⟩
   rw[pTo_all] at h6 h7
   exact⟨M',h1,h2,h3,h4,h5,.inr ⟨e1,by rw[List.length_map],by rw[List.length_map];exact p1,p2,h6⟩,.inr ⟨e2,by rw[List.length_map],by rw[List.length_map];exact k1,k2,h7⟩⟩
theorem neqF(z:Int):(!(z==z))=false:=by rw[beq_self_eq_true];rfl
theorem row_lt{α:Type}{g:α→List Value}{w b o n c:Nat}{l:List α}{M:Mem}(h:GRowsAt g w M (sli b o n c) l)(hl:0<l.length):b<M.next:=by
 rcases h.at_ with⟨_,_,h0⟩|⟨b',o',c',blk,pre,post,h1,h2,_⟩
 ·omega
 ·simp only [Value.slice.injEq,Option.some.injEq,Addr.mk.injEq] at h1
  rw[h1.1.1];exact Mem.lt_of_get h2
theorem r7c(x1 x2 ab ao ac cb co cc k i:Nat)(u0 u1 u2 u4 u5 v0 v1 v2 v4 v5:Value)(x:A7){M M0:Mem}(hM:MemOk M)(X0:Ext M0 M)(hab:ab<M0.next)(hcb:cb<M0.next)(gx1:M.get x1=some ⟨[u0,u1,u2,sli ab ao k ac,u4,u5],31,6,0,true⟩)(gx2:M.get x2=some ⟨[v0,v1,v2,sli cb co k cc,v4,v5],31,6,0,true⟩)(cc0:(decide (((i:Int))<((k:Int))))=true)(cc1:((IntKind.wrap .i64 ((2:Int)*x.c))==((2*x.c)))=true)(hld0:aload Try.prog 42 ⟨ab,ao+((i:Int):Int).toNat*7,none⟩ M0=some (.agg ⟨[i64 x.f,i64 x.t,i64 x.m,i64 x.c,i64 x.e,i64 x.a,i64 x.b]⟩))(hld1:aload Try.prog 42 ⟨cb,co+((i:Int):Int).toNat*7,none⟩ M0=some (.agg ⟨[i64 x.f,i64 x.t,i64 x.m,i64 ((2*x.c)),i64 x.e,i64 x.a,i64 x.b]⟩)): ∃T1 M',Rd Try.prog [] (q7.loopAt 2) Try.f7.ntmps (fr [(10,(pt x1 0)),(11,(pt x2 0)),(12,(i64 ((i:Int))))]) M .normal T1 M'∧ [10,11,12].map T1.get= [some (pt x1 0),some (pt x2 0),some (i64 (IntKind.wrap .i64 (((i:Int))+(1:Int))))]∧Ext M0 M'∧MemOk M'∧M'.get x1=some ⟨[u0,u1,u2,sli ab ao k ac,u4,u5],31,6,0,true⟩∧M'.get x2=some ⟨[v0,v1,v2,sli cb co k cc,v4,v5],31,6,0,true⟩:=by
 obtain⟨R1,eR2⟩: ∃m:Mem,m=Mem.mk M.blks M.next M.hide []:=⟨_,rfl⟩
 have X3:Ext (Mem.mk M0.blks M0.next M0.hide []) R1:=by rw[eR2];exact Ext.aside (X0)
 have lg4:R1.log= []:=by rw[eR2]
 have nxR1:R1.next=M.next:=by rw[eR2]
 have hM5:MemOk R1:=by rw[eR2];exact MemOk.log hM
 have ltcbM:cb<M.next:=Nat.lt_of_lt_of_le hcb (X0).next
 have ltx1M:x1<M.next:=by have h:=Mem.lt_of_get gx1;exact h
 have g6:R1.get x1=some ⟨[u0,u1,u2,sli ab ao k ac,u4,u5],31,6,0,true⟩:=by rw[eR2];exact gx1
 have ltx2M:x2<M.next:=by have h:=Mem.lt_of_get gx2;exact h
 have g7:R1.get x2=some ⟨[v0,v1,v2,sli cb co k cc,v4,v5],31,6,0,true⟩:=by rw[eR2];exact gx2
 obtain⟨b8,M9,eb10,em11,g12,E13,hM14⟩:=new_t hM5 ⟨[i64 0,i64 0,i64 0,i64 0,i64 0,i64 0,i64 0],42,7,0,true⟩
 have nb8:M0.next≤b8:=by rw[←eb10];exact X3.next
 have dx1b8:x1≠b8:=by have:=Mem.lt_of_get g6;omega
 have dx2b8:x2≠b8:=by have:=Mem.lt_of_get g7;omega
 have g15:=E13.old g6
 have g16:=E13.old g7
 have lg17:M9.log= []:=by rw[←em11];exact lg4
 have nx18:=E13.next
 have X19:=X3.trans E13
 obtain⟨b20,M21,eb22,em23,g24,E25,hM26⟩:=new_t hM14 ⟨[i64 0,i64 0,i64 0,i64 0,i64 0,i64 0,i64 0],42,7,0,true⟩
 have nb20:M0.next≤b20:=by rw[←eb22];exact X19.next
 have dx1b20:x1≠b20:=by have:=Mem.lt_of_get g15;omega
 have dx2b20:x2≠b20:=by have:=Mem.lt_of_get g16;omega
 have db8b20:b8≠b20:=by have:=Mem.lt_of_get g12;omega
 have g27:=E25.old g15
 have g28:=E25.old g16
 have g29:=E25.old g12
 have lg30:M21.log= []:=by rw[←em23];exact lg17
 have X32:=X19.trans E25
 obtain⟨M33,q34,g35,kp36,X37,hM38,nx39⟩:=store_t (o:=0) (v:=(.agg ⟨[i64 x.f,i64 x.t,i64 x.m,i64 x.c,i64 x.e,i64 x.a,i64 x.b]⟩)) (new:= [i64 x.f,i64 x.t,i64 x.m,i64 x.c,i64 x.e,i64 x.a,i64 x.b]) X32 nb8 hM26 dS42 g29 rfl rfl (Nat.zero_le _) (Nat.le_of_ble_eq_true rfl) rfl
 replace g35:M33.get b8=some ⟨[i64 x.f,i64 x.t,i64 x.m,i64 x.c,i64 x.e,i64 x.a,i64 x.b],42,7,0,true⟩:=g35
 have g40:=(kp36 _ dx1b8).trans g27
 have g41:=(kp36 _ dx2b8).trans g28
 have g42:=(kp36 _ (Ne.symm db8b20)).trans g24
 have lg43:M33.log= [b8]:=by rw[nx39,lg30]
 obtain⟨M44,q45,g46,kp47,X48,hM49,nx50⟩:=store_t (o:=0) (v:=(.agg ⟨[i64 x.f,i64 x.t,i64 x.m,i64 ((2*x.c)),i64 x.e,i64 x.a,i64 x.b]⟩)) (new:= [i64 x.f,i64 x.t,i64 x.m,i64 ((2*x.c)),i64 x.e,i64 x.a,i64 x.b]) X37 nb20 hM38 dS42 g42 rfl rfl (Nat.zero_le _) (Nat.le_of_ble_eq_true rfl) rfl
 replace g46:M44.get b20=some ⟨[i64 x.f,i64 x.t,i64 x.m,i64 ((2*x.c)),i64 x.e,i64 x.a,i64 x.b],42,7,0,true⟩:=g46
 have g51:=(kp47 _ dx1b20).trans g40
 have g52:=(kp47 _ dx2b20).trans g41
 have g53:=(kp47 _ db8b20).trans g35
 have lg54:M44.log= [b20,b8]:=by rw[nx50,lg43]
 obtain⟨M55,ef56⟩: ∃m:Mem,m=(Mem.mk M44.blks M44.next M44.hide (M44.log++M.log)):=⟨_,rfl⟩
 have X57:Ext M0 M55:=by rw[ef56];exact Ext.join (X0) (X48)
 have hM58:MemOk M55:=by rw[ef56];exact hM49
 have g59:M55.get x1=some ⟨[u0,u1,u2,sli ab ao k ac,u4,u5],31,6,0,true⟩:=by rw[ef56];exact g51
 have g60:M55.get x2=some ⟨[v0,v1,v2,sli cb co k cc,v4,v5],31,6,0,true⟩:=by rw[ef56];exact g52
 have g61:M55.get b8=some ⟨[i64 x.f,i64 x.t,i64 x.m,i64 x.c,i64 x.e,i64 x.a,i64 x.b],42,7,0,true⟩:=by rw[ef56];exact g53
 have g62:M55.get b20=some ⟨[i64 x.f,i64 x.t,i64 x.m,i64 ((2*x.c)),i64 x.e,i64 x.a,i64 x.b],42,7,0,true⟩:=by rw[ef56];exact g46
 have hraw:oR Try.prog [] 100 Try.f7 (q7.loopAt 2) [(10,(pt x1 0)),(11,(pt x2 0)),(12,(i64 ((i:Int))))] M [ttL 5 (sli ab ao k ac),ttT 10,ttL 14 (sli ab ao k ac),ttT 18,ttL 20 (.agg ⟨[i64 x.f,i64 x.t,i64 x.m,i64 x.c,i64 x.e,i64 x.a,i64 x.b]⟩),ttL 24 (sli cb co k cc),ttT 28,ttL 30 (.agg ⟨[i64 x.f,i64 x.t,i64 x.m,i64 ((2*x.c)),i64 x.e,i64 x.a,i64 x.b]⟩),ttV 32 (pt b8 0) M9,ttV 34 (pt b20 0) (Mem.mk M21.blks M21.next (hides 0 [⟨10,1,M.next,M9.next⟩,⟨4,1,M.next,M.next⟩,⟨1,1,M.next,M.next⟩]++M.hide) M21.log),ttS 36 M33,ttS 38 M44,ttL 42 (i64 x.f),ttL 46 (i64 x.f),ttF 51,ttF 53,ttL 54 (i64 x.t),ttF 55,ttF 57,ttL 58 (i64 x.t),ttF 59,ttF 62,ttF 65,ttF 67,ttL 68 (i64 x.m),ttF 69,ttF 71,ttL 72 (i64 x.m),ttF 73,ttF 76,ttF 79,ttF 81,ttL 82 (i64 x.c),ttF 83,ttF 85,ttF 87,ttL 88 (i64 ((2*x.c))),ttF 89,ttF 92,ttF 95,ttF 97,ttL 98 (i64 x.e),ttF 99,ttF 101,ttL 102 (i64 x.e),ttF 103,ttF 106,ttF 109,ttF 111,ttL 112 (i64 x.a),ttF 113,ttF 115,ttL 116 (i64 x.a),ttF 117,ttF 120,ttF 123,ttF 125,ttL 126 (i64 x.b),ttF 127,ttF 129,ttL 130 (i64 x.b),ttF 131,ttF 134,ttF 135] [10,11,12]=some (.normal,[some (pt x1 0),some (pt x2 0),some (i64 (IntKind.wrap .i64 (((i:Int))+(1:Int))))],Mem.mk M44.blks M44.next M.hide (M44.log++M.log),[qL 28 x1 3 M (sli ab ao k ac),qT (decide (((i:Int))<((k:Int)))),qL 28 x1 3 (Mem.mk M.blks M.next M.hide []) (sli ab ao k ac),.q (.inb ((i:Int)) k) (ansB true),qL 42 ab (ao+((i:Int):Int).toNat*7) (Mem.mk M.blks M.next M.hide []) (.agg ⟨[i64 x.f,i64 x.t,i64 x.m,i64 x.c,i64 x.e,i64 x.a,i64 x.b]⟩),qL 28 x2 3 (Mem.mk M.blks M.next (hides 32 [⟨4,1,M.next,M.next⟩,⟨1,1,M.next,M.next⟩]++M.hide) []) (sli cb co k cc),qT (Nat.blt x2 M.next),.q (.inb ((i:Int)) k) (ansB true),qL 42 cb (co+((i:Int):Int).toNat*7) (Mem.mk M.blks M.next (hides 480 [⟨4,1,M.next,M.next⟩,⟨1,1,M.next,M.next⟩]++M.hide) []) (.agg ⟨[i64 x.f,i64 x.t,i64 x.m,i64 ((2*x.c)),i64 x.e,i64 x.a,i64 x.b]⟩),qT (Nat.blt cb M.next),.eq (aalloc Try.prog 42 (Mem.mk M.blks M.next (hides 0 [⟨4,1,M.next,M.next⟩,⟨1,1,M.next,M.next⟩]++M.hide) [])) (1,.val (pt b8 0),M9),.eq (aalloc Try.prog 42 (Mem.mk M9.blks M9.next (hides 0 [⟨10,1,M.next,M9.next⟩,⟨4,1,M.next,M.next⟩,⟨1,1,M.next,M.next⟩]++M.hide) M9.log)) (1,.val (pt b20 0),(Mem.mk M21.blks M21.next (hides 0 [⟨10,1,M.next,M9.next⟩,⟨4,1,M.next,M.next⟩,⟨1,1,M.next,M.next⟩]++M.hide) M21.log)),qS 42 b8 0 (.agg ⟨[i64 x.f,i64 x.t,i64 x.m,i64 x.c,i64 x.e,i64 x.a,i64 x.b]⟩) (Mem.mk (Mem.mk M21.blks M21.next (hides 0 [⟨10,1,M.next,M9.next⟩,⟨4,1,M.next,M.next⟩,⟨1,1,M.next,M.next⟩]++M.hide) M21.log).blks (Mem.mk M21.blks M21.next (hides 0 [⟨10,1,M.next,M9.next⟩,⟨4,1,M.next,M.next⟩,⟨1,1,M.next,M.next⟩]++M.hide) M21.log).next M.hide (Mem.mk M21.blks M21.next (hides 0 [⟨10,1,M.next,M9.next⟩,⟨4,1,M.next,M.next⟩,⟨1,1,M.next,M.next⟩]++M.hide) M21.log).log) M33,qS 42 b20 0 (.agg ⟨[i64 x.f,i64 x.t,i64 x.m,i64 ((2*x.c)),i64 x.e,i64 x.a,i64 x.b]⟩) (Mem.mk M33.blks M33.next M.hide M33.log) M44,qT (apartN [cb,x2] M44.log),qL 3 b8 0 (Mem.mk M44.blks M44.next M.hide (M44.log++M.log)) (i64 x.f),qL 3 b20 0 (Mem.mk M44.blks M44.next M.hide (M44.log++M.log)) (i64 x.f),qF (!(x.f==x.f)),qF (!(x.f==x.f)),qL 3 b8 1 (Mem.mk M44.blks M44.next M.hide (M44.log++M.log)) (i64 x.t),qF (!(x.f==x.f)),qF (!(x.f==x.f)),qL 3 b20 1 (Mem.mk M44.blks M44.next M.hide (M44.log++M.log)) (i64 x.t),qF (!(x.f==x.f)),qF (!(x.f==x.f)),qF (!(x.t==x.t)),qF (!(x.t==x.t)),qL 3 b8 2 (Mem.mk M44.blks M44.next M.hide (M44.log++M.log)) (i64 x.m),qF (!(x.t==x.t)),qF (!(x.t==x.t)),qL 3 b20 2 (Mem.mk M44.blks M44.next M.hide (M44.log++M.log)) (i64 x.m),qF (!(x.t==x.t)),qF (!(x.t==x.t)),qF (!(x.m==x.m)),qF (!(x.m==x.m)),qL 3 b8 3 (Mem.mk M44.blks M44.next M.hide (M44.log++M.log)) (i64 x.c),qF (!(x.m==x.m)),qF (!(x.m==x.m)),qF (!(x.m==x.m)),qL 3 b20 3 (Mem.mk M44.blks M44.next M.hide (M44.log++M.log)) (i64 ((2*x.c))),qF (!(x.m==x.m)),qF (!(x.m==x.m)),qF (!((IntKind.wrap .i64 ((2:Int)*x.c))==((2*x.c)))),qF (!((IntKind.wrap .i64 ((2:Int)*x.c))==((2*x.c)))),qL 3 b8 4 (Mem.mk M44.blks M44.next M.hide (M44.log++M.log)) (i64 x.e),qF (!((IntKind.wrap .i64 ((2:Int)*x.c))==((2*x.c)))),qF (!((IntKind.wrap .i64 ((2:Int)*x.c))==((2*x.c)))),qL 3 b20 4 (Mem.mk M44.blks M44.next M.hide (M44.log++M.log)) (i64 x.e),qF (!((IntKind.wrap .i64 ((2:Int)*x.c))==((2*x.c)))),qF (!((IntKind.wrap .i64 ((2:Int)*x.c))==((2*x.c)))),qF (!(x.e==x.e)),qF (!(x.e==x.e)),qL 3 b8 5 (Mem.mk M44.blks M44.next M.hide (M44.log++M.log)) (i64 x.a),qF (!(x.e==x.e)),qF (!(x.e==x.e)),qL 3 b20 5 (Mem.mk M44.blks M44.next M.hide (M44.log++M.log)) (i64 x.a),qF (!(x.e==x.e)),qF (!(x.e==x.e)),qF (!(x.a==x.a)),qF (!(x.a==x.a)),qL 3 b8 6 (Mem.mk M44.blks M44.next M.hide (M44.log++M.log)) (i64 x.b),qF (!(x.a==x.a)),qF (!(x.a==x.a)),qL 3 b20 6 (Mem.mk M44.blks M44.next M.hide (M44.log++M.log)) (i64 x.b),qF (!(x.a==x.a)),qF (!(x.a==x.a)),qF (!(x.b==x.b))]):=by kernel_rfl
 dsimp only at hraw
 have rw0:Mem.mk M.blks M.next M.hide []=R1:=eR2.symm
 have rw1:Mem.mk M.blks M.next (hides 32 [⟨4,1,M.next,M.next⟩,⟨1,1,M.next,M.next⟩]++M.hide) []=R1:=by rw[show hides 32 [⟨4,1,M.next,M.next⟩,⟨1,1,M.next,M.next⟩]= [] from by simp [hides,Nat.beq_refl,nxR1,show Nat.beq 1 0=false from rfl,show Nat.beq 2 0=false from rfl]];exact eR2.symm
 have rw2:Mem.mk M.blks M.next (hides 480 [⟨4,1,M.next,M.next⟩,⟨1,1,M.next,M.next⟩]++M.hide) []=R1:=by rw[show hides 480 [⟨4,1,M.next,M.next⟩,⟨1,1,M.next,M.next⟩]= [] from by simp [hides,Nat.beq_refl,nxR1,show Nat.beq 1 0=false from rfl,show Nat.beq 2 0=false from rfl]];exact eR2.symm
 have rw3:Mem.mk M.blks M.next (hides 0 [⟨4,1,M.next,M.next⟩,⟨1,1,M.next,M.next⟩]++M.hide) []=R1:=by rw[show hides 0 [⟨4,1,M.next,M.next⟩,⟨1,1,M.next,M.next⟩]= [] from by simp [hides,Nat.beq_refl,nxR1,show Nat.beq 1 0=false from rfl,show Nat.beq 2 0=false from rfl]];exact eR2.symm
 have rw5:Mem.mk M21.blks M21.next M.hide M21.log=M21:=by rw[(show M.hide=M21.hide from((X0).hide.trans (X32).hide.symm))]
 have rw6:Mem.mk M33.blks M33.next M.hide M33.log=M33:=by rw[(show M.hide=M33.hide from((X0).hide.trans (X37).hide.symm))]
 have rw8:(Mem.mk M44.blks M44.next M.hide (M44.log++M.log))=(Mem.mk M44.blks M44.next M44.hide (M44.log++M.log)):=by rw[(show M.hide=M44.hide from((X0).hide.trans (X48).hide.symm))]
 have rw9:(Mem.mk M44.blks M44.next M44.hide (M44.log++M.log))=M55:=ef56.symm
 try rw[rw0] at hraw
 try rw[rw1] at hraw
 try rw[rw2] at hraw
 try rw[rw3] at hraw
 try rw[rw5] at hraw
 try rw[rw6] at hraw
 try rw[rw8] at hraw
 try rw[rw9] at hraw
 obtain⟨T1,h1,h2⟩:=Rd.told noNumP mixedP (specs_none Try.prog) (fun _ _=>rfl) hraw (hk (lC dC28 gx1 rfl) (hk (bT cc0) (hk (lC dC28 g6 rfl) (hk (q_inb (by omega) (by simp at cc0;omega)) (hk (q_ld (aload_ext X3 hld0)) (hk (lC dC28 g7 rfl) (hk (q_lt ltx2M) (hk (q_inb (by omega) (by simp at cc0;omega)) (hk (q_ld (aload_ext X3 hld1)) (hk (q_lt ltcbM) (hk (q_eq (by rw[←eb10,←em11];kernel_rfl) Nat.one_ne_zero) (hk (q_eq (by rw[←eb22,←em23];kernel_rfl) Nat.one_ne_zero) (hk (q_st q34) (hk (q_st q45) (hk (q_apart (by rw[lg54];simp<;>omega)) (hk (lC dC3 g61 rfl) (hk (lC dC3 g62 rfl) (hk (bF (neqF _)) (hk (bF (neqF _)) (hk (lC dC3 g61 rfl) (hk (bF (neqF _)) (hk (bF (neqF _)) (hk (lC dC3 g62 rfl) (hk (bF (neqF _)) (hk (bF (neqF _)) (hk (bF (neqF _)) (hk (bF (neqF _)) (hk (lC dC3 g61 rfl) (hk (bF (neqF _)) (hk (bF (neqF _)) (hk (lC dC3 g62 rfl) (hk (bF (neqF _)) (hk (bF (neqF _)) (hk (bF (neqF _)) (hk (bF (neqF _)) (hk (lC dC3 g61 rfl) (hk (bF (neqF _)) (hk (bF (neqF _)) (hk (bF (neqF _)) (hk (lC dC3 g62 rfl) (hk (bF (neqF _)) (hk (bF (neqF _)) (hk (bF (by rw[cc1];rfl)) (hk (bF (by rw[cc1];rfl)) (hk (lC dC3 g61 rfl) (hk (bF (by rw[cc1];rfl)) (hk (bF (by rw[cc1];rfl)) (hk (lC dC3 g62 rfl) (hk (bF (by rw[cc1];rfl)) (hk (bF (by rw[cc1];rfl)) (hk (bF (neqF _)) (hk (bF (neqF _)) (hk (lC dC3 g61 rfl) (hk (bF (neqF _)) (hk (bF (neqF _)) (hk (lC dC3 g62 rfl) (hk (bF (neqF _)) (hk (bF (neqF _)) (hk (bF (neqF _)) (hk (bF (neqF _)) (hk (lC dC3 g61 rfl) (hk (bF (neqF _)) (hk (bF (neqF _)) (hk (lC dC3 g62 rfl) (hk (bF (neqF _)) (hk (bF (neqF _)) (hk (bF (neqF _)) hn)))))))))))))))))))))))))))))))))))))))))))))))))))))))))))))))))))
 exact⟨T1,M55,h1,h2,X57,hM58,g59,g60⟩
theorem r7cx(x1 x2 k ac i:Nat)(ae:Option Addr)(u0 u1 u2 u4 u5 v0 v1 v2 v3 v4 v5:Value){M:Mem}(hln:ae.isNone=true→k=0∧ac=0)(gx1:M.get x1=some ⟨[u0,u1,u2,.slice ae k ac,u4,u5],31,6,0,true⟩)(gx2:M.get x2=some ⟨[v0,v1,v2,v3,v4,v5],31,6,0,true⟩)(cc0:(decide (((i:Int))<((k:Int))))=false): ∃T1,Rd Try.prog [] (q7.loopAt 2) Try.f7.ntmps (fr [(10,(pt x1 0)),(11,(pt x2 0)),(12,(i64 ((i:Int))))]) M (.exit 2) T1 M∧ [].map T1.get= []:=by
 have hraw:oR Try.prog [] 60 Try.f7 (q7.loopAt 2) [(10,(pt x1 0)),(11,(pt x2 0)),(12,(i64 ((i:Int))))] M [ttL 5 (.slice ae k ac),ttT 7,ttF 10] []=some ((.exit 2),[],M,[qL 28 x1 3 M (.slice ae k ac),.ln ae k ac,qF (decide (((i:Int))<((k:Int))))]):=by kernel_rfl
 obtain⟨T1,h1,h2⟩:=Rd.told noNumP mixedP (specs_none Try.prog) (fun _ _=>rfl) hraw (hk (lC dC28 gx1 rfl) (hk (lN hln) (hk (bF cc0) hn)))
 exact⟨T1,h1,h2⟩
theorem loop7c{x1 x2 c1 c2:Nat}{a1 a2:Option Addr}{l:List A7}{u0 u1 u2 u4 u5 v0 v1 v2 v4 v5:Value}{M:Mem}(hM:MemOk M)(gx1:M.get x1=some ⟨[u0,u1,u2,.slice a1 l.length c1,u4,u5],31,6,0,true⟩)(gx2:M.get x2=some ⟨[v0,v1,v2,.slice a2 l.length c2,v4,v5],31,6,0,true⟩)(h1:pArcs l (.slice a1 l.length c1) M)(h2:pArcs (l.map dblA) (.slice a2 l.length c2) M)(hc: ∀x∈l,0≤x.c∧x.c<2305843009213693952)(hll:l.length<1000000):
  ∃M',LoopR Try.prog [] (q7.loopAt 2) Try.f7.ntmps (fr [(10,pt x1 0),(11,pt x2 0),(12,i64 ((0:Nat):Int))]) M (.exit 2) (fr []) M'∧Ext M M'∧MemOk M':=by
 obtain⟨_,M',k1,k2,k3,_⟩:=LoopR.for (P:=Try.prog) (GL:= []) (b:=q7.loopAt 2) (nt:=Try.f7.ntmps) (id:=2) (σ:=Unit) (n:=l.length) (Inv:=fun i _ M1=>Ext M M1∧MemOk M1∧M1.get x1=some ⟨[u0,u1,u2,.slice a1 l.length c1,u4,u5],31,6,0,true⟩∧M1.get x2=some ⟨[v0,v1,v2,.slice a2 l.length c2,v4,v5],31,6,0,true⟩)
  (F:=fun i _=> [(10,pt x1 0),(11,pt x2 0),(12,i64 ((i:Nat):Int))]) (O:=fun _=> [])
  (by
   rintro i _ M1 hi ⟨X1,hM1,g1,g2⟩
   obtain⟨ab,ao,rfl,_⟩:=form_pos h1 (by omega)
   obtain⟨cb,co,rfl,_⟩:=form_pos h2 (by rw[List.length_map];omega)
   obtain⟨hab,hcb⟩:=And.intro (row_lt h1 (by omega)) (row_lt h2 (by rw[List.length_map];omega))
   have ht:l[i]?=some l[i]:=List.getElem?_eq_getElem hi
   have ht2:(l.map dblA)[i]?=some (dblA l[i]):=by rw[List.getElem?_map,ht];rfl
   have hcx:=hc _ (List.getElem_mem hi)
   have hw:IntKind.wrap .i64 ((2:Int)*l[i].c)=2*l[i].c:=wrap_big (by omega) (by omega)
   have l1:=ld_row (P:=Try.prog) (ty:=42) h1 ht dA42 dS42
   have l2:=ld_row (P:=Try.prog) (ty:=42) h2 ht2 dA42 dS42
   obtain⟨T1,M2,q1,q2,q3,q4,q5,q6⟩:=r7c x1 x2 ab ao c1 cb co c2 l.length i u0 u1 u2 u4 u5 v0 v1 v2 v4 v5 l[i] hM1 X1 hab hcb g1 g2 (decide_eq_true (by omega)) (by rw[hw];exact beq_self_eq_true _) (by rw[Int.toNat_natCast];exact l1) (by rw[Int.toNat_natCast];exact l2)
   rw[wrap_succ (by omega)] at q2
   exact⟨(),T1,M2,q1,q2,q3,q4,q5,q6⟩)
  (by
   rintro _ M1 ⟨X1,hM1,g1,g2⟩
   exact r7cx x1 x2 l.length c1 l.length a1 u0 u1 u2 u4 u5 v0 v1 v2 _ v4 v5 (M:=M1) h1.ln g1 g2 (decide_eq_false (by omega)))
  l.length 0 (by omega) (s:=()) (M:=M) ⟨Ext.refl M,hM,gx1,gx2⟩
 exact⟨M',k1,k2,k3⟩
theorem ownE_lt{nx:Nat}{l:List E4}{S:Value}{M:Mem}(h:OwnE nx l S M): ∀b o m c,S=sli b o m c→b<M.next:=by
 intro b o m c e
 rcases h with⟨rfl,_⟩|⟨b',rfl,_,_,h4⟩
 ·cases e
 ·cases e;exact Mem.lt_of_get h4
theorem ownE_edges{nx:Nat}{l:List E4}{S:Value}{M:Mem}(h:OwnE nx l S M)(hl:l.length≤400):pEdges l S M:=by
 rcases h with⟨rfl,rfl⟩|⟨b,rfl,_,_,h4⟩
 ·exact GRowsAt.nil none
 ·exact GRowsAt.of_blk' h4 rfl rfl (fun _ _=>rfl) (by omega)
theorem OwnE.ext{nx:Nat}{l:List E4}{S:Value}{M M':Mem}(h:OwnE nx l S M)(hE: ∀id b,M.get id=some b→M'.get id=some b):OwnE nx l S M':=h.imp id fun⟨b,q1,q2,q3,q4⟩=>⟨b,q1,q2,q3,hE _ _ q4⟩
theorem OwnE.cell{nx:Nat}{l:List E4}{S:Value}{M:Mem}(h:OwnE nx l S M):isCell S=true:=by
 rcases h with⟨rfl,_⟩|⟨b,rfl,_⟩<;>rfl
instance{nx:Nat}:AP (fun(l:List E4) S M=>OwnE nx l S M):=⟨fun{x y v M} h k=>by
 rcases h with⟨rfl,rfl⟩|⟨b,rfl,h1,h2,h3⟩
 ·rcases k with⟨_,rfl⟩|⟨b,hb,_⟩
  ·rfl
  ·cases hb
 ·rcases k with⟨hb,_⟩|⟨b',hb,k1,k2,k3⟩
  ·cases hb
  ·simp only [sli,Value.slice.injEq,Option.some.injEq,Addr.mk.injEq,and_true] at hb
   obtain⟨e1,e2,_⟩:=hb
   subst e1
   rw[h3] at k3
   have e3:(x.map eRow).flatten=(y.map eRow).flatten:=by simpa using k3
   clear h1 h2 h3 k1 k2 k3
   induction x generalizing y with
   |nil=>exact(List.eq_nil_of_length_eq_zero e2.symm).symm
   |cons a x ih=>cases y with
    |nil=>cases e2
    |cons c y=>
     simp only [List.map_cons,List.flatten_cons,eRow,List.cons_append,List.nil_append,List.cons.injEq] at e3
     obtain⟨q1,q2,q3,q4,q5⟩:=e3
     rw[ih (by simpa using e2) (by simpa using e2) q5]
     have:eRow a=eRow c:=by simp [eRow,q1,q2,q3,q4]
     rw[Inj.inj (g:=eRow) _ _ this],fun hE h=>OwnE.ext h hE⟩
theorem ownE_hid{nx:Nat}{l:List E4}{S:Value}{M:Mem}(h:OwnE nx l S M):OwnE nx l S (hid nx M):=h.imp id fun⟨b,q1,q2,q3,q4⟩=>⟨b,q1,q2,q3,hid_of q3 q4⟩
instance{nx:Nat}:AP (OwnE nx):=(inferInstance:AP (fun(l:List E4) S M=>OwnE nx l S M))
theorem hierH_arc{n:Nat}{es:List E4}{l:List Int}(hes:okEs n es)(hl: ∀v∈l,0≤v∧v<n)(hll:l.length≤24): ∀x∈(hierH n es l).b.arcs,0≤x.c∧x.c<2305843009213693952:=fun x hx=>by
 obtain⟨h1,_⟩:=endTo_spec n (goTo n es l l.length) n
 unfold hierH at hx
 rw[h1] at hx
 obtain⟨_,_,_,h5,h6⟩:=(HG.go hes hl l.length (Nat.le_refl _)).hi.arc x hx
 have e1:(2:Int)^l.length≤2^24:=pow2_le hll
 omega
theorem rK7:Try.f7.results= #[.tmp 6]:=by kernel_rfl
theorem w7(size:Int)(ans:Option Addr)(cns:Nat)(ns:List Int)(md:Int){M:Mem}(hM:MemOk M)(hns:pInts ns (.slice ans ns.length cns) M): ∃v_ M',Ev Try.prog [] 7 [i64 size,.slice ans ns.length cns,i64 md] M v_ M'∧Ext M M'∧MemOk M'∧v_= .bool true:=by
 obtain⟨w1,N2,M3,p4,l5,e6,E7,hM8,F9⟩:=call_fc (x:=()) hM con9 (rfl)
 have ew1:w1=(.bool true):=F9
 subst ew1
 have X11:=(Ext.refl M).trans E7
 obtain⟨w15,N16,M17,p18,l19,e20,E21,hM22,F23⟩:=call_fc (x:=(size,ns,md)) hM8 con10b (⟨_,_,_,rfl,rfl,AP.Ext (R:=pInts) hns X11,rfl⟩)
 obtain⟨S12,ew15,O13⟩:pMkO ((nMk size),(mkL size ns md)) M3.next w15 M17:=F23
 simp only at ew15
 subst ew15
 have hcS12:isCell S12=true:=OwnE.cell O13
 have G14:(OwnE M3.next) (mkL size ns md) S12 (hidx [(0,M3.next)] M17):=hx_of (R:=OwnE M3.next) (ownE_hid O13)
 have X25:=X11.trans E21
 obtain⟨w29,N30,M31,p32,l33,e34,E35,hM36,F37⟩:=call_fc (x:=(size,ns,md)) hM22 con10b (⟨_,_,_,rfl,rfl,AP.Ext (R:=pInts) hns X25,rfl⟩)
 have nx38:=E35.next
 have F39:=hx_ext (R:=(OwnE M3.next)) G14 E35
 obtain⟨S26,ew29,O27⟩:pMkO ((nMk size),(mkL size ns md)) M17.next w29 M31:=F37
 simp only at ew29
 subst ew29
 have hcS26:isCell S26=true:=OwnE.cell O27
 have G28:(OwnE M17.next) (mkL size ns md) S26 (hidx [(0,M17.next)] M31):=hx_of (R:=OwnE M17.next) (ownE_hid O27)
 have X40:=X25.trans E35
 obtain⟨b41,M42,eb43,em44,g45,E46,hM47⟩:=new_t hM36 ⟨[i64 0,sln],26,2,0,true⟩
 have nb41:M.next≤b41:=by rw[←eb43];exact X40.next
 have F48:=hx_new (R:=(OwnE M3.next)) F39 eb43 E46
 have F49:=hx_new (R:=(OwnE M17.next)) G28 eb43 E46
 have nx50:=E46.next
 have X51:=X40.trans E46
 obtain⟨b52,M53,eb54,em55,g56,E57,hM58⟩:=new_t hM47 ⟨[i64 0,sln],26,2,0,true⟩
 have nb52:M.next≤b52:=by rw[←eb54];exact X51.next
 have db41b52:b41≠b52:=by have:=Mem.lt_of_get g45;omega
 have F59:=hx_new (R:=(OwnE M3.next)) F48 eb54 E57
 have F60:=hx_new (R:=(OwnE M17.next)) F49 eb54 E57
 have g61:=E57.old g45
 have X63:=X51.trans E57
 obtain⟨M64,q65,g66,kp67,X68,hM69,nx70⟩:=store_t (o:=0) (v:=(.agg ⟨[i64 (((nMk size):Int)),S12]⟩)) (new:= [i64 (((nMk size):Int)),S12]) X63 nb41 hM58 dS26 g61 rfl (by show(isCell (i64 _)&&(isCell S12&&true))=true;rw[hcS12];rfl) (Nat.zero_le _) (Nat.le_of_ble_eq_true rfl) rfl
 replace g66:M64.get b41=some ⟨[i64 (((nMk size):Int)),S12],26,2,0,true⟩:=g66
 have F71:=hx_keep (R:=(OwnE M3.next)) F59 (fun id h _=>kp67 id h) (by intro id hh;simp only [hidden_con] at hh;omega)
 have F72:=hx_keep (R:=(OwnE M17.next)) F60 (fun id h _=>kp67 id h) (by intro id hh;simp only [hidden_con] at hh;omega)
 have g73:=(kp67 _ (Ne.symm db41b52)).trans g56
 obtain⟨M74,q75,g76,kp77,X78,hM79,nx80⟩:=store_t (o:=0) (v:=(.agg ⟨[i64 (((nMk size):Int)),S26]⟩)) (new:= [i64 (((nMk size):Int)),S26]) X68 nb52 hM69 dS26 g73 rfl (by show(isCell (i64 _)&&(isCell S26&&true))=true;rw[hcS26];rfl) (Nat.zero_le _) (Nat.le_of_ble_eq_true rfl) rfl
 replace g76:M74.get b52=some ⟨[i64 (((nMk size):Int)),S26],26,2,0,true⟩:=g76
 have F81:=hx_keep (R:=(OwnE M3.next)) F71 (fun id h _=>kp77 id h) (by intro id hh;simp only [hidden_con] at hh;omega)
 have F82:=hx_keep (R:=(OwnE M17.next)) F72 (fun id h _=>kp77 id h) (by intro id hh;simp only [hidden_con] at hh;omega)
 have g83:=(kp77 _ db41b52).trans g66
 obtain⟨M84,hL85,X86,hM87,g88,g89,O90,O91⟩:=loop7 hM79 X78 g83 g76 (hx_out (R:=(OwnE M3.next)) F81) (hx_out (R:=(OwnE M17.next)) F82) (X11).next (X25).next (fun b e=>ownE_lt O13 b _ _ _ e) (fun b e=>by have h1:b<M31.next:=e.elim (fun e=>Nat.lt_of_lt_of_le (ownE_lt O13 b _ _ _ e) (by omega)) (fun e=>ownE_lt O27 b _ _ _ e);constructor<;>omega) (by have:=(chkN_spec (mk_chk size ns md)).2.2.1;omega)
 have F92:pEdges ((mkL size ns md).map c1E) S12 M84:=ownE_edges O90 (by rw[List.length_map];exact(by have:=(chkN_spec (mk_chk size ns md)).2.2.1;omega))
 have F93:pEdges (((mkL size ns md).map c1E).map dblE) S26 M84:=by rw[←c2E_map];exact ownE_edges O91 (by rw[List.length_map];exact(by have:=(chkN_spec (mk_chk size ns md)).2.2.1;omega))
 obtain⟨HS,hHS⟩: ∃s,s=hierH (nMk size) ((mkL size ns md).map c1E) (orderL (nMk size) ((mkL size ns md).map c1E)):=⟨_,rfl⟩
 obtain⟨R94,eR95⟩: ∃m:Mem,m=Mem.mk M84.blks M84.next M84.hide []:=⟨_,rfl⟩
 have X96:Ext (Mem.mk M.blks M.next M.hide []) R94:=by rw[eR95];exact Ext.aside (X86)
 have lg97:R94.log= []:=by rw[eR95]
 have hM98:MemOk R94:=by rw[eR95];exact MemOk.log hM87
 have g99:R94.get b41=some ⟨[i64 (((nMk size):Int)),S12],26,2,0,true⟩:=by rw[eR95];exact g88
 have ltb52M84:b52<M84.next:=by have h:=Mem.lt_of_get g89;exact h
 have g100:R94.get b52=some ⟨[i64 (((nMk size):Int)),S26],26,2,0,true⟩:=by rw[eR95];exact g89
 have F101:=AP.ext (R:=pEdges) (M':=R94) (fun id b h=>by rw[eR95];exact h) F92
 have F102:=AP.ext (R:=pEdges) (M':=R94) (fun id b h=>by rw[eR95];exact h) F93
 obtain⟨w124,N125,M126,p127,l128,e129,E130,hM131,F132⟩:=call_fc (x:=((nMk size),((mkL size ns md).map c1E))) hM98 con11 (⟨⟨_,rfl,_,rfl,F101⟩,(dbl_order (mk_chk size ns md)).1,(by have:=nMk_range size;omega)⟩)
 have F135:=AP.Ext (R:=pEdges) F102 E130
 have g137:=E130.old g100
 have G103:pIx (ixH (nMk size) ((mkL size ns md).map c1E) HS) w124 (hidx [(0,R94.next)] M126):=by rw[hHS];exact hx_of F132
 obtain⟨i109,i110,i111,i112,i113,ew124,p104,p105,p106,p107,p108⟩:=G103
 replace p104:pEdges ((mkL size ns md).map c1E) i109 (hidx [(0,R94.next)] M126):=p104
 obtain⟨a114,c119,ei109⟩:=GRowsAt.form p104
 replace p105:pInts HS.rank i110 (hidx [(0,R94.next)] M126):=p105
 obtain⟨a115,c120,ei110⟩:=GRowsAt.form p105
 replace p106:pArcs HS.b.arcs i111 (hidx [(0,R94.next)] M126):=p106
 obtain⟨a116,c121,ei111⟩:=GRowsAt.form p106
 replace p107:pRowss HS.up i112 (hidx [(0,R94.next)] M126):=p107
 obtain⟨a117,c122,ei112⟩:=rowss_form p107
 replace p108:pRowss HS.down i113 (hidx [(0,R94.next)] M126):=p108
 obtain⟨a118,c123,ei113⟩:=rowss_form p108
 subst ei109 ei110 ei111 ei112 ei113
 subst ew124
 have lg138:M126.log= []:=by rw[←e129];exact lg97
 have X139:=X96.trans E130
 have LNa115:=GRowsAt.ln (hx_out (R:=pInts) p105)
 have LNa116:=GRowsAt.ln (hx_out (R:=pArcs) p106)
 have ltb52M163:=Mem.lt_of_get g137
 obtain⟨w161,N162,M163,p164,l165,e166,E167,hM168,F169⟩:=call_fc (x:=((nMk size),(((mkL size ns md).map c1E).map dblE))) hM131 con11 (⟨⟨_,rfl,_,rfl,F135⟩,(dbl_order (mk_chk size ns md)).2.1,(by have:=nMk_range size;omega)⟩)
 have nx170:=E167.next
 have F172:=hx_ext (R:=pInts) p105 E167
 have F173:=hx_ext (R:=pArcs) p106 E167
 have G140:pIx (ixH (nMk size) (((mkL size ns md).map c1E).map dblE) (dblS HS)) w161 (hidx [(0,M126.next)] M163):=by rw[hHS,←hierX_dbl (mk_chk size ns md)];exact hx_of F169
 obtain⟨i146,i147,i148,i149,i150,ew161,p141,p142,p143,p144,p145⟩:=G140
 replace p141:pEdges (((mkL size ns md).map c1E).map dblE) i146 (hidx [(0,M126.next)] M163):=p141
 obtain⟨a151,c156,ei146⟩:=GRowsAt.form p141
 replace p142:pInts HS.rank i147 (hidx [(0,M126.next)] M163):=p142
 obtain⟨a152,c157,ei147⟩:=GRowsAt.form p142
 replace p143:pArcs (HS.b.arcs.map dblA) i148 (hidx [(0,M126.next)] M163):=p143
 obtain⟨a153,c158,ei148⟩:=GRowsAt.form p143
 rw[List.length_map] at ei148
 replace p144:pRowss HS.up i149 (hidx [(0,M126.next)] M163):=p144
 obtain⟨a154,c159,ei149⟩:=rowss_form p144
 replace p145:pRowss HS.down i150 (hidx [(0,M126.next)] M163):=p145
 obtain⟨a155,c160,ei150⟩:=rowss_form p145
 subst ei146 ei147 ei148 ei149 ei150
 subst ew161
 have lg176:M163.log= []:=by rw[←e166];exact lg138
 have X177:=X139.trans E167
 have LNa152:=GRowsAt.ln (hx_out (R:=pInts) p142)
 have LNa153:=GRowsAt.ln (hx_out (R:=pArcs) p143)
 obtain⟨b178,M179,eb180,em181,g182,E183,hM184⟩:=new_t hM168 ⟨[i64 0,sln,sln,sln,sln,sln],31,6,0,true⟩
 have nb178:M.next≤b178:=by rw[←eb180];exact X177.next
 have F185:=hx_new (R:=pInts) F172 eb180 E183
 have F186:=hx_new (R:=pArcs) F173 eb180 E183
 have F187:=hx_new (R:=pInts) p142 eb180 E183
 have F188:=hx_new (R:=pArcs) p143 eb180 E183
 have lg191:M179.log= []:=by rw[←em181];exact lg176
 have nx192:=E183.next
 have X193:=X177.trans E183
 obtain⟨b194,M195,eb196,em197,g198,E199,hM200⟩:=new_t hM184 ⟨[i64 0,sln,sln,sln,sln,sln],31,6,0,true⟩
 have nb194:M.next≤b194:=by rw[←eb196];exact X193.next
 have db178b194:b178≠b194:=by have:=Mem.lt_of_get g182;omega
 have F201:=hx_new (R:=pInts) F185 eb196 E199
 have F202:=hx_new (R:=pArcs) F186 eb196 E199
 have F203:=hx_new (R:=pInts) F187 eb196 E199
 have F204:=hx_new (R:=pArcs) F188 eb196 E199
 have g207:=E199.old g182
 have lg208:M195.log= []:=by rw[←em197];exact lg191
 have X210:=X193.trans E199
 obtain⟨M211,q212,g213,kp214,X215,hM216,nx217⟩:=store_t (o:=0) (v:=(.agg ⟨[i64 (((nMk size):Int)),.slice a114 ((mkL size ns md).map c1E).length c119,.slice a115 HS.rank.length c120,.slice a116 HS.b.arcs.length c121,sli a117 0 HS.up.length c122,sli a118 0 HS.down.length c123]⟩)) (new:= [i64 (((nMk size):Int)),.slice a114 ((mkL size ns md).map c1E).length c119,.slice a115 HS.rank.length c120,.slice a116 HS.b.arcs.length c121,sli a117 0 HS.up.length c122,sli a118 0 HS.down.length c123]) X210 nb178 hM200 dS31 g207 rfl rfl (Nat.zero_le _) (Nat.le_of_ble_eq_true rfl) rfl
 replace g213:M211.get b178=some ⟨[i64 (((nMk size):Int)),.slice a114 ((mkL size ns md).map c1E).length c119,.slice a115 HS.rank.length c120,.slice a116 HS.b.arcs.length c121,sli a117 0 HS.up.length c122,sli a118 0 HS.down.length c123],31,6,0,true⟩:=g213
 have F218:=hx_keep (R:=pInts) F201 (fun id h _=>kp214 id h) (by intro id hh;simp only [hidden_con] at hh;omega)
 have F219:=hx_keep (R:=pArcs) F202 (fun id h _=>kp214 id h) (by intro id hh;simp only [hidden_con] at hh;omega)
 have F220:=hx_keep (R:=pInts) F203 (fun id h _=>kp214 id h) (by intro id hh;simp only [hidden_con] at hh;omega)
 have F221:=hx_keep (R:=pArcs) F204 (fun id h _=>kp214 id h) (by intro id hh;simp only [hidden_con] at hh;omega)
 have g224:=(kp214 _ (Ne.symm db178b194)).trans g198
 have lg225:M211.log= [b178]:=by rw[nx217,lg208]
 obtain⟨M226,q227,g228,kp229,X230,hM231,nx232⟩:=store_t (o:=0) (v:=(.agg ⟨[i64 (((nMk size):Int)),.slice a151 (((mkL size ns md).map c1E).map dblE).length c156,.slice a152 HS.rank.length c157,.slice a153 HS.b.arcs.length c158,sli a154 0 HS.up.length c159,sli a155 0 HS.down.length c160]⟩)) (new:= [i64 (((nMk size):Int)),.slice a151 (((mkL size ns md).map c1E).map dblE).length c156,.slice a152 HS.rank.length c157,.slice a153 HS.b.arcs.length c158,sli a154 0 HS.up.length c159,sli a155 0 HS.down.length c160]) X215 nb194 hM216 dS31 g224 rfl rfl (Nat.zero_le _) (Nat.le_of_ble_eq_true rfl) rfl
 replace g228:M226.get b194=some ⟨[i64 (((nMk size):Int)),.slice a151 (((mkL size ns md).map c1E).map dblE).length c156,.slice a152 HS.rank.length c157,.slice a153 HS.b.arcs.length c158,sli a154 0 HS.up.length c159,sli a155 0 HS.down.length c160],31,6,0,true⟩:=g228
 have F233:=hx_keep (R:=pInts) F218 (fun id h _=>kp229 id h) (by intro id hh;simp only [hidden_con] at hh;omega)
 have F234:=hx_keep (R:=pArcs) F219 (fun id h _=>kp229 id h) (by intro id hh;simp only [hidden_con] at hh;omega)
 have F235:=hx_keep (R:=pInts) F220 (fun id h _=>kp229 id h) (by intro id hh;simp only [hidden_con] at hh;omega)
 have F236:=hx_keep (R:=pArcs) F221 (fun id h _=>kp229 id h) (by intro id hh;simp only [hidden_con] at hh;omega)
 have g239:=(kp229 _ db178b194).trans g213
 have lg240:M226.log= [b194,b178]:=by rw[nx232,lg225]
 obtain⟨M241,ef242⟩: ∃m:Mem,m=(Mem.mk M226.blks M226.next M226.hide (M226.log++M84.log)):=⟨_,rfl⟩
 have X243:Ext M M241:=by rw[ef242];exact Ext.join (X86) (X230)
 have hM244:MemOk M241:=by rw[ef242];exact hM231
 have g247:M241.get b178=some ⟨[i64 (((nMk size):Int)),.slice a114 ((mkL size ns md).map c1E).length c119,.slice a115 HS.rank.length c120,.slice a116 HS.b.arcs.length c121,sli a117 0 HS.up.length c122,sli a118 0 HS.down.length c123],31,6,0,true⟩:=by rw[ef242];exact g239
 have g248:M241.get b194=some ⟨[i64 (((nMk size):Int)),.slice a151 (((mkL size ns md).map c1E).map dblE).length c156,.slice a152 HS.rank.length c157,.slice a153 HS.b.arcs.length c158,sli a154 0 HS.up.length c159,sli a155 0 HS.down.length c160],31,6,0,true⟩:=by rw[ef242];exact g228
 have F249:=hx_still (R:=pInts) (M':=M241) F233 (fun id b h=>by rw[ef242];exact h)
 have F250:=hx_still (R:=pArcs) (M':=M241) F234 (fun id b h=>by rw[ef242];exact h)
 have F251:=hx_still (R:=pInts) (M':=M241) F235 (fun id b h=>by rw[ef242];exact h)
 have F252:=hx_still (R:=pArcs) (M':=M241) F236 (fun id b h=>by rw[ef242];exact h)
 obtain⟨w253,N254,M255,p256,l257,e258,E259,hM260,F261⟩:=call_fc (x:=(HS.rank,HS.rank)) hM244 con17 (⟨_,_,rfl,hx_out (R:=pInts) F249,hx_out (R:=pInts) F251⟩)
 have F264:=hx_ext (R:=pArcs) F250 E259
 have F266:=hx_ext (R:=pArcs) F252 E259
 have g269:=E259.old g247
 have g270:=E259.old g248
 have ew253:w253=(.bool true):=by have h0:w253= .bool (decide (HS.rank=HS.rank)):=F261;rw[h0,decide_eq_true rfl]
 subst ew253
 have X271:=X243.trans E259
 have hlen8:=hierH_len (okEs_of (dbl_order (mk_chk size ns md)).1) (orderL_range (dbl_order (mk_chk size ns md)).1) (orderL_len (dbl_order (mk_chk size ns md)).1) (by have:=nMk_range size;omega)
 have harc8:=hierH_arc (okEs_of (dbl_order (mk_chk size ns md)).1) (orderL_range (dbl_order (mk_chk size ns md)).1) (Nat.le_trans (orderL_len (dbl_order (mk_chk size ns md)).1) (by have:=nMk_range size;omega))
 rw[←hHS] at hlen8 harc8
 obtain⟨M272,hL273,E274,hM275⟩:=loop7c hM260 g269 g270 (hx_out (R:=pArcs) F264) (hx_out (R:=pArcs) F266) harc8 (by omega)
 have X285:=X271.trans E274
 have hraw:oT Try.prog [0,2] 140 Try.f7 q7 [i64 size,.slice ans ns.length cns,i64 md] M [ttV 3 (.bool true) M3,ttV 14 (.agg ⟨[i64 (((nMk size):Int)),S12]⟩) M17,ttV 22 (.agg ⟨[i64 (((nMk size):Int)),S26]⟩) M31,ttV 24 (pt b41 0) M42,ttV 26 (pt b52 0) M53,ttS 28 M64,ttS 30 M74,.blk 33 [7,8,9] .normal (fr [(7,(pt b41 0)),(8,(pt b52 0))]) M84,ttL 35 (.agg ⟨[i64 (((nMk size):Int)),S12]⟩),ttV 37 (.agg ⟨[i64 (((nMk size):Int)),.slice a114 ((mkL size ns md).map c1E).length c119,.slice a115 HS.rank.length c120,.slice a116 HS.b.arcs.length c121,sli a117 0 HS.up.length c122,sli a118 0 HS.down.length c123]⟩) M126,ttL 39 (.agg ⟨[i64 (((nMk size):Int)),S26]⟩),ttV 41 (.agg ⟨[i64 (((nMk size):Int)),.slice a151 (((mkL size ns md).map c1E).map dblE).length c156,.slice a152 HS.rank.length c157,.slice a153 HS.b.arcs.length c158,sli a154 0 HS.up.length c159,sli a155 0 HS.down.length c160]⟩) M163,ttV 43 (pt b178 0) (Mem.mk M179.blks M179.next (hides 0 [⟨3,1,M126.next,M163.next⟩,⟨1,1,M84.next,M126.next⟩,⟨0,1,M84.next,M84.next⟩]++M84.hide) M179.log),ttV 45 (pt b194 0) (Mem.mk M195.blks M195.next (hides 0 [⟨4,1,M163.next,M179.next⟩,⟨3,1,M126.next,M163.next⟩,⟨1,1,M84.next,M126.next⟩,⟨0,1,M84.next,M84.next⟩]++M84.hide) M195.log),ttS 47 M211,ttS 49 M226,ttL 53 (.slice a116 HS.b.arcs.length c121),ttT 55,ttL 59 (.slice a153 HS.b.arcs.length c158),ttT 61,ttF 66,ttF 68,ttL 69 (.slice a115 HS.rank.length c120),ttF 70,ttT 71,ttF 72,ttF 74,ttL 75 (.slice a152 HS.rank.length c157),ttF 76,ttT 77,ttF 78,ttF 81,ttF 84,ttF 86,ttL 87 (.slice a115 HS.rank.length c120),ttF 88,ttF 90,ttL 91 (.slice a152 HS.rank.length c157),ttF 92,ttV 93 (.bool true) M255,ttF 94,ttF 97,.blk 101 [10,11,12] .normal (fr []) M272] 6=some (.ret,some (.bool true),M272,[qC 9 [] M (.bool true) M3,qC 10 [i64 size,.slice ans ns.length cns,i64 md] M3 (.agg ⟨[i64 (((nMk size):Int)),S12]⟩) M17,qC 10 [i64 size,.slice ans ns.length cns,i64 md] M17 (.agg ⟨[i64 (((nMk size):Int)),S26]⟩) M31,.eq (aalloc Try.prog 26 M31) (1,.val (pt b41 0),M42),.eq (aalloc Try.prog 26 M42) (1,.val (pt b52 0),M53),qS 26 b41 0 (.agg ⟨[i64 (((nMk size):Int)),S12]⟩) M53 M64,qS 26 b52 0 (.agg ⟨[i64 (((nMk size):Int)),S26]⟩) M64 M74,.blk 0 (.loop (q7.loopAt 0)) Try.f7.ntmps [7,8,9] [some (pt b41 0),some (pt b52 0),some (i64 0)] M74 .normal (fr [(7,(pt b41 0)),(8,(pt b52 0))]) M84,qL 26 b41 0 (Mem.mk M84.blks M84.next M84.hide []) (.agg ⟨[i64 (((nMk size):Int)),S12]⟩),qC 11 [.agg ⟨[i64 (((nMk size):Int)),S12]⟩] (Mem.mk M84.blks M84.next M84.hide []) (.agg ⟨[i64 (((nMk size):Int)),.slice a114 ((mkL size ns md).map c1E).length c119,.slice a115 HS.rank.length c120,.slice a116 HS.b.arcs.length c121,sli a117 0 HS.up.length c122,sli a118 0 HS.down.length c123]⟩) M126,qL 26 b52 0 (Mem.mk M126.blks M126.next (hides 0 [⟨1,1,M84.next,M126.next⟩,⟨0,1,M84.next,M84.next⟩]++M84.hide) M126.log) (.agg ⟨[i64 (((nMk size):Int)),S26]⟩),qT (Nat.blt b52 M84.next),qC 11 [.agg ⟨[i64 (((nMk size):Int)),S26]⟩] (Mem.mk M126.blks M126.next M84.hide M126.log) (.agg ⟨[i64 (((nMk size):Int)),.slice a151 (((mkL size ns md).map c1E).map dblE).length c156,.slice a152 HS.rank.length c157,.slice a153 HS.b.arcs.length c158,sli a154 0 HS.up.length c159,sli a155 0 HS.down.length c160]⟩) M163,.eq (aalloc Try.prog 31 (Mem.mk M163.blks M163.next (hides 0 [⟨3,1,M126.next,M163.next⟩,⟨1,1,M84.next,M126.next⟩,⟨0,1,M84.next,M84.next⟩]++M84.hide) M163.log)) (1,.val (pt b178 0),(Mem.mk M179.blks M179.next (hides 0 [⟨3,1,M126.next,M163.next⟩,⟨1,1,M84.next,M126.next⟩,⟨0,1,M84.next,M84.next⟩]++M84.hide) M179.log)),.eq (aalloc Try.prog 31 (Mem.mk (Mem.mk M179.blks M179.next (hides 0 [⟨3,1,M126.next,M163.next⟩,⟨1,1,M84.next,M126.next⟩,⟨0,1,M84.next,M84.next⟩]++M84.hide) M179.log).blks (Mem.mk M179.blks M179.next (hides 0 [⟨3,1,M126.next,M163.next⟩,⟨1,1,M84.next,M126.next⟩,⟨0,1,M84.next,M84.next⟩]++M84.hide) M179.log).next (hides 0 [⟨4,1,M163.next,(Mem.mk M179.blks M179.next (hides 0 [⟨3,1,M126.next,M163.next⟩,⟨1,1,M84.next,M126.next⟩,⟨0,1,M84.next,M84.next⟩]++M84.hide) M179.log).next⟩,⟨3,1,M126.next,M163.next⟩,⟨1,1,M84.next,M126.next⟩,⟨0,1,M84.next,M84.next⟩]++M84.hide) (Mem.mk M179.blks M179.next (hides 0 [⟨3,1,M126.next,M163.next⟩,⟨1,1,M84.next,M126.next⟩,⟨0,1,M84.next,M84.next⟩]++M84.hide) M179.log).log)) (1,.val (pt b194 0),(Mem.mk M195.blks M195.next (hides 0 [⟨4,1,M163.next,M179.next⟩,⟨3,1,M126.next,M163.next⟩,⟨1,1,M84.next,M126.next⟩,⟨0,1,M84.next,M84.next⟩]++M84.hide) M195.log)),qS 31 b178 0 (.agg ⟨[i64 (((nMk size):Int)),.slice a114 ((mkL size ns md).map c1E).length c119,.slice a115 HS.rank.length c120,.slice a116 HS.b.arcs.length c121,sli a117 0 HS.up.length c122,sli a118 0 HS.down.length c123]⟩) (Mem.mk (Mem.mk M195.blks M195.next (hides 0 [⟨4,1,M163.next,M179.next⟩,⟨3,1,M126.next,M163.next⟩,⟨1,1,M84.next,M126.next⟩,⟨0,1,M84.next,M84.next⟩]++M84.hide) M195.log).blks (Mem.mk M195.blks M195.next (hides 0 [⟨4,1,M163.next,M179.next⟩,⟨3,1,M126.next,M163.next⟩,⟨1,1,M84.next,M126.next⟩,⟨0,1,M84.next,M84.next⟩]++M84.hide) M195.log).next M84.hide (Mem.mk M195.blks M195.next (hides 0 [⟨4,1,M163.next,M179.next⟩,⟨3,1,M126.next,M163.next⟩,⟨1,1,M84.next,M126.next⟩,⟨0,1,M84.next,M84.next⟩]++M84.hide) M195.log).log) M211,qS 31 b194 0 (.agg ⟨[i64 (((nMk size):Int)),.slice a151 (((mkL size ns md).map c1E).map dblE).length c156,.slice a152 HS.rank.length c157,.slice a153 HS.b.arcs.length c158,sli a154 0 HS.up.length c159,sli a155 0 HS.down.length c160]⟩) (Mem.mk M211.blks M211.next M84.hide M211.log) M226,qT (apartN [b52] M226.log),qL 28 b178 3 (Mem.mk M226.blks M226.next M84.hide (M226.log++M84.log)) (.slice a116 HS.b.arcs.length c121),.ln a116 HS.b.arcs.length c121,qL 28 b194 3 (Mem.mk M226.blks M226.next M84.hide (M226.log++M84.log)) (.slice a153 HS.b.arcs.length c158),.ln a153 HS.b.arcs.length c158,qF (!(((HS.b.arcs.length:Int))==((HS.b.arcs.length:Int)))),qF (!(((HS.b.arcs.length:Int))==((HS.b.arcs.length:Int)))),qL 22 b178 2 (Mem.mk M226.blks M226.next M84.hide (M226.log++M84.log)) (.slice a115 HS.rank.length c120),qF (!(((HS.b.arcs.length:Int))==((HS.b.arcs.length:Int)))),.ln a115 HS.rank.length c120,qF (!(((HS.b.arcs.length:Int))==((HS.b.arcs.length:Int)))),qF (!(((HS.b.arcs.length:Int))==((HS.b.arcs.length:Int)))),qL 22 b194 2 (Mem.mk M226.blks M226.next M84.hide (M226.log++M84.log)) (.slice a152 HS.rank.length c157),qF (!(((HS.b.arcs.length:Int))==((HS.b.arcs.length:Int)))),.ln a152 HS.rank.length c157,qF (!(((HS.b.arcs.length:Int))==((HS.b.arcs.length:Int)))),qF (!(((HS.b.arcs.length:Int))==((HS.b.arcs.length:Int)))),qF (!(((HS.rank.length:Int))==((HS.rank.length:Int)))),qF (!(((HS.rank.length:Int))==((HS.rank.length:Int)))),qL 22 b178 2 (Mem.mk M226.blks M226.next M84.hide (M226.log++M84.log)) (.slice a115 HS.rank.length c120),qF (!(((HS.rank.length:Int))==((HS.rank.length:Int)))),qF (!(((HS.rank.length:Int))==((HS.rank.length:Int)))),qL 22 b194 2 (Mem.mk M226.blks M226.next M84.hide (M226.log++M84.log)) (.slice a152 HS.rank.length c157),qF (!(((HS.rank.length:Int))==((HS.rank.length:Int)))),qC 17 [.slice a115 HS.rank.length c120,.slice a152 HS.rank.length c157] (Mem.mk M226.blks M226.next M84.hide (M226.log++M84.log)) (.bool true) M255,qF (!(((HS.rank.length:Int))==((HS.rank.length:Int)))),qF (!(((HS.rank.length:Int))==((HS.rank.length:Int)))),.blk 2 (.loop (q7.loopAt 2)) Try.f7.ntmps [10,11,12] [some (pt b178 0),some (pt b194 0),some (i64 0)] M255 .normal (fr []) M272]):=by kernel_rfl
 dsimp only at hraw
 have rw0:Mem.mk M84.blks M84.next M84.hide []=R94:=eR95.symm
 have rw1:Mem.mk M126.blks M126.next M84.hide M126.log=M126:=by rw[(show M84.hide=M126.hide from((X86).hide.trans (X139).hide.symm))]
 have rw2:Mem.mk M126.blks M126.next (hides 0 [⟨1,1,M84.next,M126.next⟩,⟨0,1,M84.next,M84.next⟩]++M84.hide) M126.log=hidx (hides 0 [⟨1,1,M84.next,M126.next⟩,⟨0,1,M84.next,M84.next⟩]) M126:=by rw[(show M84.hide=M126.hide from((X86).hide.trans (X139).hide.symm))];rfl
 have rw5:Mem.mk M195.blks M195.next M84.hide M195.log=M195:=by rw[(show M84.hide=M195.hide from((X86).hide.trans (X210).hide.symm))]
 have rw6:Mem.mk M211.blks M211.next M84.hide M211.log=M211:=by rw[(show M84.hide=M211.hide from((X86).hide.trans (X215).hide.symm))]
 have rw8:(Mem.mk M226.blks M226.next M84.hide (M226.log++M84.log))=(Mem.mk M226.blks M226.next M226.hide (M226.log++M84.log)):=by rw[(show M84.hide=M226.hide from((X86).hide.trans (X230).hide.symm))]
 have rw9:(Mem.mk M226.blks M226.next M226.hide (M226.log++M84.log))=M241:=ef242.symm
 try rw[rw0] at hraw
 try rw[rw1] at hraw
 try rw[rw2] at hraw
 try rw[rw5] at hraw
 try rw[rw6] at hraw
 try rw[rw8] at hraw
 try rw[rw9] at hraw
 exact⟨.bool true,M272,Ev.told_tmp noNumP mixedP Try.func7 q7_ok (by kernel_rfl) rK7 (fun B=>sb2 (sbQ 9 Q9 (sbQ 10 Q10b (sbQ 11 Q11 (sbQ 17 Q17 (sbN _))))) 0 hL85 2 hL273) (fun _ h=>blksF_two h) hraw (hk (q_call rfl p4 l5 e6) (hk (q_call rfl p18 l19 e20) (hk (q_call rfl p32 l33 e34) (hk (q_eq (by rw[←eb43,←em44];kernel_rfl) Nat.one_ne_zero) (hk (q_eq (by rw[←eb54,←em55];kernel_rfl) Nat.one_ne_zero) (hk (q_st q65) (hk (q_st q75) (hk (q_blk rfl) (hk (lA ⟨dA26,dS26⟩ g99 rfl) (hk (q_call rfl p127 l128 e129) (hk (lA ⟨dA26,dS26⟩ (hidx_get.2 ⟨hides_low (by simp;omega),g137⟩) rfl) (hk (q_lt ltb52M84) (hk (q_call rfl p164 l165 e166) (hk (q_eq (by rw[←eb180,←em181];kernel_rfl) Nat.one_ne_zero) (hk (q_eq (by rw[←eb196,←em197];kernel_rfl) Nat.one_ne_zero) (hk (q_st q212) (hk (q_st q227) (hk (q_apart (by rw[lg240];simp<;>omega)) (hk (lC dC28 g247 rfl) (hk (lN LNa116) (hk (lC dC28 g248 rfl) (hk (lN LNa153) (hk (bF (neqF _)) (hk (bF (neqF _)) (hk (lC dC22 g247 rfl) (hk (bF (neqF _)) (hk (lN LNa115) (hk (bF (neqF _)) (hk (bF (neqF _)) (hk (lC dC22 g248 rfl) (hk (bF (neqF _)) (hk (lN LNa152) (hk (bF (neqF _)) (hk (bF (neqF _)) (hk (bF (neqF _)) (hk (bF (neqF _)) (hk (lC dC22 g247 rfl) (hk (bF (neqF _)) (hk (bF (neqF _)) (hk (lC dC22 g248 rfl) (hk (bF (neqF _)) (hk (q_call rfl p256 l257 e258) (hk (bF (neqF _)) (hk (bF (neqF _)) (hk (q_blk rfl) hn))))))))))))))))))))))))))))))))))))))))))))),X285,hM275,rfl⟩
end Go.Proofs.Ytdaglldahidmbaa
