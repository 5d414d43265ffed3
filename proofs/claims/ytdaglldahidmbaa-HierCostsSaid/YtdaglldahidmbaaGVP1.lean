/-
  Package hier: each of its laws for every argument; no conditions. The last text states which.
-/
import Derived.Test.YtdaglldahidmbaaGAmPw
import Derived.Test.YtdaglldahidmbaaGVB
set_option linter.unusedVariables false
set_option linter.unusedSimpArgs false
open Go Go.Am Go.Proofs
namespace Go.Proofs.Ytdaglldahidmbaa
set_option maxRecDepth 100000
theorem dC3:(Try.prog.underlying 3).map isAggD=some false:=by kernel_rfl
theorem dS3:(Try.prog.info? 3).map (·.size)=some 1:=by kernel_rfl
theorem rK70:Try.f70.results= #[.tmp 4]:=by kernel_rfl
theorem w46_0(x:Int)(n:Int){M:Mem}(hM:MemOk M)(cc0:(decide (x≥(0:Int)))=true): ∃v M',Ev Try.prog [] 70 [i64 x,i64 n] M v M'∧Ext M M'∧MemOk M'∧v=(.bool (decide (x<n))):=by
 have hraw:oT Try.prog [] 60 Try.f70 q70 [i64 x,i64 n] M [ttT 8,ttT 10,ttT 12,ttT 15] 4=some (.ret,some (.bool (decide (x<n))),M,[qT (decide (x≥(0:Int))),qT (decide (x≥(0:Int))),qT (decide (x≥(0:Int))),qT (decide (x≥(0:Int)))]):=by kernel_rfl
 exact⟨.bool (decide (x<n)),M,Ev.told_tmp noNumP mixedP Try.func70 q70_ok (by kernel_rfl) rK70 (specs_none Try.prog) (fun _ _=>rfl) hraw (hk (bT cc0) (hk (bT cc0) (hk (bT cc0) (hk (bT cc0) hn)))),Ext.refl M,hM,rfl⟩
theorem w46_1(x:Int)(n:Int){M:Mem}(hM:MemOk M)(cc0:(decide (x≥(0:Int)))=false): ∃v M',Ev Try.prog [] 70 [i64 x,i64 n] M v M'∧Ext M M'∧MemOk M'∧v=(.bool false):=by
 have hraw:oT Try.prog [] 60 Try.f70 q70 [i64 x,i64 n] M [ttF 8,ttF 10,ttF 12,ttF 15] 4=some (.ret,some (.bool false),M,[qF (decide (x≥(0:Int))),qF (decide (x≥(0:Int))),qF (decide (x≥(0:Int))),qF (decide (x≥(0:Int)))]):=by kernel_rfl
 exact⟨.bool false,M,Ev.told_tmp noNumP mixedP Try.func70 q70_ok (by kernel_rfl) rK70 (specs_none Try.prog) (fun _ _=>rfl) hraw (hk (bF cc0) (hk (bF cc0) (hk (bF cc0) (hk (bF cc0) hn)))),Ext.refl M,hM,rfl⟩
theorem w46_all(x:Int)(n:Int){M:Mem}(hM:MemOk M): ∃v M',Ev Try.prog [] 70 [i64 x,i64 n] M v M'∧Ext M M'∧MemOk M'∧v= .bool (belB x n):=by
 cases cc0:(decide (x≥(0:Int))) with
 |true=>
  obtain⟨v,M1,h1,h2,h3,h4⟩:=w46_0 x n hM cc0
  refine⟨v,M1,h1,h2,h3,?_⟩
  subst h4
  first|rfl|(simp only [belB,cc0,cond_true,cond_false,Bool.true_and,Bool.false_and,Bool.and_true,Bool.and_false,Bool.true_or,Bool.false_or,Bool.or_true,Bool.or_false,Bool.not_true,Bool.not_false];done)|(simp only [belB,cc0,cond_true,cond_false,Bool.true_and,Bool.false_and,Bool.and_true,Bool.and_false,Bool.true_or,Bool.false_or,Bool.or_true,Bool.or_false,Bool.not_true,Bool.not_false]<;>rfl)|(simp_all [belB];done)
 |false=>
  obtain⟨v,M1,h1,h2,h3,h4⟩:=w46_1 x n hM cc0
  refine⟨v,M1,h1,h2,h3,?_⟩
  subst h4
  first|rfl|(simp only [belB,cc0,cond_true,cond_false,Bool.true_and,Bool.false_and,Bool.and_true,Bool.and_false,Bool.true_or,Bool.false_or,Bool.or_true,Bool.or_false,Bool.not_true,Bool.not_false];done)|(simp only [belB,cc0,cond_true,cond_false,Bool.true_and,Bool.false_and,Bool.and_true,Bool.and_false,Bool.true_or,Bool.false_or,Bool.or_true,Bool.or_false,Bool.not_true,Bool.not_false]<;>rfl)|(simp_all [belB];done)
abbrev Q70:=FC (as2 pI pI) (plain pB) (fun x=>belB x.1 x.2)
theorem con70{x:(Int)×(Int)}{lv:List Value}{M:Mem}(hM:MemOk M)(h:(as2 pI pI) x lv M): ∃v M',Con Try.prog [] 70 Q70 lv M v M':=by
 refine FC.con h ?_
 obtain⟨x,n⟩:=x
 obtain⟨g0,g1,rfl,k0,k1⟩:=h
 obtain rfl:=k0
 obtain rfl:=k1
 obtain⟨v,M',h1,h2,_,h3⟩:=w46_all x n hM
 exact⟨v,M',h1,h2,h3⟩
theorem rK42:Try.f42.results= #[.tmp 4]:=by kernel_rfl
theorem w40_0(e:E4)(n:Int){M:Mem}(hM:MemOk M)(cc0:(belB e.f n)=true)(cc1:(belB e.t n)=true)(cc2:(belB e.m 5)=true)(cc3:(decide (e.c≥(0:Int)))=true): ∃v M',Ev Try.prog [] 42 [.agg ⟨[i64 e.f,i64 e.t,i64 e.m,i64 e.c]⟩,i64 n] M v M'∧Ext M M'∧MemOk M'∧v=(.bool (decide (e.c≤(2147483647:Int)))):=by
 obtain⟨b1,M2,eb3,em4,g5,E6,hM7⟩:=new_t hM ⟨[i64 e.f,i64 e.t,i64 e.m,i64 e.c],37,4,0,true⟩
 have X9:=(Ext.refl M).trans E6
 obtain⟨w10,N11,M12,p13,l14,e15,E16,hM17,F18⟩:=call_fc (x:=(e.f,n)) hM7 con70 (⟨_,_,rfl,rfl,rfl⟩)
 have g20:=E16.old g5
 have ew10:w10=(.bool (belB e.f n)):=F18
 subst ew10
 have X21:=X9.trans E16
 obtain⟨w22,N23,M24,p25,l26,e27,E28,hM29,F30⟩:=call_fc (x:=(e.t,n)) hM17 con70 (⟨_,_,rfl,rfl,rfl⟩)
 have g32:=E28.old g20
 have ew22:w22=(.bool (belB e.t n)):=F30
 subst ew22
 have X33:=X21.trans E28
 obtain⟨w34,N35,M36,p37,l38,e39,E40,hM41,F42⟩:=call_fc (x:=(e.m,5)) hM29 con70 (⟨_,_,rfl,rfl,rfl⟩)
 have g44:=E40.old g32
 have ew34:w34=(.bool (belB e.m 5)):=F42
 subst ew34
 have X45:=X33.trans E40
 have hraw:oT Try.prog [] 60 Try.f42 q42 [.agg ⟨[i64 e.f,i64 e.t,i64 e.m,i64 e.c]⟩,i64 n] M [ttV 1 (pt b1 0) M2,ttL 7 (i64 e.f),ttV 11 (.bool (belB e.f n)) M12,ttT 14,ttT 16,ttL 17 (i64 e.t),ttT 18,ttT 20,ttV 21 (.bool (belB e.t n)) M24,ttT 23,ttT 26,ttT 28,ttL 29 (i64 e.m),ttT 30,ttV 31 (.bool (belB e.m 5)) M36,ttT 33,ttT 36,ttT 38,ttL 39 (i64 e.c),ttT 40,ttT 43,ttT 46,ttT 48,ttL 49 (i64 e.c),ttT 50,ttT 53] 4=some (.ret,some (.bool (decide (e.c≤(2147483647:Int)))),M36,[.eq (abox Try.prog 37 (.agg ⟨[i64 e.f,i64 e.t,i64 e.m,i64 e.c]⟩) M) (1,.val (pt b1 0),M2),qL 3 b1 0 M2 (i64 e.f),qC 70 [i64 e.f,i64 n] M2 (.bool (belB e.f n)) M12,qT (belB e.f n),qT (belB e.f n),qL 3 b1 1 M12 (i64 e.t),qT (belB e.f n),qT (belB e.f n),qC 70 [i64 e.t,i64 n] M12 (.bool (belB e.t n)) M24,qT (belB e.f n),qT (belB e.t n),qT (belB e.t n),qL 3 b1 2 M24 (i64 e.m),qT (belB e.t n),qC 70 [i64 e.m,i64 5] M24 (.bool (belB e.m 5)) M36,qT (belB e.t n),qT (belB e.m 5),qT (belB e.m 5),qL 3 b1 3 M36 (i64 e.c),qT (belB e.m 5),qT (belB e.m 5),qT (decide (e.c≥(0:Int))),qT (decide (e.c≥(0:Int))),qL 3 b1 3 M36 (i64 e.c),qT (decide (e.c≥(0:Int))),qT (decide (e.c≥(0:Int)))]):=by kernel_rfl
 exact⟨.bool (decide (e.c≤(2147483647:Int))),M36,Ev.told_tmp noNumP mixedP Try.func42 q42_ok (by kernel_rfl) rK42 (fun B=>sb0 (sbQ 70 Q70 (sbN _))) (fun _ _=>rfl) hraw (hk (q_eq (by rw[←eb3,←em4];kernel_rfl) Nat.one_ne_zero) (hk (lC dC3 g5 rfl) (hk (q_call rfl p13 l14 e15) (hk (bT cc0) (hk (bT cc0) (hk (lC dC3 g20 rfl) (hk (bT cc0) (hk (bT cc0) (hk (q_call rfl p25 l26 e27) (hk (bT cc0) (hk (bT cc1) (hk (bT cc1) (hk (lC dC3 g32 rfl) (hk (bT cc1) (hk (q_call rfl p37 l38 e39) (hk (bT cc1) (hk (bT cc2) (hk (bT cc2) (hk (lC dC3 g44 rfl) (hk (bT cc2) (hk (bT cc2) (hk (bT cc3) (hk (bT cc3) (hk (lC dC3 g44 rfl) (hk (bT cc3) (hk (bT cc3) hn)))))))))))))))))))))))))),X45,hM41,rfl⟩
theorem w40_1(e:E4)(n:Int){M:Mem}(hM:MemOk M)(cc0:(belB e.f n)=true)(cc1:(belB e.t n)=true)(cc2:(belB e.m 5)=true)(cc3:(decide (e.c≥(0:Int)))=false): ∃v M',Ev Try.prog [] 42 [.agg ⟨[i64 e.f,i64 e.t,i64 e.m,i64 e.c]⟩,i64 n] M v M'∧Ext M M'∧MemOk M'∧v=(.bool false):=by
 obtain⟨b1,M2,eb3,em4,g5,E6,hM7⟩:=new_t hM ⟨[i64 e.f,i64 e.t,i64 e.m,i64 e.c],37,4,0,true⟩
 have X9:=(Ext.refl M).trans E6
 obtain⟨w10,N11,M12,p13,l14,e15,E16,hM17,F18⟩:=call_fc (x:=(e.f,n)) hM7 con70 (⟨_,_,rfl,rfl,rfl⟩)
 have g20:=E16.old g5
 have ew10:w10=(.bool (belB e.f n)):=F18
 subst ew10
 have X21:=X9.trans E16
 obtain⟨w22,N23,M24,p25,l26,e27,E28,hM29,F30⟩:=call_fc (x:=(e.t,n)) hM17 con70 (⟨_,_,rfl,rfl,rfl⟩)
 have g32:=E28.old g20
 have ew22:w22=(.bool (belB e.t n)):=F30
 subst ew22
 have X33:=X21.trans E28
 obtain⟨w34,N35,M36,p37,l38,e39,E40,hM41,F42⟩:=call_fc (x:=(e.m,5)) hM29 con70 (⟨_,_,rfl,rfl,rfl⟩)
 have g44:=E40.old g32
 have ew34:w34=(.bool (belB e.m 5)):=F42
 subst ew34
 have X45:=X33.trans E40
 have hraw:oT Try.prog [] 60 Try.f42 q42 [.agg ⟨[i64 e.f,i64 e.t,i64 e.m,i64 e.c]⟩,i64 n] M [ttV 1 (pt b1 0) M2,ttL 7 (i64 e.f),ttV 11 (.bool (belB e.f n)) M12,ttT 14,ttT 16,ttL 17 (i64 e.t),ttT 18,ttT 20,ttV 21 (.bool (belB e.t n)) M24,ttT 23,ttT 26,ttT 28,ttL 29 (i64 e.m),ttT 30,ttV 31 (.bool (belB e.m 5)) M36,ttT 33,ttT 36,ttT 38,ttL 39 (i64 e.c),ttT 40,ttT 43,ttF 46,ttF 48,ttF 50,ttF 53] 4=some (.ret,some (.bool false),M36,[.eq (abox Try.prog 37 (.agg ⟨[i64 e.f,i64 e.t,i64 e.m,i64 e.c]⟩) M) (1,.val (pt b1 0),M2),qL 3 b1 0 M2 (i64 e.f),qC 70 [i64 e.f,i64 n] M2 (.bool (belB e.f n)) M12,qT (belB e.f n),qT (belB e.f n),qL 3 b1 1 M12 (i64 e.t),qT (belB e.f n),qT (belB e.f n),qC 70 [i64 e.t,i64 n] M12 (.bool (belB e.t n)) M24,qT (belB e.f n),qT (belB e.t n),qT (belB e.t n),qL 3 b1 2 M24 (i64 e.m),qT (belB e.t n),qC 70 [i64 e.m,i64 5] M24 (.bool (belB e.m 5)) M36,qT (belB e.t n),qT (belB e.m 5),qT (belB e.m 5),qL 3 b1 3 M36 (i64 e.c),qT (belB e.m 5),qT (belB e.m 5),qF (decide (e.c≥(0:Int))),qF (decide (e.c≥(0:Int))),qF (decide (e.c≥(0:Int))),qF (decide (e.c≥(0:Int)))]):=by kernel_rfl
 exact⟨.bool false,M36,Ev.told_tmp noNumP mixedP Try.func42 q42_ok (by kernel_rfl) rK42 (fun B=>sb0 (sbQ 70 Q70 (sbN _))) (fun _ _=>rfl) hraw (hk (q_eq (by rw[←eb3,←em4];kernel_rfl) Nat.one_ne_zero) (hk (lC dC3 g5 rfl) (hk (q_call rfl p13 l14 e15) (hk (bT cc0) (hk (bT cc0) (hk (lC dC3 g20 rfl) (hk (bT cc0) (hk (bT cc0) (hk (q_call rfl p25 l26 e27) (hk (bT cc0) (hk (bT cc1) (hk (bT cc1) (hk (lC dC3 g32 rfl) (hk (bT cc1) (hk (q_call rfl p37 l38 e39) (hk (bT cc1) (hk (bT cc2) (hk (bT cc2) (hk (lC dC3 g44 rfl) (hk (bT cc2) (hk (bT cc2) (hk (bF cc3) (hk (bF cc3) (hk (bF cc3) (hk (bF cc3) hn))))))))))))))))))))))))),X45,hM41,rfl⟩
theorem w40_2(e:E4)(n:Int){M:Mem}(hM:MemOk M)(cc0:(belB e.f n)=true)(cc1:(belB e.t n)=true)(cc2:(belB e.m 5)=false): ∃v M',Ev Try.prog [] 42 [.agg ⟨[i64 e.f,i64 e.t,i64 e.m,i64 e.c]⟩,i64 n] M v M'∧Ext M M'∧MemOk M'∧v=(.bool false):=by
 obtain⟨b1,M2,eb3,em4,g5,E6,hM7⟩:=new_t hM ⟨[i64 e.f,i64 e.t,i64 e.m,i64 e.c],37,4,0,true⟩
 have X9:=(Ext.refl M).trans E6
 obtain⟨w10,N11,M12,p13,l14,e15,E16,hM17,F18⟩:=call_fc (x:=(e.f,n)) hM7 con70 (⟨_,_,rfl,rfl,rfl⟩)
 have g20:=E16.old g5
 have ew10:w10=(.bool (belB e.f n)):=F18
 subst ew10
 have X21:=X9.trans E16
 obtain⟨w22,N23,M24,p25,l26,e27,E28,hM29,F30⟩:=call_fc (x:=(e.t,n)) hM17 con70 (⟨_,_,rfl,rfl,rfl⟩)
 have g32:=E28.old g20
 have ew22:w22=(.bool (belB e.t n)):=F30
 subst ew22
 have X33:=X21.trans E28
 obtain⟨w34,N35,M36,p37,l38,e39,E40,hM41,F42⟩:=call_fc (x:=(e.m,5)) hM29 con70 (⟨_,_,rfl,rfl,rfl⟩)
 have ew34:w34=(.bool (belB e.m 5)):=F42
 subst ew34
 have X45:=X33.trans E40
 have hraw:oT Try.prog [] 60 Try.f42 q42 [.agg ⟨[i64 e.f,i64 e.t,i64 e.m,i64 e.c]⟩,i64 n] M [ttV 1 (pt b1 0) M2,ttL 7 (i64 e.f),ttV 11 (.bool (belB e.f n)) M12,ttT 14,ttT 16,ttL 17 (i64 e.t),ttT 18,ttT 20,ttV 21 (.bool (belB e.t n)) M24,ttT 23,ttT 26,ttT 28,ttL 29 (i64 e.m),ttT 30,ttV 31 (.bool (belB e.m 5)) M36,ttT 33,ttF 36,ttF 38,ttF 40,ttF 43] 4=some (.ret,some (.bool false),M36,[.eq (abox Try.prog 37 (.agg ⟨[i64 e.f,i64 e.t,i64 e.m,i64 e.c]⟩) M) (1,.val (pt b1 0),M2),qL 3 b1 0 M2 (i64 e.f),qC 70 [i64 e.f,i64 n] M2 (.bool (belB e.f n)) M12,qT (belB e.f n),qT (belB e.f n),qL 3 b1 1 M12 (i64 e.t),qT (belB e.f n),qT (belB e.f n),qC 70 [i64 e.t,i64 n] M12 (.bool (belB e.t n)) M24,qT (belB e.f n),qT (belB e.t n),qT (belB e.t n),qL 3 b1 2 M24 (i64 e.m),qT (belB e.t n),qC 70 [i64 e.m,i64 5] M24 (.bool (belB e.m 5)) M36,qT (belB e.t n),qF (belB e.m 5),qF (belB e.m 5),qF (belB e.m 5),qF (belB e.m 5)]):=by kernel_rfl
 exact⟨.bool false,M36,Ev.told_tmp noNumP mixedP Try.func42 q42_ok (by kernel_rfl) rK42 (fun B=>sb0 (sbQ 70 Q70 (sbN _))) (fun _ _=>rfl) hraw (hk (q_eq (by rw[←eb3,←em4];kernel_rfl) Nat.one_ne_zero) (hk (lC dC3 g5 rfl) (hk (q_call rfl p13 l14 e15) (hk (bT cc0) (hk (bT cc0) (hk (lC dC3 g20 rfl) (hk (bT cc0) (hk (bT cc0) (hk (q_call rfl p25 l26 e27) (hk (bT cc0) (hk (bT cc1) (hk (bT cc1) (hk (lC dC3 g32 rfl) (hk (bT cc1) (hk (q_call rfl p37 l38 e39) (hk (bT cc1) (hk (bF cc2) (hk (bF cc2) (hk (bF cc2) (hk (bF cc2) hn)))))))))))))))))))),X45,hM41,rfl⟩
theorem w40_3(e:E4)(n:Int){M:Mem}(hM:MemOk M)(cc0:(belB e.f n)=true)(cc1:(belB e.t n)=false): ∃v M',Ev Try.prog [] 42 [.agg ⟨[i64 e.f,i64 e.t,i64 e.m,i64 e.c]⟩,i64 n] M v M'∧Ext M M'∧MemOk M'∧v=(.bool false):=by
 obtain⟨b1,M2,eb3,em4,g5,E6,hM7⟩:=new_t hM ⟨[i64 e.f,i64 e.t,i64 e.m,i64 e.c],37,4,0,true⟩
 have X9:=(Ext.refl M).trans E6
 obtain⟨w10,N11,M12,p13,l14,e15,E16,hM17,F18⟩:=call_fc (x:=(e.f,n)) hM7 con70 (⟨_,_,rfl,rfl,rfl⟩)
 have g20:=E16.old g5
 have ew10:w10=(.bool (belB e.f n)):=F18
 subst ew10
 have X21:=X9.trans E16
 obtain⟨w22,N23,M24,p25,l26,e27,E28,hM29,F30⟩:=call_fc (x:=(e.t,n)) hM17 con70 (⟨_,_,rfl,rfl,rfl⟩)
 have ew22:w22=(.bool (belB e.t n)):=F30
 subst ew22
 have X33:=X21.trans E28
 have hraw:oT Try.prog [] 60 Try.f42 q42 [.agg ⟨[i64 e.f,i64 e.t,i64 e.m,i64 e.c]⟩,i64 n] M [ttV 1 (pt b1 0) M2,ttL 7 (i64 e.f),ttV 11 (.bool (belB e.f n)) M12,ttT 14,ttT 16,ttL 17 (i64 e.t),ttT 18,ttT 20,ttV 21 (.bool (belB e.t n)) M24,ttT 23,ttF 26,ttF 28,ttF 30,ttF 33] 4=some (.ret,some (.bool false),M24,[.eq (abox Try.prog 37 (.agg ⟨[i64 e.f,i64 e.t,i64 e.m,i64 e.c]⟩) M) (1,.val (pt b1 0),M2),qL 3 b1 0 M2 (i64 e.f),qC 70 [i64 e.f,i64 n] M2 (.bool (belB e.f n)) M12,qT (belB e.f n),qT (belB e.f n),qL 3 b1 1 M12 (i64 e.t),qT (belB e.f n),qT (belB e.f n),qC 70 [i64 e.t,i64 n] M12 (.bool (belB e.t n)) M24,qT (belB e.f n),qF (belB e.t n),qF (belB e.t n),qF (belB e.t n),qF (belB e.t n)]):=by kernel_rfl
 exact⟨.bool false,M24,Ev.told_tmp noNumP mixedP Try.func42 q42_ok (by kernel_rfl) rK42 (fun B=>sb0 (sbQ 70 Q70 (sbN _))) (fun _ _=>rfl) hraw (hk (q_eq (by rw[←eb3,←em4];kernel_rfl) Nat.one_ne_zero) (hk (lC dC3 g5 rfl) (hk (q_call rfl p13 l14 e15) (hk (bT cc0) (hk (bT cc0) (hk (lC dC3 g20 rfl) (hk (bT cc0) (hk (bT cc0) (hk (q_call rfl p25 l26 e27) (hk (bT cc0) (hk (bF cc1) (hk (bF cc1) (hk (bF cc1) (hk (bF cc1) hn)))))))))))))),X33,hM29,rfl⟩
theorem w40_4(e:E4)(n:Int){M:Mem}(hM:MemOk M)(cc0:(belB e.f n)=false): ∃v M',Ev Try.prog [] 42 [.agg ⟨[i64 e.f,i64 e.t,i64 e.m,i64 e.c]⟩,i64 n] M v M'∧Ext M M'∧MemOk M'∧v=(.bool false):=by
 obtain⟨b1,M2,eb3,em4,g5,E6,hM7⟩:=new_t hM ⟨[i64 e.f,i64 e.t,i64 e.m,i64 e.c],37,4,0,true⟩
 have X9:=(Ext.refl M).trans E6
 obtain⟨w10,N11,M12,p13,l14,e15,E16,hM17,F18⟩:=call_fc (x:=(e.f,n)) hM7 con70 (⟨_,_,rfl,rfl,rfl⟩)
 have ew10:w10=(.bool (belB e.f n)):=F18
 subst ew10
 have X21:=X9.trans E16
 have hraw:oT Try.prog [] 60 Try.f42 q42 [.agg ⟨[i64 e.f,i64 e.t,i64 e.m,i64 e.c]⟩,i64 n] M [ttV 1 (pt b1 0) M2,ttL 7 (i64 e.f),ttV 11 (.bool (belB e.f n)) M12,ttF 14,ttF 16,ttF 18,ttF 20,ttF 23] 4=some (.ret,some (.bool false),M12,[.eq (abox Try.prog 37 (.agg ⟨[i64 e.f,i64 e.t,i64 e.m,i64 e.c]⟩) M) (1,.val (pt b1 0),M2),qL 3 b1 0 M2 (i64 e.f),qC 70 [i64 e.f,i64 n] M2 (.bool (belB e.f n)) M12,qF (belB e.f n),qF (belB e.f n),qF (belB e.f n),qF (belB e.f n),qF (belB e.f n)]):=by kernel_rfl
 exact⟨.bool false,M12,Ev.told_tmp noNumP mixedP Try.func42 q42_ok (by kernel_rfl) rK42 (fun B=>sb0 (sbQ 70 Q70 (sbN _))) (fun _ _=>rfl) hraw (hk (q_eq (by rw[←eb3,←em4];kernel_rfl) Nat.one_ne_zero) (hk (lC dC3 g5 rfl) (hk (q_call rfl p13 l14 e15) (hk (bF cc0) (hk (bF cc0) (hk (bF cc0) (hk (bF cc0) (hk (bF cc0) hn)))))))),X21,hM17,rfl⟩
theorem w40_all(e:E4)(n:Int){M:Mem}(hM:MemOk M): ∃v M',Ev Try.prog [] 42 [.agg ⟨[i64 e.f,i64 e.t,i64 e.m,i64 e.c]⟩,i64 n] M v M'∧Ext M M'∧MemOk M'∧v= .bool (fitE n e):=by
 cases cc0:(belB e.f n) with
 |true=>
  cases cc1:(belB e.t n) with
  |true=>
   cases cc2:(belB e.m 5) with
   |true=>
    cases cc3:(decide (e.c≥(0:Int))) with
    |true=>
     obtain⟨v,M1,h1,h2,h3,h4⟩:=w40_0 e n hM cc0 cc1 cc2 cc3
     refine⟨v,M1,h1,h2,h3,?_⟩
     subst h4
     first|rfl|(simp only [fitE,cc0,cc1,cc2,cc3,cond_true,cond_false,Bool.true_and,Bool.false_and,Bool.and_true,Bool.and_false,Bool.true_or,Bool.false_or,Bool.or_true,Bool.or_false,Bool.not_true,Bool.not_false];done)|(simp only [fitE,cc0,cc1,cc2,cc3,cond_true,cond_false,Bool.true_and,Bool.false_and,Bool.and_true,Bool.and_false,Bool.true_or,Bool.false_or,Bool.or_true,Bool.or_false,Bool.not_true,Bool.not_false]<;>rfl)|(simp_all [fitE];done)
    |false=>
     obtain⟨v,M1,h1,h2,h3,h4⟩:=w40_1 e n hM cc0 cc1 cc2 cc3
     refine⟨v,M1,h1,h2,h3,?_⟩
     subst h4
     first|rfl|(simp only [fitE,cc0,cc1,cc2,cc3,cond_true,cond_false,Bool.true_and,Bool.false_and,Bool.and_true,Bool.and_false,Bool.true_or,Bool.false_or,Bool.or_true,Bool.or_false,Bool.not_true,Bool.not_false];done)|(simp only [fitE,cc0,cc1,cc2,cc3,cond_true,cond_false,Bool.true_and,Bool.false_and,Bool.and_true,Bool.and_false,Bool.true_or,Bool.false_or,Bool.or_true,Bool.or_false,Bool.not_true,Bool.not_false]<;>rfl)|(simp_all [fitE];done)
   |false=>
    obtain⟨v,M1,h1,h2,h3,h4⟩:=w40_2 e n hM cc0 cc1 cc2
    refine⟨v,M1,h1,h2,h3,?_⟩
    subst h4
    first|rfl|(simp only [fitE,cc0,cc1,cc2,cond_true,cond_false,Bool.true_and,Bool.false_and,Bool.and_true,Bool.and_false,Bool.true_or,Bool.false_or,Bool.or_true,Bool.or_false,Bool.not_true,Bool.not_false];done)|(simp only [fitE,cc0,cc1,cc2,cond_true,cond_false,Bool.true_and,Bool.false_and,Bool.and_true,Bool.and_false,Bool.true_or,Bool.false_or,Bool.or_true,Bool.or_false,Bool.not_true,Bool.not_false]<;>rfl)|(simp_all [fitE];done)
  |false=>
   obtain⟨v,M1,h1,h2,h3,h4⟩:=w40_3 e n hM cc0 cc1
   refine⟨v,M1,h1,h2,h3,?_⟩
   subst h4
   first|rfl|(simp only [fitE,cc0,cc1,cond_true,cond_false,Bool.true_and,Bool.false_and,Bool.and_true,Bool.and_false,Bool.true_or,Bool.false_or,Bool.or_true,Bool.or_false,Bool.not_true,Bool.not_false];done)|(simp only [fitE,cc0,cc1,cond_true,cond_false,Bool.true_and,Bool.false_and,Bool.and_true,Bool.and_false,Bool.true_or,Bool.false_or,Bool.or_true,Bool.or_false,Bool.not_true,Bool.not_false]<;>rfl)|(simp_all [fitE];done)
 |false=>
  obtain⟨v,M1,h1,h2,h3,h4⟩:=w40_4 e n hM cc0
  refine⟨v,M1,h1,h2,h3,?_⟩
  subst h4
  first|rfl|(simp only [fitE,cc0,cond_true,cond_false,Bool.true_and,Bool.false_and,Bool.and_true,Bool.and_false,Bool.true_or,Bool.false_or,Bool.or_true,Bool.or_false,Bool.not_true,Bool.not_false];done)|(simp only [fitE,cc0,cond_true,cond_false,Bool.true_and,Bool.false_and,Bool.and_true,Bool.and_false,Bool.true_or,Bool.false_or,Bool.or_true,Bool.or_false,Bool.not_true,Bool.not_false]<;>rfl)|(simp_all [fitE];done)
abbrev Q42:=FC (as2 pE pI) (plain pB) (fun x=>fitE x.2 x.1)
theorem con42{x:(E4)×(Int)}{lv:List Value}{M:Mem}(hM:MemOk M)(h:(as2 pE pI) x lv M): ∃v M',Con Try.prog [] 42 Q42 lv M v M':=by
 refine FC.con h ?_
 obtain⟨e,n⟩:=x
 obtain⟨g0,g1,rfl,k0,k1⟩:=h
 obtain rfl:=k0
 obtain rfl:=k1
 obtain⟨v,M',h1,h2,_,h3⟩:=w40_all e n hM
 exact⟨v,M',h1,h2,h3⟩
theorem rK41:Try.f41.results= #[.tmp 2]:=by kernel_rfl
theorem w39_0(n:Int){M:Mem}(hM:MemOk M)(cc0:(decide (n≥(1:Int)))=true): ∃v M',Ev Try.prog [] 41 [i64 n] M v M'∧Ext M M'∧MemOk M'∧v=(.bool (decide (n≤(60:Int)))):=by
 have hraw:oT Try.prog [] 60 Try.f41 q41 [i64 n] M [ttT 8,ttT 10,ttT 13] 2=some (.ret,some (.bool (decide (n≤(60:Int)))),M,[qT (decide (n≥(1:Int))),qT (decide (n≥(1:Int))),qT (decide (n≥(1:Int)))]):=by kernel_rfl
 exact⟨.bool (decide (n≤(60:Int))),M,Ev.told_tmp noNumP mixedP Try.func41 q41_ok (by kernel_rfl) rK41 (specs_none Try.prog) (fun _ _=>rfl) hraw (hk (bT cc0) (hk (bT cc0) (hk (bT cc0) hn))),Ext.refl M,hM,rfl⟩
theorem w39_1(n:Int){M:Mem}(hM:MemOk M)(cc0:(decide (n≥(1:Int)))=false): ∃v M',Ev Try.prog [] 41 [i64 n] M v M'∧Ext M M'∧MemOk M'∧v=(.bool false):=by
 have hraw:oT Try.prog [] 60 Try.f41 q41 [i64 n] M [ttF 8,ttF 10,ttF 13] 2=some (.ret,some (.bool false),M,[qF (decide (n≥(1:Int))),qF (decide (n≥(1:Int))),qF (decide (n≥(1:Int)))]):=by kernel_rfl
 exact⟨.bool false,M,Ev.told_tmp noNumP mixedP Try.func41 q41_ok (by kernel_rfl) rK41 (specs_none Try.prog) (fun _ _=>rfl) hraw (hk (bF cc0) (hk (bF cc0) (hk (bF cc0) hn))),Ext.refl M,hM,rfl⟩
theorem w39_all(n:Int){M:Mem}(hM:MemOk M): ∃v M',Ev Try.prog [] 41 [i64 n] M v M'∧Ext M M'∧MemOk M'∧v= .bool (fitN n):=by
 cases cc0:(decide (n≥(1:Int))) with
 |true=>
  obtain⟨v,M1,h1,h2,h3,h4⟩:=w39_0 n hM cc0
  refine⟨v,M1,h1,h2,h3,?_⟩
  subst h4
  first|rfl|(simp only [fitN,cc0,cond_true,cond_false,Bool.true_and,Bool.false_and,Bool.and_true,Bool.and_false,Bool.true_or,Bool.false_or,Bool.or_true,Bool.or_false,Bool.not_true,Bool.not_false];done)|(simp only [fitN,cc0,cond_true,cond_false,Bool.true_and,Bool.false_and,Bool.and_true,Bool.and_false,Bool.true_or,Bool.false_or,Bool.or_true,Bool.or_false,Bool.not_true,Bool.not_false]<;>rfl)|(simp_all [fitN];done)
 |false=>
  obtain⟨v,M1,h1,h2,h3,h4⟩:=w39_1 n hM cc0
  refine⟨v,M1,h1,h2,h3,?_⟩
  subst h4
  first|rfl|(simp only [fitN,cc0,cond_true,cond_false,Bool.true_and,Bool.false_and,Bool.and_true,Bool.and_false,Bool.true_or,Bool.false_or,Bool.or_true,Bool.or_false,Bool.not_true,Bool.not_false];done)|(simp only [fitN,cc0,cond_true,cond_false,Bool.true_and,Bool.false_and,Bool.and_true,Bool.and_false,Bool.true_or,Bool.false_or,Bool.or_true,Bool.or_false,Bool.not_true,Bool.not_false]<;>rfl)|(simp_all [fitN];done)
abbrev Q41:=FC (as1 pI) (plain pB) (fun x=>fitN x)
theorem con41{n:(Int)}{lv:List Value}{M:Mem}(hM:MemOk M)(h:(as1 pI) n lv M): ∃v M',Con Try.prog [] 41 Q41 lv M v M':=by
 refine FC.con h ?_
 obtain⟨g0,rfl,k0⟩:=h
 obtain rfl:=k0
 obtain⟨v,M',h1,h2,_,h3⟩:=w39_all n hM
 exact⟨v,M',h1,h2,h3⟩
theorem dC24:(Try.prog.underlying 24).map isAggD=some false:=by kernel_rfl
theorem dS24:(Try.prog.info? 24).map (·.size)=some 1:=by kernel_rfl
theorem dA37:(Try.prog.underlying 37).map isAggD=some true:=by kernel_rfl
theorem dS37:(Try.prog.info? 37).map (·.size)=some 4:=by kernel_rfl
theorem r27_0(b bb o m c i:Nat)(n:Int)(e:E4){M M0:Mem}(hM:MemOk M)(X0:Ext M0 M)(gb:M.get b=some ⟨[i64 n,sli bb o m c],26,2,0,true⟩)(cc0:(decide (((i:Int))<((m:Int))))=true)(cc1:(fitE n e)=true)(hld0:aload Try.prog 37 ⟨bb,o+((i:Int):Int).toNat*4,none⟩ M0=some (.agg ⟨[i64 e.f,i64 e.t,i64 e.m,i64 e.c]⟩)): ∃T1 M',Rd Try.prog [] (q20.loopAt 0) Try.f20.ntmps (fr [(1,(pt b 0)),(16,(sli bb o m c)),(17,(i64 ((m:Int)))),(18,(i64 ((i:Int))))]) M .normal T1 M'∧ [1,16,17,18].map T1.get= [some (pt b 0),some (sli bb o m c),some (i64 ((m:Int))),some (i64 (IntKind.wrap .i64 (((i:Int))+(1:Int))))]∧Ext M0 M'∧MemOk M'∧M'.get b=some ⟨[i64 n,sli bb o m c],26,2,0,true⟩∧ ∀id k,M.get id=some k→id≠b→M'.get id=some k:=by
 obtain⟨b1,M2,eb3,em4,g5,E6,hM7⟩:=new_t hM ⟨[i64 0,i64 0,i64 0,i64 0],37,4,0,true⟩
 have nb1:M0.next≤b1:=by rw[←eb3];exact X0.next
 have dbb1:b≠b1:=by have:=Mem.lt_of_get gb;omega
 have g8:=E6.old gb
 have X10:=X0.trans E6
 obtain⟨M11,q12,g13,kp14,X15,hM16,nx17⟩:=store_t (o:=0) (v:=(.agg ⟨[i64 e.f,i64 e.t,i64 e.m,i64 e.c]⟩)) (new:= [i64 e.f,i64 e.t,i64 e.m,i64 e.c]) X10 nb1 hM7 dS37 g5 rfl rfl (Nat.zero_le _) (Nat.le_of_ble_eq_true rfl) rfl
 replace g13:M11.get b1=some ⟨[i64 e.f,i64 e.t,i64 e.m,i64 e.c],37,4,0,true⟩:=g13
 have g18:=(kp14 _ dbb1).trans g8
 obtain⟨w19,N20,M21,p22,l23,e24,E25,hM26,F27⟩:=call_fc (x:=(e,n)) hM16 con42 (⟨_,_,rfl,rfl,rfl⟩)
 have g29:=E25.old g18
 have ew19:w19=(.bool (fitE n e)):=F27
 subst ew19
 have X31:=X15.trans E25
 have hraw:oR Try.prog [] 60 Try.f20 (q20.loopAt 0) [(1,(pt b 0)),(16,(sli bb o m c)),(17,(i64 ((m:Int)))),(18,(i64 ((i:Int))))] M [ttT 2,ttT 4,ttL 6 (.agg ⟨[i64 e.f,i64 e.t,i64 e.m,i64 e.c]⟩),ttV 8 (pt b1 0) M2,ttS 10 M11,ttL 12 (.agg ⟨[i64 e.f,i64 e.t,i64 e.m,i64 e.c]⟩),ttL 16 (i64 n),ttV 18 (.bool (fitE n e)) M21,ttF 21] [1,16,17,18]=some (.normal,[some (pt b 0),some (sli bb o m c),some (i64 ((m:Int))),some (i64 (IntKind.wrap .i64 (((i:Int))+(1:Int))))],M21,[qT (decide (((i:Int))<((m:Int)))),.q (.inb ((i:Int)) m) (ansB true),qL 37 bb (o+((i:Int):Int).toNat*4) M (.agg ⟨[i64 e.f,i64 e.t,i64 e.m,i64 e.c]⟩),.eq (aalloc Try.prog 37 M) (1,.val (pt b1 0),M2),qS 37 b1 0 (.agg ⟨[i64 e.f,i64 e.t,i64 e.m,i64 e.c]⟩) M2 M11,qL 37 b1 0 M11 (.agg ⟨[i64 e.f,i64 e.t,i64 e.m,i64 e.c]⟩),qL 3 b 0 M11 (i64 n),qC 42 [.agg ⟨[i64 e.f,i64 e.t,i64 e.m,i64 e.c]⟩,i64 n] M11 (.bool (fitE n e)) M21,qF (!(fitE n e))]):=by kernel_rfl
 have hkp: ∀id k,M.get id=some k→id≠b→M21.get id=some k:=fun id k g h_b=>by
  have g0:=Mem.lt_of_get g
  have g:=E6.old g
  have g:=((fun id h _=>kp14 id h) id (by omega) (Mem.lt_of_get g)).trans g
  have g:=E25.old g
  exact g
 obtain⟨T1,h1,h2⟩:=Rd.told noNumP mixedP (fun B=>sb0 (sbQ 42 Q42 (sbN _))) (fun _ _=>rfl) hraw (hk (bT cc0) (hk (q_inb (by omega) (by simp at cc0;omega)) (hk (q_ld (aload_ext X0 hld0)) (hk (q_eq (by rw[←eb3,←em4];kernel_rfl) Nat.one_ne_zero) (hk (q_st q12) (hk (lA ⟨dA37,dS37⟩ g13 rfl) (hk (lC dC3 g18 rfl) (hk (q_call rfl p22 l23 e24) (hk (bF (by rw[cc1];rfl)) hn)))))))))
 exact⟨T1,M21,h1,h2,X31,hM26,g29,hkp⟩
theorem r27_1(b bb o m c i:Nat)(n:Int)(e:E4){M M0:Mem}(hM:MemOk M)(X0:Ext M0 M)(gb:M.get b=some ⟨[i64 n,sli bb o m c],26,2,0,true⟩)(cc0:(decide (((i:Int))<((m:Int))))=true)(cc1:(fitE n e)=false)(hld0:aload Try.prog 37 ⟨bb,o+((i:Int):Int).toNat*4,none⟩ M0=some (.agg ⟨[i64 e.f,i64 e.t,i64 e.m,i64 e.c]⟩)): ∃T1 M',Rd Try.prog [] (q20.loopAt 0) Try.f20.ntmps (fr [(1,(pt b 0)),(16,(sli bb o m c)),(17,(i64 ((m:Int)))),(18,(i64 ((i:Int))))]) M .ret T1 M'∧ [2].map T1.get= [some (.bool false)]∧Ext M0 M'∧MemOk M'∧M'.get b=some ⟨[i64 n,sli bb o m c],26,2,0,true⟩∧ ∀id k,M.get id=some k→id≠b→M'.get id=some k:=by
 obtain⟨b1,M2,eb3,em4,g5,E6,hM7⟩:=new_t hM ⟨[i64 0,i64 0,i64 0,i64 0],37,4,0,true⟩
 have nb1:M0.next≤b1:=by rw[←eb3];exact X0.next
 have dbb1:b≠b1:=by have:=Mem.lt_of_get gb;omega
 have g8:=E6.old gb
 have X10:=X0.trans E6
 obtain⟨M11,q12,g13,kp14,X15,hM16,nx17⟩:=store_t (o:=0) (v:=(.agg ⟨[i64 e.f,i64 e.t,i64 e.m,i64 e.c]⟩)) (new:= [i64 e.f,i64 e.t,i64 e.m,i64 e.c]) X10 nb1 hM7 dS37 g5 rfl rfl (Nat.zero_le _) (Nat.le_of_ble_eq_true rfl) rfl
 replace g13:M11.get b1=some ⟨[i64 e.f,i64 e.t,i64 e.m,i64 e.c],37,4,0,true⟩:=g13
 have g18:=(kp14 _ dbb1).trans g8
 obtain⟨w19,N20,M21,p22,l23,e24,E25,hM26,F27⟩:=call_fc (x:=(e,n)) hM16 con42 (⟨_,_,rfl,rfl,rfl⟩)
 have g29:=E25.old g18
 have ew19:w19=(.bool (fitE n e)):=F27
 subst ew19
 have X31:=X15.trans E25
 have hraw:oR Try.prog [] 60 Try.f20 (q20.loopAt 0) [(1,(pt b 0)),(16,(sli bb o m c)),(17,(i64 ((m:Int)))),(18,(i64 ((i:Int))))] M [ttT 2,ttT 4,ttL 6 (.agg ⟨[i64 e.f,i64 e.t,i64 e.m,i64 e.c]⟩),ttV 8 (pt b1 0) M2,ttS 10 M11,ttL 12 (.agg ⟨[i64 e.f,i64 e.t,i64 e.m,i64 e.c]⟩),ttL 16 (i64 n),ttV 18 (.bool (fitE n e)) M21,ttT 21] [2]=some (.ret,[some (.bool false)],M21,[qT (decide (((i:Int))<((m:Int)))),.q (.inb ((i:Int)) m) (ansB true),qL 37 bb (o+((i:Int):Int).toNat*4) M (.agg ⟨[i64 e.f,i64 e.t,i64 e.m,i64 e.c]⟩),.eq (aalloc Try.prog 37 M) (1,.val (pt b1 0),M2),qS 37 b1 0 (.agg ⟨[i64 e.f,i64 e.t,i64 e.m,i64 e.c]⟩) M2 M11,qL 37 b1 0 M11 (.agg ⟨[i64 e.f,i64 e.t,i64 e.m,i64 e.c]⟩),qL 3 b 0 M11 (i64 n),qC 42 [.agg ⟨[i64 e.f,i64 e.t,i64 e.m,i64 e.c]⟩,i64 n] M11 (.bool (fitE n e)) M21,qT (!(fitE n e))]):=by kernel_rfl
 have hkp: ∀id k,M.get id=some k→id≠b→M21.get id=some k:=fun id k g h_b=>by
  have g0:=Mem.lt_of_get g
  have g:=E6.old g
  have g:=((fun id h _=>kp14 id h) id (by omega) (Mem.lt_of_get g)).trans g
  have g:=E25.old g
  exact g
 obtain⟨T1,h1,h2⟩:=Rd.told noNumP mixedP (fun B=>sb0 (sbQ 42 Q42 (sbN _))) (fun _ _=>rfl) hraw (hk (bT cc0) (hk (q_inb (by omega) (by simp at cc0;omega)) (hk (q_ld (aload_ext X0 hld0)) (hk (q_eq (by rw[←eb3,←em4];kernel_rfl) Nat.one_ne_zero) (hk (q_st q12) (hk (lA ⟨dA37,dS37⟩ g13 rfl) (hk (lC dC3 g18 rfl) (hk (q_call rfl p22 l23 e24) (hk (bT (by rw[cc1];rfl)) hn)))))))))
 exact⟨T1,M21,h1,h2,X31,hM26,g29,hkp⟩
theorem r27x(b:Nat)(a:Option Addr)(m c i:Nat)(n:Int){M:Mem}(gb:M.get b=some ⟨[i64 n,.slice a m c],26,2,0,true⟩)(cc0:(decide (((i:Int))<((m:Int))))=false): ∃T1,Rd Try.prog [] (q20.loopAt 0) Try.f20.ntmps (fr [(1,(pt b 0)),(16,(.slice a m c)),(17,(i64 ((m:Int)))),(18,(i64 ((i:Int))))]) M (.exit 0) T1 M∧ [].map T1.get= []:=by
 have hraw:oR Try.prog [] 60 Try.f20 (q20.loopAt 0) [(1,(pt b 0)),(16,(.slice a m c)),(17,(i64 ((m:Int)))),(18,(i64 ((i:Int))))] M [ttF 2] []=some ((.exit 0),[],M,[qF (decide (((i:Int))<((m:Int))))]):=by kernel_rfl
 obtain⟨T1,h1,h2⟩:=Rd.told noNumP mixedP (specs_none Try.prog) (fun _ _=>rfl) hraw (hk (bF cc0) hn)
 exact⟨T1,h1,h2⟩
theorem loop27{b:Nat}{a:Option Addr}{c:Nat}{n:Int}{l:List E4}{M:Mem}(hM:MemOk M)(hs:EdgesAt M (.slice a l.length c) l)(hg:M.get b=some ⟨[i64 n,.slice a l.length c],26,2,0,true⟩):
  ∃e O M',LoopR Try.prog [] (q20.loopAt 0) Try.f20.ntmps (fr [(1,pt b 0),(16,.slice a l.length c),(17,i64 l.length),(18,i64 ((0:Nat):Int))]) M e (fr O) M'∧Ext M M'∧MemOk M'∧
   ((e= .exit 0∧O= []∧l.all (fitE n)=true)∨(e= .ret∧O= [(2,.bool false)]∧l.all (fitE n)=false)):=by
 have hlen:=hs.len
 refine LoopR.forE (σ:=Unit) (n:=l.length) (Inv:=fun i _ M1=>Ext M M1∧MemOk M1∧M1.get b=some ⟨[i64 n,.slice a l.length c],26,2,0,true⟩∧(l.take i).all (fitE n)=true)
  (F:=fun i _=> [(1,pt b 0),(16,.slice a l.length c),(17,i64 l.length),(18,i64 ((i:Nat):Int))])
  (Post:=fun e O M'=>Ext M M'∧MemOk M'∧((e= .exit 0∧O= []∧l.all (fitE n)=true)∨(e= .ret∧O= [(2,.bool false)]∧l.all (fitE n)=false))) ?_ ?_ l.length 0 (by omega) (s:=()) ⟨Ext.refl M,hM,hg,by simp⟩
 ·rintro i _ M1 hi ⟨X,hM1,hg1,hall⟩
  obtain⟨bb,o,rfl,_⟩:=form_pos hs (by omega)
  have ht:l[i]?=some l[i]:=List.getElem?_eq_getElem hi
  have hld:=ld_row (P:=Try.prog) (ty:=37) hs ht dA37 dS37
  cases hf:fitE n l[i] with
  |true=>
   obtain⟨T1,M2,h1,h2,h3,h4,h5,_⟩:=r27_0 b bb o l.length c i n l[i] hM1 X hg1 (decide_eq_true (by omega)) hf hld
   rw[wrap_succ (by omega)] at h2
   refine .inl ⟨(),T1,M2,h1,h2,h3,h4,h5,?_⟩
   rw[List.take_succ_eq_append_getElem hi,List.all_append,hall]
   simp [hf]
  |false=>
   obtain⟨T1,M2,h1,h2,h3,h4,h5,_⟩:=r27_1 b bb o l.length c i n l[i] hM1 X hg1 (decide_eq_true (by omega)) hf hld
   refine .inr ⟨_,[(2,.bool false)],T1,M2,h1,by simp,h2,h3,h4,.inr ⟨rfl,rfl,?_⟩⟩
   rw[List.all_eq_false]
   exact⟨l[i],List.getElem_mem hi,by simp [hf]⟩
 ·rintro _ M1 ⟨X,hM1,hg1,hall⟩
  obtain⟨T1,h1,h2⟩:=r27x b a l.length c l.length n hg1 (decide_eq_false (by omega))
  refine⟨_,[],T1,M1,h1,by simp,h2,X,hM1,.inl ⟨rfl,rfl,?_⟩⟩
  rwa [List.take_length] at hall
theorem loop27_t{b:Nat}{a:Option Addr}{c:Nat}{n:Int}{l:List E4}{M:Mem}(hM:MemOk M)(hs:EdgesAt M (.slice a l.length c) l)(hg:M.get b=some ⟨[i64 n,.slice a l.length c],26,2,0,true⟩)(h:l.all (fitE n)=true):
  ∃M',LoopR Try.prog [] (q20.loopAt 0) Try.f20.ntmps (fr [(1,pt b 0),(16,.slice a l.length c),(17,i64 l.length),(18,i64 ((0:Nat):Int))]) M (.exit 0) (fr []) M'∧Ext M M'∧MemOk M':=by
 obtain⟨e,O,M',h1,h2,h3,h4|h4⟩:=loop27 hM hs hg
 ·obtain⟨rfl,rfl,_⟩:=h4;exact⟨M',h1,h2,h3⟩
 ·rw[h] at h4;cases h4.2.2
theorem loop27_f{b:Nat}{a:Option Addr}{c:Nat}{n:Int}{l:List E4}{M:Mem}(hM:MemOk M)(hs:EdgesAt M (.slice a l.length c) l)(hg:M.get b=some ⟨[i64 n,.slice a l.length c],26,2,0,true⟩)(h:l.all (fitE n)=false):
  ∃M',LoopR Try.prog [] (q20.loopAt 0) Try.f20.ntmps (fr [(1,pt b 0),(16,.slice a l.length c),(17,i64 l.length),(18,i64 ((0:Nat):Int))]) M .ret (fr [(2,.bool false)]) M'∧Ext M M'∧MemOk M':=by
 obtain⟨e,O,M',h1,h2,h3,h4|h4⟩:=loop27 hM hs hg
 ·rw[h] at h4;cases h4.2.2
 ·obtain⟨rfl,rfl,_⟩:=h4;exact⟨M',h1,h2,h3⟩
theorem rK20:Try.f20.results= #[.tmp 2]:=by kernel_rfl
theorem w27_0(ln:Int)(al:Option Addr)(cl:Nat)(l:List E4){M:Mem}(hM:MemOk M)(hl:pEdges l (.slice al l.length cl) M)(cc0:(fitN ln)=true)(cc1:(decide (((l.length:Int))>(400:Int)))=true): ∃v M',Ev Try.prog [] 20 [.agg ⟨[i64 ln,.slice al l.length cl]⟩] M v M'∧Ext M M'∧MemOk M'∧v=(.bool false):=by
 obtain⟨b1,M2,eb3,em4,g5,E6,hM7⟩:=new_t hM ⟨[i64 ln,.slice al l.length cl],26,2,0,true⟩
 have X9:=(Ext.refl M).trans E6
 obtain⟨w10,N11,M12,p13,l14,e15,E16,hM17,F18⟩:=call_fc (x:=ln) hM7 con41 (⟨_,rfl,rfl⟩)
 have g20:=E16.old g5
 have ew10:w10=(.bool (fitN ln)):=F18
 subst ew10
 have X21:=X9.trans E16
 have hraw:oT Try.prog [] 60 Try.f20 q20 [.agg ⟨[i64 ln,.slice al l.length cl]⟩] M [ttV 1 (pt b1 0) M2,ttL 7 (i64 ln),ttV 9 (.bool (fitN ln)) M12,ttF 14,ttF 16,ttL 17 (.slice al l.length cl),ttF 18,ttT 19,ttF 20,ttF 23,ttT 24] 2=some (.ret,some (.bool false),M12,[.eq (abox Try.prog 26 (.agg ⟨[i64 ln,.slice al l.length cl]⟩) M) (1,.val (pt b1 0),M2),qL 3 b1 0 M2 (i64 ln),qC 41 [i64 ln] M2 (.bool (fitN ln)) M12,qF (!(fitN ln)),qF (!(fitN ln)),qL 24 b1 1 M12 (.slice al l.length cl),qF (!(fitN ln)),.ln al l.length cl,qF (!(fitN ln)),qF (!(fitN ln)),qT (decide (((l.length:Int))>(400:Int)))]):=by kernel_rfl
 exact⟨.bool false,M12,Ev.told_tmp noNumP mixedP Try.func20 q20_ok (by kernel_rfl) rK20 (fun B=>sb0 (sbQ 41 Q41 (sbN _))) (fun _ _=>rfl) hraw (hk (q_eq (by rw[←eb3,←em4];kernel_rfl) Nat.one_ne_zero) (hk (lC dC3 g5 rfl) (hk (q_call rfl p13 l14 e15) (hk (bF (by rw[cc0];rfl)) (hk (bF (by rw[cc0];rfl)) (hk (lC dC24 g20 rfl) (hk (bF (by rw[cc0];rfl)) (hk (lN hl.ln) (hk (bF (by rw[cc0];rfl)) (hk (bF (by rw[cc0];rfl)) (hk (bT cc1) hn))))))))))),X21,hM17,rfl⟩
theorem w27_1(ln:Int)(al:Option Addr)(cl:Nat)(l:List E4){M:Mem}(hM:MemOk M)(hl:pEdges l (.slice al l.length cl) M)(cc0:(fitN ln)=true)(cc1:(decide (((l.length:Int))>(400:Int)))=false)(cc2:(l.all (fitE ln))=true): ∃v M',Ev Try.prog [] 20 [.agg ⟨[i64 ln,.slice al l.length cl]⟩] M v M'∧Ext M M'∧MemOk M'∧v=(.bool true):=by
 obtain⟨b1,M2,eb3,em4,g5,E6,hM7⟩:=new_t hM ⟨[i64 ln,.slice al l.length cl],26,2,0,true⟩
 have X9:=(Ext.refl M).trans E6
 obtain⟨w10,N11,M12,p13,l14,e15,E16,hM17,F18⟩:=call_fc (x:=ln) hM7 con41 (⟨_,rfl,rfl⟩)
 have g20:=E16.old g5
 have ew10:w10=(.bool (fitN ln)):=F18
 subst ew10
 have X21:=X9.trans E16
 obtain⟨M22,hL23,E24,hM25⟩:=loop27_t hM17 (AP.Ext (R:=pEdges) hl X21) g20 cc2
 have X28:=X21.trans E24
 have hraw:oT Try.prog [0] 60 Try.f20 q20 [.agg ⟨[i64 ln,.slice al l.length cl]⟩] M [ttV 1 (pt b1 0) M2,ttL 7 (i64 ln),ttV 9 (.bool (fitN ln)) M12,ttF 14,ttF 16,ttL 17 (.slice al l.length cl),ttF 18,ttT 19,ttF 20,ttF 23,ttF 24,ttL 28 (.slice al l.length cl),ttT 30,.blk 33 [1,16,17,18] .normal (fr []) M22] 2=some (.ret,some (.bool true),M22,[.eq (abox Try.prog 26 (.agg ⟨[i64 ln,.slice al l.length cl]⟩) M) (1,.val (pt b1 0),M2),qL 3 b1 0 M2 (i64 ln),qC 41 [i64 ln] M2 (.bool (fitN ln)) M12,qF (!(fitN ln)),qF (!(fitN ln)),qL 24 b1 1 M12 (.slice al l.length cl),qF (!(fitN ln)),.ln al l.length cl,qF (!(fitN ln)),qF (!(fitN ln)),qF (decide (((l.length:Int))>(400:Int))),qL 24 b1 1 M12 (.slice al l.length cl),.ln al l.length cl,.blk 0 (.loop (q20.loopAt 0)) Try.f20.ntmps [1,16,17,18] [some (pt b1 0),some (.slice al l.length cl),some (i64 ((l.length:Int))),some (i64 0)] M12 .normal (fr []) M22]):=by kernel_rfl
 exact⟨.bool true,M22,Ev.told_tmp noNumP mixedP Try.func20 q20_ok (by kernel_rfl) rK20 (fun B=>sb1 (sbQ 41 Q41 (sbN _)) 0 hL23) (fun _ h=>blksF_one h) hraw (hk (q_eq (by rw[←eb3,←em4];kernel_rfl) Nat.one_ne_zero) (hk (lC dC3 g5 rfl) (hk (q_call rfl p13 l14 e15) (hk (bF (by rw[cc0];rfl)) (hk (bF (by rw[cc0];rfl)) (hk (lC dC24 g20 rfl) (hk (bF (by rw[cc0];rfl)) (hk (lN hl.ln) (hk (bF (by rw[cc0];rfl)) (hk (bF (by rw[cc0];rfl)) (hk (bF cc1) (hk (lC dC24 g20 rfl) (hk (lN hl.ln) (hk (q_blk rfl) hn)))))))))))))),X28,hM25,rfl⟩
theorem w27_2(ln:Int)(al:Option Addr)(cl:Nat)(l:List E4){M:Mem}(hM:MemOk M)(hl:pEdges l (.slice al l.length cl) M)(cc0:(fitN ln)=true)(cc1:(decide (((l.length:Int))>(400:Int)))=false)(cc2:(l.all (fitE ln))=false): ∃v M',Ev Try.prog [] 20 [.agg ⟨[i64 ln,.slice al l.length cl]⟩] M v M'∧Ext M M'∧MemOk M'∧v=(.bool false):=by
 obtain⟨b1,M2,eb3,em4,g5,E6,hM7⟩:=new_t hM ⟨[i64 ln,.slice al l.length cl],26,2,0,true⟩
 have X9:=(Ext.refl M).trans E6
 obtain⟨w10,N11,M12,p13,l14,e15,E16,hM17,F18⟩:=call_fc (x:=ln) hM7 con41 (⟨_,rfl,rfl⟩)
 have g20:=E16.old g5
 have ew10:w10=(.bool (fitN ln)):=F18
 subst ew10
 have X21:=X9.trans E16
 obtain⟨M22,hL23,E24,hM25⟩:=loop27_f hM17 (AP.Ext (R:=pEdges) hl X21) g20 cc2
 have X28:=X21.trans E24
 have hraw:oT Try.prog [0] 60 Try.f20 q20 [.agg ⟨[i64 ln,.slice al l.length cl]⟩] M [ttV 1 (pt b1 0) M2,ttL 7 (i64 ln),ttV 9 (.bool (fitN ln)) M12,ttF 14,ttF 16,ttL 17 (.slice al l.length cl),ttF 18,ttT 19,ttF 20,ttF 23,ttF 24,ttL 28 (.slice al l.length cl),ttT 30,.blk 33 [1,16,17,18] .ret (fr [(2,(.bool false))]) M22] 2=some (.ret,some (.bool false),M22,[.eq (abox Try.prog 26 (.agg ⟨[i64 ln,.slice al l.length cl]⟩) M) (1,.val (pt b1 0),M2),qL 3 b1 0 M2 (i64 ln),qC 41 [i64 ln] M2 (.bool (fitN ln)) M12,qF (!(fitN ln)),qF (!(fitN ln)),qL 24 b1 1 M12 (.slice al l.length cl),qF (!(fitN ln)),.ln al l.length cl,qF (!(fitN ln)),qF (!(fitN ln)),qF (decide (((l.length:Int))>(400:Int))),qL 24 b1 1 M12 (.slice al l.length cl),.ln al l.length cl,.blk 0 (.loop (q20.loopAt 0)) Try.f20.ntmps [1,16,17,18] [some (pt b1 0),some (.slice al l.length cl),some (i64 ((l.length:Int))),some (i64 0)] M12 .ret (fr [(2,(.bool false))]) M22]):=by kernel_rfl
 exact⟨.bool false,M22,Ev.told_tmp noNumP mixedP Try.func20 q20_ok (by kernel_rfl) rK20 (fun B=>sb1 (sbQ 41 Q41 (sbN _)) 0 hL23) (fun _ h=>blksF_one h) hraw (hk (q_eq (by rw[←eb3,←em4];kernel_rfl) Nat.one_ne_zero) (hk (lC dC3 g5 rfl) (hk (q_call rfl p13 l14 e15) (hk (bF (by rw[cc0];rfl)) (hk (bF (by rw[cc0];rfl)) (hk (lC dC24 g20 rfl) (hk (bF (by rw[cc0];rfl)) (hk (lN hl.ln) (hk (bF (by rw[cc0];rfl)) (hk (bF (by rw[cc0];rfl)) (hk (bF cc1) (hk (lC dC24 g20 rfl) (hk (lN hl.ln) (hk (q_blk rfl) hn)))))))))))))),X28,hM25,rfl⟩
theorem w27_3(ln:Int)(al:Option Addr)(cl:Nat)(l:List E4){M:Mem}(hM:MemOk M)(hl:pEdges l (.slice al l.length cl) M)(cc0:(fitN ln)=false): ∃v M',Ev Try.prog [] 20 [.agg ⟨[i64 ln,.slice al l.length cl]⟩] M v M'∧Ext M M'∧MemOk M'∧v=(.bool false):=by
 obtain⟨b1,M2,eb3,em4,g5,E6,hM7⟩:=new_t hM ⟨[i64 ln,.slice al l.length cl],26,2,0,true⟩
 have X9:=(Ext.refl M).trans E6
 obtain⟨w10,N11,M12,p13,l14,e15,E16,hM17,F18⟩:=call_fc (x:=ln) hM7 con41 (⟨_,rfl,rfl⟩)
 have ew10:w10=(.bool (fitN ln)):=F18
 subst ew10
 have X21:=X9.trans E16
 have hraw:oT Try.prog [] 60 Try.f20 q20 [.agg ⟨[i64 ln,.slice al l.length cl]⟩] M [ttV 1 (pt b1 0) M2,ttL 7 (i64 ln),ttV 9 (.bool (fitN ln)) M12,ttT 14,ttT 16,ttT 18,ttT 20,ttT 23] 2=some (.ret,some (.bool false),M12,[.eq (abox Try.prog 26 (.agg ⟨[i64 ln,.slice al l.length cl]⟩) M) (1,.val (pt b1 0),M2),qL 3 b1 0 M2 (i64 ln),qC 41 [i64 ln] M2 (.bool (fitN ln)) M12,qT (!(fitN ln)),qT (!(fitN ln)),qT (!(fitN ln)),qT (!(fitN ln)),qT (!(fitN ln))]):=by kernel_rfl
 exact⟨.bool false,M12,Ev.told_tmp noNumP mixedP Try.func20 q20_ok (by kernel_rfl) rK20 (fun B=>sb0 (sbQ 41 Q41 (sbN _))) (fun _ _=>rfl) hraw (hk (q_eq (by rw[←eb3,←em4];kernel_rfl) Nat.one_ne_zero) (hk (lC dC3 g5 rfl) (hk (q_call rfl p13 l14 e15) (hk (bT (by rw[cc0];rfl)) (hk (bT (by rw[cc0];rfl)) (hk (bT (by rw[cc0];rfl)) (hk (bT (by rw[cc0];rfl)) (hk (bT (by rw[cc0];rfl)) hn)))))))),X21,hM17,rfl⟩
theorem w27_all(ln:Int)(al:Option Addr)(cl:Nat)(l:List E4){M:Mem}(hM:MemOk M)(hl:pEdges l (.slice al l.length cl) M): ∃v M',Ev Try.prog [] 20 [.agg ⟨[i64 ln,.slice al l.length cl]⟩] M v M'∧Ext M M'∧MemOk M'∧v= .bool (chkN ln l):=by
 cases cc0:(fitN ln) with
 |true=>
  cases cc1:(decide (((l.length:Int))>(400:Int))) with
  |true=>
   obtain⟨v,M1,h1,h2,h3,h4⟩:=w27_0 ln al cl l hM hl cc0 cc1
   refine⟨v,M1,h1,h2,h3,?_⟩
   subst h4
   first|rfl|(simp only [chkN,cc0,cc1,cond_true,cond_false,Bool.true_and,Bool.false_and,Bool.and_true,Bool.and_false,Bool.true_or,Bool.false_or,Bool.or_true,Bool.or_false,Bool.not_true,Bool.not_false];done)|(simp only [chkN,cc0,cc1,cond_true,cond_false,Bool.true_and,Bool.false_and,Bool.and_true,Bool.and_false,Bool.true_or,Bool.false_or,Bool.or_true,Bool.or_false,Bool.not_true,Bool.not_false]<;>rfl)|(simp_all [chkN];done)
  |false=>
   cases cc2:(l.all (fitE ln)) with
   |true=>
    obtain⟨v,M1,h1,h2,h3,h4⟩:=w27_1 ln al cl l hM hl cc0 cc1 cc2
    refine⟨v,M1,h1,h2,h3,?_⟩
    subst h4
    first|rfl|(simp only [chkN,cc0,cc1,cc2,cond_true,cond_false,Bool.true_and,Bool.false_and,Bool.and_true,Bool.and_false,Bool.true_or,Bool.false_or,Bool.or_true,Bool.or_false,Bool.not_true,Bool.not_false];done)|(simp only [chkN,cc0,cc1,cc2,cond_true,cond_false,Bool.true_and,Bool.false_and,Bool.and_true,Bool.and_false,Bool.true_or,Bool.false_or,Bool.or_true,Bool.or_false,Bool.not_true,Bool.not_false]<;>rfl)|(simp_all [chkN];done)
   |false=>
    obtain⟨v,M1,h1,h2,h3,h4⟩:=w27_2 ln al cl l hM hl cc0 cc1 cc2
    refine⟨v,M1,h1,h2,h3,?_⟩
    subst h4
    first|rfl|(simp only [chkN,cc0,cc1,cc2,cond_true,cond_false,Bool.true_and,Bool.false_and,Bool.and_true,Bool.and_false,Bool.true_or,Bool.false_or,Bool.or_true,Bool.or_false,Bool.not_true,Bool.not_false];done)|(simp only [chkN,cc0,cc1,cc2,cond_true,cond_false,Bool.true_and,Bool.false_and,Bool.and_true,Bool.and_false,Bool.true_or,Bool.false_or,Bool.or_true,Bool.or_false,Bool.not_true,Bool.not_false]<;>rfl)|(simp_all [chkN];done)
 |false=>
  obtain⟨v,M1,h1,h2,h3,h4⟩:=w27_3 ln al cl l hM hl cc0
  refine⟨v,M1,h1,h2,h3,?_⟩
  subst h4
  first|rfl|(simp only [chkN,cc0,cond_true,cond_false,Bool.true_and,Bool.false_and,Bool.and_true,Bool.and_false,Bool.true_or,Bool.false_or,Bool.or_true,Bool.or_false,Bool.not_true,Bool.not_false];done)|(simp only [chkN,cc0,cond_true,cond_false,Bool.true_and,Bool.false_and,Bool.and_true,Bool.and_false,Bool.true_or,Bool.false_or,Bool.or_true,Bool.or_false,Bool.not_true,Bool.not_false]<;>rfl)|(simp_all [chkN];done)
abbrev Q20:=FC (as1 pNet) (plain pB) (fun x=>chkN x.1 x.2)
theorem con20{l:(Int×List E4)}{lv:List Value}{M:Mem}(hM:MemOk M)(h:(as1 pNet) l lv M): ∃v M',Con Try.prog [] 20 Q20 lv M v M':=by
 refine FC.con h ?_
 obtain⟨g0,rfl,k0⟩:=h
 obtain⟨ln,l⟩:=l
 obtain⟨_,rfl,hl⟩:=k0
 obtain⟨al,cl,rfl⟩:=GRowsAt.form hl
 obtain⟨v,M',h1,h2,_,h3⟩:=w27_all ln al cl l hM hl
 exact⟨v,M',h1,h2,h3⟩
theorem rK86:Try.f86.results= #[.tmp 2]:=by kernel_rfl
theorem w35_0(e:E4){M:Mem}(hM:MemOk M): ∃v M',Ev Try.prog [] 86 [.agg ⟨[i64 e.f,i64 e.t,i64 e.m,i64 e.c]⟩] M v M'∧Ext M M'∧MemOk M'∧v=(i64 e.t):=by
 obtain⟨b1,M2,eb3,em4,g5,E6,hM7⟩:=new_t hM ⟨[i64 e.f,i64 e.t,i64 e.m,i64 e.c],111,4,0,true⟩
 have X9:=(Ext.refl M).trans E6
 have hraw:oT Try.prog [] 60 Try.f86 q86 [.agg ⟨[i64 e.f,i64 e.t,i64 e.m,i64 e.c]⟩] M [ttV 1 (pt b1 0) M2,ttL 7 (i64 e.t)] 2=some (.ret,some (i64 e.t),M2,[.eq (abox Try.prog 111 (.agg ⟨[i64 e.f,i64 e.t,i64 e.m,i64 e.c]⟩) M) (1,.val (pt b1 0),M2),qL 3 b1 1 M2 (i64 e.t)]):=by kernel_rfl
 exact⟨i64 e.t,M2,Ev.told_tmp noNumP mixedP Try.func86 q86_ok (by kernel_rfl) rK86 (specs_none Try.prog) (fun _ _=>rfl) hraw (hk (q_eq (by rw[←eb3,←em4];kernel_rfl) Nat.one_ne_zero) (hk (lC dC3 g5 rfl) hn)),X9,hM7,rfl⟩
theorem w35_all(e:E4){M:Mem}(hM:MemOk M): ∃v M',Ev Try.prog [] 86 [.agg ⟨[i64 e.f,i64 e.t,i64 e.m,i64 e.c]⟩] M v M'∧Ext M M'∧MemOk M'∧v=i64 (e.t):=by
 obtain⟨v,M1,h1,h2,h3,h4⟩:=w35_0 e hM
 refine⟨v,M1,h1,h2,h3,?_⟩
 subst h4
 first|rfl|(simp only [cond_true,cond_false,Bool.true_and,Bool.false_and,Bool.and_true,Bool.and_false,Bool.true_or,Bool.false_or,Bool.or_true,Bool.or_false,Bool.not_true,Bool.not_false];done)|(simp only [cond_true,cond_false,Bool.true_and,Bool.false_and,Bool.and_true,Bool.and_false,Bool.true_or,Bool.false_or,Bool.or_true,Bool.or_false,Bool.not_true,Bool.not_false]<;>rfl)|(simp_all [];done)
abbrev Q86:=FC (as1 pE) (plain pI) (fun x=>x.t)
theorem con86{e:(E4)}{lv:List Value}{M:Mem}(hM:MemOk M)(h:(as1 pE) e lv M): ∃v M',Con Try.prog [] 86 Q86 lv M v M':=by
 refine FC.con h ?_
 obtain⟨g0,rfl,k0⟩:=h
 obtain rfl:=k0
 obtain⟨v,M',h1,h2,_,h3⟩:=w35_all e hM
 exact⟨v,M',h1,h2,h3⟩
theorem rK88:Try.f88.results= #[.tmp 2]:=by kernel_rfl
theorem w37_0(e:E4){M:Mem}(hM:MemOk M): ∃v M',Ev Try.prog [] 88 [.agg ⟨[i64 e.f,i64 e.t,i64 e.m,i64 e.c]⟩] M v M'∧Ext M M'∧MemOk M'∧v=(i64 e.f):=by
 obtain⟨b1,M2,eb3,em4,g5,E6,hM7⟩:=new_t hM ⟨[i64 e.f,i64 e.t,i64 e.m,i64 e.c],111,4,0,true⟩
 have X9:=(Ext.refl M).trans E6
 have hraw:oT Try.prog [] 60 Try.f88 q88 [.agg ⟨[i64 e.f,i64 e.t,i64 e.m,i64 e.c]⟩] M [ttV 1 (pt b1 0) M2,ttL 7 (i64 e.f)] 2=some (.ret,some (i64 e.f),M2,[.eq (abox Try.prog 111 (.agg ⟨[i64 e.f,i64 e.t,i64 e.m,i64 e.c]⟩) M) (1,.val (pt b1 0),M2),qL 3 b1 0 M2 (i64 e.f)]):=by kernel_rfl
 exact⟨i64 e.f,M2,Ev.told_tmp noNumP mixedP Try.func88 q88_ok (by kernel_rfl) rK88 (specs_none Try.prog) (fun _ _=>rfl) hraw (hk (q_eq (by rw[←eb3,←em4];kernel_rfl) Nat.one_ne_zero) (hk (lC dC3 g5 rfl) hn)),X9,hM7,rfl⟩
theorem w37_all(e:E4){M:Mem}(hM:MemOk M): ∃v M',Ev Try.prog [] 88 [.agg ⟨[i64 e.f,i64 e.t,i64 e.m,i64 e.c]⟩] M v M'∧Ext M M'∧MemOk M'∧v=i64 (e.f):=by
 obtain⟨v,M1,h1,h2,h3,h4⟩:=w37_0 e hM
 refine⟨v,M1,h1,h2,h3,?_⟩
 subst h4
 first|rfl|(simp only [cond_true,cond_false,Bool.true_and,Bool.false_and,Bool.and_true,Bool.and_false,Bool.true_or,Bool.false_or,Bool.or_true,Bool.or_false,Bool.not_true,Bool.not_false];done)|(simp only [cond_true,cond_false,Bool.true_and,Bool.false_and,Bool.and_true,Bool.and_false,Bool.true_or,Bool.false_or,Bool.or_true,Bool.or_false,Bool.not_true,Bool.not_false]<;>rfl)|(simp_all [];done)
abbrev Q88:=FC (as1 pE) (plain pI) (fun x=>x.f)
theorem con88{e:(E4)}{lv:List Value}{M:Mem}(hM:MemOk M)(h:(as1 pE) e lv M): ∃v M',Con Try.prog [] 88 Q88 lv M v M':=by
 refine FC.con h ?_
 obtain⟨g0,rfl,k0⟩:=h
 obtain rfl:=k0
 obtain⟨v,M',h1,h2,_,h3⟩:=w37_all e hM
 exact⟨v,M',h1,h2,h3⟩
theorem rK89:Try.f89.results= #[.tmp 2]:=by kernel_rfl
theorem w38_0(f t c:Int){M:Mem}(hM:MemOk M): ∃v M',Ev Try.prog [] 89 [.agg ⟨[i64 f,i64 t,i64 0,i64 c]⟩] M v M'∧Ext M M'∧MemOk M'∧v=(i64 1):=by
 obtain⟨b1,M2,eb3,em4,g5,E6,hM7⟩:=new_t hM ⟨[i64 f,i64 t,i64 0,i64 c],111,4,0,true⟩
 have X9:=(Ext.refl M).trans E6
 have hraw:oT Try.prog [] 60 Try.f89 q89 [.agg ⟨[i64 f,i64 t,i64 0,i64 c]⟩] M [ttV 1 (pt b1 0) M2,ttL 7 (i64 0)] 2=some (.ret,some (i64 1),M2,[.eq (abox Try.prog 111 (.agg ⟨[i64 f,i64 t,i64 0,i64 c]⟩) M) (1,.val (pt b1 0),M2),qL 3 b1 2 M2 (i64 0)]):=by kernel_rfl
 exact⟨i64 1,M2,Ev.told_tmp noNumP mixedP Try.func89 q89_ok (by kernel_rfl) rK89 (specs_none Try.prog) (fun _ _=>rfl) hraw (hk (q_eq (by rw[←eb3,←em4];kernel_rfl) Nat.one_ne_zero) (hk (lC dC3 g5 rfl) hn)),X9,hM7,rfl⟩
theorem w38_1(f t c:Int){M:Mem}(hM:MemOk M): ∃v M',Ev Try.prog [] 89 [.agg ⟨[i64 f,i64 t,i64 1,i64 c]⟩] M v M'∧Ext M M'∧MemOk M'∧v=(i64 2):=by
 obtain⟨b1,M2,eb3,em4,g5,E6,hM7⟩:=new_t hM ⟨[i64 f,i64 t,i64 1,i64 c],111,4,0,true⟩
 have X9:=(Ext.refl M).trans E6
 have hraw:oT Try.prog [] 60 Try.f89 q89 [.agg ⟨[i64 f,i64 t,i64 1,i64 c]⟩] M [ttV 1 (pt b1 0) M2,ttL 7 (i64 1)] 2=some (.ret,some (i64 2),M2,[.eq (abox Try.prog 111 (.agg ⟨[i64 f,i64 t,i64 1,i64 c]⟩) M) (1,.val (pt b1 0),M2),qL 3 b1 2 M2 (i64 1)]):=by kernel_rfl
 exact⟨i64 2,M2,Ev.told_tmp noNumP mixedP Try.func89 q89_ok (by kernel_rfl) rK89 (specs_none Try.prog) (fun _ _=>rfl) hraw (hk (q_eq (by rw[←eb3,←em4];kernel_rfl) Nat.one_ne_zero) (hk (lC dC3 g5 rfl) hn)),X9,hM7,rfl⟩
theorem w38_2(f t c:Int){M:Mem}(hM:MemOk M): ∃v M',Ev Try.prog [] 89 [.agg ⟨[i64 f,i64 t,i64 2,i64 c]⟩] M v M'∧Ext M M'∧MemOk M'∧v=(i64 4):=by
 obtain⟨b1,M2,eb3,em4,g5,E6,hM7⟩:=new_t hM ⟨[i64 f,i64 t,i64 2,i64 c],111,4,0,true⟩
 have X9:=(Ext.refl M).trans E6
 have hraw:oT Try.prog [] 60 Try.f89 q89 [.agg ⟨[i64 f,i64 t,i64 2,i64 c]⟩] M [ttV 1 (pt b1 0) M2,ttL 7 (i64 2)] 2=some (.ret,some (i64 4),M2,[.eq (abox Try.prog 111 (.agg ⟨[i64 f,i64 t,i64 2,i64 c]⟩) M) (1,.val (pt b1 0),M2),qL 3 b1 2 M2 (i64 2)]):=by kernel_rfl
 exact⟨i64 4,M2,Ev.told_tmp noNumP mixedP Try.func89 q89_ok (by kernel_rfl) rK89 (specs_none Try.prog) (fun _ _=>rfl) hraw (hk (q_eq (by rw[←eb3,←em4];kernel_rfl) Nat.one_ne_zero) (hk (lC dC3 g5 rfl) hn)),X9,hM7,rfl⟩
theorem w38_3(f t c:Int){M:Mem}(hM:MemOk M): ∃v M',Ev Try.prog [] 89 [.agg ⟨[i64 f,i64 t,i64 3,i64 c]⟩] M v M'∧Ext M M'∧MemOk M'∧v=(i64 8):=by
 obtain⟨b1,M2,eb3,em4,g5,E6,hM7⟩:=new_t hM ⟨[i64 f,i64 t,i64 3,i64 c],111,4,0,true⟩
 have X9:=(Ext.refl M).trans E6
 have hraw:oT Try.prog [] 60 Try.f89 q89 [.agg ⟨[i64 f,i64 t,i64 3,i64 c]⟩] M [ttV 1 (pt b1 0) M2,ttL 7 (i64 3)] 2=some (.ret,some (i64 8),M2,[.eq (abox Try.prog 111 (.agg ⟨[i64 f,i64 t,i64 3,i64 c]⟩) M) (1,.val (pt b1 0),M2),qL 3 b1 2 M2 (i64 3)]):=by kernel_rfl
 exact⟨i64 8,M2,Ev.told_tmp noNumP mixedP Try.func89 q89_ok (by kernel_rfl) rK89 (specs_none Try.prog) (fun _ _=>rfl) hraw (hk (q_eq (by rw[←eb3,←em4];kernel_rfl) Nat.one_ne_zero) (hk (lC dC3 g5 rfl) hn)),X9,hM7,rfl⟩
theorem w38_4(f t c:Int){M:Mem}(hM:MemOk M): ∃v M',Ev Try.prog [] 89 [.agg ⟨[i64 f,i64 t,i64 4,i64 c]⟩] M v M'∧Ext M M'∧MemOk M'∧v=(i64 16):=by
 obtain⟨b1,M2,eb3,em4,g5,E6,hM7⟩:=new_t hM ⟨[i64 f,i64 t,i64 4,i64 c],111,4,0,true⟩
 have X9:=(Ext.refl M).trans E6
 have hraw:oT Try.prog [] 60 Try.f89 q89 [.agg ⟨[i64 f,i64 t,i64 4,i64 c]⟩] M [ttV 1 (pt b1 0) M2,ttL 7 (i64 4)] 2=some (.ret,some (i64 16),M2,[.eq (abox Try.prog 111 (.agg ⟨[i64 f,i64 t,i64 4,i64 c]⟩) M) (1,.val (pt b1 0),M2),qL 3 b1 2 M2 (i64 4)]):=by kernel_rfl
 exact⟨i64 16,M2,Ev.told_tmp noNumP mixedP Try.func89 q89_ok (by kernel_rfl) rK89 (specs_none Try.prog) (fun _ _=>rfl) hraw (hk (q_eq (by rw[←eb3,←em4];kernel_rfl) Nat.one_ne_zero) (hk (lC dC3 g5 rfl) hn)),X9,hM7,rfl⟩
abbrev Q89:=FC (asP (as1 pE) okM) (plain pI) (fun x=>setM x.m)
theorem con89{e:E4}{lv:List Value}{M:Mem}(hM:MemOk M)(h:(asP (as1 pE) okM) e lv M): ∃v M',Con Try.prog [] 89 Q89 lv M v M':=by
 refine FC.con h ?_
 obtain⟨h,h0,h5⟩:=h
 obtain⟨g0,rfl,rfl⟩:=h
 obtain⟨f,t,m,c⟩:=e
 simp only at h0 h5
 have hm:m=0∨m=1∨m=2∨m=3∨m=4:=by omega
 rcases hm with rfl|rfl|rfl|rfl|rfl
 ·obtain⟨v,M',h1,h2,_,h4⟩:=w38_0 f t c hM
  exact⟨v,M',h1,h2,h4⟩
 ·obtain⟨v,M',h1,h2,_,h4⟩:=w38_1 f t c hM
  exact⟨v,M',h1,h2,h4⟩
 ·obtain⟨v,M',h1,h2,_,h4⟩:=w38_2 f t c hM
  exact⟨v,M',h1,h2,h4⟩
 ·obtain⟨v,M',h1,h2,_,h4⟩:=w38_3 f t c hM
  exact⟨v,M',h1,h2,h4⟩
 ·obtain⟨v,M',h1,h2,_,h4⟩:=w38_4 f t c hM
  exact⟨v,M',h1,h2,h4⟩
def fnV:Tell→Value
 | .to=> .func (.func 86) #[] #[]
 | .fr=> .func (.func 88) #[] #[]
 | .set=> .func (.func 89) #[] #[]
def pFn(k:Tell)(v:Value)(_:Mem):Prop:=v=fnV k
instance:AP pFn:=⟨fun{x y _ _} h k=>by unfold pFn at h k;rw[h] at k;cases x<;>cases y<;>first|rfl|(simp [fnV] at k),fun _ h=>h⟩
theorem r34to(r bb o m c i:Nat)(e:E4)(cr:List Value){M M0:Mem}(hM:MemOk M)(X0:Ext M0 M)(hr:M0.next≤r)(gr:M.get r=some ⟨cr,3,1,0,true⟩)(cc0:(decide (((i:Int))<((m:Int))))=true)(hld0:aload Try.prog 37 ⟨bb,o+((i:Int):Int).toNat*4,none⟩ M0=some (.agg ⟨[i64 e.f,i64 e.t,i64 e.m,i64 e.c]⟩))(hof1:0+((i:Int):Int).toNat*1+1≤(cr).length): ∃T1 M',Rd Try.prog [] (q85.loopAt 0) Try.f85.ntmps (fr [(1,(.func (.func 86) ⟨[]⟩ ⟨[]⟩)),(5,(sli r 0 m (m+1))),(11,(sli bb o m c)),(12,(i64 ((m:Int)))),(13,(i64 ((i:Int))))]) M .normal T1 M'∧ [1,5,11,12,13].map T1.get= [some (.func (.func 86) ⟨[]⟩ ⟨[]⟩),some (sli r 0 m (m+1)),some (sli bb o m c),some (i64 ((m:Int))),some (i64 (IntKind.wrap .i64 (((i:Int))+(1:Int))))]∧Ext M0 M'∧MemOk M'∧M'.get r=some ⟨splice cr (0+((i:Int):Int).toNat*1) [i64 e.t],3,1,0,true⟩∧ ∀id k,M.get id=some k→id≠r→M'.get id=some k:=by
 obtain⟨b1,M2,eb3,em4,g5,E6,hM7⟩:=new_t hM ⟨[i64 0,i64 0,i64 0,i64 0],37,4,0,true⟩
 have nb1:M0.next≤b1:=by rw[←eb3];exact X0.next
 have drb1:r≠b1:=by have:=Mem.lt_of_get gr;omega
 have g8:=E6.old gr
 have X10:=X0.trans E6
 obtain⟨M11,q12,g13,kp14,X15,hM16,nx17⟩:=store_t (o:=0) (v:=(.agg ⟨[i64 e.f,i64 e.t,i64 e.m,i64 e.c]⟩)) (new:= [i64 e.f,i64 e.t,i64 e.m,i64 e.c]) X10 nb1 hM7 dS37 g5 rfl rfl (Nat.zero_le _) (Nat.le_of_ble_eq_true rfl) rfl
 replace g13:M11.get b1=some ⟨[i64 e.f,i64 e.t,i64 e.m,i64 e.c],37,4,0,true⟩:=g13
 have g18:=(kp14 _ drb1).trans g8
 obtain⟨w19,N20,M21,p22,l23,e24,E25,hM26,F27⟩:=call_fc (x:=e) hM16 con86 (⟨_,rfl,rfl⟩)
 have g29:=E25.old g18
 have ew19:w19=(i64 e.t):=F27
 subst ew19
 have X31:=X15.trans E25
 obtain⟨M32,q33,g34,kp35,X36,hM37,nx38⟩:=store_t (o:=0+((i:Int):Int).toNat*1) (v:=(i64 e.t)) (new:=splice cr (0+((i:Int):Int).toNat*1) [i64 e.t]) X31 hr hM26 dS3 g29 rfl rfl (Nat.zero_le _) hof1 rfl
 replace g34:M32.get r=some ⟨splice cr (0+((i:Int):Int).toNat*1) [i64 e.t],3,1,0,true⟩:=g34
 have hraw:oR Try.prog [] 60 Try.f85 (q85.loopAt 0) [(1,(.func (.func 86) ⟨[]⟩ ⟨[]⟩)),(5,(sli r 0 m (m+1))),(11,(sli bb o m c)),(12,(i64 ((m:Int)))),(13,(i64 ((i:Int))))] M [ttT 2,ttT 6,ttL 8 (.agg ⟨[i64 e.f,i64 e.t,i64 e.m,i64 e.c]⟩),ttV 10 (pt b1 0) M2,ttS 14 M11,ttL 22 (.agg ⟨[i64 e.f,i64 e.t,i64 e.m,i64 e.c]⟩),ttV 24 (i64 e.t) M21,ttT 26,ttS 28 M32] [1,5,11,12,13]=some (.normal,[some (.func (.func 86) ⟨[]⟩ ⟨[]⟩),some (sli r 0 m (m+1)),some (sli bb o m c),some (i64 ((m:Int))),some (i64 (IntKind.wrap .i64 (((i:Int))+(1:Int))))],M32,[qT (decide (((i:Int))<((m:Int)))),.q (.inb ((i:Int)) m) (ansB true),qL 37 bb (o+((i:Int):Int).toNat*4) M (.agg ⟨[i64 e.f,i64 e.t,i64 e.m,i64 e.c]⟩),.eq (aalloc Try.prog 37 M) (1,.val (pt b1 0),M2),qS 37 b1 0 (.agg ⟨[i64 e.f,i64 e.t,i64 e.m,i64 e.c]⟩) M2 M11,qL 37 b1 0 M11 (.agg ⟨[i64 e.f,i64 e.t,i64 e.m,i64 e.c]⟩),qC 86 [.agg ⟨[i64 e.f,i64 e.t,i64 e.m,i64 e.c]⟩] M11 (i64 e.t) M21,.q (.inb ((i:Int)) m) (ansB true),qS 3 r (0+((i:Int):Int).toNat*1) (i64 e.t) M21 M32]):=by kernel_rfl
 have hkp: ∀id k,M.get id=some k→id≠r→M32.get id=some k:=fun id k g h_r=>by
  have g0:=Mem.lt_of_get g
  have g:=E6.old g
  have g:=((fun id h _=>kp14 id h) id (by omega) (Mem.lt_of_get g)).trans g
  have g:=E25.old g
  have g:=((fun id h _=>kp35 id h) id h_r (Mem.lt_of_get g)).trans g
  exact g
 obtain⟨T1,h1,h2⟩:=Rd.told noNumP mixedP (fun B=>sb0 (sbQ 86 Q86 (sbN _))) (fun _ _=>rfl) hraw (hk (bT cc0) (hk (q_inb (by omega) (by simp at cc0;omega)) (hk (q_ld (aload_ext X0 hld0)) (hk (q_eq (by rw[←eb3,←em4];kernel_rfl) Nat.one_ne_zero) (hk (q_st q12) (hk (lA ⟨dA37,dS37⟩ g13 rfl) (hk (q_call rfl p22 l23 e24) (hk (q_inb (by omega) (by simp at cc0;omega)) (hk (q_st q33) hn)))))))))
 exact⟨T1,M32,h1,h2,X36,hM37,g34,hkp⟩
theorem r34x(fv:Value)(r:Nat)(a:Option Addr)(m c i:Nat){M:Mem}(cc0:(decide (((i:Int))<((m:Int))))=false): ∃T1,Rd Try.prog [] (q85.loopAt 0) Try.f85.ntmps (fr [(1,fv),(5,(sli r 0 m (m+1))),(11,(.slice a m c)),(12,(i64 ((m:Int)))),(13,(i64 ((i:Int))))]) M (.exit 0) T1 M∧ [5].map T1.get= [some (sli r 0 m (m+1))]:=by
 have hraw:oR Try.prog [] 60 Try.f85 (q85.loopAt 0) [(1,fv),(5,(sli r 0 m (m+1))),(11,(.slice a m c)),(12,(i64 ((m:Int)))),(13,(i64 ((i:Int))))] M [ttF 2] [5]=some ((.exit 0),[some (sli r 0 m (m+1))],M,[qF (decide (((i:Int))<((m:Int))))]):=by kernel_rfl
 obtain⟨T1,h1,h2⟩:=Rd.told noNumP mixedP (specs_none Try.prog) (fun _ _=>rfl) hraw (hk (bF cc0) hn)
 exact⟨T1,h1,h2⟩
theorem r34fr(r bb o m c i:Nat)(e:E4)(cr:List Value){M M0:Mem}(hM:MemOk M)(X0:Ext M0 M)(hr:M0.next≤r)(gr:M.get r=some ⟨cr,3,1,0,true⟩)(cc0:(decide (((i:Int))<((m:Int))))=true)(hld0:aload Try.prog 37 ⟨bb,o+((i:Int):Int).toNat*4,none⟩ M0=some (.agg ⟨[i64 e.f,i64 e.t,i64 e.m,i64 e.c]⟩))(hof1:0+((i:Int):Int).toNat*1+1≤(cr).length): ∃T1 M',Rd Try.prog [] (q85.loopAt 0) Try.f85.ntmps (fr [(1,(.func (.func 88) ⟨[]⟩ ⟨[]⟩)),(5,(sli r 0 m (m+1))),(11,(sli bb o m c)),(12,(i64 ((m:Int)))),(13,(i64 ((i:Int))))]) M .normal T1 M'∧ [1,5,11,12,13].map T1.get= [some (.func (.func 88) ⟨[]⟩ ⟨[]⟩),some (sli r 0 m (m+1)),some (sli bb o m c),some (i64 ((m:Int))),some (i64 (IntKind.wrap .i64 (((i:Int))+(1:Int))))]∧Ext M0 M'∧MemOk M'∧M'.get r=some ⟨splice cr (0+((i:Int):Int).toNat*1) [i64 e.f],3,1,0,true⟩∧ ∀id k,M.get id=some k→id≠r→M'.get id=some k:=by
 obtain⟨b1,M2,eb3,em4,g5,E6,hM7⟩:=new_t hM ⟨[i64 0,i64 0,i64 0,i64 0],37,4,0,true⟩
 have nb1:M0.next≤b1:=by rw[←eb3];exact X0.next
 have drb1:r≠b1:=by have:=Mem.lt_of_get gr;omega
 have g8:=E6.old gr
 have X10:=X0.trans E6
 obtain⟨M11,q12,g13,kp14,X15,hM16,nx17⟩:=store_t (o:=0) (v:=(.agg ⟨[i64 e.f,i64 e.t,i64 e.m,i64 e.c]⟩)) (new:= [i64 e.f,i64 e.t,i64 e.m,i64 e.c]) X10 nb1 hM7 dS37 g5 rfl rfl (Nat.zero_le _) (Nat.le_of_ble_eq_true rfl) rfl
 replace g13:M11.get b1=some ⟨[i64 e.f,i64 e.t,i64 e.m,i64 e.c],37,4,0,true⟩:=g13
 have g18:=(kp14 _ drb1).trans g8
 obtain⟨w19,N20,M21,p22,l23,e24,E25,hM26,F27⟩:=call_fc (x:=e) hM16 con88 (⟨_,rfl,rfl⟩)
 have g29:=E25.old g18
 have ew19:w19=(i64 e.f):=F27
 subst ew19
 have X31:=X15.trans E25
 obtain⟨M32,q33,g34,kp35,X36,hM37,nx38⟩:=store_t (o:=0+((i:Int):Int).toNat*1) (v:=(i64 e.f)) (new:=splice cr (0+((i:Int):Int).toNat*1) [i64 e.f]) X31 hr hM26 dS3 g29 rfl rfl (Nat.zero_le _) hof1 rfl
 replace g34:M32.get r=some ⟨splice cr (0+((i:Int):Int).toNat*1) [i64 e.f],3,1,0,true⟩:=g34
 have hraw:oR Try.prog [] 60 Try.f85 (q85.loopAt 0) [(1,(.func (.func 88) ⟨[]⟩ ⟨[]⟩)),(5,(sli r 0 m (m+1))),(11,(sli bb o m c)),(12,(i64 ((m:Int)))),(13,(i64 ((i:Int))))] M [ttT 2,ttT 6,ttL 8 (.agg ⟨[i64 e.f,i64 e.t,i64 e.m,i64 e.c]⟩),ttV 10 (pt b1 0) M2,ttS 14 M11,ttL 22 (.agg ⟨[i64 e.f,i64 e.t,i64 e.m,i64 e.c]⟩),ttV 24 (i64 e.f) M21,ttT 26,ttS 28 M32] [1,5,11,12,13]=some (.normal,[some (.func (.func 88) ⟨[]⟩ ⟨[]⟩),some (sli r 0 m (m+1)),some (sli bb o m c),some (i64 ((m:Int))),some (i64 (IntKind.wrap .i64 (((i:Int))+(1:Int))))],M32,[qT (decide (((i:Int))<((m:Int)))),.q (.inb ((i:Int)) m) (ansB true),qL 37 bb (o+((i:Int):Int).toNat*4) M (.agg ⟨[i64 e.f,i64 e.t,i64 e.m,i64 e.c]⟩),.eq (aalloc Try.prog 37 M) (1,.val (pt b1 0),M2),qS 37 b1 0 (.agg ⟨[i64 e.f,i64 e.t,i64 e.m,i64 e.c]⟩) M2 M11,qL 37 b1 0 M11 (.agg ⟨[i64 e.f,i64 e.t,i64 e.m,i64 e.c]⟩),qC 88 [.agg ⟨[i64 e.f,i64 e.t,i64 e.m,i64 e.c]⟩] M11 (i64 e.f) M21,.q (.inb ((i:Int)) m) (ansB true),qS 3 r (0+((i:Int):Int).toNat*1) (i64 e.f) M21 M32]):=by kernel_rfl
 have hkp: ∀id k,M.get id=some k→id≠r→M32.get id=some k:=fun id k g h_r=>by
  have g0:=Mem.lt_of_get g
  have g:=E6.old g
  have g:=((fun id h _=>kp14 id h) id (by omega) (Mem.lt_of_get g)).trans g
  have g:=E25.old g
  have g:=((fun id h _=>kp35 id h) id h_r (Mem.lt_of_get g)).trans g
  exact g
 obtain⟨T1,h1,h2⟩:=Rd.told noNumP mixedP (fun B=>sb0 (sbQ 88 Q88 (sbN _))) (fun _ _=>rfl) hraw (hk (bT cc0) (hk (q_inb (by omega) (by simp at cc0;omega)) (hk (q_ld (aload_ext X0 hld0)) (hk (q_eq (by rw[←eb3,←em4];kernel_rfl) Nat.one_ne_zero) (hk (q_st q12) (hk (lA ⟨dA37,dS37⟩ g13 rfl) (hk (q_call rfl p22 l23 e24) (hk (q_inb (by omega) (by simp at cc0;omega)) (hk (q_st q33) hn)))))))))
 exact⟨T1,M32,h1,h2,X36,hM37,g34,hkp⟩
theorem r34set(r bb o m c i:Nat)(e:E4)(cr:List Value){M M0:Mem}(hM:MemOk M)(X0:Ext M0 M)(hr:M0.next≤r)(gr:M.get r=some ⟨cr,3,1,0,true⟩)(hok:okM e)(cc0:(decide (((i:Int))<((m:Int))))=true)(hld0:aload Try.prog 37 ⟨bb,o+((i:Int):Int).toNat*4,none⟩ M0=some (.agg ⟨[i64 e.f,i64 e.t,i64 e.m,i64 e.c]⟩))(hof1:0+((i:Int):Int).toNat*1+1≤(cr).length): ∃T1 M',Rd Try.prog [] (q85.loopAt 0) Try.f85.ntmps (fr [(1,(.func (.func 89) ⟨[]⟩ ⟨[]⟩)),(5,(sli r 0 m (m+1))),(11,(sli bb o m c)),(12,(i64 ((m:Int)))),(13,(i64 ((i:Int))))]) M .normal T1 M'∧ [1,5,11,12,13].map T1.get= [some (.func (.func 89) ⟨[]⟩ ⟨[]⟩),some (sli r 0 m (m+1)),some (sli bb o m c),some (i64 ((m:Int))),some (i64 (IntKind.wrap .i64 (((i:Int))+(1:Int))))]∧Ext M0 M'∧MemOk M'∧M'.get r=some ⟨splice cr (0+((i:Int):Int).toNat*1) [i64 (setM e.m)],3,1,0,true⟩∧ ∀id k,M.get id=some k→id≠r→M'.get id=some k:=by
 obtain⟨b1,M2,eb3,em4,g5,E6,hM7⟩:=new_t hM ⟨[i64 0,i64 0,i64 0,i64 0],37,4,0,true⟩
 have nb1:M0.next≤b1:=by rw[←eb3];exact X0.next
 have drb1:r≠b1:=by have:=Mem.lt_of_get gr;omega
 have g8:=E6.old gr
 have X10:=X0.trans E6
 obtain⟨M11,q12,g13,kp14,X15,hM16,nx17⟩:=store_t (o:=0) (v:=(.agg ⟨[i64 e.f,i64 e.t,i64 e.m,i64 e.c]⟩)) (new:= [i64 e.f,i64 e.t,i64 e.m,i64 e.c]) X10 nb1 hM7 dS37 g5 rfl rfl (Nat.zero_le _) (Nat.le_of_ble_eq_true rfl) rfl
 replace g13:M11.get b1=some ⟨[i64 e.f,i64 e.t,i64 e.m,i64 e.c],37,4,0,true⟩:=g13
 have g18:=(kp14 _ drb1).trans g8
 obtain⟨w19,N20,M21,p22,l23,e24,E25,hM26,F27⟩:=call_fc (x:=e) hM16 con89 (⟨⟨_,rfl,rfl⟩,hok⟩)
 have g29:=E25.old g18
 have ew19:w19=(i64 (setM e.m)):=F27
 subst ew19
 have X31:=X15.trans E25
 obtain⟨M32,q33,g34,kp35,X36,hM37,nx38⟩:=store_t (o:=0+((i:Int):Int).toNat*1) (v:=(i64 (setM e.m))) (new:=splice cr (0+((i:Int):Int).toNat*1) [i64 (setM e.m)]) X31 hr hM26 dS3 g29 rfl rfl (Nat.zero_le _) hof1 rfl
 replace g34:M32.get r=some ⟨splice cr (0+((i:Int):Int).toNat*1) [i64 (setM e.m)],3,1,0,true⟩:=g34
 have hraw:oR Try.prog [] 60 Try.f85 (q85.loopAt 0) [(1,(.func (.func 89) ⟨[]⟩ ⟨[]⟩)),(5,(sli r 0 m (m+1))),(11,(sli bb o m c)),(12,(i64 ((m:Int)))),(13,(i64 ((i:Int))))] M [ttT 2,ttT 6,ttL 8 (.agg ⟨[i64 e.f,i64 e.t,i64 e.m,i64 e.c]⟩),ttV 10 (pt b1 0) M2,ttS 14 M11,ttL 22 (.agg ⟨[i64 e.f,i64 e.t,i64 e.m,i64 e.c]⟩),ttV 24 (i64 (setM e.m)) M21,ttT 26,ttS 28 M32] [1,5,11,12,13]=some (.normal,[some (.func (.func 89) ⟨[]⟩ ⟨[]⟩),some (sli r 0 m (m+1)),some (sli bb o m c),some (i64 ((m:Int))),some (i64 (IntKind.wrap .i64 (((i:Int))+(1:Int))))],M32,[qT (decide (((i:Int))<((m:Int)))),.q (.inb ((i:Int)) m) (ansB true),qL 37 bb (o+((i:Int):Int).toNat*4) M (.agg ⟨[i64 e.f,i64 e.t,i64 e.m,i64 e.c]⟩),.eq (aalloc Try.prog 37 M) (1,.val (pt b1 0),M2),qS 37 b1 0 (.agg ⟨[i64 e.f,i64 e.t,i64 e.m,i64 e.c]⟩) M2 M11,qL 37 b1 0 M11 (.agg ⟨[i64 e.f,i64 e.t,i64 e.m,i64 e.c]⟩),qC 89 [.agg ⟨[i64 e.f,i64 e.t,i64 e.m,i64 e.c]⟩] M11 (i64 (setM e.m)) M21,.q (.inb ((i:Int)) m) (ansB true),qS 3 r (0+((i:Int):Int).toNat*1) (i64 (setM e.m)) M21 M32]):=by kernel_rfl
 have hkp: ∀id k,M.get id=some k→id≠r→M32.get id=some k:=fun id k g h_r=>by
  have g0:=Mem.lt_of_get g
  have g:=E6.old g
  have g:=((fun id h _=>kp14 id h) id (by omega) (Mem.lt_of_get g)).trans g
  have g:=E25.old g
  have g:=((fun id h _=>kp35 id h) id h_r (Mem.lt_of_get g)).trans g
  exact g
 obtain⟨T1,h1,h2⟩:=Rd.told noNumP mixedP (fun B=>sb0 (sbQ 89 Q89 (sbN _))) (fun _ _=>rfl) hraw (hk (bT cc0) (hk (q_inb (by omega) (by simp at cc0;omega)) (hk (q_ld (aload_ext X0 hld0)) (hk (q_eq (by rw[←eb3,←em4];kernel_rfl) Nat.one_ne_zero) (hk (q_st q12) (hk (lA ⟨dA37,dS37⟩ g13 rfl) (hk (q_call rfl p22 l23 e24) (hk (q_inb (by omega) (by simp at cc0;omega)) (hk (q_st q33) hn)))))))))
 exact⟨T1,M32,h1,h2,X36,hM37,g34,hkp⟩
theorem r34(k:Tell)(r bb o m c i:Nat)(e:E4)(cr:List Value){M M0:Mem}(hM:MemOk M)(X0:Ext M0 M)(hr:M0.next≤r)(gr:M.get r=some ⟨cr,3,1,0,true⟩)(hok:okM e)(hi:i<m)(hl:i<cr.length)(hld:aload Try.prog 37 ⟨bb,o+(i:Int).toNat*4,none⟩ M0=some (.agg ⟨eRow e⟩)):
  ∃T1 M',Rd Try.prog [] (q85.loopAt 0) Try.f85.ntmps (fr [(1,fnV k),(5,sli r 0 m (m+1)),(11,sli bb o m c),(12,i64 m),(13,i64 i)]) M .normal T1 M'∧ [1,5,11,12,13].map T1.get= [some (fnV k),some (sli r 0 m (m+1)),some (sli bb o m c),some (i64 m),some (i64 (IntKind.wrap .i64 ((i:Int)+1)))]∧Ext M0 M'∧MemOk M'∧M'.get r=some ⟨splice cr i [i64 (tellE k e)],3,1,0,true⟩:=by
 have e0:0+(i:Int).toNat*1=i:=by simp
 cases k
 ·obtain⟨T1,M',h1,h2,h3,h4,h5,_⟩:=r34to r bb o m c i e cr hM X0 hr gr (decide_eq_true (by omega)) hld (by rw[e0];omega)
  rw[e0] at h5
  exact⟨T1,M',h1,h2,h3,h4,h5⟩
 ·obtain⟨T1,M',h1,h2,h3,h4,h5,_⟩:=r34fr r bb o m c i e cr hM X0 hr gr (decide_eq_true (by omega)) hld (by rw[e0];omega)
  rw[e0] at h5
  exact⟨T1,M',h1,h2,h3,h4,h5⟩
 ·obtain⟨T1,M',h1,h2,h3,h4,h5,_⟩:=r34set r bb o m c i e cr hM X0 hr gr hok (decide_eq_true (by omega)) hld (by rw[e0];omega)
  rw[e0] at h5
  exact⟨T1,M',h1,h2,h3,h4,h5⟩
theorem loop34(k:Tell){a:Option Addr}{c r:Nat}{l:List E4}{M0 M:Mem}(hM:MemOk M)(X:Ext M0 M)(hs:EdgesAt M0 (.slice a l.length c) l)(hok: ∀e∈l,okM e)(hr:M0.next≤r)(gr:M.get r=some ⟨List.replicate l.length (i64 0),3,1,0,true⟩):
  ∃M',LoopR Try.prog [] (q85.loopAt 0) Try.f85.ntmps (fr [(1,fnV k),(5,sli r 0 l.length (l.length+1)),(11,.slice a l.length c),(12,i64 l.length),(13,i64 ((0:Nat):Int))]) M (.exit 0) (fr [(5,sli r 0 l.length (l.length+1))]) M'∧Ext M0 M'∧MemOk M'∧M'.get r=some ⟨(l.map (tellE k)).map i64,3,1,0,true⟩:=by
 have hlen:=hs.len
 have hxl:((l.map (tellE k)).map i64).length=l.length:=by simp
 obtain⟨_,M',h1,h2,h3,h4⟩:=LoopR.for (P:=Try.prog) (GL:= []) (b:=q85.loopAt 0) (nt:=Try.f85.ntmps) (id:=0) (σ:=Unit) (n:=l.length) (Inv:=fun i _ M1=>Ext M0 M1∧MemOk M1∧M1.get r=some ⟨fillS ((l.map (tellE k)).map i64) i (i64 0),3,1,0,true⟩)
  (F:=fun i _=> [(1,fnV k),(5,sli r 0 l.length (l.length+1)),(11,.slice a l.length c),(12,i64 l.length),(13,i64 ((i:Nat):Int))])
  (O:=fun _=> [(5,sli r 0 l.length (l.length+1))])
  (by
   rintro i _ M1 hi ⟨X1,hM1,hg1⟩
   obtain⟨bb,o,rfl,_⟩:=form_pos hs (by omega)
   have ht:l[i]?=some l[i]:=List.getElem?_eq_getElem hi
   obtain⟨T1,M2,h1,h2,h3,h4,h5⟩:=r34 k r bb o l.length c i l[i] _ hM1 X1 hr hg1 (hok _ (List.getElem_mem hi)) hi (by rw[fillS_len _ _ (by omega)];omega) (ld_row (P:=Try.prog) (ty:=37) hs ht dA37 dS37)
   rw[wrap_succ (by omega)] at h2
   rw[fillS_step (by simp [ht])] at h5
   exact⟨(),T1,M2,h1,h2,h3,h4,h5⟩)
  (by
   rintro _ M1 ⟨X1,hM1,hg1⟩
   exact r34x (fnV k) r a l.length c l.length (M:=M1) (decide_eq_false (by omega)))
  l.length 0 (by omega) (s:=()) (M:=M) ⟨X,hM,by rw[fillS_zero,hxl];exact gr⟩
 refine⟨M',h1,h2,h3,?_⟩
 have:=fillS_all ((l.map (tellE k)).map i64) (i64 0)
 rw[hxl] at this
 rw[this] at h4
 exact h4
theorem rK85:Try.f85.results= #[.tmp 4]:=by kernel_rfl
theorem w34(al:Option Addr)(cl:Nat)(l:List E4)(k:Tell){M:Mem}(hM:MemOk M)(hl:pEdges l (.slice al l.length cl) M)(hcond:l.length≤400∧ ∀e∈l,okM e): ∃v M',Ev Try.prog [] 85 [.slice al l.length cl,fnV k] M v M'∧Ext M M'∧MemOk M'∧newR pInts (l.map (tellE k)) M.next v M':=by
 obtain⟨b1,M2,eb3,em4,g5,E6,hM7⟩:=mks_t (P:=Try.prog) (t:=22) (elem:=3) (z:=(i64 0)) (n:=l.length) hM (by kernel_rfl) (by kernel_rfl) (by have:=hcond.1;omega)
 have nb1:M.next≤b1:=by rw[←eb3];exact(Ext.refl M).next
 have X8:=(Ext.refl M).trans E6
 obtain⟨M9,hL10,X11,hM12,g13⟩:=loop34 k hM7 X8 hl hcond.2 nb1 g5
 have hraw:oT Try.prog [0] 60 Try.f85 q85 [.slice al l.length cl,fnV k] M [ttT 5,ttV 7 (sli b1 0 l.length (l.length+1)) M2,ttT 13,.blk 16 [1,5,11,12,13] .normal (fr [(5,(sli b1 0 l.length (l.length+1)))]) M9] 4=some (.ret,some (sli b1 0 l.length (l.length+1)),M9,[.ln al l.length cl,.eq (amakeSlice Try.prog 22 (i64 ((l.length:Int))) (i64 ((l.length:Int))) M) (1,.val (sli b1 0 l.length (l.length+1)),M2),.ln al l.length cl,.blk 0 (.loop (q85.loopAt 0)) Try.f85.ntmps [1,5,11,12,13] [some (fnV k),some (sli b1 0 l.length (l.length+1)),some (.slice al l.length cl),some (i64 ((l.length:Int))),some (i64 0)] M2 .normal (fr [(5,(sli b1 0 l.length (l.length+1)))]) M9]):=by kernel_rfl
 exact⟨sli b1 0 l.length (l.length+1),M9,Ev.told_tmp noNumP mixedP Try.func85 q85_ok (by kernel_rfl) rK85 (fun B=>sb1 (sbN B) 0 hL10) (fun _ h=>blksF_one h) hraw (hk (lN hl.ln) (hk (q_eq em4 Nat.one_ne_zero) (hk (lN hl.ln) (hk (q_blk rfl) hn)))),X11,hM12,GRowsAt.of_blk' (b:=b1) (w:=1) (g:=iRow) (hid_of nb1 g13) (List.length_map _) (by simp [flat1,List.map_map,Function.comp_def]) (fun _ _=>rfl) (by have:=hl.len;simpa using this)⟩
abbrev Q85:=FC (asP (as2 pEdges pFn) (fun x=>x.1.length≤400∧ ∀e∈x.1,okM e)) (newR pInts) (fun x=>x.1.map (tellE x.2))
theorem con85{x:(List E4)×(Tell)}{lv:List Value}{M:Mem}(hM:MemOk M)(h:(asP (as2 pEdges pFn) (fun x=>x.1.length≤400∧ ∀e∈x.1,okM e)) x lv M): ∃v M',Con Try.prog [] 85 Q85 lv M v M':=by
 refine FC.con h ?_
 obtain⟨h,hcond⟩:=h
 obtain⟨l,k⟩:=x
 obtain⟨g0,g1,rfl,k0,k1⟩:=h
 obtain⟨al,cl,rfl⟩:=GRowsAt.form k0
 have hl:=k0
 obtain rfl:=k1
 obtain⟨v,M',h1,h2,_,h3⟩:=w34 al cl l k hM hl hcond
 exact⟨v,M',h1,h2,h3⟩
end Go.Proofs.Ytdaglldahidmbaa
