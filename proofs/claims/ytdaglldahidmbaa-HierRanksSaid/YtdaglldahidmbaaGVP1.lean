/-
  Package hier: each of its laws for every argument; no conditions. The last text states which.
-/
import Derived.Test.YtdaglldahidmbaaGAmPw
import Derived.Test.YtdaglldahidmbaaGVB
set_option linter.unusedVariables false
set_option linter.unusedSimpArgs false
open Go Go.Am Go.Proofs
namespace Go.Proofs.Ytdaglldahidmbaa
set_option maxRecDepth 100000
theorem cO:(Try.prog.underlying 3).map dX=some false:=by kernel_rfl
theorem He:(Try.prog.info? 3).map (·.size)=some 1:=by kernel_rfl
theorem rK70:Try.f70.results= #[.tmp 4]:=by kernel_rfl
theorem w46_0(x:Int)(n:Int){M:aA}(hM:aB M)(cc0:(decide (x>=(0:Int)))=true): ∃v M',Ev Try.prog [] 70 [i64 x,i64 n] M v M'/\Ext M M'/\aB M'/\v=(.bool (decide (x<n))):=by
 exact⟨.bool (decide (x<n)),M,Ev.told_tmp (tb:=[]) (n:=60) (F:=[aM 8,aM 10,aM 12,aM 15]) aJ aI Try.func70 Rf (by kernel_rfl) rK70 (aG Try.prog) (fun _ _=>rfl) (by kernel_rfl) (hk (bT cc0) (hk (bT cc0) (hk (bT cc0) (hk (bT cc0) hn)))),Ext.refl M,hM,rfl⟩
theorem w46_1(x:Int)(n:Int){M:aA}(hM:aB M)(cc0:(decide (x>=(0:Int)))=false): ∃v M',Ev Try.prog [] 70 [i64 x,i64 n] M v M'/\Ext M M'/\aB M'/\v=(.bool false):=by
 exact⟨.bool false,M,Ev.told_tmp (tb:=[]) (n:=60) (F:=[aO 8,aO 10,aO 12,aO 15]) aJ aI Try.func70 Rf (by kernel_rfl) rK70 (aG Try.prog) (fun _ _=>rfl) (by kernel_rfl) (hk (bF cc0) (hk (bF cc0) (hk (bF cc0) (hk (bF cc0) hn)))),Ext.refl M,hM,rfl⟩
theorem Tu(x:Int)(n:Int){M:aA}(hM:aB M): ∃v M',Ev Try.prog [] 70 [i64 x,i64 n] M v M'/\Ext M M'/\aB M'/\v= .bool (dM x n):=by
 cases a0:(decide (x>=(0:Int))) with
 |true=>
  obtain⟨v,M1,h1,h2,h3,h4⟩:=w46_0 x n hM a0
  refine⟨v,M1,h1,h2,h3,?_⟩
  subst h4
  first|rfl|(simp only [dM,a0,cond_true,cond_false,Bool.true_and,Bool.false_and,Bool.and_true,Bool.and_false,Bool.true_or,Bool.false_or,Bool.or_true,Bool.or_false,Bool.not_true,Bool.not_false];done)|(simp only [dM,a0,cond_true,cond_false,Bool.true_and,Bool.false_and,Bool.and_true,Bool.and_false,Bool.true_or,Bool.false_or,Bool.or_true,Bool.or_false,Bool.not_true,Bool.not_false]<;>rfl)|(simp_all [dM];done)
 |false=>
  obtain⟨v,M1,h1,h2,h3,h4⟩:=w46_1 x n hM a0
  refine⟨v,M1,h1,h2,h3,?_⟩
  subst h4
  first|rfl|(simp only [dM,a0,cond_true,cond_false,Bool.true_and,Bool.false_and,Bool.and_true,Bool.and_false,Bool.true_or,Bool.false_or,Bool.or_true,Bool.or_false,Bool.not_true,Bool.not_false];done)|(simp only [dM,a0,cond_true,cond_false,Bool.true_and,Bool.false_and,Bool.and_true,Bool.and_false,Bool.true_or,Bool.false_or,Bool.or_true,Bool.or_false,Bool.not_true,Bool.not_false]<;>rfl)|(simp_all [dM];done)
abbrev Zc:=FC (mG pI pI) (plain pB) (fun x=>dM x.1 x.2)
theorem rH{x:(Int)×(Int)}{lv:List Value}{M:aA}(hM:aB M)(h:(mG pI pI) x lv M): ∃v M',lQ Try.prog [] 70 Zc lv M v M':=by
 refine FC.con h ?_
 obtain⟨x,n⟩:=x
 obtain⟨g0,g1,rfl,k0,k1⟩:=h
 obtain rfl:=k0
 obtain rfl:=k1
 obtain⟨v,M',h1,h2,_,h3⟩:=Tu x n hM
 exact⟨v,M',h1,h2,h3⟩
theorem Ri:Try.f42.results= #[.tmp 4]:=by kernel_rfl
theorem w40_0(e:E4)(n:Int){M:aA}(hM:aB M)(cc0:(dM e.f n)=true)(cc1:(dM e.t n)=true)(cc2:(dM e.m 5)=true)(cc3:(decide (e.c>=(0:Int)))=true): ∃v M',Ev Try.prog [] 42 [.agg ⟨[i64 e.f,i64 e.t,i64 e.m,i64 e.c]⟩,i64 n] M v M'/\Ext M M'/\aB M'/\v=(.bool (decide (e.c<=(2147483647:Int)))):=by
 obtain⟨b1,M2,c5,c6,g5,E6,c7⟩:=bG hM ⟨[i64 e.f,i64 e.t,i64 e.m,i64 e.c],37,4,0,true⟩
 have X9:=(Ext.refl M).trans E6
 obtain⟨d4,d5,a0,d1,c8,c2,a9,a6,b6⟩:=aH (x:=(e.f,n)) c7 rH (⟨_,_,rfl,rfl,rfl⟩)
 have b3:=a9.old g5
 have a3:d4=(.bool (dM e.f n)):=b6
 subst a3
 have b9:=X9.trans a9
 obtain⟨w22,d6,a1,d2,c9,c3,b0,a7,b7⟩:=aH (x:=(e.t,n)) a6 rH (⟨_,_,rfl,rfl,rfl⟩)
 have b4:=b0.old b3
 have a4:w22=(.bool (dM e.t n)):=b7
 subst a4
 have c0:=b9.trans b0
 obtain⟨w34,d7,a2,d3,d0,c4,b2,a8,b8⟩:=aH (x:=(e.m,5)) a7 rH (⟨_,_,rfl,rfl,rfl⟩)
 have b5:=b2.old b4
 have a5:w34=(.bool (dM e.m 5)):=b8
 subst a5
 have c1:=c0.trans b2
 exact⟨.bool (decide (e.c<=(2147483647:Int))),a2,Ev.told_tmp (tb:=[]) (n:=60) (F:=[bL 1 (pt b1 0) M2,aU 7 (i64 e.f),bL 11 (.bool (dM e.f n)) a0,aM 14,aM 16,aU 17 (i64 e.t),aM 18,aM 20,bL 21 (.bool (dM e.t n)) a1,aM 23,aM 26,aM 28,aU 29 (i64 e.m),aM 30,bL 31 (.bool (dM e.m 5)) a2,aM 33,aM 36,aM 38,aU 39 (i64 e.c),aM 40,aM 43,aM 46,aM 48,aU 49 (i64 e.c),aM 50,aM 53]) aJ aI Try.func42 Ch (by kernel_rfl) Ri (fun B=>lO (gF 70 Zc (gQ _))) (fun _ _=>rfl) (by kernel_rfl) (hq (.eq (fE Try.prog 37 (.agg ⟨[i64 e.f,i64 e.t,i64 e.m,i64 e.c]⟩) M) (1,.val (pt b1 0),M2)) (bZ (by rw[<-c5,<-c6];kernel_rfl) Nat.one_ne_zero) (hk (lC (o:=0) cO g5 rfl) (hq (qC 70 [i64 e.f,i64 n] M2 (.bool (dM e.f n)) a0) (aN rfl d1 c8 c2) (hk (bT cc0) (hk (bT cc0) (hk (lC (o:=1) cO b3 rfl) (hk (bT cc0) (hk (bT cc0) (hq (qC 70 [i64 e.t,i64 n] a0 (.bool (dM e.t n)) a1) (aN rfl d2 c9 c3) (hk (bT cc0) (hk (bT cc1) (hk (bT cc1) (hk (lC (o:=2) cO b4 rfl) (hk (bT cc1) (hq (qC 70 [i64 e.m,i64 5] a1 (.bool (dM e.m 5)) a2) (aN rfl d3 d0 c4) (hk (bT cc1) (hk (bT cc2) (hk (bT cc2) (hk (lC (o:=3) cO b5 rfl) (hk (bT cc2) (hk (bT cc2) (hk (bT cc3) (hk (bT cc3) (hk (lC (o:=3) cO b5 rfl) (hk (bT cc3) (hk (bT cc3) hn)))))))))))))))))))))))))),c1,a8,rfl⟩
theorem w40_1(e:E4)(n:Int){M:aA}(hM:aB M)(cc0:(dM e.f n)=true)(cc1:(dM e.t n)=true)(cc2:(dM e.m 5)=true)(cc3:(decide (e.c>=(0:Int)))=false): ∃v M',Ev Try.prog [] 42 [.agg ⟨[i64 e.f,i64 e.t,i64 e.m,i64 e.c]⟩,i64 n] M v M'/\Ext M M'/\aB M'/\v=(.bool false):=by
 obtain⟨b1,M2,c4,c5,g5,E6,c7⟩:=bG hM ⟨[i64 e.f,i64 e.t,i64 e.m,i64 e.c],37,4,0,true⟩
 have X9:=(Ext.refl M).trans E6
 obtain⟨d4,d5,a0,d1,c8,c1,a9,a6,b5⟩:=aH (x:=(e.f,n)) c7 rH (⟨_,_,rfl,rfl,rfl⟩)
 have b3:=a9.old g5
 have a3:d4=(.bool (dM e.f n)):=b5
 subst a3
 have b8:=X9.trans a9
 obtain⟨w22,d6,a1,d2,c9,c2,b0,a7,b6⟩:=aH (x:=(e.t,n)) a6 rH (⟨_,_,rfl,rfl,rfl⟩)
 have b4:=b0.old b3
 have a4:w22=(.bool (dM e.t n)):=b6
 subst a4
 have b9:=b8.trans b0
 obtain⟨w34,d7,a2,d3,d0,c3,b2,a8,b7⟩:=aH (x:=(e.m,5)) a7 rH (⟨_,_,rfl,rfl,rfl⟩)
 have c6:=b2.old b4
 have a5:w34=(.bool (dM e.m 5)):=b7
 subst a5
 have c0:=b9.trans b2
 exact⟨.bool false,a2,Ev.told_tmp (tb:=[]) (n:=60) (F:=[bL 1 (pt b1 0) M2,aU 7 (i64 e.f),bL 11 (.bool (dM e.f n)) a0,aM 14,aM 16,aU 17 (i64 e.t),aM 18,aM 20,bL 21 (.bool (dM e.t n)) a1,aM 23,aM 26,aM 28,aU 29 (i64 e.m),aM 30,bL 31 (.bool (dM e.m 5)) a2,aM 33,aM 36,aM 38,aU 39 (i64 e.c),aM 40,aM 43,aO 46,aO 48,aO 50,aO 53]) aJ aI Try.func42 Ch (by kernel_rfl) Ri (fun B=>lO (gF 70 Zc (gQ _))) (fun _ _=>rfl) (by kernel_rfl) (hq (.eq (fE Try.prog 37 (.agg ⟨[i64 e.f,i64 e.t,i64 e.m,i64 e.c]⟩) M) (1,.val (pt b1 0),M2)) (bZ (by rw[<-c4,<-c5];kernel_rfl) Nat.one_ne_zero) (hk (lC (o:=0) cO g5 rfl) (hq (qC 70 [i64 e.f,i64 n] M2 (.bool (dM e.f n)) a0) (aN rfl d1 c8 c1) (hk (bT cc0) (hk (bT cc0) (hk (lC (o:=1) cO b3 rfl) (hk (bT cc0) (hk (bT cc0) (hq (qC 70 [i64 e.t,i64 n] a0 (.bool (dM e.t n)) a1) (aN rfl d2 c9 c2) (hk (bT cc0) (hk (bT cc1) (hk (bT cc1) (hk (lC (o:=2) cO b4 rfl) (hk (bT cc1) (hq (qC 70 [i64 e.m,i64 5] a1 (.bool (dM e.m 5)) a2) (aN rfl d3 d0 c3) (hk (bT cc1) (hk (bT cc2) (hk (bT cc2) (hk (lC (o:=3) cO c6 rfl) (hk (bT cc2) (hk (bT cc2) (hk (bF cc3) (hk (bF cc3) (hk (bF cc3) (hk (bF cc3) hn))))))))))))))))))))))))),c0,a8,rfl⟩
theorem w40_2(e:E4)(n:Int){M:aA}(hM:aB M)(cc0:(dM e.f n)=true)(cc1:(dM e.t n)=true)(cc2:(dM e.m 5)=false): ∃v M',Ev Try.prog [] 42 [.agg ⟨[i64 e.f,i64 e.t,i64 e.m,i64 e.c]⟩,i64 n] M v M'/\Ext M M'/\aB M'/\v=(.bool false):=by
 obtain⟨b1,M2,c3,c4,g5,E6,c6⟩:=bG hM ⟨[i64 e.f,i64 e.t,i64 e.m,i64 e.c],37,4,0,true⟩
 have X9:=(Ext.refl M).trans E6
 obtain⟨d3,d4,a0,d0,c7,c0,a9,a6,b4⟩:=aH (x:=(e.f,n)) c6 rH (⟨_,_,rfl,rfl,rfl⟩)
 have b2:=a9.old g5
 have a3:d3=(.bool (dM e.f n)):=b4
 subst a3
 have b7:=X9.trans a9
 obtain⟨w22,d5,a1,d1,c8,c1,b0,a7,b5⟩:=aH (x:=(e.t,n)) a6 rH (⟨_,_,rfl,rfl,rfl⟩)
 have c5:=b0.old b2
 have a4:w22=(.bool (dM e.t n)):=b5
 subst a4
 have b8:=b7.trans b0
 obtain⟨w34,d6,a2,d2,c9,c2,b3,a8,b6⟩:=aH (x:=(e.m,5)) a7 rH (⟨_,_,rfl,rfl,rfl⟩)
 have a5:w34=(.bool (dM e.m 5)):=b6
 subst a5
 have b9:=b8.trans b3
 exact⟨.bool false,a2,Ev.told_tmp (tb:=[]) (n:=60) (F:=[bL 1 (pt b1 0) M2,aU 7 (i64 e.f),bL 11 (.bool (dM e.f n)) a0,aM 14,aM 16,aU 17 (i64 e.t),aM 18,aM 20,bL 21 (.bool (dM e.t n)) a1,aM 23,aM 26,aM 28,aU 29 (i64 e.m),aM 30,bL 31 (.bool (dM e.m 5)) a2,aM 33,aO 36,aO 38,aO 40,aO 43]) aJ aI Try.func42 Ch (by kernel_rfl) Ri (fun B=>lO (gF 70 Zc (gQ _))) (fun _ _=>rfl) (by kernel_rfl) (hq (.eq (fE Try.prog 37 (.agg ⟨[i64 e.f,i64 e.t,i64 e.m,i64 e.c]⟩) M) (1,.val (pt b1 0),M2)) (bZ (by rw[<-c3,<-c4];kernel_rfl) Nat.one_ne_zero) (hk (lC (o:=0) cO g5 rfl) (hq (qC 70 [i64 e.f,i64 n] M2 (.bool (dM e.f n)) a0) (aN rfl d0 c7 c0) (hk (bT cc0) (hk (bT cc0) (hk (lC (o:=1) cO b2 rfl) (hk (bT cc0) (hk (bT cc0) (hq (qC 70 [i64 e.t,i64 n] a0 (.bool (dM e.t n)) a1) (aN rfl d1 c8 c1) (hk (bT cc0) (hk (bT cc1) (hk (bT cc1) (hk (lC (o:=2) cO c5 rfl) (hk (bT cc1) (hq (qC 70 [i64 e.m,i64 5] a1 (.bool (dM e.m 5)) a2) (aN rfl d2 c9 c2) (hk (bT cc1) (hk (bF cc2) (hk (bF cc2) (hk (bF cc2) (hk (bF cc2) hn)))))))))))))))))))),b9,a8,rfl⟩
theorem w40_3(e:E4)(n:Int){M:aA}(hM:aB M)(cc0:(dM e.f n)=true)(cc1:(dM e.t n)=false): ∃v M',Ev Try.prog [] 42 [.agg ⟨[i64 e.f,i64 e.t,i64 e.m,i64 e.c]⟩,i64 n] M v M'/\Ext M M'/\aB M'/\v=(.bool false):=by
 obtain⟨b1,M2,b5,b6,g5,E6,b8⟩:=bG hM ⟨[i64 e.f,i64 e.t,i64 e.m,i64 e.c],37,4,0,true⟩
 have X9:=(Ext.refl M).trans E6
 obtain⟨c3,c4,a0,c1,b9,b3,a6,a4,a8⟩:=aH (x:=(e.f,n)) b8 rH (⟨_,_,rfl,rfl,rfl⟩)
 have b7:=a6.old g5
 have a2:c3=(.bool (dM e.f n)):=a8
 subst a2
 have b0:=X9.trans a6
 obtain⟨w22,c5,a1,c2,c0,b4,a7,a5,a9⟩:=aH (x:=(e.t,n)) a4 rH (⟨_,_,rfl,rfl,rfl⟩)
 have a3:w22=(.bool (dM e.t n)):=a9
 subst a3
 have b2:=b0.trans a7
 exact⟨.bool false,a1,Ev.told_tmp (tb:=[]) (n:=60) (F:=[bL 1 (pt b1 0) M2,aU 7 (i64 e.f),bL 11 (.bool (dM e.f n)) a0,aM 14,aM 16,aU 17 (i64 e.t),aM 18,aM 20,bL 21 (.bool (dM e.t n)) a1,aM 23,aO 26,aO 28,aO 30,aO 33]) aJ aI Try.func42 Ch (by kernel_rfl) Ri (fun B=>lO (gF 70 Zc (gQ _))) (fun _ _=>rfl) (by kernel_rfl) (hq (.eq (fE Try.prog 37 (.agg ⟨[i64 e.f,i64 e.t,i64 e.m,i64 e.c]⟩) M) (1,.val (pt b1 0),M2)) (bZ (by rw[<-b5,<-b6];kernel_rfl) Nat.one_ne_zero) (hk (lC (o:=0) cO g5 rfl) (hq (qC 70 [i64 e.f,i64 n] M2 (.bool (dM e.f n)) a0) (aN rfl c1 b9 b3) (hk (bT cc0) (hk (bT cc0) (hk (lC (o:=1) cO b7 rfl) (hk (bT cc0) (hk (bT cc0) (hq (qC 70 [i64 e.t,i64 n] a0 (.bool (dM e.t n)) a1) (aN rfl c2 c0 b4) (hk (bT cc0) (hk (bF cc1) (hk (bF cc1) (hk (bF cc1) (hk (bF cc1) hn)))))))))))))),b2,a5,rfl⟩
theorem w40_4(e:E4)(n:Int){M:aA}(hM:aB M)(cc0:(dM e.f n)=false): ∃v M',Ev Try.prog [] 42 [.agg ⟨[i64 e.f,i64 e.t,i64 e.m,i64 e.c]⟩,i64 n] M v M'/\Ext M M'/\aB M'/\v=(.bool false):=by
 obtain⟨b1,M2,a7,a8,g5,E6,a9⟩:=bG hM ⟨[i64 e.f,i64 e.t,i64 e.m,i64 e.c],37,4,0,true⟩
 have X9:=(Ext.refl M).trans E6
 obtain⟨b3,b4,a0,b2,b0,a6,a3,a2,a4⟩:=aH (x:=(e.f,n)) a9 rH (⟨_,_,rfl,rfl,rfl⟩)
 have a1:b3=(.bool (dM e.f n)):=a4
 subst a1
 have a5:=X9.trans a3
 exact⟨.bool false,a0,Ev.told_tmp (tb:=[]) (n:=60) (F:=[bL 1 (pt b1 0) M2,aU 7 (i64 e.f),bL 11 (.bool (dM e.f n)) a0,aO 14,aO 16,aO 18,aO 20,aO 23]) aJ aI Try.func42 Ch (by kernel_rfl) Ri (fun B=>lO (gF 70 Zc (gQ _))) (fun _ _=>rfl) (by kernel_rfl) (hq (.eq (fE Try.prog 37 (.agg ⟨[i64 e.f,i64 e.t,i64 e.m,i64 e.c]⟩) M) (1,.val (pt b1 0),M2)) (bZ (by rw[<-a7,<-a8];kernel_rfl) Nat.one_ne_zero) (hk (lC (o:=0) cO g5 rfl) (hq (qC 70 [i64 e.f,i64 n] M2 (.bool (dM e.f n)) a0) (aN rfl b2 b0 a6) (hk (bF cc0) (hk (bF cc0) (hk (bF cc0) (hk (bF cc0) (hk (bF cc0) hn)))))))),a5,a2,rfl⟩
theorem Tt(e:E4)(n:Int){M:aA}(hM:aB M): ∃v M',Ev Try.prog [] 42 [.agg ⟨[i64 e.f,i64 e.t,i64 e.m,i64 e.c]⟩,i64 n] M v M'/\Ext M M'/\aB M'/\v= .bool (gV n e):=by
 cases a0:(dM e.f n) with
 |true=>
  cases a1:(dM e.t n) with
  |true=>
   cases a2:(dM e.m 5) with
   |true=>
    cases a3:(decide (e.c>=(0:Int))) with
    |true=>
     obtain⟨v,M1,h1,h2,h3,h4⟩:=w40_0 e n hM a0 a1 a2 a3
     refine⟨v,M1,h1,h2,h3,?_⟩
     subst h4
     first|rfl|(simp only [gV,a0,a1,a2,a3,cond_true,cond_false,Bool.true_and,Bool.false_and,Bool.and_true,Bool.and_false,Bool.true_or,Bool.false_or,Bool.or_true,Bool.or_false,Bool.not_true,Bool.not_false];done)|(simp only [gV,a0,a1,a2,a3,cond_true,cond_false,Bool.true_and,Bool.false_and,Bool.and_true,Bool.and_false,Bool.true_or,Bool.false_or,Bool.or_true,Bool.or_false,Bool.not_true,Bool.not_false]<;>rfl)|(simp_all [gV];done)
    |false=>
     obtain⟨v,M1,h1,h2,h3,h4⟩:=w40_1 e n hM a0 a1 a2 a3
     refine⟨v,M1,h1,h2,h3,?_⟩
     subst h4
     first|rfl|(simp only [gV,a0,a1,a2,a3,cond_true,cond_false,Bool.true_and,Bool.false_and,Bool.and_true,Bool.and_false,Bool.true_or,Bool.false_or,Bool.or_true,Bool.or_false,Bool.not_true,Bool.not_false];done)|(simp only [gV,a0,a1,a2,a3,cond_true,cond_false,Bool.true_and,Bool.false_and,Bool.and_true,Bool.and_false,Bool.true_or,Bool.false_or,Bool.or_true,Bool.or_false,Bool.not_true,Bool.not_false]<;>rfl)|(simp_all [gV];done)
   |false=>
    obtain⟨v,M1,h1,h2,h3,h4⟩:=w40_2 e n hM a0 a1 a2
    refine⟨v,M1,h1,h2,h3,?_⟩
    subst h4
    first|rfl|(simp only [gV,a0,a1,a2,cond_true,cond_false,Bool.true_and,Bool.false_and,Bool.and_true,Bool.and_false,Bool.true_or,Bool.false_or,Bool.or_true,Bool.or_false,Bool.not_true,Bool.not_false];done)|(simp only [gV,a0,a1,a2,cond_true,cond_false,Bool.true_and,Bool.false_and,Bool.and_true,Bool.and_false,Bool.true_or,Bool.false_or,Bool.or_true,Bool.or_false,Bool.not_true,Bool.not_false]<;>rfl)|(simp_all [gV];done)
  |false=>
   obtain⟨v,M1,h1,h2,h3,h4⟩:=w40_3 e n hM a0 a1
   refine⟨v,M1,h1,h2,h3,?_⟩
   subst h4
   first|rfl|(simp only [gV,a0,a1,cond_true,cond_false,Bool.true_and,Bool.false_and,Bool.and_true,Bool.and_false,Bool.true_or,Bool.false_or,Bool.or_true,Bool.or_false,Bool.not_true,Bool.not_false];done)|(simp only [gV,a0,a1,cond_true,cond_false,Bool.true_and,Bool.false_and,Bool.and_true,Bool.and_false,Bool.true_or,Bool.false_or,Bool.or_true,Bool.or_false,Bool.not_true,Bool.not_false]<;>rfl)|(simp_all [gV];done)
 |false=>
  obtain⟨v,M1,h1,h2,h3,h4⟩:=w40_4 e n hM a0
  refine⟨v,M1,h1,h2,h3,?_⟩
  subst h4
  first|rfl|(simp only [gV,a0,cond_true,cond_false,Bool.true_and,Bool.false_and,Bool.and_true,Bool.and_false,Bool.true_or,Bool.false_or,Bool.or_true,Bool.or_false,Bool.not_true,Bool.not_false];done)|(simp only [gV,a0,cond_true,cond_false,Bool.true_and,Bool.false_and,Bool.and_true,Bool.and_false,Bool.true_or,Bool.false_or,Bool.or_true,Bool.or_false,Bool.not_true,Bool.not_false]<;>rfl)|(simp_all [gV];done)
abbrev Q42:=FC (mG pE pI) (plain pB) (fun x=>gV x.2 x.1)
theorem Ty{x:(E4)×(Int)}{lv:List Value}{M:aA}(hM:aB M)(h:(mG pE pI) x lv M): ∃v M',lQ Try.prog [] 42 Q42 lv M v M':=by
 refine FC.con h ?_
 obtain⟨e,n⟩:=x
 obtain⟨g0,g1,rfl,k0,k1⟩:=h
 obtain rfl:=k0
 obtain rfl:=k1
 obtain⟨v,M',h1,h2,_,h3⟩:=Tt e n hM
 exact⟨v,M',h1,h2,h3⟩
theorem rK41:Try.f41.results= #[.tmp 2]:=by kernel_rfl
theorem w39_0(n:Int){M:aA}(hM:aB M)(cc0:(decide (n>=(1:Int)))=true): ∃v M',Ev Try.prog [] 41 [i64 n] M v M'/\Ext M M'/\aB M'/\v=(.bool (decide (n<=(60:Int)))):=by
 exact⟨.bool (decide (n<=(60:Int))),M,Ev.told_tmp (tb:=[]) (n:=60) (F:=[aM 8,aM 10,aM 13]) aJ aI Try.func41 Qz (by kernel_rfl) rK41 (aG Try.prog) (fun _ _=>rfl) (by kernel_rfl) (hk (bT cc0) (hk (bT cc0) (hk (bT cc0) hn))),Ext.refl M,hM,rfl⟩
theorem w39_1(n:Int){M:aA}(hM:aB M)(cc0:(decide (n>=(1:Int)))=false): ∃v M',Ev Try.prog [] 41 [i64 n] M v M'/\Ext M M'/\aB M'/\v=(.bool false):=by
 exact⟨.bool false,M,Ev.told_tmp (tb:=[]) (n:=60) (F:=[aO 8,aO 10,aO 13]) aJ aI Try.func41 Qz (by kernel_rfl) rK41 (aG Try.prog) (fun _ _=>rfl) (by kernel_rfl) (hk (bF cc0) (hk (bF cc0) (hk (bF cc0) hn))),Ext.refl M,hM,rfl⟩
theorem Ts(n:Int){M:aA}(hM:aB M): ∃v M',Ev Try.prog [] 41 [i64 n] M v M'/\Ext M M'/\aB M'/\v= .bool (fS n):=by
 cases a0:(decide (n>=(1:Int))) with
 |true=>
  obtain⟨v,M1,h1,h2,h3,h4⟩:=w39_0 n hM a0
  refine⟨v,M1,h1,h2,h3,?_⟩
  subst h4
  first|rfl|(simp only [fS,a0,cond_true,cond_false,Bool.true_and,Bool.false_and,Bool.and_true,Bool.and_false,Bool.true_or,Bool.false_or,Bool.or_true,Bool.or_false,Bool.not_true,Bool.not_false];done)|(simp only [fS,a0,cond_true,cond_false,Bool.true_and,Bool.false_and,Bool.and_true,Bool.and_false,Bool.true_or,Bool.false_or,Bool.or_true,Bool.or_false,Bool.not_true,Bool.not_false]<;>rfl)|(simp_all [fS];done)
 |false=>
  obtain⟨v,M1,h1,h2,h3,h4⟩:=w39_1 n hM a0
  refine⟨v,M1,h1,h2,h3,?_⟩
  subst h4
  first|rfl|(simp only [fS,a0,cond_true,cond_false,Bool.true_and,Bool.false_and,Bool.and_true,Bool.and_false,Bool.true_or,Bool.false_or,Bool.or_true,Bool.or_false,Bool.not_true,Bool.not_false];done)|(simp only [fS,a0,cond_true,cond_false,Bool.true_and,Bool.false_and,Bool.and_true,Bool.and_false,Bool.true_or,Bool.false_or,Bool.or_true,Bool.or_false,Bool.not_true,Bool.not_false]<;>rfl)|(simp_all [fS];done)
abbrev Zm:=FC (tL pI) (plain pB) (fun x=>fS x)
theorem Mj{n:(Int)}{lv:List Value}{M:aA}(hM:aB M)(h:(tL pI) n lv M): ∃v M',lQ Try.prog [] 41 Zm lv M v M':=by
 refine FC.con h ?_
 obtain⟨g0,rfl,k0⟩:=h
 obtain rfl:=k0
 obtain⟨v,M',h1,h2,_,h3⟩:=Ts n hM
 exact⟨v,M',h1,h2,h3⟩
theorem cP:(Try.prog.underlying 24).map dX=some false:=by kernel_rfl
theorem Nj:(Try.prog.info? 24).map (·.size)=some 1:=by kernel_rfl
theorem tM:(Try.prog.underlying 37).map dX=some true:=by kernel_rfl
theorem lS:(Try.prog.info? 37).map (·.size)=some 4:=by kernel_rfl
theorem r27_0(b bb o m c i:Nat)(n:Int)(e:E4){M M0:aA}(hM:aB M)(X0:Ext M0 M)(gb:M.get b=some ⟨[i64 n,aD bb o m c],26,2,0,true⟩)(cc0:(decide ((i:Int)<(m:Int)))=true)(cc1:(gV n e)=true)(hld0:aX Try.prog 37 ⟨bb,o+((i:Int):Int).toNat*4,none⟩ M0=some (.agg ⟨[i64 e.f,i64 e.t,i64 e.m,i64 e.c]⟩)): ∃T1 M',Rd Try.prog [] (q20.loopAt 0) Try.f20.ntmps (fr [(1,(pt b 0)),(16,(aD bb o m c)),(17,(i64 (m:Int))),(18,(i64 (i:Int)))]) M .normal T1 M'/\ [1,16,17,18].map T1.get= [some (pt b 0),some (aD bb o m c),some (i64 (m:Int)),some (i64 (IntKind.wrap .i64 ((i:Int)+(1:Int))))]/\Ext M0 M'/\aB M'/\M'.get b=some ⟨[i64 n,aD bb o m c],26,2,0,true⟩/\ ∀id k,M.get id=some k->id≠b->M'.get id=some k:=by
 obtain⟨b1,M2,a9,b7,g5,E6,b9⟩:=bG hM ⟨[i64 0,i64 0,i64 0,i64 0],37,4,0,true⟩
 have c1:M0.next<=b1:=by rw[<-a9];exact X0.next
 have a4:b≠b1:=by have:=aA.lt_of_get gb;omega
 have g8:=E6.old gb
 have b3:=X0.trans E6
 obtain⟨a0,c4,a6,a1,b4,a7,c2⟩:=bH (o:=0) (v:=(.agg ⟨[i64 e.f,i64 e.t,i64 e.m,i64 e.c]⟩)) (new:= [i64 e.f,i64 e.t,i64 e.m,i64 e.c]) b3 c1 b9 lS g5 rfl rfl (Nat.zero_le _) (Nat.le_of_ble_eq_true rfl) rfl
 replace a6:a0.get b1=some ⟨[i64 e.f,i64 e.t,i64 e.m,i64 e.c],37,4,0,true⟩:=a6
 have b0:=(a1 _ a4).trans g8
 obtain⟨c5,c6,a2,c3,c0,b6,a3,a8,b2⟩:=aH (x:=(e,n)) a7 Ty (⟨_,_,rfl,rfl,rfl⟩)
 have b8:=a3.old b0
 have a5:c5=(.bool (gV n e)):=b2
 subst a5
 have b5:=b4.trans a3
 have hkp: ∀id k,M.get id=some k->id≠b->a2.get id=some k:=fun id k g h_b=>by
  have g0:=aA.lt_of_get g
  have g:=E6.old g
  have g:=((fun id h _=>a1 id h) id (by omega) (aA.lt_of_get g)).trans g
  have g:=a3.old g
  exact g
 obtain⟨T1,h1,h2⟩:=Rd.told (tb:=[]) (n:=60) (F:=[aM 2,aM 4,aU 6 (.agg ⟨[i64 e.f,i64 e.t,i64 e.m,i64 e.c]⟩),bL 8 (pt b1 0) M2,lP 10 a0,aU 12 (.agg ⟨[i64 e.f,i64 e.t,i64 e.m,i64 e.c]⟩),aU 16 (i64 n),bL 18 (.bool (gV n e)) a2,aO 21]) aJ aI (fun B=>lO (gF 42 Q42 (gQ _))) (fun _ _=>rfl) (by kernel_rfl) (hk (bT cc0) (hk (qI (i:Int) m (by omega) (by simp at cc0;omega)) (hk (lD (aE X0 hld0)) (hq (.eq (dL Try.prog 37 M) (1,.val (pt b1 0),M2)) (bZ (by rw[<-a9,<-b7];kernel_rfl) Nat.one_ne_zero) (hq (qS 37 b1 0 (.agg ⟨[i64 e.f,i64 e.t,i64 e.m,i64 e.c]⟩) M2 a0) (eF c4) (hq (qL 37 b1 0 a0 (.agg ⟨[i64 e.f,i64 e.t,i64 e.m,i64 e.c]⟩)) (lA ⟨tM,lS⟩ a6 rfl) (hk (lC (o:=0) cO b0 rfl) (hq (qC 42 [.agg ⟨[i64 e.f,i64 e.t,i64 e.m,i64 e.c]⟩,i64 n] a0 (.bool (gV n e)) a2) (aN rfl c3 c0 b6) (hk (bF (x:=!(gV n e)) (by rw[cc1];rfl)) hn)))))))))
 exact⟨T1,a2,h1,h2,b5,a8,b8,hkp⟩
theorem r27_1(b bb o m c i:Nat)(n:Int)(e:E4){M M0:aA}(hM:aB M)(X0:Ext M0 M)(gb:M.get b=some ⟨[i64 n,aD bb o m c],26,2,0,true⟩)(cc0:(decide ((i:Int)<(m:Int)))=true)(cc1:(gV n e)=false)(hld0:aX Try.prog 37 ⟨bb,o+((i:Int):Int).toNat*4,none⟩ M0=some (.agg ⟨[i64 e.f,i64 e.t,i64 e.m,i64 e.c]⟩)): ∃T1 M',Rd Try.prog [] (q20.loopAt 0) Try.f20.ntmps (fr [(1,(pt b 0)),(16,(aD bb o m c)),(17,(i64 (m:Int))),(18,(i64 (i:Int)))]) M .ret T1 M'/\ [2].map T1.get= [some (.bool false)]/\Ext M0 M'/\aB M'/\M'.get b=some ⟨[i64 n,aD bb o m c],26,2,0,true⟩/\ ∀id k,M.get id=some k->id≠b->M'.get id=some k:=by
 obtain⟨b1,M2,a9,b7,g5,E6,b9⟩:=bG hM ⟨[i64 0,i64 0,i64 0,i64 0],37,4,0,true⟩
 have c1:M0.next<=b1:=by rw[<-a9];exact X0.next
 have a4:b≠b1:=by have:=aA.lt_of_get gb;omega
 have g8:=E6.old gb
 have b3:=X0.trans E6
 obtain⟨a0,c4,a6,a1,b4,a7,c2⟩:=bH (o:=0) (v:=(.agg ⟨[i64 e.f,i64 e.t,i64 e.m,i64 e.c]⟩)) (new:= [i64 e.f,i64 e.t,i64 e.m,i64 e.c]) b3 c1 b9 lS g5 rfl rfl (Nat.zero_le _) (Nat.le_of_ble_eq_true rfl) rfl
 replace a6:a0.get b1=some ⟨[i64 e.f,i64 e.t,i64 e.m,i64 e.c],37,4,0,true⟩:=a6
 have b0:=(a1 _ a4).trans g8
 obtain⟨c5,c6,a2,c3,c0,b6,a3,a8,b2⟩:=aH (x:=(e,n)) a7 Ty (⟨_,_,rfl,rfl,rfl⟩)
 have b8:=a3.old b0
 have a5:c5=(.bool (gV n e)):=b2
 subst a5
 have b5:=b4.trans a3
 have hkp: ∀id k,M.get id=some k->id≠b->a2.get id=some k:=fun id k g h_b=>by
  have g0:=aA.lt_of_get g
  have g:=E6.old g
  have g:=((fun id h _=>a1 id h) id (by omega) (aA.lt_of_get g)).trans g
  have g:=a3.old g
  exact g
 obtain⟨T1,h1,h2⟩:=Rd.told (tb:=[]) (n:=60) (F:=[aM 2,aM 4,aU 6 (.agg ⟨[i64 e.f,i64 e.t,i64 e.m,i64 e.c]⟩),bL 8 (pt b1 0) M2,lP 10 a0,aU 12 (.agg ⟨[i64 e.f,i64 e.t,i64 e.m,i64 e.c]⟩),aU 16 (i64 n),bL 18 (.bool (gV n e)) a2,aM 21]) aJ aI (fun B=>lO (gF 42 Q42 (gQ _))) (fun _ _=>rfl) (by kernel_rfl) (hk (bT cc0) (hk (qI (i:Int) m (by omega) (by simp at cc0;omega)) (hk (lD (aE X0 hld0)) (hq (.eq (dL Try.prog 37 M) (1,.val (pt b1 0),M2)) (bZ (by rw[<-a9,<-b7];kernel_rfl) Nat.one_ne_zero) (hq (qS 37 b1 0 (.agg ⟨[i64 e.f,i64 e.t,i64 e.m,i64 e.c]⟩) M2 a0) (eF c4) (hq (qL 37 b1 0 a0 (.agg ⟨[i64 e.f,i64 e.t,i64 e.m,i64 e.c]⟩)) (lA ⟨tM,lS⟩ a6 rfl) (hk (lC (o:=0) cO b0 rfl) (hq (qC 42 [.agg ⟨[i64 e.f,i64 e.t,i64 e.m,i64 e.c]⟩,i64 n] a0 (.bool (gV n e)) a2) (aN rfl c3 c0 b6) (hk (bT (x:=!(gV n e)) (by rw[cc1];rfl)) hn)))))))))
 exact⟨T1,a2,h1,h2,b5,a8,b8,hkp⟩
theorem r27x(b:Nat)(a:Option Addr)(m c i:Nat)(n:Int){M:aA}(gb:M.get b=some ⟨[i64 n,.slice a m c],26,2,0,true⟩)(cc0:(decide ((i:Int)<(m:Int)))=false): ∃T1,Rd Try.prog [] (q20.loopAt 0) Try.f20.ntmps (fr [(1,(pt b 0)),(16,(.slice a m c)),(17,(i64 (m:Int))),(18,(i64 (i:Int)))]) M (.exit 0) T1 M/\ [].map T1.get= []:=by
 exact Rd.told (tb:=[]) (n:=60) (F:=[aO 2]) aJ aI (aG Try.prog) (fun _ _=>rfl) (by kernel_rfl) (hk (bF cc0) hn)
theorem Qj{b:Nat}{a:Option Addr}{c:Nat}{n:Int}{l:List E4}{M:aA}(hM:aB M)(hs:zO M (.slice a l.length c) l)(hg:M.get b=some ⟨[i64 n,.slice a l.length c],26,2,0,true⟩):
  ∃e O M',bJ Try.prog [] (q20.loopAt 0) Try.f20.ntmps (fr [(1,pt b 0),(16,.slice a l.length c),(17,i64 l.length),(18,i64 ((0:Nat):Int))]) M e (fr O) M'/\Ext M M'/\aB M'/\
   ((e= .exit 0/\O= []/\l.all (gV n)=true)\/(e= .ret/\O= [(2,.bool false)]/\l.all (gV n)=false)):=by
 have hlen:=hs.len
 refine bJ.forE (σ:=Unit) (n:=l.length) (Inv:=fun i _ M1=>Ext M M1/\aB M1/\M1.get b=some ⟨[i64 n,.slice a l.length c],26,2,0,true⟩/\(l.take i).all (gV n)=true)
  (F:=fun i _=> [(1,pt b 0),(16,.slice a l.length c),(17,i64 l.length),(18,i64 ((i:Nat):Int))])
  (Post:=fun e O M'=>Ext M M'/\aB M'/\((e= .exit 0/\O= []/\l.all (gV n)=true)\/(e= .ret/\O= [(2,.bool false)]/\l.all (gV n)=false))) ?_ ?_ l.length 0 (by omega) (s:=()) ⟨Ext.refl M,hM,hg,by simp⟩
 ·rintro i _ M1 hi ⟨X,a0,a1,hall⟩
  obtain⟨bb,o,rfl,_⟩:=cD hs (by omega)
  have ht:l[i]?=some l[i]:=List.getElem?_eq_getElem hi
  have hld:=uV (P:=Try.prog) (ty:=37) hs ht tM lS
  cases hf:gV n l[i] with
  |true=>
   obtain⟨T1,M2,h1,h2,h3,h4,h5,_⟩:=r27_0 b bb o l.length c i n l[i] a0 X a1 (decide_eq_true (by omega)) hf hld
   rw[aY (by omega)] at h2
   refine .inl ⟨(),T1,M2,h1,h2,h3,h4,h5,?_⟩
   rw[List.take_succ_eq_append_getElem hi,List.all_append,hall]
   simp [hf]
  |false=>
   obtain⟨T1,M2,h1,h2,h3,h4,h5,_⟩:=r27_1 b bb o l.length c i n l[i] a0 X a1 (decide_eq_true (by omega)) hf hld
   refine .inr ⟨_,[(2,.bool false)],T1,M2,h1,by simp,h2,h3,h4,.inr ⟨rfl,rfl,?_⟩⟩
   rw[List.all_eq_false]
   exact⟨l[i],List.getElem_mem hi,by simp [hf]⟩
 ·rintro _ M1 ⟨X,a0,a1,hall⟩
  obtain⟨T1,h1,h2⟩:=r27x b a l.length c l.length n a1 (decide_eq_false (by omega))
  refine⟨_,[],T1,M1,h1,by simp,h2,X,a0,.inl ⟨rfl,rfl,?_⟩⟩
  rwa [List.take_length] at hall
theorem Ql{b:Nat}{a:Option Addr}{c:Nat}{n:Int}{l:List E4}{M:aA}(hM:aB M)(hs:zO M (.slice a l.length c) l)(hg:M.get b=some ⟨[i64 n,.slice a l.length c],26,2,0,true⟩)(h:l.all (gV n)=true):
  ∃M',bJ Try.prog [] (q20.loopAt 0) Try.f20.ntmps (fr [(1,pt b 0),(16,.slice a l.length c),(17,i64 l.length),(18,i64 ((0:Nat):Int))]) M (.exit 0) (fr []) M'/\Ext M M'/\aB M':=by
 obtain⟨e,O,M',h1,h2,h3,h4|h4⟩:=Qj hM hs hg
 ·obtain⟨rfl,rfl,_⟩:=h4;exact⟨M',h1,h2,h3⟩
 ·rw[h] at h4;cases h4.2.2
theorem Qk{b:Nat}{a:Option Addr}{c:Nat}{n:Int}{l:List E4}{M:aA}(hM:aB M)(hs:zO M (.slice a l.length c) l)(hg:M.get b=some ⟨[i64 n,.slice a l.length c],26,2,0,true⟩)(h:l.all (gV n)=false):
  ∃M',bJ Try.prog [] (q20.loopAt 0) Try.f20.ntmps (fr [(1,pt b 0),(16,.slice a l.length c),(17,i64 l.length),(18,i64 ((0:Nat):Int))]) M .ret (fr [(2,.bool false)]) M'/\Ext M M'/\aB M':=by
 obtain⟨e,O,M',h1,h2,h3,h4|h4⟩:=Qj hM hs hg
 ·rw[h] at h4;cases h4.2.2
 ·obtain⟨rfl,rfl,_⟩:=h4;exact⟨M',h1,h2,h3⟩
theorem Th:Try.f20.results= #[.tmp 2]:=by kernel_rfl
theorem w27_0(ln:Int)(al:Option Addr)(cl:Nat)(l:List E4){M:aA}(hM:aB M)(hl:aV l (.slice al l.length cl) M)(cc0:(fS ln)=true)(cc1:(decide ((l.length:Int)>(400:Int)))=true): ∃v M',Ev Try.prog [] 20 [.agg ⟨[i64 ln,.slice al l.length cl]⟩] M v M'/\Ext M M'/\aB M'/\v=(.bool false):=by
 obtain⟨b1,M2,a7,a8,g5,E6,b0⟩:=bG hM ⟨[i64 ln,.slice al l.length cl],26,2,0,true⟩
 have X9:=(Ext.refl M).trans E6
 obtain⟨b4,b5,a0,b3,b2,a6,a3,a2,a4⟩:=aH (x:=ln) b0 Mj (⟨_,rfl,rfl⟩)
 have a9:=a3.old g5
 have a1:b4=(.bool (fS ln)):=a4
 subst a1
 have a5:=X9.trans a3
 exact⟨.bool false,a0,Ev.told_tmp (tb:=[]) (n:=60) (F:=[bL 1 (pt b1 0) M2,aU 7 (i64 ln),bL 9 (.bool (fS ln)) a0,aO 14,aO 16,aU 17 (.slice al l.length cl),aO 18,aM 19,aO 20,aO 23,aM 24]) aJ aI Try.func20 Gx (by kernel_rfl) Th (fun B=>lO (gF 41 Zm (gQ _))) (fun _ _=>rfl) (by kernel_rfl) (hq (.eq (fE Try.prog 26 (.agg ⟨[i64 ln,.slice al l.length cl]⟩) M) (1,.val (pt b1 0),M2)) (bZ (by rw[<-a7,<-a8];kernel_rfl) Nat.one_ne_zero) (hk (lC (o:=0) cO g5 rfl) (hq (qC 41 [i64 ln] M2 (.bool (fS ln)) a0) (aN rfl b3 b2 a6) (hk (bF (x:=!(fS ln)) (by rw[cc0];rfl)) (hk (bF (x:=!(fS ln)) (by rw[cc0];rfl)) (hk (lC (o:=1) cP a9 rfl) (hk (bF (x:=!(fS ln)) (by rw[cc0];rfl)) (hk (lN hl.ln) (hk (bF (x:=!(fS ln)) (by rw[cc0];rfl)) (hk (bF (x:=!(fS ln)) (by rw[cc0];rfl)) (hk (bT cc1) hn))))))))))),a5,a2,rfl⟩
theorem w27_1(ln:Int)(al:Option Addr)(cl:Nat)(l:List E4){M:aA}(hM:aB M)(hl:aV l (.slice al l.length cl) M)(cc0:(fS ln)=true)(cc1:(decide ((l.length:Int)>(400:Int)))=false)(cc2:(l.all (gV ln))=true): ∃v M',Ev Try.prog [] 20 [.agg ⟨[i64 ln,.slice al l.length cl]⟩] M v M'/\Ext M M'/\aB M'/\v=(.bool true):=by
 obtain⟨b1,M2,b4,b5,g5,E6,b6⟩:=bG hM ⟨[i64 ln,.slice al l.length cl],26,2,0,true⟩
 have X9:=(Ext.refl M).trans E6
 obtain⟨b9,c0,a0,b8,b7,b3,a7,a5,b0⟩:=aH (x:=ln) b6 Mj (⟨_,rfl,rfl⟩)
 have a3:=a7.old g5
 have a2:b9=(.bool (fS ln)):=b0
 subst a2
 have a8:=X9.trans a7
 obtain⟨a1,a4,a9,a6⟩:=Ql a5 (AP.Ext (R:=aV) hl a8) a3 cc2
 have b2:=a8.trans a9
 exact⟨.bool true,a1,Ev.told_tmp (tb:=[0]) (n:=60) (F:=[bL 1 (pt b1 0) M2,aU 7 (i64 ln),bL 9 (.bool (fS ln)) a0,aO 14,aO 16,aU 17 (.slice al l.length cl),aO 18,aM 19,aO 20,aO 23,aO 24,aU 28 (.slice al l.length cl),aM 30,.blk 33 [1,16,17,18] .normal (fr []) a1]) aJ aI Try.func20 Gx (by kernel_rfl) Th (fun B=>zN (gF 41 Zm (gQ _)) 0 a4) (fun _ h=>cF h) (by kernel_rfl) (hq (.eq (fE Try.prog 26 (.agg ⟨[i64 ln,.slice al l.length cl]⟩) M) (1,.val (pt b1 0),M2)) (bZ (by rw[<-b4,<-b5];kernel_rfl) Nat.one_ne_zero) (hk (lC (o:=0) cO g5 rfl) (hq (qC 41 [i64 ln] M2 (.bool (fS ln)) a0) (aN rfl b8 b7 b3) (hk (bF (x:=!(fS ln)) (by rw[cc0];rfl)) (hk (bF (x:=!(fS ln)) (by rw[cc0];rfl)) (hk (lC (o:=1) cP a3 rfl) (hk (bF (x:=!(fS ln)) (by rw[cc0];rfl)) (hk (lN hl.ln) (hk (bF (x:=!(fS ln)) (by rw[cc0];rfl)) (hk (bF (x:=!(fS ln)) (by rw[cc0];rfl)) (hk (bF cc1) (hk (lC (o:=1) cP a3 rfl) (hk (lN hl.ln) (hq (.blk 0 (.loop (q20.loopAt 0)) Try.f20.ntmps [1,16,17,18] [some (pt b1 0),some (.slice al l.length cl),some (i64 (l.length:Int)),some (i64 0)] a0 .normal (fr []) a1) (fH rfl) hn)))))))))))))),b2,a6,rfl⟩
theorem w27_2(ln:Int)(al:Option Addr)(cl:Nat)(l:List E4){M:aA}(hM:aB M)(hl:aV l (.slice al l.length cl) M)(cc0:(fS ln)=true)(cc1:(decide ((l.length:Int)>(400:Int)))=false)(cc2:(l.all (gV ln))=false): ∃v M',Ev Try.prog [] 20 [.agg ⟨[i64 ln,.slice al l.length cl]⟩] M v M'/\Ext M M'/\aB M'/\v=(.bool false):=by
 obtain⟨b1,M2,b4,b5,g5,E6,b6⟩:=bG hM ⟨[i64 ln,.slice al l.length cl],26,2,0,true⟩
 have X9:=(Ext.refl M).trans E6
 obtain⟨b9,c0,a0,b8,b7,b3,a7,a5,b0⟩:=aH (x:=ln) b6 Mj (⟨_,rfl,rfl⟩)
 have a3:=a7.old g5
 have a2:b9=(.bool (fS ln)):=b0
 subst a2
 have a8:=X9.trans a7
 obtain⟨a1,a4,a9,a6⟩:=Qk a5 (AP.Ext (R:=aV) hl a8) a3 cc2
 have b2:=a8.trans a9
 exact⟨.bool false,a1,Ev.told_tmp (tb:=[0]) (n:=60) (F:=[bL 1 (pt b1 0) M2,aU 7 (i64 ln),bL 9 (.bool (fS ln)) a0,aO 14,aO 16,aU 17 (.slice al l.length cl),aO 18,aM 19,aO 20,aO 23,aO 24,aU 28 (.slice al l.length cl),aM 30,.blk 33 [1,16,17,18] .ret (fr [(2,(.bool false))]) a1]) aJ aI Try.func20 Gx (by kernel_rfl) Th (fun B=>zN (gF 41 Zm (gQ _)) 0 a4) (fun _ h=>cF h) (by kernel_rfl) (hq (.eq (fE Try.prog 26 (.agg ⟨[i64 ln,.slice al l.length cl]⟩) M) (1,.val (pt b1 0),M2)) (bZ (by rw[<-b4,<-b5];kernel_rfl) Nat.one_ne_zero) (hk (lC (o:=0) cO g5 rfl) (hq (qC 41 [i64 ln] M2 (.bool (fS ln)) a0) (aN rfl b8 b7 b3) (hk (bF (x:=!(fS ln)) (by rw[cc0];rfl)) (hk (bF (x:=!(fS ln)) (by rw[cc0];rfl)) (hk (lC (o:=1) cP a3 rfl) (hk (bF (x:=!(fS ln)) (by rw[cc0];rfl)) (hk (lN hl.ln) (hk (bF (x:=!(fS ln)) (by rw[cc0];rfl)) (hk (bF (x:=!(fS ln)) (by rw[cc0];rfl)) (hk (bF cc1) (hk (lC (o:=1) cP a3 rfl) (hk (lN hl.ln) (hq (.blk 0 (.loop (q20.loopAt 0)) Try.f20.ntmps [1,16,17,18] [some (pt b1 0),some (.slice al l.length cl),some (i64 (l.length:Int)),some (i64 0)] a0 .ret (fr [(2,(.bool false))]) a1) (fH rfl) hn)))))))))))))),b2,a6,rfl⟩
theorem w27_3(ln:Int)(al:Option Addr)(cl:Nat)(l:List E4){M:aA}(hM:aB M)(hl:aV l (.slice al l.length cl) M)(cc0:(fS ln)=false): ∃v M',Ev Try.prog [] 20 [.agg ⟨[i64 ln,.slice al l.length cl]⟩] M v M'/\Ext M M'/\aB M'/\v=(.bool false):=by
 obtain⟨b1,M2,a7,a8,g5,E6,a9⟩:=bG hM ⟨[i64 ln,.slice al l.length cl],26,2,0,true⟩
 have X9:=(Ext.refl M).trans E6
 obtain⟨b3,b4,a0,b2,b0,a6,a3,a2,a4⟩:=aH (x:=ln) a9 Mj (⟨_,rfl,rfl⟩)
 have a1:b3=(.bool (fS ln)):=a4
 subst a1
 have a5:=X9.trans a3
 exact⟨.bool false,a0,Ev.told_tmp (tb:=[]) (n:=60) (F:=[bL 1 (pt b1 0) M2,aU 7 (i64 ln),bL 9 (.bool (fS ln)) a0,aM 14,aM 16,aM 18,aM 20,aM 23]) aJ aI Try.func20 Gx (by kernel_rfl) Th (fun B=>lO (gF 41 Zm (gQ _))) (fun _ _=>rfl) (by kernel_rfl) (hq (.eq (fE Try.prog 26 (.agg ⟨[i64 ln,.slice al l.length cl]⟩) M) (1,.val (pt b1 0),M2)) (bZ (by rw[<-a7,<-a8];kernel_rfl) Nat.one_ne_zero) (hk (lC (o:=0) cO g5 rfl) (hq (qC 41 [i64 ln] M2 (.bool (fS ln)) a0) (aN rfl b2 b0 a6) (hk (bT (x:=!(fS ln)) (by rw[cc0];rfl)) (hk (bT (x:=!(fS ln)) (by rw[cc0];rfl)) (hk (bT (x:=!(fS ln)) (by rw[cc0];rfl)) (hk (bT (x:=!(fS ln)) (by rw[cc0];rfl)) (hk (bT (x:=!(fS ln)) (by rw[cc0];rfl)) hn)))))))),a5,a2,rfl⟩
theorem To(ln:Int)(al:Option Addr)(cl:Nat)(l:List E4){M:aA}(hM:aB M)(hl:aV l (.slice al l.length cl) M): ∃v M',Ev Try.prog [] 20 [.agg ⟨[i64 ln,.slice al l.length cl]⟩] M v M'/\Ext M M'/\aB M'/\v= .bool (eP ln l):=by
 cases a0:(fS ln) with
 |true=>
  cases a1:(decide ((l.length:Int)>(400:Int))) with
  |true=>
   obtain⟨v,M1,h1,h2,h3,h4⟩:=w27_0 ln al cl l hM hl a0 a1
   refine⟨v,M1,h1,h2,h3,?_⟩
   subst h4
   first|rfl|(simp only [eP,a0,a1,cond_true,cond_false,Bool.true_and,Bool.false_and,Bool.and_true,Bool.and_false,Bool.true_or,Bool.false_or,Bool.or_true,Bool.or_false,Bool.not_true,Bool.not_false];done)|(simp only [eP,a0,a1,cond_true,cond_false,Bool.true_and,Bool.false_and,Bool.and_true,Bool.and_false,Bool.true_or,Bool.false_or,Bool.or_true,Bool.or_false,Bool.not_true,Bool.not_false]<;>rfl)|(simp_all [eP];done)
  |false=>
   cases a2:(l.all (gV ln)) with
   |true=>
    obtain⟨v,M1,h1,h2,h3,h4⟩:=w27_1 ln al cl l hM hl a0 a1 a2
    refine⟨v,M1,h1,h2,h3,?_⟩
    subst h4
    first|rfl|(simp only [eP,a0,a1,a2,cond_true,cond_false,Bool.true_and,Bool.false_and,Bool.and_true,Bool.and_false,Bool.true_or,Bool.false_or,Bool.or_true,Bool.or_false,Bool.not_true,Bool.not_false];done)|(simp only [eP,a0,a1,a2,cond_true,cond_false,Bool.true_and,Bool.false_and,Bool.and_true,Bool.and_false,Bool.true_or,Bool.false_or,Bool.or_true,Bool.or_false,Bool.not_true,Bool.not_false]<;>rfl)|(simp_all [eP];done)
   |false=>
    obtain⟨v,M1,h1,h2,h3,h4⟩:=w27_2 ln al cl l hM hl a0 a1 a2
    refine⟨v,M1,h1,h2,h3,?_⟩
    subst h4
    first|rfl|(simp only [eP,a0,a1,a2,cond_true,cond_false,Bool.true_and,Bool.false_and,Bool.and_true,Bool.and_false,Bool.true_or,Bool.false_or,Bool.or_true,Bool.or_false,Bool.not_true,Bool.not_false];done)|(simp only [eP,a0,a1,a2,cond_true,cond_false,Bool.true_and,Bool.false_and,Bool.and_true,Bool.and_false,Bool.true_or,Bool.false_or,Bool.or_true,Bool.or_false,Bool.not_true,Bool.not_false]<;>rfl)|(simp_all [eP];done)
 |false=>
  obtain⟨v,M1,h1,h2,h3,h4⟩:=w27_3 ln al cl l hM hl a0
  refine⟨v,M1,h1,h2,h3,?_⟩
  subst h4
  first|rfl|(simp only [eP,a0,cond_true,cond_false,Bool.true_and,Bool.false_and,Bool.and_true,Bool.and_false,Bool.true_or,Bool.false_or,Bool.or_true,Bool.or_false,Bool.not_true,Bool.not_false];done)|(simp only [eP,a0,cond_true,cond_false,Bool.true_and,Bool.false_and,Bool.and_true,Bool.and_false,Bool.true_or,Bool.false_or,Bool.or_true,Bool.or_false,Bool.not_true,Bool.not_false]<;>rfl)|(simp_all [eP];done)
abbrev Q20:=FC (tL Oe) (plain pB) (fun x=>eP x.1 x.2)
theorem Pk{l:(Int×List E4)}{lv:List Value}{M:aA}(hM:aB M)(h:(tL Oe) l lv M): ∃v M',lQ Try.prog [] 20 Q20 lv M v M':=by
 refine FC.con h ?_
 obtain⟨g0,rfl,k0⟩:=h
 obtain⟨ln,l⟩:=l
 obtain⟨_,rfl,hl⟩:=k0
 obtain⟨al,cl,rfl⟩:=aK.form hl
 obtain⟨v,M',h1,h2,_,h3⟩:=To ln al cl l hM hl
 exact⟨v,M',h1,h2,h3⟩
theorem rK86:Try.f86.results= #[.tmp 2]:=by kernel_rfl
theorem w35_0(e:E4){M:aA}(hM:aB M): ∃v M',Ev Try.prog [] 86 [.agg ⟨[i64 e.f,i64 e.t,i64 e.m,i64 e.c]⟩] M v M'/\Ext M M'/\aB M'/\v=(i64 e.t):=by
 obtain⟨b1,M2,a0,a1,g5,E6,a2⟩:=bG hM ⟨[i64 e.f,i64 e.t,i64 e.m,i64 e.c],111,4,0,true⟩
 have X9:=(Ext.refl M).trans E6
 exact⟨i64 e.t,M2,Ev.told_tmp (tb:=[]) (n:=60) (F:=[bL 1 (pt b1 0) M2,aU 7 (i64 e.t)]) aJ aI Try.func86 Ye (by kernel_rfl) rK86 (aG Try.prog) (fun _ _=>rfl) (by kernel_rfl) (hq (.eq (fE Try.prog 111 (.agg ⟨[i64 e.f,i64 e.t,i64 e.m,i64 e.c]⟩) M) (1,.val (pt b1 0),M2)) (bZ (by rw[<-a0,<-a1];kernel_rfl) Nat.one_ne_zero) (hk (lC (o:=1) cO g5 rfl) hn)),X9,a2,rfl⟩
theorem Tp(e:E4){M:aA}(hM:aB M): ∃v M',Ev Try.prog [] 86 [.agg ⟨[i64 e.f,i64 e.t,i64 e.m,i64 e.c]⟩] M v M'/\Ext M M'/\aB M'/\v=i64 (e.t):=by
 obtain⟨v,M1,h1,h2,h3,h4⟩:=w35_0 e hM
 refine⟨v,M1,h1,h2,h3,?_⟩
 subst h4
 first|rfl|(simp only [cond_true,cond_false,Bool.true_and,Bool.false_and,Bool.and_true,Bool.and_false,Bool.true_or,Bool.false_or,Bool.or_true,Bool.or_false,Bool.not_true,Bool.not_false];done)|(simp only [cond_true,cond_false,Bool.true_and,Bool.false_and,Bool.and_true,Bool.and_false,Bool.true_or,Bool.false_or,Bool.or_true,Bool.or_false,Bool.not_true,Bool.not_false]<;>rfl)|(simp_all [];done)
abbrev Q86:=FC (tL pE) (plain pI) (fun x=>x.t)
theorem aAk{e:(E4)}{lv:List Value}{M:aA}(hM:aB M)(h:(tL pE) e lv M): ∃v M',lQ Try.prog [] 86 Q86 lv M v M':=by
 refine FC.con h ?_
 obtain⟨g0,rfl,k0⟩:=h
 obtain rfl:=k0
 obtain⟨v,M',h1,h2,_,h3⟩:=Tp e hM
 exact⟨v,M',h1,h2,h3⟩
theorem rK88:Try.f88.results= #[.tmp 2]:=by kernel_rfl
theorem w37_0(e:E4){M:aA}(hM:aB M): ∃v M',Ev Try.prog [] 88 [.agg ⟨[i64 e.f,i64 e.t,i64 e.m,i64 e.c]⟩] M v M'/\Ext M M'/\aB M'/\v=(i64 e.f):=by
 obtain⟨b1,M2,a0,a1,g5,E6,a2⟩:=bG hM ⟨[i64 e.f,i64 e.t,i64 e.m,i64 e.c],111,4,0,true⟩
 have X9:=(Ext.refl M).trans E6
 exact⟨i64 e.f,M2,Ev.told_tmp (tb:=[]) (n:=60) (F:=[bL 1 (pt b1 0) M2,aU 7 (i64 e.f)]) aJ aI Try.func88 Yg (by kernel_rfl) rK88 (aG Try.prog) (fun _ _=>rfl) (by kernel_rfl) (hq (.eq (fE Try.prog 111 (.agg ⟨[i64 e.f,i64 e.t,i64 e.m,i64 e.c]⟩) M) (1,.val (pt b1 0),M2)) (bZ (by rw[<-a0,<-a1];kernel_rfl) Nat.one_ne_zero) (hk (lC (o:=0) cO g5 rfl) hn)),X9,a2,rfl⟩
theorem Tq(e:E4){M:aA}(hM:aB M): ∃v M',Ev Try.prog [] 88 [.agg ⟨[i64 e.f,i64 e.t,i64 e.m,i64 e.c]⟩] M v M'/\Ext M M'/\aB M'/\v=i64 (e.f):=by
 obtain⟨v,M1,h1,h2,h3,h4⟩:=w37_0 e hM
 refine⟨v,M1,h1,h2,h3,?_⟩
 subst h4
 first|rfl|(simp only [cond_true,cond_false,Bool.true_and,Bool.false_and,Bool.and_true,Bool.and_false,Bool.true_or,Bool.false_or,Bool.or_true,Bool.or_false,Bool.not_true,Bool.not_false];done)|(simp only [cond_true,cond_false,Bool.true_and,Bool.false_and,Bool.and_true,Bool.and_false,Bool.true_or,Bool.false_or,Bool.or_true,Bool.or_false,Bool.not_true,Bool.not_false]<;>rfl)|(simp_all [];done)
abbrev Q88:=FC (tL pE) (plain pI) (fun x=>x.f)
theorem aAl{e:(E4)}{lv:List Value}{M:aA}(hM:aB M)(h:(tL pE) e lv M): ∃v M',lQ Try.prog [] 88 Q88 lv M v M':=by
 refine FC.con h ?_
 obtain⟨g0,rfl,k0⟩:=h
 obtain rfl:=k0
 obtain⟨v,M',h1,h2,_,h3⟩:=Tq e hM
 exact⟨v,M',h1,h2,h3⟩
theorem Rj:Try.f89.results= #[.tmp 2]:=by kernel_rfl
theorem w38_0(f t c:Int){M:aA}(hM:aB M): ∃v M',Ev Try.prog [] 89 [.agg ⟨[i64 f,i64 t,i64 0,i64 c]⟩] M v M'/\Ext M M'/\aB M'/\v=(i64 1):=by
 obtain⟨b1,M2,a0,a1,g5,E6,a2⟩:=bG hM ⟨[i64 f,i64 t,i64 0,i64 c],111,4,0,true⟩
 have X9:=(Ext.refl M).trans E6
 exact⟨i64 1,M2,Ev.told_tmp (tb:=[]) (n:=60) (F:=[bL 1 (pt b1 0) M2,aU 7 (i64 0)]) aJ aI Try.func89 Ci (by kernel_rfl) Rj (aG Try.prog) (fun _ _=>rfl) (by kernel_rfl) (hq (.eq (fE Try.prog 111 (.agg ⟨[i64 f,i64 t,i64 0,i64 c]⟩) M) (1,.val (pt b1 0),M2)) (bZ (by rw[<-a0,<-a1];kernel_rfl) Nat.one_ne_zero) (hk (lC (o:=2) cO g5 rfl) hn)),X9,a2,rfl⟩
theorem w38_1(f t c:Int){M:aA}(hM:aB M): ∃v M',Ev Try.prog [] 89 [.agg ⟨[i64 f,i64 t,i64 1,i64 c]⟩] M v M'/\Ext M M'/\aB M'/\v=(i64 2):=by
 obtain⟨b1,M2,a0,a1,g5,E6,a2⟩:=bG hM ⟨[i64 f,i64 t,i64 1,i64 c],111,4,0,true⟩
 have X9:=(Ext.refl M).trans E6
 exact⟨i64 2,M2,Ev.told_tmp (tb:=[]) (n:=60) (F:=[bL 1 (pt b1 0) M2,aU 7 (i64 1)]) aJ aI Try.func89 Ci (by kernel_rfl) Rj (aG Try.prog) (fun _ _=>rfl) (by kernel_rfl) (hq (.eq (fE Try.prog 111 (.agg ⟨[i64 f,i64 t,i64 1,i64 c]⟩) M) (1,.val (pt b1 0),M2)) (bZ (by rw[<-a0,<-a1];kernel_rfl) Nat.one_ne_zero) (hk (lC (o:=2) cO g5 rfl) hn)),X9,a2,rfl⟩
theorem w38_2(f t c:Int){M:aA}(hM:aB M): ∃v M',Ev Try.prog [] 89 [.agg ⟨[i64 f,i64 t,i64 2,i64 c]⟩] M v M'/\Ext M M'/\aB M'/\v=(i64 4):=by
 obtain⟨b1,M2,a0,a1,g5,E6,a2⟩:=bG hM ⟨[i64 f,i64 t,i64 2,i64 c],111,4,0,true⟩
 have X9:=(Ext.refl M).trans E6
 exact⟨i64 4,M2,Ev.told_tmp (tb:=[]) (n:=60) (F:=[bL 1 (pt b1 0) M2,aU 7 (i64 2)]) aJ aI Try.func89 Ci (by kernel_rfl) Rj (aG Try.prog) (fun _ _=>rfl) (by kernel_rfl) (hq (.eq (fE Try.prog 111 (.agg ⟨[i64 f,i64 t,i64 2,i64 c]⟩) M) (1,.val (pt b1 0),M2)) (bZ (by rw[<-a0,<-a1];kernel_rfl) Nat.one_ne_zero) (hk (lC (o:=2) cO g5 rfl) hn)),X9,a2,rfl⟩
theorem w38_3(f t c:Int){M:aA}(hM:aB M): ∃v M',Ev Try.prog [] 89 [.agg ⟨[i64 f,i64 t,i64 3,i64 c]⟩] M v M'/\Ext M M'/\aB M'/\v=(i64 8):=by
 obtain⟨b1,M2,a0,a1,g5,E6,a2⟩:=bG hM ⟨[i64 f,i64 t,i64 3,i64 c],111,4,0,true⟩
 have X9:=(Ext.refl M).trans E6
 exact⟨i64 8,M2,Ev.told_tmp (tb:=[]) (n:=60) (F:=[bL 1 (pt b1 0) M2,aU 7 (i64 3)]) aJ aI Try.func89 Ci (by kernel_rfl) Rj (aG Try.prog) (fun _ _=>rfl) (by kernel_rfl) (hq (.eq (fE Try.prog 111 (.agg ⟨[i64 f,i64 t,i64 3,i64 c]⟩) M) (1,.val (pt b1 0),M2)) (bZ (by rw[<-a0,<-a1];kernel_rfl) Nat.one_ne_zero) (hk (lC (o:=2) cO g5 rfl) hn)),X9,a2,rfl⟩
theorem w38_4(f t c:Int){M:aA}(hM:aB M): ∃v M',Ev Try.prog [] 89 [.agg ⟨[i64 f,i64 t,i64 4,i64 c]⟩] M v M'/\Ext M M'/\aB M'/\v=(i64 16):=by
 obtain⟨b1,M2,a0,a1,g5,E6,a2⟩:=bG hM ⟨[i64 f,i64 t,i64 4,i64 c],111,4,0,true⟩
 have X9:=(Ext.refl M).trans E6
 exact⟨i64 16,M2,Ev.told_tmp (tb:=[]) (n:=60) (F:=[bL 1 (pt b1 0) M2,aU 7 (i64 4)]) aJ aI Try.func89 Ci (by kernel_rfl) Rj (aG Try.prog) (fun _ _=>rfl) (by kernel_rfl) (hq (.eq (fE Try.prog 111 (.agg ⟨[i64 f,i64 t,i64 4,i64 c]⟩) M) (1,.val (pt b1 0),M2)) (bZ (by rw[<-a0,<-a1];kernel_rfl) Nat.one_ne_zero) (hk (lC (o:=2) cO g5 rfl) hn)),X9,a2,rfl⟩
abbrev Q89:=FC (iG (tL pE) Dc) (plain pI) (fun x=>tN x.m)
theorem aAm{e:E4}{lv:List Value}{M:aA}(hM:aB M)(h:(iG (tL pE) Dc) e lv M): ∃v M',lQ Try.prog [] 89 Q89 lv M v M':=by
 refine FC.con h ?_
 obtain⟨h,h0,h5⟩:=h
 obtain⟨g0,rfl,rfl⟩:=h
 obtain⟨f,t,m,c⟩:=e
 simp only at h0 h5
 have hm:m=0\/m=1\/m=2\/m=3\/m=4:=by omega
 rcases hm with rfl|rfl|rfl|rfl|rfl
 ·obtain⟨v,M',h1,h2,_,h4⟩:=w38_0 f t c hM
  exact⟨v,M',h1,h2,h4⟩
 ·obtain⟨v,M',h1,h2,_,h4⟩:=w38_1 f t c hM
  exact⟨v,M',h1,h2,h4⟩
 ·obtain⟨v,M',h1,h2,_,h4⟩:=w38_2 f t c hM
  exact⟨v,M',h1,h2,h4⟩
 ·obtain⟨v,M',h1,h2,_,h4⟩:=w38_3 f t c hM
  exact⟨v,M',h1,h2,h4⟩
 ·obtain⟨v,M',h1,h2,_,h4⟩:=w38_4 f t c hM
  exact⟨v,M',h1,h2,h4⟩
def Sk:tK->Value
 | .to=> .func (.func 86) #[] #[]
 | .fr=> .func (.func 88) #[] #[]
 | .set=> .func (.func 89) #[] #[]
def pFn(k:tK)(v:Value)(_:aA):Prop:=v=Sk k
instance:AP pFn:=⟨fun{x y _ _} h k=>by unfold pFn at h k;rw[h] at k;cases x<;>cases y<;>first|rfl|(simp [Sk] at k),fun _ h=>h⟩
theorem r34to(r bb o m c i:Nat)(e:E4)(cr:List Value){M M0:aA}(hM:aB M)(X0:Ext M0 M)(hr:M0.next<=r)(gr:M.get r=some ⟨cr,3,1,0,true⟩)(cc0:(decide ((i:Int)<(m:Int)))=true)(hld0:aX Try.prog 37 ⟨bb,o+((i:Int):Int).toNat*4,none⟩ M0=some (.agg ⟨[i64 e.f,i64 e.t,i64 e.m,i64 e.c]⟩))(hof1:0+((i:Int):Int).toNat*1+1<=(cr).length): ∃T1 M',Rd Try.prog [] (q85.loopAt 0) Try.f85.ntmps (fr [(1,(.func (.func 86) ⟨[]⟩ ⟨[]⟩)),(5,(aD r 0 m (m+1))),(11,(aD bb o m c)),(12,(i64 (m:Int))),(13,(i64 (i:Int)))]) M .normal T1 M'/\ [1,5,11,12,13].map T1.get= [some (.func (.func 86) ⟨[]⟩ ⟨[]⟩),some (aD r 0 m (m+1)),some (aD bb o m c),some (i64 (m:Int)),some (i64 (IntKind.wrap .i64 ((i:Int)+(1:Int))))]/\Ext M0 M'/\aB M'/\M'.get r=some ⟨splice cr (0+((i:Int):Int).toNat*1) [i64 e.t],3,1,0,true⟩/\ ∀id k,M.get id=some k->id≠r->M'.get id=some k:=by
 obtain⟨b1,M2,b4,c1,g5,E6,c4⟩:=bG hM ⟨[i64 0,i64 0,i64 0,i64 0],37,4,0,true⟩
 have c6:M0.next<=b1:=by rw[<-b4];exact X0.next
 have a5:r≠b1:=by have:=aA.lt_of_get gr;omega
 have g8:=E6.old gr
 have b6:=X0.trans E6
 obtain⟨a0,d0,a7,a2,b7,a9,c7⟩:=bH (o:=0) (v:=(.agg ⟨[i64 e.f,i64 e.t,i64 e.m,i64 e.c]⟩)) (new:= [i64 e.f,i64 e.t,i64 e.m,i64 e.c]) b6 c6 c4 lS g5 rfl rfl (Nat.zero_le _) (Nat.le_of_ble_eq_true rfl) rfl
 replace a7:a0.get b1=some ⟨[i64 e.f,i64 e.t,i64 e.m,i64 e.c],37,4,0,true⟩:=a7
 have c2:=(a2 _ a5).trans g8
 obtain⟨d1,d2,a4,c9,c5,c0,a3,b0,b5⟩:=aH (x:=e) a9 aAk (⟨_,rfl,rfl⟩)
 have c3:=a3.old c2
 have a6:d1=(i64 e.t):=b5
 subst a6
 have b8:=b7.trans a3
 obtain⟨a1,q33,a8,b3,b9,b2,c8⟩:=bH (o:=0+((i:Int):Int).toNat*1) (v:=(i64 e.t)) (new:=splice cr (0+((i:Int):Int).toNat*1) [i64 e.t]) b8 hr b0 He c3 rfl rfl (Nat.zero_le _) hof1 rfl
 replace a8:a1.get r=some ⟨splice cr (0+((i:Int):Int).toNat*1) [i64 e.t],3,1,0,true⟩:=a8
 have hkp: ∀id k,M.get id=some k->id≠r->a1.get id=some k:=fun id k g h_r=>by
  have g0:=aA.lt_of_get g
  have g:=E6.old g
  have g:=((fun id h _=>a2 id h) id (by omega) (aA.lt_of_get g)).trans g
  have g:=a3.old g
  have g:=((fun id h _=>b3 id h) id h_r (aA.lt_of_get g)).trans g
  exact g
 obtain⟨T1,h1,h2⟩:=Rd.told (tb:=[]) (n:=60) (F:=[aM 2,aM 6,aU 8 (.agg ⟨[i64 e.f,i64 e.t,i64 e.m,i64 e.c]⟩),bL 10 (pt b1 0) M2,lP 14 a0,aU 22 (.agg ⟨[i64 e.f,i64 e.t,i64 e.m,i64 e.c]⟩),bL 24 (i64 e.t) a4,aM 26,lP 28 a1]) aJ aI (fun B=>lO (gF 86 Q86 (gQ _))) (fun _ _=>rfl) (by kernel_rfl) (hk (bT cc0) (hk (qI (i:Int) m (by omega) (by simp at cc0;omega)) (hk (lD (aE X0 hld0)) (hq (.eq (dL Try.prog 37 M) (1,.val (pt b1 0),M2)) (bZ (by rw[<-b4,<-c1];kernel_rfl) Nat.one_ne_zero) (hq (qS 37 b1 0 (.agg ⟨[i64 e.f,i64 e.t,i64 e.m,i64 e.c]⟩) M2 a0) (eF d0) (hq (qL 37 b1 0 a0 (.agg ⟨[i64 e.f,i64 e.t,i64 e.m,i64 e.c]⟩)) (lA ⟨tM,lS⟩ a7 rfl) (hq (qC 86 [.agg ⟨[i64 e.f,i64 e.t,i64 e.m,i64 e.c]⟩] a0 (i64 e.t) a4) (aN rfl c9 c5 c0) (hk (qI (i:Int) m (by omega) (by simp at cc0;omega)) (hq (qS 3 r (0+((i:Int):Int).toNat*1) (i64 e.t) a4 a1) (eF q33) hn)))))))))
 exact⟨T1,a1,h1,h2,b9,b2,a8,hkp⟩
theorem r34x(fv:Value)(r:Nat)(a:Option Addr)(m c i:Nat){M:aA}(cc0:(decide ((i:Int)<(m:Int)))=false): ∃T1,Rd Try.prog [] (q85.loopAt 0) Try.f85.ntmps (fr [(1,fv),(5,(aD r 0 m (m+1))),(11,(.slice a m c)),(12,(i64 (m:Int))),(13,(i64 (i:Int)))]) M (.exit 0) T1 M/\ [5].map T1.get= [some (aD r 0 m (m+1))]:=by
 exact Rd.told (tb:=[]) (n:=60) (F:=[aO 2]) aJ aI (aG Try.prog) (fun _ _=>rfl) (by kernel_rfl) (hk (bF cc0) hn)
theorem r34fr(r bb o m c i:Nat)(e:E4)(cr:List Value){M M0:aA}(hM:aB M)(X0:Ext M0 M)(hr:M0.next<=r)(gr:M.get r=some ⟨cr,3,1,0,true⟩)(cc0:(decide ((i:Int)<(m:Int)))=true)(hld0:aX Try.prog 37 ⟨bb,o+((i:Int):Int).toNat*4,none⟩ M0=some (.agg ⟨[i64 e.f,i64 e.t,i64 e.m,i64 e.c]⟩))(hof1:0+((i:Int):Int).toNat*1+1<=(cr).length): ∃T1 M',Rd Try.prog [] (q85.loopAt 0) Try.f85.ntmps (fr [(1,(.func (.func 88) ⟨[]⟩ ⟨[]⟩)),(5,(aD r 0 m (m+1))),(11,(aD bb o m c)),(12,(i64 (m:Int))),(13,(i64 (i:Int)))]) M .normal T1 M'/\ [1,5,11,12,13].map T1.get= [some (.func (.func 88) ⟨[]⟩ ⟨[]⟩),some (aD r 0 m (m+1)),some (aD bb o m c),some (i64 (m:Int)),some (i64 (IntKind.wrap .i64 ((i:Int)+(1:Int))))]/\Ext M0 M'/\aB M'/\M'.get r=some ⟨splice cr (0+((i:Int):Int).toNat*1) [i64 e.f],3,1,0,true⟩/\ ∀id k,M.get id=some k->id≠r->M'.get id=some k:=by
 obtain⟨b1,M2,b4,c1,g5,E6,c4⟩:=bG hM ⟨[i64 0,i64 0,i64 0,i64 0],37,4,0,true⟩
 have c6:M0.next<=b1:=by rw[<-b4];exact X0.next
 have a5:r≠b1:=by have:=aA.lt_of_get gr;omega
 have g8:=E6.old gr
 have b6:=X0.trans E6
 obtain⟨a0,d0,a7,a2,b7,a9,c7⟩:=bH (o:=0) (v:=(.agg ⟨[i64 e.f,i64 e.t,i64 e.m,i64 e.c]⟩)) (new:= [i64 e.f,i64 e.t,i64 e.m,i64 e.c]) b6 c6 c4 lS g5 rfl rfl (Nat.zero_le _) (Nat.le_of_ble_eq_true rfl) rfl
 replace a7:a0.get b1=some ⟨[i64 e.f,i64 e.t,i64 e.m,i64 e.c],37,4,0,true⟩:=a7
 have c2:=(a2 _ a5).trans g8
 obtain⟨d1,d2,a4,c9,c5,c0,a3,b0,b5⟩:=aH (x:=e) a9 aAl (⟨_,rfl,rfl⟩)
 have c3:=a3.old c2
 have a6:d1=(i64 e.f):=b5
 subst a6
 have b8:=b7.trans a3
 obtain⟨a1,q33,a8,b3,b9,b2,c8⟩:=bH (o:=0+((i:Int):Int).toNat*1) (v:=(i64 e.f)) (new:=splice cr (0+((i:Int):Int).toNat*1) [i64 e.f]) b8 hr b0 He c3 rfl rfl (Nat.zero_le _) hof1 rfl
 replace a8:a1.get r=some ⟨splice cr (0+((i:Int):Int).toNat*1) [i64 e.f],3,1,0,true⟩:=a8
 have hkp: ∀id k,M.get id=some k->id≠r->a1.get id=some k:=fun id k g h_r=>by
  have g0:=aA.lt_of_get g
  have g:=E6.old g
  have g:=((fun id h _=>a2 id h) id (by omega) (aA.lt_of_get g)).trans g
  have g:=a3.old g
  have g:=((fun id h _=>b3 id h) id h_r (aA.lt_of_get g)).trans g
  exact g
 obtain⟨T1,h1,h2⟩:=Rd.told (tb:=[]) (n:=60) (F:=[aM 2,aM 6,aU 8 (.agg ⟨[i64 e.f,i64 e.t,i64 e.m,i64 e.c]⟩),bL 10 (pt b1 0) M2,lP 14 a0,aU 22 (.agg ⟨[i64 e.f,i64 e.t,i64 e.m,i64 e.c]⟩),bL 24 (i64 e.f) a4,aM 26,lP 28 a1]) aJ aI (fun B=>lO (gF 88 Q88 (gQ _))) (fun _ _=>rfl) (by kernel_rfl) (hk (bT cc0) (hk (qI (i:Int) m (by omega) (by simp at cc0;omega)) (hk (lD (aE X0 hld0)) (hq (.eq (dL Try.prog 37 M) (1,.val (pt b1 0),M2)) (bZ (by rw[<-b4,<-c1];kernel_rfl) Nat.one_ne_zero) (hq (qS 37 b1 0 (.agg ⟨[i64 e.f,i64 e.t,i64 e.m,i64 e.c]⟩) M2 a0) (eF d0) (hq (qL 37 b1 0 a0 (.agg ⟨[i64 e.f,i64 e.t,i64 e.m,i64 e.c]⟩)) (lA ⟨tM,lS⟩ a7 rfl) (hq (qC 88 [.agg ⟨[i64 e.f,i64 e.t,i64 e.m,i64 e.c]⟩] a0 (i64 e.f) a4) (aN rfl c9 c5 c0) (hk (qI (i:Int) m (by omega) (by simp at cc0;omega)) (hq (qS 3 r (0+((i:Int):Int).toNat*1) (i64 e.f) a4 a1) (eF q33) hn)))))))))
 exact⟨T1,a1,h1,h2,b9,b2,a8,hkp⟩
theorem Yv(r bb o m c i:Nat)(e:E4)(cr:List Value){M M0:aA}(hM:aB M)(X0:Ext M0 M)(hr:M0.next<=r)(gr:M.get r=some ⟨cr,3,1,0,true⟩)(hok:Dc e)(cc0:(decide ((i:Int)<(m:Int)))=true)(hld0:aX Try.prog 37 ⟨bb,o+((i:Int):Int).toNat*4,none⟩ M0=some (.agg ⟨[i64 e.f,i64 e.t,i64 e.m,i64 e.c]⟩))(hof1:0+((i:Int):Int).toNat*1+1<=(cr).length): ∃T1 M',Rd Try.prog [] (q85.loopAt 0) Try.f85.ntmps (fr [(1,(.func (.func 89) ⟨[]⟩ ⟨[]⟩)),(5,(aD r 0 m (m+1))),(11,(aD bb o m c)),(12,(i64 (m:Int))),(13,(i64 (i:Int)))]) M .normal T1 M'/\ [1,5,11,12,13].map T1.get= [some (.func (.func 89) ⟨[]⟩ ⟨[]⟩),some (aD r 0 m (m+1)),some (aD bb o m c),some (i64 (m:Int)),some (i64 (IntKind.wrap .i64 ((i:Int)+(1:Int))))]/\Ext M0 M'/\aB M'/\M'.get r=some ⟨splice cr (0+((i:Int):Int).toNat*1) [i64 (tN e.m)],3,1,0,true⟩/\ ∀id k,M.get id=some k->id≠r->M'.get id=some k:=by
 obtain⟨b1,M2,b4,c1,g5,E6,c4⟩:=bG hM ⟨[i64 0,i64 0,i64 0,i64 0],37,4,0,true⟩
 have c6:M0.next<=b1:=by rw[<-b4];exact X0.next
 have a5:r≠b1:=by have:=aA.lt_of_get gr;omega
 have g8:=E6.old gr
 have b6:=X0.trans E6
 obtain⟨a0,d0,a7,a2,b7,a9,c7⟩:=bH (o:=0) (v:=(.agg ⟨[i64 e.f,i64 e.t,i64 e.m,i64 e.c]⟩)) (new:= [i64 e.f,i64 e.t,i64 e.m,i64 e.c]) b6 c6 c4 lS g5 rfl rfl (Nat.zero_le _) (Nat.le_of_ble_eq_true rfl) rfl
 replace a7:a0.get b1=some ⟨[i64 e.f,i64 e.t,i64 e.m,i64 e.c],37,4,0,true⟩:=a7
 have c2:=(a2 _ a5).trans g8
 obtain⟨d1,d2,a4,c9,c5,c0,a3,b0,b5⟩:=aH (x:=e) a9 aAm (⟨⟨_,rfl,rfl⟩,hok⟩)
 have c3:=a3.old c2
 have a6:d1=(i64 (tN e.m)):=b5
 subst a6
 have b8:=b7.trans a3
 obtain⟨a1,q33,a8,b3,b9,b2,c8⟩:=bH (o:=0+((i:Int):Int).toNat*1) (v:=(i64 (tN e.m))) (new:=splice cr (0+((i:Int):Int).toNat*1) [i64 (tN e.m)]) b8 hr b0 He c3 rfl rfl (Nat.zero_le _) hof1 rfl
 replace a8:a1.get r=some ⟨splice cr (0+((i:Int):Int).toNat*1) [i64 (tN e.m)],3,1,0,true⟩:=a8
 have hkp: ∀id k,M.get id=some k->id≠r->a1.get id=some k:=fun id k g h_r=>by
  have g0:=aA.lt_of_get g
  have g:=E6.old g
  have g:=((fun id h _=>a2 id h) id (by omega) (aA.lt_of_get g)).trans g
  have g:=a3.old g
  have g:=((fun id h _=>b3 id h) id h_r (aA.lt_of_get g)).trans g
  exact g
 obtain⟨T1,h1,h2⟩:=Rd.told (tb:=[]) (n:=60) (F:=[aM 2,aM 6,aU 8 (.agg ⟨[i64 e.f,i64 e.t,i64 e.m,i64 e.c]⟩),bL 10 (pt b1 0) M2,lP 14 a0,aU 22 (.agg ⟨[i64 e.f,i64 e.t,i64 e.m,i64 e.c]⟩),bL 24 (i64 (tN e.m)) a4,aM 26,lP 28 a1]) aJ aI (fun B=>lO (gF 89 Q89 (gQ _))) (fun _ _=>rfl) (by kernel_rfl) (hk (bT cc0) (hk (qI (i:Int) m (by omega) (by simp at cc0;omega)) (hk (lD (aE X0 hld0)) (hq (.eq (dL Try.prog 37 M) (1,.val (pt b1 0),M2)) (bZ (by rw[<-b4,<-c1];kernel_rfl) Nat.one_ne_zero) (hq (qS 37 b1 0 (.agg ⟨[i64 e.f,i64 e.t,i64 e.m,i64 e.c]⟩) M2 a0) (eF d0) (hq (qL 37 b1 0 a0 (.agg ⟨[i64 e.f,i64 e.t,i64 e.m,i64 e.c]⟩)) (lA ⟨tM,lS⟩ a7 rfl) (hq (qC 89 [.agg ⟨[i64 e.f,i64 e.t,i64 e.m,i64 e.c]⟩] a0 (i64 (tN e.m)) a4) (aN rfl c9 c5 c0) (hk (qI (i:Int) m (by omega) (by simp at cc0;omega)) (hq (qS 3 r (0+((i:Int):Int).toNat*1) (i64 (tN e.m)) a4 a1) (eF q33) hn)))))))))
 exact⟨T1,a1,h1,h2,b9,b2,a8,hkp⟩
theorem r34(k:tK)(r bb o m c i:Nat)(e:E4)(cr:List Value){M M0:aA}(hM:aB M)(X0:Ext M0 M)(hr:M0.next<=r)(gr:M.get r=some ⟨cr,3,1,0,true⟩)(hok:Dc e)(hi:i<m)(hl:i<cr.length)(hld:aX Try.prog 37 ⟨bb,o+(i:Int).toNat*4,none⟩ M0=some (.agg ⟨kL e⟩)):
  ∃T1 M',Rd Try.prog [] (q85.loopAt 0) Try.f85.ntmps (fr [(1,Sk k),(5,aD r 0 m (m+1)),(11,aD bb o m c),(12,i64 m),(13,i64 i)]) M .normal T1 M'/\ [1,5,11,12,13].map T1.get= [some (Sk k),some (aD r 0 m (m+1)),some (aD bb o m c),some (i64 m),some (i64 (IntKind.wrap .i64 ((i:Int)+1)))]/\Ext M0 M'/\aB M'/\M'.get r=some ⟨splice cr i [i64 (dB k e)],3,1,0,true⟩:=by
 have e0:0+(i:Int).toNat*1=i:=by simp
 cases k
 ·obtain⟨T1,M',h1,h2,h3,h4,h5,_⟩:=r34to r bb o m c i e cr hM X0 hr gr (decide_eq_true (by omega)) hld (by rw[e0];omega)
  rw[e0] at h5
  exact⟨T1,M',h1,h2,h3,h4,h5⟩
 ·obtain⟨T1,M',h1,h2,h3,h4,h5,_⟩:=r34fr r bb o m c i e cr hM X0 hr gr (decide_eq_true (by omega)) hld (by rw[e0];omega)
  rw[e0] at h5
  exact⟨T1,M',h1,h2,h3,h4,h5⟩
 ·obtain⟨T1,M',h1,h2,h3,h4,h5,_⟩:=Yv r bb o m c i e cr hM X0 hr gr hok (decide_eq_true (by omega)) hld (by rw[e0];omega)
  rw[e0] at h5
  exact⟨T1,M',h1,h2,h3,h4,h5⟩
theorem Vx(k:tK){a:Option Addr}{c r:Nat}{l:List E4}{M0 M:aA}(hM:aB M)(X:Ext M0 M)(hs:zO M0 (.slice a l.length c) l)(hok: ∀e∈l,Dc e)(hr:M0.next<=r)(gr:M.get r=some ⟨List.replicate l.length (i64 0),3,1,0,true⟩):
  ∃M',bJ Try.prog [] (q85.loopAt 0) Try.f85.ntmps (fr [(1,Sk k),(5,aD r 0 l.length (l.length+1)),(11,.slice a l.length c),(12,i64 l.length),(13,i64 ((0:Nat):Int))]) M (.exit 0) (fr [(5,aD r 0 l.length (l.length+1))]) M'/\Ext M0 M'/\aB M'/\M'.get r=some ⟨(l.map (dB k)).map i64,3,1,0,true⟩:=by
 have hlen:=hs.len
 have hxl:((l.map (dB k)).map i64).length=l.length:=by simp
 obtain⟨_,M',h1,h2,h3,h4⟩:=bJ.for (P:=Try.prog) (GL:= []) (b:=q85.loopAt 0) (nt:=Try.f85.ntmps) (id:=0) (σ:=Unit) (n:=l.length) (Inv:=fun i _ M1=>Ext M0 M1/\aB M1/\M1.get r=some ⟨rI ((l.map (dB k)).map i64) i (i64 0),3,1,0,true⟩)
  (F:=fun i _=> [(1,Sk k),(5,aD r 0 l.length (l.length+1)),(11,.slice a l.length c),(12,i64 l.length),(13,i64 ((i:Nat):Int))])
  (O:=fun _=> [(5,aD r 0 l.length (l.length+1))])
  (by
   rintro i _ M1 hi ⟨X1,a0,a1⟩
   obtain⟨bb,o,rfl,_⟩:=cD hs (by omega)
   have ht:l[i]?=some l[i]:=List.getElem?_eq_getElem hi
   obtain⟨T1,M2,h1,h2,h3,h4,h5⟩:=r34 k r bb o l.length c i l[i] _ a0 X1 hr a1 (hok _ (List.getElem_mem hi)) hi (by rw[sU _ _ (by omega)];omega) (uV (P:=Try.prog) (ty:=37) hs ht tM lS)
   rw[aY (by omega)] at h2
   rw[uR (by simp [ht])] at h5
   exact⟨(),T1,M2,h1,h2,h3,h4,h5⟩)
  (by
   rintro _ M1 ⟨X1,a0,a1⟩
   exact r34x (Sk k) r a l.length c l.length (M:=M1) (decide_eq_false (by omega)))
  l.length 0 (by omega) (s:=()) (M:=M) ⟨X,hM,by rw[uS,hxl];exact gr⟩
 refine⟨M',h1,h2,h3,?_⟩
 have:=xJ ((l.map (dB k)).map i64) (i64 0)
 rw[hxl] at this
 rw[this] at h4
 exact h4
theorem rK85:Try.f85.results= #[.tmp 4]:=by kernel_rfl
theorem w34(al:Option Addr)(cl:Nat)(l:List E4)(k:tK){M:aA}(hM:aB M)(hl:aV l (.slice al l.length cl) M)(hcond:l.length<=400/\ ∀e∈l,Dc e): ∃v M',Ev Try.prog [] 85 [.slice al l.length cl,Sk k] M v M'/\Ext M M'/\aB M'/\fG aP (l.map (dB k)) M.next v M':=by
 obtain⟨b1,M2,a4,a5,g5,E6,a7⟩:=yW (P:=Try.prog) (t:=22) (elem:=3) (z:=(i64 0)) (n:=l.length) hM (by kernel_rfl) (by kernel_rfl) (by have:=hcond.1;omega)
 have a2:M.next<=b1:=by rw[<-a4];exact(Ext.refl M).next
 have X8:=(Ext.refl M).trans E6
 obtain⟨M9,a0,a3,a1,a6⟩:=Vx k a7 X8 hl hcond.2 a2 g5
 exact⟨aD b1 0 l.length (l.length+1),M9,Ev.told_tmp (tb:=[0]) (n:=60) (F:=[aM 5,bL 7 (aD b1 0 l.length (l.length+1)) M2,aM 13,.blk 16 [1,5,11,12,13] .normal (fr [(5,(aD b1 0 l.length (l.length+1)))]) M9]) aJ aI Try.func85 Yd (by kernel_rfl) rK85 (fun B=>zN (gQ B) 0 a0) (fun _ h=>cF h) (by kernel_rfl) (hk (lN hl.ln) (hq (.eq (cB Try.prog 22 (i64 (l.length:Int)) (i64 (l.length:Int)) M) (1,.val (aD b1 0 l.length (l.length+1)),M2)) (bZ a5 Nat.one_ne_zero) (hk (lN hl.ln) (hq (.blk 0 (.loop (q85.loopAt 0)) Try.f85.ntmps [1,5,11,12,13] [some (Sk k),some (aD b1 0 l.length (l.length+1)),some (.slice al l.length cl),some (i64 (l.length:Int)),some (i64 0)] M2 .normal (fr [(5,(aD b1 0 l.length (l.length+1)))]) M9) (fH rfl) hn)))),a3,a1,aK.of_blk' (b:=b1) (w:=1) (g:=Lg) (iZ a2 a6) (List.length_map _) (by simp [vX,List.map_map,Function.comp_def]) (fun _ _=>rfl) (by have:=hl.len;simpa using this)⟩
abbrev Q85:=FC (iG (mG aV pFn) (fun x=>x.1.length<=400/\ ∀e∈x.1,Dc e)) (fG aP) (fun x=>x.1.map (dB x.2))
theorem Pr{x:(List E4)×(tK)}{lv:List Value}{M:aA}(hM:aB M)(h:(iG (mG aV pFn) (fun x=>x.1.length<=400/\ ∀e∈x.1,Dc e)) x lv M): ∃v M',lQ Try.prog [] 85 Q85 lv M v M':=by
 refine FC.con h ?_
 obtain⟨h,hcond⟩:=h
 obtain⟨l,k⟩:=x
 obtain⟨g0,g1,rfl,k0,k1⟩:=h
 obtain⟨al,cl,rfl⟩:=aK.form k0
 have hl:=k0
 obtain rfl:=k1
 obtain⟨v,M',h1,h2,_,h3⟩:=w34 al cl l k hM hl hcond
 exact⟨v,M',h1,h2,h3⟩
end Go.Proofs.Ytdaglldahidmbaa
