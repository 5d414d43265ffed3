/-
  Package hier: each of its laws for every argument; no conditions. The last text states which.
-/
import Derived.Test.YtdaglldahidmbaaGreatGAmPw
import Derived.Test.YtdaglldahidmbaaGreatGVB
set_option linter.unusedVariables false
set_option linter.unusedSimpArgs false
open Go Go.Am Go.Proofs Tryz
namespace Go.Proofs.YtdaglldahidmbaaGreat
set_option maxRecDepth 100000
theorem bU:(prog.underlying 3).map eC=some false:=by kernel_rfl
theorem Et:(prog.info? 3).map (·.size)=some 1:=by kernel_rfl
theorem rK82:Tryz.f82.results= #[.tmp 4]:=by kernel_rfl
theorem w46_0(x:Int)(n:Int){M:aB}(hM:aA M)(a0:(decide (x>=(0:Int)))=true):∃v M',Ev prog [] 82 [i64 x,i64 n] M v M'/\Ext M M'/\aA M'/\v=(.bool (decide (x<n))):=by exact⟨.bool (decide (x<n)),M,kA 60 [aI 8,aI 10,aI 12,aI 15] Tryz.func82 Ui rK82 (aD prog) (hw (bT a0) (hw (bT a0) hn)),Ext.refl M,hM,rfl⟩
theorem w46_1(x:Int)(n:Int){M:aB}(hM:aA M)(cc0:(decide (x>=(0:Int)))=false):∃v M',Ev prog [] 82 [i64 x,i64 n] M v M'/\Ext M M'/\aA M'/\v=(.bool false):=by exact⟨.bool false,M,kA 60 [aZ 8,aZ 10,aZ 12,aZ 15] Tryz.func82 Ui rK82 (aD prog) (hw (bF cc0) (hw (bF cc0) hn)),Ext.refl M,hM,rfl⟩
theorem Xb(x:Int)(n:Int){M:aB}(hM:aA M):∃v M',Ev prog [] 82 [i64 x,i64 n] M v M'/\Ext M M'/\aA M'/\v= .bool (gH x n):=by
 cases a0:(decide (x>=(0:Int))) with
 |true=>
  obtain⟨v,M1,h1,h2,h3,h4⟩:=w46_0 x n hM a0
  refine⟨v,M1,h1,h2,h3,?_⟩
  subst h4
  first|rfl|(simp only [gH,a0,cond_true,cond_false,Bool.true_and,Bool.false_and,Bool.and_true,Bool.and_false,Bool.true_or,Bool.false_or,Bool.or_true,Bool.or_false,Bool.not_true,Bool.not_false];done)|(simp only [gH,a0,cond_true,cond_false,Bool.true_and,Bool.false_and,Bool.and_true,Bool.and_false,Bool.true_or,Bool.false_or,Bool.or_true,Bool.or_false,Bool.not_true,Bool.not_false]<;>rfl)|(simp_all [gH];done)
 |false=>
  obtain⟨v,M1,h1,h2,h3,h4⟩:=w46_1 x n hM a0
  refine⟨v,M1,h1,h2,h3,?_⟩
  subst h4
  first|rfl|(simp only [gH,a0,cond_true,cond_false,Bool.true_and,Bool.false_and,Bool.and_true,Bool.and_false,Bool.true_or,Bool.false_or,Bool.or_true,Bool.or_false,Bool.not_true,Bool.not_false];done)|(simp only [gH,a0,cond_true,cond_false,Bool.true_and,Bool.false_and,Bool.and_true,Bool.and_false,Bool.true_or,Bool.false_or,Bool.or_true,Bool.or_false,Bool.not_true,Bool.not_false]<;>rfl)|(simp_all [gH];done)
abbrev Q82:=FC (lT pI pI) (plain pB) (fun x=>gH x.1 x.2)
theorem Fz{x:(Int)×(Int)}{lv:List Value}{M:aB}(hM:aA M)(h:(lT pI pI) x lv M):∃v M',lK prog [] 82 Q82 lv M v M':=by refine FC.con h ?_;obtain⟨x,n⟩:=x;obtain⟨g0,g1,rfl,k0,k1⟩:=h;obtain rfl:=k0;obtain rfl:=k1;obtain⟨v,M',h1,h2,_,h3⟩:=Xb x n hM;exact⟨v,M',h1,h2,h3⟩
theorem Un:Tryz.f49.results= #[.tmp 4]:=by kernel_rfl
theorem Br(e:E4)(n:Int){M:aB}(hM:aA M)(a1:(gH e.f n)=true):(∀(cc1:(gH e.t n)=true)(cc2:(gH e.m 5)=true)(cc3:(decide (e.c>=(0:Int)))=true),∃v M',Ev prog [] 49 [.agg ⟨(cJ e)⟩,i64 n] M v M'/\Ext M M'/\aA M'/\v=(.bool (decide (e.c<=(2147483647:Int)))))/\(∀(cc1:(gH e.t n)=true)(cc2:(gH e.m 5)=true)(cc3:(decide (e.c>=(0:Int)))=false),∃v M',Ev prog [] 49 [.agg ⟨(cJ e)⟩,i64 n] M v M'/\Ext M M'/\aA M'/\v=(.bool false))/\(∀(cc1:(gH e.t n)=true)(cc2:(gH e.m 5)=false),∃v M',Ev prog [] 49 [.agg ⟨(cJ e)⟩,i64 n] M v M'/\Ext M M'/\aA M'/\v=(.bool false))/\(∀(cc1:(gH e.t n)=false),∃v M',Ev prog [] 49 [.agg ⟨(cJ e)⟩,i64 n] M v M'/\Ext M M'/\aA M'/\v=(.bool false)):=by
 obtain⟨b1,M2,c3,c4,g5,E6,d5⟩:=bG hM ⟨(cJ e),46,4,0,true⟩;have X9:=(Ext.refl M).trans E6;obtain⟨w10,d6,b9,c8,c6,c1,d2,d1,d4⟩:=aJ (x:=(e.f,n)) d5 Fz (⟨_,_,rfl,rfl,rfl⟩);have a9:=d2.old g5;have d0:w10=(.bool (gH e.f n)):=d4;subst d0;have c0:=X9.trans d2;obtain⟨w22,d7,b3,c9,c7,c2,a6,a4,b8⟩:=aJ (x:=(e.t,n)) d1 Fz (⟨_,_,rfl,rfl,rfl⟩);refine⟨?_,?_,?_,?_⟩
 ·intro cc1 cc2 cc3;have b0:=a6.old a9;have a0:w22=(.bool (gH e.t n)):=b8;subst a0;have a8:=c0.trans a6;obtain⟨w34,d3,a5,b7,b6,b5,a7,a3,b2⟩:=aJ (x:=(e.m,5)) a4 Fz (⟨_,_,rfl,rfl,rfl⟩);have c5:=a7.old b0;have a2:w34=(.bool (gH e.m 5)):=b2;subst a2;have b4:=a8.trans a7;exact⟨.bool (decide (e.c<=(2147483647:Int))),a5,kA 60 [bL 1 (pt b1 0) M2,aL 7 (i64 e.f),bL 11 (.bool (gH e.f n)) b9,aI 14,aI 16,aL 17 (i64 e.t),aI 18,aI 20,bL 21 (.bool (gH e.t n)) b3,aI 23,aI 26,aI 28,aL 29 (i64 e.m),aI 30,bL 31 (.bool (gH e.m 5)) a5,aI 33,aI 36,aI 38,aL 39 (i64 e.c),aI 40,aI 43,aI 46,aI 48,aL 49 (i64 e.c),aI 50,aI 53] Tryz.func49 Dx Un (fun B=>jL (fH 82 Q82 (eZ _))) (hk (qE (fE prog 46 (.agg ⟨(cJ e)⟩)) c3 c4 (by kernel_rfl)) (hk (lO 0 bU g5 rfl) (hk (qc 82 c1 c8 c6) (hw (bT a1) (hk (lO 1 bU a9 rfl) (hw (bT a1) (hk (qc 82 c2 c9 c7) (hk (bT a1) (hw (bT cc1) (hk (lO 2 bU b0 rfl) (hk (bT cc1) (hk (qc 82 b5 b7 b6) (hk (bT cc1) (hw (bT cc2) (hk (lO 3 bU c5 rfl) (hw (bT cc2) (hw (bT cc3) (hk (lO 3 bU c5 rfl) (hw (bT cc3) hn))))))))))))))))))),b4,a3,rfl⟩
 ·intro cc1 cc2 cc3;have b0:=a6.old a9;have a0:w22=(.bool (gH e.t n)):=b8;subst a0;have a8:=c0.trans a6;obtain⟨w34,d3,a5,b7,b6,b5,a7,a3,b2⟩:=aJ (x:=(e.m,5)) a4 Fz (⟨_,_,rfl,rfl,rfl⟩);have c5:=a7.old b0;have a2:w34=(.bool (gH e.m 5)):=b2;subst a2;have b4:=a8.trans a7;exact⟨.bool false,a5,kA 60 [bL 1 (pt b1 0) M2,aL 7 (i64 e.f),bL 11 (.bool (gH e.f n)) b9,aI 14,aI 16,aL 17 (i64 e.t),aI 18,aI 20,bL 21 (.bool (gH e.t n)) b3,aI 23,aI 26,aI 28,aL 29 (i64 e.m),aI 30,bL 31 (.bool (gH e.m 5)) a5,aI 33,aI 36,aI 38,aL 39 (i64 e.c),aI 40,aI 43,aZ 46,aZ 48,aZ 50,aZ 53] Tryz.func49 Dx Un (fun B=>jL (fH 82 Q82 (eZ _))) (hk (qE (fE prog 46 (.agg ⟨(cJ e)⟩)) c3 c4 (by kernel_rfl)) (hk (lO 0 bU g5 rfl) (hk (qc 82 c1 c8 c6) (hw (bT a1) (hk (lO 1 bU a9 rfl) (hw (bT a1) (hk (qc 82 c2 c9 c7) (hk (bT a1) (hw (bT cc1) (hk (lO 2 bU b0 rfl) (hk (bT cc1) (hk (qc 82 b5 b7 b6) (hk (bT cc1) (hw (bT cc2) (hk (lO 3 bU c5 rfl) (hw (bT cc2) (hw (bF cc3) (hw (bF cc3) hn)))))))))))))))))),b4,a3,rfl⟩
 ·intro cc1 cc2;have b0:=a6.old a9;have a0:w22=(.bool (gH e.t n)):=b8;subst a0;have a8:=c0.trans a6;obtain⟨w34,d3,a5,b7,b6,b5,a7,a3,b2⟩:=aJ (x:=(e.m,5)) a4 Fz (⟨_,_,rfl,rfl,rfl⟩);have a2:w34=(.bool (gH e.m 5)):=b2;subst a2;have b4:=a8.trans a7;exact⟨.bool false,a5,kA 60 [bL 1 (pt b1 0) M2,aL 7 (i64 e.f),bL 11 (.bool (gH e.f n)) b9,aI 14,aI 16,aL 17 (i64 e.t),aI 18,aI 20,bL 21 (.bool (gH e.t n)) b3,aI 23,aI 26,aI 28,aL 29 (i64 e.m),aI 30,bL 31 (.bool (gH e.m 5)) a5,aI 33,aZ 36,aZ 38,aZ 40,aZ 43] Tryz.func49 Dx Un (fun B=>jL (fH 82 Q82 (eZ _))) (hk (qE (fE prog 46 (.agg ⟨(cJ e)⟩)) c3 c4 (by kernel_rfl)) (hk (lO 0 bU g5 rfl) (hk (qc 82 c1 c8 c6) (hw (bT a1) (hk (lO 1 bU a9 rfl) (hw (bT a1) (hk (qc 82 c2 c9 c7) (hk (bT a1) (hw (bT cc1) (hk (lO 2 bU b0 rfl) (hk (bT cc1) (hk (qc 82 b5 b7 b6) (hk (bT cc1) (hw (bF cc2) (hw (bF cc2) hn))))))))))))))),b4,a3,rfl⟩
 ·intro cc1;have a0:w22=(.bool (gH e.t n)):=b8;subst a0;have a8:=c0.trans a6;exact⟨.bool false,b3,kA 60 [bL 1 (pt b1 0) M2,aL 7 (i64 e.f),bL 11 (.bool (gH e.f n)) b9,aI 14,aI 16,aL 17 (i64 e.t),aI 18,aI 20,bL 21 (.bool (gH e.t n)) b3,aI 23,aZ 26,aZ 28,aZ 30,aZ 33] Tryz.func49 Dx Un (fun B=>jL (fH 82 Q82 (eZ _))) (hk (qE (fE prog 46 (.agg ⟨(cJ e)⟩)) c3 c4 (by kernel_rfl)) (hk (lO 0 bU g5 rfl) (hk (qc 82 c1 c8 c6) (hw (bT a1) (hk (lO 1 bU a9 rfl) (hw (bT a1) (hk (qc 82 c2 c9 c7) (hk (bT a1) (hw (bF cc1) (hw (bF cc1) hn)))))))))),a8,a4,rfl⟩
theorem w40_4(e:E4)(n:Int){M:aB}(hM:aA M)(a0:(gH e.f n)=false):∃v M',Ev prog [] 49 [.agg ⟨(cJ e)⟩,i64 n] M v M'/\Ext M M'/\aA M'/\v=(.bool false):=by obtain⟨b1,M2,a8,a9,g5,E6,b0⟩:=bG hM ⟨(cJ e),46,4,0,true⟩;have X9:=(Ext.refl M).trans E6;obtain⟨w10,b4,a3,b3,b2,a7,a4,a2,a5⟩:=aJ (x:=(e.f,n)) b0 Fz (⟨_,_,rfl,rfl,rfl⟩);have a1:w10=(.bool (gH e.f n)):=a5;subst a1;have a6:=X9.trans a4;exact⟨.bool false,a3,kA 60 [bL 1 (pt b1 0) M2,aL 7 (i64 e.f),bL 11 (.bool (gH e.f n)) a3,aZ 14,aZ 16,aZ 18,aZ 20,aZ 23] Tryz.func49 Dx Un (fun B=>jL (fH 82 Q82 (eZ _))) (hk (qE (fE prog 46 (.agg ⟨(cJ e)⟩)) a8 a9 (by kernel_rfl)) (hk (lO 0 bU g5 rfl) (hk (qc 82 a7 b3 b2) (hw (bF a0) (hw (bF a0) (hk (bF a0) hn)))))),a6,a2,rfl⟩
theorem Xa(e:E4)(n:Int){M:aB}(hM:aA M):∃v M',Ev prog [] 49 [.agg ⟨(cJ e)⟩,i64 n] M v M'/\Ext M M'/\aA M'/\v= .bool (iW n e):=by
 cases a0:(gH e.f n) with
 |true=>
  cases a1:(gH e.t n) with
  |true=>
   cases a2:(gH e.m 5) with
   |true=>
    cases a3:(decide (e.c>=(0:Int))) with
    |true=>
     obtain⟨v,M1,h1,h2,h3,h4⟩:=(Br e n hM a0).1 a1 a2 a3
     refine⟨v,M1,h1,h2,h3,?_⟩
     subst h4
     first|rfl|(simp only [iW,a0,a1,a2,a3,cond_true,cond_false,Bool.true_and,Bool.false_and,Bool.and_true,Bool.and_false,Bool.true_or,Bool.false_or,Bool.or_true,Bool.or_false,Bool.not_true,Bool.not_false];done)|(simp only [iW,a0,a1,a2,a3,cond_true,cond_false,Bool.true_and,Bool.false_and,Bool.and_true,Bool.and_false,Bool.true_or,Bool.false_or,Bool.or_true,Bool.or_false,Bool.not_true,Bool.not_false]<;>rfl)|(simp_all [iW];done)
    |false=>
     obtain⟨v,M1,h1,h2,h3,h4⟩:=(Br e n hM a0).2.1 a1 a2 a3
     refine⟨v,M1,h1,h2,h3,?_⟩
     subst h4
     first|rfl|(simp only [iW,a0,a1,a2,a3,cond_true,cond_false,Bool.true_and,Bool.false_and,Bool.and_true,Bool.and_false,Bool.true_or,Bool.false_or,Bool.or_true,Bool.or_false,Bool.not_true,Bool.not_false];done)|(simp only [iW,a0,a1,a2,a3,cond_true,cond_false,Bool.true_and,Bool.false_and,Bool.and_true,Bool.and_false,Bool.true_or,Bool.false_or,Bool.or_true,Bool.or_false,Bool.not_true,Bool.not_false]<;>rfl)|(simp_all [iW];done)
   |false=>
    obtain⟨v,M1,h1,h2,h3,h4⟩:=(Br e n hM a0).2.2.1 a1 a2
    refine⟨v,M1,h1,h2,h3,?_⟩
    subst h4
    first|rfl|(simp only [iW,a0,a1,a2,cond_true,cond_false,Bool.true_and,Bool.false_and,Bool.and_true,Bool.and_false,Bool.true_or,Bool.false_or,Bool.or_true,Bool.or_false,Bool.not_true,Bool.not_false];done)|(simp only [iW,a0,a1,a2,cond_true,cond_false,Bool.true_and,Bool.false_and,Bool.and_true,Bool.and_false,Bool.true_or,Bool.false_or,Bool.or_true,Bool.or_false,Bool.not_true,Bool.not_false]<;>rfl)|(simp_all [iW];done)
  |false=>
   obtain⟨v,M1,h1,h2,h3,h4⟩:=(Br e n hM a0).2.2.2 a1
   refine⟨v,M1,h1,h2,h3,?_⟩
   subst h4
   first|rfl|(simp only [iW,a0,a1,cond_true,cond_false,Bool.true_and,Bool.false_and,Bool.and_true,Bool.and_false,Bool.true_or,Bool.false_or,Bool.or_true,Bool.or_false,Bool.not_true,Bool.not_false];done)|(simp only [iW,a0,a1,cond_true,cond_false,Bool.true_and,Bool.false_and,Bool.and_true,Bool.and_false,Bool.true_or,Bool.false_or,Bool.or_true,Bool.or_false,Bool.not_true,Bool.not_false]<;>rfl)|(simp_all [iW];done)
 |false=>
  obtain⟨v,M1,h1,h2,h3,h4⟩:=w40_4 e n hM a0
  refine⟨v,M1,h1,h2,h3,?_⟩
  subst h4
  first|rfl|(simp only [iW,a0,cond_true,cond_false,Bool.true_and,Bool.false_and,Bool.and_true,Bool.and_false,Bool.true_or,Bool.false_or,Bool.or_true,Bool.or_false,Bool.not_true,Bool.not_false];done)|(simp only [iW,a0,cond_true,cond_false,Bool.true_and,Bool.false_and,Bool.and_true,Bool.and_false,Bool.true_or,Bool.false_or,Bool.or_true,Bool.or_false,Bool.not_true,Bool.not_false]<;>rfl)|(simp_all [iW];done)
abbrev Q49:=FC (lT pE pI) (plain pB) (fun x=>iW x.2 x.1)
theorem con49{x:(E4)×(Int)}{lv:List Value}{M:aB}(hM:aA M)(h:(lT pE pI) x lv M):∃v M',lK prog [] 49 Q49 lv M v M':=by refine FC.con h ?_;obtain⟨e,n⟩:=x;obtain⟨g0,g1,rfl,k0,k1⟩:=h;obtain rfl:=k0;obtain rfl:=k1;obtain⟨v,M',h1,h2,_,h3⟩:=Xa e n hM;exact⟨v,M',h1,h2,h3⟩
theorem rK48:Tryz.f48.results= #[.tmp 2]:=by kernel_rfl
theorem w39_0(n:Int){M:aB}(hM:aA M)(a0:(decide (n>=(1:Int)))=true):∃v M',Ev prog [] 48 [i64 n] M v M'/\Ext M M'/\aA M'/\v=(.bool (decide (n<=(60:Int)))):=by exact⟨.bool (decide (n<=(60:Int))),M,kA 60 [aI 8,aI 10,aI 13] Tryz.func48 Uc rK48 (aD prog) (hw (bT a0) (hk (bT a0) hn)),Ext.refl M,hM,rfl⟩
theorem w39_1(n:Int){M:aB}(hM:aA M)(cc0:(decide (n>=(1:Int)))=false):∃v M',Ev prog [] 48 [i64 n] M v M'/\Ext M M'/\aA M'/\v=(.bool false):=by exact⟨.bool false,M,kA 60 [aZ 8,aZ 10,aZ 13] Tryz.func48 Uc rK48 (aD prog) (hw (bF cc0) (hk (bF cc0) hn)),Ext.refl M,hM,rfl⟩
theorem Wz(n:Int){M:aB}(hM:aA M):∃v M',Ev prog [] 48 [i64 n] M v M'/\Ext M M'/\aA M'/\v= .bool (iB n):=by
 cases a0:(decide (n>=(1:Int))) with
 |true=>
  obtain⟨v,M1,h1,h2,h3,h4⟩:=w39_0 n hM a0
  refine⟨v,M1,h1,h2,h3,?_⟩
  subst h4
  first|rfl|(simp only [iB,a0,cond_true,cond_false,Bool.true_and,Bool.false_and,Bool.and_true,Bool.and_false,Bool.true_or,Bool.false_or,Bool.or_true,Bool.or_false,Bool.not_true,Bool.not_false];done)|(simp only [iB,a0,cond_true,cond_false,Bool.true_and,Bool.false_and,Bool.and_true,Bool.and_false,Bool.true_or,Bool.false_or,Bool.or_true,Bool.or_false,Bool.not_true,Bool.not_false]<;>rfl)|(simp_all [iB];done)
 |false=>
  obtain⟨v,M1,h1,h2,h3,h4⟩:=w39_1 n hM a0
  refine⟨v,M1,h1,h2,h3,?_⟩
  subst h4
  first|rfl|(simp only [iB,a0,cond_true,cond_false,Bool.true_and,Bool.false_and,Bool.and_true,Bool.and_false,Bool.true_or,Bool.false_or,Bool.or_true,Bool.or_false,Bool.not_true,Bool.not_false];done)|(simp only [iB,a0,cond_true,cond_false,Bool.true_and,Bool.false_and,Bool.and_true,Bool.and_false,Bool.true_or,Bool.false_or,Bool.or_true,Bool.or_false,Bool.not_true,Bool.not_false]<;>rfl)|(simp_all [iB];done)
abbrev Q48:=FC (tK pI) (plain pB) (fun x=>iB x)
theorem Ov{n:(Int)}{lv:List Value}{M:aB}(hM:aA M)(h:(tK pI) n lv M):∃v M',lK prog [] 48 Q48 lv M v M':=by refine FC.con h ?_;obtain⟨g0,rfl,k0⟩:=h;obtain rfl:=k0;obtain⟨v,M',h1,h2,_,h3⟩:=Wz n hM;exact⟨v,M',h1,h2,h3⟩
open Tryz
theorem cY:(prog.underlying 24).map eC=some false:=by kernel_rfl
theorem Qa:(prog.info? 24).map (·.size)=some 1:=by kernel_rfl
theorem sV:(prog.underlying 46).map eC=some true:=by kernel_rfl
theorem mO:(prog.info? 46).map (·.size)=some 4:=by kernel_rfl
theorem Pg(b bb o m c i:Nat)(n:Int)(e:E4){M M0:aB}(hM:aA M)(X0:Ext M0 M)(gb:M.get b=some ⟨[i64 n,aC bb o m c],26,2,0,true⟩)(a4:(decide ((i:Int)<(m:Int)))=true):(∀(cc1:(iW n e)=true)(hld0:bA prog 46 ⟨bb,o+((i:Int):Int).toNat*4,none⟩ M0=some (.agg ⟨(cJ e)⟩)),∃T1 M',Rd prog [] (q24.loopAt 0) Tryz.f24.ntmps (fr [(1,(pt b 0)),(16,(aC bb o m c)),(17,(i64 (m:Int))),(18,(i64 (i:Int)))]) M .normal T1 M'/\[1,16,17,18].map T1.get=[some (pt b 0),some (aC bb o m c),some (i64 (m:Int)),some (i64 (IntKind.wrap .i64 ((i:Int)+(1:Int))))]/\Ext M0 M'/\aA M'/\M'.get b=some ⟨[i64 n,aC bb o m c],26,2,0,true⟩/\∀id k,M.get id=some k->id≠b->M'.get id=some k)/\(∀(cc1:(iW n e)=false)(hld0:bA prog 46 ⟨bb,o+((i:Int):Int).toNat*4,none⟩ M0=some (.agg ⟨(cJ e)⟩)),∃T1 M',Rd prog [] (q24.loopAt 0) Tryz.f24.ntmps (fr [(1,(pt b 0)),(16,(aC bb o m c)),(17,(i64 (m:Int))),(18,(i64 (i:Int)))]) M .ret T1 M'/\[2].map T1.get=[some (.bool false)]/\Ext M0 M'/\aA M'/\M'.get b=some ⟨[i64 n,aC bb o m c],26,2,0,true⟩/\∀id k,M.get id=some k->id≠b->M'.get id=some k):=by
 obtain⟨b1,M2,a5,b4,g5,E6,c3⟩:=bG hM ⟨[i64 0,i64 0,i64 0,i64 0],46,4,0,true⟩;have c4:=kN a5 X0;have a7:=dL gb a5;have g8:=E6.old gb;have c1:=X0.trans E6;obtain⟨a3,q12,b5,a2,c2,b0,c5⟩:=aX (o:=0) (v:=(.agg ⟨(cJ e)⟩)) (new:=(cJ e)) c1 c4 c3 mO g5 rfl rfl (Nat.zero_le _) (xAd rfl) rfl;have a9:=(a2 _ a7).trans g8;obtain⟨c6,c7,a0,b9,b8,b3,a6,a1,c0⟩:=aJ (x:=(e,n)) b0 con49 (⟨_,_,rfl,rfl,rfl⟩);have b6:=a6.old a9;have a8:c6=(.bool (iW n e)):=c0;subst a8;have b2:=c2.trans a6;have b7:∀id k,M.get id=some k->id≠b->a0.get id=some k:=fun id k g h_b=>by
  have g0:=aB.lt_of_get g;have g:=E6.old g;have g:=((fun id h _=>a2 id h) id (by omega) (aB.lt_of_get g)).trans g;have g:=a6.old g;exact g
 refine⟨?_,?_⟩
 ·intro cc1 hld0;obtain⟨T1,h1,h2⟩:=eG 60 [aI 2,aI 4,aL 6 (.agg ⟨(cJ e)⟩),bL 8 (pt b1 0) M2,iP 10 a3,aL 12 (.agg ⟨(cJ e)⟩),aL 16 (i64 n),bL 18 (.bool (iW n e)) a0,aZ 21] (fun B=>jL (fH 49 Q49 (eZ _))) (hk (bT a4) (hk (qI (i:Int) m (by omega) (by simp at a4;omega)) (hk (lD (aO X0 hld0)) (hk (qE (cQ prog 46) a5 b4 (by kernel_rfl)) (hk (dB q12) (hq (qL 46 b1 0 a3 (.agg ⟨(cJ e)⟩)) (lA ⟨sV,mO⟩ b5 rfl) (hk (lO 0 bU a9 rfl) (hk (qc 49 b3 b9 b8) (hk (bF (x:=!(iW n e)) (by rw[cc1];rfl)) hn)))))))));exact⟨T1,a0,h1,h2,b2,a1,b6,b7⟩
 ·intro cc1 hld0;obtain⟨T1,h1,h2⟩:=eG 60 [aI 2,aI 4,aL 6 (.agg ⟨(cJ e)⟩),bL 8 (pt b1 0) M2,iP 10 a3,aL 12 (.agg ⟨(cJ e)⟩),aL 16 (i64 n),bL 18 (.bool (iW n e)) a0,aI 21] (fun B=>jL (fH 49 Q49 (eZ _))) (hk (bT a4) (hk (qI (i:Int) m (by omega) (by simp at a4;omega)) (hk (lD (aO X0 hld0)) (hk (qE (cQ prog 46) a5 b4 (by kernel_rfl)) (hk (dB q12) (hq (qL 46 b1 0 a3 (.agg ⟨(cJ e)⟩)) (lA ⟨sV,mO⟩ b5 rfl) (hk (lO 0 bU a9 rfl) (hk (qc 49 b3 b9 b8) (hk (bT (x:=!(iW n e)) (by rw[cc1];rfl)) hn)))))))));exact⟨T1,a0,h1,h2,b2,a1,b6,b7⟩
theorem r27x(b:Nat)(a:Option Addr)(m c i:Nat)(n:Int){M:aB}(gb:M.get b=some ⟨[i64 n,.slice a m c],26,2,0,true⟩)(a0:(decide ((i:Int)<(m:Int)))=false):∃T1,Rd prog [] (q24.loopAt 0) Tryz.f24.ntmps (fr [(1,(pt b 0)),(16,(.slice a m c)),(17,(i64 (m:Int))),(18,(i64 (i:Int)))]) M (.exit 0) T1 M/\[].map T1.get=[]:=by exact eG 60 [aZ 2] (aD prog) (hk (bF a0) hn)
theorem Tm{b:Nat}{a:Option Addr}{c:Nat}{n:Int}{l:List E4}{M:aB}(hM:aA M)(hs:Bi M (.slice a l.length c) l)(hg:M.get b=some ⟨[i64 n,.slice a l.length c],26,2,0,true⟩):
  ∃e O M',bI prog [] (q24.loopAt 0) Tryz.f24.ntmps (fr [(1,pt b 0),(16,.slice a l.length c),(17,i64 l.length),(18,i64 ((0:Nat):Int))]) M e (fr O) M'/\Ext M M'/\aA M'/\
   ((e= .exit 0/\O=[]/\l.all (iW n)=true)\/(e= .ret/\O=[(2,.bool false)]/\l.all (iW n)=false)):=by
 have hlen:=hs.len
 refine bI.forE (σ:=Unit) (n:=l.length) (Inv:=fun i _ M1=>Ext M M1/\aA M1/\M1.get b=some ⟨[i64 n,.slice a l.length c],26,2,0,true⟩/\(l.take i).all (iW n)=true)
  (F:=fun i _=>[(1,pt b 0),(16,.slice a l.length c),(17,i64 l.length),(18,i64 ((i:Nat):Int))])
  (Post:=fun e O M'=>Ext M M'/\aA M'/\((e= .exit 0/\O=[]/\l.all (iW n)=true)\/(e= .ret/\O=[(2,.bool false)]/\l.all (iW n)=false))) ?_ ?_ l.length 0 (by omega) (s:=()) ⟨Ext.refl M,hM,hg,by simp⟩
 ·rintro i _ M1 hi ⟨X,a0,a1,hall⟩;obtain⟨bb,o,rfl,_⟩:=cN hs (by omega);have ht:l[i]?=some l[i]:=xAe hi;have a2:=iK (P:=prog) (ty:=46) hs ht sV mO;cases hf:iW n l[i] with
  |true=>
   obtain⟨T1,M2,h1,h2,h3,h4,h5,_⟩:=(Pg b bb o l.length c i n l[i] a0 X a1 (xAb (by omega))).1 hf a2
   rw[aM (by omega)] at h2
   refine .inl ⟨(),T1,M2,h1,h2,h3,h4,h5,?_⟩
   rw[List.take_succ_eq_append_getElem hi,List.all_append,hall]
   simp [hf]
  |false=>
   obtain⟨T1,M2,h1,h2,h3,h4,h5,_⟩:=(Pg b bb o l.length c i n l[i] a0 X a1 (xAb (by omega))).2 hf a2
   refine .inr ⟨_,[(2,.bool false)],T1,M2,h1,by simp,h2,h3,h4,.inr ⟨rfl,rfl,?_⟩⟩
   rw[List.all_eq_false]
   exact⟨l[i],List.getElem_mem hi,by simp [hf]⟩
 ·rintro _ M1 ⟨X,a0,a1,hall⟩;obtain⟨T1,h1,h2⟩:=r27x b a l.length c l.length n a1 (xAa (by omega));refine⟨_,[],T1,M1,h1,by simp,h2,X,a0,.inl ⟨rfl,rfl,?_⟩⟩;rwa [List.take_length] at hall
theorem To{b:Nat}{a:Option Addr}{c:Nat}{n:Int}{l:List E4}{M:aB}(hM:aA M)(hs:Bi M (.slice a l.length c) l)(hg:M.get b=some ⟨[i64 n,.slice a l.length c],26,2,0,true⟩)(h:l.all (iW n)=true):
  ∃M',bI prog [] (q24.loopAt 0) Tryz.f24.ntmps (fr [(1,pt b 0),(16,.slice a l.length c),(17,i64 l.length),(18,i64 ((0:Nat):Int))]) M (.exit 0) (fr []) M'/\Ext M M'/\aA M':=by
 obtain⟨e,O,M',h1,h2,h3,h4|h4⟩:=Tm hM hs hg
 ·obtain⟨rfl,rfl,_⟩:=h4;exact⟨M',h1,h2,h3⟩
 ·rw[h] at h4;cases h4.2.2
theorem Tn{b:Nat}{a:Option Addr}{c:Nat}{n:Int}{l:List E4}{M:aB}(hM:aA M)(hs:Bi M (.slice a l.length c) l)(hg:M.get b=some ⟨[i64 n,.slice a l.length c],26,2,0,true⟩)(h:l.all (iW n)=false):
  ∃M',bI prog [] (q24.loopAt 0) Tryz.f24.ntmps (fr [(1,pt b 0),(16,.slice a l.length c),(17,i64 l.length),(18,i64 ((0:Nat):Int))]) M .ret (fr [(2,.bool false)]) M'/\Ext M M'/\aA M':=by
 obtain⟨e,O,M',h1,h2,h3,h4|h4⟩:=Tm hM hs hg
 ·rw[h] at h4;cases h4.2.2
 ·obtain⟨rfl,rfl,_⟩:=h4;exact⟨M',h1,h2,h3⟩
theorem Wp:Tryz.f24.results= #[.tmp 2]:=by kernel_rfl
theorem w27_0(ln:Int)(al:Option Addr)(cl:Nat)(l:List E4){M:aB}(hM:aA M)(hl:aQ l (.slice al l.length cl) M)(a0:(iB ln)=true)(a7:(decide ((l.length:Int)>(400:Int)))=true):∃v M',Ev prog [] 24 [.agg ⟨[i64 ln,.slice al l.length cl]⟩] M v M'/\Ext M M'/\aA M'/\v=(.bool false):=by obtain⟨b1,M2,a9,b0,g5,E6,b3⟩:=bG hM ⟨[i64 ln,.slice al l.length cl],26,2,0,true⟩;have X9:=(Ext.refl M).trans E6;obtain⟨w10,b6,a4,b5,b4,a8,a3,a2,a5⟩:=aJ (x:=ln) b3 Ov (⟨_,rfl,rfl⟩);have b2:=a3.old g5;have a1:w10=(.bool (iB ln)):=a5;subst a1;have a6:=X9.trans a3;exact⟨.bool false,a4,kA 60 [bL 1 (pt b1 0) M2,aL 7 (i64 ln),bL 9 (.bool (iB ln)) a4,aZ 14,aZ 16,aL 17 (.slice al l.length cl),aZ 18,aI 19,aZ 20,aZ 23,aI 24] Tryz.func24 It Wp (fun B=>jL (fH 48 Q48 (eZ _))) (hk (qE (fE prog 26 (.agg ⟨[i64 ln,.slice al l.length cl]⟩)) a9 b0 (by kernel_rfl)) (hk (lO 0 bU g5 rfl) (hk (qc 48 a8 b5 b4) (hk (bF (x:=!(iB ln)) (by rw[a0];rfl)) (hk (bF (x:=!(iB ln)) (by rw[a0];rfl)) (hk (lO 1 cY b2 rfl) (hk (bF (x:=!(iB ln)) (by rw[a0];rfl)) (hk (lN hl.ln) (hk (bF (x:=!(iB ln)) (by rw[a0];rfl)) (hk (bF (x:=!(iB ln)) (by rw[a0];rfl)) (hk (bT a7) hn))))))))))),a6,a2,rfl⟩
theorem w27_1(ln:Int)(al:Option Addr)(cl:Nat)(l:List E4){M:aB}(hM:aA M)(hl:aQ l (.slice al l.length cl) M)(a0:(iB ln)=true)(b4:(decide ((l.length:Int)>(400:Int)))=false)(b5:(l.all (iW ln))=true):∃v M',Ev prog [] 24 [.agg ⟨[i64 ln,.slice al l.length cl]⟩] M v M'/\Ext M M'/\aA M'/\v=(.bool true):=by obtain⟨b1,M2,b7,b8,g5,E6,b9⟩:=bG hM ⟨[i64 ln,.slice al l.length cl],26,2,0,true⟩;have X9:=(Ext.refl M).trans E6;obtain⟨w10,c2,b2,c1,c0,b6,a6,a4,b0⟩:=aJ (x:=ln) b9 Ov (⟨_,rfl,rfl⟩);have a2:=a6.old g5;have a1:w10=(.bool (iB ln)):=b0;subst a1;have a8:=X9.trans a6;obtain⟨a7,a3,a9,a5⟩:=To a4 (AP.Ext (R:=aQ) hl a8) a2 b5;have b3:=a8.trans a9;exact⟨.bool true,a7,kA 60 [bL 1 (pt b1 0) M2,aL 7 (i64 ln),bL 9 (.bool (iB ln)) b2,aZ 14,aZ 16,aL 17 (.slice al l.length cl),aZ 18,aI 19,aZ 20,aZ 23,aZ 24,aL 28 (.slice al l.length cl),aI 30,.blk 33 [1,16,17,18] .normal (fr []) a7] Tryz.func24 It Wp (fun B=>vA (fH 48 Q48 (eZ _)) 0 a3) (hk (qE (fE prog 26 (.agg ⟨[i64 ln,.slice al l.length cl]⟩)) b7 b8 (by kernel_rfl)) (hk (lO 0 bU g5 rfl) (hk (qc 48 b6 c1 c0) (hk (bF (x:=!(iB ln)) (by rw[a0];rfl)) (hk (bF (x:=!(iB ln)) (by rw[a0];rfl)) (hk (lO 1 cY a2 rfl) (hk (bF (x:=!(iB ln)) (by rw[a0];rfl)) (hk (lN hl.ln) (hk (bF (x:=!(iB ln)) (by rw[a0];rfl)) (hk (bF (x:=!(iB ln)) (by rw[a0];rfl)) (hk (bF b4) (hk (lO 1 cY a2 rfl) (hk (lN hl.ln) (hk (eA (id:=0) rfl) hn)))))))))))))) (tb:=[0]) (hB:=fun _ h=>bQ h),b3,a5,rfl⟩
theorem w27_2(ln:Int)(al:Option Addr)(cl:Nat)(l:List E4){M:aB}(hM:aA M)(hl:aQ l (.slice al l.length cl) M)(a0:(iB ln)=true)(b4:(decide ((l.length:Int)>(400:Int)))=false)(b5:(l.all (iW ln))=false):∃v M',Ev prog [] 24 [.agg ⟨[i64 ln,.slice al l.length cl]⟩] M v M'/\Ext M M'/\aA M'/\v=(.bool false):=by obtain⟨b1,M2,b7,b8,g5,E6,b9⟩:=bG hM ⟨[i64 ln,.slice al l.length cl],26,2,0,true⟩;have X9:=(Ext.refl M).trans E6;obtain⟨w10,c2,b2,c1,c0,b6,a6,a4,b0⟩:=aJ (x:=ln) b9 Ov (⟨_,rfl,rfl⟩);have a2:=a6.old g5;have a1:w10=(.bool (iB ln)):=b0;subst a1;have a8:=X9.trans a6;obtain⟨a7,a3,a9,a5⟩:=Tn a4 (AP.Ext (R:=aQ) hl a8) a2 b5;have b3:=a8.trans a9;exact⟨.bool false,a7,kA 60 [bL 1 (pt b1 0) M2,aL 7 (i64 ln),bL 9 (.bool (iB ln)) b2,aZ 14,aZ 16,aL 17 (.slice al l.length cl),aZ 18,aI 19,aZ 20,aZ 23,aZ 24,aL 28 (.slice al l.length cl),aI 30,.blk 33 [1,16,17,18] .ret (fr [(2,(.bool false))]) a7] Tryz.func24 It Wp (fun B=>vA (fH 48 Q48 (eZ _)) 0 a3) (hk (qE (fE prog 26 (.agg ⟨[i64 ln,.slice al l.length cl]⟩)) b7 b8 (by kernel_rfl)) (hk (lO 0 bU g5 rfl) (hk (qc 48 b6 c1 c0) (hk (bF (x:=!(iB ln)) (by rw[a0];rfl)) (hk (bF (x:=!(iB ln)) (by rw[a0];rfl)) (hk (lO 1 cY a2 rfl) (hk (bF (x:=!(iB ln)) (by rw[a0];rfl)) (hk (lN hl.ln) (hk (bF (x:=!(iB ln)) (by rw[a0];rfl)) (hk (bF (x:=!(iB ln)) (by rw[a0];rfl)) (hk (bF b4) (hk (lO 1 cY a2 rfl) (hk (lN hl.ln) (hk (eA (id:=0) rfl) hn)))))))))))))) (tb:=[0]) (hB:=fun _ h=>bQ h),b3,a5,rfl⟩
theorem w27_3(ln:Int)(al:Option Addr)(cl:Nat)(l:List E4){M:aB}(hM:aA M)(hl:aQ l (.slice al l.length cl) M)(a0:(iB ln)=false):∃v M',Ev prog [] 24 [.agg ⟨[i64 ln,.slice al l.length cl]⟩] M v M'/\Ext M M'/\aA M'/\v=(.bool false):=by obtain⟨b1,M2,a8,a9,g5,E6,b0⟩:=bG hM ⟨[i64 ln,.slice al l.length cl],26,2,0,true⟩;have X9:=(Ext.refl M).trans E6;obtain⟨w10,b4,a3,b3,b2,a7,a4,a2,a5⟩:=aJ (x:=ln) b0 Ov (⟨_,rfl,rfl⟩);have a1:w10=(.bool (iB ln)):=a5;subst a1;have a6:=X9.trans a4;exact⟨.bool false,a3,kA 60 [bL 1 (pt b1 0) M2,aL 7 (i64 ln),bL 9 (.bool (iB ln)) a3,aI 14,aI 16,aI 18,aI 20,aI 23] Tryz.func24 It Wp (fun B=>jL (fH 48 Q48 (eZ _))) (hk (qE (fE prog 26 (.agg ⟨[i64 ln,.slice al l.length cl]⟩)) a8 a9 (by kernel_rfl)) (hk (lO 0 bU g5 rfl) (hk (qc 48 a7 b3 b2) (hk (bT (x:=!(iB ln)) (by rw[a0];rfl)) (hk (bT (x:=!(iB ln)) (by rw[a0];rfl)) (hk (bT (x:=!(iB ln)) (by rw[a0];rfl)) (hk (bT (x:=!(iB ln)) (by rw[a0];rfl)) (hk (bT (x:=!(iB ln)) (by rw[a0];rfl)) hn)))))))),a6,a2,rfl⟩
theorem Ww(ln:Int)(al:Option Addr)(cl:Nat)(l:List E4){M:aB}(hM:aA M)(hl:aQ l (.slice al l.length cl) M):∃v M',Ev prog [] 24 [.agg ⟨[i64 ln,.slice al l.length cl]⟩] M v M'/\Ext M M'/\aA M'/\v= .bool (fF ln l):=by
 cases a0:(iB ln) with
 |true=>
  cases a1:(decide ((l.length:Int)>(400:Int))) with
  |true=>
   obtain⟨v,M1,h1,h2,h3,h4⟩:=w27_0 ln al cl l hM hl a0 a1
   refine⟨v,M1,h1,h2,h3,?_⟩
   subst h4
   first|rfl|(simp only [fF,a0,a1,cond_true,cond_false,Bool.true_and,Bool.false_and,Bool.and_true,Bool.and_false,Bool.true_or,Bool.false_or,Bool.or_true,Bool.or_false,Bool.not_true,Bool.not_false];done)|(simp only [fF,a0,a1,cond_true,cond_false,Bool.true_and,Bool.false_and,Bool.and_true,Bool.and_false,Bool.true_or,Bool.false_or,Bool.or_true,Bool.or_false,Bool.not_true,Bool.not_false]<;>rfl)|(simp_all [fF];done)
  |false=>
   cases a2:(l.all (iW ln)) with
   |true=>
    obtain⟨v,M1,h1,h2,h3,h4⟩:=w27_1 ln al cl l hM hl a0 a1 a2
    refine⟨v,M1,h1,h2,h3,?_⟩
    subst h4
    first|rfl|(simp only [fF,a0,a1,a2,cond_true,cond_false,Bool.true_and,Bool.false_and,Bool.and_true,Bool.and_false,Bool.true_or,Bool.false_or,Bool.or_true,Bool.or_false,Bool.not_true,Bool.not_false];done)|(simp only [fF,a0,a1,a2,cond_true,cond_false,Bool.true_and,Bool.false_and,Bool.and_true,Bool.and_false,Bool.true_or,Bool.false_or,Bool.or_true,Bool.or_false,Bool.not_true,Bool.not_false]<;>rfl)|(simp_all [fF];done)
   |false=>
    obtain⟨v,M1,h1,h2,h3,h4⟩:=w27_2 ln al cl l hM hl a0 a1 a2
    refine⟨v,M1,h1,h2,h3,?_⟩
    subst h4
    first|rfl|(simp only [fF,a0,a1,a2,cond_true,cond_false,Bool.true_and,Bool.false_and,Bool.and_true,Bool.and_false,Bool.true_or,Bool.false_or,Bool.or_true,Bool.or_false,Bool.not_true,Bool.not_false];done)|(simp only [fF,a0,a1,a2,cond_true,cond_false,Bool.true_and,Bool.false_and,Bool.and_true,Bool.and_false,Bool.true_or,Bool.false_or,Bool.or_true,Bool.or_false,Bool.not_true,Bool.not_false]<;>rfl)|(simp_all [fF];done)
 |false=>
  obtain⟨v,M1,h1,h2,h3,h4⟩:=w27_3 ln al cl l hM hl a0
  refine⟨v,M1,h1,h2,h3,?_⟩
  subst h4
  first|rfl|(simp only [fF,a0,cond_true,cond_false,Bool.true_and,Bool.false_and,Bool.and_true,Bool.and_false,Bool.true_or,Bool.false_or,Bool.or_true,Bool.or_false,Bool.not_true,Bool.not_false];done)|(simp only [fF,a0,cond_true,cond_false,Bool.true_and,Bool.false_and,Bool.and_true,Bool.and_false,Bool.true_or,Bool.false_or,Bool.or_true,Bool.or_false,Bool.not_true,Bool.not_false]<;>rfl)|(simp_all [fF];done)
abbrev Q24:=FC (tK Qw) (plain pB) (fun x=>fF x.1 x.2)
theorem Sh{l:(Int×List E4)}{lv:List Value}{M:aB}(hM:aA M)(h:(tK Qw) l lv M):∃v M',lK prog [] 24 Q24 lv M v M':=by refine FC.con h ?_;obtain⟨g0,rfl,k0⟩:=h;obtain⟨ln,l⟩:=l;obtain⟨_,rfl,hl⟩:=k0;obtain⟨al,cl,rfl⟩:=aG.form hl;obtain⟨v,M',h1,h2,_,h3⟩:=Ww ln al cl l hM hl;exact⟨v,M',h1,h2,h3⟩
open Tryz
theorem rK99:Tryz.f99.results= #[.tmp 2]:=by kernel_rfl
theorem w35_0(e:E4){M:aB}(hM:aA M):∃v M',Ev prog [] 99 [.agg ⟨(cJ e)⟩] M v M'/\Ext M M'/\aA M'/\v=(i64 e.t):=by obtain⟨b1,M2,a0,a1,g5,E6,a2⟩:=bG hM ⟨(cJ e),121,4,0,true⟩;have X9:=(Ext.refl M).trans E6;exact⟨i64 e.t,M2,kA 60 [bL 1 (pt b1 0) M2,aL 7 (i64 e.t)] Tryz.func99 q99_ok rK99 (aD prog) (hk (qE (fE prog 121 (.agg ⟨(cJ e)⟩)) a0 a1 (by kernel_rfl)) (hk (lO 1 bU g5 rfl) hn)),X9,a2,rfl⟩
theorem Wx(e:E4){M:aB}(hM:aA M):∃v M',Ev prog [] 99 [.agg ⟨(cJ e)⟩] M v M'/\Ext M M'/\aA M'/\v=i64 (e.t):=by obtain⟨v,M1,h1,h2,h3,h4⟩:=w35_0 e hM;refine⟨v,M1,h1,h2,h3,?_⟩;subst h4;first|rfl|(simp only [cond_true,cond_false,Bool.true_and,Bool.false_and,Bool.and_true,Bool.and_false,Bool.true_or,Bool.false_or,Bool.or_true,Bool.or_false,Bool.not_true,Bool.not_false];done)|(simp only [cond_true,cond_false,Bool.true_and,Bool.false_and,Bool.and_true,Bool.and_false,Bool.true_or,Bool.false_or,Bool.or_true,Bool.or_false,Bool.not_true,Bool.not_false]<;>rfl)|(simp_all [];done)
abbrev Q99:=FC (tK pE) (plain pI) (fun x=>x.t)
theorem con99{e:(E4)}{lv:List Value}{M:aB}(hM:aA M)(h:(tK pE) e lv M):∃v M',lK prog [] 99 Q99 lv M v M':=by refine FC.con h ?_;obtain⟨g0,rfl,k0⟩:=h;obtain rfl:=k0;obtain⟨v,M',h1,h2,_,h3⟩:=Wx e hM;exact⟨v,M',h1,h2,h3⟩
theorem rK101:Tryz.f101.results= #[.tmp 2]:=by kernel_rfl
theorem w37_0(e:E4){M:aB}(hM:aA M):∃v M',Ev prog [] 101 [.agg ⟨(cJ e)⟩] M v M'/\Ext M M'/\aA M'/\v=(i64 e.f):=by obtain⟨b1,M2,a0,a1,g5,E6,a2⟩:=bG hM ⟨(cJ e),121,4,0,true⟩;have X9:=(Ext.refl M).trans E6;exact⟨i64 e.f,M2,kA 60 [bL 1 (pt b1 0) M2,aL 7 (i64 e.f)] Tryz.func101 Wk rK101 (aD prog) (hk (qE (fE prog 121 (.agg ⟨(cJ e)⟩)) a0 a1 (by kernel_rfl)) (hk (lO 0 bU g5 rfl) hn)),X9,a2,rfl⟩
theorem Wy(e:E4){M:aB}(hM:aA M):∃v M',Ev prog [] 101 [.agg ⟨(cJ e)⟩] M v M'/\Ext M M'/\aA M'/\v=i64 (e.f):=by obtain⟨v,M1,h1,h2,h3,h4⟩:=w37_0 e hM;refine⟨v,M1,h1,h2,h3,?_⟩;subst h4;first|rfl|(simp only [cond_true,cond_false,Bool.true_and,Bool.false_and,Bool.and_true,Bool.and_false,Bool.true_or,Bool.false_or,Bool.or_true,Bool.or_false,Bool.not_true,Bool.not_false];done)|(simp only [cond_true,cond_false,Bool.true_and,Bool.false_and,Bool.and_true,Bool.and_false,Bool.true_or,Bool.false_or,Bool.or_true,Bool.or_false,Bool.not_true,Bool.not_false]<;>rfl)|(simp_all [];done)
abbrev Q101:=FC (tK pE) (plain pI) (fun x=>x.f)
theorem Yf{e:(E4)}{lv:List Value}{M:aB}(hM:aA M)(h:(tK pE) e lv M):∃v M',lK prog [] 101 Q101 lv M v M':=by refine FC.con h ?_;obtain⟨g0,rfl,k0⟩:=h;obtain rfl:=k0;obtain⟨v,M',h1,h2,_,h3⟩:=Wy e hM;exact⟨v,M',h1,h2,h3⟩
theorem Lh:Tryz.f102.results= #[.tmp 2]:=by kernel_rfl
theorem w38_0(f t c:Int){M:aB}(hM:aA M):∃v M',Ev prog [] 102 [.agg ⟨[i64 f,i64 t,i64 0,i64 c]⟩] M v M'/\Ext M M'/\aA M'/\v=(i64 1):=by obtain⟨b1,M2,a0,a1,g5,E6,a2⟩:=bG hM ⟨[i64 f,i64 t,i64 0,i64 c],121,4,0,true⟩;have X9:=(Ext.refl M).trans E6;exact⟨i64 1,M2,kA 60 [bL 1 (pt b1 0) M2,aL 7 (i64 0)] Tryz.func102 xV Lh (aD prog) (hk (qE (fE prog 121 (.agg ⟨[i64 f,i64 t,i64 0,i64 c]⟩)) a0 a1 (by kernel_rfl)) (hk (lO 2 bU g5 rfl) hn)),X9,a2,rfl⟩
theorem w38_1(f t c:Int){M:aB}(hM:aA M):∃v M',Ev prog [] 102 [.agg ⟨[i64 f,i64 t,i64 1,i64 c]⟩] M v M'/\Ext M M'/\aA M'/\v=(i64 2):=by obtain⟨b1,M2,a0,a1,g5,E6,a2⟩:=bG hM ⟨[i64 f,i64 t,i64 1,i64 c],121,4,0,true⟩;have X9:=(Ext.refl M).trans E6;exact⟨i64 2,M2,kA 60 [bL 1 (pt b1 0) M2,aL 7 (i64 1)] Tryz.func102 xV Lh (aD prog) (hk (qE (fE prog 121 (.agg ⟨[i64 f,i64 t,i64 1,i64 c]⟩)) a0 a1 (by kernel_rfl)) (hk (lO 2 bU g5 rfl) hn)),X9,a2,rfl⟩
theorem w38_2(f t c:Int){M:aB}(hM:aA M):∃v M',Ev prog [] 102 [.agg ⟨[i64 f,i64 t,i64 2,i64 c]⟩] M v M'/\Ext M M'/\aA M'/\v=(i64 4):=by obtain⟨b1,M2,a0,a1,g5,E6,a2⟩:=bG hM ⟨[i64 f,i64 t,i64 2,i64 c],121,4,0,true⟩;have X9:=(Ext.refl M).trans E6;exact⟨i64 4,M2,kA 60 [bL 1 (pt b1 0) M2,aL 7 (i64 2)] Tryz.func102 xV Lh (aD prog) (hk (qE (fE prog 121 (.agg ⟨[i64 f,i64 t,i64 2,i64 c]⟩)) a0 a1 (by kernel_rfl)) (hk (lO 2 bU g5 rfl) hn)),X9,a2,rfl⟩
theorem w38_3(f t c:Int){M:aB}(hM:aA M):∃v M',Ev prog [] 102 [.agg ⟨[i64 f,i64 t,i64 3,i64 c]⟩] M v M'/\Ext M M'/\aA M'/\v=(i64 8):=by obtain⟨b1,M2,a0,a1,g5,E6,a2⟩:=bG hM ⟨[i64 f,i64 t,i64 3,i64 c],121,4,0,true⟩;have X9:=(Ext.refl M).trans E6;exact⟨i64 8,M2,kA 60 [bL 1 (pt b1 0) M2,aL 7 (i64 3)] Tryz.func102 xV Lh (aD prog) (hk (qE (fE prog 121 (.agg ⟨[i64 f,i64 t,i64 3,i64 c]⟩)) a0 a1 (by kernel_rfl)) (hk (lO 2 bU g5 rfl) hn)),X9,a2,rfl⟩
theorem w38_4(f t c:Int){M:aB}(hM:aA M):∃v M',Ev prog [] 102 [.agg ⟨[i64 f,i64 t,i64 4,i64 c]⟩] M v M'/\Ext M M'/\aA M'/\v=(i64 16):=by obtain⟨b1,M2,a0,a1,g5,E6,a2⟩:=bG hM ⟨[i64 f,i64 t,i64 4,i64 c],121,4,0,true⟩;have X9:=(Ext.refl M).trans E6;exact⟨i64 16,M2,kA 60 [bL 1 (pt b1 0) M2,aL 7 (i64 4)] Tryz.func102 xV Lh (aD prog) (hk (qE (fE prog 121 (.agg ⟨[i64 f,i64 t,i64 4,i64 c]⟩)) a0 a1 (by kernel_rfl)) (hk (lO 2 bU g5 rfl) hn)),X9,a2,rfl⟩
abbrev Q102:=FC (hJ (tK pE) Eu) (plain pI) (fun x=>zN x.m)
theorem Yg{e:E4}{lv:List Value}{M:aB}(hM:aA M)(h:(hJ (tK pE) Eu) e lv M):∃v M',lK prog [] 102 Q102 lv M v M':=by
 refine FC.con h ?_;obtain⟨h,h0,h5⟩:=h;obtain⟨g0,rfl,rfl⟩:=h;obtain⟨f,t,m,c⟩:=e;simp only at h0 h5;have hm:m=0\/m=1\/m=2\/m=3\/m=4:=by omega
 rcases hm with rfl|rfl|rfl|rfl|rfl
 ·obtain⟨v,M',h1,h2,_,h4⟩:=w38_0 f t c hM;exact⟨v,M',h1,h2,h4⟩
 ·obtain⟨v,M',h1,h2,_,h4⟩:=w38_1 f t c hM;exact⟨v,M',h1,h2,h4⟩
 ·obtain⟨v,M',h1,h2,_,h4⟩:=w38_2 f t c hM;exact⟨v,M',h1,h2,h4⟩
 ·obtain⟨v,M',h1,h2,_,h4⟩:=w38_3 f t c hM;exact⟨v,M',h1,h2,h4⟩
 ·obtain⟨v,M',h1,h2,_,h4⟩:=w38_4 f t c hM;exact⟨v,M',h1,h2,h4⟩
def Xq:uX->Value
 | .to=> .func (.func 99) #[] #[]
 | .fr=> .func (.func 101) #[] #[]
 | .set=> .func (.func 102) #[] #[]
def pFn(k:uX)(v:Value)(_:aB):Prop:=v=Xq k
instance:AP pFn:=⟨fun{x y _ _} h k=>by unfold pFn at h k;rw[h] at k;cases x<;>cases y<;>first|rfl|(simp [Xq] at k),fun _ h=>h⟩
theorem r34to(r bb o m c i:Nat)(e:E4)(cr:List Value){M M0:aB}(hM:aA M)(X0:Ext M0 M)(hr:M0.next<=r)(gr:M.get r=some ⟨cr,3,1,0,true⟩)(a3:(decide ((i:Int)<(m:Int)))=true)(b0:bA prog 46 ⟨bb,o+((i:Int):Int).toNat*4,none⟩ M0=some (.agg ⟨(cJ e)⟩))(b2:0+((i:Int):Int).toNat*1+1<=(cr).length):∃T1 M',Rd prog [] (q98.loopAt 0) Tryz.f98.ntmps (fr [(1,(.func (.func 99) ⟨[]⟩ ⟨[]⟩)),(5,(aC r 0 m (m+1))),(11,(aC bb o m c)),(12,(i64 (m:Int))),(13,(i64 (i:Int)))]) M .normal T1 M'/\[1,5,11,12,13].map T1.get=[some (.func (.func 99) ⟨[]⟩ ⟨[]⟩),some (aC r 0 m (m+1)),some (aC bb o m c),some (i64 (m:Int)),some (i64 (IntKind.wrap .i64 ((i:Int)+(1:Int))))]/\Ext M0 M'/\aA M'/\M'.get r=some ⟨splice cr (0+((i:Int):Int).toNat*1) [i64 e.t],3,1,0,true⟩/\∀id k,M.get id=some k->id≠r->M'.get id=some k:=by
 obtain⟨b1,M2,a5,c2,g5,E6,c7⟩:=bG hM ⟨[i64 0,i64 0,i64 0,i64 0],46,4,0,true⟩;have d0:=kN a5 X0;have a4:=dL gr a5;have g8:=E6.old gr;have b7:=X0.trans E6;obtain⟨b4,q12,c3,a0,b8,a7,d1⟩:=aX (o:=0) (v:=(.agg ⟨(cJ e)⟩)) (new:=(cJ e)) b7 d0 c7 mO g5 rfl rfl (Nat.zero_le _) (xAd rfl) rfl;have c4:=(a0 _ a4).trans g8;obtain⟨d4,d5,b6,d3,c9,c1,a1,a8,b5⟩:=aJ (x:=e) a7 con99 (⟨_,rfl,rfl⟩);have c5:=a1.old c4;have a6:d4=(i64 e.t):=b5;subst a6;have b9:=b8.trans a1;obtain⟨a2,q33,c6,b3,c0,a9,d2⟩:=aX (o:=0+((i:Int):Int).toNat*1) (v:=(i64 e.t)) (new:=splice cr (0+((i:Int):Int).toNat*1) [i64 e.t]) b9 hr a8 Et c5 rfl rfl (Nat.zero_le _) b2 rfl;have c8:∀id k,M.get id=some k->id≠r->a2.get id=some k:=fun id k g h_r=>by
  have g0:=aB.lt_of_get g;have g:=E6.old g;have g:=((fun id h _=>a0 id h) id (by omega) (aB.lt_of_get g)).trans g;have g:=a1.old g;have g:=((fun id h _=>b3 id h) id h_r (aB.lt_of_get g)).trans g;exact g
 obtain⟨T1,h1,h2⟩:=eG 60 [aI 2,aI 6,aL 8 (.agg ⟨(cJ e)⟩),bL 10 (pt b1 0) M2,iP 14 b4,aL 22 (.agg ⟨(cJ e)⟩),bL 24 (i64 e.t) b6,aI 26,iP 28 a2] (fun B=>jL (fH 99 Q99 (eZ _))) (hk (bT a3) (hk (qI (i:Int) m (by omega) (by simp at a3;omega)) (hk (lD (aO X0 b0)) (hk (qE (cQ prog 46) a5 c2 (by kernel_rfl)) (hk (dB q12) (hq (qL 46 b1 0 b4 (.agg ⟨(cJ e)⟩)) (lA ⟨sV,mO⟩ c3 rfl) (hk (qc 99 c1 d3 c9) (hk (qI (i:Int) m (by omega) (by simp at a3;omega)) (hk (dB q33) hn)))))))));exact⟨T1,a2,h1,h2,c0,a9,c6,c8⟩
theorem r34x(fv:Value)(r:Nat)(a:Option Addr)(m c i:Nat){M:aB}(a0:(decide ((i:Int)<(m:Int)))=false):∃T1,Rd prog [] (q98.loopAt 0) Tryz.f98.ntmps (fr [(1,fv),(5,(aC r 0 m (m+1))),(11,(.slice a m c)),(12,(i64 (m:Int))),(13,(i64 (i:Int)))]) M (.exit 0) T1 M/\[5].map T1.get=[some (aC r 0 m (m+1))]:=by exact eG 60 [aZ 2] (aD prog) (hk (bF a0) hn)
theorem r34fr(r bb o m c i:Nat)(e:E4)(cr:List Value){M M0:aB}(hM:aA M)(X0:Ext M0 M)(hr:M0.next<=r)(gr:M.get r=some ⟨cr,3,1,0,true⟩)(a3:(decide ((i:Int)<(m:Int)))=true)(b0:bA prog 46 ⟨bb,o+((i:Int):Int).toNat*4,none⟩ M0=some (.agg ⟨(cJ e)⟩))(b2:0+((i:Int):Int).toNat*1+1<=(cr).length):∃T1 M',Rd prog [] (q98.loopAt 0) Tryz.f98.ntmps (fr [(1,(.func (.func 101) ⟨[]⟩ ⟨[]⟩)),(5,(aC r 0 m (m+1))),(11,(aC bb o m c)),(12,(i64 (m:Int))),(13,(i64 (i:Int)))]) M .normal T1 M'/\[1,5,11,12,13].map T1.get=[some (.func (.func 101) ⟨[]⟩ ⟨[]⟩),some (aC r 0 m (m+1)),some (aC bb o m c),some (i64 (m:Int)),some (i64 (IntKind.wrap .i64 ((i:Int)+(1:Int))))]/\Ext M0 M'/\aA M'/\M'.get r=some ⟨splice cr (0+((i:Int):Int).toNat*1) [i64 e.f],3,1,0,true⟩/\∀id k,M.get id=some k->id≠r->M'.get id=some k:=by
 obtain⟨b1,M2,a5,c2,g5,E6,c7⟩:=bG hM ⟨[i64 0,i64 0,i64 0,i64 0],46,4,0,true⟩;have d0:=kN a5 X0;have a4:=dL gr a5;have g8:=E6.old gr;have b7:=X0.trans E6;obtain⟨b4,q12,c3,a0,b8,a7,d1⟩:=aX (o:=0) (v:=(.agg ⟨(cJ e)⟩)) (new:=(cJ e)) b7 d0 c7 mO g5 rfl rfl (Nat.zero_le _) (xAd rfl) rfl;have c4:=(a0 _ a4).trans g8;obtain⟨d4,d5,b6,d3,c9,c1,a1,a8,b5⟩:=aJ (x:=e) a7 Yf (⟨_,rfl,rfl⟩);have c5:=a1.old c4;have a6:d4=(i64 e.f):=b5;subst a6;have b9:=b8.trans a1;obtain⟨a2,q33,c6,b3,c0,a9,d2⟩:=aX (o:=0+((i:Int):Int).toNat*1) (v:=(i64 e.f)) (new:=splice cr (0+((i:Int):Int).toNat*1) [i64 e.f]) b9 hr a8 Et c5 rfl rfl (Nat.zero_le _) b2 rfl;have c8:∀id k,M.get id=some k->id≠r->a2.get id=some k:=fun id k g h_r=>by
  have g0:=aB.lt_of_get g;have g:=E6.old g;have g:=((fun id h _=>a0 id h) id (by omega) (aB.lt_of_get g)).trans g;have g:=a1.old g;have g:=((fun id h _=>b3 id h) id h_r (aB.lt_of_get g)).trans g;exact g
 obtain⟨T1,h1,h2⟩:=eG 60 [aI 2,aI 6,aL 8 (.agg ⟨(cJ e)⟩),bL 10 (pt b1 0) M2,iP 14 b4,aL 22 (.agg ⟨(cJ e)⟩),bL 24 (i64 e.f) b6,aI 26,iP 28 a2] (fun B=>jL (fH 101 Q101 (eZ _))) (hk (bT a3) (hk (qI (i:Int) m (by omega) (by simp at a3;omega)) (hk (lD (aO X0 b0)) (hk (qE (cQ prog 46) a5 c2 (by kernel_rfl)) (hk (dB q12) (hq (qL 46 b1 0 b4 (.agg ⟨(cJ e)⟩)) (lA ⟨sV,mO⟩ c3 rfl) (hk (qc 101 c1 d3 c9) (hk (qI (i:Int) m (by omega) (by simp at a3;omega)) (hk (dB q33) hn)))))))));exact⟨T1,a2,h1,h2,c0,a9,c6,c8⟩
theorem r34set(r bb o m c i:Nat)(e:E4)(cr:List Value){M M0:aB}(hM:aA M)(X0:Ext M0 M)(hr:M0.next<=r)(gr:M.get r=some ⟨cr,3,1,0,true⟩)(c9:Eu e)(a3:(decide ((i:Int)<(m:Int)))=true)(b0:bA prog 46 ⟨bb,o+((i:Int):Int).toNat*4,none⟩ M0=some (.agg ⟨(cJ e)⟩))(b2:0+((i:Int):Int).toNat*1+1<=(cr).length):∃T1 M',Rd prog [] (q98.loopAt 0) Tryz.f98.ntmps (fr [(1,(.func (.func 102) ⟨[]⟩ ⟨[]⟩)),(5,(aC r 0 m (m+1))),(11,(aC bb o m c)),(12,(i64 (m:Int))),(13,(i64 (i:Int)))]) M .normal T1 M'/\[1,5,11,12,13].map T1.get=[some (.func (.func 102) ⟨[]⟩ ⟨[]⟩),some (aC r 0 m (m+1)),some (aC bb o m c),some (i64 (m:Int)),some (i64 (IntKind.wrap .i64 ((i:Int)+(1:Int))))]/\Ext M0 M'/\aA M'/\M'.get r=some ⟨splice cr (0+((i:Int):Int).toNat*1) [i64 (zN e.m)],3,1,0,true⟩/\∀id k,M.get id=some k->id≠r->M'.get id=some k:=by
 obtain⟨b1,M2,a5,c2,g5,E6,c7⟩:=bG hM ⟨[i64 0,i64 0,i64 0,i64 0],46,4,0,true⟩;have d1:=kN a5 X0;have a4:=dL gr a5;have g8:=E6.old gr;have b7:=X0.trans E6;obtain⟨b4,q12,c3,a0,b8,a7,d2⟩:=aX (o:=0) (v:=(.agg ⟨(cJ e)⟩)) (new:=(cJ e)) b7 d1 c7 mO g5 rfl rfl (Nat.zero_le _) (xAd rfl) rfl;have c4:=(a0 _ a4).trans g8;obtain⟨d5,d6,b6,d4,d0,c1,a1,a8,b5⟩:=aJ (x:=e) a7 Yg (⟨⟨_,rfl,rfl⟩,c9⟩);have c5:=a1.old c4;have a6:d5=(i64 (zN e.m)):=b5;subst a6;have b9:=b8.trans a1;obtain⟨a2,q33,c6,b3,c0,a9,d3⟩:=aX (o:=0+((i:Int):Int).toNat*1) (v:=(i64 (zN e.m))) (new:=splice cr (0+((i:Int):Int).toNat*1) [i64 (zN e.m)]) b9 hr a8 Et c5 rfl rfl (Nat.zero_le _) b2 rfl;have c8:∀id k,M.get id=some k->id≠r->a2.get id=some k:=fun id k g h_r=>by
  have g0:=aB.lt_of_get g;have g:=E6.old g;have g:=((fun id h _=>a0 id h) id (by omega) (aB.lt_of_get g)).trans g;have g:=a1.old g;have g:=((fun id h _=>b3 id h) id h_r (aB.lt_of_get g)).trans g;exact g
 obtain⟨T1,h1,h2⟩:=eG 60 [aI 2,aI 6,aL 8 (.agg ⟨(cJ e)⟩),bL 10 (pt b1 0) M2,iP 14 b4,aL 22 (.agg ⟨(cJ e)⟩),bL 24 (i64 (zN e.m)) b6,aI 26,iP 28 a2] (fun B=>jL (fH 102 Q102 (eZ _))) (hk (bT a3) (hk (qI (i:Int) m (by omega) (by simp at a3;omega)) (hk (lD (aO X0 b0)) (hk (qE (cQ prog 46) a5 c2 (by kernel_rfl)) (hk (dB q12) (hq (qL 46 b1 0 b4 (.agg ⟨(cJ e)⟩)) (lA ⟨sV,mO⟩ c3 rfl) (hk (qc 102 c1 d4 d0) (hk (qI (i:Int) m (by omega) (by simp at a3;omega)) (hk (dB q33) hn)))))))));exact⟨T1,a2,h1,h2,c0,a9,c6,c8⟩
theorem r34(k:uX)(r bb o m c i:Nat)(e:E4)(cr:List Value){M M0:aB}(hM:aA M)(X0:Ext M0 M)(hr:M0.next<=r)(gr:M.get r=some ⟨cr,3,1,0,true⟩)(a1:Eu e)(hi:i<m)(hl:i<cr.length)(a0:bA prog 46 ⟨bb,o+(i:Int).toNat*4,none⟩ M0=some (.agg ⟨cJ e⟩)):
  ∃T1 M',Rd prog [] (q98.loopAt 0) Tryz.f98.ntmps (fr [(1,Xq k),(5,aC r 0 m (m+1)),(11,aC bb o m c),(12,i64 m),(13,i64 i)]) M .normal T1 M'/\[1,5,11,12,13].map T1.get=[some (Xq k),some (aC r 0 m (m+1)),some (aC bb o m c),some (i64 m),some (i64 (IntKind.wrap .i64 ((i:Int)+1)))]/\Ext M0 M'/\aA M'/\M'.get r=some ⟨splice cr i [i64 (dW k e)],3,1,0,true⟩:=by
 have e0:0+(i:Int).toNat*1=i:=by simp
 cases k
 ·obtain⟨T1,M',h1,h2,h3,h4,h5,_⟩:=r34to r bb o m c i e cr hM X0 hr gr (xAb (by omega)) a0 (by rw[e0];omega);rw[e0] at h5;exact⟨T1,M',h1,h2,h3,h4,h5⟩
 ·obtain⟨T1,M',h1,h2,h3,h4,h5,_⟩:=r34fr r bb o m c i e cr hM X0 hr gr (xAb (by omega)) a0 (by rw[e0];omega);rw[e0] at h5;exact⟨T1,M',h1,h2,h3,h4,h5⟩
 ·obtain⟨T1,M',h1,h2,h3,h4,h5,_⟩:=r34set r bb o m c i e cr hM X0 hr gr a1 (xAb (by omega)) a0 (by rw[e0];omega);rw[e0] at h5;exact⟨T1,M',h1,h2,h3,h4,h5⟩
theorem Zf(k:uX){a:Option Addr}{c r:Nat}{l:List E4}{M0 M:aB}(hM:aA M)(X:Ext M0 M)(hs:Bi M0 (.slice a l.length c) l)(a3:∀e∈l,Eu e)(hr:M0.next<=r)(gr:M.get r=some ⟨List.replicate l.length (i64 0),3,1,0,true⟩):
  ∃M',bI prog [] (q98.loopAt 0) Tryz.f98.ntmps (fr [(1,Xq k),(5,aC r 0 l.length (l.length+1)),(11,.slice a l.length c),(12,i64 l.length),(13,i64 ((0:Nat):Int))]) M (.exit 0) (fr [(5,aC r 0 l.length (l.length+1))]) M'/\Ext M0 M'/\aA M'/\M'.get r=some ⟨(l.map (dW k)).map i64,3,1,0,true⟩:=by
 have hlen:=hs.len
 have a2:((l.map (dW k)).map i64).length=l.length:=by simp
 obtain⟨_,M',h1,h2,h3,h4⟩:=bI.for (P:=prog) (GL:=[]) (b:=q98.loopAt 0) (nt:=Tryz.f98.ntmps) (id:=0) (σ:=Unit) (n:=l.length) (Inv:=fun i _ M1=>Ext M0 M1/\aA M1/\M1.get r=some ⟨sR ((l.map (dW k)).map i64) i (i64 0),3,1,0,true⟩)
  (F:=fun i _=>[(1,Xq k),(5,aC r 0 l.length (l.length+1)),(11,.slice a l.length c),(12,i64 l.length),(13,i64 ((i:Nat):Int))])
  (O:=fun _=>[(5,aC r 0 l.length (l.length+1))])
  (by
   rintro i _ M1 hi ⟨X1,a0,a1⟩;obtain⟨bb,o,rfl,_⟩:=cN hs (by omega);have ht:l[i]?=some l[i]:=xAe hi;obtain⟨T1,M2,h1,h2,h3,h4,h5⟩:=r34 k r bb o l.length c i l[i] _ a0 X1 hr a1 (a3 _ (List.getElem_mem hi)) hi (by rw[uN _ _ (by omega)];omega) (iK (P:=prog) (ty:=46) hs ht sV mO);rw[aM (by omega)] at h2;rw[wG (by simp [ht])] at h5;exact⟨(),T1,M2,h1,h2,h3,h4,h5⟩)
  (by
   rintro _ M1 ⟨X1,a0,a1⟩;exact r34x (Xq k) r a l.length c l.length (M:=M1) (xAa (by omega)))
  l.length 0 (by omega) (s:=()) (M:=M) ⟨X,hM,by rw[wH,a2];exact gr⟩
 refine⟨M',h1,h2,h3,?_⟩
 have:=yY ((l.map (dW k)).map i64) (i64 0)
 rw[a2] at this
 rw[this] at h4
 exact h4
theorem rK98:Tryz.f98.results= #[.tmp 4]:=by kernel_rfl
theorem w34(al:Option Addr)(cl:Nat)(l:List E4)(k:uX){M:aB}(hM:aA M)(hl:aQ l (.slice al l.length cl) M)(a0:l.length<=400/\∀e∈l,Eu e):∃v M',Ev prog [] 98 [.slice al l.length cl,Xq k] M v M'/\Ext M M'/\aA M'/\eR aH (l.map (dW k)) M.next v M':=by
 obtain⟨b1,M2,a5,a6,g5,E6,a8⟩:=vJ (P:=prog) (t:=22) (elem:=3) (z:=(i64 0)) (n:=l.length) hM (by kernel_rfl) (by kernel_rfl) (by have:=a0.1;omega);have a3:M.next<=b1:=by rw[<-a5];exact(Ext.refl M).next
 have X8:=(Ext.refl M).trans E6;obtain⟨M9,a1,a4,a2,a7⟩:=Zf k a8 X8 hl a0.2 a3 g5;exact⟨aC b1 0 l.length (l.length+1),M9,kA 60 [aI 5,bL 7 (aC b1 0 l.length (l.length+1)) M2,aI 13,.blk 16 [1,5,11,12,13] .normal (fr [(5,(aC b1 0 l.length (l.length+1)))]) M9] Tryz.func98 q98_ok rK98 (fun B=>vA (eZ B) 0 a1) (hk (lN hl.ln) (hq (.eq (bR prog 22 (i64 (l.length:Int)) (i64 (l.length:Int)) M) (1,.val (aC b1 0 l.length (l.length+1)),M2)) (lH a6 xAc) (hk (lN hl.ln) (hk (eA (id:=0) rfl) hn)))) (tb:=[0]) (hB:=fun _ h=>bQ h),a4,a2,aG.of_blk' (b:=b1) (w:=1) (g:=Np) (gJ a3 a7) (List.length_map _) (by simp [vG,List.map_map,Function.comp_def]) (fun _ _=>rfl) (by have:=hl.len;simpa using this)⟩
abbrev Q98:=FC (hJ (lT aQ pFn) (fun x=>x.1.length<=400/\∀e∈x.1,Eu e)) (eR aH) (fun x=>x.1.map (dW x.2))
theorem Sp{x:(List E4)×(uX)}{lv:List Value}{M:aB}(hM:aA M)(h:(hJ (lT aQ pFn) (fun x=>x.1.length<=400/\∀e∈x.1,Eu e)) x lv M):∃v M',lK prog [] 98 Q98 lv M v M':=by refine FC.con h ?_;obtain⟨h,a0⟩:=h;obtain⟨l,k⟩:=x;obtain⟨g0,g1,rfl,k0,k1⟩:=h;obtain⟨al,cl,rfl⟩:=aG.form k0;have hl:=k0;obtain rfl:=k1;obtain⟨v,M',h1,h2,_,h3⟩:=w34 al cl l k hM hl a0;exact⟨v,M',h1,h2,h3⟩
end Go.Proofs.YtdaglldahidmbaaGreat
