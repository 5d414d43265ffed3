/-
  Package hier: each of its laws for every argument; no conditions. The last text states which.
-/
import Derived.Test.YtdaglldahidmbaaGreatGAmPw
import Derived.Test.YtdaglldahidmbaaGreatGVB
set_option linter.unusedVariables false
set_option linter.unusedSimpArgs false
open Go Go.Am Go.Proofs Tryz
namespace Go.Proofs.YtdaglldahidmbaaGreat
set_option maxRecDepth 100000
theorem bQ:(prog.underlying 3).map dV=some false:=by kernel_rfl
theorem Jj:(prog.info? 3).map (·.size)=some 1:=by kernel_rfl
theorem rK82:Tryz.f82.results= #[.tmp 4]:=by kernel_rfl
theorem w46_0(x:Int)(n:Int){M:aB}(hM:aA M)(a0:(decide (x>=(0:Int)))=true): ∃v M',Ev prog [] 82 [i64 x,i64 n] M v M'/\Ext M M'/\aA M'/\v=(.bool (decide (x<n))):=by
 exact⟨.bool (decide (x<n)),M,Ev.told_tmp (tb:=[]) (n:=60) (F:=[aQ 8,aQ 10,aQ 12,aQ 15]) aG aF Tryz.func82 Us (by kernel_rfl) rK82 (aI prog) (fun _ _=>rfl) (by kernel_rfl) (hw (bT a0) (hw (bT a0) hn)),Ext.refl M,hM,rfl⟩
theorem w46_1(x:Int)(n:Int){M:aB}(hM:aA M)(a0:(decide (x>=(0:Int)))=false): ∃v M',Ev prog [] 82 [i64 x,i64 n] M v M'/\Ext M M'/\aA M'/\v=(.bool false):=by
 exact⟨.bool false,M,Ev.told_tmp (tb:=[]) (n:=60) (F:=[aO 8,aO 10,aO 12,aO 15]) aG aF Tryz.func82 Us (by kernel_rfl) rK82 (aI prog) (fun _ _=>rfl) (by kernel_rfl) (hw (bF a0) (hw (bF a0) hn)),Ext.refl M,hM,rfl⟩
theorem Xr(x:Int)(n:Int){M:aB}(hM:aA M): ∃v M',Ev prog [] 82 [i64 x,i64 n] M v M'/\Ext M M'/\aA M'/\v= .bool (eM x n):=by
 cases a0:(decide (x>=(0:Int))) with
 |true=>
  obtain⟨v,M1,h1,h2,h3,h4⟩:=w46_0 x n hM a0
  refine⟨v,M1,h1,h2,h3,?_⟩
  subst h4
  first|rfl|(simp only [eM,a0,cond_true,cond_false,Bool.true_and,Bool.false_and,Bool.and_true,Bool.and_false,Bool.true_or,Bool.false_or,Bool.or_true,Bool.or_false,Bool.not_true,Bool.not_false];done)|(simp only [eM,a0,cond_true,cond_false,Bool.true_and,Bool.false_and,Bool.and_true,Bool.and_false,Bool.true_or,Bool.false_or,Bool.or_true,Bool.or_false,Bool.not_true,Bool.not_false]<;>rfl)|(simp_all [eM];done)
 |false=>
  obtain⟨v,M1,h1,h2,h3,h4⟩:=w46_1 x n hM a0
  refine⟨v,M1,h1,h2,h3,?_⟩
  subst h4
  first|rfl|(simp only [eM,a0,cond_true,cond_false,Bool.true_and,Bool.false_and,Bool.and_true,Bool.and_false,Bool.true_or,Bool.false_or,Bool.or_true,Bool.or_false,Bool.not_true,Bool.not_false];done)|(simp only [eM,a0,cond_true,cond_false,Bool.true_and,Bool.false_and,Bool.and_true,Bool.and_false,Bool.true_or,Bool.false_or,Bool.or_true,Bool.or_false,Bool.not_true,Bool.not_false]<;>rfl)|(simp_all [eM];done)
abbrev Q82:=FC (lX pI pI) (plain pB) (fun x=>eM x.1 x.2)
theorem Gg{x:(Int)×(Int)}{lv:List Value}{M:aB}(hM:aA M)(h:(lX pI pI) x lv M): ∃v M',kR prog [] 82 Q82 lv M v M':=by
 refine FC.con h ?_
 obtain⟨x,n⟩:=x
 obtain⟨g0,g1,rfl,k0,k1⟩:=h
 obtain rfl:=k0
 obtain rfl:=k1
 obtain⟨v,M',h1,h2,_,h3⟩:=Xr x n hM
 exact⟨v,M',h1,h2,h3⟩
theorem Uw:Tryz.f49.results= #[.tmp 4]:=by kernel_rfl
theorem Bv(e:E4)(n:Int){M:aB}(hM:aA M)(a3:(eM e.f n)=true): (∀(cc1:(eM e.t n)=true)(cc2:(eM e.m 5)=true)(cc3:(decide (e.c>=(0:Int)))=true),∃v M',Ev prog [] 49 [.agg ⟨(cD e)⟩,i64 n] M v M'/\Ext M M'/\aA M'/\v=(.bool (decide (e.c<=(2147483647:Int)))))/\(∀(cc1:(eM e.t n)=true)(cc2:(eM e.m 5)=true)(cc3:(decide (e.c>=(0:Int)))=false),∃v M',Ev prog [] 49 [.agg ⟨(cD e)⟩,i64 n] M v M'/\Ext M M'/\aA M'/\v=(.bool false))/\(∀(cc1:(eM e.t n)=true)(cc2:(eM e.m 5)=false),∃v M',Ev prog [] 49 [.agg ⟨(cD e)⟩,i64 n] M v M'/\Ext M M'/\aA M'/\v=(.bool false))/\(∀(cc1:(eM e.t n)=false),∃v M',Ev prog [] 49 [.agg ⟨(cD e)⟩,i64 n] M v M'/\Ext M M'/\aA M'/\v=(.bool false)):=by
 obtain⟨b1,M2,c3,c4,g5,E6,d6⟩:=bC hM ⟨(cD e),46,4,0,true⟩
 have X9:=(Ext.refl M).trans E6
 obtain⟨d7,d8,a1,c8,c6,c1,d3,d2,d5⟩:=aL (x:=(e.f,n)) d6 Gg (⟨_,_,rfl,rfl,rfl⟩)
 have b2:=d3.old g5
 have d1:d7=(.bool (eM e.f n)):=d5
 subst d1
 have c0:=X9.trans d3
 obtain⟨d0,d9,a2,c9,c7,c2,a8,a7,b9⟩:=aL (x:=(e.t,n)) d2 Gg (⟨_,_,rfl,rfl,rfl⟩)
 refine⟨?_,?_,?_,?_⟩
 ·intro cc1 cc2 cc3
  have b3:=a8.old b2
  have a0:d0=(.bool (eM e.t n)):=b9
  subst a0
  have b0:=c0.trans a8
  obtain⟨w34,d4,a4,b8,b7,b6,a9,a6,b4⟩:=aL (x:=(e.m,5)) a7 Gg (⟨_,_,rfl,rfl,rfl⟩)
  have c5:=a9.old b3
  have a5:w34=(.bool (eM e.m 5)):=b4
  subst a5
  have b5:=b0.trans a9
  exact⟨.bool (decide (e.c<=(2147483647:Int))),a4,Ev.told_tmp (tb:=[]) (n:=60) (F:=[bJ 1 (pt b1 0) M2,aR 7 (i64 e.f),bJ 11 (.bool (eM e.f n)) a1,aQ 14,aQ 16,aR 17 (i64 e.t),aQ 18,aQ 20,bJ 21 (.bool (eM e.t n)) a2,aQ 23,aQ 26,aQ 28,aR 29 (i64 e.m),aQ 30,bJ 31 (.bool (eM e.m 5)) a4,aQ 33,aQ 36,aQ 38,aR 39 (i64 e.c),aQ 40,aQ 43,aQ 46,aQ 48,aR 49 (i64 e.c),aQ 50,aQ 53]) aG aF Tryz.func49 Eb (by kernel_rfl) Uw (fun B=>lV (gH 82 Q82 (gL _))) (fun _ _=>rfl) (by kernel_rfl) (hq (.eq (eI prog 46 (.agg ⟨(cD e)⟩) M) (1,.val (pt b1 0),M2)) (bN (by rw[<-c3,<-c4];kernel_rfl) xAc) (hk (lO 0 bQ g5 rfl) (hq (qC 82 [i64 e.f,i64 n] M2 (.bool (eM e.f n)) a1) (aK rfl c8 c6 c1) (hw (bT a3) (hk (lO 1 bQ b2 rfl) (hw (bT a3) (hq (qC 82 [i64 e.t,i64 n] a1 (.bool (eM e.t n)) a2) (aK rfl c9 c7 c2) (hk (bT a3) (hw (bT cc1) (hk (lO 2 bQ b3 rfl) (hk (bT cc1) (hq (qC 82 [i64 e.m,i64 5] a2 (.bool (eM e.m 5)) a4) (aK rfl b8 b7 b6) (hk (bT cc1) (hw (bT cc2) (hk (lO 3 bQ c5 rfl) (hw (bT cc2) (hw (bT cc3) (hk (lO 3 bQ c5 rfl) (hw (bT cc3) hn))))))))))))))))))),b5,a6,rfl⟩
 ·intro cc1 cc2 cc3
  have b3:=a8.old b2
  have a0:d0=(.bool (eM e.t n)):=b9
  subst a0
  have b0:=c0.trans a8
  obtain⟨w34,d4,a4,b8,b7,b6,a9,a6,b4⟩:=aL (x:=(e.m,5)) a7 Gg (⟨_,_,rfl,rfl,rfl⟩)
  have c5:=a9.old b3
  have a5:w34=(.bool (eM e.m 5)):=b4
  subst a5
  have b5:=b0.trans a9
  exact⟨.bool false,a4,Ev.told_tmp (tb:=[]) (n:=60) (F:=[bJ 1 (pt b1 0) M2,aR 7 (i64 e.f),bJ 11 (.bool (eM e.f n)) a1,aQ 14,aQ 16,aR 17 (i64 e.t),aQ 18,aQ 20,bJ 21 (.bool (eM e.t n)) a2,aQ 23,aQ 26,aQ 28,aR 29 (i64 e.m),aQ 30,bJ 31 (.bool (eM e.m 5)) a4,aQ 33,aQ 36,aQ 38,aR 39 (i64 e.c),aQ 40,aQ 43,aO 46,aO 48,aO 50,aO 53]) aG aF Tryz.func49 Eb (by kernel_rfl) Uw (fun B=>lV (gH 82 Q82 (gL _))) (fun _ _=>rfl) (by kernel_rfl) (hq (.eq (eI prog 46 (.agg ⟨(cD e)⟩) M) (1,.val (pt b1 0),M2)) (bN (by rw[<-c3,<-c4];kernel_rfl) xAc) (hk (lO 0 bQ g5 rfl) (hq (qC 82 [i64 e.f,i64 n] M2 (.bool (eM e.f n)) a1) (aK rfl c8 c6 c1) (hw (bT a3) (hk (lO 1 bQ b2 rfl) (hw (bT a3) (hq (qC 82 [i64 e.t,i64 n] a1 (.bool (eM e.t n)) a2) (aK rfl c9 c7 c2) (hk (bT a3) (hw (bT cc1) (hk (lO 2 bQ b3 rfl) (hk (bT cc1) (hq (qC 82 [i64 e.m,i64 5] a2 (.bool (eM e.m 5)) a4) (aK rfl b8 b7 b6) (hk (bT cc1) (hw (bT cc2) (hk (lO 3 bQ c5 rfl) (hw (bT cc2) (hw (bF cc3) (hw (bF cc3) hn)))))))))))))))))),b5,a6,rfl⟩
 ·intro cc1 cc2
  have b3:=a8.old b2
  have a0:d0=(.bool (eM e.t n)):=b9
  subst a0
  have b0:=c0.trans a8
  obtain⟨w34,d4,a4,b8,b7,b6,a9,a6,b4⟩:=aL (x:=(e.m,5)) a7 Gg (⟨_,_,rfl,rfl,rfl⟩)
  have a5:w34=(.bool (eM e.m 5)):=b4
  subst a5
  have b5:=b0.trans a9
  exact⟨.bool false,a4,Ev.told_tmp (tb:=[]) (n:=60) (F:=[bJ 1 (pt b1 0) M2,aR 7 (i64 e.f),bJ 11 (.bool (eM e.f n)) a1,aQ 14,aQ 16,aR 17 (i64 e.t),aQ 18,aQ 20,bJ 21 (.bool (eM e.t n)) a2,aQ 23,aQ 26,aQ 28,aR 29 (i64 e.m),aQ 30,bJ 31 (.bool (eM e.m 5)) a4,aQ 33,aO 36,aO 38,aO 40,aO 43]) aG aF Tryz.func49 Eb (by kernel_rfl) Uw (fun B=>lV (gH 82 Q82 (gL _))) (fun _ _=>rfl) (by kernel_rfl) (hq (.eq (eI prog 46 (.agg ⟨(cD e)⟩) M) (1,.val (pt b1 0),M2)) (bN (by rw[<-c3,<-c4];kernel_rfl) xAc) (hk (lO 0 bQ g5 rfl) (hq (qC 82 [i64 e.f,i64 n] M2 (.bool (eM e.f n)) a1) (aK rfl c8 c6 c1) (hw (bT a3) (hk (lO 1 bQ b2 rfl) (hw (bT a3) (hq (qC 82 [i64 e.t,i64 n] a1 (.bool (eM e.t n)) a2) (aK rfl c9 c7 c2) (hk (bT a3) (hw (bT cc1) (hk (lO 2 bQ b3 rfl) (hk (bT cc1) (hq (qC 82 [i64 e.m,i64 5] a2 (.bool (eM e.m 5)) a4) (aK rfl b8 b7 b6) (hk (bT cc1) (hw (bF cc2) (hw (bF cc2) hn))))))))))))))),b5,a6,rfl⟩
 ·intro cc1
  have a0:d0=(.bool (eM e.t n)):=b9
  subst a0
  have b0:=c0.trans a8
  exact⟨.bool false,a2,Ev.told_tmp (tb:=[]) (n:=60) (F:=[bJ 1 (pt b1 0) M2,aR 7 (i64 e.f),bJ 11 (.bool (eM e.f n)) a1,aQ 14,aQ 16,aR 17 (i64 e.t),aQ 18,aQ 20,bJ 21 (.bool (eM e.t n)) a2,aQ 23,aO 26,aO 28,aO 30,aO 33]) aG aF Tryz.func49 Eb (by kernel_rfl) Uw (fun B=>lV (gH 82 Q82 (gL _))) (fun _ _=>rfl) (by kernel_rfl) (hq (.eq (eI prog 46 (.agg ⟨(cD e)⟩) M) (1,.val (pt b1 0),M2)) (bN (by rw[<-c3,<-c4];kernel_rfl) xAc) (hk (lO 0 bQ g5 rfl) (hq (qC 82 [i64 e.f,i64 n] M2 (.bool (eM e.f n)) a1) (aK rfl c8 c6 c1) (hw (bT a3) (hk (lO 1 bQ b2 rfl) (hw (bT a3) (hq (qC 82 [i64 e.t,i64 n] a1 (.bool (eM e.t n)) a2) (aK rfl c9 c7 c2) (hk (bT a3) (hw (bF cc1) (hw (bF cc1) hn)))))))))),b0,a7,rfl⟩
theorem w40_4(e:E4)(n:Int){M:aB}(hM:aA M)(a1:(eM e.f n)=false): ∃v M',Ev prog [] 49 [.agg ⟨(cD e)⟩,i64 n] M v M'/\Ext M M'/\aA M'/\v=(.bool false):=by
 obtain⟨b1,M2,a8,a9,g5,E6,b0⟩:=bC hM ⟨(cD e),46,4,0,true⟩
 have X9:=(Ext.refl M).trans E6
 obtain⟨b4,b5,a0,b3,b2,a7,a4,a3,a5⟩:=aL (x:=(e.f,n)) b0 Gg (⟨_,_,rfl,rfl,rfl⟩)
 have a2:b4=(.bool (eM e.f n)):=a5
 subst a2
 have a6:=X9.trans a4
 exact⟨.bool false,a0,Ev.told_tmp (tb:=[]) (n:=60) (F:=[bJ 1 (pt b1 0) M2,aR 7 (i64 e.f),bJ 11 (.bool (eM e.f n)) a0,aO 14,aO 16,aO 18,aO 20,aO 23]) aG aF Tryz.func49 Eb (by kernel_rfl) Uw (fun B=>lV (gH 82 Q82 (gL _))) (fun _ _=>rfl) (by kernel_rfl) (hq (.eq (eI prog 46 (.agg ⟨(cD e)⟩) M) (1,.val (pt b1 0),M2)) (bN (by rw[<-a8,<-a9];kernel_rfl) xAc) (hk (lO 0 bQ g5 rfl) (hq (qC 82 [i64 e.f,i64 n] M2 (.bool (eM e.f n)) a0) (aK rfl b3 b2 a7) (hw (bF a1) (hw (bF a1) (hk (bF a1) hn)))))),a6,a3,rfl⟩
theorem Xq(e:E4)(n:Int){M:aB}(hM:aA M): ∃v M',Ev prog [] 49 [.agg ⟨(cD e)⟩,i64 n] M v M'/\Ext M M'/\aA M'/\v= .bool (iI n e):=by
 cases a0:(eM e.f n) with
 |true=>
  cases a1:(eM e.t n) with
  |true=>
   cases a2:(eM e.m 5) with
   |true=>
    cases a3:(decide (e.c>=(0:Int))) with
    |true=>
     obtain⟨v,M1,h1,h2,h3,h4⟩:=(Bv e n hM a0).1 a1 a2 a3
     refine⟨v,M1,h1,h2,h3,?_⟩
     subst h4
     first|rfl|(simp only [iI,a0,a1,a2,a3,cond_true,cond_false,Bool.true_and,Bool.false_and,Bool.and_true,Bool.and_false,Bool.true_or,Bool.false_or,Bool.or_true,Bool.or_false,Bool.not_true,Bool.not_false];done)|(simp only [iI,a0,a1,a2,a3,cond_true,cond_false,Bool.true_and,Bool.false_and,Bool.and_true,Bool.and_false,Bool.true_or,Bool.false_or,Bool.or_true,Bool.or_false,Bool.not_true,Bool.not_false]<;>rfl)|(simp_all [iI];done)
    |false=>
     obtain⟨v,M1,h1,h2,h3,h4⟩:=(Bv e n hM a0).2.1 a1 a2 a3
     refine⟨v,M1,h1,h2,h3,?_⟩
     subst h4
     first|rfl|(simp only [iI,a0,a1,a2,a3,cond_true,cond_false,Bool.true_and,Bool.false_and,Bool.and_true,Bool.and_false,Bool.true_or,Bool.false_or,Bool.or_true,Bool.or_false,Bool.not_true,Bool.not_false];done)|(simp only [iI,a0,a1,a2,a3,cond_true,cond_false,Bool.true_and,Bool.false_and,Bool.and_true,Bool.and_false,Bool.true_or,Bool.false_or,Bool.or_true,Bool.or_false,Bool.not_true,Bool.not_false]<;>rfl)|(simp_all [iI];done)
   |false=>
    obtain⟨v,M1,h1,h2,h3,h4⟩:=(Bv e n hM a0).2.2.1 a1 a2
    refine⟨v,M1,h1,h2,h3,?_⟩
    subst h4
    first|rfl|(simp only [iI,a0,a1,a2,cond_true,cond_false,Bool.true_and,Bool.false_and,Bool.and_true,Bool.and_false,Bool.true_or,Bool.false_or,Bool.or_true,Bool.or_false,Bool.not_true,Bool.not_false];done)|(simp only [iI,a0,a1,a2,cond_true,cond_false,Bool.true_and,Bool.false_and,Bool.and_true,Bool.and_false,Bool.true_or,Bool.false_or,Bool.or_true,Bool.or_false,Bool.not_true,Bool.not_false]<;>rfl)|(simp_all [iI];done)
  |false=>
   obtain⟨v,M1,h1,h2,h3,h4⟩:=(Bv e n hM a0).2.2.2 a1
   refine⟨v,M1,h1,h2,h3,?_⟩
   subst h4
   first|rfl|(simp only [iI,a0,a1,cond_true,cond_false,Bool.true_and,Bool.false_and,Bool.and_true,Bool.and_false,Bool.true_or,Bool.false_or,Bool.or_true,Bool.or_false,Bool.not_true,Bool.not_false];done)|(simp only [iI,a0,a1,cond_true,cond_false,Bool.true_and,Bool.false_and,Bool.and_true,Bool.and_false,Bool.true_or,Bool.false_or,Bool.or_true,Bool.or_false,Bool.not_true,Bool.not_false]<;>rfl)|(simp_all [iI];done)
 |false=>
  obtain⟨v,M1,h1,h2,h3,h4⟩:=w40_4 e n hM a0
  refine⟨v,M1,h1,h2,h3,?_⟩
  subst h4
  first|rfl|(simp only [iI,a0,cond_true,cond_false,Bool.true_and,Bool.false_and,Bool.and_true,Bool.and_false,Bool.true_or,Bool.false_or,Bool.or_true,Bool.or_false,Bool.not_true,Bool.not_false];done)|(simp only [iI,a0,cond_true,cond_false,Bool.true_and,Bool.false_and,Bool.and_true,Bool.and_false,Bool.true_or,Bool.false_or,Bool.or_true,Bool.or_false,Bool.not_true,Bool.not_false]<;>rfl)|(simp_all [iI];done)
abbrev Q49:=FC (lX pE pI) (plain pB) (fun x=>iI x.2 x.1)
theorem con49{x:(E4)×(Int)}{lv:List Value}{M:aB}(hM:aA M)(h:(lX pE pI) x lv M): ∃v M',kR prog [] 49 Q49 lv M v M':=by
 refine FC.con h ?_
 obtain⟨e,n⟩:=x
 obtain⟨g0,g1,rfl,k0,k1⟩:=h
 obtain rfl:=k0
 obtain rfl:=k1
 obtain⟨v,M',h1,h2,_,h3⟩:=Xq e n hM
 exact⟨v,M',h1,h2,h3⟩
theorem rK48:Tryz.f48.results= #[.tmp 2]:=by kernel_rfl
theorem w39_0(n:Int){M:aB}(hM:aA M)(a0:(decide (n>=(1:Int)))=true): ∃v M',Ev prog [] 48 [i64 n] M v M'/\Ext M M'/\aA M'/\v=(.bool (decide (n<=(60:Int)))):=by
 exact⟨.bool (decide (n<=(60:Int))),M,Ev.told_tmp (tb:=[]) (n:=60) (F:=[aQ 8,aQ 10,aQ 13]) aG aF Tryz.func48 Ul (by kernel_rfl) rK48 (aI prog) (fun _ _=>rfl) (by kernel_rfl) (hw (bT a0) (hk (bT a0) hn)),Ext.refl M,hM,rfl⟩
theorem w39_1(n:Int){M:aB}(hM:aA M)(a0:(decide (n>=(1:Int)))=false): ∃v M',Ev prog [] 48 [i64 n] M v M'/\Ext M M'/\aA M'/\v=(.bool false):=by
 exact⟨.bool false,M,Ev.told_tmp (tb:=[]) (n:=60) (F:=[aO 8,aO 10,aO 13]) aG aF Tryz.func48 Ul (by kernel_rfl) rK48 (aI prog) (fun _ _=>rfl) (by kernel_rfl) (hw (bF a0) (hk (bF a0) hn)),Ext.refl M,hM,rfl⟩
theorem Xp(n:Int){M:aB}(hM:aA M): ∃v M',Ev prog [] 48 [i64 n] M v M'/\Ext M M'/\aA M'/\v= .bool (gA n):=by
 cases a0:(decide (n>=(1:Int))) with
 |true=>
  obtain⟨v,M1,h1,h2,h3,h4⟩:=w39_0 n hM a0
  refine⟨v,M1,h1,h2,h3,?_⟩
  subst h4
  first|rfl|(simp only [gA,a0,cond_true,cond_false,Bool.true_and,Bool.false_and,Bool.and_true,Bool.and_false,Bool.true_or,Bool.false_or,Bool.or_true,Bool.or_false,Bool.not_true,Bool.not_false];done)|(simp only [gA,a0,cond_true,cond_false,Bool.true_and,Bool.false_and,Bool.and_true,Bool.and_false,Bool.true_or,Bool.false_or,Bool.or_true,Bool.or_false,Bool.not_true,Bool.not_false]<;>rfl)|(simp_all [gA];done)
 |false=>
  obtain⟨v,M1,h1,h2,h3,h4⟩:=w39_1 n hM a0
  refine⟨v,M1,h1,h2,h3,?_⟩
  subst h4
  first|rfl|(simp only [gA,a0,cond_true,cond_false,Bool.true_and,Bool.false_and,Bool.and_true,Bool.and_false,Bool.true_or,Bool.false_or,Bool.or_true,Bool.or_false,Bool.not_true,Bool.not_false];done)|(simp only [gA,a0,cond_true,cond_false,Bool.true_and,Bool.false_and,Bool.and_true,Bool.and_false,Bool.true_or,Bool.false_or,Bool.or_true,Bool.or_false,Bool.not_true,Bool.not_false]<;>rfl)|(simp_all [gA];done)
abbrev Q48:=FC (sZ pI) (plain pB) (fun x=>gA x)
theorem Pg{n:(Int)}{lv:List Value}{M:aB}(hM:aA M)(h:(sZ pI) n lv M): ∃v M',kR prog [] 48 Q48 lv M v M':=by
 refine FC.con h ?_
 obtain⟨g0,rfl,k0⟩:=h
 obtain rfl:=k0
 obtain⟨v,M',h1,h2,_,h3⟩:=Xp n hM
 exact⟨v,M',h1,h2,h3⟩
open Tryz
theorem nL:(prog.underlying 24).map dV=some false:=by kernel_rfl
theorem Qg:(prog.info? 24).map (·.size)=some 1:=by kernel_rfl
theorem tL:(prog.underlying 46).map dV=some true:=by kernel_rfl
theorem nT:(prog.info? 46).map (·.size)=some 4:=by kernel_rfl
theorem Pn(b bb o m c i:Nat)(n:Int)(e:E4){M M0:aB}(hM:aA M)(X0:Ext M0 M)(gb:M.get b=some ⟨[i64 n,aC bb o m c],26,2,0,true⟩)(a4:(decide ((i:Int)<(m:Int)))=true): (∀(cc1:(iI n e)=true)(hld0:bA prog 46 ⟨bb,o+((i:Int):Int).toNat*4,none⟩ M0=some (.agg ⟨(cD e)⟩)),∃T1 M',Rd prog [] (q24.loopAt 0) Tryz.f24.ntmps (fr [(1,(pt b 0)),(16,(aC bb o m c)),(17,(i64 (m:Int))),(18,(i64 (i:Int)))]) M .normal T1 M'/\ [1,16,17,18].map T1.get= [some (pt b 0),some (aC bb o m c),some (i64 (m:Int)),some (i64 (IntKind.wrap .i64 ((i:Int)+(1:Int))))]/\Ext M0 M'/\aA M'/\M'.get b=some ⟨[i64 n,aC bb o m c],26,2,0,true⟩/\ ∀id k,M.get id=some k->id≠b->M'.get id=some k)/\(∀(cc1:(iI n e)=false)(hld0:bA prog 46 ⟨bb,o+((i:Int):Int).toNat*4,none⟩ M0=some (.agg ⟨(cD e)⟩)),∃T1 M',Rd prog [] (q24.loopAt 0) Tryz.f24.ntmps (fr [(1,(pt b 0)),(16,(aC bb o m c)),(17,(i64 (m:Int))),(18,(i64 (i:Int)))]) M .ret T1 M'/\ [2].map T1.get= [some (.bool false)]/\Ext M0 M'/\aA M'/\M'.get b=some ⟨[i64 n,aC bb o m c],26,2,0,true⟩/\ ∀id k,M.get id=some k->id≠b->M'.get id=some k):=by
 obtain⟨b1,M2,a5,b4,g5,E6,c4⟩:=bC hM ⟨[i64 0,i64 0,i64 0,i64 0],46,4,0,true⟩
 have c5:=lQ a5 X0
 have a7:=fJ gb a5
 have g8:=E6.old gb
 have c2:=X0.trans E6
 obtain⟨a0,c0,b5,a3,c3,b0,c6⟩:=aZ (o:=0) (v:=(.agg ⟨(cD e)⟩)) (new:= (cD e)) c2 c5 c4 nT g5 rfl rfl (Nat.zero_le _) (xAd rfl) rfl
 have a9:=(a3 _ a7).trans g8
 obtain⟨c7,c8,a1,b9,b8,b3,a6,a2,c1⟩:=aL (x:=(e,n)) b0 con49 (⟨_,_,rfl,rfl,rfl⟩)
 have b6:=a6.old a9
 have a8:c7=(.bool (iI n e)):=c1
 subst a8
 have b2:=c3.trans a6
 have b7: ∀id k,M.get id=some k->id≠b->a1.get id=some k:=fun id k g h_b=>by
  have g0:=aB.lt_of_get g
  have g:=E6.old g
  have g:=((fun id h _=>a3 id h) id (by omega) (aB.lt_of_get g)).trans g
  have g:=a6.old g
  exact g
 refine⟨?_,?_⟩
 ·intro cc1 hld0
  obtain⟨T1,h1,h2⟩:=Rd.told (tb:=[]) (n:=60) (F:=[aQ 2,aQ 4,aR 6 (.agg ⟨(cD e)⟩),bJ 8 (pt b1 0) M2,jE 10 a0,aR 12 (.agg ⟨(cD e)⟩),aR 16 (i64 n),bJ 18 (.bool (iI n e)) a1,aO 21]) aG aF (fun B=>lV (gH 49 Q49 (gL _))) (fun _ _=>rfl) (by kernel_rfl) (hk (bT a4) (hk (qI (i:Int) m (by omega) (by simp at a4;omega)) (hk (lD (aN X0 hld0)) (hq (.eq (cM prog 46 M) (1,.val (pt b1 0),M2)) (bN (by rw[<-a5,<-b4];kernel_rfl) xAc) (hq (qS 46 b1 0 (.agg ⟨(cD e)⟩) M2 a0) (dB c0) (hq (qL 46 b1 0 a0 (.agg ⟨(cD e)⟩)) (lA ⟨tL,nT⟩ b5 rfl) (hk (lO 0 bQ a9 rfl) (hq (qC 49 [.agg ⟨(cD e)⟩,i64 n] a0 (.bool (iI n e)) a1) (aK rfl b9 b8 b3) (hk (bF (x:=!(iI n e)) (by rw[cc1];rfl)) hn)))))))))
  exact⟨T1,a1,h1,h2,b2,a2,b6,b7⟩
 ·intro cc1 hld0
  obtain⟨T1,h1,h2⟩:=Rd.told (tb:=[]) (n:=60) (F:=[aQ 2,aQ 4,aR 6 (.agg ⟨(cD e)⟩),bJ 8 (pt b1 0) M2,jE 10 a0,aR 12 (.agg ⟨(cD e)⟩),aR 16 (i64 n),bJ 18 (.bool (iI n e)) a1,aQ 21]) aG aF (fun B=>lV (gH 49 Q49 (gL _))) (fun _ _=>rfl) (by kernel_rfl) (hk (bT a4) (hk (qI (i:Int) m (by omega) (by simp at a4;omega)) (hk (lD (aN X0 hld0)) (hq (.eq (cM prog 46 M) (1,.val (pt b1 0),M2)) (bN (by rw[<-a5,<-b4];kernel_rfl) xAc) (hq (qS 46 b1 0 (.agg ⟨(cD e)⟩) M2 a0) (dB c0) (hq (qL 46 b1 0 a0 (.agg ⟨(cD e)⟩)) (lA ⟨tL,nT⟩ b5 rfl) (hk (lO 0 bQ a9 rfl) (hq (qC 49 [.agg ⟨(cD e)⟩,i64 n] a0 (.bool (iI n e)) a1) (aK rfl b9 b8 b3) (hk (bT (x:=!(iI n e)) (by rw[cc1];rfl)) hn)))))))))
  exact⟨T1,a1,h1,h2,b2,a2,b6,b7⟩
theorem r27x(b:Nat)(a:Option Addr)(m c i:Nat)(n:Int){M:aB}(gb:M.get b=some ⟨[i64 n,.slice a m c],26,2,0,true⟩)(a0:(decide ((i:Int)<(m:Int)))=false): ∃T1,Rd prog [] (q24.loopAt 0) Tryz.f24.ntmps (fr [(1,(pt b 0)),(16,(.slice a m c)),(17,(i64 (m:Int))),(18,(i64 (i:Int)))]) M (.exit 0) T1 M/\ [].map T1.get= []:=by
 exact Rd.told (tb:=[]) (n:=60) (F:=[aO 2]) aG aF (aI prog) (fun _ _=>rfl) (by kernel_rfl) (hk (bF a0) hn)
theorem Tq{b:Nat}{a:Option Addr}{c:Nat}{n:Int}{l:List E4}{M:aB}(hM:aA M)(hs:Bl M (.slice a l.length c) l)(hg:M.get b=some ⟨[i64 n,.slice a l.length c],26,2,0,true⟩):
  ∃e O M',bL prog [] (q24.loopAt 0) Tryz.f24.ntmps (fr [(1,pt b 0),(16,.slice a l.length c),(17,i64 l.length),(18,i64 ((0:Nat):Int))]) M e (fr O) M'/\Ext M M'/\aA M'/\
   ((e= .exit 0/\O= []/\l.all (iI n)=true)\/(e= .ret/\O= [(2,.bool false)]/\l.all (iI n)=false)):=by
 have hlen:=hs.len
 refine bL.forE (σ:=Unit) (n:=l.length) (Inv:=fun i _ M1=>Ext M M1/\aA M1/\M1.get b=some ⟨[i64 n,.slice a l.length c],26,2,0,true⟩/\(l.take i).all (iI n)=true)
  (F:=fun i _=> [(1,pt b 0),(16,.slice a l.length c),(17,i64 l.length),(18,i64 ((i:Nat):Int))])
  (Post:=fun e O M'=>Ext M M'/\aA M'/\((e= .exit 0/\O= []/\l.all (iI n)=true)\/(e= .ret/\O= [(2,.bool false)]/\l.all (iI n)=false))) ?_ ?_ l.length 0 (by omega) (s:=()) ⟨Ext.refl M,hM,hg,by simp⟩
 ·rintro i _ M1 hi ⟨X,a0,a1,hall⟩
  obtain⟨bb,o,rfl,_⟩:=bU hs (by omega)
  have ht:l[i]?=some l[i]:=xAe hi
  have a2:=kP (P:=prog) (ty:=46) hs ht tL nT
  cases hf:iI n l[i] with
  |true=>
   obtain⟨T1,M2,h1,h2,h3,h4,h5,_⟩:=(Pn b bb o l.length c i n l[i] a0 X a1 (xAb (by omega))).1 hf a2
   rw[bD (by omega)] at h2
   refine .inl ⟨(),T1,M2,h1,h2,h3,h4,h5,?_⟩
   rw[List.take_succ_eq_append_getElem hi,List.all_append,hall]
   simp [hf]
  |false=>
   obtain⟨T1,M2,h1,h2,h3,h4,h5,_⟩:=(Pn b bb o l.length c i n l[i] a0 X a1 (xAb (by omega))).2 hf a2
   refine .inr ⟨_,[(2,.bool false)],T1,M2,h1,by simp,h2,h3,h4,.inr ⟨rfl,rfl,?_⟩⟩
   rw[List.all_eq_false]
   exact⟨l[i],List.getElem_mem hi,by simp [hf]⟩
 ·rintro _ M1 ⟨X,a0,a1,hall⟩
  obtain⟨T1,h1,h2⟩:=r27x b a l.length c l.length n a1 (xAa (by omega))
  refine⟨_,[],T1,M1,h1,by simp,h2,X,a0,.inl ⟨rfl,rfl,?_⟩⟩
  rwa [List.take_length] at hall
theorem Tt{b:Nat}{a:Option Addr}{c:Nat}{n:Int}{l:List E4}{M:aB}(hM:aA M)(hs:Bl M (.slice a l.length c) l)(hg:M.get b=some ⟨[i64 n,.slice a l.length c],26,2,0,true⟩)(h:l.all (iI n)=true):
  ∃M',bL prog [] (q24.loopAt 0) Tryz.f24.ntmps (fr [(1,pt b 0),(16,.slice a l.length c),(17,i64 l.length),(18,i64 ((0:Nat):Int))]) M (.exit 0) (fr []) M'/\Ext M M'/\aA M':=by
 obtain⟨e,O,M',h1,h2,h3,h4|h4⟩:=Tq hM hs hg
 ·obtain⟨rfl,rfl,_⟩:=h4;exact⟨M',h1,h2,h3⟩
 ·rw[h] at h4;cases h4.2.2
theorem Ts{b:Nat}{a:Option Addr}{c:Nat}{n:Int}{l:List E4}{M:aB}(hM:aA M)(hs:Bl M (.slice a l.length c) l)(hg:M.get b=some ⟨[i64 n,.slice a l.length c],26,2,0,true⟩)(h:l.all (iI n)=false):
  ∃M',bL prog [] (q24.loopAt 0) Tryz.f24.ntmps (fr [(1,pt b 0),(16,.slice a l.length c),(17,i64 l.length),(18,i64 ((0:Nat):Int))]) M .ret (fr [(2,.bool false)]) M'/\Ext M M'/\aA M':=by
 obtain⟨e,O,M',h1,h2,h3,h4|h4⟩:=Tq hM hs hg
 ·rw[h] at h4;cases h4.2.2
 ·obtain⟨rfl,rfl,_⟩:=h4;exact⟨M',h1,h2,h3⟩
theorem Xg:Tryz.f24.results= #[.tmp 2]:=by kernel_rfl
theorem w27_0(ln:Int)(al:Option Addr)(cl:Nat)(l:List E4){M:aB}(hM:aA M)(hl:aS l (.slice al l.length cl) M)(a0:(gA ln)=true)(a7:(decide ((l.length:Int)>(400:Int)))=true): ∃v M',Ev prog [] 24 [.agg ⟨[i64 ln,.slice al l.length cl]⟩] M v M'/\Ext M M'/\aA M'/\v=(.bool false):=by
 obtain⟨b1,M2,a9,b0,g5,E6,b3⟩:=bC hM ⟨[i64 ln,.slice al l.length cl],26,2,0,true⟩
 have X9:=(Ext.refl M).trans E6
 obtain⟨b6,b7,a1,b5,b4,a8,a4,a3,a5⟩:=aL (x:=ln) b3 Pg (⟨_,rfl,rfl⟩)
 have b2:=a4.old g5
 have a2:b6=(.bool (gA ln)):=a5
 subst a2
 have a6:=X9.trans a4
 exact⟨.bool false,a1,Ev.told_tmp (tb:=[]) (n:=60) (F:=[bJ 1 (pt b1 0) M2,aR 7 (i64 ln),bJ 9 (.bool (gA ln)) a1,aO 14,aO 16,aR 17 (.slice al l.length cl),aO 18,aQ 19,aO 20,aO 23,aQ 24]) aG aF Tryz.func24 Jc (by kernel_rfl) Xg (fun B=>lV (gH 48 Q48 (gL _))) (fun _ _=>rfl) (by kernel_rfl) (hq (.eq (eI prog 26 (.agg ⟨[i64 ln,.slice al l.length cl]⟩) M) (1,.val (pt b1 0),M2)) (bN (by rw[<-a9,<-b0];kernel_rfl) xAc) (hk (lO 0 bQ g5 rfl) (hq (qC 48 [i64 ln] M2 (.bool (gA ln)) a1) (aK rfl b5 b4 a8) (hk (bF (x:=!(gA ln)) (by rw[a0];rfl)) (hk (bF (x:=!(gA ln)) (by rw[a0];rfl)) (hk (lO 1 nL b2 rfl) (hk (bF (x:=!(gA ln)) (by rw[a0];rfl)) (hk (lN hl.ln) (hk (bF (x:=!(gA ln)) (by rw[a0];rfl)) (hk (bF (x:=!(gA ln)) (by rw[a0];rfl)) (hk (bT a7) hn))))))))))),a6,a3,rfl⟩
theorem w27_1(ln:Int)(al:Option Addr)(cl:Nat)(l:List E4){M:aB}(hM:aA M)(hl:aS l (.slice al l.length cl) M)(a0:(gA ln)=true)(b4:(decide ((l.length:Int)>(400:Int)))=false)(b5:(l.all (iI ln))=true): ∃v M',Ev prog [] 24 [.agg ⟨[i64 ln,.slice al l.length cl]⟩] M v M'/\Ext M M'/\aA M'/\v=(.bool true):=by
 obtain⟨b1,M2,b7,b8,g5,E6,b9⟩:=bC hM ⟨[i64 ln,.slice al l.length cl],26,2,0,true⟩
 have X9:=(Ext.refl M).trans E6
 obtain⟨c2,c3,a1,c1,c0,b6,a8,a6,b2⟩:=aL (x:=ln) b9 Pg (⟨_,rfl,rfl⟩)
 have a4:=a8.old g5
 have a3:c2=(.bool (gA ln)):=b2
 subst a3
 have a9:=X9.trans a8
 obtain⟨a2,a5,b0,a7⟩:=Tt a6 (AP.Ext (R:=aS) hl a9) a4 b5
 have b3:=a9.trans b0
 exact⟨.bool true,a2,Ev.told_tmp (tb:=[0]) (n:=60) (F:=[bJ 1 (pt b1 0) M2,aR 7 (i64 ln),bJ 9 (.bool (gA ln)) a1,aO 14,aO 16,aR 17 (.slice al l.length cl),aO 18,aQ 19,aO 20,aO 23,aO 24,aR 28 (.slice al l.length cl),aQ 30,.blk 33 [1,16,17,18] .normal (fr []) a2]) aG aF Tryz.func24 Jc (by kernel_rfl) Xg (fun B=>wR (gH 48 Q48 (gL _)) 0 a5) (fun _ h=>bZ h) (by kernel_rfl) (hq (.eq (eI prog 26 (.agg ⟨[i64 ln,.slice al l.length cl]⟩) M) (1,.val (pt b1 0),M2)) (bN (by rw[<-b7,<-b8];kernel_rfl) xAc) (hk (lO 0 bQ g5 rfl) (hq (qC 48 [i64 ln] M2 (.bool (gA ln)) a1) (aK rfl c1 c0 b6) (hk (bF (x:=!(gA ln)) (by rw[a0];rfl)) (hk (bF (x:=!(gA ln)) (by rw[a0];rfl)) (hk (lO 1 nL a4 rfl) (hk (bF (x:=!(gA ln)) (by rw[a0];rfl)) (hk (lN hl.ln) (hk (bF (x:=!(gA ln)) (by rw[a0];rfl)) (hk (bF (x:=!(gA ln)) (by rw[a0];rfl)) (hk (bF b4) (hk (lO 1 nL a4 rfl) (hk (lN hl.ln) (hq (.blk 0 (.loop (q24.loopAt 0)) Tryz.f24.ntmps [1,16,17,18] [some (pt b1 0),some (.slice al l.length cl),some (i64 (l.length:Int)),some (i64 0)] a1 .normal (fr []) a2) (fB rfl) hn)))))))))))))),b3,a7,rfl⟩
theorem w27_2(ln:Int)(al:Option Addr)(cl:Nat)(l:List E4){M:aB}(hM:aA M)(hl:aS l (.slice al l.length cl) M)(a0:(gA ln)=true)(b4:(decide ((l.length:Int)>(400:Int)))=false)(b5:(l.all (iI ln))=false): ∃v M',Ev prog [] 24 [.agg ⟨[i64 ln,.slice al l.length cl]⟩] M v M'/\Ext M M'/\aA M'/\v=(.bool false):=by
 obtain⟨b1,M2,b7,b8,g5,E6,b9⟩:=bC hM ⟨[i64 ln,.slice al l.length cl],26,2,0,true⟩
 have X9:=(Ext.refl M).trans E6
 obtain⟨c2,c3,a1,c1,c0,b6,a8,a6,b2⟩:=aL (x:=ln) b9 Pg (⟨_,rfl,rfl⟩)
 have a4:=a8.old g5
 have a3:c2=(.bool (gA ln)):=b2
 subst a3
 have a9:=X9.trans a8
 obtain⟨a2,a5,b0,a7⟩:=Ts a6 (AP.Ext (R:=aS) hl a9) a4 b5
 have b3:=a9.trans b0
 exact⟨.bool false,a2,Ev.told_tmp (tb:=[0]) (n:=60) (F:=[bJ 1 (pt b1 0) M2,aR 7 (i64 ln),bJ 9 (.bool (gA ln)) a1,aO 14,aO 16,aR 17 (.slice al l.length cl),aO 18,aQ 19,aO 20,aO 23,aO 24,aR 28 (.slice al l.length cl),aQ 30,.blk 33 [1,16,17,18] .ret (fr [(2,(.bool false))]) a2]) aG aF Tryz.func24 Jc (by kernel_rfl) Xg (fun B=>wR (gH 48 Q48 (gL _)) 0 a5) (fun _ h=>bZ h) (by kernel_rfl) (hq (.eq (eI prog 26 (.agg ⟨[i64 ln,.slice al l.length cl]⟩) M) (1,.val (pt b1 0),M2)) (bN (by rw[<-b7,<-b8];kernel_rfl) xAc) (hk (lO 0 bQ g5 rfl) (hq (qC 48 [i64 ln] M2 (.bool (gA ln)) a1) (aK rfl c1 c0 b6) (hk (bF (x:=!(gA ln)) (by rw[a0];rfl)) (hk (bF (x:=!(gA ln)) (by rw[a0];rfl)) (hk (lO 1 nL a4 rfl) (hk (bF (x:=!(gA ln)) (by rw[a0];rfl)) (hk (lN hl.ln) (hk (bF (x:=!(gA ln)) (by rw[a0];rfl)) (hk (bF (x:=!(gA ln)) (by rw[a0];rfl)) (hk (bF b4) (hk (lO 1 nL a4 rfl) (hk (lN hl.ln) (hq (.blk 0 (.loop (q24.loopAt 0)) Tryz.f24.ntmps [1,16,17,18] [some (pt b1 0),some (.slice al l.length cl),some (i64 (l.length:Int)),some (i64 0)] a1 .ret (fr [(2,(.bool false))]) a2) (fB rfl) hn)))))))))))))),b3,a7,rfl⟩
theorem w27_3(ln:Int)(al:Option Addr)(cl:Nat)(l:List E4){M:aB}(hM:aA M)(hl:aS l (.slice al l.length cl) M)(a0:(gA ln)=false): ∃v M',Ev prog [] 24 [.agg ⟨[i64 ln,.slice al l.length cl]⟩] M v M'/\Ext M M'/\aA M'/\v=(.bool false):=by
 obtain⟨b1,M2,a8,a9,g5,E6,b0⟩:=bC hM ⟨[i64 ln,.slice al l.length cl],26,2,0,true⟩
 have X9:=(Ext.refl M).trans E6
 obtain⟨b4,b5,a1,b3,b2,a7,a4,a3,a5⟩:=aL (x:=ln) b0 Pg (⟨_,rfl,rfl⟩)
 have a2:b4=(.bool (gA ln)):=a5
 subst a2
 have a6:=X9.trans a4
 exact⟨.bool false,a1,Ev.told_tmp (tb:=[]) (n:=60) (F:=[bJ 1 (pt b1 0) M2,aR 7 (i64 ln),bJ 9 (.bool (gA ln)) a1,aQ 14,aQ 16,aQ 18,aQ 20,aQ 23]) aG aF Tryz.func24 Jc (by kernel_rfl) Xg (fun B=>lV (gH 48 Q48 (gL _))) (fun _ _=>rfl) (by kernel_rfl) (hq (.eq (eI prog 26 (.agg ⟨[i64 ln,.slice al l.length cl]⟩) M) (1,.val (pt b1 0),M2)) (bN (by rw[<-a8,<-a9];kernel_rfl) xAc) (hk (lO 0 bQ g5 rfl) (hq (qC 48 [i64 ln] M2 (.bool (gA ln)) a1) (aK rfl b3 b2 a7) (hk (bT (x:=!(gA ln)) (by rw[a0];rfl)) (hk (bT (x:=!(gA ln)) (by rw[a0];rfl)) (hk (bT (x:=!(gA ln)) (by rw[a0];rfl)) (hk (bT (x:=!(gA ln)) (by rw[a0];rfl)) (hk (bT (x:=!(gA ln)) (by rw[a0];rfl)) hn)))))))),a6,a3,rfl⟩
theorem Xm(ln:Int)(al:Option Addr)(cl:Nat)(l:List E4){M:aB}(hM:aA M)(hl:aS l (.slice al l.length cl) M): ∃v M',Ev prog [] 24 [.agg ⟨[i64 ln,.slice al l.length cl]⟩] M v M'/\Ext M M'/\aA M'/\v= .bool (fC ln l):=by
 cases a0:(gA ln) with
 |true=>
  cases a1:(decide ((l.length:Int)>(400:Int))) with
  |true=>
   obtain⟨v,M1,h1,h2,h3,h4⟩:=w27_0 ln al cl l hM hl a0 a1
   refine⟨v,M1,h1,h2,h3,?_⟩
   subst h4
   first|rfl|(simp only [fC,a0,a1,cond_true,cond_false,Bool.true_and,Bool.false_and,Bool.and_true,Bool.and_false,Bool.true_or,Bool.false_or,Bool.or_true,Bool.or_false,Bool.not_true,Bool.not_false];done)|(simp only [fC,a0,a1,cond_true,cond_false,Bool.true_and,Bool.false_and,Bool.and_true,Bool.and_false,Bool.true_or,Bool.false_or,Bool.or_true,Bool.or_false,Bool.not_true,Bool.not_false]<;>rfl)|(simp_all [fC];done)
  |false=>
   cases a2:(l.all (iI ln)) with
   |true=>
    obtain⟨v,M1,h1,h2,h3,h4⟩:=w27_1 ln al cl l hM hl a0 a1 a2
    refine⟨v,M1,h1,h2,h3,?_⟩
    subst h4
    first|rfl|(simp only [fC,a0,a1,a2,cond_true,cond_false,Bool.true_and,Bool.false_and,Bool.and_true,Bool.and_false,Bool.true_or,Bool.false_or,Bool.or_true,Bool.or_false,Bool.not_true,Bool.not_false];done)|(simp only [fC,a0,a1,a2,cond_true,cond_false,Bool.true_and,Bool.false_and,Bool.and_true,Bool.and_false,Bool.true_or,Bool.false_or,Bool.or_true,Bool.or_false,Bool.not_true,Bool.not_false]<;>rfl)|(simp_all [fC];done)
   |false=>
    obtain⟨v,M1,h1,h2,h3,h4⟩:=w27_2 ln al cl l hM hl a0 a1 a2
    refine⟨v,M1,h1,h2,h3,?_⟩
    subst h4
    first|rfl|(simp only [fC,a0,a1,a2,cond_true,cond_false,Bool.true_and,Bool.false_and,Bool.and_true,Bool.and_false,Bool.true_or,Bool.false_or,Bool.or_true,Bool.or_false,Bool.not_true,Bool.not_false];done)|(simp only [fC,a0,a1,a2,cond_true,cond_false,Bool.true_and,Bool.false_and,Bool.and_true,Bool.and_false,Bool.true_or,Bool.false_or,Bool.or_true,Bool.or_false,Bool.not_true,Bool.not_false]<;>rfl)|(simp_all [fC];done)
 |false=>
  obtain⟨v,M1,h1,h2,h3,h4⟩:=w27_3 ln al cl l hM hl a0
  refine⟨v,M1,h1,h2,h3,?_⟩
  subst h4
  first|rfl|(simp only [fC,a0,cond_true,cond_false,Bool.true_and,Bool.false_and,Bool.and_true,Bool.and_false,Bool.true_or,Bool.false_or,Bool.or_true,Bool.or_false,Bool.not_true,Bool.not_false];done)|(simp only [fC,a0,cond_true,cond_false,Bool.true_and,Bool.false_and,Bool.and_true,Bool.and_false,Bool.true_or,Bool.false_or,Bool.or_true,Bool.or_false,Bool.not_true,Bool.not_false]<;>rfl)|(simp_all [fC];done)
abbrev Q24:=FC (sZ Rc) (plain pB) (fun x=>fC x.1 x.2)
theorem Sm{l:(Int×List E4)}{lv:List Value}{M:aB}(hM:aA M)(h:(sZ Rc) l lv M): ∃v M',kR prog [] 24 Q24 lv M v M':=by
 refine FC.con h ?_
 obtain⟨g0,rfl,k0⟩:=h
 obtain⟨ln,l⟩:=l
 obtain⟨_,rfl,hl⟩:=k0
 obtain⟨al,cl,rfl⟩:=aJ.form hl
 obtain⟨v,M',h1,h2,_,h3⟩:=Xm ln al cl l hM hl
 exact⟨v,M',h1,h2,h3⟩
open Tryz
theorem rK99:Tryz.f99.results= #[.tmp 2]:=by kernel_rfl
theorem w35_0(e:E4){M:aB}(hM:aA M): ∃v M',Ev prog [] 99 [.agg ⟨(cD e)⟩] M v M'/\Ext M M'/\aA M'/\v=(i64 e.t):=by
 obtain⟨b1,M2,a0,a1,g5,E6,a2⟩:=bC hM ⟨(cD e),121,4,0,true⟩
 have X9:=(Ext.refl M).trans E6
 exact⟨i64 e.t,M2,Ev.told_tmp (tb:=[]) (n:=60) (F:=[bJ 1 (pt b1 0) M2,aR 7 (i64 e.t)]) aG aF Tryz.func99 aA7 (by kernel_rfl) rK99 (aI prog) (fun _ _=>rfl) (by kernel_rfl) (hq (.eq (eI prog 121 (.agg ⟨(cD e)⟩) M) (1,.val (pt b1 0),M2)) (bN (by rw[<-a0,<-a1];kernel_rfl) xAc) (hk (lO 1 bQ g5 rfl) hn)),X9,a2,rfl⟩
theorem Xn(e:E4){M:aB}(hM:aA M): ∃v M',Ev prog [] 99 [.agg ⟨(cD e)⟩] M v M'/\Ext M M'/\aA M'/\v=i64 (e.t):=by
 obtain⟨v,M1,h1,h2,h3,h4⟩:=w35_0 e hM
 refine⟨v,M1,h1,h2,h3,?_⟩
 subst h4
 first|rfl|(simp only [cond_true,cond_false,Bool.true_and,Bool.false_and,Bool.and_true,Bool.and_false,Bool.true_or,Bool.false_or,Bool.or_true,Bool.or_false,Bool.not_true,Bool.not_false];done)|(simp only [cond_true,cond_false,Bool.true_and,Bool.false_and,Bool.and_true,Bool.and_false,Bool.true_or,Bool.false_or,Bool.or_true,Bool.or_false,Bool.not_true,Bool.not_false]<;>rfl)|(simp_all [];done)
abbrev Q99:=FC (sZ pE) (plain pI) (fun x=>x.t)
theorem con99{e:(E4)}{lv:List Value}{M:aB}(hM:aA M)(h:(sZ pE) e lv M): ∃v M',kR prog [] 99 Q99 lv M v M':=by
 refine FC.con h ?_
 obtain⟨g0,rfl,k0⟩:=h
 obtain rfl:=k0
 obtain⟨v,M',h1,h2,_,h3⟩:=Xn e hM
 exact⟨v,M',h1,h2,h3⟩
theorem rK101:Tryz.f101.results= #[.tmp 2]:=by kernel_rfl
theorem w37_0(e:E4){M:aB}(hM:aA M): ∃v M',Ev prog [] 101 [.agg ⟨(cD e)⟩] M v M'/\Ext M M'/\aA M'/\v=(i64 e.f):=by
 obtain⟨b1,M2,a0,a1,g5,E6,a2⟩:=bC hM ⟨(cD e),121,4,0,true⟩
 have X9:=(Ext.refl M).trans E6
 exact⟨i64 e.f,M2,Ev.told_tmp (tb:=[]) (n:=60) (F:=[bJ 1 (pt b1 0) M2,aR 7 (i64 e.f)]) aG aF Tryz.func101 Xb (by kernel_rfl) rK101 (aI prog) (fun _ _=>rfl) (by kernel_rfl) (hq (.eq (eI prog 121 (.agg ⟨(cD e)⟩) M) (1,.val (pt b1 0),M2)) (bN (by rw[<-a0,<-a1];kernel_rfl) xAc) (hk (lO 0 bQ g5 rfl) hn)),X9,a2,rfl⟩
theorem Xo(e:E4){M:aB}(hM:aA M): ∃v M',Ev prog [] 101 [.agg ⟨(cD e)⟩] M v M'/\Ext M M'/\aA M'/\v=i64 (e.f):=by
 obtain⟨v,M1,h1,h2,h3,h4⟩:=w37_0 e hM
 refine⟨v,M1,h1,h2,h3,?_⟩
 subst h4
 first|rfl|(simp only [cond_true,cond_false,Bool.true_and,Bool.false_and,Bool.and_true,Bool.and_false,Bool.true_or,Bool.false_or,Bool.or_true,Bool.or_false,Bool.not_true,Bool.not_false];done)|(simp only [cond_true,cond_false,Bool.true_and,Bool.false_and,Bool.and_true,Bool.and_false,Bool.true_or,Bool.false_or,Bool.or_true,Bool.or_false,Bool.not_true,Bool.not_false]<;>rfl)|(simp_all [];done)
abbrev Q101:=FC (sZ pE) (plain pI) (fun x=>x.f)
theorem Yz{e:(E4)}{lv:List Value}{M:aB}(hM:aA M)(h:(sZ pE) e lv M): ∃v M',kR prog [] 101 Q101 lv M v M':=by
 refine FC.con h ?_
 obtain⟨g0,rfl,k0⟩:=h
 obtain rfl:=k0
 obtain⟨v,M',h1,h2,_,h3⟩:=Xo e hM
 exact⟨v,M',h1,h2,h3⟩
theorem Lw:Tryz.f102.results= #[.tmp 2]:=by kernel_rfl
theorem w38_0(f t c:Int){M:aB}(hM:aA M): ∃v M',Ev prog [] 102 [.agg ⟨[i64 f,i64 t,i64 0,i64 c]⟩] M v M'/\Ext M M'/\aA M'/\v=(i64 1):=by
 obtain⟨b1,M2,a0,a1,g5,E6,a2⟩:=bC hM ⟨[i64 f,i64 t,i64 0,i64 c],121,4,0,true⟩
 have X9:=(Ext.refl M).trans E6
 exact⟨i64 1,M2,Ev.told_tmp (tb:=[]) (n:=60) (F:=[bJ 1 (pt b1 0) M2,aR 7 (i64 0)]) aG aF Tryz.func102 xU (by kernel_rfl) Lw (aI prog) (fun _ _=>rfl) (by kernel_rfl) (hq (.eq (eI prog 121 (.agg ⟨[i64 f,i64 t,i64 0,i64 c]⟩) M) (1,.val (pt b1 0),M2)) (bN (by rw[<-a0,<-a1];kernel_rfl) xAc) (hk (lO 2 bQ g5 rfl) hn)),X9,a2,rfl⟩
theorem w38_1(f t c:Int){M:aB}(hM:aA M): ∃v M',Ev prog [] 102 [.agg ⟨[i64 f,i64 t,i64 1,i64 c]⟩] M v M'/\Ext M M'/\aA M'/\v=(i64 2):=by
 obtain⟨b1,M2,a0,a1,g5,E6,a2⟩:=bC hM ⟨[i64 f,i64 t,i64 1,i64 c],121,4,0,true⟩
 have X9:=(Ext.refl M).trans E6
 exact⟨i64 2,M2,Ev.told_tmp (tb:=[]) (n:=60) (F:=[bJ 1 (pt b1 0) M2,aR 7 (i64 1)]) aG aF Tryz.func102 xU (by kernel_rfl) Lw (aI prog) (fun _ _=>rfl) (by kernel_rfl) (hq (.eq (eI prog 121 (.agg ⟨[i64 f,i64 t,i64 1,i64 c]⟩) M) (1,.val (pt b1 0),M2)) (bN (by rw[<-a0,<-a1];kernel_rfl) xAc) (hk (lO 2 bQ g5 rfl) hn)),X9,a2,rfl⟩
theorem w38_2(f t c:Int){M:aB}(hM:aA M): ∃v M',Ev prog [] 102 [.agg ⟨[i64 f,i64 t,i64 2,i64 c]⟩] M v M'/\Ext M M'/\aA M'/\v=(i64 4):=by
 obtain⟨b1,M2,a0,a1,g5,E6,a2⟩:=bC hM ⟨[i64 f,i64 t,i64 2,i64 c],121,4,0,true⟩
 have X9:=(Ext.refl M).trans E6
 exact⟨i64 4,M2,Ev.told_tmp (tb:=[]) (n:=60) (F:=[bJ 1 (pt b1 0) M2,aR 7 (i64 2)]) aG aF Tryz.func102 xU (by kernel_rfl) Lw (aI prog) (fun _ _=>rfl) (by kernel_rfl) (hq (.eq (eI prog 121 (.agg ⟨[i64 f,i64 t,i64 2,i64 c]⟩) M) (1,.val (pt b1 0),M2)) (bN (by rw[<-a0,<-a1];kernel_rfl) xAc) (hk (lO 2 bQ g5 rfl) hn)),X9,a2,rfl⟩
theorem w38_3(f t c:Int){M:aB}(hM:aA M): ∃v M',Ev prog [] 102 [.agg ⟨[i64 f,i64 t,i64 3,i64 c]⟩] M v M'/\Ext M M'/\aA M'/\v=(i64 8):=by
 obtain⟨b1,M2,a0,a1,g5,E6,a2⟩:=bC hM ⟨[i64 f,i64 t,i64 3,i64 c],121,4,0,true⟩
 have X9:=(Ext.refl M).trans E6
 exact⟨i64 8,M2,Ev.told_tmp (tb:=[]) (n:=60) (F:=[bJ 1 (pt b1 0) M2,aR 7 (i64 3)]) aG aF Tryz.func102 xU (by kernel_rfl) Lw (aI prog) (fun _ _=>rfl) (by kernel_rfl) (hq (.eq (eI prog 121 (.agg ⟨[i64 f,i64 t,i64 3,i64 c]⟩) M) (1,.val (pt b1 0),M2)) (bN (by rw[<-a0,<-a1];kernel_rfl) xAc) (hk (lO 2 bQ g5 rfl) hn)),X9,a2,rfl⟩
theorem w38_4(f t c:Int){M:aB}(hM:aA M): ∃v M',Ev prog [] 102 [.agg ⟨[i64 f,i64 t,i64 4,i64 c]⟩] M v M'/\Ext M M'/\aA M'/\v=(i64 16):=by
 obtain⟨b1,M2,a0,a1,g5,E6,a2⟩:=bC hM ⟨[i64 f,i64 t,i64 4,i64 c],121,4,0,true⟩
 have X9:=(Ext.refl M).trans E6
 exact⟨i64 16,M2,Ev.told_tmp (tb:=[]) (n:=60) (F:=[bJ 1 (pt b1 0) M2,aR 7 (i64 4)]) aG aF Tryz.func102 xU (by kernel_rfl) Lw (aI prog) (fun _ _=>rfl) (by kernel_rfl) (hq (.eq (eI prog 121 (.agg ⟨[i64 f,i64 t,i64 4,i64 c]⟩) M) (1,.val (pt b1 0),M2)) (bN (by rw[<-a0,<-a1];kernel_rfl) xAc) (hk (lO 2 bQ g5 rfl) hn)),X9,a2,rfl⟩
abbrev Q102:=FC (gN (sZ pE) Qz) (plain pI) (fun x=>wL x.m)
theorem Za{e:E4}{lv:List Value}{M:aB}(hM:aA M)(h:(gN (sZ pE) Qz) e lv M): ∃v M',kR prog [] 102 Q102 lv M v M':=by
 refine FC.con h ?_
 obtain⟨h,h0,h5⟩:=h
 obtain⟨g0,rfl,rfl⟩:=h
 obtain⟨f,t,m,c⟩:=e
 simp only at h0 h5
 have hm:m=0\/m=1\/m=2\/m=3\/m=4:=by omega
 rcases hm with rfl|rfl|rfl|rfl|rfl
 ·obtain⟨v,M',h1,h2,_,h4⟩:=w38_0 f t c hM
  exact⟨v,M',h1,h2,h4⟩
 ·obtain⟨v,M',h1,h2,_,h4⟩:=w38_1 f t c hM
  exact⟨v,M',h1,h2,h4⟩
 ·obtain⟨v,M',h1,h2,_,h4⟩:=w38_2 f t c hM
  exact⟨v,M',h1,h2,h4⟩
 ·obtain⟨v,M',h1,h2,_,h4⟩:=w38_3 f t c hM
  exact⟨v,M',h1,h2,h4⟩
 ·obtain⟨v,M',h1,h2,_,h4⟩:=w38_4 f t c hM
  exact⟨v,M',h1,h2,h4⟩
def Wa:uT->Value
 | .to=> .func (.func 99) #[] #[]
 | .fr=> .func (.func 101) #[] #[]
 | .set=> .func (.func 102) #[] #[]
def pFn(k:uT)(v:Value)(_:aB):Prop:=v=Wa k
instance:AP pFn:=⟨fun{x y _ _} h k=>by unfold pFn at h k;rw[h] at k;cases x<;>cases y<;>first|rfl|(simp [Wa] at k),fun _ h=>h⟩
theorem r34to(r bb o m c i:Nat)(e:E4)(cr:List Value){M M0:aB}(hM:aA M)(X0:Ext M0 M)(hr:M0.next<=r)(gr:M.get r=some ⟨cr,3,1,0,true⟩)(a5:(decide ((i:Int)<(m:Int)))=true)(b3:bA prog 46 ⟨bb,o+((i:Int):Int).toNat*4,none⟩ M0=some (.agg ⟨(cD e)⟩))(b4:0+((i:Int):Int).toNat*1+1<=(cr).length): ∃T1 M',Rd prog [] (q98.loopAt 0) Tryz.f98.ntmps (fr [(1,(.func (.func 99) ⟨[]⟩ ⟨[]⟩)),(5,(aC r 0 m (m+1))),(11,(aC bb o m c)),(12,(i64 (m:Int))),(13,(i64 (i:Int)))]) M .normal T1 M'/\ [1,5,11,12,13].map T1.get= [some (.func (.func 99) ⟨[]⟩ ⟨[]⟩),some (aC r 0 m (m+1)),some (aC bb o m c),some (i64 (m:Int)),some (i64 (IntKind.wrap .i64 ((i:Int)+(1:Int))))]/\Ext M0 M'/\aA M'/\M'.get r=some ⟨splice cr (0+((i:Int):Int).toNat*1) [i64 e.t],3,1,0,true⟩/\ ∀id k,M.get id=some k->id≠r->M'.get id=some k:=by
 obtain⟨b1,M2,a7,c2,g5,E6,c7⟩:=bC hM ⟨[i64 0,i64 0,i64 0,i64 0],46,4,0,true⟩
 have d0:=lQ a7 X0
 have a6:=fJ gr a7
 have g8:=E6.old gr
 have b7:=X0.trans E6
 obtain⟨a1,d4,c3,a0,b8,a9,d1⟩:=aZ (o:=0) (v:=(.agg ⟨(cD e)⟩)) (new:= (cD e)) b7 d0 c7 nT g5 rfl rfl (Nat.zero_le _) (xAd rfl) rfl
 have c4:=(a0 _ a6).trans g8
 obtain⟨d6,d7,a4,d3,c9,c1,a3,b0,b6⟩:=aL (x:=e) a9 con99 (⟨_,rfl,rfl⟩)
 have c5:=a3.old c4
 have a8:d6=(i64 e.t):=b6
 subst a8
 have b9:=b8.trans a3
 obtain⟨a2,d5,c6,b5,c0,b2,d2⟩:=aZ (o:=0+((i:Int):Int).toNat*1) (v:=(i64 e.t)) (new:=splice cr (0+((i:Int):Int).toNat*1) [i64 e.t]) b9 hr b0 Jj c5 rfl rfl (Nat.zero_le _) b4 rfl
 have c8: ∀id k,M.get id=some k->id≠r->a2.get id=some k:=fun id k g h_r=>by
  have g0:=aB.lt_of_get g
  have g:=E6.old g
  have g:=((fun id h _=>a0 id h) id (by omega) (aB.lt_of_get g)).trans g
  have g:=a3.old g
  have g:=((fun id h _=>b5 id h) id h_r (aB.lt_of_get g)).trans g
  exact g
 obtain⟨T1,h1,h2⟩:=Rd.told (tb:=[]) (n:=60) (F:=[aQ 2,aQ 6,aR 8 (.agg ⟨(cD e)⟩),bJ 10 (pt b1 0) M2,jE 14 a1,aR 22 (.agg ⟨(cD e)⟩),bJ 24 (i64 e.t) a4,aQ 26,jE 28 a2]) aG aF (fun B=>lV (gH 99 Q99 (gL _))) (fun _ _=>rfl) (by kernel_rfl) (hk (bT a5) (hk (qI (i:Int) m (by omega) (by simp at a5;omega)) (hk (lD (aN X0 b3)) (hq (.eq (cM prog 46 M) (1,.val (pt b1 0),M2)) (bN (by rw[<-a7,<-c2];kernel_rfl) xAc) (hq (qS 46 b1 0 (.agg ⟨(cD e)⟩) M2 a1) (dB d4) (hq (qL 46 b1 0 a1 (.agg ⟨(cD e)⟩)) (lA ⟨tL,nT⟩ c3 rfl) (hq (qC 99 [.agg ⟨(cD e)⟩] a1 (i64 e.t) a4) (aK rfl d3 c9 c1) (hk (qI (i:Int) m (by omega) (by simp at a5;omega)) (hq (qS 3 r (0+((i:Int):Int).toNat*1) (i64 e.t) a4 a2) (dB d5) hn)))))))))
 exact⟨T1,a2,h1,h2,c0,b2,c6,c8⟩
theorem r34x(fv:Value)(r:Nat)(a:Option Addr)(m c i:Nat){M:aB}(a0:(decide ((i:Int)<(m:Int)))=false): ∃T1,Rd prog [] (q98.loopAt 0) Tryz.f98.ntmps (fr [(1,fv),(5,(aC r 0 m (m+1))),(11,(.slice a m c)),(12,(i64 (m:Int))),(13,(i64 (i:Int)))]) M (.exit 0) T1 M/\ [5].map T1.get= [some (aC r 0 m (m+1))]:=by
 exact Rd.told (tb:=[]) (n:=60) (F:=[aO 2]) aG aF (aI prog) (fun _ _=>rfl) (by kernel_rfl) (hk (bF a0) hn)
theorem r34fr(r bb o m c i:Nat)(e:E4)(cr:List Value){M M0:aB}(hM:aA M)(X0:Ext M0 M)(hr:M0.next<=r)(gr:M.get r=some ⟨cr,3,1,0,true⟩)(a5:(decide ((i:Int)<(m:Int)))=true)(b3:bA prog 46 ⟨bb,o+((i:Int):Int).toNat*4,none⟩ M0=some (.agg ⟨(cD e)⟩))(b4:0+((i:Int):Int).toNat*1+1<=(cr).length): ∃T1 M',Rd prog [] (q98.loopAt 0) Tryz.f98.ntmps (fr [(1,(.func (.func 101) ⟨[]⟩ ⟨[]⟩)),(5,(aC r 0 m (m+1))),(11,(aC bb o m c)),(12,(i64 (m:Int))),(13,(i64 (i:Int)))]) M .normal T1 M'/\ [1,5,11,12,13].map T1.get= [some (.func (.func 101) ⟨[]⟩ ⟨[]⟩),some (aC r 0 m (m+1)),some (aC bb o m c),some (i64 (m:Int)),some (i64 (IntKind.wrap .i64 ((i:Int)+(1:Int))))]/\Ext M0 M'/\aA M'/\M'.get r=some ⟨splice cr (0+((i:Int):Int).toNat*1) [i64 e.f],3,1,0,true⟩/\ ∀id k,M.get id=some k->id≠r->M'.get id=some k:=by
 obtain⟨b1,M2,a7,c2,g5,E6,c7⟩:=bC hM ⟨[i64 0,i64 0,i64 0,i64 0],46,4,0,true⟩
 have d0:=lQ a7 X0
 have a6:=fJ gr a7
 have g8:=E6.old gr
 have b7:=X0.trans E6
 obtain⟨a1,d4,c3,a0,b8,a9,d1⟩:=aZ (o:=0) (v:=(.agg ⟨(cD e)⟩)) (new:= (cD e)) b7 d0 c7 nT g5 rfl rfl (Nat.zero_le _) (xAd rfl) rfl
 have c4:=(a0 _ a6).trans g8
 obtain⟨d6,d7,a4,d3,c9,c1,a3,b0,b6⟩:=aL (x:=e) a9 Yz (⟨_,rfl,rfl⟩)
 have c5:=a3.old c4
 have a8:d6=(i64 e.f):=b6
 subst a8
 have b9:=b8.trans a3
 obtain⟨a2,d5,c6,b5,c0,b2,d2⟩:=aZ (o:=0+((i:Int):Int).toNat*1) (v:=(i64 e.f)) (new:=splice cr (0+((i:Int):Int).toNat*1) [i64 e.f]) b9 hr b0 Jj c5 rfl rfl (Nat.zero_le _) b4 rfl
 have c8: ∀id k,M.get id=some k->id≠r->a2.get id=some k:=fun id k g h_r=>by
  have g0:=aB.lt_of_get g
  have g:=E6.old g
  have g:=((fun id h _=>a0 id h) id (by omega) (aB.lt_of_get g)).trans g
  have g:=a3.old g
  have g:=((fun id h _=>b5 id h) id h_r (aB.lt_of_get g)).trans g
  exact g
 obtain⟨T1,h1,h2⟩:=Rd.told (tb:=[]) (n:=60) (F:=[aQ 2,aQ 6,aR 8 (.agg ⟨(cD e)⟩),bJ 10 (pt b1 0) M2,jE 14 a1,aR 22 (.agg ⟨(cD e)⟩),bJ 24 (i64 e.f) a4,aQ 26,jE 28 a2]) aG aF (fun B=>lV (gH 101 Q101 (gL _))) (fun _ _=>rfl) (by kernel_rfl) (hk (bT a5) (hk (qI (i:Int) m (by omega) (by simp at a5;omega)) (hk (lD (aN X0 b3)) (hq (.eq (cM prog 46 M) (1,.val (pt b1 0),M2)) (bN (by rw[<-a7,<-c2];kernel_rfl) xAc) (hq (qS 46 b1 0 (.agg ⟨(cD e)⟩) M2 a1) (dB d4) (hq (qL 46 b1 0 a1 (.agg ⟨(cD e)⟩)) (lA ⟨tL,nT⟩ c3 rfl) (hq (qC 101 [.agg ⟨(cD e)⟩] a1 (i64 e.f) a4) (aK rfl d3 c9 c1) (hk (qI (i:Int) m (by omega) (by simp at a5;omega)) (hq (qS 3 r (0+((i:Int):Int).toNat*1) (i64 e.f) a4 a2) (dB d5) hn)))))))))
 exact⟨T1,a2,h1,h2,c0,b2,c6,c8⟩
theorem aA8(r bb o m c i:Nat)(e:E4)(cr:List Value){M M0:aB}(hM:aA M)(X0:Ext M0 M)(hr:M0.next<=r)(gr:M.get r=some ⟨cr,3,1,0,true⟩)(c9:Qz e)(a5:(decide ((i:Int)<(m:Int)))=true)(b3:bA prog 46 ⟨bb,o+((i:Int):Int).toNat*4,none⟩ M0=some (.agg ⟨(cD e)⟩))(b4:0+((i:Int):Int).toNat*1+1<=(cr).length): ∃T1 M',Rd prog [] (q98.loopAt 0) Tryz.f98.ntmps (fr [(1,(.func (.func 102) ⟨[]⟩ ⟨[]⟩)),(5,(aC r 0 m (m+1))),(11,(aC bb o m c)),(12,(i64 (m:Int))),(13,(i64 (i:Int)))]) M .normal T1 M'/\ [1,5,11,12,13].map T1.get= [some (.func (.func 102) ⟨[]⟩ ⟨[]⟩),some (aC r 0 m (m+1)),some (aC bb o m c),some (i64 (m:Int)),some (i64 (IntKind.wrap .i64 ((i:Int)+(1:Int))))]/\Ext M0 M'/\aA M'/\M'.get r=some ⟨splice cr (0+((i:Int):Int).toNat*1) [i64 (wL e.m)],3,1,0,true⟩/\ ∀id k,M.get id=some k->id≠r->M'.get id=some k:=by
 obtain⟨b1,M2,a7,c2,g5,E6,c7⟩:=bC hM ⟨[i64 0,i64 0,i64 0,i64 0],46,4,0,true⟩
 have d1:=lQ a7 X0
 have a6:=fJ gr a7
 have g8:=E6.old gr
 have b7:=X0.trans E6
 obtain⟨a1,d5,c3,a0,b8,a9,d2⟩:=aZ (o:=0) (v:=(.agg ⟨(cD e)⟩)) (new:= (cD e)) b7 d1 c7 nT g5 rfl rfl (Nat.zero_le _) (xAd rfl) rfl
 have c4:=(a0 _ a6).trans g8
 obtain⟨d7,d8,a4,d4,d0,c1,a3,b0,b6⟩:=aL (x:=e) a9 Za (⟨⟨_,rfl,rfl⟩,c9⟩)
 have c5:=a3.old c4
 have a8:d7=(i64 (wL e.m)):=b6
 subst a8
 have b9:=b8.trans a3
 obtain⟨a2,d6,c6,b5,c0,b2,d3⟩:=aZ (o:=0+((i:Int):Int).toNat*1) (v:=(i64 (wL e.m))) (new:=splice cr (0+((i:Int):Int).toNat*1) [i64 (wL e.m)]) b9 hr b0 Jj c5 rfl rfl (Nat.zero_le _) b4 rfl
 have c8: ∀id k,M.get id=some k->id≠r->a2.get id=some k:=fun id k g h_r=>by
  have g0:=aB.lt_of_get g
  have g:=E6.old g
  have g:=((fun id h _=>a0 id h) id (by omega) (aB.lt_of_get g)).trans g
  have g:=a3.old g
  have g:=((fun id h _=>b5 id h) id h_r (aB.lt_of_get g)).trans g
  exact g
 obtain⟨T1,h1,h2⟩:=Rd.told (tb:=[]) (n:=60) (F:=[aQ 2,aQ 6,aR 8 (.agg ⟨(cD e)⟩),bJ 10 (pt b1 0) M2,jE 14 a1,aR 22 (.agg ⟨(cD e)⟩),bJ 24 (i64 (wL e.m)) a4,aQ 26,jE 28 a2]) aG aF (fun B=>lV (gH 102 Q102 (gL _))) (fun _ _=>rfl) (by kernel_rfl) (hk (bT a5) (hk (qI (i:Int) m (by omega) (by simp at a5;omega)) (hk (lD (aN X0 b3)) (hq (.eq (cM prog 46 M) (1,.val (pt b1 0),M2)) (bN (by rw[<-a7,<-c2];kernel_rfl) xAc) (hq (qS 46 b1 0 (.agg ⟨(cD e)⟩) M2 a1) (dB d5) (hq (qL 46 b1 0 a1 (.agg ⟨(cD e)⟩)) (lA ⟨tL,nT⟩ c3 rfl) (hq (qC 102 [.agg ⟨(cD e)⟩] a1 (i64 (wL e.m)) a4) (aK rfl d4 d0 c1) (hk (qI (i:Int) m (by omega) (by simp at a5;omega)) (hq (qS 3 r (0+((i:Int):Int).toNat*1) (i64 (wL e.m)) a4 a2) (dB d6) hn)))))))))
 exact⟨T1,a2,h1,h2,c0,b2,c6,c8⟩
theorem r34(k:uT)(r bb o m c i:Nat)(e:E4)(cr:List Value){M M0:aB}(hM:aA M)(X0:Ext M0 M)(hr:M0.next<=r)(gr:M.get r=some ⟨cr,3,1,0,true⟩)(a1:Qz e)(hi:i<m)(hl:i<cr.length)(a0:bA prog 46 ⟨bb,o+(i:Int).toNat*4,none⟩ M0=some (.agg ⟨cD e⟩)):
  ∃T1 M',Rd prog [] (q98.loopAt 0) Tryz.f98.ntmps (fr [(1,Wa k),(5,aC r 0 m (m+1)),(11,aC bb o m c),(12,i64 m),(13,i64 i)]) M .normal T1 M'/\ [1,5,11,12,13].map T1.get= [some (Wa k),some (aC r 0 m (m+1)),some (aC bb o m c),some (i64 m),some (i64 (IntKind.wrap .i64 ((i:Int)+1)))]/\Ext M0 M'/\aA M'/\M'.get r=some ⟨splice cr i [i64 (eC k e)],3,1,0,true⟩:=by
 have e0:0+(i:Int).toNat*1=i:=by simp
 cases k
 ·obtain⟨T1,M',h1,h2,h3,h4,h5,_⟩:=r34to r bb o m c i e cr hM X0 hr gr (xAb (by omega)) a0 (by rw[e0];omega)
  rw[e0] at h5
  exact⟨T1,M',h1,h2,h3,h4,h5⟩
 ·obtain⟨T1,M',h1,h2,h3,h4,h5,_⟩:=r34fr r bb o m c i e cr hM X0 hr gr (xAb (by omega)) a0 (by rw[e0];omega)
  rw[e0] at h5
  exact⟨T1,M',h1,h2,h3,h4,h5⟩
 ·obtain⟨T1,M',h1,h2,h3,h4,h5,_⟩:=aA8 r bb o m c i e cr hM X0 hr gr a1 (xAb (by omega)) a0 (by rw[e0];omega)
  rw[e0] at h5
  exact⟨T1,M',h1,h2,h3,h4,h5⟩
theorem Zw(k:uT){a:Option Addr}{c r:Nat}{l:List E4}{M0 M:aB}(hM:aA M)(X:Ext M0 M)(hs:Bl M0 (.slice a l.length c) l)(a3: ∀e∈l,Qz e)(hr:M0.next<=r)(gr:M.get r=some ⟨List.replicate l.length (i64 0),3,1,0,true⟩):
  ∃M',bL prog [] (q98.loopAt 0) Tryz.f98.ntmps (fr [(1,Wa k),(5,aC r 0 l.length (l.length+1)),(11,.slice a l.length c),(12,i64 l.length),(13,i64 ((0:Nat):Int))]) M (.exit 0) (fr [(5,aC r 0 l.length (l.length+1))]) M'/\Ext M0 M'/\aA M'/\M'.get r=some ⟨(l.map (eC k)).map i64,3,1,0,true⟩:=by
 have hlen:=hs.len
 have a2:((l.map (eC k)).map i64).length=l.length:=by simp
 obtain⟨_,M',h1,h2,h3,h4⟩:=bL.for (P:=prog) (GL:= []) (b:=q98.loopAt 0) (nt:=Tryz.f98.ntmps) (id:=0) (σ:=Unit) (n:=l.length) (Inv:=fun i _ M1=>Ext M0 M1/\aA M1/\M1.get r=some ⟨sL ((l.map (eC k)).map i64) i (i64 0),3,1,0,true⟩)
  (F:=fun i _=> [(1,Wa k),(5,aC r 0 l.length (l.length+1)),(11,.slice a l.length c),(12,i64 l.length),(13,i64 ((i:Nat):Int))])
  (O:=fun _=> [(5,aC r 0 l.length (l.length+1))])
  (by
   rintro i _ M1 hi ⟨X1,a0,a1⟩
   obtain⟨bb,o,rfl,_⟩:=bU hs (by omega)
   have ht:l[i]?=some l[i]:=xAe hi
   obtain⟨T1,M2,h1,h2,h3,h4,h5⟩:=r34 k r bb o l.length c i l[i] _ a0 X1 hr a1 (a3 _ (List.getElem_mem hi)) hi (by rw[uG _ _ (by omega)];omega) (kP (P:=prog) (ty:=46) hs ht tL nT)
   rw[bD (by omega)] at h2
   rw[vX (by simp [ht])] at h5
   exact⟨(),T1,M2,h1,h2,h3,h4,h5⟩)
  (by
   rintro _ M1 ⟨X1,a0,a1⟩
   exact r34x (Wa k) r a l.length c l.length (M:=M1) (xAa (by omega)))
  l.length 0 (by omega) (s:=()) (M:=M) ⟨X,hM,by rw[vY,a2];exact gr⟩
 refine⟨M',h1,h2,h3,?_⟩
 have:=zD ((l.map (eC k)).map i64) (i64 0)
 rw[a2] at this
 rw[this] at h4
 exact h4
theorem rK98:Tryz.f98.results= #[.tmp 4]:=by kernel_rfl
theorem w34(al:Option Addr)(cl:Nat)(l:List E4)(k:uT){M:aB}(hM:aA M)(hl:aS l (.slice al l.length cl) M)(a0:l.length<=400/\ ∀e∈l,Qz e): ∃v M',Ev prog [] 98 [.slice al l.length cl,Wa k] M v M'/\Ext M M'/\aA M'/\iE aH (l.map (eC k)) M.next v M':=by
 obtain⟨b1,M2,a5,a6,g5,E6,a8⟩:=tS (P:=prog) (t:=22) (elem:=3) (z:=(i64 0)) (n:=l.length) hM (by kernel_rfl) (by kernel_rfl) (by have:=a0.1;omega)
 have a3:M.next<=b1:=by rw[<-a5];exact(Ext.refl M).next
 have X8:=(Ext.refl M).trans E6
 obtain⟨M9,a1,a4,a2,a7⟩:=Zw k a8 X8 hl a0.2 a3 g5
 exact⟨aC b1 0 l.length (l.length+1),M9,Ev.told_tmp (tb:=[0]) (n:=60) (F:=[aQ 5,bJ 7 (aC b1 0 l.length (l.length+1)) M2,aQ 13,.blk 16 [1,5,11,12,13] .normal (fr [(5,(aC b1 0 l.length (l.length+1)))]) M9]) aG aF Tryz.func98 aA6 (by kernel_rfl) rK98 (fun B=>wR (gL B) 0 a1) (fun _ h=>bZ h) (by kernel_rfl) (hk (lN hl.ln) (hq (.eq (bX prog 22 (i64 (l.length:Int)) (i64 (l.length:Int)) M) (1,.val (aC b1 0 l.length (l.length+1)),M2)) (bN a6 xAc) (hk (lN hl.ln) (hq (.blk 0 (.loop (q98.loopAt 0)) Tryz.f98.ntmps [1,5,11,12,13] [some (Wa k),some (aC b1 0 l.length (l.length+1)),some (.slice al l.length cl),some (i64 (l.length:Int)),some (i64 0)] M2 .normal (fr [(5,(aC b1 0 l.length (l.length+1)))]) M9) (fB rfl) hn)))),a4,a2,aJ.of_blk' (b:=b1) (w:=1) (g:=Oa) (jJ a3 a7) (List.length_map _) (by simp [xJ,List.map_map,Function.comp_def]) (fun _ _=>rfl) (by have:=hl.len;simpa using this)⟩
abbrev Q98:=FC (gN (lX aS pFn) (fun x=>x.1.length<=400/\ ∀e∈x.1,Qz e)) (iE aH) (fun x=>x.1.map (eC x.2))
theorem Sr{x:(List E4)×(uT)}{lv:List Value}{M:aB}(hM:aA M)(h:(gN (lX aS pFn) (fun x=>x.1.length<=400/\ ∀e∈x.1,Qz e)) x lv M): ∃v M',kR prog [] 98 Q98 lv M v M':=by
 refine FC.con h ?_
 obtain⟨h,a0⟩:=h
 obtain⟨l,k⟩:=x
 obtain⟨g0,g1,rfl,k0,k1⟩:=h
 obtain⟨al,cl,rfl⟩:=aJ.form k0
 have hl:=k0
 obtain rfl:=k1
 obtain⟨v,M',h1,h2,_,h3⟩:=w34 al cl l k hM hl a0
 exact⟨v,M',h1,h2,h3⟩
end Go.Proofs.YtdaglldahidmbaaGreat
