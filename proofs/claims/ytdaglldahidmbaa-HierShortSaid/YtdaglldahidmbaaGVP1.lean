/-
  Package hier: each of its laws for every argument; no conditions. The last text states which.
-/
import Derived.Test.YtdaglldahidmbaaGAmPw
import Derived.Test.YtdaglldahidmbaaGVB
set_option linter.unusedVariables false
set_option linter.unusedSimpArgs false
open Go Go.Am Go.Proofs
namespace Go.Proofs.Ytdaglldahidmbaa
set_option maxRecDepth 100000
theorem bV:(Try.prog.underlying 3).map dR=some false:=by kernel_rfl
theorem Jc:(Try.prog.info? 3).map (·.size)=some 1:=by kernel_rfl
theorem rK70:Try.f70.results= #[.tmp 4]:=by kernel_rfl
theorem w46_0(x:Int)(n:Int){M:aA}(hM:aB M)(a0:(decide (x>=(0:Int)))=true): ∃v M',Ev Try.prog [] 70 [i64 x,i64 n] M v M'/\Ext M M'/\aB M'/\v=(.bool (decide (x<n))):=by
 exact⟨.bool (decide (x<n)),M,Ev.told_tmp (tb:=[]) (n:=60) (F:=[aP 8,aP 10,aP 12,aP 15]) aG aF Try.func70 Ud (by kernel_rfl) rK70 (aI Try.prog) (fun _ _=>rfl) (by kernel_rfl) (hw (bT a0) (hw (bT a0) hn)),Ext.refl M,hM,rfl⟩
theorem w46_1(x:Int)(n:Int){M:aA}(hM:aB M)(a0:(decide (x>=(0:Int)))=false): ∃v M',Ev Try.prog [] 70 [i64 x,i64 n] M v M'/\Ext M M'/\aB M'/\v=(.bool false):=by
 exact⟨.bool false,M,Ev.told_tmp (tb:=[]) (n:=60) (F:=[aO 8,aO 10,aO 12,aO 15]) aG aF Try.func70 Ud (by kernel_rfl) rK70 (aI Try.prog) (fun _ _=>rfl) (by kernel_rfl) (hw (bF a0) (hw (bF a0) hn)),Ext.refl M,hM,rfl⟩
theorem Xb(x:Int)(n:Int){M:aA}(hM:aB M): ∃v M',Ev Try.prog [] 70 [i64 x,i64 n] M v M'/\Ext M M'/\aB M'/\v= .bool (eH x n):=by
 cases a0:(decide (x>=(0:Int))) with
 |true=>
  obtain⟨v,M1,h1,h2,h3,h4⟩:=w46_0 x n hM a0
  refine⟨v,M1,h1,h2,h3,?_⟩
  subst h4
  first|rfl|(simp only [eH,a0,cond_true,cond_false,Bool.true_and,Bool.false_and,Bool.and_true,Bool.and_false,Bool.true_or,Bool.false_or,Bool.or_true,Bool.or_false,Bool.not_true,Bool.not_false];done)|(simp only [eH,a0,cond_true,cond_false,Bool.true_and,Bool.false_and,Bool.and_true,Bool.and_false,Bool.true_or,Bool.false_or,Bool.or_true,Bool.or_false,Bool.not_true,Bool.not_false]<;>rfl)|(simp_all [eH];done)
 |false=>
  obtain⟨v,M1,h1,h2,h3,h4⟩:=w46_1 x n hM a0
  refine⟨v,M1,h1,h2,h3,?_⟩
  subst h4
  first|rfl|(simp only [eH,a0,cond_true,cond_false,Bool.true_and,Bool.false_and,Bool.and_true,Bool.and_false,Bool.true_or,Bool.false_or,Bool.or_true,Bool.or_false,Bool.not_true,Bool.not_false];done)|(simp only [eH,a0,cond_true,cond_false,Bool.true_and,Bool.false_and,Bool.and_true,Bool.and_false,Bool.true_or,Bool.false_or,Bool.or_true,Bool.or_false,Bool.not_true,Bool.not_false]<;>rfl)|(simp_all [eH];done)
abbrev Q70:=FC (mU pI pI) (plain pB) (fun x=>eH x.1 x.2)
theorem Gd{x:(Int)×(Int)}{lv:List Value}{M:aA}(hM:aB M)(h:(mU pI pI) x lv M): ∃v M',lM Try.prog [] 70 Q70 lv M v M':=by
 refine FC.con h ?_
 obtain⟨x,n⟩:=x
 obtain⟨g0,g1,rfl,k0,k1⟩:=h
 obtain rfl:=k0
 obtain rfl:=k1
 obtain⟨v,M',h1,h2,_,h3⟩:=Xb x n hM
 exact⟨v,M',h1,h2,h3⟩
theorem Ug:Try.f42.results= #[.tmp 4]:=by kernel_rfl
theorem Bq(e:E4)(n:Int){M:aA}(hM:aB M)(a3:(eH e.f n)=true): (∀(cc1:(eH e.t n)=true)(cc2:(eH e.m 5)=true)(cc3:(decide (e.c>=(0:Int)))=true),∃v M',Ev Try.prog [] 42 [.agg ⟨(cC e)⟩,i64 n] M v M'/\Ext M M'/\aB M'/\v=(.bool (decide (e.c<=(2147483647:Int)))))/\(∀(cc1:(eH e.t n)=true)(cc2:(eH e.m 5)=true)(cc3:(decide (e.c>=(0:Int)))=false),∃v M',Ev Try.prog [] 42 [.agg ⟨(cC e)⟩,i64 n] M v M'/\Ext M M'/\aB M'/\v=(.bool false))/\(∀(cc1:(eH e.t n)=true)(cc2:(eH e.m 5)=false),∃v M',Ev Try.prog [] 42 [.agg ⟨(cC e)⟩,i64 n] M v M'/\Ext M M'/\aB M'/\v=(.bool false))/\(∀(cc1:(eH e.t n)=false),∃v M',Ev Try.prog [] 42 [.agg ⟨(cC e)⟩,i64 n] M v M'/\Ext M M'/\aB M'/\v=(.bool false)):=by
 obtain⟨b1,M2,c3,c4,g5,E6,d6⟩:=bE hM ⟨(cC e),37,4,0,true⟩
 have X9:=(Ext.refl M).trans E6
 obtain⟨d7,d8,a1,c8,c6,c1,d3,d2,d5⟩:=aM (x:=(e.f,n)) d6 Gd (⟨_,_,rfl,rfl,rfl⟩)
 have b2:=d3.old g5
 have d1:d7=(.bool (eH e.f n)):=d5
 subst d1
 have c0:=X9.trans d3
 obtain⟨d0,d9,a2,c9,c7,c2,a8,a7,b9⟩:=aM (x:=(e.t,n)) d2 Gd (⟨_,_,rfl,rfl,rfl⟩)
 refine⟨?_,?_,?_,?_⟩
 ·intro cc1 cc2 cc3
  have b3:=a8.old b2
  have a0:d0=(.bool (eH e.t n)):=b9
  subst a0
  have b0:=c0.trans a8
  obtain⟨w34,d4,a4,b8,b7,b6,a9,a6,b4⟩:=aM (x:=(e.m,5)) a7 Gd (⟨_,_,rfl,rfl,rfl⟩)
  have c5:=a9.old b3
  have a5:w34=(.bool (eH e.m 5)):=b4
  subst a5
  have b5:=b0.trans a9
  exact⟨.bool (decide (e.c<=(2147483647:Int))),a4,Ev.told_tmp (tb:=[]) (n:=60) (F:=[bK 1 (pt b1 0) M2,aR 7 (i64 e.f),bK 11 (.bool (eH e.f n)) a1,aP 14,aP 16,aR 17 (i64 e.t),aP 18,aP 20,bK 21 (.bool (eH e.t n)) a2,aP 23,aP 26,aP 28,aR 29 (i64 e.m),aP 30,bK 31 (.bool (eH e.m 5)) a4,aP 33,aP 36,aP 38,aR 39 (i64 e.c),aP 40,aP 43,aP 46,aP 48,aR 49 (i64 e.c),aP 50,aP 53]) aG aF Try.func42 Dw (by kernel_rfl) Ug (fun B=>lQ (gP 70 Q70 (gS _))) (fun _ _=>rfl) (by kernel_rfl) (hq (.eq (eL Try.prog 37 (.agg ⟨(cC e)⟩) M) (1,.val (pt b1 0),M2)) (bP (by rw[<-c3,<-c4];kernel_rfl) Nat.one_ne_zero) (hk (lO 0 bV g5 rfl) (hq (qC 70 [i64 e.f,i64 n] M2 (.bool (eH e.f n)) a1) (aJ rfl c8 c6 c1) (hw (bT a3) (hk (lO 1 bV b2 rfl) (hw (bT a3) (hq (qC 70 [i64 e.t,i64 n] a1 (.bool (eH e.t n)) a2) (aJ rfl c9 c7 c2) (hk (bT a3) (hw (bT cc1) (hk (lO 2 bV b3 rfl) (hk (bT cc1) (hq (qC 70 [i64 e.m,i64 5] a2 (.bool (eH e.m 5)) a4) (aJ rfl b8 b7 b6) (hk (bT cc1) (hw (bT cc2) (hk (lO 3 bV c5 rfl) (hw (bT cc2) (hw (bT cc3) (hk (lO 3 bV c5 rfl) (hw (bT cc3) hn))))))))))))))))))),b5,a6,rfl⟩
 ·intro cc1 cc2 cc3
  have b3:=a8.old b2
  have a0:d0=(.bool (eH e.t n)):=b9
  subst a0
  have b0:=c0.trans a8
  obtain⟨w34,d4,a4,b8,b7,b6,a9,a6,b4⟩:=aM (x:=(e.m,5)) a7 Gd (⟨_,_,rfl,rfl,rfl⟩)
  have c5:=a9.old b3
  have a5:w34=(.bool (eH e.m 5)):=b4
  subst a5
  have b5:=b0.trans a9
  exact⟨.bool false,a4,Ev.told_tmp (tb:=[]) (n:=60) (F:=[bK 1 (pt b1 0) M2,aR 7 (i64 e.f),bK 11 (.bool (eH e.f n)) a1,aP 14,aP 16,aR 17 (i64 e.t),aP 18,aP 20,bK 21 (.bool (eH e.t n)) a2,aP 23,aP 26,aP 28,aR 29 (i64 e.m),aP 30,bK 31 (.bool (eH e.m 5)) a4,aP 33,aP 36,aP 38,aR 39 (i64 e.c),aP 40,aP 43,aO 46,aO 48,aO 50,aO 53]) aG aF Try.func42 Dw (by kernel_rfl) Ug (fun B=>lQ (gP 70 Q70 (gS _))) (fun _ _=>rfl) (by kernel_rfl) (hq (.eq (eL Try.prog 37 (.agg ⟨(cC e)⟩) M) (1,.val (pt b1 0),M2)) (bP (by rw[<-c3,<-c4];kernel_rfl) Nat.one_ne_zero) (hk (lO 0 bV g5 rfl) (hq (qC 70 [i64 e.f,i64 n] M2 (.bool (eH e.f n)) a1) (aJ rfl c8 c6 c1) (hw (bT a3) (hk (lO 1 bV b2 rfl) (hw (bT a3) (hq (qC 70 [i64 e.t,i64 n] a1 (.bool (eH e.t n)) a2) (aJ rfl c9 c7 c2) (hk (bT a3) (hw (bT cc1) (hk (lO 2 bV b3 rfl) (hk (bT cc1) (hq (qC 70 [i64 e.m,i64 5] a2 (.bool (eH e.m 5)) a4) (aJ rfl b8 b7 b6) (hk (bT cc1) (hw (bT cc2) (hk (lO 3 bV c5 rfl) (hw (bT cc2) (hw (bF cc3) (hw (bF cc3) hn)))))))))))))))))),b5,a6,rfl⟩
 ·intro cc1 cc2
  have b3:=a8.old b2
  have a0:d0=(.bool (eH e.t n)):=b9
  subst a0
  have b0:=c0.trans a8
  obtain⟨w34,d4,a4,b8,b7,b6,a9,a6,b4⟩:=aM (x:=(e.m,5)) a7 Gd (⟨_,_,rfl,rfl,rfl⟩)
  have a5:w34=(.bool (eH e.m 5)):=b4
  subst a5
  have b5:=b0.trans a9
  exact⟨.bool false,a4,Ev.told_tmp (tb:=[]) (n:=60) (F:=[bK 1 (pt b1 0) M2,aR 7 (i64 e.f),bK 11 (.bool (eH e.f n)) a1,aP 14,aP 16,aR 17 (i64 e.t),aP 18,aP 20,bK 21 (.bool (eH e.t n)) a2,aP 23,aP 26,aP 28,aR 29 (i64 e.m),aP 30,bK 31 (.bool (eH e.m 5)) a4,aP 33,aO 36,aO 38,aO 40,aO 43]) aG aF Try.func42 Dw (by kernel_rfl) Ug (fun B=>lQ (gP 70 Q70 (gS _))) (fun _ _=>rfl) (by kernel_rfl) (hq (.eq (eL Try.prog 37 (.agg ⟨(cC e)⟩) M) (1,.val (pt b1 0),M2)) (bP (by rw[<-c3,<-c4];kernel_rfl) Nat.one_ne_zero) (hk (lO 0 bV g5 rfl) (hq (qC 70 [i64 e.f,i64 n] M2 (.bool (eH e.f n)) a1) (aJ rfl c8 c6 c1) (hw (bT a3) (hk (lO 1 bV b2 rfl) (hw (bT a3) (hq (qC 70 [i64 e.t,i64 n] a1 (.bool (eH e.t n)) a2) (aJ rfl c9 c7 c2) (hk (bT a3) (hw (bT cc1) (hk (lO 2 bV b3 rfl) (hk (bT cc1) (hq (qC 70 [i64 e.m,i64 5] a2 (.bool (eH e.m 5)) a4) (aJ rfl b8 b7 b6) (hk (bT cc1) (hw (bF cc2) (hw (bF cc2) hn))))))))))))))),b5,a6,rfl⟩
 ·intro cc1
  have a0:d0=(.bool (eH e.t n)):=b9
  subst a0
  have b0:=c0.trans a8
  exact⟨.bool false,a2,Ev.told_tmp (tb:=[]) (n:=60) (F:=[bK 1 (pt b1 0) M2,aR 7 (i64 e.f),bK 11 (.bool (eH e.f n)) a1,aP 14,aP 16,aR 17 (i64 e.t),aP 18,aP 20,bK 21 (.bool (eH e.t n)) a2,aP 23,aO 26,aO 28,aO 30,aO 33]) aG aF Try.func42 Dw (by kernel_rfl) Ug (fun B=>lQ (gP 70 Q70 (gS _))) (fun _ _=>rfl) (by kernel_rfl) (hq (.eq (eL Try.prog 37 (.agg ⟨(cC e)⟩) M) (1,.val (pt b1 0),M2)) (bP (by rw[<-c3,<-c4];kernel_rfl) Nat.one_ne_zero) (hk (lO 0 bV g5 rfl) (hq (qC 70 [i64 e.f,i64 n] M2 (.bool (eH e.f n)) a1) (aJ rfl c8 c6 c1) (hw (bT a3) (hk (lO 1 bV b2 rfl) (hw (bT a3) (hq (qC 70 [i64 e.t,i64 n] a1 (.bool (eH e.t n)) a2) (aJ rfl c9 c7 c2) (hk (bT a3) (hw (bF cc1) (hw (bF cc1) hn)))))))))),b0,a7,rfl⟩
theorem w40_4(e:E4)(n:Int){M:aA}(hM:aB M)(a1:(eH e.f n)=false): ∃v M',Ev Try.prog [] 42 [.agg ⟨(cC e)⟩,i64 n] M v M'/\Ext M M'/\aB M'/\v=(.bool false):=by
 obtain⟨b1,M2,a8,a9,g5,E6,b0⟩:=bE hM ⟨(cC e),37,4,0,true⟩
 have X9:=(Ext.refl M).trans E6
 obtain⟨b4,b5,a0,b3,b2,a7,a4,a3,a5⟩:=aM (x:=(e.f,n)) b0 Gd (⟨_,_,rfl,rfl,rfl⟩)
 have a2:b4=(.bool (eH e.f n)):=a5
 subst a2
 have a6:=X9.trans a4
 exact⟨.bool false,a0,Ev.told_tmp (tb:=[]) (n:=60) (F:=[bK 1 (pt b1 0) M2,aR 7 (i64 e.f),bK 11 (.bool (eH e.f n)) a0,aO 14,aO 16,aO 18,aO 20,aO 23]) aG aF Try.func42 Dw (by kernel_rfl) Ug (fun B=>lQ (gP 70 Q70 (gS _))) (fun _ _=>rfl) (by kernel_rfl) (hq (.eq (eL Try.prog 37 (.agg ⟨(cC e)⟩) M) (1,.val (pt b1 0),M2)) (bP (by rw[<-a8,<-a9];kernel_rfl) Nat.one_ne_zero) (hk (lO 0 bV g5 rfl) (hq (qC 70 [i64 e.f,i64 n] M2 (.bool (eH e.f n)) a0) (aJ rfl b3 b2 a7) (hw (bF a1) (hw (bF a1) (hk (bF a1) hn)))))),a6,a3,rfl⟩
theorem Xa(e:E4)(n:Int){M:aA}(hM:aB M): ∃v M',Ev Try.prog [] 42 [.agg ⟨(cC e)⟩,i64 n] M v M'/\Ext M M'/\aB M'/\v= .bool (iH n e):=by
 cases a0:(eH e.f n) with
 |true=>
  cases a1:(eH e.t n) with
  |true=>
   cases a2:(eH e.m 5) with
   |true=>
    cases a3:(decide (e.c>=(0:Int))) with
    |true=>
     obtain⟨v,M1,h1,h2,h3,h4⟩:=(Bq e n hM a0).1 a1 a2 a3
     refine⟨v,M1,h1,h2,h3,?_⟩
     subst h4
     first|rfl|(simp only [iH,a0,a1,a2,a3,cond_true,cond_false,Bool.true_and,Bool.false_and,Bool.and_true,Bool.and_false,Bool.true_or,Bool.false_or,Bool.or_true,Bool.or_false,Bool.not_true,Bool.not_false];done)|(simp only [iH,a0,a1,a2,a3,cond_true,cond_false,Bool.true_and,Bool.false_and,Bool.and_true,Bool.and_false,Bool.true_or,Bool.false_or,Bool.or_true,Bool.or_false,Bool.not_true,Bool.not_false]<;>rfl)|(simp_all [iH];done)
    |false=>
     obtain⟨v,M1,h1,h2,h3,h4⟩:=(Bq e n hM a0).2.1 a1 a2 a3
     refine⟨v,M1,h1,h2,h3,?_⟩
     subst h4
     first|rfl|(simp only [iH,a0,a1,a2,a3,cond_true,cond_false,Bool.true_and,Bool.false_and,Bool.and_true,Bool.and_false,Bool.true_or,Bool.false_or,Bool.or_true,Bool.or_false,Bool.not_true,Bool.not_false];done)|(simp only [iH,a0,a1,a2,a3,cond_true,cond_false,Bool.true_and,Bool.false_and,Bool.and_true,Bool.and_false,Bool.true_or,Bool.false_or,Bool.or_true,Bool.or_false,Bool.not_true,Bool.not_false]<;>rfl)|(simp_all [iH];done)
   |false=>
    obtain⟨v,M1,h1,h2,h3,h4⟩:=(Bq e n hM a0).2.2.1 a1 a2
    refine⟨v,M1,h1,h2,h3,?_⟩
    subst h4
    first|rfl|(simp only [iH,a0,a1,a2,cond_true,cond_false,Bool.true_and,Bool.false_and,Bool.and_true,Bool.and_false,Bool.true_or,Bool.false_or,Bool.or_true,Bool.or_false,Bool.not_true,Bool.not_false];done)|(simp only [iH,a0,a1,a2,cond_true,cond_false,Bool.true_and,Bool.false_and,Bool.and_true,Bool.and_false,Bool.true_or,Bool.false_or,Bool.or_true,Bool.or_false,Bool.not_true,Bool.not_false]<;>rfl)|(simp_all [iH];done)
  |false=>
   obtain⟨v,M1,h1,h2,h3,h4⟩:=(Bq e n hM a0).2.2.2 a1
   refine⟨v,M1,h1,h2,h3,?_⟩
   subst h4
   first|rfl|(simp only [iH,a0,a1,cond_true,cond_false,Bool.true_and,Bool.false_and,Bool.and_true,Bool.and_false,Bool.true_or,Bool.false_or,Bool.or_true,Bool.or_false,Bool.not_true,Bool.not_false];done)|(simp only [iH,a0,a1,cond_true,cond_false,Bool.true_and,Bool.false_and,Bool.and_true,Bool.and_false,Bool.true_or,Bool.false_or,Bool.or_true,Bool.or_false,Bool.not_true,Bool.not_false]<;>rfl)|(simp_all [iH];done)
 |false=>
  obtain⟨v,M1,h1,h2,h3,h4⟩:=w40_4 e n hM a0
  refine⟨v,M1,h1,h2,h3,?_⟩
  subst h4
  first|rfl|(simp only [iH,a0,cond_true,cond_false,Bool.true_and,Bool.false_and,Bool.and_true,Bool.and_false,Bool.true_or,Bool.false_or,Bool.or_true,Bool.or_false,Bool.not_true,Bool.not_false];done)|(simp only [iH,a0,cond_true,cond_false,Bool.true_and,Bool.false_and,Bool.and_true,Bool.and_false,Bool.true_or,Bool.false_or,Bool.or_true,Bool.or_false,Bool.not_true,Bool.not_false]<;>rfl)|(simp_all [iH];done)
abbrev Q42:=FC (mU pE pI) (plain pB) (fun x=>iH x.2 x.1)
theorem con42{x:(E4)×(Int)}{lv:List Value}{M:aA}(hM:aB M)(h:(mU pE pI) x lv M): ∃v M',lM Try.prog [] 42 Q42 lv M v M':=by
 refine FC.con h ?_
 obtain⟨e,n⟩:=x
 obtain⟨g0,g1,rfl,k0,k1⟩:=h
 obtain rfl:=k0
 obtain rfl:=k1
 obtain⟨v,M',h1,h2,_,h3⟩:=Xa e n hM
 exact⟨v,M',h1,h2,h3⟩
theorem rK41:Try.f41.results= #[.tmp 2]:=by kernel_rfl
theorem w39_0(n:Int){M:aA}(hM:aB M)(a0:(decide (n>=(1:Int)))=true): ∃v M',Ev Try.prog [] 41 [i64 n] M v M'/\Ext M M'/\aB M'/\v=(.bool (decide (n<=(60:Int)))):=by
 exact⟨.bool (decide (n<=(60:Int))),M,Ev.told_tmp (tb:=[]) (n:=60) (F:=[aP 8,aP 10,aP 13]) aG aF Try.func41 Tx (by kernel_rfl) rK41 (aI Try.prog) (fun _ _=>rfl) (by kernel_rfl) (hw (bT a0) (hk (bT a0) hn)),Ext.refl M,hM,rfl⟩
theorem w39_1(n:Int){M:aA}(hM:aB M)(a0:(decide (n>=(1:Int)))=false): ∃v M',Ev Try.prog [] 41 [i64 n] M v M'/\Ext M M'/\aB M'/\v=(.bool false):=by
 exact⟨.bool false,M,Ev.told_tmp (tb:=[]) (n:=60) (F:=[aO 8,aO 10,aO 13]) aG aF Try.func41 Tx (by kernel_rfl) rK41 (aI Try.prog) (fun _ _=>rfl) (by kernel_rfl) (hw (bF a0) (hk (bF a0) hn)),Ext.refl M,hM,rfl⟩
theorem Wz(n:Int){M:aA}(hM:aB M): ∃v M',Ev Try.prog [] 41 [i64 n] M v M'/\Ext M M'/\aB M'/\v= .bool (fZ n):=by
 cases a0:(decide (n>=(1:Int))) with
 |true=>
  obtain⟨v,M1,h1,h2,h3,h4⟩:=w39_0 n hM a0
  refine⟨v,M1,h1,h2,h3,?_⟩
  subst h4
  first|rfl|(simp only [fZ,a0,cond_true,cond_false,Bool.true_and,Bool.false_and,Bool.and_true,Bool.and_false,Bool.true_or,Bool.false_or,Bool.or_true,Bool.or_false,Bool.not_true,Bool.not_false];done)|(simp only [fZ,a0,cond_true,cond_false,Bool.true_and,Bool.false_and,Bool.and_true,Bool.and_false,Bool.true_or,Bool.false_or,Bool.or_true,Bool.or_false,Bool.not_true,Bool.not_false]<;>rfl)|(simp_all [fZ];done)
 |false=>
  obtain⟨v,M1,h1,h2,h3,h4⟩:=w39_1 n hM a0
  refine⟨v,M1,h1,h2,h3,?_⟩
  subst h4
  first|rfl|(simp only [fZ,a0,cond_true,cond_false,Bool.true_and,Bool.false_and,Bool.and_true,Bool.and_false,Bool.true_or,Bool.false_or,Bool.or_true,Bool.or_false,Bool.not_true,Bool.not_false];done)|(simp only [fZ,a0,cond_true,cond_false,Bool.true_and,Bool.false_and,Bool.and_true,Bool.and_false,Bool.true_or,Bool.false_or,Bool.or_true,Bool.or_false,Bool.not_true,Bool.not_false]<;>rfl)|(simp_all [fZ];done)
abbrev Q41:=FC (sU pI) (plain pB) (fun x=>fZ x)
theorem Oz{n:(Int)}{lv:List Value}{M:aA}(hM:aB M)(h:(sU pI) n lv M): ∃v M',lM Try.prog [] 41 Q41 lv M v M':=by
 refine FC.con h ?_
 obtain⟨g0,rfl,k0⟩:=h
 obtain rfl:=k0
 obtain⟨v,M',h1,h2,_,h3⟩:=Wz n hM
 exact⟨v,M',h1,h2,h3⟩
theorem nN:(Try.prog.underlying 24).map dR=some false:=by kernel_rfl
theorem Qb:(Try.prog.info? 24).map (·.size)=some 1:=by kernel_rfl
theorem uL:(Try.prog.underlying 37).map dR=some true:=by kernel_rfl
theorem oO:(Try.prog.info? 37).map (·.size)=some 4:=by kernel_rfl
theorem Ph(b bb o m c i:Nat)(n:Int)(e:E4){M M0:aA}(hM:aB M)(X0:Ext M0 M)(gb:M.get b=some ⟨[i64 n,aC bb o m c],26,2,0,true⟩)(a4:(decide ((i:Int)<(m:Int)))=true): (∀(cc1:(iH n e)=true)(hld0:bI Try.prog 37 ⟨bb,o+((i:Int):Int).toNat*4,none⟩ M0=some (.agg ⟨(cC e)⟩)),∃T1 M',Rd Try.prog [] (q20.loopAt 0) Try.f20.ntmps (fr [(1,(pt b 0)),(16,(aC bb o m c)),(17,(i64 (m:Int))),(18,(i64 (i:Int)))]) M .normal T1 M'/\ [1,16,17,18].map T1.get= [some (pt b 0),some (aC bb o m c),some (i64 (m:Int)),some (i64 (IntKind.wrap .i64 ((i:Int)+(1:Int))))]/\Ext M0 M'/\aB M'/\M'.get b=some ⟨[i64 n,aC bb o m c],26,2,0,true⟩/\ ∀id k,M.get id=some k->id≠b->M'.get id=some k)/\(∀(cc1:(iH n e)=false)(hld0:bI Try.prog 37 ⟨bb,o+((i:Int):Int).toNat*4,none⟩ M0=some (.agg ⟨(cC e)⟩)),∃T1 M',Rd Try.prog [] (q20.loopAt 0) Try.f20.ntmps (fr [(1,(pt b 0)),(16,(aC bb o m c)),(17,(i64 (m:Int))),(18,(i64 (i:Int)))]) M .ret T1 M'/\ [2].map T1.get= [some (.bool false)]/\Ext M0 M'/\aB M'/\M'.get b=some ⟨[i64 n,aC bb o m c],26,2,0,true⟩/\ ∀id k,M.get id=some k->id≠b->M'.get id=some k):=by
 obtain⟨b1,M2,a5,b4,g5,E6,c3⟩:=bE hM ⟨[i64 0,i64 0,i64 0,i64 0],37,4,0,true⟩
 have c4:=mG a5 X0
 have a7:=fL gb a5
 have g8:=E6.old gb
 have c1:=X0.trans E6
 obtain⟨a0,q12,b5,a3,c2,b0,c5⟩:=aZ (o:=0) (v:=(.agg ⟨(cC e)⟩)) (new:= (cC e)) c1 c4 c3 oO g5 rfl rfl (Nat.zero_le _) (Nat.le_of_ble_eq_true rfl) rfl
 have a9:=(a3 _ a7).trans g8
 obtain⟨c6,c7,a1,b9,b8,b3,a6,a2,c0⟩:=aM (x:=(e,n)) b0 con42 (⟨_,_,rfl,rfl,rfl⟩)
 have b6:=a6.old a9
 have a8:c6=(.bool (iH n e)):=c0
 subst a8
 have b2:=c2.trans a6
 have b7: ∀id k,M.get id=some k->id≠b->a1.get id=some k:=fun id k g h_b=>by
  have g0:=aA.lt_of_get g
  have g:=E6.old g
  have g:=((fun id h _=>a3 id h) id (by omega) (aA.lt_of_get g)).trans g
  have g:=a6.old g
  exact g
 refine⟨?_,?_⟩
 ·intro cc1 hld0
  obtain⟨T1,h1,h2⟩:=Rd.told (tb:=[]) (n:=60) (F:=[aP 2,aP 4,aR 6 (.agg ⟨(cC e)⟩),bK 8 (pt b1 0) M2,jJ 10 a0,aR 12 (.agg ⟨(cC e)⟩),aR 16 (i64 n),bK 18 (.bool (iH n e)) a1,aO 21]) aG aF (fun B=>lQ (gP 42 Q42 (gS _))) (fun _ _=>rfl) (by kernel_rfl) (hk (bT a4) (hk (qI (i:Int) m (by omega) (by simp at a4;omega)) (hk (lD (aS X0 hld0)) (hq (.eq (cN Try.prog 37 M) (1,.val (pt b1 0),M2)) (bP (by rw[<-a5,<-b4];kernel_rfl) Nat.one_ne_zero) (hq (qS 37 b1 0 (.agg ⟨(cC e)⟩) M2 a0) (dA q12) (hq (qL 37 b1 0 a0 (.agg ⟨(cC e)⟩)) (lA ⟨uL,oO⟩ b5 rfl) (hk (lO 0 bV a9 rfl) (hq (qC 42 [.agg ⟨(cC e)⟩,i64 n] a0 (.bool (iH n e)) a1) (aJ rfl b9 b8 b3) (hk (bF (x:=!(iH n e)) (by rw[cc1];rfl)) hn)))))))))
  exact⟨T1,a1,h1,h2,b2,a2,b6,b7⟩
 ·intro cc1 hld0
  obtain⟨T1,h1,h2⟩:=Rd.told (tb:=[]) (n:=60) (F:=[aP 2,aP 4,aR 6 (.agg ⟨(cC e)⟩),bK 8 (pt b1 0) M2,jJ 10 a0,aR 12 (.agg ⟨(cC e)⟩),aR 16 (i64 n),bK 18 (.bool (iH n e)) a1,aP 21]) aG aF (fun B=>lQ (gP 42 Q42 (gS _))) (fun _ _=>rfl) (by kernel_rfl) (hk (bT a4) (hk (qI (i:Int) m (by omega) (by simp at a4;omega)) (hk (lD (aS X0 hld0)) (hq (.eq (cN Try.prog 37 M) (1,.val (pt b1 0),M2)) (bP (by rw[<-a5,<-b4];kernel_rfl) Nat.one_ne_zero) (hq (qS 37 b1 0 (.agg ⟨(cC e)⟩) M2 a0) (dA q12) (hq (qL 37 b1 0 a0 (.agg ⟨(cC e)⟩)) (lA ⟨uL,oO⟩ b5 rfl) (hk (lO 0 bV a9 rfl) (hq (qC 42 [.agg ⟨(cC e)⟩,i64 n] a0 (.bool (iH n e)) a1) (aJ rfl b9 b8 b3) (hk (bT (x:=!(iH n e)) (by rw[cc1];rfl)) hn)))))))))
  exact⟨T1,a1,h1,h2,b2,a2,b6,b7⟩
theorem r27x(b:Nat)(a:Option Addr)(m c i:Nat)(n:Int){M:aA}(gb:M.get b=some ⟨[i64 n,.slice a m c],26,2,0,true⟩)(a0:(decide ((i:Int)<(m:Int)))=false): ∃T1,Rd Try.prog [] (q20.loopAt 0) Try.f20.ntmps (fr [(1,(pt b 0)),(16,(.slice a m c)),(17,(i64 (m:Int))),(18,(i64 (i:Int)))]) M (.exit 0) T1 M/\ [].map T1.get= []:=by
 exact Rd.told (tb:=[]) (n:=60) (F:=[aO 2]) aG aF (aI Try.prog) (fun _ _=>rfl) (by kernel_rfl) (hk (bF a0) hn)
theorem Tf{b:Nat}{a:Option Addr}{c:Nat}{n:Int}{l:List E4}{M:aA}(hM:aB M)(hs:Bf M (.slice a l.length c) l)(hg:M.get b=some ⟨[i64 n,.slice a l.length c],26,2,0,true⟩):
  ∃e O M',bN Try.prog [] (q20.loopAt 0) Try.f20.ntmps (fr [(1,pt b 0),(16,.slice a l.length c),(17,i64 l.length),(18,i64 ((0:Nat):Int))]) M e (fr O) M'/\Ext M M'/\aB M'/\
   ((e= .exit 0/\O= []/\l.all (iH n)=true)\/(e= .ret/\O= [(2,.bool false)]/\l.all (iH n)=false)):=by
 have hlen:=hs.len
 refine bN.forE (σ:=Unit) (n:=l.length) (Inv:=fun i _ M1=>Ext M M1/\aB M1/\M1.get b=some ⟨[i64 n,.slice a l.length c],26,2,0,true⟩/\(l.take i).all (iH n)=true)
  (F:=fun i _=> [(1,pt b 0),(16,.slice a l.length c),(17,i64 l.length),(18,i64 ((i:Nat):Int))])
  (Post:=fun e O M'=>Ext M M'/\aB M'/\((e= .exit 0/\O= []/\l.all (iH n)=true)\/(e= .ret/\O= [(2,.bool false)]/\l.all (iH n)=false))) ?_ ?_ l.length 0 (by omega) (s:=()) ⟨Ext.refl M,hM,hg,by simp⟩
 ·rintro i _ M1 hi ⟨X,a0,a1,hall⟩
  obtain⟨bb,o,rfl,_⟩:=cF hs (by omega)
  have ht:l[i]?=some l[i]:=List.getElem?_eq_getElem hi
  have a2:=mN (P:=Try.prog) (ty:=37) hs ht uL oO
  cases hf:iH n l[i] with
  |true=>
   obtain⟨T1,M2,h1,h2,h3,h4,h5,_⟩:=(Ph b bb o l.length c i n l[i] a0 X a1 (decide_eq_true (by omega))).1 hf a2
   rw[aX (by omega)] at h2
   refine .inl ⟨(),T1,M2,h1,h2,h3,h4,h5,?_⟩
   rw[List.take_succ_eq_append_getElem hi,List.all_append,hall]
   simp [hf]
  |false=>
   obtain⟨T1,M2,h1,h2,h3,h4,h5,_⟩:=(Ph b bb o l.length c i n l[i] a0 X a1 (decide_eq_true (by omega))).2 hf a2
   refine .inr ⟨_,[(2,.bool false)],T1,M2,h1,by simp,h2,h3,h4,.inr ⟨rfl,rfl,?_⟩⟩
   rw[List.all_eq_false]
   exact⟨l[i],List.getElem_mem hi,by simp [hf]⟩
 ·rintro _ M1 ⟨X,a0,a1,hall⟩
  obtain⟨T1,h1,h2⟩:=r27x b a l.length c l.length n a1 (decide_eq_false (by omega))
  refine⟨_,[],T1,M1,h1,by simp,h2,X,a0,.inl ⟨rfl,rfl,?_⟩⟩
  rwa [List.take_length] at hall
theorem Th{b:Nat}{a:Option Addr}{c:Nat}{n:Int}{l:List E4}{M:aA}(hM:aB M)(hs:Bf M (.slice a l.length c) l)(hg:M.get b=some ⟨[i64 n,.slice a l.length c],26,2,0,true⟩)(h:l.all (iH n)=true):
  ∃M',bN Try.prog [] (q20.loopAt 0) Try.f20.ntmps (fr [(1,pt b 0),(16,.slice a l.length c),(17,i64 l.length),(18,i64 ((0:Nat):Int))]) M (.exit 0) (fr []) M'/\Ext M M'/\aB M':=by
 obtain⟨e,O,M',h1,h2,h3,h4|h4⟩:=Tf hM hs hg
 ·obtain⟨rfl,rfl,_⟩:=h4;exact⟨M',h1,h2,h3⟩
 ·rw[h] at h4;cases h4.2.2
theorem Tg{b:Nat}{a:Option Addr}{c:Nat}{n:Int}{l:List E4}{M:aA}(hM:aB M)(hs:Bf M (.slice a l.length c) l)(hg:M.get b=some ⟨[i64 n,.slice a l.length c],26,2,0,true⟩)(h:l.all (iH n)=false):
  ∃M',bN Try.prog [] (q20.loopAt 0) Try.f20.ntmps (fr [(1,pt b 0),(16,.slice a l.length c),(17,i64 l.length),(18,i64 ((0:Nat):Int))]) M .ret (fr [(2,.bool false)]) M'/\Ext M M'/\aB M':=by
 obtain⟨e,O,M',h1,h2,h3,h4|h4⟩:=Tf hM hs hg
 ·rw[h] at h4;cases h4.2.2
 ·obtain⟨rfl,rfl,_⟩:=h4;exact⟨M',h1,h2,h3⟩
theorem Wo:Try.f20.results= #[.tmp 2]:=by kernel_rfl
theorem w27_0(ln:Int)(al:Option Addr)(cl:Nat)(l:List E4){M:aA}(hM:aB M)(hl:aU l (.slice al l.length cl) M)(a0:(fZ ln)=true)(a7:(decide ((l.length:Int)>(400:Int)))=true): ∃v M',Ev Try.prog [] 20 [.agg ⟨[i64 ln,.slice al l.length cl]⟩] M v M'/\Ext M M'/\aB M'/\v=(.bool false):=by
 obtain⟨b1,M2,a9,b0,g5,E6,b3⟩:=bE hM ⟨[i64 ln,.slice al l.length cl],26,2,0,true⟩
 have X9:=(Ext.refl M).trans E6
 obtain⟨b6,b7,a1,b5,b4,a8,a4,a3,a5⟩:=aM (x:=ln) b3 Oz (⟨_,rfl,rfl⟩)
 have b2:=a4.old g5
 have a2:b6=(.bool (fZ ln)):=a5
 subst a2
 have a6:=X9.trans a4
 exact⟨.bool false,a1,Ev.told_tmp (tb:=[]) (n:=60) (F:=[bK 1 (pt b1 0) M2,aR 7 (i64 ln),bK 9 (.bool (fZ ln)) a1,aO 14,aO 16,aR 17 (.slice al l.length cl),aO 18,aP 19,aO 20,aO 23,aP 24]) aG aF Try.func20 Iv (by kernel_rfl) Wo (fun B=>lQ (gP 41 Q41 (gS _))) (fun _ _=>rfl) (by kernel_rfl) (hq (.eq (eL Try.prog 26 (.agg ⟨[i64 ln,.slice al l.length cl]⟩) M) (1,.val (pt b1 0),M2)) (bP (by rw[<-a9,<-b0];kernel_rfl) Nat.one_ne_zero) (hk (lO 0 bV g5 rfl) (hq (qC 41 [i64 ln] M2 (.bool (fZ ln)) a1) (aJ rfl b5 b4 a8) (hk (bF (x:=!(fZ ln)) (by rw[a0];rfl)) (hk (bF (x:=!(fZ ln)) (by rw[a0];rfl)) (hk (lO 1 nN b2 rfl) (hk (bF (x:=!(fZ ln)) (by rw[a0];rfl)) (hk (lN hl.ln) (hk (bF (x:=!(fZ ln)) (by rw[a0];rfl)) (hk (bF (x:=!(fZ ln)) (by rw[a0];rfl)) (hk (bT a7) hn))))))))))),a6,a3,rfl⟩
theorem w27_1(ln:Int)(al:Option Addr)(cl:Nat)(l:List E4){M:aA}(hM:aB M)(hl:aU l (.slice al l.length cl) M)(a0:(fZ ln)=true)(b4:(decide ((l.length:Int)>(400:Int)))=false)(b5:(l.all (iH ln))=true): ∃v M',Ev Try.prog [] 20 [.agg ⟨[i64 ln,.slice al l.length cl]⟩] M v M'/\Ext M M'/\aB M'/\v=(.bool true):=by
 obtain⟨b1,M2,b7,b8,g5,E6,b9⟩:=bE hM ⟨[i64 ln,.slice al l.length cl],26,2,0,true⟩
 have X9:=(Ext.refl M).trans E6
 obtain⟨c2,c3,a1,c1,c0,b6,a8,a6,b2⟩:=aM (x:=ln) b9 Oz (⟨_,rfl,rfl⟩)
 have a4:=a8.old g5
 have a3:c2=(.bool (fZ ln)):=b2
 subst a3
 have a9:=X9.trans a8
 obtain⟨a2,a5,b0,a7⟩:=Th a6 (AP.Ext (R:=aU) hl a9) a4 b5
 have b3:=a9.trans b0
 exact⟨.bool true,a2,Ev.told_tmp (tb:=[0]) (n:=60) (F:=[bK 1 (pt b1 0) M2,aR 7 (i64 ln),bK 9 (.bool (fZ ln)) a1,aO 14,aO 16,aR 17 (.slice al l.length cl),aO 18,aP 19,aO 20,aO 23,aO 24,aR 28 (.slice al l.length cl),aP 30,.blk 33 [1,16,17,18] .normal (fr []) a2]) aG aF Try.func20 Iv (by kernel_rfl) Wo (fun B=>zJ (gP 41 Q41 (gS _)) 0 a5) (fun _ h=>cD h) (by kernel_rfl) (hq (.eq (eL Try.prog 26 (.agg ⟨[i64 ln,.slice al l.length cl]⟩) M) (1,.val (pt b1 0),M2)) (bP (by rw[<-b7,<-b8];kernel_rfl) Nat.one_ne_zero) (hk (lO 0 bV g5 rfl) (hq (qC 41 [i64 ln] M2 (.bool (fZ ln)) a1) (aJ rfl c1 c0 b6) (hk (bF (x:=!(fZ ln)) (by rw[a0];rfl)) (hk (bF (x:=!(fZ ln)) (by rw[a0];rfl)) (hk (lO 1 nN a4 rfl) (hk (bF (x:=!(fZ ln)) (by rw[a0];rfl)) (hk (lN hl.ln) (hk (bF (x:=!(fZ ln)) (by rw[a0];rfl)) (hk (bF (x:=!(fZ ln)) (by rw[a0];rfl)) (hk (bF b4) (hk (lO 1 nN a4 rfl) (hk (lN hl.ln) (hq (.blk 0 (.loop (q20.loopAt 0)) Try.f20.ntmps [1,16,17,18] [some (pt b1 0),some (.slice al l.length cl),some (i64 (l.length:Int)),some (i64 0)] a1 .normal (fr []) a2) (fP rfl) hn)))))))))))))),b3,a7,rfl⟩
theorem w27_2(ln:Int)(al:Option Addr)(cl:Nat)(l:List E4){M:aA}(hM:aB M)(hl:aU l (.slice al l.length cl) M)(a0:(fZ ln)=true)(b4:(decide ((l.length:Int)>(400:Int)))=false)(b5:(l.all (iH ln))=false): ∃v M',Ev Try.prog [] 20 [.agg ⟨[i64 ln,.slice al l.length cl]⟩] M v M'/\Ext M M'/\aB M'/\v=(.bool false):=by
 obtain⟨b1,M2,b7,b8,g5,E6,b9⟩:=bE hM ⟨[i64 ln,.slice al l.length cl],26,2,0,true⟩
 have X9:=(Ext.refl M).trans E6
 obtain⟨c2,c3,a1,c1,c0,b6,a8,a6,b2⟩:=aM (x:=ln) b9 Oz (⟨_,rfl,rfl⟩)
 have a4:=a8.old g5
 have a3:c2=(.bool (fZ ln)):=b2
 subst a3
 have a9:=X9.trans a8
 obtain⟨a2,a5,b0,a7⟩:=Tg a6 (AP.Ext (R:=aU) hl a9) a4 b5
 have b3:=a9.trans b0
 exact⟨.bool false,a2,Ev.told_tmp (tb:=[0]) (n:=60) (F:=[bK 1 (pt b1 0) M2,aR 7 (i64 ln),bK 9 (.bool (fZ ln)) a1,aO 14,aO 16,aR 17 (.slice al l.length cl),aO 18,aP 19,aO 20,aO 23,aO 24,aR 28 (.slice al l.length cl),aP 30,.blk 33 [1,16,17,18] .ret (fr [(2,(.bool false))]) a2]) aG aF Try.func20 Iv (by kernel_rfl) Wo (fun B=>zJ (gP 41 Q41 (gS _)) 0 a5) (fun _ h=>cD h) (by kernel_rfl) (hq (.eq (eL Try.prog 26 (.agg ⟨[i64 ln,.slice al l.length cl]⟩) M) (1,.val (pt b1 0),M2)) (bP (by rw[<-b7,<-b8];kernel_rfl) Nat.one_ne_zero) (hk (lO 0 bV g5 rfl) (hq (qC 41 [i64 ln] M2 (.bool (fZ ln)) a1) (aJ rfl c1 c0 b6) (hk (bF (x:=!(fZ ln)) (by rw[a0];rfl)) (hk (bF (x:=!(fZ ln)) (by rw[a0];rfl)) (hk (lO 1 nN a4 rfl) (hk (bF (x:=!(fZ ln)) (by rw[a0];rfl)) (hk (lN hl.ln) (hk (bF (x:=!(fZ ln)) (by rw[a0];rfl)) (hk (bF (x:=!(fZ ln)) (by rw[a0];rfl)) (hk (bF b4) (hk (lO 1 nN a4 rfl) (hk (lN hl.ln) (hq (.blk 0 (.loop (q20.loopAt 0)) Try.f20.ntmps [1,16,17,18] [some (pt b1 0),some (.slice al l.length cl),some (i64 (l.length:Int)),some (i64 0)] a1 .ret (fr [(2,(.bool false))]) a2) (fP rfl) hn)))))))))))))),b3,a7,rfl⟩
theorem w27_3(ln:Int)(al:Option Addr)(cl:Nat)(l:List E4){M:aA}(hM:aB M)(hl:aU l (.slice al l.length cl) M)(a0:(fZ ln)=false): ∃v M',Ev Try.prog [] 20 [.agg ⟨[i64 ln,.slice al l.length cl]⟩] M v M'/\Ext M M'/\aB M'/\v=(.bool false):=by
 obtain⟨b1,M2,a8,a9,g5,E6,b0⟩:=bE hM ⟨[i64 ln,.slice al l.length cl],26,2,0,true⟩
 have X9:=(Ext.refl M).trans E6
 obtain⟨b4,b5,a1,b3,b2,a7,a4,a3,a5⟩:=aM (x:=ln) b0 Oz (⟨_,rfl,rfl⟩)
 have a2:b4=(.bool (fZ ln)):=a5
 subst a2
 have a6:=X9.trans a4
 exact⟨.bool false,a1,Ev.told_tmp (tb:=[]) (n:=60) (F:=[bK 1 (pt b1 0) M2,aR 7 (i64 ln),bK 9 (.bool (fZ ln)) a1,aP 14,aP 16,aP 18,aP 20,aP 23]) aG aF Try.func20 Iv (by kernel_rfl) Wo (fun B=>lQ (gP 41 Q41 (gS _))) (fun _ _=>rfl) (by kernel_rfl) (hq (.eq (eL Try.prog 26 (.agg ⟨[i64 ln,.slice al l.length cl]⟩) M) (1,.val (pt b1 0),M2)) (bP (by rw[<-a8,<-a9];kernel_rfl) Nat.one_ne_zero) (hk (lO 0 bV g5 rfl) (hq (qC 41 [i64 ln] M2 (.bool (fZ ln)) a1) (aJ rfl b3 b2 a7) (hk (bT (x:=!(fZ ln)) (by rw[a0];rfl)) (hk (bT (x:=!(fZ ln)) (by rw[a0];rfl)) (hk (bT (x:=!(fZ ln)) (by rw[a0];rfl)) (hk (bT (x:=!(fZ ln)) (by rw[a0];rfl)) (hk (bT (x:=!(fZ ln)) (by rw[a0];rfl)) hn)))))))),a6,a3,rfl⟩
theorem Ww(ln:Int)(al:Option Addr)(cl:Nat)(l:List E4){M:aA}(hM:aB M)(hl:aU l (.slice al l.length cl) M): ∃v M',Ev Try.prog [] 20 [.agg ⟨[i64 ln,.slice al l.length cl]⟩] M v M'/\Ext M M'/\aB M'/\v= .bool (eX ln l):=by
 cases a0:(fZ ln) with
 |true=>
  cases a1:(decide ((l.length:Int)>(400:Int))) with
  |true=>
   obtain⟨v,M1,h1,h2,h3,h4⟩:=w27_0 ln al cl l hM hl a0 a1
   refine⟨v,M1,h1,h2,h3,?_⟩
   subst h4
   first|rfl|(simp only [eX,a0,a1,cond_true,cond_false,Bool.true_and,Bool.false_and,Bool.and_true,Bool.and_false,Bool.true_or,Bool.false_or,Bool.or_true,Bool.or_false,Bool.not_true,Bool.not_false];done)|(simp only [eX,a0,a1,cond_true,cond_false,Bool.true_and,Bool.false_and,Bool.and_true,Bool.and_false,Bool.true_or,Bool.false_or,Bool.or_true,Bool.or_false,Bool.not_true,Bool.not_false]<;>rfl)|(simp_all [eX];done)
  |false=>
   cases a2:(l.all (iH ln)) with
   |true=>
    obtain⟨v,M1,h1,h2,h3,h4⟩:=w27_1 ln al cl l hM hl a0 a1 a2
    refine⟨v,M1,h1,h2,h3,?_⟩
    subst h4
    first|rfl|(simp only [eX,a0,a1,a2,cond_true,cond_false,Bool.true_and,Bool.false_and,Bool.and_true,Bool.and_false,Bool.true_or,Bool.false_or,Bool.or_true,Bool.or_false,Bool.not_true,Bool.not_false];done)|(simp only [eX,a0,a1,a2,cond_true,cond_false,Bool.true_and,Bool.false_and,Bool.and_true,Bool.and_false,Bool.true_or,Bool.false_or,Bool.or_true,Bool.or_false,Bool.not_true,Bool.not_false]<;>rfl)|(simp_all [eX];done)
   |false=>
    obtain⟨v,M1,h1,h2,h3,h4⟩:=w27_2 ln al cl l hM hl a0 a1 a2
    refine⟨v,M1,h1,h2,h3,?_⟩
    subst h4
    first|rfl|(simp only [eX,a0,a1,a2,cond_true,cond_false,Bool.true_and,Bool.false_and,Bool.and_true,Bool.and_false,Bool.true_or,Bool.false_or,Bool.or_true,Bool.or_false,Bool.not_true,Bool.not_false];done)|(simp only [eX,a0,a1,a2,cond_true,cond_false,Bool.true_and,Bool.false_and,Bool.and_true,Bool.and_false,Bool.true_or,Bool.false_or,Bool.or_true,Bool.or_false,Bool.not_true,Bool.not_false]<;>rfl)|(simp_all [eX];done)
 |false=>
  obtain⟨v,M1,h1,h2,h3,h4⟩:=w27_3 ln al cl l hM hl a0
  refine⟨v,M1,h1,h2,h3,?_⟩
  subst h4
  first|rfl|(simp only [eX,a0,cond_true,cond_false,Bool.true_and,Bool.false_and,Bool.and_true,Bool.and_false,Bool.true_or,Bool.false_or,Bool.or_true,Bool.or_false,Bool.not_true,Bool.not_false];done)|(simp only [eX,a0,cond_true,cond_false,Bool.true_and,Bool.false_and,Bool.and_true,Bool.and_false,Bool.true_or,Bool.false_or,Bool.or_true,Bool.or_false,Bool.not_true,Bool.not_false]<;>rfl)|(simp_all [eX];done)
abbrev Q20:=FC (sU Qx) (plain pB) (fun x=>eX x.1 x.2)
theorem Se{l:(Int×List E4)}{lv:List Value}{M:aA}(hM:aB M)(h:(sU Qx) l lv M): ∃v M',lM Try.prog [] 20 Q20 lv M v M':=by
 refine FC.con h ?_
 obtain⟨g0,rfl,k0⟩:=h
 obtain⟨ln,l⟩:=l
 obtain⟨_,rfl,hl⟩:=k0
 obtain⟨al,cl,rfl⟩:=aH.form hl
 obtain⟨v,M',h1,h2,_,h3⟩:=Ww ln al cl l hM hl
 exact⟨v,M',h1,h2,h3⟩
theorem rK86:Try.f86.results= #[.tmp 2]:=by kernel_rfl
theorem w35_0(e:E4){M:aA}(hM:aB M): ∃v M',Ev Try.prog [] 86 [.agg ⟨(cC e)⟩] M v M'/\Ext M M'/\aB M'/\v=(i64 e.t):=by
 obtain⟨b1,M2,a0,a1,g5,E6,a2⟩:=bE hM ⟨(cC e),111,4,0,true⟩
 have X9:=(Ext.refl M).trans E6
 exact⟨i64 e.t,M2,Ev.told_tmp (tb:=[]) (n:=60) (F:=[bK 1 (pt b1 0) M2,aR 7 (i64 e.t)]) aG aF Try.func86 aAN (by kernel_rfl) rK86 (aI Try.prog) (fun _ _=>rfl) (by kernel_rfl) (hq (.eq (eL Try.prog 111 (.agg ⟨(cC e)⟩) M) (1,.val (pt b1 0),M2)) (bP (by rw[<-a0,<-a1];kernel_rfl) Nat.one_ne_zero) (hk (lO 1 bV g5 rfl) hn)),X9,a2,rfl⟩
theorem Wx(e:E4){M:aA}(hM:aB M): ∃v M',Ev Try.prog [] 86 [.agg ⟨(cC e)⟩] M v M'/\Ext M M'/\aB M'/\v=i64 (e.t):=by
 obtain⟨v,M1,h1,h2,h3,h4⟩:=w35_0 e hM
 refine⟨v,M1,h1,h2,h3,?_⟩
 subst h4
 first|rfl|(simp only [cond_true,cond_false,Bool.true_and,Bool.false_and,Bool.and_true,Bool.and_false,Bool.true_or,Bool.false_or,Bool.or_true,Bool.or_false,Bool.not_true,Bool.not_false];done)|(simp only [cond_true,cond_false,Bool.true_and,Bool.false_and,Bool.and_true,Bool.and_false,Bool.true_or,Bool.false_or,Bool.or_true,Bool.or_false,Bool.not_true,Bool.not_false]<;>rfl)|(simp_all [];done)
abbrev Q86:=FC (sU pE) (plain pI) (fun x=>x.t)
theorem con86{e:(E4)}{lv:List Value}{M:aA}(hM:aB M)(h:(sU pE) e lv M): ∃v M',lM Try.prog [] 86 Q86 lv M v M':=by
 refine FC.con h ?_
 obtain⟨g0,rfl,k0⟩:=h
 obtain rfl:=k0
 obtain⟨v,M',h1,h2,_,h3⟩:=Wx e hM
 exact⟨v,M',h1,h2,h3⟩
theorem rK88:Try.f88.results= #[.tmp 2]:=by kernel_rfl
theorem w37_0(e:E4){M:aA}(hM:aB M): ∃v M',Ev Try.prog [] 88 [.agg ⟨(cC e)⟩] M v M'/\Ext M M'/\aB M'/\v=(i64 e.f):=by
 obtain⟨b1,M2,a0,a1,g5,E6,a2⟩:=bE hM ⟨(cC e),111,4,0,true⟩
 have X9:=(Ext.refl M).trans E6
 exact⟨i64 e.f,M2,Ev.told_tmp (tb:=[]) (n:=60) (F:=[bK 1 (pt b1 0) M2,aR 7 (i64 e.f)]) aG aF Try.func88 aAP (by kernel_rfl) rK88 (aI Try.prog) (fun _ _=>rfl) (by kernel_rfl) (hq (.eq (eL Try.prog 111 (.agg ⟨(cC e)⟩) M) (1,.val (pt b1 0),M2)) (bP (by rw[<-a0,<-a1];kernel_rfl) Nat.one_ne_zero) (hk (lO 0 bV g5 rfl) hn)),X9,a2,rfl⟩
theorem Wy(e:E4){M:aA}(hM:aB M): ∃v M',Ev Try.prog [] 88 [.agg ⟨(cC e)⟩] M v M'/\Ext M M'/\aB M'/\v=i64 (e.f):=by
 obtain⟨v,M1,h1,h2,h3,h4⟩:=w37_0 e hM
 refine⟨v,M1,h1,h2,h3,?_⟩
 subst h4
 first|rfl|(simp only [cond_true,cond_false,Bool.true_and,Bool.false_and,Bool.and_true,Bool.and_false,Bool.true_or,Bool.false_or,Bool.or_true,Bool.or_false,Bool.not_true,Bool.not_false];done)|(simp only [cond_true,cond_false,Bool.true_and,Bool.false_and,Bool.and_true,Bool.and_false,Bool.true_or,Bool.false_or,Bool.or_true,Bool.or_false,Bool.not_true,Bool.not_false]<;>rfl)|(simp_all [];done)
abbrev Q88:=FC (sU pE) (plain pI) (fun x=>x.f)
theorem con88{e:(E4)}{lv:List Value}{M:aA}(hM:aB M)(h:(sU pE) e lv M): ∃v M',lM Try.prog [] 88 Q88 lv M v M':=by
 refine FC.con h ?_
 obtain⟨g0,rfl,k0⟩:=h
 obtain rfl:=k0
 obtain⟨v,M',h1,h2,_,h3⟩:=Wy e hM
 exact⟨v,M',h1,h2,h3⟩
theorem Uh:Try.f89.results= #[.tmp 2]:=by kernel_rfl
theorem w38_0(f t c:Int){M:aA}(hM:aB M): ∃v M',Ev Try.prog [] 89 [.agg ⟨[i64 f,i64 t,i64 0,i64 c]⟩] M v M'/\Ext M M'/\aB M'/\v=(i64 1):=by
 obtain⟨b1,M2,a0,a1,g5,E6,a2⟩:=bE hM ⟨[i64 f,i64 t,i64 0,i64 c],111,4,0,true⟩
 have X9:=(Ext.refl M).trans E6
 exact⟨i64 1,M2,Ev.told_tmp (tb:=[]) (n:=60) (F:=[bK 1 (pt b1 0) M2,aR 7 (i64 0)]) aG aF Try.func89 Dx (by kernel_rfl) Uh (aI Try.prog) (fun _ _=>rfl) (by kernel_rfl) (hq (.eq (eL Try.prog 111 (.agg ⟨[i64 f,i64 t,i64 0,i64 c]⟩) M) (1,.val (pt b1 0),M2)) (bP (by rw[<-a0,<-a1];kernel_rfl) Nat.one_ne_zero) (hk (lO 2 bV g5 rfl) hn)),X9,a2,rfl⟩
theorem w38_1(f t c:Int){M:aA}(hM:aB M): ∃v M',Ev Try.prog [] 89 [.agg ⟨[i64 f,i64 t,i64 1,i64 c]⟩] M v M'/\Ext M M'/\aB M'/\v=(i64 2):=by
 obtain⟨b1,M2,a0,a1,g5,E6,a2⟩:=bE hM ⟨[i64 f,i64 t,i64 1,i64 c],111,4,0,true⟩
 have X9:=(Ext.refl M).trans E6
 exact⟨i64 2,M2,Ev.told_tmp (tb:=[]) (n:=60) (F:=[bK 1 (pt b1 0) M2,aR 7 (i64 1)]) aG aF Try.func89 Dx (by kernel_rfl) Uh (aI Try.prog) (fun _ _=>rfl) (by kernel_rfl) (hq (.eq (eL Try.prog 111 (.agg ⟨[i64 f,i64 t,i64 1,i64 c]⟩) M) (1,.val (pt b1 0),M2)) (bP (by rw[<-a0,<-a1];kernel_rfl) Nat.one_ne_zero) (hk (lO 2 bV g5 rfl) hn)),X9,a2,rfl⟩
theorem w38_2(f t c:Int){M:aA}(hM:aB M): ∃v M',Ev Try.prog [] 89 [.agg ⟨[i64 f,i64 t,i64 2,i64 c]⟩] M v M'/\Ext M M'/\aB M'/\v=(i64 4):=by
 obtain⟨b1,M2,a0,a1,g5,E6,a2⟩:=bE hM ⟨[i64 f,i64 t,i64 2,i64 c],111,4,0,true⟩
 have X9:=(Ext.refl M).trans E6
 exact⟨i64 4,M2,Ev.told_tmp (tb:=[]) (n:=60) (F:=[bK 1 (pt b1 0) M2,aR 7 (i64 2)]) aG aF Try.func89 Dx (by kernel_rfl) Uh (aI Try.prog) (fun _ _=>rfl) (by kernel_rfl) (hq (.eq (eL Try.prog 111 (.agg ⟨[i64 f,i64 t,i64 2,i64 c]⟩) M) (1,.val (pt b1 0),M2)) (bP (by rw[<-a0,<-a1];kernel_rfl) Nat.one_ne_zero) (hk (lO 2 bV g5 rfl) hn)),X9,a2,rfl⟩
theorem w38_3(f t c:Int){M:aA}(hM:aB M): ∃v M',Ev Try.prog [] 89 [.agg ⟨[i64 f,i64 t,i64 3,i64 c]⟩] M v M'/\Ext M M'/\aB M'/\v=(i64 8):=by
 obtain⟨b1,M2,a0,a1,g5,E6,a2⟩:=bE hM ⟨[i64 f,i64 t,i64 3,i64 c],111,4,0,true⟩
 have X9:=(Ext.refl M).trans E6
 exact⟨i64 8,M2,Ev.told_tmp (tb:=[]) (n:=60) (F:=[bK 1 (pt b1 0) M2,aR 7 (i64 3)]) aG aF Try.func89 Dx (by kernel_rfl) Uh (aI Try.prog) (fun _ _=>rfl) (by kernel_rfl) (hq (.eq (eL Try.prog 111 (.agg ⟨[i64 f,i64 t,i64 3,i64 c]⟩) M) (1,.val (pt b1 0),M2)) (bP (by rw[<-a0,<-a1];kernel_rfl) Nat.one_ne_zero) (hk (lO 2 bV g5 rfl) hn)),X9,a2,rfl⟩
theorem w38_4(f t c:Int){M:aA}(hM:aB M): ∃v M',Ev Try.prog [] 89 [.agg ⟨[i64 f,i64 t,i64 4,i64 c]⟩] M v M'/\Ext M M'/\aB M'/\v=(i64 16):=by
 obtain⟨b1,M2,a0,a1,g5,E6,a2⟩:=bE hM ⟨[i64 f,i64 t,i64 4,i64 c],111,4,0,true⟩
 have X9:=(Ext.refl M).trans E6
 exact⟨i64 16,M2,Ev.told_tmp (tb:=[]) (n:=60) (F:=[bK 1 (pt b1 0) M2,aR 7 (i64 4)]) aG aF Try.func89 Dx (by kernel_rfl) Uh (aI Try.prog) (fun _ _=>rfl) (by kernel_rfl) (hq (.eq (eL Try.prog 111 (.agg ⟨[i64 f,i64 t,i64 4,i64 c]⟩) M) (1,.val (pt b1 0),M2)) (bP (by rw[<-a0,<-a1];kernel_rfl) Nat.one_ne_zero) (hk (lO 2 bV g5 rfl) hn)),X9,a2,rfl⟩
abbrev Q89:=FC (hZ (sU pE) Qt) (plain pI) (fun x=>wF x.m)
theorem con89{e:E4}{lv:List Value}{M:aA}(hM:aB M)(h:(hZ (sU pE) Qt) e lv M): ∃v M',lM Try.prog [] 89 Q89 lv M v M':=by
 refine FC.con h ?_
 obtain⟨h,h0,h5⟩:=h
 obtain⟨g0,rfl,rfl⟩:=h
 obtain⟨f,t,m,c⟩:=e
 simp only at h0 h5
 have hm:m=0\/m=1\/m=2\/m=3\/m=4:=by omega
 rcases hm with rfl|rfl|rfl|rfl|rfl
 ·obtain⟨v,M',h1,h2,_,h4⟩:=w38_0 f t c hM
  exact⟨v,M',h1,h2,h4⟩
 ·obtain⟨v,M',h1,h2,_,h4⟩:=w38_1 f t c hM
  exact⟨v,M',h1,h2,h4⟩
 ·obtain⟨v,M',h1,h2,_,h4⟩:=w38_2 f t c hM
  exact⟨v,M',h1,h2,h4⟩
 ·obtain⟨v,M',h1,h2,_,h4⟩:=w38_3 f t c hM
  exact⟨v,M',h1,h2,h4⟩
 ·obtain⟨v,M',h1,h2,_,h4⟩:=w38_4 f t c hM
  exact⟨v,M',h1,h2,h4⟩
def Vo:uK->Value
 | .to=> .func (.func 86) #[] #[]
 | .fr=> .func (.func 88) #[] #[]
 | .set=> .func (.func 89) #[] #[]
def pFn(k:uK)(v:Value)(_:aA):Prop:=v=Vo k
instance:AP pFn:=⟨fun{x y _ _} h k=>by unfold pFn at h k;rw[h] at k;cases x<;>cases y<;>first|rfl|(simp [Vo] at k),fun _ h=>h⟩
theorem r34to(r bb o m c i:Nat)(e:E4)(cr:List Value){M M0:aA}(hM:aB M)(X0:Ext M0 M)(hr:M0.next<=r)(gr:M.get r=some ⟨cr,3,1,0,true⟩)(a5:(decide ((i:Int)<(m:Int)))=true)(b3:bI Try.prog 37 ⟨bb,o+((i:Int):Int).toNat*4,none⟩ M0=some (.agg ⟨(cC e)⟩))(b4:0+((i:Int):Int).toNat*1+1<=(cr).length): ∃T1 M',Rd Try.prog [] (q85.loopAt 0) Try.f85.ntmps (fr [(1,(.func (.func 86) ⟨[]⟩ ⟨[]⟩)),(5,(aC r 0 m (m+1))),(11,(aC bb o m c)),(12,(i64 (m:Int))),(13,(i64 (i:Int)))]) M .normal T1 M'/\ [1,5,11,12,13].map T1.get= [some (.func (.func 86) ⟨[]⟩ ⟨[]⟩),some (aC r 0 m (m+1)),some (aC bb o m c),some (i64 (m:Int)),some (i64 (IntKind.wrap .i64 ((i:Int)+(1:Int))))]/\Ext M0 M'/\aB M'/\M'.get r=some ⟨splice cr (0+((i:Int):Int).toNat*1) [i64 e.t],3,1,0,true⟩/\ ∀id k,M.get id=some k->id≠r->M'.get id=some k:=by
 obtain⟨b1,M2,a7,c2,g5,E6,c7⟩:=bE hM ⟨[i64 0,i64 0,i64 0,i64 0],37,4,0,true⟩
 have d0:=mG a7 X0
 have a6:=fL gr a7
 have g8:=E6.old gr
 have b7:=X0.trans E6
 obtain⟨a1,q12,c3,a0,b8,a9,d1⟩:=aZ (o:=0) (v:=(.agg ⟨(cC e)⟩)) (new:= (cC e)) b7 d0 c7 oO g5 rfl rfl (Nat.zero_le _) (Nat.le_of_ble_eq_true rfl) rfl
 have c4:=(a0 _ a6).trans g8
 obtain⟨d5,d6,a4,d3,c9,c1,a3,b0,b6⟩:=aM (x:=e) a9 con86 (⟨_,rfl,rfl⟩)
 have c5:=a3.old c4
 have a8:d5=(i64 e.t):=b6
 subst a8
 have b9:=b8.trans a3
 obtain⟨a2,d4,c6,b5,c0,b2,d2⟩:=aZ (o:=0+((i:Int):Int).toNat*1) (v:=(i64 e.t)) (new:=splice cr (0+((i:Int):Int).toNat*1) [i64 e.t]) b9 hr b0 Jc c5 rfl rfl (Nat.zero_le _) b4 rfl
 have c8: ∀id k,M.get id=some k->id≠r->a2.get id=some k:=fun id k g h_r=>by
  have g0:=aA.lt_of_get g
  have g:=E6.old g
  have g:=((fun id h _=>a0 id h) id (by omega) (aA.lt_of_get g)).trans g
  have g:=a3.old g
  have g:=((fun id h _=>b5 id h) id h_r (aA.lt_of_get g)).trans g
  exact g
 obtain⟨T1,h1,h2⟩:=Rd.told (tb:=[]) (n:=60) (F:=[aP 2,aP 6,aR 8 (.agg ⟨(cC e)⟩),bK 10 (pt b1 0) M2,jJ 14 a1,aR 22 (.agg ⟨(cC e)⟩),bK 24 (i64 e.t) a4,aP 26,jJ 28 a2]) aG aF (fun B=>lQ (gP 86 Q86 (gS _))) (fun _ _=>rfl) (by kernel_rfl) (hk (bT a5) (hk (qI (i:Int) m (by omega) (by simp at a5;omega)) (hk (lD (aS X0 b3)) (hq (.eq (cN Try.prog 37 M) (1,.val (pt b1 0),M2)) (bP (by rw[<-a7,<-c2];kernel_rfl) Nat.one_ne_zero) (hq (qS 37 b1 0 (.agg ⟨(cC e)⟩) M2 a1) (dA q12) (hq (qL 37 b1 0 a1 (.agg ⟨(cC e)⟩)) (lA ⟨uL,oO⟩ c3 rfl) (hq (qC 86 [.agg ⟨(cC e)⟩] a1 (i64 e.t) a4) (aJ rfl d3 c9 c1) (hk (qI (i:Int) m (by omega) (by simp at a5;omega)) (hq (qS 3 r (0+((i:Int):Int).toNat*1) (i64 e.t) a4 a2) (dA d4) hn)))))))))
 exact⟨T1,a2,h1,h2,c0,b2,c6,c8⟩
theorem r34x(fv:Value)(r:Nat)(a:Option Addr)(m c i:Nat){M:aA}(a0:(decide ((i:Int)<(m:Int)))=false): ∃T1,Rd Try.prog [] (q85.loopAt 0) Try.f85.ntmps (fr [(1,fv),(5,(aC r 0 m (m+1))),(11,(.slice a m c)),(12,(i64 (m:Int))),(13,(i64 (i:Int)))]) M (.exit 0) T1 M/\ [5].map T1.get= [some (aC r 0 m (m+1))]:=by
 exact Rd.told (tb:=[]) (n:=60) (F:=[aO 2]) aG aF (aI Try.prog) (fun _ _=>rfl) (by kernel_rfl) (hk (bF a0) hn)
theorem r34fr(r bb o m c i:Nat)(e:E4)(cr:List Value){M M0:aA}(hM:aB M)(X0:Ext M0 M)(hr:M0.next<=r)(gr:M.get r=some ⟨cr,3,1,0,true⟩)(a5:(decide ((i:Int)<(m:Int)))=true)(b3:bI Try.prog 37 ⟨bb,o+((i:Int):Int).toNat*4,none⟩ M0=some (.agg ⟨(cC e)⟩))(b4:0+((i:Int):Int).toNat*1+1<=(cr).length): ∃T1 M',Rd Try.prog [] (q85.loopAt 0) Try.f85.ntmps (fr [(1,(.func (.func 88) ⟨[]⟩ ⟨[]⟩)),(5,(aC r 0 m (m+1))),(11,(aC bb o m c)),(12,(i64 (m:Int))),(13,(i64 (i:Int)))]) M .normal T1 M'/\ [1,5,11,12,13].map T1.get= [some (.func (.func 88) ⟨[]⟩ ⟨[]⟩),some (aC r 0 m (m+1)),some (aC bb o m c),some (i64 (m:Int)),some (i64 (IntKind.wrap .i64 ((i:Int)+(1:Int))))]/\Ext M0 M'/\aB M'/\M'.get r=some ⟨splice cr (0+((i:Int):Int).toNat*1) [i64 e.f],3,1,0,true⟩/\ ∀id k,M.get id=some k->id≠r->M'.get id=some k:=by
 obtain⟨b1,M2,a7,c2,g5,E6,c7⟩:=bE hM ⟨[i64 0,i64 0,i64 0,i64 0],37,4,0,true⟩
 have d0:=mG a7 X0
 have a6:=fL gr a7
 have g8:=E6.old gr
 have b7:=X0.trans E6
 obtain⟨a1,q12,c3,a0,b8,a9,d1⟩:=aZ (o:=0) (v:=(.agg ⟨(cC e)⟩)) (new:= (cC e)) b7 d0 c7 oO g5 rfl rfl (Nat.zero_le _) (Nat.le_of_ble_eq_true rfl) rfl
 have c4:=(a0 _ a6).trans g8
 obtain⟨d5,d6,a4,d3,c9,c1,a3,b0,b6⟩:=aM (x:=e) a9 con88 (⟨_,rfl,rfl⟩)
 have c5:=a3.old c4
 have a8:d5=(i64 e.f):=b6
 subst a8
 have b9:=b8.trans a3
 obtain⟨a2,d4,c6,b5,c0,b2,d2⟩:=aZ (o:=0+((i:Int):Int).toNat*1) (v:=(i64 e.f)) (new:=splice cr (0+((i:Int):Int).toNat*1) [i64 e.f]) b9 hr b0 Jc c5 rfl rfl (Nat.zero_le _) b4 rfl
 have c8: ∀id k,M.get id=some k->id≠r->a2.get id=some k:=fun id k g h_r=>by
  have g0:=aA.lt_of_get g
  have g:=E6.old g
  have g:=((fun id h _=>a0 id h) id (by omega) (aA.lt_of_get g)).trans g
  have g:=a3.old g
  have g:=((fun id h _=>b5 id h) id h_r (aA.lt_of_get g)).trans g
  exact g
 obtain⟨T1,h1,h2⟩:=Rd.told (tb:=[]) (n:=60) (F:=[aP 2,aP 6,aR 8 (.agg ⟨(cC e)⟩),bK 10 (pt b1 0) M2,jJ 14 a1,aR 22 (.agg ⟨(cC e)⟩),bK 24 (i64 e.f) a4,aP 26,jJ 28 a2]) aG aF (fun B=>lQ (gP 88 Q88 (gS _))) (fun _ _=>rfl) (by kernel_rfl) (hk (bT a5) (hk (qI (i:Int) m (by omega) (by simp at a5;omega)) (hk (lD (aS X0 b3)) (hq (.eq (cN Try.prog 37 M) (1,.val (pt b1 0),M2)) (bP (by rw[<-a7,<-c2];kernel_rfl) Nat.one_ne_zero) (hq (qS 37 b1 0 (.agg ⟨(cC e)⟩) M2 a1) (dA q12) (hq (qL 37 b1 0 a1 (.agg ⟨(cC e)⟩)) (lA ⟨uL,oO⟩ c3 rfl) (hq (qC 88 [.agg ⟨(cC e)⟩] a1 (i64 e.f) a4) (aJ rfl d3 c9 c1) (hk (qI (i:Int) m (by omega) (by simp at a5;omega)) (hq (qS 3 r (0+((i:Int):Int).toNat*1) (i64 e.f) a4 a2) (dA d4) hn)))))))))
 exact⟨T1,a2,h1,h2,c0,b2,c6,c8⟩
theorem aAT(r bb o m c i:Nat)(e:E4)(cr:List Value){M M0:aA}(hM:aB M)(X0:Ext M0 M)(hr:M0.next<=r)(gr:M.get r=some ⟨cr,3,1,0,true⟩)(c9:Qt e)(a5:(decide ((i:Int)<(m:Int)))=true)(b3:bI Try.prog 37 ⟨bb,o+((i:Int):Int).toNat*4,none⟩ M0=some (.agg ⟨(cC e)⟩))(b4:0+((i:Int):Int).toNat*1+1<=(cr).length): ∃T1 M',Rd Try.prog [] (q85.loopAt 0) Try.f85.ntmps (fr [(1,(.func (.func 89) ⟨[]⟩ ⟨[]⟩)),(5,(aC r 0 m (m+1))),(11,(aC bb o m c)),(12,(i64 (m:Int))),(13,(i64 (i:Int)))]) M .normal T1 M'/\ [1,5,11,12,13].map T1.get= [some (.func (.func 89) ⟨[]⟩ ⟨[]⟩),some (aC r 0 m (m+1)),some (aC bb o m c),some (i64 (m:Int)),some (i64 (IntKind.wrap .i64 ((i:Int)+(1:Int))))]/\Ext M0 M'/\aB M'/\M'.get r=some ⟨splice cr (0+((i:Int):Int).toNat*1) [i64 (wF e.m)],3,1,0,true⟩/\ ∀id k,M.get id=some k->id≠r->M'.get id=some k:=by
 obtain⟨b1,M2,a7,c2,g5,E6,c7⟩:=bE hM ⟨[i64 0,i64 0,i64 0,i64 0],37,4,0,true⟩
 have d1:=mG a7 X0
 have a6:=fL gr a7
 have g8:=E6.old gr
 have b7:=X0.trans E6
 obtain⟨a1,q12,c3,a0,b8,a9,d2⟩:=aZ (o:=0) (v:=(.agg ⟨(cC e)⟩)) (new:= (cC e)) b7 d1 c7 oO g5 rfl rfl (Nat.zero_le _) (Nat.le_of_ble_eq_true rfl) rfl
 have c4:=(a0 _ a6).trans g8
 obtain⟨d6,d7,a4,d4,d0,c1,a3,b0,b6⟩:=aM (x:=e) a9 con89 (⟨⟨_,rfl,rfl⟩,c9⟩)
 have c5:=a3.old c4
 have a8:d6=(i64 (wF e.m)):=b6
 subst a8
 have b9:=b8.trans a3
 obtain⟨a2,d5,c6,b5,c0,b2,d3⟩:=aZ (o:=0+((i:Int):Int).toNat*1) (v:=(i64 (wF e.m))) (new:=splice cr (0+((i:Int):Int).toNat*1) [i64 (wF e.m)]) b9 hr b0 Jc c5 rfl rfl (Nat.zero_le _) b4 rfl
 have c8: ∀id k,M.get id=some k->id≠r->a2.get id=some k:=fun id k g h_r=>by
  have g0:=aA.lt_of_get g
  have g:=E6.old g
  have g:=((fun id h _=>a0 id h) id (by omega) (aA.lt_of_get g)).trans g
  have g:=a3.old g
  have g:=((fun id h _=>b5 id h) id h_r (aA.lt_of_get g)).trans g
  exact g
 obtain⟨T1,h1,h2⟩:=Rd.told (tb:=[]) (n:=60) (F:=[aP 2,aP 6,aR 8 (.agg ⟨(cC e)⟩),bK 10 (pt b1 0) M2,jJ 14 a1,aR 22 (.agg ⟨(cC e)⟩),bK 24 (i64 (wF e.m)) a4,aP 26,jJ 28 a2]) aG aF (fun B=>lQ (gP 89 Q89 (gS _))) (fun _ _=>rfl) (by kernel_rfl) (hk (bT a5) (hk (qI (i:Int) m (by omega) (by simp at a5;omega)) (hk (lD (aS X0 b3)) (hq (.eq (cN Try.prog 37 M) (1,.val (pt b1 0),M2)) (bP (by rw[<-a7,<-c2];kernel_rfl) Nat.one_ne_zero) (hq (qS 37 b1 0 (.agg ⟨(cC e)⟩) M2 a1) (dA q12) (hq (qL 37 b1 0 a1 (.agg ⟨(cC e)⟩)) (lA ⟨uL,oO⟩ c3 rfl) (hq (qC 89 [.agg ⟨(cC e)⟩] a1 (i64 (wF e.m)) a4) (aJ rfl d4 d0 c1) (hk (qI (i:Int) m (by omega) (by simp at a5;omega)) (hq (qS 3 r (0+((i:Int):Int).toNat*1) (i64 (wF e.m)) a4 a2) (dA d5) hn)))))))))
 exact⟨T1,a2,h1,h2,c0,b2,c6,c8⟩
theorem r34(k:uK)(r bb o m c i:Nat)(e:E4)(cr:List Value){M M0:aA}(hM:aB M)(X0:Ext M0 M)(hr:M0.next<=r)(gr:M.get r=some ⟨cr,3,1,0,true⟩)(a1:Qt e)(hi:i<m)(hl:i<cr.length)(a0:bI Try.prog 37 ⟨bb,o+(i:Int).toNat*4,none⟩ M0=some (.agg ⟨cC e⟩)):
  ∃T1 M',Rd Try.prog [] (q85.loopAt 0) Try.f85.ntmps (fr [(1,Vo k),(5,aC r 0 m (m+1)),(11,aC bb o m c),(12,i64 m),(13,i64 i)]) M .normal T1 M'/\ [1,5,11,12,13].map T1.get= [some (Vo k),some (aC r 0 m (m+1)),some (aC bb o m c),some (i64 m),some (i64 (IntKind.wrap .i64 ((i:Int)+1)))]/\Ext M0 M'/\aB M'/\M'.get r=some ⟨splice cr i [i64 (dZ k e)],3,1,0,true⟩:=by
 have e0:0+(i:Int).toNat*1=i:=by simp
 cases k
 ·obtain⟨T1,M',h1,h2,h3,h4,h5,_⟩:=r34to r bb o m c i e cr hM X0 hr gr (decide_eq_true (by omega)) a0 (by rw[e0];omega)
  rw[e0] at h5
  exact⟨T1,M',h1,h2,h3,h4,h5⟩
 ·obtain⟨T1,M',h1,h2,h3,h4,h5,_⟩:=r34fr r bb o m c i e cr hM X0 hr gr (decide_eq_true (by omega)) a0 (by rw[e0];omega)
  rw[e0] at h5
  exact⟨T1,M',h1,h2,h3,h4,h5⟩
 ·obtain⟨T1,M',h1,h2,h3,h4,h5,_⟩:=aAT r bb o m c i e cr hM X0 hr gr a1 (decide_eq_true (by omega)) a0 (by rw[e0];omega)
  rw[e0] at h5
  exact⟨T1,M',h1,h2,h3,h4,h5⟩
theorem Zd(k:uK){a:Option Addr}{c r:Nat}{l:List E4}{M0 M:aA}(hM:aB M)(X:Ext M0 M)(hs:Bf M0 (.slice a l.length c) l)(a3: ∀e∈l,Qt e)(hr:M0.next<=r)(gr:M.get r=some ⟨List.replicate l.length (i64 0),3,1,0,true⟩):
  ∃M',bN Try.prog [] (q85.loopAt 0) Try.f85.ntmps (fr [(1,Vo k),(5,aC r 0 l.length (l.length+1)),(11,.slice a l.length c),(12,i64 l.length),(13,i64 ((0:Nat):Int))]) M (.exit 0) (fr [(5,aC r 0 l.length (l.length+1))]) M'/\Ext M0 M'/\aB M'/\M'.get r=some ⟨(l.map (dZ k)).map i64,3,1,0,true⟩:=by
 have hlen:=hs.len
 have a2:((l.map (dZ k)).map i64).length=l.length:=by simp
 obtain⟨_,M',h1,h2,h3,h4⟩:=bN.for (P:=Try.prog) (GL:= []) (b:=q85.loopAt 0) (nt:=Try.f85.ntmps) (id:=0) (σ:=Unit) (n:=l.length) (Inv:=fun i _ M1=>Ext M0 M1/\aB M1/\M1.get r=some ⟨sI ((l.map (dZ k)).map i64) i (i64 0),3,1,0,true⟩)
  (F:=fun i _=> [(1,Vo k),(5,aC r 0 l.length (l.length+1)),(11,.slice a l.length c),(12,i64 l.length),(13,i64 ((i:Nat):Int))])
  (O:=fun _=> [(5,aC r 0 l.length (l.length+1))])
  (by
   rintro i _ M1 hi ⟨X1,a0,a1⟩
   obtain⟨bb,o,rfl,_⟩:=cF hs (by omega)
   have ht:l[i]?=some l[i]:=List.getElem?_eq_getElem hi
   obtain⟨T1,M2,h1,h2,h3,h4,h5⟩:=r34 k r bb o l.length c i l[i] _ a0 X1 hr a1 (a3 _ (List.getElem_mem hi)) hi (by rw[tX _ _ (by omega)];omega) (mN (P:=Try.prog) (ty:=37) hs ht uL oO)
   rw[aX (by omega)] at h2
   rw[vQ (by simp [ht])] at h5
   exact⟨(),T1,M2,h1,h2,h3,h4,h5⟩)
  (by
   rintro _ M1 ⟨X1,a0,a1⟩
   exact r34x (Vo k) r a l.length c l.length (M:=M1) (decide_eq_false (by omega)))
  l.length 0 (by omega) (s:=()) (M:=M) ⟨X,hM,by rw[vR,a2];exact gr⟩
 refine⟨M',h1,h2,h3,?_⟩
 have:=yV ((l.map (dZ k)).map i64) (i64 0)
 rw[a2] at this
 rw[this] at h4
 exact h4
theorem rK85:Try.f85.results= #[.tmp 4]:=by kernel_rfl
theorem w34(al:Option Addr)(cl:Nat)(l:List E4)(k:uK){M:aA}(hM:aB M)(hl:aU l (.slice al l.length cl) M)(a0:l.length<=400/\ ∀e∈l,Qt e): ∃v M',Ev Try.prog [] 85 [.slice al l.length cl,Vo k] M v M'/\Ext M M'/\aB M'/\iQ aL (l.map (dZ k)) M.next v M':=by
 obtain⟨b1,M2,a5,a6,g5,E6,a8⟩:=sJ (P:=Try.prog) (t:=22) (elem:=3) (z:=(i64 0)) (n:=l.length) hM (by kernel_rfl) (by kernel_rfl) (by have:=a0.1;omega)
 have a3:M.next<=b1:=by rw[<-a5];exact(Ext.refl M).next
 have X8:=(Ext.refl M).trans E6
 obtain⟨M9,a1,a4,a2,a7⟩:=Zd k a8 X8 hl a0.2 a3 g5
 exact⟨aC b1 0 l.length (l.length+1),M9,Ev.told_tmp (tb:=[0]) (n:=60) (F:=[aP 5,bK 7 (aC b1 0 l.length (l.length+1)) M2,aP 13,.blk 16 [1,5,11,12,13] .normal (fr [(5,(aC b1 0 l.length (l.length+1)))]) M9]) aG aF Try.func85 aAM (by kernel_rfl) rK85 (fun B=>zJ (gS B) 0 a1) (fun _ h=>cD h) (by kernel_rfl) (hk (lN hl.ln) (hq (.eq (bU Try.prog 22 (i64 (l.length:Int)) (i64 (l.length:Int)) M) (1,.val (aC b1 0 l.length (l.length+1)),M2)) (bP a6 Nat.one_ne_zero) (hk (lN hl.ln) (hq (.blk 0 (.loop (q85.loopAt 0)) Try.f85.ntmps [1,5,11,12,13] [some (Vo k),some (aC b1 0 l.length (l.length+1)),some (.slice al l.length cl),some (i64 (l.length:Int)),some (i64 0)] M2 .normal (fr [(5,(aC b1 0 l.length (l.length+1)))]) M9) (fP rfl) hn)))),a4,a2,aH.of_blk' (b:=b1) (w:=1) (g:=Nr) (jV a3 a7) (List.length_map _) (by simp [Ac,List.map_map,Function.comp_def]) (fun _ _=>rfl) (by have:=hl.len;simpa using this)⟩
abbrev Q85:=FC (hZ (mU aU pFn) (fun x=>x.1.length<=400/\ ∀e∈x.1,Qt e)) (iQ aL) (fun x=>x.1.map (dZ x.2))
theorem Sj{x:(List E4)×(uK)}{lv:List Value}{M:aA}(hM:aB M)(h:(hZ (mU aU pFn) (fun x=>x.1.length<=400/\ ∀e∈x.1,Qt e)) x lv M): ∃v M',lM Try.prog [] 85 Q85 lv M v M':=by
 refine FC.con h ?_
 obtain⟨h,a0⟩:=h
 obtain⟨l,k⟩:=x
 obtain⟨g0,g1,rfl,k0,k1⟩:=h
 obtain⟨al,cl,rfl⟩:=aH.form k0
 have hl:=k0
 obtain rfl:=k1
 obtain⟨v,M',h1,h2,_,h3⟩:=w34 al cl l k hM hl a0
 exact⟨v,M',h1,h2,h3⟩
end Go.Proofs.Ytdaglldahidmbaa
