/-
  Package hier: each of its laws for every argument; no conditions. The last text states which.
-/
import Derived.Test.YtdaglldahidmbaaGAI1
import Derived.Test.YtdaglldahidmbaaGAmRk
set_option linter.unusedVariables false
set_option linter.unusedSimpArgs false
open Go Go.Am Go.Proofs
namespace Go.Proofs.Ytdaglldahidmbaa
set_option maxRecDepth 100000
theorem rK59:Try.f59.results= #[.tmp 4]:=by kernel_rfl
theorem w59j(e:E4)(n:Int){M:aA}(hM:aB M)(hf:0<=e.f/\e.f<n)(ht:0<=e.t/\e.t<n)(hm:0<=e.m/\e.m<5)(hc:0<=e.c/\e.c<=2147483647): ∃v_ M',Ev Try.prog [] 59 [.agg ⟨(cC e)⟩,i64 n] M v_ M'/\Ext M M'/\aB M'/\v_= .bool true:=by
 obtain⟨b1,M2,a0,a1,g5,E6,a2⟩:=bE hM ⟨(cC e),37,4,0,true⟩
 have X9:=(Ext.refl M).trans E6
 exact⟨.bool (decide (e.c<=(2147483647:Int))),M2,Ev.told_tmp (tb:=[]) (n:=60) (F:=[bK 1 (pt b1 0) M2,aR 7 (i64 e.f),aP 12,aP 14,aR 15 (i64 e.f),aP 16,aP 18,aP 21,aP 24,aP 26,aR 27 (i64 e.t),aP 28,aP 31,aP 34,aP 36,aR 37 (i64 e.t),aP 38,aP 40,aP 43,aP 46,aP 48,aR 49 (i64 e.m),aP 50,aP 53,aP 56,aP 58,aR 59 (i64 e.m),aP 60,aP 63,aP 66,aP 68,aR 69 (i64 e.c),aP 70,aP 73,aP 76,aP 78,aR 79 (i64 e.c),aP 80,aP 83]) aG aF Try.func59 aAC (by kernel_rfl) rK59 (aI Try.prog) (fun _ _=>rfl) (by kernel_rfl) (hq (.eq (eL Try.prog 37 (.agg ⟨(cC e)⟩) M) (1,.val (pt b1 0),M2)) (bP (by rw[<-a0,<-a1];kernel_rfl) Nat.one_ne_zero) (hk (lO 0 bV g5 rfl) (hk (bT (x:=decide (e.f>=(0:Int))) (decide_eq_true (by omega))) (hk (bT (x:=decide (e.f>=(0:Int))) (decide_eq_true (by omega))) (hk (lO 0 bV g5 rfl) (hk (bT (x:=decide (e.f>=(0:Int))) (decide_eq_true (by omega))) (hk (bT (x:=decide (e.f>=(0:Int))) (decide_eq_true (by omega))) (hk (bT (x:=decide (e.f>=(0:Int))) (decide_eq_true (by omega))) (hk (bT (x:=decide (e.f<n)) (decide_eq_true (by omega))) (hk (bT (x:=decide (e.f<n)) (decide_eq_true (by omega))) (hk (lO 1 bV g5 rfl) (hk (bT (x:=decide (e.f<n)) (decide_eq_true (by omega))) (hk (bT (x:=decide (e.f<n)) (decide_eq_true (by omega))) (hk (bT (x:=decide (e.t>=(0:Int))) (decide_eq_true (by omega))) (hk (bT (x:=decide (e.t>=(0:Int))) (decide_eq_true (by omega))) (hk (lO 1 bV g5 rfl) (hk (bT (x:=decide (e.t>=(0:Int))) (decide_eq_true (by omega))) (hk (bT (x:=decide (e.t>=(0:Int))) (decide_eq_true (by omega))) (hk (bT (x:=decide (e.t>=(0:Int))) (decide_eq_true (by omega))) (hk (bT (x:=decide (e.t<n)) (decide_eq_true (by omega))) (hk (bT (x:=decide (e.t<n)) (decide_eq_true (by omega))) (hk (lO 2 bV g5 rfl) (hk (bT (x:=decide (e.t<n)) (decide_eq_true (by omega))) (hk (bT (x:=decide (e.t<n)) (decide_eq_true (by omega))) (hk (bT (x:=decide (e.m>=(0:Int))) (decide_eq_true (by omega))) (hk (bT (x:=decide (e.m>=(0:Int))) (decide_eq_true (by omega))) (hk (lO 2 bV g5 rfl) (hk (bT (x:=decide (e.m>=(0:Int))) (decide_eq_true (by omega))) (hk (bT (x:=decide (e.m>=(0:Int))) (decide_eq_true (by omega))) (hk (bT (x:=decide (e.m<(5:Int))) (decide_eq_true (by omega))) (hk (bT (x:=decide (e.m<(5:Int))) (decide_eq_true (by omega))) (hk (lO 3 bV g5 rfl) (hk (bT (x:=decide (e.m<(5:Int))) (decide_eq_true (by omega))) (hk (bT (x:=decide (e.m<(5:Int))) (decide_eq_true (by omega))) (hk (bT (x:=decide (e.c>=(0:Int))) (decide_eq_true (by omega))) (hk (bT (x:=decide (e.c>=(0:Int))) (decide_eq_true (by omega))) (hk (lO 3 bV g5 rfl) (hk (bT (x:=decide (e.c>=(0:Int))) (decide_eq_true (by omega))) (hk (bT (x:=decide (e.c>=(0:Int))) (decide_eq_true (by omega))) hn))))))))))))))))))))))))))))))))))))))),X9,a2,(by show Value.bool _=Value.bool _;rw[decide_eq_true (by omega)])⟩
abbrev Q59:=FC (hZ (mU pE pI) fun x=>(0<=x.1.f/\x.1.f<x.2)/\(0<=x.1.t/\x.1.t<x.2)/\(0<=x.1.m/\x.1.m<5)/\0<=x.1.c/\x.1.c<=2147483647) (plain pB) (fun _=>true)
theorem con59{x:E4×Int}{lv:List Value}{M:aA}(hM:aB M)(h:(hZ (mU pE pI) fun x:E4×Int=>(0<=x.1.f/\x.1.f<x.2)/\(0<=x.1.t/\x.1.t<x.2)/\(0<=x.1.m/\x.1.m<5)/\0<=x.1.c/\x.1.c<=2147483647) x lv M): ∃v M',lM Try.prog [] 59 Q59 lv M v M':=by
 refine FC.con h ?_
 obtain⟨⟨g0,g1,rfl,k0,k1⟩,h1,h2,h3,h4⟩:=h
 obtain⟨e,n⟩:=x
 obtain rfl:=k0
 obtain rfl:=k1
 obtain⟨v,M',q1,q2,_,q3⟩:=w59j e n hM h1 h2 h3 h4
 exact⟨v,M',q1,q2,q3⟩
theorem rj26(q1 ab ao ac k i n:Nat)(x:E4){M M0:aA}(hM:aB M)(X0:Ext M0 M)(hab:ab<M0.next)(a0:M.get q1=some ⟨[i64 n,aC ab ao k ac],26,2,0,true⟩)(a7:0<=x.f/\x.f<(n:Int))(a8:0<=x.t/\x.t<(n:Int))(a9:0<=x.m/\x.m<5)(b0:0<=x.c/\x.c<=2147483647)(a2:(decide ((i:Int)<(k:Int)))=true)(a1:bI Try.prog 37 ⟨ab,ao+((i:Int):Int).toNat*4,none⟩ M0=some (.agg ⟨(cC x)⟩)): ∃T1 M',Rd Try.prog [] (q26.loopAt 0) Try.f26.ntmps (fr [(1,(pt q1 0)),(3,(i64 (i:Int)))]) M .normal T1 M'/\ [1,3].map T1.get= [some (pt q1 0),some (i64 (IntKind.wrap .i64 ((i:Int)+(1:Int))))]/\Ext M0 M'/\aB M'/\M'.get q1=some ⟨[i64 (n:Int),aC ab ao k ac],26,2,0,true⟩:=by
 obtain⟨w1,N2,M3,p4,l5,e6,E7,a6,F9⟩:=aM (x:=(x,(n:Int))) hM con59 (⟨⟨_,_,rfl,rfl,rfl⟩,a7,a8,a9,b0⟩)
 have a5:=E7.old a0
 have a4:w1=(.bool true):=F9
 subst a4
 have a3:=X0.trans E7
 obtain⟨T1,h1,h2⟩:=Rd.told (tb:=[]) (n:=80) (F:=[aR 5 (aC ab ao k ac),aP 10,aR 14 (aC ab ao k ac),aP 18,aR 20 (.agg ⟨(cC x)⟩),aR 24 (i64 (n:Int)),bK 26 (.bool true) M3]) aG aF (fun B=>lQ (gP 59 Q59 (gS _))) (fun _ _=>rfl) (by kernel_rfl) (hk (lO 1 nN a0 rfl) (hk (bT a2) (hk (lO 1 nN a0 rfl) (hk (qI (i:Int) k (by omega) (by simp at a2;omega)) (hk (lD (aS X0 a1)) (hk (lO 0 bV a0 rfl) (hq (qC 59 [.agg ⟨(cC x)⟩,i64 (n:Int)] M (.bool true) M3) (aJ rfl p4 l5 e6) hn)))))))
 exact⟨T1,M3,h1,h2,a3,a6,a5⟩
theorem rj26x(q1 k ac i n:Nat)(ae:Option Addr){M:aA}(a2:ae.isNone=true->k=0/\ac=0)(a1:M.get q1=some ⟨[i64 n,.slice ae k ac],26,2,0,true⟩)(a0:(decide ((i:Int)<(k:Int)))=false): ∃T1,Rd Try.prog [] (q26.loopAt 0) Try.f26.ntmps (fr [(1,(pt q1 0)),(3,(i64 (i:Int)))]) M (.exit 0) T1 M/\ [].map T1.get= []:=by
 exact Rd.told (tb:=[]) (n:=60) (F:=[aR 5 (.slice ae k ac),aP 7,aO 10]) aG aF (aI Try.prog) (fun _ _=>rfl) (by kernel_rfl) (hk (lO 1 nN a1 rfl) (hk (lN a2) (hk (bF a0) hn)))
theorem Wb{q1 n:Nat}{a1:Option Addr}{c1:Nat}{l:List E4}{M0 M:aA}(hM:aB M)(X0:Ext M0 M)(g1:M.get q1=some ⟨[i64 n,.slice a1 l.length c1],26,2,0,true⟩)(h1:aU l (.slice a1 l.length c1) M0)(a2:jI n l):
  ∃M',bN Try.prog [] (q26.loopAt 0) Try.f26.ntmps (fr [(1,pt q1 0),(3,i64 ((0:Nat):Int))]) M (.exit 0) (fr []) M'/\Ext M0 M'/\aB M':=by
 have hlen:=h1.len
 obtain⟨_,M',k1,k2,k3,_⟩:=bN.for (P:=Try.prog) (GL:= []) (b:=q26.loopAt 0) (nt:=Try.f26.ntmps) (id:=0) (σ:=Unit) (n:=l.length) (Inv:=fun i _ M1=>Ext M0 M1/\aB M1/\M1.get q1=some ⟨[i64 n,.slice a1 l.length c1],26,2,0,true⟩)
  (F:=fun i _=> [(1,pt q1 0),(3,i64 ((i:Nat):Int))]) (O:=fun _=> [])
  (by
   rintro i _ M1 hi ⟨X,a0,g1⟩
   obtain⟨bb,o,rfl,_⟩:=cF h1 (by omega)
   have ht:l[i]?=some l[i]:=List.getElem?_eq_getElem hi
   have l1:=mN (P:=Try.prog) (ty:=37) h1 ht uL oO
   obtain⟨e1,e2,e3,e4⟩:=a2 l[i] (List.getElem_mem hi)
   obtain⟨T1,M2,q1,q2,q3,q4,q5⟩:=rj26 q1 bb o c1 l.length i n l[i] a0 X (Go.Am.mD h1 (by omega)) g1 e1 e2 e3 e4 (decide_eq_true (by omega)) (by rw[Int.toNat_natCast];exact l1)
   rw[aX (by omega)] at q2
   exact⟨(),T1,M2,q1,q2,q3,q4,q5⟩)
  (by
   rintro _ M1 ⟨X,a0,g1⟩
   exact rj26x q1 l.length c1 l.length n a1 (M:=M1) h1.ln g1 (decide_eq_false (by omega)))
  l.length 0 (by omega) (s:=()) (M:=M) ⟨X0,hM,g1⟩
 exact⟨M',k1,k2,k3⟩
theorem rK26:Try.f26.results= #[.tmp 2]:=by kernel_rfl
theorem w26j(n:Nat)(a1:Option Addr)(c1:Nat)(l:List E4){M:aA}(hM:aB M)(h1:aU l (.slice a1 l.length c1) M)(hn1:1<=n/\n<=60)(hl4:l.length<=400)(a8:jI n l): ∃v_ M',Ev Try.prog [] 26 [.agg ⟨[i64 (n:Int),.slice a1 l.length c1]⟩] M v_ M'/\Ext M M'/\aB M'/\v_= .bool true:=by
 obtain⟨b1,M2,a5,a6,g5,E6,a7⟩:=bE hM ⟨[i64 (n:Int),.slice a1 l.length c1],26,2,0,true⟩
 have X9:=(Ext.refl M).trans E6
 obtain⟨a0,a2,a4,a3⟩:=Wb (M0:=M) a7 X9 g5 h1 a8
 exact⟨.bool true,a0,Ev.told_tmp (tb:=[0]) (n:=60) (F:=[bK 1 (pt b1 0) M2,aR 7 (i64 (n:Int)),aO 12,aO 14,aR 15 (i64 (n:Int)),aO 16,aO 19,aO 22,aO 24,aR 25 (.slice a1 l.length c1),aO 26,aP 27,aO 28,aO 31,aO 32,.blk 35 [1,3] .normal (fr []) a0]) aG aF Try.func26 aAn (by kernel_rfl) rK26 (fun B=>zJ (gS B) 0 a2) (fun _ h=>cD h) (by kernel_rfl) (hq (.eq (eL Try.prog 26 (.agg ⟨[i64 (n:Int),.slice a1 l.length c1]⟩) M) (1,.val (pt b1 0),M2)) (bP (by rw[<-a5,<-a6];kernel_rfl) Nat.one_ne_zero) (hk (lO 0 bV g5 rfl) (hk (bF (x:=decide ((n:Int)<(1:Int))) (decide_eq_false (by omega))) (hk (bF (x:=decide ((n:Int)<(1:Int))) (decide_eq_false (by omega))) (hk (lO 0 bV g5 rfl) (hk (bF (x:=decide ((n:Int)<(1:Int))) (decide_eq_false (by omega))) (hk (bF (x:=decide ((n:Int)<(1:Int))) (decide_eq_false (by omega))) (hk (bF (x:=decide ((n:Int)>(60:Int))) (decide_eq_false (by omega))) (hk (bF (x:=decide ((n:Int)>(60:Int))) (decide_eq_false (by omega))) (hk (lO 1 nN g5 rfl) (hk (bF (x:=decide ((n:Int)>(60:Int))) (decide_eq_false (by omega))) (hk (lN h1.ln) (hk (bF (x:=decide ((n:Int)>(60:Int))) (decide_eq_false (by omega))) (hk (bF (x:=decide ((n:Int)>(60:Int))) (decide_eq_false (by omega))) (hk (bF (x:=decide ((l.length:Int)>(400:Int))) (decide_eq_false (by omega))) (hq (.blk 0 (.loop (q26.loopAt 0)) Try.f26.ntmps [1,3] [some (pt b1 0),some (i64 0)] M2 .normal (fr []) a0) (fP rfl) hn)))))))))))))))),a4,a3,rfl⟩
abbrev Q26:=FC (hZ (sU nT) fun x=>eX (x.1:Int) x.2=true) (plain pB) (fun _=>true)
theorem Xe{x:Nat×List E4}{lv:List Value}{M:aA}(hM:aB M)(h:(hZ (sU nT) fun x:Nat×List E4=>eX (x.1:Int) x.2=true) x lv M): ∃v M',lM Try.prog [] 26 Q26 lv M v M':=by
 refine FC.con h ?_
 obtain⟨⟨g0,rfl,k0⟩,a0⟩:=h
 obtain⟨n,l⟩:=x
 obtain⟨_,rfl,k0⟩:=k0
 obtain⟨a1,c1,rfl⟩:=aH.form k0
 obtain⟨s1,s2,s3,_⟩:=fX a0
 simp only at s1 s2 s3
 obtain⟨v,M',h1,h2,_,h3⟩:=w26j n a1 c1 l hM k0 ⟨by omega,by omega⟩ s3 (rT a0)
 exact⟨v,M',h1,h2,h3⟩
theorem rj27a(x sb rb ro rc n k i:Nat)(u0 u1 u2 u3 u4 u5:Value)(cs:List Value)(r:Int){M:aA}{M0:aA}(X0:Ext M0 M)(hrb:rb<M0.next)(gx:M.get x=some ⟨[u0,u1,aC rb ro n rc,u3,u4,u5],31,6,0,true⟩)(nsb:M0.next<=sb)(gs:M.get sb=some ⟨cs,4,1,0,true⟩)(dxsb:x≠sb)(a1:(decide ((i:Int)<(n:Int)))=true)(a2:(r==(-1:Int))=true)(a0:bI Try.prog 3 ⟨rb,ro+((i:Int):Int).toNat*1,none⟩ M0=some (i64 r)): ∃T1,Rd Try.prog [] (q27.loopAt 0) Try.f27.ntmps (fr [(1,(pt x 0)),(3,(i64 (n:Int))),(4,(aC sb 0 n (n+1))),(5,(i64 (k:Int))),(6,(i64 (i:Int)))]) M .normal T1 M/\ [1,3,4,5,6].map T1.get= [some (pt x 0),some (i64 (n:Int)),some (aC sb 0 n (n+1)),some (i64 (k:Int)),some (i64 (IntKind.wrap .i64 ((i:Int)+(1:Int))))]:=by
 exact Rd.told (tb:=[]) (n:=100) (F:=[aP 6,aR 10 (aC rb ro n rc),aP 14,aR 16 (i64 r),aP 19]) aG aF (aI Try.prog) (fun _ _=>rfl) (by kernel_rfl) (hk (bT a1) (hk (lO 2 jU gx rfl) (hk (qI (i:Int) n (by omega) (by simp at a1;omega)) (hk (lD (aS X0 a0)) (hk (bT a2) hn)))))
theorem rj27b(x sb rb ro rc n k i:Nat)(u0 u1 u2 u3 u4 u5:Value)(cs:List Value)(r:Int)(z1:Bool){M M0:aA}(hM:aB M)(X0:Ext M0 M)(hrb:rb<M0.next)(gx:M.get x=some ⟨[u0,u1,aC rb ro n rc,u3,u4,u5],31,6,0,true⟩)(a9:M0.next<=sb)(gs:M.get sb=some ⟨cs,4,1,0,true⟩)(a2:x≠sb)(hr:0<=r/\r<(n:Int))(a1:(decide ((i:Int)<(n:Int)))=true)(a4:(r==(-1:Int))=false)(a5:(z1)=false)(a0:bI Try.prog 3 ⟨rb,ro+((i:Int):Int).toNat*1,none⟩ M0=some (i64 r))(a7:(cs)[0+(r:Int).toNat*1]?=some (.bool z1))(a3:0+(r:Int).toNat*1+1<=(cs).length): ∃T1 M',Rd Try.prog [] (q27.loopAt 0) Try.f27.ntmps (fr [(1,(pt x 0)),(3,(i64 (n:Int))),(4,(aC sb 0 n (n+1))),(5,(i64 (k:Int))),(6,(i64 (i:Int)))]) M .normal T1 M'/\ [1,3,4,5,6].map T1.get= [some (pt x 0),some (i64 (n:Int)),some (aC sb 0 n (n+1)),some (i64 (IntKind.wrap .i64 ((k:Int)+(1:Int)))),some (i64 (IntKind.wrap .i64 ((i:Int)+(1:Int))))]/\Ext M0 M'/\aB M'/\M'.get x=some ⟨[u0,u1,aC rb ro n rc,u3,u4,u5],31,6,0,true⟩/\M'.get sb=some ⟨splice cs (0+(r:Int).toNat*1) [.bool true],4,1,0,true⟩:=by
 obtain⟨M1,q2,g3,a8,X5,a6,b0⟩:=aZ (o:=0+(r:Int).toNat*1) (v:=(.bool true)) (new:=splice cs (0+(r:Int).toNat*1) [.bool true]) X0 a9 hM dS4 gs rfl rfl (Nat.zero_le _) a3 rfl
 have g8:=(a8 _ a2).trans gx
 obtain⟨T1,h1,h2⟩:=Rd.told (tb:=[]) (n:=100) (F:=[aP 6,aR 10 (aC rb ro n rc),aP 14,aR 16 (i64 r),aO 19,aR 23 (aC rb ro n rc),aP 27,aR 29 (i64 r),aO 34,aO 36,aR 37 (aC rb ro n rc),aO 38,aO 40,aP 41,aO 42,aR 43 (i64 r),aO 44,aO 46,aO 49,aO 52,aO 54,aO 56,aR 57 (aC rb ro n rc),aO 58,aO 60,aP 61,aO 62,aR 63 (i64 r),aO 64,aP 65,aO 66,aR 67 (.bool z1),aO 69,aO 70,aR 76 (aC rb ro n rc),aP 80,aR 82 (i64 r),aP 84,jJ 86 M1]) aG aF (aI Try.prog) (fun _ _=>rfl) (by kernel_rfl) (hk (bT a1) (hk (lO 2 jU gx rfl) (hk (qI (i:Int) n (by omega) (by simp at a1;omega)) (hk (lD (aS X0 a0)) (hk (bF a4) (hk (lO 2 jU gx rfl) (hk (qI (i:Int) n (by omega) (by simp at a1;omega)) (hk (lD (aS X0 a0)) (hk (bF (x:=decide (r<(0:Int))) (decide_eq_false (by omega))) (hk (bF (x:=decide (r<(0:Int))) (decide_eq_false (by omega))) (hk (lO 2 jU gx rfl) (hk (bF (x:=decide (r<(0:Int))) (decide_eq_false (by omega))) (hk (bF (x:=decide (r<(0:Int))) (decide_eq_false (by omega))) (hk (qI (i:Int) n (by omega) (by simp at a1;omega)) (hk (bF (x:=decide (r<(0:Int))) (decide_eq_false (by omega))) (hk (lD (aS X0 a0)) (hk (bF (x:=decide (r<(0:Int))) (decide_eq_false (by omega))) (hk (bF (x:=decide (r<(0:Int))) (decide_eq_false (by omega))) (hk (bF (x:=decide (r<(0:Int))) (decide_eq_false (by omega))) (hk (bF (x:=decide (r>=(n:Int))) (decide_eq_false (by omega))) (hk (bF (x:=decide (r>=(n:Int))) (decide_eq_false (by omega))) (hk (bF (x:=decide (r>=(n:Int))) (decide_eq_false (by omega))) (hk (lO 2 jU gx rfl) (hk (bF (x:=decide (r>=(n:Int))) (decide_eq_false (by omega))) (hk (bF (x:=decide (r>=(n:Int))) (decide_eq_false (by omega))) (hk (qI (i:Int) n (by omega) (by simp at a1;omega)) (hk (bF (x:=decide (r>=(n:Int))) (decide_eq_false (by omega))) (hk (lD (aS X0 a0)) (hk (bF (x:=decide (r>=(n:Int))) (decide_eq_false (by omega))) (hk (qI r n (by omega) (by omega)) (hk (bF (x:=decide (r>=(n:Int))) (decide_eq_false (by omega))) (hq (qL 4 sb (0+(r:Int).toNat*1) M (.bool z1)) (fF (bG (a:=⟨sb,0+(r:Int).toNat*1,none⟩) Rh gs a7)) (hk (bF (x:=decide (r>=(n:Int))) (decide_eq_false (by omega))) (hk (bF a5) (hk (lO 2 jU gx rfl) (hk (qI (i:Int) n (by omega) (by simp at a1;omega)) (hk (lD (aS X0 a0)) (hk (qI r n (by omega) (by omega)) (hq (qS 4 sb (0+(r:Int).toNat*1) (.bool true) M M1) (dA q2) hn)))))))))))))))))))))))))))))))))))))))
 exact⟨T1,M1,h1,h2,X5,a6,g8,g3⟩
theorem rj27x(x sb rb ro rc n k i:Nat)(u0 u1 u2 u3 u4 u5:Value)(cs:List Value){M:aA}(gx:M.get x=some ⟨[u0,u1,aC rb ro n rc,u3,u4,u5],31,6,0,true⟩)(gs:M.get sb=some ⟨cs,4,1,0,true⟩)(a0:(decide ((i:Int)<(n:Int)))=false): ∃T1,Rd Try.prog [] (q27.loopAt 0) Try.f27.ntmps (fr [(1,(pt x 0)),(3,(i64 (n:Int))),(4,(aC sb 0 n (n+1))),(5,(i64 (k:Int))),(6,(i64 (i:Int)))]) M (.exit 0) T1 M/\ [4,5].map T1.get= [some (aC sb 0 n (n+1)),some (i64 (k:Int))]:=by
 exact Rd.told (tb:=[]) (n:=60) (F:=[aO 6]) aG aF (aI Try.prog) (fun _ _=>rfl) (by kernel_rfl) (hk (bF a0) hn)
theorem rj27s(sb n k i:Nat)(cs:List Value)(z0:Bool){M:aA}(gs:M.get sb=some ⟨cs,4,1,0,true⟩)(hkn:k<=n)(a0:(decide ((i:Int)<(k:Int)))=true)(a1:(z0)=true)(a2:(cs)[0+((i:Int):Int).toNat*1]?=some (.bool z0)): ∃T1,Rd Try.prog [] (q27.loopAt 2) Try.f27.ntmps (fr [(4,(aC sb 0 n (n+1))),(5,(i64 (k:Int))),(7,(i64 (i:Int)))]) M .normal T1 M/\ [4,5,7].map T1.get= [some (aC sb 0 n (n+1)),some (i64 (k:Int)),some (i64 (IntKind.wrap .i64 ((i:Int)+(1:Int))))]:=by
 exact Rd.told (tb:=[]) (n:=60) (F:=[aP 6,aP 12,aR 14 (.bool z0),aO 17]) aG aF (aI Try.prog) (fun _ _=>rfl) (by kernel_rfl) (hk (bT a0) (hk (qI (i:Int) n (by omega) (by simp at a0;omega)) (hq (qL 4 sb (0+((i:Int):Int).toNat*1) M (.bool z0)) (fF (bG (a:=⟨sb,0+((i:Int):Int).toNat*1,none⟩) Rh gs a2)) (hk (bF (x:=!(z0)) (by rw[a1];rfl)) hn))))
theorem rj27t(sb n k i:Nat)(cs:List Value){M:aA}(gs:M.get sb=some ⟨cs,4,1,0,true⟩)(a0:(decide ((i:Int)<(k:Int)))=false): ∃T1,Rd Try.prog [] (q27.loopAt 2) Try.f27.ntmps (fr [(4,(aC sb 0 n (n+1))),(5,(i64 (k:Int))),(7,(i64 (i:Int)))]) M (.exit 2) T1 M/\ [].map T1.get= []:=by
 exact Rd.told (tb:=[]) (n:=60) (F:=[aO 6]) aG aF (aI Try.prog) (fun _ _=>rfl) (by kernel_rfl) (hk (bF a0) hn)
theorem Wc{x sb rb ro rc n:Nat}{u0 u1 u3 u4 u5:Value}{rank:List Int}{M0 M:aA}(a6:aL rank (aC rb ro n rc) M0)(hG:Ri n rank)(hM:aB M)(X0:Ext M0 M)(gx:M.get x=some ⟨[u0,u1,aC rb ro n rc,u3,u4,u5],31,6,0,true⟩)(a7:M0.next<=sb)(gs:M.get sb=some ⟨(bR n rank (0)).map Value.bool,4,1,0,true⟩)(a0:x≠sb)(hn60:n<=60):
  ∃M',bN Try.prog [] (q27.loopAt 0) Try.f27.ntmps (fr [(1,pt x 0),(3,i64 n),(4,aC sb 0 n (n+1)),(5,i64 ((Az rank (0):Nat):Int)),(6,i64 ((0:Nat):Int))]) M (.exit 0) (fr [(4,aC sb 0 n (n+1)),(5,i64 ((Az rank n:Nat):Int))]) M'/\Ext M0 M'/\aB M'/\M'.get sb=some ⟨(bR n rank (n)).map Value.bool,4,1,0,true⟩:=by
 obtain⟨_,M',k1,k2,k3,_,k4⟩:=bN.for (P:=Try.prog) (GL:= []) (b:=q27.loopAt 0) (nt:=Try.f27.ntmps) (id:=0) (σ:=Unit) (n:=n) (Inv:=fun i _ M1=>Ext M0 M1/\aB M1/\M1.get x=some ⟨[u0,u1,aC rb ro n rc,u3,u4,u5],31,6,0,true⟩/\M1.get sb=some ⟨(bR n rank (i)).map Value.bool,4,1,0,true⟩)
  (F:=fun i _=> [(1,pt x 0),(3,i64 n),(4,aC sb 0 n (n+1)),(5,i64 ((Az rank (i):Nat):Int)),(6,i64 ((i:Nat):Int))]) (O:=fun _=> [(4,aC sb 0 n (n+1)),(5,i64 ((Az rank n:Nat):Int))])
  (by
   rintro i _ M1 hi ⟨X1,a4,a2,a1⟩
   have a9:i<rank.length:=by rw[hG.len];exact hi
   have ht:rank[i]?=some rank[i]:=List.getElem?_eq_getElem a9
   have l1:=kM (P:=Try.prog) (ty:=3) a6 ht rfl bV
   have a5:=Go.Am.mD a6 (by omega)
   have a3:=Sz ht
   have hkl:=Ib rank (i+1)
   by_cases hr:rank[i]= -1
   ·obtain⟨T1,q1,q2⟩:=rj27a x sb rb ro rc n (Az rank i) i u0 u1 eZ u3 u4 u5 ((bR n rank i).map Value.bool) rank[i] (M:=M1) X1 a5 a2 a7 a1 a0 (decide_eq_true (by omega)) (by rw[hr];rfl) (by rw[Int.toNat_natCast];exact l1)
    rw[aX (by omega)] at q2
    rw[if_pos hr] at a3
    refine⟨(),T1,M1,q1,by rw[a3];exact q2,X1,a4,a2,?_⟩
    rw[a1]
    conv=>rhs;unfold bR;rw[ht]
    simp only
    rw[if_pos hr]
   ·obtain⟨hb,hf⟩:=hG.fresh ht hr
    rw[if_neg hr] at a3
    have e0:0+(rank[i]:Int).toNat*1=rank[i].toNat:=by omega
    have a8:rank[i].toNat<((bR n rank i).map Value.bool).length:=by rw[List.length_map,iX];omega
    obtain⟨T1,M2,q1,q2,q3,q4,q5,q6⟩:=rj27b x sb rb ro rc n (Az rank i) i u0 u1 eZ u3 u4 u5 ((bR n rank i).map Value.bool) rank[i] false a4 X1 a5 a2 a7 a1 a0 hb (decide_eq_true (by omega)) (beq_eq_false_iff_ne.2 hr) rfl (by rw[Int.toNat_natCast];exact l1) (by rw[e0,List.getElem?_map,hf];rfl) (by omega)
    rw[aX (by have:=Ib rank i;have:=hG.len;omega),aX (by have:=Ib rank i;have:=hG.len;omega)] at q2
    refine⟨(),T1,M2,q1,by rw[a3];exact q2,q3,q4,q5,?_⟩
    ·rw[q6,e0,fN _ _ _ a8]
     conv=>rhs;unfold bR;rw[ht]
     simp only
     rw[if_neg hr,List.map_set])
  (by
   rintro _ M1 ⟨X1,a4,a2,a1⟩
   exact rj27x x sb rb ro rc n (Az rank n) n u0 u1 eZ u3 u4 u5 _ (M:=M1) a2 a1 (decide_eq_false (by omega)))
  n 0 (by omega) (s:=()) (M:=M) ⟨X0,hM,gx,gs⟩
 exact⟨M',k1,k2,k3,k4⟩
theorem Ti{sb n:Nat}{rank:List Int}{M0 M:aA}(hG:Ri n rank)(hM:aB M)(X0:Ext M0 M)(gs:M.get sb=some ⟨(bR n rank (n)).map Value.bool,4,1,0,true⟩)(hn60:n<=60):
  ∃M',bN Try.prog [] (q27.loopAt 2) Try.f27.ntmps (fr [(4,aC sb 0 n (n+1)),(5,i64 ((Az rank n:Nat):Int)),(7,i64 ((0:Nat):Int))]) M (.exit 2) (fr []) M'/\Ext M0 M'/\aB M':=by
 have a2:Az rank n<=n:=by have:=Ib rank n;rw[hG.len] at this;exact this
 obtain⟨_,M',k1,k2,k3,_⟩:=bN.for (P:=Try.prog) (GL:= []) (b:=q27.loopAt 2) (nt:=Try.f27.ntmps) (id:=2) (σ:=Unit) (n:=Az rank n) (Inv:=fun i _ M1=>Ext M0 M1/\aB M1/\M1.get sb=some ⟨(bR n rank (n)).map Value.bool,4,1,0,true⟩)
  (F:=fun i _=> [(4,aC sb 0 n (n+1)),(5,i64 ((Az rank n:Nat):Int)),(7,i64 ((i:Nat):Int))]) (O:=fun _=> [])
  (by
   rintro i _ M1 hi ⟨X1,a1,a0⟩
   have hf:=hG.seen i hi
   obtain⟨T1,q1,q2⟩:=rj27s sb n (Az rank n) i ((bR n rank n).map Value.bool) true (M:=M1) a0 a2 (decide_eq_true (by omega)) rfl (by rw[List.getElem?_map];simp [hf])
   rw[aX (by omega)] at q2
   exact⟨(),T1,M1,q1,q2,X1,a1,a0⟩)
  (by
   rintro _ M1 ⟨X1,a1,a0⟩
   exact rj27t sb n (Az rank n) (Az rank n) _ (M:=M1) a0 (decide_eq_false (by omega)))
  (Az rank n) 0 (by omega) (s:=()) (M:=M) ⟨X0,hM,gs⟩
 exact⟨M',k1,k2,k3⟩
theorem rP{x:IX}{v:Value}{M:aA}(h:qN x v M)(g:GX x): ∃(ea:Option Addr) (ec rb ro rc:Nat) (aa:Option Addr) (ac ub uc db dc:Nat),v= .agg ⟨[i64 x.n,.slice ea x.es.length ec,aC rb ro x.n rc,.slice aa x.arcs.length ac,aC ub 0 x.n uc,aC db 0 x.n dc]⟩/\aU x.es (.slice ea x.es.length ec) M/\aL x.rank (aC rb ro x.n rc) M/\eN x.arcs (.slice aa x.arcs.length ac) M/\bC x.up (aC ub 0 x.n uc) M/\bC x.down (aC db 0 x.n dc) M:=by
 obtain⟨a,b,c,d,e,rfl,h1,h2,h3,h4,h5⟩:=h
 obtain⟨ea,ec,rfl⟩:=aH.form h1
 obtain⟨ra,rc,rfl⟩:=aH.form h2
 obtain⟨aa,ac,rfl⟩:=aH.form h3
 obtain⟨ub,uc,rfl⟩:=eV h4
 obtain⟨db,dc,rfl⟩:=eV h5
 have hn:=(fX g.ck).1
 obtain⟨rb,ro,rfl,_⟩:=cF h2 (by rw[g.rk.len];omega)
 rw[g.rk.len] at h2
 rw[g.ul] at h4
 rw[g.dl] at h5
 exact⟨ea,ec,rb,ro,rc,aa,ac,ub,uc,db,dc,by rw[g.rk.len,g.ul,g.dl],h1,h2,h3,h4,h5⟩
theorem rK27:Try.f27.results= #[.tmp 2]:=by kernel_rfl
theorem w27j(n:Nat)(ea:Option Addr)(ec rb ro rc:Nat)(aa:Option Addr)(ac ub uc db dc:Nat)(es:List E4)(rank:List Int)(arcs:List A7)(up down:List (List Int)){M:aA}(hM:aB M)(pes:aU es (.slice ea es.length ec) M)(c5:aL rank (aC rb ro n rc) M)(par:eN arcs (.slice aa arcs.length ac) M)(pup:bC up (aC ub 0 n uc) M)(pdn:bC down (aC db 0 n dc) M)(hg:GX ⟨n,es,rank,arcs,up,down⟩)(a3:n<=60): ∃v_ M',Ev Try.prog [] 27 [.agg ⟨[i64 (n:Int),.slice ea es.length ec,aC rb ro n rc,.slice aa arcs.length ac,aC ub 0 n uc,aC db 0 n dc]⟩] M v_ M'/\Ext M M'/\aB M'/\v_= .bool true:=by
 obtain⟨b1,M2,b9,c0,g5,E6,c4⟩:=bE hM ⟨[i64 (n:Int),.slice ea es.length ec,aC rb ro n rc,.slice aa arcs.length ac,aC ub 0 n uc,aC db 0 n dc],31,6,0,true⟩
 have X9:=(Ext.refl M).trans E6
 obtain⟨a1,a4,a2,a7,c1,b5,b0⟩:=sJ (P:=Try.prog) (t:=35) (elem:=4) (z:=(.bool false)) (n:=n) c4 (by kernel_rfl) (by kernel_rfl) (by omega)
 have b4:=mG a2 X9
 have a0:=fL g5 a2
 have c2:=b5.old g5
 have b6:=X9.trans b5
 obtain⟨a5,a8,b7,b2,c3⟩:=Wc c5 hg.rk b0 b6 c2 b4 (by rw[show(bR n rank 0).map Value.bool=List.replicate n (Value.bool false) from by simp [bR]];exact c1) a0 a3
 obtain⟨a6,a9,b8,b3⟩:=Ti hg.rk b2 b7 c3 a3
 exact⟨.bool true,a6,Ev.told_tmp (tb:=[0,2]) (n:=60) (F:=[bK 1 (pt b1 0) M2,aR 7 (aC rb ro n rc),aR 19 (i64 (n:Int)),aO 24,aO 26,aR 27 (aC ub 0 n uc),aO 28,aO 30,aO 32,aO 35,aO 38,aO 40,aR 41 (aC db 0 n dc),aO 42,aO 44,aO 46,aO 49,aO 50,bK 54 (aC a1 0 n (n+1)) a4,.blk 61 [1,3,4,5,6] .normal (fr [(4,(aC a1 0 n (n+1))),(5,(i64 ((Az rank n:Nat):Int)))]) a5,.blk 64 [4,5,7] .normal (fr []) a6]) aG aF Try.func27 aAo (by kernel_rfl) rK27 (fun B=>sb2 (gS B) 0 a8 2 a9) (fun _ h=>yN h) (by kernel_rfl) (hq (.eq (eL Try.prog 31 (.agg ⟨[i64 (n:Int),.slice ea es.length ec,aC rb ro n rc,.slice aa arcs.length ac,aC ub 0 n uc,aC db 0 n dc]⟩) M) (1,.val (pt b1 0),M2)) (bP (by rw[<-b9,<-c0];kernel_rfl) Nat.one_ne_zero) (hk (lO 2 jU g5 rfl) (hk (lO 0 bV g5 rfl) (hk (bF (x:=!((n:Int)==(n:Int))) (dE _)) (hk (bF (x:=!((n:Int)==(n:Int))) (dE _)) (hk (lO 4 yU g5 rfl) (hk (bF (x:=!((n:Int)==(n:Int))) (dE _)) (hk (bF (x:=!((n:Int)==(n:Int))) (dE _)) (hk (bF (x:=!((n:Int)==(n:Int))) (dE _)) (hk (bF (x:=!((n:Int)==(n:Int))) (dE _)) (hk (bF (x:=!((n:Int)==(n:Int))) (dE _)) (hk (bF (x:=!((n:Int)==(n:Int))) (dE _)) (hk (lO 5 yU g5 rfl) (hk (bF (x:=!((n:Int)==(n:Int))) (dE _)) (hk (bF (x:=!((n:Int)==(n:Int))) (dE _)) (hk (bF (x:=!((n:Int)==(n:Int))) (dE _)) (hk (bF (x:=!((n:Int)==(n:Int))) (dE _)) (hk (bF (x:=!((n:Int)==(n:Int))) (dE _)) (hq (.eq (bU Try.prog 35 (i64 (n:Int)) (i64 (n:Int)) M2) (1,.val (aC a1 0 n (n+1)),a4)) (bP a7 Nat.one_ne_zero) (hq (.blk 0 (.loop (q27.loopAt 0)) Try.f27.ntmps [1,3,4,5,6] [some (pt b1 0),some (i64 (n:Int)),some (aC a1 0 n (n+1)),some (i64 0),some (i64 0)] a4 .normal (fr [(4,(aC a1 0 n (n+1))),(5,(i64 ((Az rank n:Nat):Int)))]) a5) (fP rfl) (hq (.blk 2 (.loop (q27.loopAt 2)) Try.f27.ntmps [4,5,7] [some (aC a1 0 n (n+1)),some (i64 ((Az rank n:Nat):Int)),some (i64 0)] a5 .normal (fr []) a6) (fP rfl) hn))))))))))))))))))))),b8,b3,rfl⟩
abbrev Q27:=FC (hZ (sU qN) GX) (plain pB) (fun _=>true)
theorem Xf{x:IX}{lv:List Value}{M:aA}(hM:aB M)(h:(hZ (sU qN) GX) x lv M): ∃v M',lM Try.prog [] 27 Q27 lv M v M':=by
 refine FC.con h ?_
 obtain⟨⟨g0,rfl,k0⟩,hg⟩:=h
 obtain⟨ea,ec,rb,ro,rc,aa,ac,ub,uc,db,dc,rfl,h1,h2,h3,h4,h5⟩:=rP k0 hg
 have a0:=(fX hg.ck).2.1
 obtain⟨n,es,rank,arcs,up,down⟩:=x
 simp only at a0
 obtain⟨v,M',q1,q2,_,q3⟩:=w27j n ea ec rb ro rc aa ac ub uc db dc es rank arcs up down hM h1 h2 h3 h4 h5 hg (by omega)
 exact⟨v,M',q1,q2,q3⟩
theorem rK60:Try.f60.results= #[.tmp 4]:=by kernel_rfl
theorem w60j(n:Nat)(eb eo ec rb ro rc:Nat)(aa:Option Addr)(ac ub uc db dc:Nat)(es:List E4)(rank:List Int)(arcs:List A7)(up down:List (List Int))(e:E4)(j:Int){M:aA}(hM:aB M)(hj:0<=j/\j<(es.length:Int))(b7:bI Try.prog 37 ⟨eb,eo+(j:Int).toNat*4,none⟩ M=some (.agg ⟨(cC e)⟩)): ∃v_ M',Ev Try.prog [] 60 [.agg ⟨[i64 (n:Int),aC eb eo es.length ec,aC rb ro n rc,.slice aa arcs.length ac,aC ub 0 n uc,aC db 0 n dc]⟩,.agg ⟨[i64 e.f,i64 e.t,i64 e.m,i64 e.c,i64 j,i64 0,i64 0]⟩] M v_ M'/\Ext M M'/\aB M'/\v_= .bool true:=by
 obtain⟨b1,M2,c6,c7,g5,E6,d0⟩:=bE hM ⟨[i64 (n:Int),aC eb eo es.length ec,aC rb ro n rc,.slice aa arcs.length ac,aC ub 0 n uc,aC db 0 n dc],31,6,0,true⟩
 have X9:=(Ext.refl M).trans E6
 obtain⟨c2,a5,b0,b2,a2,c0,b4⟩:=bE d0 ⟨[i64 e.f,i64 e.t,i64 e.m,i64 e.c,i64 j,i64 0,i64 0],42,7,0,true⟩
 have c3:=c0.old g5
 have a8:=X9.trans c0
 obtain⟨a9,a6,a1,b3,c8,c1,b5⟩:=bE b4 ⟨[i64 0,i64 0,i64 0,i64 0],37,4,0,true⟩
 have b9:=mG a1 a8
 have a0:=fL a2 a1
 have c9:=c1.old a2
 have c4:=a8.trans c1
 obtain⟨a7,d2,a3,b8,c5,b6,d1⟩:=aZ (o:=0) (v:=(.agg ⟨(cC e)⟩)) (new:= (cC e)) c4 b9 b5 oO c8 rfl rfl (Nat.zero_le _) (Nat.le_of_ble_eq_true rfl) rfl
 have a4:=(b8 _ a0).trans c9
 exact⟨.bool (e.c==e.c),a7,Ev.told_tmp (tb:=[]) (n:=100) (F:=[bK 1 (pt b1 0) M2,bK 3 (pt c2 0) a5,aR 9 (i64 j),aO 14,aO 16,aR 17 (i64 j),aO 18,aO 20,aO 22,aR 23 (aC eb eo es.length ec),aO 24,aO 26,aO 29,aO 32,aO 34,aR 35 (i64 0),aO 36,aO 39,aO 42,aO 44,aR 45 (i64 0),aO 46,aO 49,aO 50,aR 56 (aC eb eo es.length ec),aR 60 (i64 j),aP 62,aR 64 (.agg ⟨(cC e)⟩),bK 66 (pt a9 0) a6,jJ 68 a7,aR 72 (i64 e.f),aR 76 (i64 e.f),aP 81,aP 83,aR 84 (i64 e.t),aP 85,aP 87,aR 88 (i64 e.t),aP 89,aP 92,aP 95,aP 97,aR 98 (i64 e.m),aP 99,aP 101,aR 102 (i64 e.m),aP 103,aP 106,aP 109,aP 111,aR 112 (i64 e.c),aP 113,aP 115,aR 116 (i64 e.c),aP 117,aP 120]) aG aF Try.func60 aAD (by kernel_rfl) rK60 (aI Try.prog) (fun _ _=>rfl) (by kernel_rfl) (hq (.eq (eL Try.prog 31 (.agg ⟨[i64 (n:Int),aC eb eo es.length ec,aC rb ro n rc,.slice aa arcs.length ac,aC ub 0 n uc,aC db 0 n dc]⟩) M) (1,.val (pt b1 0),M2)) (bP (by rw[<-c6,<-c7];kernel_rfl) Nat.one_ne_zero) (hq (.eq (eL Try.prog 42 (.agg ⟨[i64 e.f,i64 e.t,i64 e.m,i64 e.c,i64 j,i64 0,i64 0]⟩) M2) (1,.val (pt c2 0),a5)) (bP (by rw[<-b0,<-b2];kernel_rfl) Nat.one_ne_zero) (hk (lO 4 bV a2 rfl) (hk (bF (x:=decide (j<(0:Int))) (decide_eq_false (by omega))) (hk (bF (x:=decide (j<(0:Int))) (decide_eq_false (by omega))) (hk (lO 4 bV a2 rfl) (hk (bF (x:=decide (j<(0:Int))) (decide_eq_false (by omega))) (hk (bF (x:=decide (j<(0:Int))) (decide_eq_false (by omega))) (hk (bF (x:=decide (j<(0:Int))) (decide_eq_false (by omega))) (hk (lO 1 nN c3 rfl) (hk (bF (x:=decide (j<(0:Int))) (decide_eq_false (by omega))) (hk (bF (x:=decide (j<(0:Int))) (decide_eq_false (by omega))) (hk (bF (x:=decide (j<(0:Int))) (decide_eq_false (by omega))) (hk (bF (x:=decide (j>=(es.length:Int))) (decide_eq_false (by omega))) (hk (bF (x:=decide (j>=(es.length:Int))) (decide_eq_false (by omega))) (hk (lO 5 bV a2 rfl) (hk (bF (x:=decide (j>=(es.length:Int))) (decide_eq_false (by omega))) (hk (bF (x:=decide (j>=(es.length:Int))) (decide_eq_false (by omega))) (hk (bF (x:=!(0==(0:Int))) (dE _)) (hk (bF (x:=!(0==(0:Int))) (dE _)) (hk (lO 6 bV a2 rfl) (hk (bF (x:=!(0==(0:Int))) (dE _)) (hk (bF (x:=!(0==(0:Int))) (dE _)) (hk (bF (x:=!(0==(0:Int))) (dE _)) (hk (lO 1 nN c3 rfl) (hk (lO 4 bV a2 rfl) (hk (qI j es.length (by omega) (by omega)) (hk (lD (aS a8 b7)) (hq (.eq (cN Try.prog 37 a5) (1,.val (pt a9 0),a6)) (bP (by rw[<-a1,<-b3];kernel_rfl) Nat.one_ne_zero) (hq (qS 37 a9 0 (.agg ⟨(cC e)⟩) a6 a7) (dA d2) (hk (lO 0 bV a3 rfl) (hk (lO 0 bV a4 rfl) (hk (bT (x:=e.f==e.f) (beq_self_eq_true _)) (hk (bT (x:=e.f==e.f) (beq_self_eq_true _)) (hk (lO 1 bV a3 rfl) (hk (bT (x:=e.f==e.f) (beq_self_eq_true _)) (hk (bT (x:=e.f==e.f) (beq_self_eq_true _)) (hk (lO 1 bV a4 rfl) (hk (bT (x:=e.f==e.f) (beq_self_eq_true _)) (hk (bT (x:=e.f==e.f) (beq_self_eq_true _)) (hk (bT (x:=e.t==e.t) (beq_self_eq_true _)) (hk (bT (x:=e.t==e.t) (beq_self_eq_true _)) (hk (lO 2 bV a3 rfl) (hk (bT (x:=e.t==e.t) (beq_self_eq_true _)) (hk (bT (x:=e.t==e.t) (beq_self_eq_true _)) (hk (lO 2 bV a4 rfl) (hk (bT (x:=e.t==e.t) (beq_self_eq_true _)) (hk (bT (x:=e.t==e.t) (beq_self_eq_true _)) (hk (bT (x:=e.m==e.m) (beq_self_eq_true _)) (hk (bT (x:=e.m==e.m) (beq_self_eq_true _)) (hk (lO 3 bV a3 rfl) (hk (bT (x:=e.m==e.m) (beq_self_eq_true _)) (hk (bT (x:=e.m==e.m) (beq_self_eq_true _)) (hk (lO 3 bV a4 rfl) (hk (bT (x:=e.m==e.m) (beq_self_eq_true _)) (hk (bT (x:=e.m==e.m) (beq_self_eq_true _)) hn)))))))))))))))))))))))))))))))))))))))))))))))))))))))),c5,b6,(by show Value.bool _=Value.bool _;rw[beq_self_eq_true])⟩
abbrev Q60:=FC (hZ (mU qN Fl) fun x=>GX x.1/\ ∃e,0<=x.2.e/\x.1.es[x.2.e.toNat]?=some e/\x.2=iI x.2.e e) (plain pB) (fun _=>true)
theorem Xm{x:IX×A7}{lv:List Value}{M:aA}(hM:aB M)(h:(hZ (mU qN Fl) fun x:IX×A7=>GX x.1/\ ∃e,0<=x.2.e/\x.1.es[x.2.e.toNat]?=some e/\x.2=iI x.2.e e) x lv M): ∃v M',lM Try.prog [] 60 Q60 lv M v M':=by
 refine FC.con h ?_
 obtain⟨⟨g0,g1,rfl,k0,k1⟩,hg,e,hj,he,hy⟩:=h
 obtain⟨ea,ec,rb,ro,rc,aa,ac,ub,uc,db,dc,rfl,h1,h2,h3,h4,h5⟩:=rP k0 hg
 obtain⟨⟨n,es,rank,arcs,up,down⟩,y⟩:=x
 simp only at hj he hy h1
 have hlt:=(List.getElem?_eq_some_iff.1 he).1
 obtain⟨eb,eo,rfl,_⟩:=cF h1 (by omega)
 have hl:=mN (P:=Try.prog) (ty:=37) h1 he uL oO
 obtain rfl:=k1
 obtain⟨v,M',q1,q2,_,q3⟩:=w60j n eb eo ec rb ro rc aa ac ub uc db dc es rank arcs up down e y.e hM ⟨hj,by omega⟩ hl
 simp only at q1⊢
 rw[hy]
 exact⟨v,M',q1,q2,q3⟩
theorem rK61:Try.f61.results= #[.tmp 6]:=by kernel_rfl
theorem w61j0(n:Nat)(ea:Option Addr)(ec rb ro rc:Nat)(aa:Option Addr)(ac ub uc db dc:Nat)(es:List E4)(rank:List Int)(arcs:List A7)(up down:List (List Int))(u v:Int){M:aA}(hM:aB M)(hrb:rb<M.next)(hu:0<=u/\u<(n:Int))(hv:0<=v/\v<(n:Int))(a0:(decide ((kA rank u)<(0:Int)))=true)(a1:bI Try.prog 3 ⟨rb,ro+(u:Int).toNat*1,none⟩ M=some (i64 (kA rank u))): ∃v_ M',Ev Try.prog [] 61 [.agg ⟨[i64 (n:Int),.slice ea es.length ec,aC rb ro n rc,.slice aa arcs.length ac,aC ub 0 n uc,aC db 0 n dc]⟩,i64 u,i64 v] M v_ M'/\Ext M M'/\aB M'/\v_= .bool true:=by
 obtain⟨b1,M2,a2,a3,g5,E6,a4⟩:=bE hM ⟨[i64 (n:Int),.slice ea es.length ec,aC rb ro n rc,.slice aa arcs.length ac,aC ub 0 n uc,aC db 0 n dc],31,6,0,true⟩
 have X9:=(Ext.refl M).trans E6
 exact⟨.bool true,M2,Ev.told_tmp (tb:=[]) (n:=100) (F:=[bK 1 (pt b1 0) M2,aR 7 (aC rb ro n rc),aP 11,aR 13 (i64 (kA rank u)),aP 18,aP 20,aP 22,aP 24,aP 26,aP 28,aP 30,aP 54,aP 57]) aG aF Try.func61 Uc (by kernel_rfl) rK61 (aI Try.prog) (fun _ _=>rfl) (by kernel_rfl) (hq (.eq (eL Try.prog 31 (.agg ⟨[i64 (n:Int),.slice ea es.length ec,aC rb ro n rc,.slice aa arcs.length ac,aC ub 0 n uc,aC db 0 n dc]⟩) M) (1,.val (pt b1 0),M2)) (bP (by rw[<-a2,<-a3];kernel_rfl) Nat.one_ne_zero) (hk (lO 2 jU g5 rfl) (hk (qI u n (by omega) (by omega)) (hk (lD (aS X9 a1)) (hw (bT a0) (hw (bT a0) (hw (bT a0) (hw (bT a0) (hk (bT a0) hn))))))))),X9,a4,rfl⟩
theorem w61j1(n:Nat)(ea:Option Addr)(ec rb ro rc:Nat)(aa:Option Addr)(ac ub uc db dc:Nat)(es:List E4)(rank:List Int)(arcs:List A7)(up down:List (List Int))(u v:Int){M:aA}(hM:aB M)(hrb:rb<M.next)(hu:0<=u/\u<(n:Int))(hv:0<=v/\v<(n:Int))(hgt:(kA rank v)<(kA rank u))(a1:(decide ((kA rank u)<(0:Int)))=false)(a0:(decide ((kA rank v)>=(0:Int)))=true)(a2:bI Try.prog 3 ⟨rb,ro+(u:Int).toNat*1,none⟩ M=some (i64 (kA rank u)))(a3:bI Try.prog 3 ⟨rb,ro+(v:Int).toNat*1,none⟩ M=some (i64 (kA rank v))): ∃v_ M',Ev Try.prog [] 61 [.agg ⟨[i64 (n:Int),.slice ea es.length ec,aC rb ro n rc,.slice aa arcs.length ac,aC ub 0 n uc,aC db 0 n dc]⟩,i64 u,i64 v] M v_ M'/\Ext M M'/\aB M'/\v_= .bool true:=by
 obtain⟨b1,M2,a4,a5,g5,E6,a6⟩:=bE hM ⟨[i64 (n:Int),.slice ea es.length ec,aC rb ro n rc,.slice aa arcs.length ac,aC ub 0 n uc,aC db 0 n dc],31,6,0,true⟩
 have X9:=(Ext.refl M).trans E6
 exact⟨.bool (decide ((kA rank u)>(kA rank v))),M2,Ev.told_tmp (tb:=[]) (n:=100) (F:=[bK 1 (pt b1 0) M2,aR 7 (aC rb ro n rc),aP 11,aR 13 (i64 (kA rank u)),aO 18,aO 20,aR 21 (aC rb ro n rc),aO 22,aO 24,aP 25,aO 26,aR 27 (i64 (kA rank v)),aO 28,aO 30,aP 32,aP 34,aR 35 (aC rb ro n rc),aP 36,aP 38,aP 39,aP 40,aR 41 (i64 (kA rank u)),aP 42,aP 44,aR 45 (aC rb ro n rc),aP 46,aP 48,aP 49,aP 50,aR 51 (i64 (kA rank v)),aP 52,aO 54,aP 55,aO 57]) aG aF Try.func61 Uc (by kernel_rfl) rK61 (aI Try.prog) (fun _ _=>rfl) (by kernel_rfl) (hq (.eq (eL Try.prog 31 (.agg ⟨[i64 (n:Int),.slice ea es.length ec,aC rb ro n rc,.slice aa arcs.length ac,aC ub 0 n uc,aC db 0 n dc]⟩) M) (1,.val (pt b1 0),M2)) (bP (by rw[<-a4,<-a5];kernel_rfl) Nat.one_ne_zero) (hk (lO 2 jU g5 rfl) (hk (qI u n (by omega) (by omega)) (hk (lD (aS X9 a2)) (hw (bF a1) (hk (lO 2 jU g5 rfl) (hw (bF a1) (hk (qI v n (by omega) (by omega)) (hk (bF a1) (hk (lD (aS X9 a3)) (hw (bF a1) (hw (bT a0) (hk (lO 2 jU g5 rfl) (hw (bT a0) (hk (qI u n (by omega) (by omega)) (hk (bT a0) (hk (lD (aS X9 a2)) (hw (bT a0) (hk (lO 2 jU g5 rfl) (hw (bT a0) (hk (qI v n (by omega) (by omega)) (hk (bT a0) (hk (lD (aS X9 a3)) (hk (bT a0) (hk (bF a1) (hk (bT a0) (hk (bF a1) hn))))))))))))))))))))))))))),X9,a6,(by show Value.bool _=Value.bool _;rw[decide_eq_true (by omega)])⟩
theorem Ic{n rb ro rc:Nat}{rank:List Int}{u:Int}{M:aA}(h:aL rank (aC rb ro n rc) M)(hl:rank.length=n)(hu:0<=u/\u<(n:Int)):bI Try.prog 3 ⟨rb,ro+(u:Int).toNat*1,none⟩ M=some (i64 (kA rank u)):=by
 have ht:rank[u.toNat]?=some rank[u.toNat]:=List.getElem?_eq_getElem (by omega)
 rw[xQ ht]
 exact kM (P:=Try.prog) (ty:=3) h ht rfl bV
abbrev Q61:=FC (hZ (Ve qN pI pI) fun x=>GX x.1/\(0<=x.2.1/\x.2.1<(x.1.n:Int))/\(0<=x.2.2/\x.2.2<(x.1.n:Int))/\Ez x.1.rank x.2.1 x.2.2=true) (plain pB) (fun _=>true)
theorem Xn{x:IX×Int×Int}{lv:List Value}{M:aA}(hM:aB M)(h:(hZ (Ve qN pI pI) fun x:IX×Int×Int=>GX x.1/\(0<=x.2.1/\x.2.1<(x.1.n:Int))/\(0<=x.2.2/\x.2.2<(x.1.n:Int))/\Ez x.1.rank x.2.1 x.2.2=true) x lv M): ∃v M',lM Try.prog [] 61 Q61 lv M v M':=by
 refine FC.con h ?_
 obtain⟨⟨g0,g1,g2,rfl,k0,k1,k2⟩,hg,hu,hv,hb⟩:=h
 obtain⟨ea,ec,rb,ro,rc,aa,ac,ub,uc,db,dc,rfl,h1,h2,h3,h4,h5⟩:=rP k0 hg
 have a0:=hg.rk.len
 obtain⟨⟨n,es,rank,arcs,up,down⟩,u,v⟩:=x
 obtain rfl:=k1
 obtain rfl:=k2
 simp only at hu hv hb h2 a0⊢
 have lu:=Ic h2 a0 hu
 have a2:=Ic h2 a0 hv
 have a1:=Go.Am.mD h2 (by omega)
 unfold Ez at hb
 simp only [Bool.or_eq_true,Bool.and_eq_true,decide_eq_true_eq] at hb
 by_cases h0:kA rank u<0
 ·obtain⟨w,M',q1,q2,_,q3⟩:=w61j0 n ea ec rb ro rc aa ac ub uc db dc es rank arcs up down u v hM a1 hu hv (decide_eq_true h0) lu
  exact⟨w,M',q1,q2,q3⟩
 ·obtain⟨w,M',q1,q2,_,q3⟩:=w61j1 n ea ec rb ro rc aa ac ub uc db dc es rank arcs up down u v hM a1 hu hv (by omega) (decide_eq_false h0) (decide_eq_true (by omega)) lu a2
  exact⟨w,M',q1,q2,q3⟩
theorem rle0(x ab ao L ac i n:Nat)(ev rv uv dv:Value)(es:List E4)(rank:List Int)(arcs:List A7)(up down:List (List Int))(e:E4)(j:Int){M M0:aA}(hM:aB M)(X0:Ext M0 M)(hab:ab<M0.next)(gx:M.get x=some ⟨[i64 (n:Int),ev,rv,aC ab ao L ac,uv,dv],31,6,0,true⟩)(nx_:M0.next<=x)(e6:qN (⟨n,es,rank,arcs,up,down⟩:IX) (.agg ⟨[i64 n,ev,rv,.slice (some ⟨ab,ao,none⟩) L ac,uv,dv]⟩) M0)(hg:GX (⟨n,es,rank,arcs,up,down⟩:IX))(hj:0<=j/\j<(es.length:Int))(he:es[j.toNat]?=some e)(e1:0<=e.f/\e.f<(n:Int))(e2:0<=e.t/\e.t<(n:Int))(e3:0<=e.m/\e.m<5)(e4:0<=e.c/\e.c<=2147483647)(c9:(decide ((i:Int)<(L:Int)))=true)(c1:bI Try.prog 42 ⟨ab,ao+((i:Int):Int).toNat*7,none⟩ M0=some (.agg ⟨[i64 e.f,i64 e.t,i64 e.m,i64 e.c,i64 j,i64 0,i64 0]⟩)): ∃T1 M' a1,Rd Try.prog [] (q28.loopAt 0) Try.f28.ntmps (fr [(1,(pt x 0)),(3,eZ),(4,(i64 (i:Int)))]) M .normal T1 M'/\ [1,3,4].map T1.get= [some (pt x 0),some (aC a1 0 1 1),some (i64 (IntKind.wrap .i64 ((i:Int)+(1:Int))))]/\Ext M0 M'/\aB M'/\M'.get x=some ⟨[i64 (n:Int),ev,rv,aC ab ao L ac,uv,dv],31,6,0,true⟩/\M0.next<=a1/\M'.get a1=some ⟨[i64 1],3,1,0,true⟩/\x≠a1:=by
 obtain⟨b1,M2,b2,d6,g5,E6,e5⟩:=bE hM ⟨[i64 0,i64 0,i64 0,i64 0,i64 0,i64 0,i64 0],42,7,0,true⟩
 have e8:=mG b2 X0
 have b0:=fL gx b2
 have g8:=E6.old gx
 have d2:=X0.trans E6
 obtain⟨a3,q12,a0,c2,c7,b7,e9⟩:=aZ (o:=0) (v:=(.agg ⟨[i64 e.f,i64 e.t,i64 e.m,i64 e.c,i64 j,i64 0,i64 0]⟩)) (new:= [i64 e.f,i64 e.t,i64 e.m,i64 e.c,i64 j,i64 0,i64 0]) d2 e8 e5 lP g5 rfl rfl (Nat.zero_le _) (Nat.le_of_ble_eq_true rfl) rfl
 have a5:=(c2 _ b0).trans g8
 obtain⟨f1,f2,a6,f0,e7,d5,c4,b8,d1⟩:=aM (x:=((⟨n,es,rank,arcs,up,down⟩:IX),iI j e)) b7 Xm (⟨⟨_,_,rfl,AP.Ext (R:=qN) e6 c7,rfl⟩,hg,e,hj.1,he,rfl⟩)
 have d7:=c4.old a5
 have b6:f1=(.bool true):=d1
 subst b6
 have d3:=c7.trans c4
 obtain⟨a9,a7,b3,b4,d8,c5,b9⟩:=bE b8 ⟨[i64 1],3,1,0,true⟩
 have d0:=c5.old d7
 have c8:=d3.trans c5
 obtain⟨a1,a8,a2,b5,d9,c6,c0⟩:=bE b9 ⟨[i64 1],3,1,0,true⟩
 have c3:=mG a2 c8
 have a4:=fL d0 a2
 have e0:=c6.old d0
 have d4:=c8.trans c6
 obtain⟨T1,h1,h2⟩:=Rd.told (tb:=[]) (n:=200) (F:=[aR 5 (aC ab ao L ac),aP 10,aR 14 (aC ab ao L ac),aP 18,aR 20 (.agg ⟨[i64 e.f,i64 e.t,i64 e.m,i64 e.c,i64 j,i64 0,i64 0]⟩),bK 22 (pt b1 0) M2,jJ 24 a3,aR 28 (i64 e.f),aO 33,aO 35,aR 36 (i64 e.f),aO 37,aO 39,aO 41,aR 42 (i64 (n:Int)),aO 43,aO 46,aO 49,aO 51,aR 52 (i64 e.t),aO 53,aO 56,aO 59,aO 61,aR 62 (i64 e.t),aO 63,aO 65,aO 67,aR 68 (i64 (n:Int)),aO 69,aO 72,aO 75,aO 77,aR 78 (i64 e.m),aO 79,aO 82,aO 85,aO 87,aR 88 (i64 e.m),aO 89,aO 92,aO 95,aO 97,aR 98 (i64 e.c),aO 99,aO 102,aO 105,aO 107,aR 108 (i64 e.c),aO 109,aO 112,aO 113,aR 119 (i64 j),aO 122,aR 124 (.agg ⟨[i64 (n:Int),ev,rv,aC ab ao L ac,uv,dv]⟩),aR 126 (.agg ⟨[i64 e.f,i64 e.t,i64 e.m,i64 e.c,i64 j,i64 0,i64 0]⟩),bK 128 (.bool true) a6,bK 142 (aC a9 0 1 2) a7,.at 144 (1,.val (aC a1 0 1 1),a8)]) aG aF (fun B=>lQ (gP 60 Q60 (gS _))) (fun _ _=>rfl) (by kernel_rfl) (hk (lO 3 kK gx rfl) (hk (bT c9) (hk (lO 3 kK gx rfl) (hk (qI (i:Int) L (by omega) (by simp at c9;omega)) (hk (lD (aS X0 c1)) (hq (.eq (cN Try.prog 42 M) (1,.val (pt b1 0),M2)) (bP (by rw[<-b2,<-d6];kernel_rfl) Nat.one_ne_zero) (hq (qS 42 b1 0 (.agg ⟨[i64 e.f,i64 e.t,i64 e.m,i64 e.c,i64 j,i64 0,i64 0]⟩) M2 a3) (dA q12) (hk (lO 0 bV a0 rfl) (hk (bF (x:=decide (e.f<(0:Int))) (decide_eq_false (by omega))) (hk (bF (x:=decide (e.f<(0:Int))) (decide_eq_false (by omega))) (hk (lO 0 bV a0 rfl) (hk (bF (x:=decide (e.f<(0:Int))) (decide_eq_false (by omega))) (hk (bF (x:=decide (e.f<(0:Int))) (decide_eq_false (by omega))) (hk (bF (x:=decide (e.f<(0:Int))) (decide_eq_false (by omega))) (hk (lO 0 bV a5 rfl) (hk (bF (x:=decide (e.f<(0:Int))) (decide_eq_false (by omega))) (hk (bF (x:=decide (e.f<(0:Int))) (decide_eq_false (by omega))) (hk (bF (x:=decide (e.f>=(n:Int))) (decide_eq_false (by omega))) (hk (bF (x:=decide (e.f>=(n:Int))) (decide_eq_false (by omega))) (hk (lO 1 bV a0 rfl) (hk (bF (x:=decide (e.f>=(n:Int))) (decide_eq_false (by omega))) (hk (bF (x:=decide (e.f>=(n:Int))) (decide_eq_false (by omega))) (hk (bF (x:=decide (e.t<(0:Int))) (decide_eq_false (by omega))) (hk (bF (x:=decide (e.t<(0:Int))) (decide_eq_false (by omega))) (hk (lO 1 bV a0 rfl) (hk (bF (x:=decide (e.t<(0:Int))) (decide_eq_false (by omega))) (hk (bF (x:=decide (e.t<(0:Int))) (decide_eq_false (by omega))) (hk (bF (x:=decide (e.t<(0:Int))) (decide_eq_false (by omega))) (hk (lO 0 bV a5 rfl) (hk (bF (x:=decide (e.t<(0:Int))) (decide_eq_false (by omega))) (hk (bF (x:=decide (e.t<(0:Int))) (decide_eq_false (by omega))) (hk (bF (x:=decide (e.t>=(n:Int))) (decide_eq_false (by omega))) (hk (bF (x:=decide (e.t>=(n:Int))) (decide_eq_false (by omega))) (hk (lO 2 bV a0 rfl) (hk (bF (x:=decide (e.t>=(n:Int))) (decide_eq_false (by omega))) (hk (bF (x:=decide (e.t>=(n:Int))) (decide_eq_false (by omega))) (hk (bF (x:=decide (e.m<(0:Int))) (decide_eq_false (by omega))) (hk (bF (x:=decide (e.m<(0:Int))) (decide_eq_false (by omega))) (hk (lO 2 bV a0 rfl) (hk (bF (x:=decide (e.m<(0:Int))) (decide_eq_false (by omega))) (hk (bF (x:=decide (e.m<(0:Int))) (decide_eq_false (by omega))) (hk (bF (x:=decide (e.m>=(5:Int))) (decide_eq_false (by omega))) (hk (bF (x:=decide (e.m>=(5:Int))) (decide_eq_false (by omega))) (hk (lO 3 bV a0 rfl) (hk (bF (x:=decide (e.m>=(5:Int))) (decide_eq_false (by omega))) (hk (bF (x:=decide (e.m>=(5:Int))) (decide_eq_false (by omega))) (hk (bF (x:=decide (e.c<(0:Int))) (decide_eq_false (by omega))) (hk (bF (x:=decide (e.c<(0:Int))) (decide_eq_false (by omega))) (hk (lO 3 bV a0 rfl) (hk (bF (x:=decide (e.c<(0:Int))) (decide_eq_false (by omega))) (hk (bF (x:=decide (e.c<(0:Int))) (decide_eq_false (by omega))) (hk (bF (x:=decide (e.c>(4398046511104:Int))) (decide_eq_false (by omega))) (hk (lO 4 bV a0 rfl) (hk (bF (x:=j==(-1:Int)) (beq_eq_false_iff_ne.2 (by omega))) (hq (qL 31 x 0 a3 (.agg ⟨[i64 (n:Int),ev,rv,aC ab ao L ac,uv,dv]⟩)) (lA ⟨yT,uN⟩ a5 rfl) (hq (qL 42 b1 0 a3 (.agg ⟨[i64 e.f,i64 e.t,i64 e.m,i64 e.c,i64 j,i64 0,i64 0]⟩)) (lA ⟨uM,lP⟩ a0 rfl) (hq (qC 60 [.agg ⟨[i64 (n:Int),ev,rv,aC ab ao L ac,uv,dv]⟩,.agg ⟨[i64 e.f,i64 e.t,i64 e.m,i64 e.c,i64 j,i64 0,i64 0]⟩] a3 (.bool true) a6) (aJ rfl f0 e7 d5) (hq (.eq (bH Try.prog 22 1 [(0,(i64 1))] a6) (1,.val (aC a9 0 1 2),a7)) (bP (by rw[<-b3,<-b4];kernel_rfl) Nat.one_ne_zero) (hq (.q (.append [22,22] eZ (aC a9 0 1 2) a7) (1,.val (aC a1 0 1 1),a8)) (kS (by rw[<-a2,<-b5];exact append_nil (w:=1) (by kernel_rfl) (by kernel_rfl) (y:=8) (by kernel_rfl) (by decide) (by decide) d8 rfl rfl rfl) Nat.one_ne_zero) hn)))))))))))))))))))))))))))))))))))))))))))))))))))))))))))
 exact⟨T1,a8,a1,h1,h2,d4,c0,e0,c3,d9,a4⟩
theorem rle1(x ab ao L ac i n:Nat)(ev rv uv dv:Value)(es:List E4)(rank:List Int)(arcs:List A7)(up down:List (List Int))(wb:Nat)(cs:List Value)(e:E4)(j:Int){M M0:aA}(hM:aB M)(X0:Ext M0 M)(hab:ab<M0.next)(gx:M.get x=some ⟨[i64 (n:Int),ev,rv,aC ab ao L ac,uv,dv],31,6,0,true⟩)(nx_:M0.next<=x)(gw:M.get wb=some ⟨cs,3,1,0,true⟩)(f6:M0.next<=wb)(b7:x≠wb)(f2:qN (⟨n,es,rank,arcs,up,down⟩:IX) (.agg ⟨[i64 n,ev,rv,.slice (some ⟨ab,ao,none⟩) L ac,uv,dv]⟩) M0)(hg:GX (⟨n,es,rank,arcs,up,down⟩:IX))(hj:0<=j/\j<(es.length:Int))(he:es[j.toNat]?=some e)(e1:0<=e.f/\e.f<(n:Int))(e2:0<=e.t/\e.t<(n:Int))(e3:0<=e.m/\e.m<5)(e4:0<=e.c/\e.c<=2147483647)(d2:(decide ((i:Int)<(L:Int)))=true)(c7:bI Try.prog 42 ⟨ab,ao+((i:Int):Int).toNat*7,none⟩ M0=some (.agg ⟨[i64 e.f,i64 e.t,i64 e.m,i64 e.c,i64 j,i64 0,i64 0]⟩))(d3:i<1073741824/\(cs).length=i*1): ∃T1 M' a1,Rd Try.prog [] (q28.loopAt 0) Try.f28.ntmps (fr [(1,(pt x 0)),(3,(aC wb 0 i i)),(4,(i64 (i:Int)))]) M .normal T1 M'/\ [1,3,4].map T1.get= [some (pt x 0),some (aC a1 0 (i+1) (i+1)),some (i64 (IntKind.wrap .i64 ((i:Int)+(1:Int))))]/\Ext M0 M'/\aB M'/\M'.get x=some ⟨[i64 (n:Int),ev,rv,aC ab ao L ac,uv,dv],31,6,0,true⟩/\M0.next<=a1/\M'.get a1=some ⟨cs++ [i64 1],3,1,0,true⟩/\x≠a1:=by
 obtain⟨b1,M2,a7,d9,g5,E6,f1⟩:=bE hM ⟨[i64 0,i64 0,i64 0,i64 0,i64 0,i64 0,i64 0],42,7,0,true⟩
 have f5:=mG a7 X0
 have b6:=fL gx a7
 have a4:=fL gw a7
 have g8:=E6.old gx
 have g9:=E6.old gw
 have d5:=X0.trans E6
 obtain⟨a3,q13,a0,a6,d0,c3,f7⟩:=aZ (o:=0) (v:=(.agg ⟨[i64 e.f,i64 e.t,i64 e.m,i64 e.c,i64 j,i64 0,i64 0]⟩)) (new:= [i64 e.f,i64 e.t,i64 e.m,i64 e.c,i64 j,i64 0,i64 0]) d5 f5 f1 lP g5 rfl rfl (Nat.zero_le _) (Nat.le_of_ble_eq_true rfl) rfl
 have a8:=(a6 _ b6).trans g8
 have e0:=(a6 _ a4).trans g9
 obtain⟨w21,f9,b2,f8,f4,d8,a9,c4,d4⟩:=aM (x:=((⟨n,es,rank,arcs,up,down⟩:IX),iI j e)) c3 Xm (⟨⟨_,_,rfl,AP.Ext (R:=qN) f2 d0,rfl⟩,hg,e,hj.1,he,rfl⟩)
 have e5:=a9.old a8
 have e6:=a9.old e0
 have c1:w21=(.bool true):=d4
 subst c1
 have d6:=d0.trans a9
 obtain⟨b5,b3,b8,b9,e7,b0,c5⟩:=bE c4 ⟨[i64 1],3,1,0,true⟩
 have c2:=b0.old e5
 have e8:=b0.old e6
 have d1:=d6.trans b0
 obtain⟨a1,b4,a2,c0,e9,d7,c6,c8⟩:=vU d1 f6 c5 ⟨cs++ [i64 1],3,1,0,true⟩
 have c9:=mG a2 d1
 have a5:=fL c2 a2
 have f0:=(c8 _ b7 (aA.lt_of_get c2)).trans c2
 obtain⟨T1,h1,h2⟩:=Rd.told (tb:=[]) (n:=200) (F:=[aR 5 (aC ab ao L ac),aP 10,aR 14 (aC ab ao L ac),aP 18,aR 20 (.agg ⟨[i64 e.f,i64 e.t,i64 e.m,i64 e.c,i64 j,i64 0,i64 0]⟩),bK 22 (pt b1 0) M2,jJ 24 a3,aR 28 (i64 e.f),aO 33,aO 35,aR 36 (i64 e.f),aO 37,aO 39,aO 41,aR 42 (i64 (n:Int)),aO 43,aO 46,aO 49,aO 51,aR 52 (i64 e.t),aO 53,aO 56,aO 59,aO 61,aR 62 (i64 e.t),aO 63,aO 65,aO 67,aR 68 (i64 (n:Int)),aO 69,aO 72,aO 75,aO 77,aR 78 (i64 e.m),aO 79,aO 82,aO 85,aO 87,aR 88 (i64 e.m),aO 89,aO 92,aO 95,aO 97,aR 98 (i64 e.c),aO 99,aO 102,aO 105,aO 107,aR 108 (i64 e.c),aO 109,aO 112,aO 113,aR 119 (i64 j),aO 122,aR 124 (.agg ⟨[i64 (n:Int),ev,rv,aC ab ao L ac,uv,dv]⟩),aR 126 (.agg ⟨[i64 e.f,i64 e.t,i64 e.m,i64 e.c,i64 j,i64 0,i64 0]⟩),bK 128 (.bool true) b2,bK 142 (aC b5 0 1 2) b3,.at 144 (2,.val (aC a1 0 (i+1) (i+1)),b4)]) aG aF (fun B=>lQ (gP 60 Q60 (gS _))) (fun _ _=>rfl) (by kernel_rfl) (hk (lO 3 kK gx rfl) (hk (bT d2) (hk (lO 3 kK gx rfl) (hk (qI (i:Int) L (by omega) (by simp at d2;omega)) (hk (lD (aS X0 c7)) (hq (.eq (cN Try.prog 42 M) (1,.val (pt b1 0),M2)) (bP (by rw[<-a7,<-d9];kernel_rfl) Nat.one_ne_zero) (hq (qS 42 b1 0 (.agg ⟨[i64 e.f,i64 e.t,i64 e.m,i64 e.c,i64 j,i64 0,i64 0]⟩) M2 a3) (dA q13) (hk (lO 0 bV a0 rfl) (hk (bF (x:=decide (e.f<(0:Int))) (decide_eq_false (by omega))) (hk (bF (x:=decide (e.f<(0:Int))) (decide_eq_false (by omega))) (hk (lO 0 bV a0 rfl) (hk (bF (x:=decide (e.f<(0:Int))) (decide_eq_false (by omega))) (hk (bF (x:=decide (e.f<(0:Int))) (decide_eq_false (by omega))) (hk (bF (x:=decide (e.f<(0:Int))) (decide_eq_false (by omega))) (hk (lO 0 bV a8 rfl) (hk (bF (x:=decide (e.f<(0:Int))) (decide_eq_false (by omega))) (hk (bF (x:=decide (e.f<(0:Int))) (decide_eq_false (by omega))) (hk (bF (x:=decide (e.f>=(n:Int))) (decide_eq_false (by omega))) (hk (bF (x:=decide (e.f>=(n:Int))) (decide_eq_false (by omega))) (hk (lO 1 bV a0 rfl) (hk (bF (x:=decide (e.f>=(n:Int))) (decide_eq_false (by omega))) (hk (bF (x:=decide (e.f>=(n:Int))) (decide_eq_false (by omega))) (hk (bF (x:=decide (e.t<(0:Int))) (decide_eq_false (by omega))) (hk (bF (x:=decide (e.t<(0:Int))) (decide_eq_false (by omega))) (hk (lO 1 bV a0 rfl) (hk (bF (x:=decide (e.t<(0:Int))) (decide_eq_false (by omega))) (hk (bF (x:=decide (e.t<(0:Int))) (decide_eq_false (by omega))) (hk (bF (x:=decide (e.t<(0:Int))) (decide_eq_false (by omega))) (hk (lO 0 bV a8 rfl) (hk (bF (x:=decide (e.t<(0:Int))) (decide_eq_false (by omega))) (hk (bF (x:=decide (e.t<(0:Int))) (decide_eq_false (by omega))) (hk (bF (x:=decide (e.t>=(n:Int))) (decide_eq_false (by omega))) (hk (bF (x:=decide (e.t>=(n:Int))) (decide_eq_false (by omega))) (hk (lO 2 bV a0 rfl) (hk (bF (x:=decide (e.t>=(n:Int))) (decide_eq_false (by omega))) (hk (bF (x:=decide (e.t>=(n:Int))) (decide_eq_false (by omega))) (hk (bF (x:=decide (e.m<(0:Int))) (decide_eq_false (by omega))) (hk (bF (x:=decide (e.m<(0:Int))) (decide_eq_false (by omega))) (hk (lO 2 bV a0 rfl) (hk (bF (x:=decide (e.m<(0:Int))) (decide_eq_false (by omega))) (hk (bF (x:=decide (e.m<(0:Int))) (decide_eq_false (by omega))) (hk (bF (x:=decide (e.m>=(5:Int))) (decide_eq_false (by omega))) (hk (bF (x:=decide (e.m>=(5:Int))) (decide_eq_false (by omega))) (hk (lO 3 bV a0 rfl) (hk (bF (x:=decide (e.m>=(5:Int))) (decide_eq_false (by omega))) (hk (bF (x:=decide (e.m>=(5:Int))) (decide_eq_false (by omega))) (hk (bF (x:=decide (e.c<(0:Int))) (decide_eq_false (by omega))) (hk (bF (x:=decide (e.c<(0:Int))) (decide_eq_false (by omega))) (hk (lO 3 bV a0 rfl) (hk (bF (x:=decide (e.c<(0:Int))) (decide_eq_false (by omega))) (hk (bF (x:=decide (e.c<(0:Int))) (decide_eq_false (by omega))) (hk (bF (x:=decide (e.c>(4398046511104:Int))) (decide_eq_false (by omega))) (hk (lO 4 bV a0 rfl) (hk (bF (x:=j==(-1:Int)) (beq_eq_false_iff_ne.2 (by omega))) (hq (qL 31 x 0 a3 (.agg ⟨[i64 (n:Int),ev,rv,aC ab ao L ac,uv,dv]⟩)) (lA ⟨yT,uN⟩ a8 rfl) (hq (qL 42 b1 0 a3 (.agg ⟨[i64 e.f,i64 e.t,i64 e.m,i64 e.c,i64 j,i64 0,i64 0]⟩)) (lA ⟨uM,lP⟩ a0 rfl) (hq (qC 60 [.agg ⟨[i64 (n:Int),ev,rv,aC ab ao L ac,uv,dv]⟩,.agg ⟨[i64 e.f,i64 e.t,i64 e.m,i64 e.c,i64 j,i64 0,i64 0]⟩] a3 (.bool true) b2) (aJ rfl f8 f4 d8) (hq (.eq (bH Try.prog 22 1 [(0,(i64 1))] b2) (1,.val (aC b5 0 1 2),b3)) (bP (by rw[<-b8,<-b9];kernel_rfl) Nat.one_ne_zero) (hq (.q (.append [22,22] (aC wb 0 i i) (aC b5 0 1 2) b3) (2,.val (aC a1 0 (i+1) (i+1)),b4)) (kS (by rw[<-a2,<-c0];exact nB (w:=1) (by kernel_rfl) (by kernel_rfl) (by kernel_rfl) (y:=8) (by kernel_rfl) (by decide) (by decide) d3.1 e7 rfl rfl rfl e8 d3.2 rfl rfl rfl rfl) (Nat.succ_ne_zero _)) hn)))))))))))))))))))))))))))))))))))))))))))))))))))))))))))
 exact⟨T1,b4,a1,h1,h2,d7,c6,f0,c9,e9,a5⟩
theorem rls(x ab ao L ac i n:Nat)(ev rv uv dv:Value)(es:List E4)(rank:List Int)(arcs:List A7)(up down:List (List Int))(wb:Nat)(cs:List Value)(j k:Nat)(p q:A7)(z3:Int)(z4:Int){M M0:aA}(hM:aB M)(X0:Ext M0 M)(n4:ab<M0.next)(gx:M.get x=some ⟨[i64 (n:Int),ev,rv,aC ab ao L ac,uv,dv],31,6,0,true⟩)(nx_:M0.next<=x)(gw:M.get wb=some ⟨cs,3,1,0,true⟩)(o0:M0.next<=wb)(h0:x≠wb)(hjk:j<i/\k<i)(d2:q.m=p.m)(d1:p.t=q.f)(n7:IntKind.wrap .i64 (p.c+q.c)=p.c+q.c)(e1:0<=p.f/\p.f<(n:Int))(e2:0<=q.t/\q.t<(n:Int))(e3:0<=p.m/\p.m<5)(e4:0<=p.c+q.c/\p.c+q.c<=4398046511104)(n8:IntKind.wrap .i64 (z3+z4)=z3+z4)(hz:0<=z3+z4/\z3+z4<=1000)(f1:(decide ((i:Int)<(L:Int)))=true)(i7:bI Try.prog 42 ⟨ab,ao+((i:Int):Int).toNat*7,none⟩ M0=some (.agg ⟨[i64 p.f,i64 q.t,i64 p.m,i64 (p.c+q.c),i64 (-1:Int),i64 (j:Int),i64 (k:Int)]⟩))(i8:bI Try.prog 42 ⟨ab,ao+((j:Int):Int).toNat*7,none⟩ M0=some (.agg ⟨(bL p)⟩))(i9:bI Try.prog 42 ⟨ab,ao+((k:Int):Int).toNat*7,none⟩ M0=some (.agg ⟨(bL q)⟩))(n5:(cs)[0+((j:Int):Int).toNat*1]?=some (i64 z3))(n6:(cs)[0+((k:Int):Int).toNat*1]?=some (i64 z4))(l1:i<1073741824/\(cs).length=i*1): ∃T1 M' a4,Rd Try.prog [] (q28.loopAt 0) Try.f28.ntmps (fr [(1,(pt x 0)),(3,(aC wb 0 i i)),(4,(i64 (i:Int)))]) M .normal T1 M'/\ [1,3,4].map T1.get= [some (pt x 0),some (aC a4 0 (i+1) (i+1)),some (i64 (IntKind.wrap .i64 ((i:Int)+(1:Int))))]/\Ext M0 M'/\aB M'/\M'.get x=some ⟨[i64 (n:Int),ev,rv,aC ab ao L ac,uv,dv],31,6,0,true⟩/\M0.next<=a4/\M'.get a4=some ⟨cs++ [i64 (IntKind.wrap .i64 (z3+z4))],3,1,0,true⟩/\x≠a4:=by
 obtain⟨b1,M2,f2,l4,g5,E6,n3⟩:=bE hM ⟨[i64 0,i64 0,i64 0,i64 0,i64 0,i64 0,i64 0],42,7,0,true⟩
 have n9:M0.next<=b1:=(mG f2 X0:)
 have g7:=fL gx f2
 have d6:=fL gw f2
 have g8:=E6.old gx
 have g9:=E6.old gw
 have l2:=X0.trans E6
 obtain⟨a0,q13,a8,e8,d0,h9,o1⟩:=aZ (o:=0) (v:=(.agg ⟨[i64 p.f,i64 q.t,i64 p.m,i64 (p.c+q.c),i64 (-1:Int),i64 (j:Int),i64 (k:Int)]⟩)) (new:= [i64 p.f,i64 q.t,i64 p.m,i64 (p.c+q.c),i64 (-1:Int),i64 (j:Int),i64 (k:Int)]) l2 n9 n3 lP g5 rfl rfl (Nat.zero_le _) (Nat.le_of_ble_eq_true rfl) rfl
 have f4:=(e8 _ g7).trans g8
 have k5:=(e8 _ d6).trans g9
 obtain⟨g3,a2⟩:=Kz a0 a0 []
 have f0:=Ow a2 d0
 have j0:g3.log= []:=by rw[a2]
 have a6:g3.next=a0.next:=by rw[a2]
 have i0:=Lg a2 h9
 have c0:=Nat.lt_of_lt_of_le n4 d0.next
 have c8:=aA.lt_of_get f4
 have f5:=cG a2 f4
 have f9:=aA.lt_of_get k5
 have k6:=cG a2 k5
 have c1:=aA.lt_of_get a8
 have f6:=cG a2 a8
 obtain⟨b5,b2,b4,e0,k7,d3,i1⟩:=bE i0 ⟨[i64 0,i64 0,i64 0,i64 0,i64 0,i64 0,i64 0],42,7,0,true⟩
 have j5:M0.next<=b5:=(mG b4 f0:)
 have d7:=fL f5 b4
 have c4:=fL k6 b4
 have c2:=fL f6 b4
 have k8:=d3.old f5
 have k9:=d3.old k6
 have l0:=d3.old f6
 have j1:b2.log= []:=by rw[<-e0];exact j0
 have o2:=d3.next
 have k1:=f0.trans d3
 obtain⟨b7,a7,b0,e5,l5,d4,i2⟩:=bE i1 ⟨[i64 0,i64 0,i64 0,i64 0,i64 0,i64 0,i64 0],42,7,0,true⟩
 have j6:M0.next<=b7:=(mG b0 k1:)
 have d8:=fL k8 b0
 have c5:=fL k9 b0
 have c3:=fL l0 b0
 have a9:=fL k7 b0
 have l6:=d4.old k8
 have l7:=d4.old k9
 have l8:=d4.old l0
 have l9:=d4.old k7
 have j2:a7.log= []:=by rw[<-e5];exact j1
 have k2:=k1.trans d4
 obtain⟨c9,q57,m0,b8,k3,i3,j7⟩:=aZ (o:=0) (v:=(.agg ⟨(bL p)⟩)) (new:= (bL p)) k2 j5 i2 lP l9 rfl rfl (Nat.zero_le _) (Nat.le_of_ble_eq_true rfl) rfl
 have m1:=(b8 _ d7).trans l6
 have m2:=(b8 _ c4).trans l7
 have m3:=(b8 _ c2).trans l8
 have m4:=(b8 _ (Ne.symm a9)).trans l5
 have j3:c9.log= [b5]:=by rw[j7,j2]
 obtain⟨a1,o3,m5,b9,k4,i4,j8⟩:=aZ (o:=0) (v:=(.agg ⟨(bL q)⟩)) (new:= (bL q)) k3 j6 i3 lP m4 rfl rfl (Nat.zero_le _) (Nat.le_of_ble_eq_true rfl) rfl
 have m6:=(b9 _ d8).trans m1
 have m7:=(b9 _ c5).trans m2
 have m8:=(b9 _ c3).trans m3
 have m9:=(b9 _ a9).trans m0
 have j4:a1.log= [b7,b5]:=by rw[j8,j3]
 obtain⟨g1,a5⟩: ∃m:aA,m=(aA.mk a1.blks a1.next a1.hide (a1.log++a0.log)):=⟨_,rfl⟩
 have l3:Ext M0 g1:=by rw[a5];exact Ext.join (d0) (k4)
 have i5:aB g1:=by rw[a5];exact i4
 have n0:=cG a5 m6
 have h7:=cG a5 m7
 have c7:=cG a5 m8
 have f7:=cG a5 m9
 have f8:=cG a5 m5
 obtain⟨g6,g2,h3,h4,n1,g0,i6⟩:=bE i5 ⟨[i64 (IntKind.wrap .i64 (z3+z4))],3,1,0,true⟩
 have h8:=g0.old n0
 have n2:=g0.old h7
 have d5:=l3.trans g0
 obtain⟨a4,b6,b3,d9,h5,g4,e6,e7⟩:=vU d5 o0 i6 ⟨cs++ [i64 (IntKind.wrap .i64 (z3+z4))],3,1,0,true⟩
 have e9:M0.next<=a4:=(mG b3 d5:)
 have c6:=fL h8 b3
 have h6:=(e7 _ h0 (aA.lt_of_get h8)).trans h8
 have a3:oR Try.prog [] 200 Try.f28 (q28.loopAt 0) [(1,(pt x 0)),(3,(aC wb 0 i i)),(4,(i64 (i:Int)))] M [aR 5 (aC ab ao L ac),aP 10,aR 14 (aC ab ao L ac),aP 18,aR 20 (.agg ⟨[i64 p.f,i64 q.t,i64 p.m,i64 (p.c+q.c),i64 (-1:Int),i64 (j:Int),i64 (k:Int)]⟩),bK 22 (pt b1 0) M2,jJ 24 a0,aR 28 (i64 p.f),aO 33,aO 35,aR 36 (i64 p.f),aO 37,aO 39,aO 41,aR 42 (i64 (n:Int)),aO 43,aO 46,aO 49,aO 51,aR 52 (i64 q.t),aO 53,aO 56,aO 59,aO 61,aR 62 (i64 q.t),aO 63,aO 65,aO 67,aR 68 (i64 (n:Int)),aO 69,aO 72,aO 75,aO 77,aR 78 (i64 p.m),aO 79,aO 82,aO 85,aO 87,aR 88 (i64 p.m),aO 89,aO 92,aO 95,aO 97,aR 98 (i64 (p.c+q.c)),aO 99,aO 102,aO 105,aO 107,aR 108 (i64 (p.c+q.c)),aO 109,aO 112,aO 113,aR 119 (i64 (-1:Int)),aP 122,aR 126 (i64 (j:Int)),aO 131,aO 133,aR 134 (i64 (j:Int)),aO 135,aO 137,aO 140,aO 143,aO 145,aR 146 (i64 (k:Int)),aO 147,aO 150,aO 153,aO 155,aR 156 (i64 (k:Int)),aO 157,aO 159,aO 162,aO 163,aR 167 (aC ab ao L ac),aR 171 (i64 (j:Int)),aP 173,aR 175 (.agg ⟨(bL p)⟩),aR 179 (aC ab ao L ac),aR 183 (i64 (k:Int)),aP 185,aR 187 (.agg ⟨(bL q)⟩),bK 189 (pt b5 0) b2,bK 191 (pt b7 0) (aA.mk a7.blks a7.next (aV 0 [⟨12,1,a0.next,b2.next⟩,⟨5,1,a0.next,a0.next⟩,⟨3,1,a0.next,a0.next⟩,⟨1,1,a0.next,a0.next⟩]++a0.hide) a7.log),jJ 193 c9,jJ 195 a1,aR 199 (i64 p.m),aR 203 (i64 p.m),aO 208,aO 210,aR 211 (i64 q.m),aO 212,aO 214,aR 215 (i64 p.m),aO 216,aO 219,aO 222,aO 224,aR 225 (i64 p.f),aO 226,aO 228,aR 229 (i64 p.f),aO 230,aO 233,aO 236,aO 238,aR 239 (i64 p.t),aO 240,aO 242,aR 243 (i64 q.f),aO 244,aO 247,aO 250,aO 252,aR 253 (i64 q.t),aO 254,aO 256,aR 257 (i64 q.t),aO 258,aO 261,aO 264,aO 266,aR 267 (i64 p.c),aO 268,aO 270,aR 271 (i64 q.c),aO 272,aO 274,aO 276,aR 277 (i64 (p.c+q.c)),aO 278,aO 281,aO 282,aR 288 (i64 (j:Int)),aP 290,aR 292 (i64 z3),aR 298 (i64 (k:Int)),aP 300,aR 302 (i64 z4),aO 311,bK 317 (aC g6 0 1 2) g2,.at 319 (2,.val (aC a4 0 (i+1) (i+1)),b6)] [1,3,4]=some (.normal,[some (pt x 0),some (aC a4 0 (i+1) (i+1)),some (i64 (IntKind.wrap .i64 ((i:Int)+(1:Int))))],b6,[qL 28 x 3 M (aC ab ao L ac),qT (decide ((i:Int)<(L:Int))),qL 28 x 3 M (aC ab ao L ac),.q (.inb (i:Int) L) (eT true),qL 42 ab (ao+((i:Int):Int).toNat*7) M (.agg ⟨[i64 p.f,i64 q.t,i64 p.m,i64 (p.c+q.c),i64 (-1:Int),i64 (j:Int),i64 (k:Int)]⟩),.eq (cN Try.prog 42 M) (1,.val (pt b1 0),M2),qS 42 b1 0 (.agg ⟨[i64 p.f,i64 q.t,i64 p.m,i64 (p.c+q.c),i64 (-1:Int),i64 (j:Int),i64 (k:Int)]⟩) M2 a0,qL 3 b1 0 a0 (i64 p.f),qF (decide (p.f<(0:Int))),qF (decide (p.f<(0:Int))),qL 3 b1 0 a0 (i64 p.f),qF (decide (p.f<(0:Int))),qF (decide (p.f<(0:Int))),qF (decide (p.f<(0:Int))),qL 3 x 0 a0 (i64 (n:Int)),qF (decide (p.f<(0:Int))),qF (decide (p.f<(0:Int))),qF (decide (p.f>=(n:Int))),qF (decide (p.f>=(n:Int))),qL 3 b1 1 a0 (i64 q.t),qF (decide (p.f>=(n:Int))),qF (decide (p.f>=(n:Int))),qF (decide (q.t<(0:Int))),qF (decide (q.t<(0:Int))),qL 3 b1 1 a0 (i64 q.t),qF (decide (q.t<(0:Int))),qF (decide (q.t<(0:Int))),qF (decide (q.t<(0:Int))),qL 3 x 0 a0 (i64 (n:Int)),qF (decide (q.t<(0:Int))),qF (decide (q.t<(0:Int))),qF (decide (q.t>=(n:Int))),qF (decide (q.t>=(n:Int))),qL 3 b1 2 a0 (i64 p.m),qF (decide (q.t>=(n:Int))),qF (decide (q.t>=(n:Int))),qF (decide (p.m<(0:Int))),qF (decide (p.m<(0:Int))),qL 3 b1 2 a0 (i64 p.m),qF (decide (p.m<(0:Int))),qF (decide (p.m<(0:Int))),qF (decide (p.m>=(5:Int))),qF (decide (p.m>=(5:Int))),qL 3 b1 3 a0 (i64 (p.c+q.c)),qF (decide (p.m>=(5:Int))),qF (decide (p.m>=(5:Int))),qF (decide ((p.c+q.c)<(0:Int))),qF (decide ((p.c+q.c)<(0:Int))),qL 3 b1 3 a0 (i64 (p.c+q.c)),qF (decide ((p.c+q.c)<(0:Int))),qF (decide ((p.c+q.c)<(0:Int))),qF (decide ((p.c+q.c)>(4398046511104:Int))),qL 3 b1 4 a0 (i64 (-1:Int)),qT ((-1:Int)==(-1:Int)),qL 3 b1 5 a0 (i64 (j:Int)),qF (decide ((j:Int)<(0:Int))),qF (decide ((j:Int)<(0:Int))),qL 3 b1 5 a0 (i64 (j:Int)),qF (decide ((j:Int)<(0:Int))),qF (decide ((j:Int)<(0:Int))),qF (decide ((j:Int)<(0:Int))),qF (decide ((j:Int)>=(i:Int))),qF (decide ((j:Int)>=(i:Int))),qL 3 b1 6 a0 (i64 (k:Int)),qF (decide ((j:Int)>=(i:Int))),qF (decide ((j:Int)>=(i:Int))),qF (decide ((k:Int)<(0:Int))),qF (decide ((k:Int)<(0:Int))),qL 3 b1 6 a0 (i64 (k:Int)),qF (decide ((k:Int)<(0:Int))),qF (decide ((k:Int)<(0:Int))),qF (decide ((k:Int)<(0:Int))),qF (decide ((k:Int)>=(i:Int))),qL 28 x 3 (aA.mk a0.blks a0.next a0.hide []) (aC ab ao L ac),qL 3 b1 5 (aA.mk a0.blks a0.next (aV 4 [⟨1,1,a0.next,a0.next⟩]++a0.hide) []) (i64 (j:Int)),.q (.inb (j:Int) L) (eT true),qL 42 ab (ao+((j:Int):Int).toNat*7) (aA.mk a0.blks a0.next a0.hide []) (.agg ⟨(bL p)⟩),qL 28 x 3 (aA.mk a0.blks a0.next (aV 64 [⟨5,1,a0.next,a0.next⟩,⟨3,1,a0.next,a0.next⟩,⟨1,1,a0.next,a0.next⟩]++a0.hide) []) (aC ab ao L ac),qT (Nat.blt x a0.next),qL 3 b1 6 (aA.mk a0.blks a0.next (aV 256 [⟨5,1,a0.next,a0.next⟩,⟨3,1,a0.next,a0.next⟩,⟨1,1,a0.next,a0.next⟩]++a0.hide) []) (i64 (k:Int)),qT (Nat.blt b1 a0.next),.q (.inb (k:Int) L) (eT true),qL 42 ab (ao+((k:Int):Int).toNat*7) (aA.mk a0.blks a0.next (aV 1984 [⟨5,1,a0.next,a0.next⟩,⟨3,1,a0.next,a0.next⟩,⟨1,1,a0.next,a0.next⟩]++a0.hide) []) (.agg ⟨(bL q)⟩),qT (Nat.blt ab a0.next),.eq (cN Try.prog 42 (aA.mk a0.blks a0.next (aV 0 [⟨5,1,a0.next,a0.next⟩,⟨3,1,a0.next,a0.next⟩,⟨1,1,a0.next,a0.next⟩]++a0.hide) [])) (1,.val (pt b5 0),b2),.eq (cN Try.prog 42 (aA.mk b2.blks b2.next (aV 0 [⟨12,1,a0.next,b2.next⟩,⟨5,1,a0.next,a0.next⟩,⟨3,1,a0.next,a0.next⟩,⟨1,1,a0.next,a0.next⟩]++a0.hide) b2.log)) (1,.val (pt b7 0),(aA.mk a7.blks a7.next (aV 0 [⟨12,1,a0.next,b2.next⟩,⟨5,1,a0.next,a0.next⟩,⟨3,1,a0.next,a0.next⟩,⟨1,1,a0.next,a0.next⟩]++a0.hide) a7.log)),qS 42 b5 0 (.agg ⟨(bL p)⟩) (aA.mk (aA.mk a7.blks a7.next (aV 0 [⟨12,1,a0.next,b2.next⟩,⟨5,1,a0.next,a0.next⟩,⟨3,1,a0.next,a0.next⟩,⟨1,1,a0.next,a0.next⟩]++a0.hide) a7.log).blks (aA.mk a7.blks a7.next (aV 0 [⟨12,1,a0.next,b2.next⟩,⟨5,1,a0.next,a0.next⟩,⟨3,1,a0.next,a0.next⟩,⟨1,1,a0.next,a0.next⟩]++a0.hide) a7.log).next a0.hide (aA.mk a7.blks a7.next (aV 0 [⟨12,1,a0.next,b2.next⟩,⟨5,1,a0.next,a0.next⟩,⟨3,1,a0.next,a0.next⟩,⟨1,1,a0.next,a0.next⟩]++a0.hide) a7.log).log) c9,qS 42 b7 0 (.agg ⟨(bL q)⟩) (aA.mk c9.blks c9.next a0.hide c9.log) a1,qT (cY [ab,b1,x] a1.log),qL 3 b5 2 (aA.mk a1.blks a1.next a0.hide (a1.log++a0.log)) (i64 p.m),qL 3 b1 2 (aA.mk a1.blks a1.next a0.hide (a1.log++a0.log)) (i64 p.m),qF (!(p.m==p.m)),qF (!(p.m==p.m)),qL 3 b7 2 (aA.mk a1.blks a1.next a0.hide (a1.log++a0.log)) (i64 q.m),qF (!(p.m==p.m)),qF (!(p.m==p.m)),qL 3 b1 2 (aA.mk a1.blks a1.next a0.hide (a1.log++a0.log)) (i64 p.m),qF (!(p.m==p.m)),qF (!(p.m==p.m)),qF (!(q.m==p.m)),qF (!(q.m==p.m)),qL 3 b5 0 (aA.mk a1.blks a1.next a0.hide (a1.log++a0.log)) (i64 p.f),qF (!(q.m==p.m)),qF (!(q.m==p.m)),qL 3 b1 0 (aA.mk a1.blks a1.next a0.hide (a1.log++a0.log)) (i64 p.f),qF (!(q.m==p.m)),qF (!(q.m==p.m)),qF (!(p.f==p.f)),qF (!(p.f==p.f)),qL 3 b5 1 (aA.mk a1.blks a1.next a0.hide (a1.log++a0.log)) (i64 p.t),qF (!(p.f==p.f)),qF (!(p.f==p.f)),qL 3 b7 0 (aA.mk a1.blks a1.next a0.hide (a1.log++a0.log)) (i64 q.f),qF (!(p.f==p.f)),qF (!(p.f==p.f)),qF (!(p.t==q.f)),qF (!(p.t==q.f)),qL 3 b7 1 (aA.mk a1.blks a1.next a0.hide (a1.log++a0.log)) (i64 q.t),qF (!(p.t==q.f)),qF (!(p.t==q.f)),qL 3 b1 1 (aA.mk a1.blks a1.next a0.hide (a1.log++a0.log)) (i64 q.t),qF (!(p.t==q.f)),qF (!(p.t==q.f)),qF (!(q.t==q.t)),qF (!(q.t==q.t)),qL 3 b5 3 (aA.mk a1.blks a1.next a0.hide (a1.log++a0.log)) (i64 p.c),qF (!(q.t==q.t)),qF (!(q.t==q.t)),qL 3 b7 3 (aA.mk a1.blks a1.next a0.hide (a1.log++a0.log)) (i64 q.c),qF (!(q.t==q.t)),qF (!(q.t==q.t)),qF (!(q.t==q.t)),qL 3 b1 3 (aA.mk a1.blks a1.next a0.hide (a1.log++a0.log)) (i64 (p.c+q.c)),qF (!(q.t==q.t)),qF (!(q.t==q.t)),qF (!((IntKind.wrap .i64 (p.c+q.c))==(p.c+q.c))),qL 3 b1 5 (aA.mk a1.blks a1.next a0.hide (a1.log++a0.log)) (i64 (j:Int)),.q (.inb (j:Int) i) (eT true),qL 3 wb (0+((j:Int):Int).toNat*1) (aA.mk a1.blks a1.next a0.hide (a1.log++a0.log)) (i64 z3),qL 3 b1 6 (aA.mk a1.blks a1.next a0.hide (a1.log++a0.log)) (i64 (k:Int)),.q (.inb (k:Int) i) (eT true),qL 3 wb (0+((k:Int):Int).toNat*1) (aA.mk a1.blks a1.next a0.hide (a1.log++a0.log)) (i64 z4),qF (decide ((IntKind.wrap .i64 (z3+z4))>(1000:Int))),.eq (bH Try.prog 22 1 [(0,(i64 (IntKind.wrap .i64 (z3+z4))))] (aA.mk a1.blks a1.next a0.hide (a1.log++a0.log))) (1,.val (aC g6 0 1 2),g2),.q (.append [22,22] (aC wb 0 i i) (aC g6 0 1 2) g2) (2,.val (aC a4 0 (i+1) (i+1)),b6)]):=by kernel_rfl
 dsimp only at a3
 have o4:aA.mk a0.blks a0.next a0.hide []=g3:=a2.symm
 have o5:=Yt (k:=4) (l:=[⟨1,1,a0.next,a0.next⟩]) a2 (by simp [aV,Nat.beq_refl,a6,Nx,Ny])
 have o6:=Yt (k:=64) (l:=[⟨5,1,a0.next,a0.next⟩,⟨3,1,a0.next,a0.next⟩,⟨1,1,a0.next,a0.next⟩]) a2 (by simp [aV,Nat.beq_refl,a6,Nx,Ny])
 have o7:=Yt (k:=256) (l:=[⟨5,1,a0.next,a0.next⟩,⟨3,1,a0.next,a0.next⟩,⟨1,1,a0.next,a0.next⟩]) a2 (by simp [aV,Nat.beq_refl,a6,Nx,Ny])
 have o8:=Yt (k:=1984) (l:=[⟨5,1,a0.next,a0.next⟩,⟨3,1,a0.next,a0.next⟩,⟨1,1,a0.next,a0.next⟩]) a2 (by simp [aV,Nat.beq_refl,a6,Nx,Ny])
 have o9:=Yt (k:=0) (l:=[⟨5,1,a0.next,a0.next⟩,⟨3,1,a0.next,a0.next⟩,⟨1,1,a0.next,a0.next⟩]) a2 (by simp [aV,Nat.beq_refl,a6,Nx,Ny])
 have p0:=pY ((d0).hide.trans (k2).hide.symm)
 have p1:=pY ((d0).hide.trans (k3).hide.symm)
 have j9:=Ew (L:=(a1.log++a0.log)) ((d0).hide.trans (k4).hide.symm)
 have k0:(aA.mk a1.blks a1.next a1.hide (a1.log++a0.log))=g1:=a5.symm
 try rw[o4] at a3
 try rw[o5] at a3
 try rw[o6] at a3
 try rw[o7] at a3
 try rw[o8] at a3
 try rw[o9] at a3
 try rw[p0] at a3
 try rw[p1] at a3
 try rw[j9] at a3
 try rw[k0] at a3
 obtain⟨T1,h1,h2⟩:=Rd.told aG aF (aI Try.prog) (fun _ _=>rfl) a3 (hk (lC kK gx rfl) (hk (bT f1) (hk (lC kK gx rfl) (hk (dY (by omega) (by simp at f1;omega)) (hk (fF (aS X0 i7)) (hk (bP (by rw[<-f2,<-l4];kernel_rfl) Nat.one_ne_zero) (hk (dA q13) (hk (lC bV a8 rfl) (hk (bF (decide_eq_false (by omega))) (hk (bF (decide_eq_false (by omega))) (hk (lC bV a8 rfl) (hk (bF (decide_eq_false (by omega))) (hk (bF (decide_eq_false (by omega))) (hk (bF (decide_eq_false (by omega))) (hk (lC bV f4 rfl) (hk (bF (decide_eq_false (by omega))) (hk (bF (decide_eq_false (by omega))) (hk (bF (decide_eq_false (by omega))) (hk (bF (decide_eq_false (by omega))) (hk (lC bV a8 rfl) (hk (bF (decide_eq_false (by omega))) (hk (bF (decide_eq_false (by omega))) (hk (bF (decide_eq_false (by omega))) (hk (bF (decide_eq_false (by omega))) (hk (lC bV a8 rfl) (hk (bF (decide_eq_false (by omega))) (hk (bF (decide_eq_false (by omega))) (hk (bF (decide_eq_false (by omega))) (hk (lC bV f4 rfl) (hk (bF (decide_eq_false (by omega))) (hk (bF (decide_eq_false (by omega))) (hk (bF (decide_eq_false (by omega))) (hk (bF (decide_eq_false (by omega))) (hk (lC bV a8 rfl) (hk (bF (decide_eq_false (by omega))) (hk (bF (decide_eq_false (by omega))) (hk (bF (decide_eq_false (by omega))) (hk (bF (decide_eq_false (by omega))) (hk (lC bV a8 rfl) (hk (bF (decide_eq_false (by omega))) (hk (bF (decide_eq_false (by omega))) (hk (bF (decide_eq_false (by omega))) (hk (bF (decide_eq_false (by omega))) (hk (lC bV a8 rfl) (hk (bF (decide_eq_false (by omega))) (hk (bF (decide_eq_false (by omega))) (hk (bF (decide_eq_false (by omega))) (hk (bF (decide_eq_false (by omega))) (hk (lC bV a8 rfl) (hk (bF (decide_eq_false (by omega))) (hk (bF (decide_eq_false (by omega))) (hk (bF (decide_eq_false (by omega))) (hk (lC bV a8 rfl) (hk (bT (by first|exact beq_self_eq_true _|exact dE _)) (hk (lC bV a8 rfl) (hk (bF (decide_eq_false (by omega))) (hk (bF (decide_eq_false (by omega))) (hk (lC bV a8 rfl) (hk (bF (decide_eq_false (by omega))) (hk (bF (decide_eq_false (by omega))) (hk (bF (decide_eq_false (by omega))) (hk (bF (decide_eq_false (by omega))) (hk (bF (decide_eq_false (by omega))) (hk (lC bV a8 rfl) (hk (bF (decide_eq_false (by omega))) (hk (bF (decide_eq_false (by omega))) (hk (bF (decide_eq_false (by omega))) (hk (bF (decide_eq_false (by omega))) (hk (lC bV a8 rfl) (hk (bF (decide_eq_false (by omega))) (hk (bF (decide_eq_false (by omega))) (hk (bF (decide_eq_false (by omega))) (hk (bF (decide_eq_false (by omega))) (hk (lC kK f5 rfl) (hk (lC bV f6 rfl) (hk (dY (by omega) (by simp at f1;omega)) (hk (fF (aS f0 i8)) (hk (lC kK f5 rfl) (hk (mB c8) (hk (lC bV f6 rfl) (hk (mB c1) (hk (dY (by omega) (by simp at f1;omega)) (hk (fF (aS f0 i9)) (hk (mB c0) (hk (bP (by rw[<-b4,<-e0];kernel_rfl) Nat.one_ne_zero) (hk (bP (by rw[<-b0,<-e5];kernel_rfl) Nat.one_ne_zero) (hk (dA q57) (hk (dA o3) (hk (eD (by rw[j4];simp<;>omega)) (hk (lC bV f7 rfl) (hk (lC bV c7 rfl) (hk (bF (by first|exact beq_self_eq_true _|exact dE _)) (hk (bF (by first|exact beq_self_eq_true _|exact dE _)) (hk (lC bV f8 rfl) (hk (bF (by first|exact beq_self_eq_true _|exact dE _)) (hk (bF (by first|exact beq_self_eq_true _|exact dE _)) (hk (lC bV c7 rfl) (hk (bF (by first|exact beq_self_eq_true _|exact dE _)) (hk (bF (by first|exact beq_self_eq_true _|exact dE _)) (hk (bF (by rw[d2];exact dE _)) (hk (bF (by rw[d2];exact dE _)) (hk (lC bV f7 rfl) (hk (bF (by rw[d2];exact dE _)) (hk (bF (by rw[d2];exact dE _)) (hk (lC bV c7 rfl) (hk (bF (by rw[d2];exact dE _)) (hk (bF (by rw[d2];exact dE _)) (hk (bF (by first|exact beq_self_eq_true _|exact dE _)) (hk (bF (by first|exact beq_self_eq_true _|exact dE _)) (hk (lC bV f7 rfl) (hk (bF (by first|exact beq_self_eq_true _|exact dE _)) (hk (bF (by first|exact beq_self_eq_true _|exact dE _)) (hk (lC bV f8 rfl) (hk (bF (by first|exact beq_self_eq_true _|exact dE _)) (hk (bF (by first|exact beq_self_eq_true _|exact dE _)) (hk (bF (by rw[d1];exact dE _)) (hk (bF (by rw[d1];exact dE _)) (hk (lC bV f8 rfl) (hk (bF (by rw[d1];exact dE _)) (hk (bF (by rw[d1];exact dE _)) (hk (lC bV c7 rfl) (hk (bF (by rw[d1];exact dE _)) (hk (bF (by rw[d1];exact dE _)) (hk (bF (by first|exact beq_self_eq_true _|exact dE _)) (hk (bF (by first|exact beq_self_eq_true _|exact dE _)) (hk (lC bV f7 rfl) (hk (bF (by first|exact beq_self_eq_true _|exact dE _)) (hk (bF (by first|exact beq_self_eq_true _|exact dE _)) (hk (lC bV f8 rfl) (hk (bF (by first|exact beq_self_eq_true _|exact dE _)) (hk (bF (by first|exact beq_self_eq_true _|exact dE _)) (hk (bF (by first|exact beq_self_eq_true _|exact dE _)) (hk (lC bV c7 rfl) (hk (bF (by first|exact beq_self_eq_true _|exact dE _)) (hk (bF (by first|exact beq_self_eq_true _|exact dE _)) (hk (bF (by rw[n7];exact dE _)) (hk (lC bV c7 rfl) (hk (dY (by omega) (by omega)) (hk (fF (bG (a:=⟨wb,0+((j:Int):Int).toNat*1,none⟩) bV h7 n5)) (hk (lC bV c7 rfl) (hk (dY (by omega) (by omega)) (hk (fF (bG (a:=⟨wb,0+((k:Int):Int).toNat*1,none⟩) bV h7 n6)) (hk (bF (decide_eq_false (by rw[n8];omega))) (hk (bP (by rw[<-h3,<-h4];kernel_rfl) Nat.one_ne_zero) (hk (kS (by rw[<-b3,<-d9];exact nB (w:=1) (by kernel_rfl) (by kernel_rfl) (by kernel_rfl) (y:=8) (by kernel_rfl) (by decide) (by decide) l1.1 n1 rfl rfl rfl n2 l1.2 rfl rfl rfl rfl) (Nat.succ_ne_zero _)) hn)))))))))))))))))))))))))))))))))))))))))))))))))))))))))))))))))))))))))))))))))))))))))))))))))))))))))))))))))))))))))))))))))))))))))))))))))
 exact⟨T1,b6,a4,h1,h2,g4,e6,h6,e9,h5,c6⟩
theorem rlx(x L ac i n:Nat)(aa:Option Addr)(S ev rv uv dv:Value){M:aA}(a1:aa.isNone=true->L=0/\ac=0)(gx:M.get x=some ⟨[i64 n,ev,rv,.slice aa L ac,uv,dv],31,6,0,true⟩)(a0:(decide ((i:Int)<(L:Int)))=false): ∃T1,Rd Try.prog [] (q28.loopAt 0) Try.f28.ntmps (fr [(1,(pt x 0)),(3,S),(4,(i64 (i:Int)))]) M (.exit 0) T1 M/\ [3].map T1.get= [some S]:=by
 exact Rd.told (tb:=[]) (n:=60) (F:=[aR 5 (.slice aa L ac),aP 7,aO 10]) aG aF (aI Try.prog) (fun _ _=>rfl) (by kernel_rfl) (hk (lO 3 kK gx rfl) (hk (lN a1) (hk (bF a0) hn)))
theorem Zl{x n ac:Nat}{aa:Option Addr}{ev rv uv dv:Value}{es:List E4}{rank:List Int}{arcs:List A7}{up down:List (List Int)}{M0 M:aA}(b5:qN (⟨n,es,rank,arcs,up,down⟩:IX) (.agg ⟨[i64 n,ev,rv,.slice aa arcs.length ac,uv,dv]⟩) M0)(hg:GX (⟨n,es,rank,arcs,up,down⟩:IX))(a2:eN arcs (.slice aa arcs.length ac) M0)(hM:aB M)(X0:Ext M0 M)(gx:M.get x=some ⟨[i64 n,ev,rv,.slice aa arcs.length ac,uv,dv],31,6,0,true⟩)(b1:M0.next<=x):
  ∃S M',bN Try.prog [] (q28.loopAt 0) Try.f28.ntmps (fr [(1,pt x 0),(3,eZ),(4,i64 ((0:Nat):Int))]) M (.exit 0) (fr [(3,S)]) M'/\Ext M0 M'/\aB M'/\cT 3 1 M0 [x] (arcs.length) ((fJ arcs (arcs.length)).map i64) S M':=by
 have b6:=hg.al
 have b3:=rT hg.ck
 simp only at b6 b3
 obtain⟨S,M',k1,k2,k3,_,k4⟩:=bN.for (P:=Try.prog) (GL:= []) (b:=q28.loopAt 0) (nt:=Try.f28.ntmps) (id:=0) (σ:=Value) (n:=arcs.length) (Inv:=fun i S M1=>Ext M0 M1/\aB M1/\M1.get x=some ⟨[i64 n,ev,rv,.slice aa arcs.length ac,uv,dv],31,6,0,true⟩/\cT 3 1 M0 [x] (i) ((fJ arcs (i)).map i64) S M1)
  (F:=fun i S=> [(1,pt x 0),(3,S),(4,i64 ((i:Nat):Int))]) (O:=fun S=> [(3,S)])
  (by
   rintro i S M1 hi ⟨X1,a4,a3,hA⟩
   obtain⟨ab,ao,rfl,_⟩:=cF a2 (by omega)
   have ht:arcs[i]?=some arcs[i]:=List.getElem?_eq_getElem hi
   have a6:=Go.Am.mD a2 (by omega)
   have l1:=mN (P:=Try.prog) (ty:=42) a2 ht uM lP
   have b9:=hg.ln i _ (by rw[lH _ _ _ hi,jW ht])
   have a7:(fJ arcs (i+1))=fJ arcs i++ [mO (fJ arcs i) arcs[i]]:=by
    conv=>lhs;unfold fJ
    rw[ht]
   have b2:((fJ arcs i).map i64).length=i*1:=by rw[List.length_map,gA];omega
   obtain⟨c1,c2,c3,c4,hf⟩:=hg.arc i _ ht
   rcases hf with⟨e,b4,he,hy⟩|⟨j,k,p,q,hji,hki,hp,hq,hy,hm,hpt⟩
   ·obtain⟨e1,e2,e3,e4⟩:=b3 e (List.mem_of_getElem? he)
    have b8:=(List.getElem?_eq_some_iff.1 he).1
    simp only at b8
    have a0:mO (fJ arcs i) arcs[i]=1:=by unfold mO;rw[if_neg (by omega)]
    have a5:bI Try.prog 42 ⟨ab,ao+((i:Int):Int).toNat*7,none⟩ M0=some (.agg ⟨[i64 e.f,i64 e.t,i64 e.m,i64 e.c,i64 arcs[i].e,i64 0,i64 0]⟩):=by
     rw[Int.toNat_natCast,l1]
     exact congrArg (fun z=>some (Value.agg ⟨z⟩)) (congrArg bL hy)
    rcases hA with⟨rfl,h0,_⟩|⟨wb,rfl,h0,_,a8,a9,b0⟩
    ·subst h0
     obtain⟨T1,M2,nb,q1,q2,q3,q4,q5,q6,q7,q8⟩:=rle0 x ab ao arcs.length ac 0 n ev rv uv dv es rank arcs up down e arcs[0].e a4 X1 a6 a3 b1 b5 hg ⟨b4,by omega⟩ he e1 e2 e3 e4 (decide_eq_true (by omega)) a5
     rw[aX (by omega)] at q2
     refine⟨aC nb 0 1 1,T1,M2,q1,q2,q3,q4,q5,.inr ⟨nb,rfl,by omega,by rw[List.length_map,gA],q6,by simp only [List.mem_singleton];exact fun e=>q8 e.symm,?_⟩⟩
     rw[q7,a7,a0];rfl
    ·obtain⟨T1,M2,nb,q1,q2,q3,q4,q5,q6,q7,q8⟩:=rle1 x ab ao arcs.length ac i n ev rv uv dv es rank arcs up down wb ((fJ arcs i).map i64) e arcs[i].e a4 X1 a6 a3 b1 b0 a8 (fun e=>a9 (by simp [e])) b5 hg ⟨b4,by omega⟩ he e1 e2 e3 e4 (decide_eq_true (by omega)) a5 ⟨by omega,b2⟩
     rw[aX (by omega)] at q2
     refine⟨aC nb 0 (i+1) (i+1),T1,M2,q1,q2,q3,q4,q5,.inr ⟨nb,rfl,by omega,by rw[List.length_map,gA];omega,q6,by simp only [List.mem_singleton];exact fun e=>q8 e.symm,?_⟩⟩
     rw[q7,a7,a0,List.map_append];rfl
   ·rcases hA with⟨rfl,h0,_⟩|⟨wb,rfl,h0,_,a8,a9,b0⟩
    ·omega
    ·have a1:=hg.ln j _ (by rw[lH _ _ _ (by omega:j<arcs.length),jW hp])
     have a0:mO (fJ arcs i) arcs[i]=mO (fJ arcs j) p+mO (fJ arcs k) q:=by
      conv=>lhs;unfold mO;rw[hy]
      rw[if_pos (show(mF p q (j:Int) (k:Int)).e= -1 from rfl)]
      show lAt (fJ arcs i) (j:Int)+lAt (fJ arcs i) (k:Int)=_
      unfold lAt
      rw[Int.toNat_natCast,Int.toNat_natCast,lH arcs i j hji,lH arcs i k hki,jW hp,jW hq]
      rfl
     have a5:bI Try.prog 42 ⟨ab,ao+((i:Int):Int).toNat*7,none⟩ M0=some (.agg ⟨[i64 p.f,i64 q.t,i64 p.m,i64 (p.c+q.c),i64 (-1:Int),i64 j,i64 k]⟩):=by
      rw[Int.toNat_natCast,l1]
      exact congrArg (fun z=>some (Value.agg ⟨z⟩)) (congrArg bL hy)
     have l2:=mN (P:=Try.prog) (ty:=42) a2 hp uM lP
     have l3:=mN (P:=Try.prog) (ty:=42) a2 hq uM lP
     rw[hy] at c1 c2 c3 c4
     have b7:0<=p.c+q.c/\p.c+q.c<=4398046511104:=c4
     rw[a0] at b9
     obtain⟨T1,M2,nb,q1,q2,q3,q4,q5,q6,q7,q8⟩:=rls x ab ao arcs.length ac i n ev rv uv dv es rank arcs up down wb ((fJ arcs i).map i64) j k p q (mO (fJ arcs j) p) (mO (fJ arcs k) q) a4 X1 a6 a3 b1 b0 a8 (fun e=>a9 (by simp [e])) ⟨hji,hki⟩ hm.symm hpt (yD (by omega) (by omega)) c1 c2 c3 b7 (yD (by omega) (by omega)) ⟨by omega,by omega⟩ (decide_eq_true (by omega)) a5 (by rw[Int.toNat_natCast];exact l2) (by rw[Int.toNat_natCast];exact l3)
      (by rw[Int.toNat_natCast,show 0+j*1=j by omega,List.getElem?_map,lH arcs i j hji,jW hp];rfl) (by rw[Int.toNat_natCast,show 0+k*1=k by omega,List.getElem?_map,lH arcs i k hki,jW hq];rfl) ⟨by omega,b2⟩
     rw[aX (by omega)] at q2
     refine⟨aC nb 0 (i+1) (i+1),T1,M2,q1,q2,q3,q4,q5,.inr ⟨nb,rfl,by omega,by rw[List.length_map,gA];omega,q6,by simp only [List.mem_singleton];exact fun e=>q8 e.symm,?_⟩⟩
     rw[q7,a7,a0,List.map_append,yD (by omega) (by omega)];rfl)
  (by
   rintro S M1 ⟨X1,a4,a3,hA⟩
   exact rlx x arcs.length ac arcs.length n aa S ev rv uv dv (M:=M1) a2.ln a3 (decide_eq_false (by omega)))
  arcs.length 0 (by omega) (s:=eZ) (M:=M) ⟨X0,hM,gx,.inl ⟨rfl,rfl,rfl⟩⟩
 exact⟨S,M',k1,k2,k3,k4⟩
theorem rK28:Try.f28.results= #[.tmp 2]:=by kernel_rfl
theorem w28j(n:Nat)(ea:Option Addr)(ec rb ro rc:Nat)(aa:Option Addr)(ac ub uc db dc:Nat)(es:List E4)(rank:List Int)(arcs:List A7)(up down:List (List Int)){M:aA}(hM:aB M)(b3:aU es (.slice ea es.length ec) M)(b4:aL rank (aC rb ro n rc) M)(a4:eN arcs (.slice aa arcs.length ac) M)(b5:bC up (aC ub 0 n uc) M)(b2:bC down (aC db 0 n dc) M)(hg:GX ⟨n,es,rank,arcs,up,down⟩): ∃v_ M',Ev Try.prog [] 28 [.agg ⟨[i64 (n:Int),.slice ea es.length ec,aC rb ro n rc,.slice aa arcs.length ac,aC ub 0 n uc,aC db 0 n dc]⟩] M v_ M'/\Ext M M'/\aB M'/\iQ aL (fJ arcs arcs.length) M.next v_ M':=by
 obtain⟨b1,M2,a5,a8,g5,E6,a9⟩:=bE hM ⟨[i64 (n:Int),.slice ea es.length ec,aC rb ro n rc,.slice aa arcs.length ac,aC ub 0 n uc,aC db 0 n dc],31,6,0,true⟩
 have b0:M.next<=b1:=by rw[<-a5];exact(Ext.refl M).next
 have X9:=(Ext.refl M).trans E6
 obtain⟨a1,a0,a2,a7,a3,a6⟩:=Zl ⟨_,_,_,_,_,rfl,b3,b4,a4,b5,b2⟩ hg a4 a9 X9 g5 b0
 exact⟨a1,a0,Ev.told_tmp (tb:=[0]) (n:=60) (F:=[bK 1 (pt b1 0) M2,.blk 8 [1,3,4] .normal (fr [(3,a1)]) a0]) aG aF Try.func28 aAp (by kernel_rfl) rK28 (fun B=>zJ (gS B) 0 a2) (fun _ h=>cD h) (by kernel_rfl) (hq (.eq (eL Try.prog 31 (.agg ⟨[i64 (n:Int),.slice ea es.length ec,aC rb ro n rc,.slice aa arcs.length ac,aC ub 0 n uc,aC db 0 n dc]⟩) M) (1,.val (pt b1 0),M2)) (bP (by rw[<-a5,<-a8];kernel_rfl) Nat.one_ne_zero) (hq (.blk 0 (.loop (q28.loopAt 0)) Try.f28.ntmps [1,3,4] [some (pt b1 0),some eZ,some (i64 0)] M2 .normal (fr [(3,a1)]) a0) (fP rfl) hn)),a7,a3,wR (by rw[gA];exact a6) (by rw[gA];exact a4.len)⟩
abbrev Q28:=FC (hZ (sU qN) GX) (iQ aL) (fun x=>fJ x.arcs x.arcs.length)
theorem con28{x:IX}{lv:List Value}{M:aA}(hM:aB M)(h:(hZ (sU qN) GX) x lv M): ∃v M',lM Try.prog [] 28 Q28 lv M v M':=by
 refine FC.con h ?_
 obtain⟨⟨g0,rfl,k0⟩,hg⟩:=h
 obtain⟨ea,ec,rb,ro,rc,aa,ac,ub,uc,db,dc,rfl,h1,h2,h3,h4,h5⟩:=rP k0 hg
 obtain⟨n,es,rank,arcs,up,down⟩:=x
 obtain⟨v,M',q1,q2,_,q3⟩:=w28j n ea ec rb ro rc aa ac ub uc db dc es rank arcs up down hM h1 h2 h3 h4 h5 hg
 exact⟨v,M',q1,q2,q3⟩
theorem rwu0(x sb rb ro rc ab ao L ac lb lo m lc n v i:Nat)(ev uv dv:Value)(es:List E4)(rank:List Int)(arcs:List A7)(up down:List (List Int))(cs:List Value)(a:Int)(y:A7)(z1:Bool){M M0:aA}(hM:aB M)(X0:Ext M0 M)(hab:ab<M0.next)(hlb:lb<M0.next)(hrb:rb<M0.next)(gx:M.get x=some ⟨[i64 (n:Int),ev,aC rb ro n rc,aC ab ao L ac,uv,dv],31,6,0,true⟩)(gs:M.get sb=some ⟨cs,4,1,0,true⟩)(d1:M0.next<=sb)(b1:x≠sb)(hpx:qN (⟨n,es,rank,arcs,up,down⟩:IX) (.agg ⟨[i64 n,ev,aC rb ro n rc,.slice (some ⟨ab,ao,none⟩) L ac,uv,dv]⟩) M0)(hg:GX (⟨n,es,rank,arcs,up,down⟩:IX))(ha:0<=a/\a<(L:Int))(hvn:v<n)(a0:y.f=(v:Int))(hfar:0<=y.t/\y.t<(n:Int))(habv:y.t=(v:Int)\/Ez rank y.t (v:Int)=true)(a4:(decide ((i:Int)<(m:Int)))=true)(c1:(z1)=false)(a3:(y.t==(v:Int))=true)(a1:bI Try.prog 3 ⟨lb,lo+((i:Int):Int).toNat*1,none⟩ M0=some (i64 a))(c8:(cs)[0+(a:Int).toNat*1]?=some (.bool z1))(b6:0+(a:Int).toNat*1+1<=(cs).length)(b5:bI Try.prog 42 ⟨ab,ao+(a:Int).toNat*7,none⟩ M0=some (.agg ⟨(bL y)⟩)): ∃T1 M',Rd Try.prog [] (q29.loopAt 0) Try.f29.ntmps (fr [(4,(pt x 0)),(1,(i64 (v:Int))),(2,(aC lb lo m lc)),(3,(.bool true)),(9,(aC sb 0 L (L+1))),(10,(i64 (i:Int)))]) M .normal T1 M'/\ [4,1,2,3,9,10].map T1.get= [some (pt x 0),some (i64 (v:Int)),some (aC lb lo m lc),some (.bool true),some (aC sb 0 L (L+1)),some (i64 (IntKind.wrap .i64 ((i:Int)+(1:Int))))]/\Ext M0 M'/\aB M'/\M'.get x=some ⟨[i64 (n:Int),ev,aC rb ro n rc,aC ab ao L ac,uv,dv],31,6,0,true⟩/\M'.get sb=some ⟨splice cs (0+(a:Int).toNat*1) [.bool true],4,1,0,true⟩:=by
 obtain⟨M1,q2,g3,c9,X5,c7,d3⟩:=aZ (o:=0+(a:Int).toNat*1) (v:=(.bool true)) (new:=splice cs (0+(a:Int).toNat*1) [.bool true]) X0 d1 hM dS4 gs rfl rfl (Nat.zero_le _) b6 rfl
 have g8:=(c9 _ b1).trans gx
 obtain⟨b9,a8,a2,b2,c2,a7,b3⟩:=bE c7 ⟨[i64 0,i64 0,i64 0,i64 0,i64 0,i64 0,i64 0],42,7,0,true⟩
 have d0:=mG a2 X5
 have b0:=fL g8 a2
 have a5:=fL g3 a2
 have c3:=a7.old g8
 have c4:=a7.old g3
 have b8:=X5.trans a7
 obtain⟨a9,Uw,b7,a6,c0,b4,d2⟩:=aZ (o:=0) (v:=(.agg ⟨(bL y)⟩)) (new:= (bL y)) b8 d0 b3 lP c2 rfl rfl (Nat.zero_le _) (Nat.le_of_ble_eq_true rfl) rfl
 have c5:=(a6 _ b0).trans c3
 have c6:=(a6 _ a5).trans c4
 obtain⟨T1,h1,h2⟩:=Rd.told (tb:=[]) (n:=200) (F:=[aP 8,aP 14,aR 16 (i64 a),aO 21,aO 23,aO 25,aP 26,aO 27,aR 28 (i64 a),aO 29,aO 31,aR 32 (aC ab ao L ac),aO 33,aO 35,aO 38,aO 41,aO 43,aO 45,aO 47,aP 48,aO 49,aR 50 (i64 a),aO 51,aP 52,aO 53,aR 54 (.bool z1),aO 56,aO 57,aP 65,aR 67 (i64 a),aP 69,jJ 71 M1,aR 75 (aC ab ao L ac),aP 81,aR 83 (i64 a),aP 85,aR 87 (.agg ⟨(bL y)⟩),bK 89 (pt b9 0) a8,jJ 91 a9,aR 99 (i64 y.f),aO 106,aO 108,aR 109 (i64 y.t),aO 110,aO 112,aO 114,aO 116,aO 118,aO 120,aO 122,aO 124,aO 126,aO 128,aO 129,aO 131]) aG aF (aI Try.prog) (fun _ _=>rfl) (by kernel_rfl) (hk (bT a4) (hk (qI (i:Int) m (by omega) (by simp at a4;omega)) (hk (lD (aS X0 a1)) (hk (bF (x:=decide (a<(0:Int))) (decide_eq_false (by omega))) (hk (bF (x:=decide (a<(0:Int))) (decide_eq_false (by omega))) (hk (bF (x:=decide (a<(0:Int))) (decide_eq_false (by omega))) (hk (qI (i:Int) m (by omega) (by simp at a4;omega)) (hk (bF (x:=decide (a<(0:Int))) (decide_eq_false (by omega))) (hk (lD (aS X0 a1)) (hk (bF (x:=decide (a<(0:Int))) (decide_eq_false (by omega))) (hk (bF (x:=decide (a<(0:Int))) (decide_eq_false (by omega))) (hk (lO 3 kK gx rfl) (hk (bF (x:=decide (a<(0:Int))) (decide_eq_false (by omega))) (hk (bF (x:=decide (a<(0:Int))) (decide_eq_false (by omega))) (hk (bF (x:=decide (a<(0:Int))) (decide_eq_false (by omega))) (hk (bF (x:=decide (a>=(L:Int))) (decide_eq_false (by omega))) (hk (bF (x:=decide (a>=(L:Int))) (decide_eq_false (by omega))) (hk (bF (x:=decide (a>=(L:Int))) (decide_eq_false (by omega))) (hk (bF (x:=decide (a>=(L:Int))) (decide_eq_false (by omega))) (hk (qI (i:Int) m (by omega) (by simp at a4;omega)) (hk (bF (x:=decide (a>=(L:Int))) (decide_eq_false (by omega))) (hk (lD (aS X0 a1)) (hk (bF (x:=decide (a>=(L:Int))) (decide_eq_false (by omega))) (hk (qI a L (by omega) (by omega)) (hk (bF (x:=decide (a>=(L:Int))) (decide_eq_false (by omega))) (hq (qL 4 sb (0+(a:Int).toNat*1) M (.bool z1)) (fF (bG (a:=⟨sb,0+(a:Int).toNat*1,none⟩) Rh gs c8)) (hk (bF (x:=decide (a>=(L:Int))) (decide_eq_false (by omega))) (hk (bF c1) (hk (qI (i:Int) m (by omega) (by simp at a4;omega)) (hk (lD (aS X0 a1)) (hk (qI a L (by omega) (by omega)) (hq (qS 4 sb (0+(a:Int).toNat*1) (.bool true) M M1) (dA q2) (hk (lO 3 kK g8 rfl) (hk (qI (i:Int) m (by omega) (by simp at a4;omega)) (hk (lD (aS X5 a1)) (hk (qI a L (by omega) (by omega)) (hk (lD (aS X5 b5)) (hq (.eq (cN Try.prog 42 M1) (1,.val (pt b9 0),a8)) (bP (by rw[<-a2,<-b2];kernel_rfl) Nat.one_ne_zero) (hq (qS 42 b9 0 (.agg ⟨(bL y)⟩) a8 a9) (dA Uw) (hk (lO 0 bV b7 rfl) (hk (bF (x:=!(y.f==(v:Int))) (by rw[a0];exact dE _)) (hk (bF (x:=!(y.f==(v:Int))) (by rw[a0];exact dE _)) (hk (lO 1 bV b7 rfl) (hk (bF (x:=!(y.f==(v:Int))) (by rw[a0];exact dE _)) (hk (bF (x:=!(y.f==(v:Int))) (by rw[a0];exact dE _)) (hk (bF (x:=!(y.f==(v:Int))) (by rw[a0];exact dE _)) (hk (bF (x:=!(y.t==(v:Int))) (by rw[a3];rfl)) (hk (bF (x:=!(y.t==(v:Int))) (by rw[a3];rfl)) (hk (bF (x:=!(y.t==(v:Int))) (by rw[a3];rfl)) (hk (bF (x:=!(y.t==(v:Int))) (by rw[a3];rfl)) (hk (bF (x:=!(y.t==(v:Int))) (by rw[a3];rfl)) (hk (bF (x:=!(y.t==(v:Int))) (by rw[a3];rfl)) (hk (bF (x:=!(y.f==(v:Int))) (by rw[a0];exact dE _)) (hk (bF (x:=!(y.t==(v:Int))) (by rw[a3];rfl)) (hk (bF (x:=!(y.f==(v:Int))) (by rw[a0];exact dE _)) hn)))))))))))))))))))))))))))))))))))))))))))))))))))))))
 exact⟨T1,a9,h1,h2,c0,b4,c5,c6⟩
theorem rwu1(x sb rb ro rc ab ao L ac lb lo m lc n v i:Nat)(ev uv dv:Value)(es:List E4)(rank:List Int)(arcs:List A7)(up down:List (List Int))(cs:List Value)(a:Int)(y:A7)(z1:Bool){M M0:aA}(hM:aB M)(X0:Ext M0 M)(hab:ab<M0.next)(hlb:lb<M0.next)(hrb:rb<M0.next)(gx:M.get x=some ⟨[i64 (n:Int),ev,aC rb ro n rc,aC ab ao L ac,uv,dv],31,6,0,true⟩)(gs:M.get sb=some ⟨cs,4,1,0,true⟩)(e4:M0.next<=sb)(b3:x≠sb)(e0:qN (⟨n,es,rank,arcs,up,down⟩:IX) (.agg ⟨[i64 n,ev,aC rb ro n rc,.slice (some ⟨ab,ao,none⟩) L ac,uv,dv]⟩) M0)(hg:GX (⟨n,es,rank,arcs,up,down⟩:IX))(ha:0<=a/\a<(L:Int))(hvn:v<n)(a0:y.f=(v:Int))(c2:0<=y.t/\y.t<(n:Int))(c1:y.t=(v:Int)\/Ez rank y.t (v:Int)=true)(a4:(decide ((i:Int)<(m:Int)))=true)(d0:(z1)=false)(a3:(y.t==(v:Int))=false)(a1:bI Try.prog 3 ⟨lb,lo+((i:Int):Int).toNat*1,none⟩ M0=some (i64 a))(d9:(cs)[0+(a:Int).toNat*1]?=some (.bool z1))(c4:0+(a:Int).toNat*1+1<=(cs).length)(c3:bI Try.prog 42 ⟨ab,ao+(a:Int).toNat*7,none⟩ M0=some (.agg ⟨(bL y)⟩)): ∃T1 M',Rd Try.prog [] (q29.loopAt 0) Try.f29.ntmps (fr [(4,(pt x 0)),(1,(i64 (v:Int))),(2,(aC lb lo m lc)),(3,(.bool true)),(9,(aC sb 0 L (L+1))),(10,(i64 (i:Int)))]) M .normal T1 M'/\ [4,1,2,3,9,10].map T1.get= [some (pt x 0),some (i64 (v:Int)),some (aC lb lo m lc),some (.bool true),some (aC sb 0 L (L+1)),some (i64 (IntKind.wrap .i64 ((i:Int)+(1:Int))))]/\Ext M0 M'/\aB M'/\M'.get x=some ⟨[i64 (n:Int),ev,aC rb ro n rc,aC ab ao L ac,uv,dv],31,6,0,true⟩/\M'.get sb=some ⟨splice cs (0+(a:Int).toNat*1) [.bool true],4,1,0,true⟩:=by
 obtain⟨M1,q2,g3,e1,X5,d8,e8⟩:=aZ (o:=0+(a:Int).toNat*1) (v:=(.bool true)) (new:=splice cs (0+(a:Int).toNat*1) [.bool true]) X0 e4 hM dS4 gs rfl rfl (Nat.zero_le _) c4 rfl
 have g8:=(e1 _ b3).trans gx
 obtain⟨b9,b0,a2,b4,d2,a8,b7⟩:=bE d8 ⟨[i64 0,i64 0,i64 0,i64 0,i64 0,i64 0,i64 0],42,7,0,true⟩
 have e3:=mG a2 X5
 have b2:=fL g8 a2
 have a5:=fL g3 a2
 have d3:=a8.old g8
 have d4:=a8.old g3
 have c8:=X5.trans a8
 obtain⟨a7,Uw,b6,a6,c5,b8,e5⟩:=aZ (o:=0) (v:=(.agg ⟨(bL y)⟩)) (new:= (bL y)) c8 e3 b7 lP d2 rfl rfl (Nat.zero_le _) (Nat.le_of_ble_eq_true rfl) rfl
 have c6:=(a6 _ b2).trans d3
 have d5:=(a6 _ a5).trans d4
 obtain⟨w29,e7,b1,e6,e2,d1,a9,c0,c7⟩:=aM (x:=((⟨n,es,rank,arcs,up,down⟩:IX),y.t,(v:Int))) b8 Xn (⟨⟨_,_,_,rfl,AP.Ext (R:=qN) e0 c5,rfl,rfl⟩,hg,c2,⟨by simp only;omega,by simp only;omega⟩,c1.resolve_left (by simpa using a3)⟩)
 have d6:=a9.old c6
 have d7:=a9.old d5
 have b5:w29=(.bool true):=c7
 subst b5
 have c9:=c5.trans a9
 obtain⟨T1,h1,h2⟩:=Rd.told (tb:=[]) (n:=200) (F:=[aP 8,aP 14,aR 16 (i64 a),aO 21,aO 23,aO 25,aP 26,aO 27,aR 28 (i64 a),aO 29,aO 31,aR 32 (aC ab ao L ac),aO 33,aO 35,aO 38,aO 41,aO 43,aO 45,aO 47,aP 48,aO 49,aR 50 (i64 a),aO 51,aP 52,aO 53,aR 54 (.bool z1),aO 56,aO 57,aP 65,aR 67 (i64 a),aP 69,jJ 71 M1,aR 75 (aC ab ao L ac),aP 81,aR 83 (i64 a),aP 85,aR 87 (.agg ⟨(bL y)⟩),bK 89 (pt b9 0) b0,jJ 91 a7,aR 99 (i64 y.f),aO 106,aO 108,aR 109 (i64 y.t),aO 110,aO 112,aO 114,aP 116,aR 117 (.agg ⟨[i64 (n:Int),ev,aC rb ro n rc,aC ab ao L ac,uv,dv]⟩),aP 118,aP 120,aR 121 (i64 y.t),aP 122,aP 124,bK 125 (.bool true) b1,aP 126,aO 128,aP 129,aO 131]) aG aF (fun B=>lQ (gP 61 Q61 (gS _))) (fun _ _=>rfl) (by kernel_rfl) (hk (bT a4) (hk (qI (i:Int) m (by omega) (by simp at a4;omega)) (hk (lD (aS X0 a1)) (hk (bF (x:=decide (a<(0:Int))) (decide_eq_false (by omega))) (hk (bF (x:=decide (a<(0:Int))) (decide_eq_false (by omega))) (hk (bF (x:=decide (a<(0:Int))) (decide_eq_false (by omega))) (hk (qI (i:Int) m (by omega) (by simp at a4;omega)) (hk (bF (x:=decide (a<(0:Int))) (decide_eq_false (by omega))) (hk (lD (aS X0 a1)) (hk (bF (x:=decide (a<(0:Int))) (decide_eq_false (by omega))) (hk (bF (x:=decide (a<(0:Int))) (decide_eq_false (by omega))) (hk (lO 3 kK gx rfl) (hk (bF (x:=decide (a<(0:Int))) (decide_eq_false (by omega))) (hk (bF (x:=decide (a<(0:Int))) (decide_eq_false (by omega))) (hk (bF (x:=decide (a<(0:Int))) (decide_eq_false (by omega))) (hk (bF (x:=decide (a>=(L:Int))) (decide_eq_false (by omega))) (hk (bF (x:=decide (a>=(L:Int))) (decide_eq_false (by omega))) (hk (bF (x:=decide (a>=(L:Int))) (decide_eq_false (by omega))) (hk (bF (x:=decide (a>=(L:Int))) (decide_eq_false (by omega))) (hk (qI (i:Int) m (by omega) (by simp at a4;omega)) (hk (bF (x:=decide (a>=(L:Int))) (decide_eq_false (by omega))) (hk (lD (aS X0 a1)) (hk (bF (x:=decide (a>=(L:Int))) (decide_eq_false (by omega))) (hk (qI a L (by omega) (by omega)) (hk (bF (x:=decide (a>=(L:Int))) (decide_eq_false (by omega))) (hq (qL 4 sb (0+(a:Int).toNat*1) M (.bool z1)) (fF (bG (a:=⟨sb,0+(a:Int).toNat*1,none⟩) Rh gs d9)) (hk (bF (x:=decide (a>=(L:Int))) (decide_eq_false (by omega))) (hk (bF d0) (hk (qI (i:Int) m (by omega) (by simp at a4;omega)) (hk (lD (aS X0 a1)) (hk (qI a L (by omega) (by omega)) (hq (qS 4 sb (0+(a:Int).toNat*1) (.bool true) M M1) (dA q2) (hk (lO 3 kK g8 rfl) (hk (qI (i:Int) m (by omega) (by simp at a4;omega)) (hk (lD (aS X5 a1)) (hk (qI a L (by omega) (by omega)) (hk (lD (aS X5 c3)) (hq (.eq (cN Try.prog 42 M1) (1,.val (pt b9 0),b0)) (bP (by rw[<-a2,<-b4];kernel_rfl) Nat.one_ne_zero) (hq (qS 42 b9 0 (.agg ⟨(bL y)⟩) b0 a7) (dA Uw) (hk (lO 0 bV b6 rfl) (hk (bF (x:=!(y.f==(v:Int))) (by rw[a0];exact dE _)) (hk (bF (x:=!(y.f==(v:Int))) (by rw[a0];exact dE _)) (hk (lO 1 bV b6 rfl) (hk (bF (x:=!(y.f==(v:Int))) (by rw[a0];exact dE _)) (hk (bF (x:=!(y.f==(v:Int))) (by rw[a0];exact dE _)) (hk (bF (x:=!(y.f==(v:Int))) (by rw[a0];exact dE _)) (hk (bT (x:=!(y.t==(v:Int))) (by rw[a3];rfl)) (hq (qL 31 x 0 a7 (.agg ⟨[i64 (n:Int),ev,aC rb ro n rc,aC ab ao L ac,uv,dv]⟩)) (lA ⟨yT,uN⟩ c6 rfl) (hk (bT (x:=!(y.t==(v:Int))) (by rw[a3];rfl)) (hk (bT (x:=!(y.t==(v:Int))) (by rw[a3];rfl)) (hk (lO 1 bV b6 rfl) (hk (bT (x:=!(y.t==(v:Int))) (by rw[a3];rfl)) (hk (bT (x:=!(y.t==(v:Int))) (by rw[a3];rfl)) (hq (qC 61 [.agg ⟨[i64 (n:Int),ev,aC rb ro n rc,aC ab ao L ac,uv,dv]⟩,i64 y.t,i64 (v:Int)] a7 (.bool true) b1) (aJ rfl e6 e2 d1) (hk (bT (x:=!(y.t==(v:Int))) (by rw[a3];rfl)) (hk (bF (x:=!(y.f==(v:Int))) (by rw[a0];exact dE _)) (hk (bT (x:=!(y.t==(v:Int))) (by rw[a3];rfl)) (hk (bF (x:=!(y.f==(v:Int))) (by rw[a0];exact dE _)) hn))))))))))))))))))))))))))))))))))))))))))))))))))))))))))
 exact⟨T1,b1,h1,h2,c9,c0,d6,d7⟩
theorem rwd0(x sb rb ro rc ab ao L ac lb lo m lc n v i:Nat)(ev uv dv:Value)(es:List E4)(rank:List Int)(arcs:List A7)(up down:List (List Int))(cs:List Value)(a:Int)(y:A7)(z1:Bool){M M0:aA}(hM:aB M)(X0:Ext M0 M)(hab:ab<M0.next)(hlb:lb<M0.next)(hrb:rb<M0.next)(gx:M.get x=some ⟨[i64 (n:Int),ev,aC rb ro n rc,aC ab ao L ac,uv,dv],31,6,0,true⟩)(gs:M.get sb=some ⟨cs,4,1,0,true⟩)(e5:M0.next<=sb)(b4:x≠sb)(e1:qN (⟨n,es,rank,arcs,up,down⟩:IX) (.agg ⟨[i64 n,ev,aC rb ro n rc,.slice (some ⟨ab,ao,none⟩) L ac,uv,dv]⟩) M0)(hg:GX (⟨n,es,rank,arcs,up,down⟩:IX))(ha:0<=a/\a<(L:Int))(hvn:v<n)(a0:y.t=(v:Int))(c4:0<=y.f/\y.f<(n:Int))(a3:y.f≠(v:Int))(hrv:0<=kA rank (v:Int))(c3:Ez rank y.f (v:Int)=true)(a4:(decide ((i:Int)<(m:Int)))=true)(d1:(z1)=false)(a1:bI Try.prog 3 ⟨lb,lo+((i:Int):Int).toNat*1,none⟩ M0=some (i64 a))(e0:(cs)[0+(a:Int).toNat*1]?=some (.bool z1))(c7:0+(a:Int).toNat*1+1<=(cs).length)(c5:bI Try.prog 42 ⟨ab,ao+(a:Int).toNat*7,none⟩ M0=some (.agg ⟨(bL y)⟩))(c6:bI Try.prog 3 ⟨rb,ro+((v:Int):Int).toNat*1,none⟩ M0=some (i64 (kA rank (v:Int)))): ∃T1 M',Rd Try.prog [] (q29.loopAt 0) Try.f29.ntmps (fr [(4,(pt x 0)),(1,(i64 (v:Int))),(2,(aC lb lo m lc)),(3,(.bool false)),(9,(aC sb 0 L (L+1))),(10,(i64 (i:Int)))]) M .normal T1 M'/\ [4,1,2,3,9,10].map T1.get= [some (pt x 0),some (i64 (v:Int)),some (aC lb lo m lc),some (.bool false),some (aC sb 0 L (L+1)),some (i64 (IntKind.wrap .i64 ((i:Int)+(1:Int))))]/\Ext M0 M'/\aB M'/\M'.get x=some ⟨[i64 (n:Int),ev,aC rb ro n rc,aC ab ao L ac,uv,dv],31,6,0,true⟩/\M'.get sb=some ⟨splice cs (0+(a:Int).toNat*1) [.bool true],4,1,0,true⟩:=by
 obtain⟨M1,q2,g3,e2,X5,d9,e9⟩:=aZ (o:=0+(a:Int).toNat*1) (v:=(.bool true)) (new:=splice cs (0+(a:Int).toNat*1) [.bool true]) X0 e5 hM dS4 gs rfl rfl (Nat.zero_le _) c7 rfl
 have g8:=(e2 _ b4).trans gx
 obtain⟨b9,b0,a2,b5,d3,a8,c0⟩:=bE d9 ⟨[i64 0,i64 0,i64 0,i64 0,i64 0,i64 0,i64 0],42,7,0,true⟩
 have e4:=mG a2 X5
 have b3:=fL g8 a2
 have a5:=fL g3 a2
 have d4:=a8.old g8
 have d5:=a8.old g3
 have c9:=X5.trans a8
 obtain⟨a7,Uw,b7,a6,b2,c1,e6⟩:=aZ (o:=0) (v:=(.agg ⟨(bL y)⟩)) (new:= (bL y)) c9 e4 c0 lP d3 rfl rfl (Nat.zero_le _) (Nat.le_of_ble_eq_true rfl) rfl
 have b8:=(a6 _ b3).trans d4
 have d6:=(a6 _ a5).trans d5
 obtain⟨w29,e8,b1,e7,e3,d2,a9,c2,c8⟩:=aM (x:=((⟨n,es,rank,arcs,up,down⟩:IX),y.f,(v:Int))) c1 Xn (⟨⟨_,_,_,rfl,AP.Ext (R:=qN) e1 b2,rfl,rfl⟩,hg,c4,⟨by simp only;omega,by simp only;omega⟩,c3⟩)
 have d7:=a9.old b8
 have d8:=a9.old d6
 have b6:w29=(.bool true):=c8
 subst b6
 have d0:=b2.trans a9
 obtain⟨T1,h1,h2⟩:=Rd.told (tb:=[]) (n:=200) (F:=[aP 8,aP 14,aR 16 (i64 a),aO 21,aO 23,aO 25,aP 26,aO 27,aR 28 (i64 a),aO 29,aO 31,aR 32 (aC ab ao L ac),aO 33,aO 35,aO 38,aO 41,aO 43,aO 45,aO 47,aP 48,aO 49,aR 50 (i64 a),aO 51,aP 52,aO 53,aR 54 (.bool z1),aO 56,aO 57,aP 65,aR 67 (i64 a),aP 69,jJ 71 M1,aR 75 (aC ab ao L ac),aP 81,aR 83 (i64 a),aP 85,aR 87 (.agg ⟨(bL y)⟩),bK 89 (pt b9 0) b0,jJ 91 a7,aR 144 (i64 y.t),aO 151,aO 153,aR 154 (i64 y.f),aO 155,aO 157,aO 160,aO 163,aO 165,aR 166 (aC rb ro n rc),aO 167,aO 169,aP 170,aO 171,aR 172 (i64 (kA rank (v:Int))),aO 173,aO 176,aO 179,aR 180 (.agg ⟨[i64 (n:Int),ev,aC rb ro n rc,aC ab ao L ac,uv,dv]⟩),aO 181,aO 183,aR 184 (i64 y.f),aO 185,aO 187,bK 188 (.bool true) b1,aO 189,aO 192]) aG aF (fun B=>lQ (gP 61 Q61 (gS _))) (fun _ _=>rfl) (by kernel_rfl) (hk (bT a4) (hk (qI (i:Int) m (by omega) (by simp at a4;omega)) (hk (lD (aS X0 a1)) (hk (bF (x:=decide (a<(0:Int))) (decide_eq_false (by omega))) (hk (bF (x:=decide (a<(0:Int))) (decide_eq_false (by omega))) (hk (bF (x:=decide (a<(0:Int))) (decide_eq_false (by omega))) (hk (qI (i:Int) m (by omega) (by simp at a4;omega)) (hk (bF (x:=decide (a<(0:Int))) (decide_eq_false (by omega))) (hk (lD (aS X0 a1)) (hk (bF (x:=decide (a<(0:Int))) (decide_eq_false (by omega))) (hk (bF (x:=decide (a<(0:Int))) (decide_eq_false (by omega))) (hk (lO 3 kK gx rfl) (hk (bF (x:=decide (a<(0:Int))) (decide_eq_false (by omega))) (hk (bF (x:=decide (a<(0:Int))) (decide_eq_false (by omega))) (hk (bF (x:=decide (a<(0:Int))) (decide_eq_false (by omega))) (hk (bF (x:=decide (a>=(L:Int))) (decide_eq_false (by omega))) (hk (bF (x:=decide (a>=(L:Int))) (decide_eq_false (by omega))) (hk (bF (x:=decide (a>=(L:Int))) (decide_eq_false (by omega))) (hk (bF (x:=decide (a>=(L:Int))) (decide_eq_false (by omega))) (hk (qI (i:Int) m (by omega) (by simp at a4;omega)) (hk (bF (x:=decide (a>=(L:Int))) (decide_eq_false (by omega))) (hk (lD (aS X0 a1)) (hk (bF (x:=decide (a>=(L:Int))) (decide_eq_false (by omega))) (hk (qI a L (by omega) (by omega)) (hk (bF (x:=decide (a>=(L:Int))) (decide_eq_false (by omega))) (hq (qL 4 sb (0+(a:Int).toNat*1) M (.bool z1)) (fF (bG (a:=⟨sb,0+(a:Int).toNat*1,none⟩) Rh gs e0)) (hk (bF (x:=decide (a>=(L:Int))) (decide_eq_false (by omega))) (hk (bF d1) (hk (qI (i:Int) m (by omega) (by simp at a4;omega)) (hk (lD (aS X0 a1)) (hk (qI a L (by omega) (by omega)) (hq (qS 4 sb (0+(a:Int).toNat*1) (.bool true) M M1) (dA q2) (hk (lO 3 kK g8 rfl) (hk (qI (i:Int) m (by omega) (by simp at a4;omega)) (hk (lD (aS X5 a1)) (hk (qI a L (by omega) (by omega)) (hk (lD (aS X5 c5)) (hq (.eq (cN Try.prog 42 M1) (1,.val (pt b9 0),b0)) (bP (by rw[<-a2,<-b5];kernel_rfl) Nat.one_ne_zero) (hq (qS 42 b9 0 (.agg ⟨(bL y)⟩) b0 a7) (dA Uw) (hk (lO 1 bV b7 rfl) (hk (bF (x:=!(y.t==(v:Int))) (by rw[a0];exact dE _)) (hk (bF (x:=!(y.t==(v:Int))) (by rw[a0];exact dE _)) (hk (lO 0 bV b7 rfl) (hk (bF (x:=!(y.t==(v:Int))) (by rw[a0];exact dE _)) (hk (bF (x:=!(y.t==(v:Int))) (by rw[a0];exact dE _)) (hk (bF (x:=!(y.t==(v:Int))) (by rw[a0];exact dE _)) (hk (bF (x:=y.f==(v:Int)) (beq_eq_false_iff_ne.2 a3)) (hk (bF (x:=y.f==(v:Int)) (beq_eq_false_iff_ne.2 a3)) (hk (lO 2 jU b8 rfl) (hk (bF (x:=y.f==(v:Int)) (beq_eq_false_iff_ne.2 a3)) (hk (bF (x:=y.f==(v:Int)) (beq_eq_false_iff_ne.2 a3)) (hk (qI (v:Int) n (by omega) (by omega)) (hk (bF (x:=y.f==(v:Int)) (beq_eq_false_iff_ne.2 a3)) (hk (lD (aS b2 c6)) (hk (bF (x:=y.f==(v:Int)) (beq_eq_false_iff_ne.2 a3)) (hk (bF (x:=y.f==(v:Int)) (beq_eq_false_iff_ne.2 a3)) (hk (bF (x:=decide ((kA rank (v:Int))<(0:Int))) (decide_eq_false (by omega))) (hq (qL 31 x 0 a7 (.agg ⟨[i64 (n:Int),ev,aC rb ro n rc,aC ab ao L ac,uv,dv]⟩)) (lA ⟨yT,uN⟩ b8 rfl) (hk (bF (x:=decide ((kA rank (v:Int))<(0:Int))) (decide_eq_false (by omega))) (hk (bF (x:=decide ((kA rank (v:Int))<(0:Int))) (decide_eq_false (by omega))) (hk (lO 0 bV b7 rfl) (hk (bF (x:=decide ((kA rank (v:Int))<(0:Int))) (decide_eq_false (by omega))) (hk (bF (x:=decide ((kA rank (v:Int))<(0:Int))) (decide_eq_false (by omega))) (hq (qC 61 [.agg ⟨[i64 (n:Int),ev,aC rb ro n rc,aC ab ao L ac,uv,dv]⟩,i64 y.f,i64 (v:Int)] a7 (.bool true) b1) (aJ rfl e7 e3 d2) (hk (bF (x:=decide ((kA rank (v:Int))<(0:Int))) (decide_eq_false (by omega))) (hk (bF (x:=decide ((kA rank (v:Int))<(0:Int))) (decide_eq_false (by omega))) hn))))))))))))))))))))))))))))))))))))))))))))))))))))))))))))))))))
 exact⟨T1,b1,h1,h2,d0,c2,d7,d8⟩
theorem rwx(x m lc v i:Nat)(la:Option Addr)(SV:Value)(a2:Bool){M:aA}(a1:la.isNone=true->m=0/\lc=0)(a0:(decide ((i:Int)<(m:Int)))=false): ∃T1,Rd Try.prog [] (q29.loopAt 0) Try.f29.ntmps (fr [(4,(pt x 0)),(1,(i64 (v:Int))),(2,(.slice la m lc)),(3,(.bool a2)),(9,SV),(10,(i64 (i:Int)))]) M (.exit 0) T1 M/\ [].map T1.get= []:=by
 exact Rd.told (tb:=[]) (n:=60) (F:=[aP 5,aO 8]) aG aF (aI Try.prog) (fun _ _=>rfl) (by kernel_rfl) (hk (lN a1) (hk (bF a0) hn))
theorem Zs{x sb rb ro rc ac lc n v:Nat}{aa la:Option Addr}{ev uv dv:Value}{es:List E4}{rank:List Int}{arcs:List A7}{up down:List (List Int)}{r:List Int}{M0 M:aA}(b3:qN (⟨n,es,rank,arcs,up,down⟩:IX) (.agg ⟨[i64 n,ev,aC rb ro n rc,.slice aa arcs.length ac,uv,dv]⟩) M0)(hg:GX (⟨n,es,rank,arcs,up,down⟩:IX))(c0:aL rank (aC rb ro n rc) M0)(b0:eN arcs (.slice aa arcs.length ac) M0)(a5:aL r (.slice la r.length lc) M0)(hv:v<n)(hR:Pp (⟨n,es,rank,arcs,up,down⟩:IX) v r)(hM:aB M)(X0:Ext M0 M)(gx:M.get x=some ⟨[i64 n,ev,aC rb ro n rc,.slice aa arcs.length ac,uv,dv],31,6,0,true⟩)(b6:M0.next<=sb)(gs:M.get sb=some ⟨(bR arcs.length r (0)).map Value.bool,4,1,0,true⟩)(a2:x≠sb):
  ∃M',bN Try.prog [] (q29.loopAt 0) Try.f29.ntmps (fr [(4,pt x 0),(1,i64 v),(2,.slice la r.length lc),(3,.bool true),(9,aC sb 0 arcs.length (arcs.length+1)),(10,i64 ((0:Nat):Int))]) M (.exit 0) (fr []) M'/\Ext M0 M'/\aB M':=by
 have hlen:=a5.len
 have b8:=hg.rk.len
 simp only at b8
 have b4:=Go.Am.mD c0 (by omega)
 have a0: ∀(u:Nat) (z:Int),r[u]?=some z->0<=z/\z<(arcs.length:Int):=fun u z hz=>by
  obtain⟨h0,y,hy,_⟩:=hR.all z (List.mem_of_getElem? hz)
  have:=(List.getElem?_eq_some_iff.1 hy).1
  simp only at this
  omega
 obtain⟨_,M',k1,k2,k3,_⟩:=bN.for (P:=Try.prog) (GL:= []) (b:=q29.loopAt 0) (nt:=Try.f29.ntmps) (id:=0) (σ:=Unit) (n:=r.length) (Inv:=fun i _ M1=>Ext M0 M1/\aB M1/\M1.get x=some ⟨[i64 n,ev,aC rb ro n rc,.slice aa arcs.length ac,uv,dv],31,6,0,true⟩/\M1.get sb=some ⟨(bR arcs.length r (i)).map Value.bool,4,1,0,true⟩)
  (F:=fun i _=> [(4,pt x 0),(1,i64 v),(2,.slice la r.length lc),(3,.bool true),(9,aC sb 0 arcs.length (arcs.length+1)),(10,i64 ((i:Nat):Int))]) (O:=fun _=> [])
  (by
   rintro i _ M1 hi ⟨X1,a6,a9,a8⟩
   obtain⟨lb,lo,rfl,_⟩:=cF a5 (by omega)
   have ht:r[i]?=some r[i]:=List.getElem?_eq_getElem hi
   have hb:=a0 i _ ht
   obtain⟨ab,ao,rfl,_⟩:=cF b0 (by omega)
   obtain⟨_,y,hy,a1,hP⟩:=hR.all r[i] (List.getElem_mem hi)
   simp only at hy hP
   have l1:=kM (P:=Try.prog) (ty:=3) a5 ht rfl bV
   have l2:=mN (P:=Try.prog) (ty:=42) b0 hy uM lP
   have b2:=Go.Am.mD a5 (by omega)
   have b1:=Go.Am.mD b0 (by omega)
   have e0:0+(r[i]:Int).toNat*1=r[i].toNat:=by omega
   have b9:=iX arcs.length r i
   have b7:r[i].toNat<((bR arcs.length r i).map Value.bool).length:=by rw[List.length_map,b9];omega
   have hf:(bR arcs.length r i)[r[i].toNat]?=some false:=by
    have a7:=List.getElem?_eq_getElem (show r[i].toNat<(bR arcs.length r i).length by omega)
    rw[a7]
    cases hq:(bR arcs.length r i)[r[i].toNat] with
    |false=>rfl
    |true=>
     rw[hq] at a7
     obtain⟨u,hu,b5⟩:=(tQ (fun u z hz=> .inr (a0 u z hz)) i r[i].toNat (by omega)).1 a7
     rw[Int.toNat_of_nonneg hb.1,<-ht] at b5
     have:=(List.getElem?_inj (by omega) hR.nd).1 b5
     omega
   have done:(∃T1 M2,Rd Try.prog [] (q29.loopAt 0) Try.f29.ntmps (fr [(4,pt x 0),(1,i64 v),(2,.slice (some ⟨lb,lo,none⟩) r.length lc),(3,.bool true),(9,aC sb 0 arcs.length (arcs.length+1)),(10,i64 i)]) M1 .normal T1 M2/\ [4,1,2,3,9,10].map T1.get= [some (pt x 0),some (i64 v),some (aC lb lo r.length lc),some (.bool true),some (aC sb 0 arcs.length (arcs.length+1)),some (i64 (IntKind.wrap .i64 ((i:Int)+(1:Int))))]/\Ext M0 M2/\aB M2/\M2.get x=some ⟨[i64 n,ev,aC rb ro n rc,.slice (some ⟨ab,ao,none⟩) arcs.length ac,uv,dv],31,6,0,true⟩/\M2.get sb=some ⟨splice ((bR arcs.length r i).map Value.bool) (0+(r[i]:Int).toNat*1) [.bool true],4,1,0,true⟩):=by
    obtain⟨a4,a3⟩:=hP
    by_cases hyt:y.t=(v:Int)
    ·exact rwu0 x sb rb ro rc ab ao arcs.length ac lb lo r.length lc n v i ev uv dv es rank arcs up down ((bR arcs.length r i).map Value.bool) r[i] y false a6 X1 b1 b2 b4 a9 a8 b6 a2 b3 hg hb hv a1 a4 a3 (decide_eq_true (by omega)) rfl (by rw[hyt];exact beq_self_eq_true _) (by rw[Int.toNat_natCast];exact l1) (by rw[e0,List.getElem?_map,hf];rfl) (by omega) l2
    ·exact rwu1 x sb rb ro rc ab ao arcs.length ac lb lo r.length lc n v i ev uv dv es rank arcs up down ((bR arcs.length r i).map Value.bool) r[i] y false a6 X1 b1 b2 b4 a9 a8 b6 a2 b3 hg hb hv a1 a4 a3 (decide_eq_true (by omega)) rfl (beq_eq_false_iff_ne.2 hyt) (by rw[Int.toNat_natCast];exact l1) (by rw[e0,List.getElem?_map,hf];rfl) (by omega) l2
   obtain⟨T1,M2,q1,q2,q3,q4,q5,q6⟩:=done
   rw[aX (by omega)] at q2
   refine⟨(),T1,M2,q1,q2,q3,q4,q5,?_⟩
   rw[q6,e0,fN _ _ _ b7]
   conv=>rhs;unfold bR;rw[ht]
   simp only
   rw[if_neg (by omega),List.map_set])
  (by
   rintro _ M1 ⟨X1,a6,a9,a8⟩
   exact rwx x r.length lc v r.length la (aC sb 0 arcs.length (arcs.length+1)) true (M:=M1) a5.ln (decide_eq_false (by omega)))
  r.length 0 (by omega) (s:=()) (M:=M) ⟨X0,hM,gx,gs⟩
 exact⟨M',k1,k2,k3⟩
theorem Zr{x sb rb ro rc ac lc n v:Nat}{aa la:Option Addr}{ev uv dv:Value}{es:List E4}{rank:List Int}{arcs:List A7}{up down:List (List Int)}{r:List Int}{M0 M:aA}(b8:qN (⟨n,es,rank,arcs,up,down⟩:IX) (.agg ⟨[i64 n,ev,aC rb ro n rc,.slice aa arcs.length ac,uv,dv]⟩) M0)(hg:GX (⟨n,es,rank,arcs,up,down⟩:IX))(b3:aL rank (aC rb ro n rc) M0)(a7:eN arcs (.slice aa arcs.length ac) M0)(a2:aL r (.slice la r.length lc) M0)(hv:v<n)(hR:Po (⟨n,es,rank,arcs,up,down⟩:IX) v r)(hM:aB M)(X0:Ext M0 M)(gx:M.get x=some ⟨[i64 n,ev,aC rb ro n rc,.slice aa arcs.length ac,uv,dv],31,6,0,true⟩)(c2:M0.next<=sb)(gs:M.get sb=some ⟨(bR arcs.length r (0)).map Value.bool,4,1,0,true⟩)(a3:x≠sb):
  ∃M',bN Try.prog [] (q29.loopAt 0) Try.f29.ntmps (fr [(4,pt x 0),(1,i64 v),(2,.slice la r.length lc),(3,.bool false),(9,aC sb 0 arcs.length (arcs.length+1)),(10,i64 ((0:Nat):Int))]) M (.exit 0) (fr []) M'/\Ext M0 M'/\aB M':=by
 have hlen:=a2.len
 have a9:=hg.rk.len
 simp only at a9
 have b9:=Go.Am.mD b3 (by omega)
 have a0: ∀(u:Nat) (z:Int),r[u]?=some z->0<=z/\z<(arcs.length:Int):=fun u z hz=>by
  obtain⟨h0,y,hy,_⟩:=hR.all z (List.mem_of_getElem? hz)
  have:=(List.getElem?_eq_some_iff.1 hy).1
  simp only at this
  omega
 obtain⟨_,M',k1,k2,k3,_⟩:=bN.for (P:=Try.prog) (GL:= []) (b:=q29.loopAt 0) (nt:=Try.f29.ntmps) (id:=0) (σ:=Unit) (n:=r.length) (Inv:=fun i _ M1=>Ext M0 M1/\aB M1/\M1.get x=some ⟨[i64 n,ev,aC rb ro n rc,.slice aa arcs.length ac,uv,dv],31,6,0,true⟩/\M1.get sb=some ⟨(bR arcs.length r (i)).map Value.bool,4,1,0,true⟩)
  (F:=fun i _=> [(4,pt x 0),(1,i64 v),(2,.slice la r.length lc),(3,.bool false),(9,aC sb 0 arcs.length (arcs.length+1)),(10,i64 ((i:Nat):Int))]) (O:=fun _=> [])
  (by
   rintro i _ M1 hi ⟨X1,a8,b2,b0⟩
   obtain⟨lb,lo,rfl,_⟩:=cF a2 (by omega)
   have ht:r[i]?=some r[i]:=List.getElem?_eq_getElem hi
   have hb:=a0 i _ ht
   obtain⟨ab,ao,rfl,_⟩:=cF a7 (by omega)
   obtain⟨_,y,hy,a1,hP⟩:=hR.all r[i] (List.getElem_mem hi)
   simp only at hy hP
   have l1:=kM (P:=Try.prog) (ty:=3) a2 ht rfl bV
   have l2:=mN (P:=Try.prog) (ty:=42) a7 hy uM lP
   have l3:=Ic (u:=(v:Int)) b3 a9 (by omega)
   have b6:=Go.Am.mD a2 (by omega)
   have b4:=Go.Am.mD a7 (by omega)
   have e0:0+(r[i]:Int).toNat*1=r[i].toNat:=by omega
   have c1:=iX arcs.length r i
   have b5:r[i].toNat<((bR arcs.length r i).map Value.bool).length:=by rw[List.length_map,c1];omega
   have hf:(bR arcs.length r i)[r[i].toNat]?=some false:=by
    have a6:=List.getElem?_eq_getElem (show r[i].toNat<(bR arcs.length r i).length by omega)
    rw[a6]
    cases hq:(bR arcs.length r i)[r[i].toNat] with
    |false=>rfl
    |true=>
     rw[hq] at a6
     obtain⟨u,hu,b1⟩:=(tQ (fun u z hz=> .inr (a0 u z hz)) i r[i].toNat (by omega)).1 a6
     rw[Int.toNat_of_nonneg hb.1,<-ht] at b1
     have:=(List.getElem?_inj (by omega) hR.nd).1 b1
     omega
   have done:(∃T1 M2,Rd Try.prog [] (q29.loopAt 0) Try.f29.ntmps (fr [(4,pt x 0),(1,i64 v),(2,.slice (some ⟨lb,lo,none⟩) r.length lc),(3,.bool false),(9,aC sb 0 arcs.length (arcs.length+1)),(10,i64 i)]) M1 .normal T1 M2/\ [4,1,2,3,9,10].map T1.get= [some (pt x 0),some (i64 v),some (aC lb lo r.length lc),some (.bool false),some (aC sb 0 arcs.length (arcs.length+1)),some (i64 (IntKind.wrap .i64 ((i:Int)+(1:Int))))]/\Ext M0 M2/\aB M2/\M2.get x=some ⟨[i64 n,ev,aC rb ro n rc,.slice (some ⟨ab,ao,none⟩) arcs.length ac,uv,dv],31,6,0,true⟩/\M2.get sb=some ⟨splice ((bR arcs.length r i).map Value.bool) (0+(r[i]:Int).toNat*1) [.bool true],4,1,0,true⟩):=by
    obtain⟨a5,b7,c0,a4⟩:=hP
    exact rwd0 x sb rb ro rc ab ao arcs.length ac lb lo r.length lc n v i ev uv dv es rank arcs up down ((bR arcs.length r i).map Value.bool) r[i] y false a8 X1 b4 b6 b9 b2 b0 c2 a3 b8 hg hb hv a1 a5 b7 c0 a4 (decide_eq_true (by omega)) rfl (by rw[Int.toNat_natCast];exact l1) (by rw[e0,List.getElem?_map,hf];rfl) (by omega) l2 l3
   obtain⟨T1,M2,q1,q2,q3,q4,q5,q6⟩:=done
   rw[aX (by omega)] at q2
   refine⟨(),T1,M2,q1,q2,q3,q4,q5,?_⟩
   rw[q6,e0,fN _ _ _ b5]
   conv=>rhs;unfold bR;rw[ht]
   simp only
   rw[if_neg (by omega),List.map_set])
  (by
   rintro _ M1 ⟨X1,a8,b2,b0⟩
   exact rwx x r.length lc v r.length la (aC sb 0 arcs.length (arcs.length+1)) false (M:=M1) a2.ln (decide_eq_false (by omega)))
  r.length 0 (by omega) (s:=()) (M:=M) ⟨X0,hM,gx,gs⟩
 exact⟨M',k1,k2,k3⟩
theorem rK29:Try.f29.results= #[.tmp 8]:=by kernel_rfl
theorem w29u(n:Nat)(ea:Option Addr)(ec rb ro rc:Nat)(aa:Option Addr)(ac ub uc db dc:Nat)(es:List E4)(rank:List Int)(arcs:List A7)(up down:List (List Int))(v:Nat)(la:Option Addr)(lc:Nat)(r:List Int){M:aA}(hM:aB M)(c2:aU es (.slice ea es.length ec) M)(b3:aL rank (aC rb ro n rc) M)(b0:eN arcs (.slice aa arcs.length ac) M)(c4:bC up (aC ub 0 n uc) M)(c1:bC down (aC db 0 n dc) M)(hg:GX ⟨n,es,rank,arcs,up,down⟩)(c3:aL r (.slice la r.length lc) M)(hv:v<n)(hR:Pp (⟨n,es,rank,arcs,up,down⟩:IX) v r): ∃v_ M',Ev Try.prog [] 29 [.agg ⟨[i64 (n:Int),.slice ea es.length ec,aC rb ro n rc,.slice aa arcs.length ac,aC ub 0 n uc,aC db 0 n dc]⟩,i64 v,.slice la r.length lc,.bool true] M v_ M'/\Ext M M'/\aB M'/\v_= .bool true:=by
 obtain⟨b1,M2,b6,b7,g5,E6,c0⟩:=bE hM ⟨[i64 (n:Int),.slice ea es.length ec,aC rb ro n rc,.slice aa arcs.length ac,aC ub 0 n uc,aC db 0 n dc],31,6,0,true⟩
 have X9:=(Ext.refl M).trans E6
 obtain⟨a4,a2,a1,a5,b8,b2,a7⟩:=sJ (P:=Try.prog) (t:=35) (elem:=4) (z:=(.bool false)) (n:=arcs.length) c0 (by kernel_rfl) (by kernel_rfl) (by have:=hg.al;simp only at this;omega)
 have a9:=mG a1 X9
 have a0:=fL g5 a1
 have b9:=b2.old g5
 have b4:=X9.trans b2
 obtain⟨a3,a6,b5,a8⟩:=Zs ⟨_,_,_,_,_,rfl,c2,b3,b0,c4,c1⟩ hg b3 b0 c3 hv hR a7 b4 b9 a9 (by rw[show(bR arcs.length r 0).map Value.bool=List.replicate arcs.length (Value.bool false) from by simp [bR]];exact b8) a0
 exact⟨.bool true,a3,Ev.told_tmp (tb:=[0]) (n:=60) (F:=[bK 1 (pt b1 0) M2,aR 7 (.slice aa arcs.length ac),aP 9,bK 11 (aC a4 0 arcs.length (arcs.length+1)) a2,.blk 16 [4,1,2,3,9,10] .normal (fr []) a3]) aG aF Try.func29 Tw (by kernel_rfl) rK29 (fun B=>zJ (gS B) 0 a6) (fun _ h=>cD h) (by kernel_rfl) (hq (.eq (eL Try.prog 31 (.agg ⟨[i64 (n:Int),.slice ea es.length ec,aC rb ro n rc,.slice aa arcs.length ac,aC ub 0 n uc,aC db 0 n dc]⟩) M) (1,.val (pt b1 0),M2)) (bP (by rw[<-b6,<-b7];kernel_rfl) Nat.one_ne_zero) (hk (lO 3 kK g5 rfl) (hk (lN b0.ln) (hq (.eq (bU Try.prog 35 (i64 (arcs.length:Int)) (i64 (arcs.length:Int)) M2) (1,.val (aC a4 0 arcs.length (arcs.length+1)),a2)) (bP a5 Nat.one_ne_zero) (hq (.blk 0 (.loop (q29.loopAt 0)) Try.f29.ntmps [4,1,2,3,9,10] [some (pt b1 0),some (i64 (v:Int)),some (.slice la r.length lc),some (.bool true),some (aC a4 0 arcs.length (arcs.length+1)),some (i64 0)] a2 .normal (fr []) a3) (fP rfl) hn))))),b5,a8,rfl⟩
theorem w29d(n:Nat)(ea:Option Addr)(ec rb ro rc:Nat)(aa:Option Addr)(ac ub uc db dc:Nat)(es:List E4)(rank:List Int)(arcs:List A7)(up down:List (List Int))(v:Nat)(la:Option Addr)(lc:Nat)(r:List Int){M:aA}(hM:aB M)(c2:aU es (.slice ea es.length ec) M)(b3:aL rank (aC rb ro n rc) M)(b0:eN arcs (.slice aa arcs.length ac) M)(c4:bC up (aC ub 0 n uc) M)(c1:bC down (aC db 0 n dc) M)(hg:GX ⟨n,es,rank,arcs,up,down⟩)(c3:aL r (.slice la r.length lc) M)(hv:v<n)(hR:Po (⟨n,es,rank,arcs,up,down⟩:IX) v r): ∃v_ M',Ev Try.prog [] 29 [.agg ⟨[i64 (n:Int),.slice ea es.length ec,aC rb ro n rc,.slice aa arcs.length ac,aC ub 0 n uc,aC db 0 n dc]⟩,i64 v,.slice la r.length lc,.bool false] M v_ M'/\Ext M M'/\aB M'/\v_= .bool true:=by
 obtain⟨b1,M2,b6,b7,g5,E6,c0⟩:=bE hM ⟨[i64 (n:Int),.slice ea es.length ec,aC rb ro n rc,.slice aa arcs.length ac,aC ub 0 n uc,aC db 0 n dc],31,6,0,true⟩
 have X9:=(Ext.refl M).trans E6
 obtain⟨a4,a2,a1,a5,b8,b2,a7⟩:=sJ (P:=Try.prog) (t:=35) (elem:=4) (z:=(.bool false)) (n:=arcs.length) c0 (by kernel_rfl) (by kernel_rfl) (by have:=hg.al;simp only at this;omega)
 have a9:=mG a1 X9
 have a0:=fL g5 a1
 have b9:=b2.old g5
 have b4:=X9.trans b2
 obtain⟨a3,a6,b5,a8⟩:=Zr ⟨_,_,_,_,_,rfl,c2,b3,b0,c4,c1⟩ hg b3 b0 c3 hv hR a7 b4 b9 a9 (by rw[show(bR arcs.length r 0).map Value.bool=List.replicate arcs.length (Value.bool false) from by simp [bR]];exact b8) a0
 exact⟨.bool true,a3,Ev.told_tmp (tb:=[0]) (n:=60) (F:=[bK 1 (pt b1 0) M2,aR 7 (.slice aa arcs.length ac),aP 9,bK 11 (aC a4 0 arcs.length (arcs.length+1)) a2,.blk 16 [4,1,2,3,9,10] .normal (fr []) a3]) aG aF Try.func29 Tw (by kernel_rfl) rK29 (fun B=>zJ (gS B) 0 a6) (fun _ h=>cD h) (by kernel_rfl) (hq (.eq (eL Try.prog 31 (.agg ⟨[i64 (n:Int),.slice ea es.length ec,aC rb ro n rc,.slice aa arcs.length ac,aC ub 0 n uc,aC db 0 n dc]⟩) M) (1,.val (pt b1 0),M2)) (bP (by rw[<-b6,<-b7];kernel_rfl) Nat.one_ne_zero) (hk (lO 3 kK g5 rfl) (hk (lN b0.ln) (hq (.eq (bU Try.prog 35 (i64 (arcs.length:Int)) (i64 (arcs.length:Int)) M2) (1,.val (aC a4 0 arcs.length (arcs.length+1)),a2)) (bP a5 Nat.one_ne_zero) (hq (.blk 0 (.loop (q29.loopAt 0)) Try.f29.ntmps [4,1,2,3,9,10] [some (pt b1 0),some (i64 (v:Int)),some (.slice la r.length lc),some (.bool false),some (aC a4 0 arcs.length (arcs.length+1)),some (i64 0)] a2 .normal (fr []) a3) (fP rfl) hn))))),b5,a8,rfl⟩
abbrev Q29:=FC (hZ (Vf qN pN aL pB) fun x=>GX x.1/\x.2.1<x.1.n/\(x.2.2.2=true->Pp x.1 x.2.1 x.2.2.1)/\(x.2.2.2=false->Po x.1 x.2.1 x.2.2.1)) (plain pB) (fun _=>true)
theorem Xg{x:IX×Nat×List Int×Bool}{lv:List Value}{M:aA}(hM:aB M)(h:(hZ (Vf qN pN aL pB) fun x:IX×Nat×List Int×Bool=>GX x.1/\x.2.1<x.1.n/\(x.2.2.2=true->Pp x.1 x.2.1 x.2.2.1)/\(x.2.2.2=false->Po x.1 x.2.1 x.2.2.1)) x lv M): ∃v M',lM Try.prog [] 29 Q29 lv M v M':=by
 refine FC.con h ?_
 obtain⟨⟨g0,g1,g2,g3,rfl,k0,k1,k2,k3⟩,hg,hv,hu,hd⟩:=h
 obtain⟨ea,ec,rb,ro,rc,aa,ac,ub,uc,db,dc,rfl,h1,h2,h3,h4,h5⟩:=rP k0 hg
 obtain⟨⟨n,es,rank,arcs,up,down⟩,v,r,b⟩:=x
 obtain rfl:=k1
 obtain rfl:=k3
 obtain⟨la,lc,rfl⟩:=aH.form k2
 simp only at hv hu hd k2
 cases b with
 |true=>
  obtain⟨w,M',q1,q2,_,q3⟩:=w29u n ea ec rb ro rc aa ac ub uc db dc es rank arcs up down v la lc r hM h1 h2 h3 h4 h5 hg k2 hv (hu rfl)
  exact⟨w,M',q1,q2,q3⟩
 |false=>
  obtain⟨w,M',q1,q2,_,q3⟩:=w29d n ea ec rb ro rc aa ac ub uc db dc es rank arcs up down v la lc r hM h1 h2 h3 h4 h5 hg k2 hv (hd rfl)
  exact⟨w,M',q1,q2,q3⟩
theorem rX(x ub uc db dc lc mc n v:Nat)(la ma:Option Addr)(ev rv av:Value)(es:List E4)(rank:List Int)(arcs:List A7)(up down:List (List Int))(r1 r2:List Int){M M0:aA}(hM:aB M)(X0:Ext M0 M)(hub:ub<M0.next)(hdb:db<M0.next)(gx:M.get x=some ⟨[i64 (n:Int),ev,rv,av,aC ub 0 n uc,aC db 0 n dc],31,6,0,true⟩)(a8:qN (⟨n,es,rank,arcs,up,down⟩:IX) (.agg ⟨[i64 n,ev,rv,av,aC ub 0 n uc,aC db 0 n dc]⟩) M0)(hg:GX (⟨n,es,rank,arcs,up,down⟩:IX))(a9:v<n)(b7:aL r1 (.slice la r1.length lc) M0)(b8:aL r2 (.slice ma r2.length mc) M0)(hU:Pp (⟨n,es,rank,arcs,up,down⟩:IX) v r1)(hD:Po (⟨n,es,rank,arcs,up,down⟩:IX) v r2)(b2:(decide ((v:Int)<(n:Int)))=true)(a5:bI Try.prog 22 ⟨ub,0+((v:Int):Int).toNat*1,none⟩ M0=some (.slice la r1.length lc))(a6:bI Try.prog 22 ⟨db,0+((v:Int):Int).toNat*1,none⟩ M0=some (.slice ma r2.length mc)): ∃T1 M',Rd Try.prog [] (q12.loopAt 0) Try.f12.ntmps (fr [(1,(pt x 0)),(3,(i64 (v:Int)))]) M .normal T1 M'/\ [1,3].map T1.get= [some (pt x 0),some (i64 (IntKind.wrap .i64 ((v:Int)+(1:Int))))]/\Ext M0 M'/\aB M'/\M'.get x=some ⟨[i64 (n:Int),ev,rv,av,aC ub 0 n uc,aC db 0 n dc],31,6,0,true⟩:=by
 obtain⟨w1,N2,M3,p4,l5,e6,E7,b6,F9⟩:=aM (x:=((⟨n,es,rank,arcs,up,down⟩:IX),v,r1,true)) hM Xg (⟨⟨_,_,_,_,rfl,AP.Ext (R:=qN) a8 X0,rfl,AP.Ext (R:=aL) b7 X0,rfl⟩,hg,a9,fun _=>hU,fun h=>by cases h⟩)
 have a3:=E7.old gx
 have b4:w1=(.bool true):=F9
 subst b4
 have a0:=X0.trans E7
 obtain⟨Rg,c1,a1,c0,b9,b3,a7,a4,b0⟩:=aM (x:=((⟨n,es,rank,arcs,up,down⟩:IX),v,r2,false)) b6 Xg (⟨⟨_,_,_,_,rfl,AP.Ext (R:=qN) a8 a0,rfl,AP.Ext (R:=aL) b8 a0,rfl⟩,hg,a9,fun h=>(by cases h),fun _=>hD⟩)
 have b5:=a7.old a3
 have a2:Rg=(.bool true):=b0
 subst a2
 have b1:=a0.trans a7
 obtain⟨T1,h1,h2⟩:=Rd.told (tb:=[]) (n:=200) (F:=[aR 7 (i64 (n:Int)),aP 10,aR 12 (.agg ⟨[i64 (n:Int),ev,rv,av,aC ub 0 n uc,aC db 0 n dc]⟩),aR 18 (aC ub 0 n uc),aP 22,aR 24 (.slice la r1.length lc),bK 26 (.bool true) M3,aR 32 (.agg ⟨[i64 (n:Int),ev,rv,av,aC ub 0 n uc,aC db 0 n dc]⟩),aR 38 (aC db 0 n dc),aP 42,aR 44 (.slice ma r2.length mc),bK 46 (.bool true) a1]) aG aF (fun B=>lQ (gP 29 Q29 (gS _))) (fun _ _=>rfl) (by kernel_rfl) (hk (lO 0 bV gx rfl) (hk (bT b2) (hq (qL 31 x 0 M (.agg ⟨[i64 (n:Int),ev,rv,av,aC ub 0 n uc,aC db 0 n dc]⟩)) (lA ⟨yT,uN⟩ gx rfl) (hk (lO 4 yU gx rfl) (hk (qI (v:Int) n (by omega) (by omega)) (hk (lD (aS X0 a5)) (hq (qC 29 [.agg ⟨[i64 (n:Int),ev,rv,av,aC ub 0 n uc,aC db 0 n dc]⟩,i64 (v:Int),.slice la r1.length lc,.bool true] M (.bool true) M3) (aJ rfl p4 l5 e6) (hq (qL 31 x 0 M3 (.agg ⟨[i64 (n:Int),ev,rv,av,aC ub 0 n uc,aC db 0 n dc]⟩)) (lA ⟨yT,uN⟩ a3 rfl) (hk (lO 5 yU a3 rfl) (hk (qI (v:Int) n (by omega) (by omega)) (hk (lD (aS a0 a6)) (hq (qC 29 [.agg ⟨[i64 (n:Int),ev,rv,av,aC ub 0 n uc,aC db 0 n dc]⟩,i64 (v:Int),.slice ma r2.length mc,.bool false] M3 (.bool true) a1) (aJ rfl c0 b9 b3) hn))))))))))))
 exact⟨T1,a1,h1,h2,b1,a4,b5⟩
theorem rXx(x ub uc db dc n v:Nat)(ev rv av:Value){M:aA}(gx:M.get x=some ⟨[i64 (n:Int),ev,rv,av,aC ub 0 n uc,aC db 0 n dc],31,6,0,true⟩)(a0:(decide ((v:Int)<(n:Int)))=false): ∃T1,Rd Try.prog [] (q12.loopAt 0) Try.f12.ntmps (fr [(1,(pt x 0)),(3,(i64 (v:Int)))]) M (.exit 0) T1 M/\ [].map T1.get= []:=by
 exact Rd.told (tb:=[]) (n:=60) (F:=[aR 7 (i64 (n:Int)),aO 10]) aG aF (aI Try.prog) (fun _ _=>rfl) (by kernel_rfl) (hk (lO 0 bV gx rfl) (hk (bF a0) hn))
theorem Xx{x ub uc db dc n:Nat}{ev rv av:Value}{es:List E4}{rank:List Int}{arcs:List A7}{up down:List (List Int)}{M0 M:aA}(a7:qN (⟨n,es,rank,arcs,up,down⟩:IX) (.agg ⟨[i64 n,ev,rv,av,aC ub 0 n uc,aC db 0 n dc]⟩) M0)(hg:GX (⟨n,es,rank,arcs,up,down⟩:IX))(a4:bC up (aC ub 0 n uc) M0)(a3:bC down (aC db 0 n dc) M0)(hM:aB M)(X0:Ext M0 M)(gx:M.get x=some ⟨[i64 n,ev,rv,av,aC ub 0 n uc,aC db 0 n dc],31,6,0,true⟩):
  ∃M',bN Try.prog [] (q12.loopAt 0) Try.f12.ntmps (fr [(1,pt x 0),(3,i64 ((0:Nat):Int))]) M (.exit 0) (fr []) M'/\Ext M0 M'/\aB M':=by
 have a9:=hg.ul
 have a6:=hg.dl
 have a0:=(fX hg.ck).2.1
 simp only at a9 a6 a0
 have a8:ub<M0.next:=by obtain⟨E,c,blk,e1,e2,_⟩:=a4;simp only [Value.slice.injEq,Option.some.injEq,Addr.mk.injEq,and_true] at e1;rw[e1.1];exact aA.lt_of_get e2
 have a5:db<M0.next:=by obtain⟨E,c,blk,e1,e2,_⟩:=a3;simp only [Value.slice.injEq,Option.some.injEq,Addr.mk.injEq,and_true] at e1;rw[e1.1];exact aA.lt_of_get e2
 obtain⟨_,M',k1,k2,k3,_⟩:=bN.for (P:=Try.prog) (GL:= []) (b:=q12.loopAt 0) (nt:=Try.f12.ntmps) (id:=0) (σ:=Unit) (n:=n) (Inv:=fun i _ M1=>Ext M0 M1/\aB M1/\M1.get x=some ⟨[i64 n,ev,rv,av,aC ub 0 n uc,aC db 0 n dc],31,6,0,true⟩)
  (F:=fun i _=> [(1,pt x 0),(3,i64 ((i:Nat):Int))]) (O:=fun _=> [])
  (by
   rintro v _ M1 hv ⟨X1,a2,a1⟩
   have hu:up[v]?=some up[v]:=List.getElem?_eq_getElem (by omega)
   have hd:down[v]?=some down[v]:=List.getElem?_eq_getElem (by omega)
   obtain⟨la,lc,l1,p1⟩:=De (P:=Try.prog) (ty:=22) a4 hu jU
   obtain⟨ma,mc,l2,p2⟩:=De (P:=Try.prog) (ty:=22) a3 hd jU
   obtain⟨T1,M2,q1,q2,q3,q4,q5⟩:=rX x ub uc db dc lc mc n v la ma ev rv av es rank arcs up down up[v] down[v] a2 X1 a8 a5 a1 a7 hg hv p1 p2 (hg.up v _ hu) (hg.dn v _ hd) (decide_eq_true (by omega)) (by rw[Int.toNat_natCast];exact l1) (by rw[Int.toNat_natCast];exact l2)
   rw[aX (by omega)] at q2
   exact⟨(),T1,M2,q1,q2,q3,q4,q5⟩)
  (by
   rintro _ M1 ⟨X1,a2,a1⟩
   exact rXx x ub uc db dc n n ev rv av (M:=M1) a1 (decide_eq_false (by omega)))
  n 0 (by omega) (s:=()) (M:=M) ⟨X0,hM,gx⟩
 exact⟨M',k1,k2,k3⟩
theorem rK12:Try.f12.results= #[.tmp 2]:=by kernel_rfl
theorem w12p(n:Nat)(ea:Option Addr)(ec rb ro rc:Nat)(aa:Option Addr)(ac ub uc db dc:Nat)(es:List E4)(rank:List Int)(arcs:List A7)(up down:List (List Int)){M:aA}(hM:aB M)(e6:aU es (.slice ea es.length ec) M)(prk:aL rank (aC rb ro n rc) M)(c6:eN arcs (.slice aa arcs.length ac) M)(e7:bC up (aC ub 0 n uc) M)(e5:bC down (aC db 0 n dc) M)(hg:GX ⟨n,es,rank,arcs,up,down⟩)(hal:arcs.length<=300000)(hz:0<arcs.length)(b7:qN (⟨n,es,rank,arcs,up,down⟩:IX) (.agg ⟨[i64 (n:Int),.slice ea es.length ec,aC rb ro n rc,.slice aa arcs.length ac,aC ub 0 n uc,aC db 0 n dc]⟩) M): ∃v_ M',Ev Try.prog [] 12 [.agg ⟨[i64 (n:Int),.slice ea es.length ec,aC rb ro n rc,.slice aa arcs.length ac,aC ub 0 n uc,aC db 0 n dc]⟩] M v_ M'/\Ext M M'/\aB M'/\v_= .bool true:=by
 obtain⟨b1,M2,d5,d6,g5,E6,d8⟩:=bE hM ⟨[i64 (n:Int),.slice ea es.length ec,aC rb ro n rc,.slice aa arcs.length ac,aC ub 0 n uc,aC db 0 n dc],31,6,0,true⟩
 have X9:=(Ext.refl M).trans E6
 obtain⟨e8,f1,a4,e2,d9,d2,b8,b3,c7⟩:=aM (x:=(n,es)) d8 Xe (⟨⟨_,rfl,_,rfl,AP.Ext (R:=aU) e6 X9⟩,hg.ck⟩)
 have c5:=b8.old g5
 have a9:e8=(.bool true):=c7
 subst a9
 have c2:=X9.trans b8
 obtain⟨e9,f2,a0,e3,e0,d3,b9,b4,c8⟩:=aM (x:=(⟨n,es,rank,arcs,up,down⟩:IX)) b3 Xf (⟨⟨_,rfl,AP.Ext (R:=qN) b7 c2⟩,hg⟩)
 have a6:=b9.old c5
 have b0:e9=(.bool true):=c8
 subst b0
 have c3:=c2.trans b9
 obtain⟨f0,f4,a5,e4,e1,d4,c0,b5,c9⟩:=aM (x:=(⟨n,es,rank,arcs,up,down⟩:IX)) b4 con28 (⟨⟨_,rfl,AP.Ext (R:=qN) b7 c3⟩,hg⟩)
 have d7:=c0.old a6
 have c1:aL (fJ arcs arcs.length) f0 (cK [(0,a0.next)] a5):=lY c9
 obtain⟨f5,c4,a2⟩:=aH.form c1
 rw[gA] at a2
 subst a2
 obtain⟨a1,a3,a8,_⟩:=cF c1 (by rw[gA];omega)
 subst a8
 have d0:=c3.trans c0
 obtain⟨a7,b2,d1,b6⟩:=Xx b7 hg e7 e5 b5 d0 d7
 exact⟨.bool true,a7,Ev.told_tmp (tb:=[0]) (n:=100) (F:=[bK 1 (pt b1 0) M2,aR 7 (.agg ⟨[i64 (n:Int),.slice ea es.length ec]⟩),bK 9 (.bool true) a4,aR 15 (.agg ⟨[i64 (n:Int),.slice ea es.length ec,aC rb ro n rc,.slice aa arcs.length ac,aC ub 0 n uc,aC db 0 n dc]⟩),bK 17 (.bool true) a0,aR 27 (.slice aa arcs.length ac),aP 29,aO 36,aO 38,aR 39 (.slice aa arcs.length ac),aO 40,aP 41,aO 42,aO 44,aP 46,aR 47 (.agg ⟨[i64 (n:Int),.slice ea es.length ec,aC rb ro n rc,.slice aa arcs.length ac,aC ub 0 n uc,aC db 0 n dc]⟩),aP 48,bK 49 (aC a1 a3 arcs.length c4) a5,aP 50,aO 52,aP 53,aO 55,.blk 59 [1,3] .normal (fr []) a7]) aG aF Try.func12 Tu (by kernel_rfl) rK12 (fun B=>zJ (gP 26 Q26 (gP 27 Q27 (gP 28 Q28 (gS _)))) 0 b2) (fun _ h=>cD h) (by kernel_rfl) (hq (.eq (eL Try.prog 31 (.agg ⟨[i64 (n:Int),.slice ea es.length ec,aC rb ro n rc,.slice aa arcs.length ac,aC ub 0 n uc,aC db 0 n dc]⟩) M) (1,.val (pt b1 0),M2)) (bP (by rw[<-d5,<-d6];kernel_rfl) Nat.one_ne_zero) (hq (qL 26 b1 0 M2 (.agg ⟨[i64 (n:Int),.slice ea es.length ec]⟩)) (lA ⟨Aw,vO⟩ g5 rfl) (hq (qC 26 [.agg ⟨[i64 (n:Int),.slice ea es.length ec]⟩] M2 (.bool true) a4) (aJ rfl e2 d9 d2) (hq (qL 31 b1 0 a4 (.agg ⟨[i64 (n:Int),.slice ea es.length ec,aC rb ro n rc,.slice aa arcs.length ac,aC ub 0 n uc,aC db 0 n dc]⟩)) (lA ⟨yT,uN⟩ c5 rfl) (hq (qC 27 [.agg ⟨[i64 (n:Int),.slice ea es.length ec,aC rb ro n rc,.slice aa arcs.length ac,aC ub 0 n uc,aC db 0 n dc]⟩] a4 (.bool true) a0) (aJ rfl e3 e0 d3) (hk (lO 3 kK a6 rfl) (hk (lN c6.ln) (hk (bF (x:=decide ((arcs.length:Int)>(300000:Int))) (decide_eq_false (by omega))) (hk (bF (x:=decide ((arcs.length:Int)>(300000:Int))) (decide_eq_false (by omega))) (hk (lO 3 kK a6 rfl) (hk (bF (x:=decide ((arcs.length:Int)>(300000:Int))) (decide_eq_false (by omega))) (hk (lN c6.ln) (hk (bF (x:=decide ((arcs.length:Int)>(300000:Int))) (decide_eq_false (by omega))) (hk (bF (x:=decide ((arcs.length:Int)>(300000:Int))) (decide_eq_false (by omega))) (hk (bT (x:=decide ((arcs.length:Int)>(0:Int))) (decide_eq_true (by omega))) (hq (qL 31 b1 0 a0 (.agg ⟨[i64 (n:Int),.slice ea es.length ec,aC rb ro n rc,.slice aa arcs.length ac,aC ub 0 n uc,aC db 0 n dc]⟩)) (lA ⟨yT,uN⟩ a6 rfl) (hk (bT (x:=decide ((arcs.length:Int)>(0:Int))) (decide_eq_true (by omega))) (hq (qC 28 [.agg ⟨[i64 (n:Int),.slice ea es.length ec,aC rb ro n rc,.slice aa arcs.length ac,aC ub 0 n uc,aC db 0 n dc]⟩] a0 (aC a1 a3 arcs.length c4) a5) (aJ rfl e4 e1 d4) (hk (bT (x:=decide ((arcs.length:Int)>(0:Int))) (decide_eq_true (by omega))) (hk (bF (x:=decide ((arcs.length:Int)>(300000:Int))) (decide_eq_false (by omega))) (hk (bT (x:=decide ((arcs.length:Int)>(0:Int))) (decide_eq_true (by omega))) (hk (bF (x:=decide ((arcs.length:Int)>(300000:Int))) (decide_eq_false (by omega))) (hq (.blk 0 (.loop (q12.loopAt 0)) Try.f12.ntmps [1,3] [some (pt b1 0),some (i64 0)] a5 .normal (fr []) a7) (fP rfl) hn))))))))))))))))))))))),d1,b6,rfl⟩
theorem w12z(n:Nat)(ea:Option Addr)(ec rb ro rc:Nat)(aa:Option Addr)(ac ub uc db dc:Nat)(es:List E4)(rank:List Int)(arcs:List A7)(up down:List (List Int)){M:aA}(hM:aB M)(d1:aU es (.slice ea es.length ec) M)(prk:aL rank (aC rb ro n rc) M)(b6:eN arcs (.slice aa arcs.length ac) M)(d2:bC up (aC ub 0 n uc) M)(d0:bC down (aC db 0 n dc) M)(hg:GX ⟨n,es,rank,arcs,up,down⟩)(hal:arcs.length<=300000)(hz:arcs.length=0)(b5:qN (⟨n,es,rank,arcs,up,down⟩:IX) (.agg ⟨[i64 (n:Int),.slice ea es.length ec,aC rb ro n rc,.slice aa arcs.length ac,aC ub 0 n uc,aC db 0 n dc]⟩) M): ∃v_ M',Ev Try.prog [] 12 [.agg ⟨[i64 (n:Int),.slice ea es.length ec,aC rb ro n rc,.slice aa arcs.length ac,aC ub 0 n uc,aC db 0 n dc]⟩] M v_ M'/\Ext M M'/\aB M'/\v_= .bool true:=by
 obtain⟨b1,M2,c3,c4,g5,E6,c5⟩:=bE hM ⟨[i64 (n:Int),.slice ea es.length ec,aC rb ro n rc,.slice aa arcs.length ac,aC ub 0 n uc,aC db 0 n dc],31,6,0,true⟩
 have X9:=(Ext.refl M).trans E6
 obtain⟨d3,d5,a0,c8,c6,c1,b0,a7,b7⟩:=aM (x:=(n,es)) c5 Xe (⟨⟨_,rfl,_,rfl,AP.Ext (R:=aU) d1 X9⟩,hg.ck⟩)
 have b4:=b0.old g5
 have a3:d3=(.bool true):=b7
 subst a3
 have b3:=X9.trans b0
 obtain⟨d4,d6,a1,c9,c7,c2,b2,a8,b8⟩:=aM (x:=(⟨n,es,rank,arcs,up,down⟩:IX)) a7 Xf (⟨⟨_,rfl,AP.Ext (R:=qN) b5 b3⟩,hg⟩)
 have a5:=b2.old b4
 have a4:d4=(.bool true):=b8
 subst a4
 have b9:=b3.trans b2
 obtain⟨a2,a6,c0,a9⟩:=Xx b5 hg d2 d0 a8 b9 a5
 exact⟨.bool true,a2,Ev.told_tmp (tb:=[0]) (n:=100) (F:=[bK 1 (pt b1 0) M2,aR 7 (.agg ⟨[i64 (n:Int),.slice ea es.length ec]⟩),bK 9 (.bool true) a0,aR 15 (.agg ⟨[i64 (n:Int),.slice ea es.length ec,aC rb ro n rc,.slice aa arcs.length ac,aC ub 0 n uc,aC db 0 n dc]⟩),bK 17 (.bool true) a1,aR 27 (.slice aa arcs.length ac),aP 29,aO 36,aO 38,aR 39 (.slice aa arcs.length ac),aO 40,aP 41,aO 42,aO 44,aO 46,aO 48,aO 50,aO 52,aO 53,aO 55,.blk 59 [1,3] .normal (fr []) a2]) aG aF Try.func12 Tu (by kernel_rfl) rK12 (fun B=>zJ (gP 26 Q26 (gP 27 Q27 (gS _))) 0 a6) (fun _ h=>cD h) (by kernel_rfl) (hq (.eq (eL Try.prog 31 (.agg ⟨[i64 (n:Int),.slice ea es.length ec,aC rb ro n rc,.slice aa arcs.length ac,aC ub 0 n uc,aC db 0 n dc]⟩) M) (1,.val (pt b1 0),M2)) (bP (by rw[<-c3,<-c4];kernel_rfl) Nat.one_ne_zero) (hq (qL 26 b1 0 M2 (.agg ⟨[i64 (n:Int),.slice ea es.length ec]⟩)) (lA ⟨Aw,vO⟩ g5 rfl) (hq (qC 26 [.agg ⟨[i64 (n:Int),.slice ea es.length ec]⟩] M2 (.bool true) a0) (aJ rfl c8 c6 c1) (hq (qL 31 b1 0 a0 (.agg ⟨[i64 (n:Int),.slice ea es.length ec,aC rb ro n rc,.slice aa arcs.length ac,aC ub 0 n uc,aC db 0 n dc]⟩)) (lA ⟨yT,uN⟩ b4 rfl) (hq (qC 27 [.agg ⟨[i64 (n:Int),.slice ea es.length ec,aC rb ro n rc,.slice aa arcs.length ac,aC ub 0 n uc,aC db 0 n dc]⟩] a0 (.bool true) a1) (aJ rfl c9 c7 c2) (hk (lO 3 kK a5 rfl) (hk (lN b6.ln) (hk (bF (x:=decide ((arcs.length:Int)>(300000:Int))) (decide_eq_false (by omega))) (hk (bF (x:=decide ((arcs.length:Int)>(300000:Int))) (decide_eq_false (by omega))) (hk (lO 3 kK a5 rfl) (hk (bF (x:=decide ((arcs.length:Int)>(300000:Int))) (decide_eq_false (by omega))) (hk (lN b6.ln) (hk (bF (x:=decide ((arcs.length:Int)>(300000:Int))) (decide_eq_false (by omega))) (hk (bF (x:=decide ((arcs.length:Int)>(300000:Int))) (decide_eq_false (by omega))) (hk (bF (x:=decide ((arcs.length:Int)>(0:Int))) (decide_eq_false (by omega))) (hk (bF (x:=decide ((arcs.length:Int)>(0:Int))) (decide_eq_false (by omega))) (hk (bF (x:=decide ((arcs.length:Int)>(0:Int))) (decide_eq_false (by omega))) (hk (bF (x:=decide ((arcs.length:Int)>(300000:Int))) (decide_eq_false (by omega))) (hk (bF (x:=decide ((arcs.length:Int)>(0:Int))) (decide_eq_false (by omega))) (hk (bF (x:=decide ((arcs.length:Int)>(300000:Int))) (decide_eq_false (by omega))) (hq (.blk 0 (.loop (q12.loopAt 0)) Try.f12.ntmps [1,3] [some (pt b1 0),some (i64 0)] a1 .normal (fr []) a2) (fP rfl) hn))))))))))))))))))))),c0,a9,rfl⟩
abbrev Q12:=FC (hZ (sU qN) GX) (plain pB) (fun _=>true)
theorem con12{x:IX}{lv:List Value}{M:aA}(hM:aB M)(h:(hZ (sU qN) GX) x lv M): ∃v M',lM Try.prog [] 12 Q12 lv M v M':=by
 refine FC.con h ?_
 obtain⟨⟨g0,rfl,k0⟩,hg⟩:=h
 obtain⟨ea,ec,rb,ro,rc,aa,ac,ub,uc,db,dc,rfl,h1,h2,h3,h4,h5⟩:=rP k0 hg
 have a0:=hg.al
 obtain⟨n,es,rank,arcs,up,down⟩:=x
 simp only at a0
 by_cases hz:arcs.length=0
 ·obtain⟨v,M',q1,q2,_,q3⟩:=w12z n ea ec rb ro rc aa ac ub uc db dc es rank arcs up down hM h1 h2 h3 h4 h5 hg a0 hz k0
  exact⟨v,M',q1,q2,q3⟩
 ·obtain⟨v,M',q1,q2,_,q3⟩:=w12p n ea ec rb ro rc aa ac ub uc db dc es rank arcs up down hM h1 h2 h3 h4 h5 hg a0 (by omega) k0
  exact⟨v,M',q1,q2,q3⟩
end Go.Proofs.Ytdaglldahidmbaa
