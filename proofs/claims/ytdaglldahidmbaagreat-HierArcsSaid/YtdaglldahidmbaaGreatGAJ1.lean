/-
  Package hier: each of its laws for every argument; no conditions. The last text states which.
-/
import Derived.Test.YtdaglldahidmbaaGreatGAI1
import Derived.Test.YtdaglldahidmbaaGreatGAmRk
set_option linter.unusedVariables false
set_option linter.unusedSimpArgs false
open Go Go.Am Go.Proofs Tryz
namespace Go.Proofs.YtdaglldahidmbaaGreat
set_option maxRecDepth 100000
theorem rK79:Tryz.f79.results= #[.tmp 4]:=by kernel_rfl
theorem w59j(e:E4)(n:Int){M:aB}(hM:aA M)(hf:0<=e.f/\e.f<n)(ht:0<=e.t/\e.t<n)(hm:0<=e.m/\e.m<5)(hc:0<=e.c/\e.c<=2147483647): ∃v_ M',Ev prog [] 79 [.agg ⟨(cD e)⟩,i64 n] M v_ M'/\Ext M M'/\aA M'/\v_= .bool true:=by
 obtain⟨b1,M2,a0,a1,g5,E6,a2⟩:=bC hM ⟨(cD e),46,4,0,true⟩
 have X9:=(Ext.refl M).trans E6
 exact⟨.bool (decide (e.c<=(2147483647:Int))),M2,Ev.told_tmp (tb:=[]) (n:=60) (F:=[bJ 1 (pt b1 0) M2,aR 7 (i64 e.f),aQ 12,aQ 14,aR 15 (i64 e.f),aQ 16,aQ 18,aQ 21,aQ 24,aQ 26,aR 27 (i64 e.t),aQ 28,aQ 31,aQ 34,aQ 36,aR 37 (i64 e.t),aQ 38,aQ 40,aQ 43,aQ 46,aQ 48,aR 49 (i64 e.m),aQ 50,aQ 53,aQ 56,aQ 58,aR 59 (i64 e.m),aQ 60,aQ 63,aQ 66,aQ 68,aR 69 (i64 e.c),aQ 70,aQ 73,aQ 76,aQ 78,aR 79 (i64 e.c),aQ 80,aQ 83]) aG aF Tryz.func79 aAW (by kernel_rfl) rK79 (aI prog) (fun _ _=>rfl) (by kernel_rfl) (hq (.eq (eI prog 46 (.agg ⟨(cD e)⟩) M) (1,.val (pt b1 0),M2)) (bN (by rw[<-a0,<-a1];kernel_rfl) xAc) (hk (lO 0 bQ g5 rfl) (hk (bT (x:=decide (e.f>=(0:Int))) (xAb (by omega))) (hk (bT (x:=decide (e.f>=(0:Int))) (xAb (by omega))) (hk (lO 0 bQ g5 rfl) (hk (bT (x:=decide (e.f>=(0:Int))) (xAb (by omega))) (hk (bT (x:=decide (e.f>=(0:Int))) (xAb (by omega))) (hk (bT (x:=decide (e.f>=(0:Int))) (xAb (by omega))) (hk (bT (x:=decide (e.f<n)) (xAb (by omega))) (hk (bT (x:=decide (e.f<n)) (xAb (by omega))) (hk (lO 1 bQ g5 rfl) (hk (bT (x:=decide (e.f<n)) (xAb (by omega))) (hk (bT (x:=decide (e.f<n)) (xAb (by omega))) (hk (bT (x:=decide (e.t>=(0:Int))) (xAb (by omega))) (hk (bT (x:=decide (e.t>=(0:Int))) (xAb (by omega))) (hk (lO 1 bQ g5 rfl) (hk (bT (x:=decide (e.t>=(0:Int))) (xAb (by omega))) (hk (bT (x:=decide (e.t>=(0:Int))) (xAb (by omega))) (hk (bT (x:=decide (e.t>=(0:Int))) (xAb (by omega))) (hk (bT (x:=decide (e.t<n)) (xAb (by omega))) (hk (bT (x:=decide (e.t<n)) (xAb (by omega))) (hk (lO 2 bQ g5 rfl) (hk (bT (x:=decide (e.t<n)) (xAb (by omega))) (hk (bT (x:=decide (e.t<n)) (xAb (by omega))) (hk (bT (x:=decide (e.m>=(0:Int))) (xAb (by omega))) (hk (bT (x:=decide (e.m>=(0:Int))) (xAb (by omega))) (hk (lO 2 bQ g5 rfl) (hk (bT (x:=decide (e.m>=(0:Int))) (xAb (by omega))) (hk (bT (x:=decide (e.m>=(0:Int))) (xAb (by omega))) (hk (bT (x:=decide (e.m<(5:Int))) (xAb (by omega))) (hk (bT (x:=decide (e.m<(5:Int))) (xAb (by omega))) (hk (lO 3 bQ g5 rfl) (hk (bT (x:=decide (e.m<(5:Int))) (xAb (by omega))) (hk (bT (x:=decide (e.m<(5:Int))) (xAb (by omega))) (hk (bT (x:=decide (e.c>=(0:Int))) (xAb (by omega))) (hk (bT (x:=decide (e.c>=(0:Int))) (xAb (by omega))) (hk (lO 3 bQ g5 rfl) (hk (bT (x:=decide (e.c>=(0:Int))) (xAb (by omega))) (hk (bT (x:=decide (e.c>=(0:Int))) (xAb (by omega))) hn))))))))))))))))))))))))))))))))))))))),X9,a2,(by show Value.bool _=Value.bool _;rw[xAb (by omega)])⟩
abbrev Q79:=FC (gN (lX pE pI) fun x=>(0<=x.1.f/\x.1.f<x.2)/\(0<=x.1.t/\x.1.t<x.2)/\(0<=x.1.m/\x.1.m<5)/\0<=x.1.c/\x.1.c<=2147483647) (plain pB) (fun _=>true)
theorem con79{x:E4×Int}{lv:List Value}{M:aB}(hM:aA M)(h:(gN (lX pE pI) fun x:E4×Int=>(0<=x.1.f/\x.1.f<x.2)/\(0<=x.1.t/\x.1.t<x.2)/\(0<=x.1.m/\x.1.m<5)/\0<=x.1.c/\x.1.c<=2147483647) x lv M): ∃v M',kR prog [] 79 Q79 lv M v M':=by
 refine FC.con h ?_
 obtain⟨⟨g0,g1,rfl,k0,k1⟩,h1,h2,h3,h4⟩:=h
 obtain⟨e,n⟩:=x
 obtain rfl:=k0
 obtain rfl:=k1
 obtain⟨v,M',q1,q2,_,q3⟩:=w59j e n hM h1 h2 h3 h4
 exact⟨v,M',q1,q2,q3⟩
theorem rj26(q1 ab ao ac k i n:Nat)(x:E4){M M0:aB}(hM:aA M)(X0:Ext M0 M)(hab:ab<M0.next)(a0:M.get q1=some ⟨[i64 n,aC ab ao k ac],26,2,0,true⟩)(a7:0<=x.f/\x.f<(n:Int))(a8:0<=x.t/\x.t<(n:Int))(a9:0<=x.m/\x.m<5)(b0:0<=x.c/\x.c<=2147483647)(a2:(decide ((i:Int)<(k:Int)))=true)(a1:bA prog 46 ⟨ab,ao+((i:Int):Int).toNat*4,none⟩ M0=some (.agg ⟨(cD x)⟩)): ∃T1 M',Rd prog [] (q43.loopAt 0) Tryz.f43.ntmps (fr [(1,(pt q1 0)),(3,(i64 (i:Int)))]) M .normal T1 M'/\ [1,3].map T1.get= [some (pt q1 0),some (i64 (IntKind.wrap .i64 ((i:Int)+(1:Int))))]/\Ext M0 M'/\aA M'/\M'.get q1=some ⟨[i64 (n:Int),aC ab ao k ac],26,2,0,true⟩:=by
 obtain⟨w1,N2,M3,p4,l5,e6,E7,a6,F9⟩:=aL (x:=(x,(n:Int))) hM con79 (⟨⟨_,_,rfl,rfl,rfl⟩,a7,a8,a9,b0⟩)
 have a5:=E7.old a0
 have a4:w1=(.bool true):=F9
 subst a4
 have a3:=X0.trans E7
 obtain⟨T1,h1,h2⟩:=Rd.told (tb:=[]) (n:=80) (F:=[aR 5 (aC ab ao k ac),aQ 10,aR 14 (aC ab ao k ac),aQ 18,aR 20 (.agg ⟨(cD x)⟩),aR 24 (i64 (n:Int)),bJ 26 (.bool true) M3]) aG aF (fun B=>lV (gH 79 Q79 (gL _))) (fun _ _=>rfl) (by kernel_rfl) (hk (lO 1 nL a0 rfl) (hk (bT a2) (hk (lO 1 nL a0 rfl) (hk (qI (i:Int) k (by omega) (by simp at a2;omega)) (hk (lD (aN X0 a1)) (hk (lO 0 bQ a0 rfl) (hq (qC 79 [.agg ⟨(cD x)⟩,i64 (n:Int)] M (.bool true) M3) (aK rfl p4 l5 e6) hn)))))))
 exact⟨T1,M3,h1,h2,a3,a6,a5⟩
theorem rj26x(q1 k ac i n:Nat)(ae:Option Addr){M:aB}(a2:ae.isNone=true->k=0/\ac=0)(a1:M.get q1=some ⟨[i64 n,.slice ae k ac],26,2,0,true⟩)(a0:(decide ((i:Int)<(k:Int)))=false): ∃T1,Rd prog [] (q43.loopAt 0) Tryz.f43.ntmps (fr [(1,(pt q1 0)),(3,(i64 (i:Int)))]) M (.exit 0) T1 M/\ [].map T1.get= []:=by
 exact Rd.told (tb:=[]) (n:=60) (F:=[aR 5 (.slice ae k ac),aQ 7,aO 10]) aG aF (aI prog) (fun _ _=>rfl) (by kernel_rfl) (hk (lO 1 nL a1 rfl) (hk (lN a2) (hk (bF a0) hn)))
theorem Wn{q1 n:Nat}{a1:Option Addr}{c1:Nat}{l:List E4}{M0 M:aB}(hM:aA M)(X0:Ext M0 M)(g1:M.get q1=some ⟨[i64 n,.slice a1 l.length c1],26,2,0,true⟩)(h1:aS l (.slice a1 l.length c1) M0)(a2:iQ n l):
  ∃M',bL prog [] (q43.loopAt 0) Tryz.f43.ntmps (fr [(1,pt q1 0),(3,i64 ((0:Nat):Int))]) M (.exit 0) (fr []) M'/\Ext M0 M'/\aA M':=by
 have hlen:=h1.len
 obtain⟨_,M',k1,k2,k3,_⟩:=bL.for (P:=prog) (GL:= []) (b:=q43.loopAt 0) (nt:=Tryz.f43.ntmps) (id:=0) (σ:=Unit) (n:=l.length) (Inv:=fun i _ M1=>Ext M0 M1/\aA M1/\M1.get q1=some ⟨[i64 n,.slice a1 l.length c1],26,2,0,true⟩)
  (F:=fun i _=> [(1,pt q1 0),(3,i64 ((i:Nat):Int))]) (O:=fun _=> [])
  (by
   rintro i _ M1 hi ⟨X,a0,g1⟩
   obtain⟨bb,o,rfl,_⟩:=bU h1 (by omega)
   have ht:l[i]?=some l[i]:=xAe hi
   have l1:=kP (P:=prog) (ty:=46) h1 ht tL nT
   obtain⟨e1,e2,e3,e4⟩:=a2 l[i] (List.getElem_mem hi)
   obtain⟨T1,M2,q1,q2,q3,q4,q5⟩:=rj26 q1 bb o c1 l.length i n l[i] a0 X (Go.Am.jL h1 (by omega)) g1 e1 e2 e3 e4 (xAb (by omega)) (by rw[Int.toNat_natCast];exact l1)
   rw[bD (by omega)] at q2
   exact⟨(),T1,M2,q1,q2,q3,q4,q5⟩)
  (by
   rintro _ M1 ⟨X,a0,g1⟩
   exact rj26x q1 l.length c1 l.length n a1 (M:=M1) h1.ln g1 (xAa (by omega)))
  l.length 0 (by omega) (s:=()) (M:=M) ⟨X0,hM,g1⟩
 exact⟨M',k1,k2,k3⟩
theorem rK43:Tryz.f43.results= #[.tmp 2]:=by kernel_rfl
theorem w26j(n:Nat)(a1:Option Addr)(c1:Nat)(l:List E4){M:aB}(hM:aA M)(h1:aS l (.slice a1 l.length c1) M)(hn1:1<=n/\n<=60)(hl4:l.length<=400)(a8:iQ n l): ∃v_ M',Ev prog [] 43 [.agg ⟨[i64 (n:Int),.slice a1 l.length c1]⟩] M v_ M'/\Ext M M'/\aA M'/\v_= .bool true:=by
 obtain⟨b1,M2,a5,a6,g5,E6,a7⟩:=bC hM ⟨[i64 (n:Int),.slice a1 l.length c1],26,2,0,true⟩
 have X9:=(Ext.refl M).trans E6
 obtain⟨a0,a2,a4,a3⟩:=Wn (M0:=M) a7 X9 g5 h1 a8
 exact⟨.bool true,a0,Ev.told_tmp (tb:=[0]) (n:=60) (F:=[bJ 1 (pt b1 0) M2,aR 7 (i64 (n:Int)),aO 12,aO 14,aR 15 (i64 (n:Int)),aO 16,aO 19,aO 22,aO 24,aR 25 (.slice a1 l.length c1),aO 26,aQ 27,aO 28,aO 31,aO 32,.blk 35 [1,3] .normal (fr []) a0]) aG aF Tryz.func43 aAI (by kernel_rfl) rK43 (fun B=>wR (gL B) 0 a2) (fun _ h=>bZ h) (by kernel_rfl) (hq (.eq (eI prog 26 (.agg ⟨[i64 (n:Int),.slice a1 l.length c1]⟩) M) (1,.val (pt b1 0),M2)) (bN (by rw[<-a5,<-a6];kernel_rfl) xAc) (hk (lO 0 bQ g5 rfl) (hk (bF (x:=decide ((n:Int)<(1:Int))) (xAa (by omega))) (hk (bF (x:=decide ((n:Int)<(1:Int))) (xAa (by omega))) (hk (lO 0 bQ g5 rfl) (hk (bF (x:=decide ((n:Int)<(1:Int))) (xAa (by omega))) (hk (bF (x:=decide ((n:Int)<(1:Int))) (xAa (by omega))) (hk (bF (x:=decide ((n:Int)>(60:Int))) (xAa (by omega))) (hk (bF (x:=decide ((n:Int)>(60:Int))) (xAa (by omega))) (hk (lO 1 nL g5 rfl) (hk (bF (x:=decide ((n:Int)>(60:Int))) (xAa (by omega))) (hk (lN h1.ln) (hk (bF (x:=decide ((n:Int)>(60:Int))) (xAa (by omega))) (hk (bF (x:=decide ((n:Int)>(60:Int))) (xAa (by omega))) (hk (bF (x:=decide ((l.length:Int)>(400:Int))) (xAa (by omega))) (hq (.blk 0 (.loop (q43.loopAt 0)) Tryz.f43.ntmps [1,3] [some (pt b1 0),some (i64 0)] M2 .normal (fr []) a0) (fB rfl) hn)))))))))))))))),a4,a3,rfl⟩
abbrev Q43:=FC (gN (sZ mN) fun x=>fC (x.1:Int) x.2=true) (plain pB) (fun _=>true)
theorem Xu{x:Nat×List E4}{lv:List Value}{M:aB}(hM:aA M)(h:(gN (sZ mN) fun x:Nat×List E4=>fC (x.1:Int) x.2=true) x lv M): ∃v M',kR prog [] 43 Q43 lv M v M':=by
 refine FC.con h ?_
 obtain⟨⟨g0,rfl,k0⟩,a0⟩:=h
 obtain⟨n,l⟩:=x
 obtain⟨_,rfl,k0⟩:=k0
 obtain⟨a1,c1,rfl⟩:=aJ.form k0
 obtain⟨s1,s2,s3,_⟩:=fY a0
 simp only at s1 s2 s3
 obtain⟨v,M',h1,h2,_,h3⟩:=w26j n a1 c1 l hM k0 ⟨by omega,by omega⟩ s3 (rW a0)
 exact⟨v,M',h1,h2,h3⟩
open Tryz
theorem rj27a(x sb rb ro rc n k i:Nat)(u0 u1 u2 u3 u4 u5:Value)(cs:List Value)(r:Int){M:aB}{M0:aB}(X0:Ext M0 M)(hrb:rb<M0.next)(gx:M.get x=some ⟨[u0,u1,aC rb ro n rc,u3,u4,u5],32,6,0,true⟩)(nsb:M0.next<=sb)(gs:M.get sb=some ⟨cs,4,1,0,true⟩)(dxsb:x≠sb)(a1:(decide ((i:Int)<(n:Int)))=true)(a2:(r==(-1:Int))=true)(a0:bA prog 3 ⟨rb,ro+((i:Int):Int).toNat*1,none⟩ M0=some (i64 r)): ∃T1,Rd prog [] (q44.loopAt 0) Tryz.f44.ntmps (fr [(1,(pt x 0)),(3,(i64 (n:Int))),(4,(aC sb 0 n (n+1))),(5,(i64 (k:Int))),(6,(i64 (i:Int)))]) M .normal T1 M/\ [1,3,4,5,6].map T1.get= [some (pt x 0),some (i64 (n:Int)),some (aC sb 0 n (n+1)),some (i64 (k:Int)),some (i64 (IntKind.wrap .i64 ((i:Int)+(1:Int))))]:=by
 exact Rd.told (tb:=[]) (n:=100) (F:=[aQ 6,aR 10 (aC rb ro n rc),aQ 14,aR 16 (i64 r),aQ 19]) aG aF (aI prog) (fun _ _=>rfl) (by kernel_rfl) (hk (bT a1) (hk (lO 2 jW gx rfl) (hk (qI (i:Int) n (by omega) (by simp at a1;omega)) (hk (lD (aN X0 a0)) (hk (bT a2) hn)))))
theorem rj27b(x sb rb ro rc n k i:Nat)(u0 u1 u2 u3 u4 u5:Value)(cs:List Value)(r:Int)(z1:Bool){M M0:aB}(hM:aA M)(X0:Ext M0 M)(hrb:rb<M0.next)(gx:M.get x=some ⟨[u0,u1,aC rb ro n rc,u3,u4,u5],32,6,0,true⟩)(a9:M0.next<=sb)(gs:M.get sb=some ⟨cs,4,1,0,true⟩)(a2:x≠sb)(hr:0<=r/\r<(n:Int))(a1:(decide ((i:Int)<(n:Int)))=true)(a4:(r==(-1:Int))=false)(a5:(z1)=false)(a0:bA prog 3 ⟨rb,ro+((i:Int):Int).toNat*1,none⟩ M0=some (i64 r))(a7:(cs)[0+(r:Int).toNat*1]?=some (.bool z1))(a3:0+(r:Int).toNat*1+1<=(cs).length): ∃T1 M',Rd prog [] (q44.loopAt 0) Tryz.f44.ntmps (fr [(1,(pt x 0)),(3,(i64 (n:Int))),(4,(aC sb 0 n (n+1))),(5,(i64 (k:Int))),(6,(i64 (i:Int)))]) M .normal T1 M'/\ [1,3,4,5,6].map T1.get= [some (pt x 0),some (i64 (n:Int)),some (aC sb 0 n (n+1)),some (i64 (IntKind.wrap .i64 ((k:Int)+(1:Int)))),some (i64 (IntKind.wrap .i64 ((i:Int)+(1:Int))))]/\Ext M0 M'/\aA M'/\M'.get x=some ⟨[u0,u1,aC rb ro n rc,u3,u4,u5],32,6,0,true⟩/\M'.get sb=some ⟨splice cs (0+(r:Int).toNat*1) [.bool true],4,1,0,true⟩:=by
 obtain⟨M1,q2,g3,a8,X5,a6,b0⟩:=aZ (o:=0+(r:Int).toNat*1) (v:=(.bool true)) (new:=splice cs (0+(r:Int).toNat*1) [.bool true]) X0 a9 hM dS4 gs rfl rfl (Nat.zero_le _) a3 rfl
 have g8:=(a8 _ a2).trans gx
 obtain⟨T1,h1,h2⟩:=Rd.told (tb:=[]) (n:=100) (F:=[aQ 6,aR 10 (aC rb ro n rc),aQ 14,aR 16 (i64 r),aO 19,aR 23 (aC rb ro n rc),aQ 27,aR 29 (i64 r),aO 34,aO 36,aR 37 (aC rb ro n rc),aO 38,aO 40,aQ 41,aO 42,aR 43 (i64 r),aO 44,aO 46,aO 49,aO 52,aO 54,aO 56,aR 57 (aC rb ro n rc),aO 58,aO 60,aQ 61,aO 62,aR 63 (i64 r),aO 64,aQ 65,aO 66,aR 67 (.bool z1),aO 69,aO 70,aR 76 (aC rb ro n rc),aQ 80,aR 82 (i64 r),aQ 84,jE 86 M1]) aG aF (aI prog) (fun _ _=>rfl) (by kernel_rfl) (hk (bT a1) (hk (lO 2 jW gx rfl) (hk (qI (i:Int) n (by omega) (by simp at a1;omega)) (hk (lD (aN X0 a0)) (hk (bF a4) (hk (lO 2 jW gx rfl) (hk (qI (i:Int) n (by omega) (by simp at a1;omega)) (hk (lD (aN X0 a0)) (hk (bF (x:=decide (r<(0:Int))) (xAa (by omega))) (hk (bF (x:=decide (r<(0:Int))) (xAa (by omega))) (hk (lO 2 jW gx rfl) (hk (bF (x:=decide (r<(0:Int))) (xAa (by omega))) (hk (bF (x:=decide (r<(0:Int))) (xAa (by omega))) (hk (qI (i:Int) n (by omega) (by simp at a1;omega)) (hk (bF (x:=decide (r<(0:Int))) (xAa (by omega))) (hk (lD (aN X0 a0)) (hk (bF (x:=decide (r<(0:Int))) (xAa (by omega))) (hk (bF (x:=decide (r<(0:Int))) (xAa (by omega))) (hk (bF (x:=decide (r<(0:Int))) (xAa (by omega))) (hk (bF (x:=decide (r>=(n:Int))) (xAa (by omega))) (hk (bF (x:=decide (r>=(n:Int))) (xAa (by omega))) (hk (bF (x:=decide (r>=(n:Int))) (xAa (by omega))) (hk (lO 2 jW gx rfl) (hk (bF (x:=decide (r>=(n:Int))) (xAa (by omega))) (hk (bF (x:=decide (r>=(n:Int))) (xAa (by omega))) (hk (qI (i:Int) n (by omega) (by simp at a1;omega)) (hk (bF (x:=decide (r>=(n:Int))) (xAa (by omega))) (hk (lD (aN X0 a0)) (hk (bF (x:=decide (r>=(n:Int))) (xAa (by omega))) (hk (qI r n (by omega) (by omega)) (hk (bF (x:=decide (r>=(n:Int))) (xAa (by omega))) (hq (qL 4 sb (0+(r:Int).toNat*1) M (.bool z1)) (eO (bI (a:=⟨sb,0+(r:Int).toNat*1,none⟩) Sv gs a7)) (hk (bF (x:=decide (r>=(n:Int))) (xAa (by omega))) (hk (bF a5) (hk (lO 2 jW gx rfl) (hk (qI (i:Int) n (by omega) (by simp at a1;omega)) (hk (lD (aN X0 a0)) (hk (qI r n (by omega) (by omega)) (hq (qS 4 sb (0+(r:Int).toNat*1) (.bool true) M M1) (dB q2) hn)))))))))))))))))))))))))))))))))))))))
 exact⟨T1,M1,h1,h2,X5,a6,g8,g3⟩
theorem rj27x(x sb rb ro rc n k i:Nat)(u0 u1 u2 u3 u4 u5:Value)(cs:List Value){M:aB}(gx:M.get x=some ⟨[u0,u1,aC rb ro n rc,u3,u4,u5],32,6,0,true⟩)(gs:M.get sb=some ⟨cs,4,1,0,true⟩)(a0:(decide ((i:Int)<(n:Int)))=false): ∃T1,Rd prog [] (q44.loopAt 0) Tryz.f44.ntmps (fr [(1,(pt x 0)),(3,(i64 (n:Int))),(4,(aC sb 0 n (n+1))),(5,(i64 (k:Int))),(6,(i64 (i:Int)))]) M (.exit 0) T1 M/\ [4,5].map T1.get= [some (aC sb 0 n (n+1)),some (i64 (k:Int))]:=by
 exact Rd.told (tb:=[]) (n:=60) (F:=[aO 6]) aG aF (aI prog) (fun _ _=>rfl) (by kernel_rfl) (hk (bF a0) hn)
theorem rj27s(sb n k i:Nat)(cs:List Value)(z0:Bool){M:aB}(gs:M.get sb=some ⟨cs,4,1,0,true⟩)(hkn:k<=n)(a0:(decide ((i:Int)<(k:Int)))=true)(a1:(z0)=true)(a2:(cs)[0+((i:Int):Int).toNat*1]?=some (.bool z0)): ∃T1,Rd prog [] (q44.loopAt 2) Tryz.f44.ntmps (fr [(4,(aC sb 0 n (n+1))),(5,(i64 (k:Int))),(7,(i64 (i:Int)))]) M .normal T1 M/\ [4,5,7].map T1.get= [some (aC sb 0 n (n+1)),some (i64 (k:Int)),some (i64 (IntKind.wrap .i64 ((i:Int)+(1:Int))))]:=by
 exact Rd.told (tb:=[]) (n:=60) (F:=[aQ 6,aQ 12,aR 14 (.bool z0),aO 17]) aG aF (aI prog) (fun _ _=>rfl) (by kernel_rfl) (hk (bT a0) (hk (qI (i:Int) n (by omega) (by simp at a0;omega)) (hq (qL 4 sb (0+((i:Int):Int).toNat*1) M (.bool z0)) (eO (bI (a:=⟨sb,0+((i:Int):Int).toNat*1,none⟩) Sv gs a2)) (hk (bF (x:=!(z0)) (by rw[a1];rfl)) hn))))
theorem rj27t(sb n k i:Nat)(cs:List Value){M:aB}(gs:M.get sb=some ⟨cs,4,1,0,true⟩)(a0:(decide ((i:Int)<(k:Int)))=false): ∃T1,Rd prog [] (q44.loopAt 2) Tryz.f44.ntmps (fr [(4,(aC sb 0 n (n+1))),(5,(i64 (k:Int))),(7,(i64 (i:Int)))]) M (.exit 2) T1 M/\ [].map T1.get= []:=by
 exact Rd.told (tb:=[]) (n:=60) (F:=[aO 6]) aG aF (aI prog) (fun _ _=>rfl) (by kernel_rfl) (hk (bF a0) hn)
theorem Wo{x sb rb ro rc n:Nat}{u0 u1 u3 u4 u5:Value}{rank:List Int}{M0 M:aB}(a6:aH rank (aC rb ro n rc) M0)(hG:Rn n rank)(hM:aA M)(X0:Ext M0 M)(gx:M.get x=some ⟨[u0,u1,aC rb ro n rc,u3,u4,u5],32,6,0,true⟩)(a7:M0.next<=sb)(gs:M.get sb=some ⟨(cG n rank (0)).map Value.bool,4,1,0,true⟩)(a0:x≠sb)(hn60:n<=60):
  ∃M',bL prog [] (q44.loopAt 0) Tryz.f44.ntmps (fr [(1,pt x 0),(3,i64 n),(4,aC sb 0 n (n+1)),(5,i64 ((Bf rank (0):Nat):Int)),(6,i64 ((0:Nat):Int))]) M (.exit 0) (fr [(4,aC sb 0 n (n+1)),(5,i64 ((Bf rank n:Nat):Int))]) M'/\Ext M0 M'/\aA M'/\M'.get sb=some ⟨(cG n rank (n)).map Value.bool,4,1,0,true⟩:=by
 obtain⟨_,M',k1,k2,k3,_,k4⟩:=bL.for (P:=prog) (GL:= []) (b:=q44.loopAt 0) (nt:=Tryz.f44.ntmps) (id:=0) (σ:=Unit) (n:=n) (Inv:=fun i _ M1=>Ext M0 M1/\aA M1/\M1.get x=some ⟨[u0,u1,aC rb ro n rc,u3,u4,u5],32,6,0,true⟩/\M1.get sb=some ⟨(cG n rank (i)).map Value.bool,4,1,0,true⟩)
  (F:=fun i _=> [(1,pt x 0),(3,i64 n),(4,aC sb 0 n (n+1)),(5,i64 ((Bf rank (i):Nat):Int)),(6,i64 ((i:Nat):Int))]) (O:=fun _=> [(4,aC sb 0 n (n+1)),(5,i64 ((Bf rank n:Nat):Int))])
  (by
   rintro i _ M1 hi ⟨X1,a4,a2,a1⟩
   have a9:i<rank.length:=by rw[hG.len];exact hi
   have ht:rank[i]?=some rank[i]:=xAe a9
   have l1:=iX (P:=prog) (ty:=3) a6 ht rfl bQ
   have a5:=Go.Am.jL a6 (by omega)
   have a3:=Th ht
   have hkl:=Ij rank (i+1)
   by_cases hr:rank[i]= -1
   ·obtain⟨T1,q1,q2⟩:=rj27a x sb rb ro rc n (Bf rank i) i u0 u1 eW u3 u4 u5 ((cG n rank i).map Value.bool) rank[i] (M:=M1) X1 a5 a2 a7 a1 a0 (xAb (by omega)) (by rw[hr];rfl) (by rw[Int.toNat_natCast];exact l1)
    rw[bD (by omega)] at q2
    rw[if_pos hr] at a3
    refine⟨(),T1,M1,q1,by rw[a3];exact q2,X1,a4,a2,?_⟩
    rw[a1]
    conv=>rhs;unfold cG;rw[ht]
    simp only
    rw[if_pos hr]
   ·obtain⟨hb,hf⟩:=hG.fresh ht hr
    rw[if_neg hr] at a3
    have e0:0+(rank[i]:Int).toNat*1=rank[i].toNat:=by omega
    have a8:rank[i].toNat<((cG n rank i).map Value.bool).length:=by rw[List.length_map,kE];omega
    obtain⟨T1,M2,q1,q2,q3,q4,q5,q6⟩:=rj27b x sb rb ro rc n (Bf rank i) i u0 u1 eW u3 u4 u5 ((cG n rank i).map Value.bool) rank[i] false a4 X1 a5 a2 a7 a1 a0 hb (xAb (by omega)) (beq_eq_false_iff_ne.2 hr) rfl (by rw[Int.toNat_natCast];exact l1) (by rw[e0,List.getElem?_map,hf];rfl) (by omega)
    rw[bD (by have:=Ij rank i;have:=hG.len;omega),bD (by have:=Ij rank i;have:=hG.len;omega)] at q2
    refine⟨(),T1,M2,q1,by rw[a3];exact q2,q3,q4,q5,?_⟩
    ·rw[q6,e0,gM _ _ _ a8]
     conv=>rhs;unfold cG;rw[ht]
     simp only
     rw[if_neg hr,List.map_set])
  (by
   rintro _ M1 ⟨X1,a4,a2,a1⟩
   exact rj27x x sb rb ro rc n (Bf rank n) n u0 u1 eW u3 u4 u5 _ (M:=M1) a2 a1 (xAa (by omega)))
  n 0 (by omega) (s:=()) (M:=M) ⟨X0,hM,gx,gs⟩
 exact⟨M',k1,k2,k3,k4⟩
theorem Tu{sb n:Nat}{rank:List Int}{M0 M:aB}(hG:Rn n rank)(hM:aA M)(X0:Ext M0 M)(gs:M.get sb=some ⟨(cG n rank (n)).map Value.bool,4,1,0,true⟩)(hn60:n<=60):
  ∃M',bL prog [] (q44.loopAt 2) Tryz.f44.ntmps (fr [(4,aC sb 0 n (n+1)),(5,i64 ((Bf rank n:Nat):Int)),(7,i64 ((0:Nat):Int))]) M (.exit 2) (fr []) M'/\Ext M0 M'/\aA M':=by
 have a2:Bf rank n<=n:=by have:=Ij rank n;rw[hG.len] at this;exact this
 obtain⟨_,M',k1,k2,k3,_⟩:=bL.for (P:=prog) (GL:= []) (b:=q44.loopAt 2) (nt:=Tryz.f44.ntmps) (id:=2) (σ:=Unit) (n:=Bf rank n) (Inv:=fun i _ M1=>Ext M0 M1/\aA M1/\M1.get sb=some ⟨(cG n rank (n)).map Value.bool,4,1,0,true⟩)
  (F:=fun i _=> [(4,aC sb 0 n (n+1)),(5,i64 ((Bf rank n:Nat):Int)),(7,i64 ((i:Nat):Int))]) (O:=fun _=> [])
  (by
   rintro i _ M1 hi ⟨X1,a1,a0⟩
   have hf:=hG.seen i hi
   obtain⟨T1,q1,q2⟩:=rj27s sb n (Bf rank n) i ((cG n rank n).map Value.bool) true (M:=M1) a0 a2 (xAb (by omega)) rfl (by rw[List.getElem?_map];simp [hf])
   rw[bD (by omega)] at q2
   exact⟨(),T1,M1,q1,q2,X1,a1,a0⟩)
  (by
   rintro _ M1 ⟨X1,a1,a0⟩
   exact rj27t sb n (Bf rank n) (Bf rank n) _ (M:=M1) a0 (xAa (by omega)))
  (Bf rank n) 0 (by omega) (s:=()) (M:=M) ⟨X0,hM,gs⟩
 exact⟨M',k1,k2,k3⟩
theorem qD{x:IX}{v:Value}{M:aB}(h:pJ x v M)(g:GX x): ∃(ea:Option Addr) (ec rb ro rc:Nat) (aa:Option Addr) (ac ub uc db dc:Nat),v= .agg ⟨[i64 x.n,.slice ea x.es.length ec,aC rb ro x.n rc,.slice aa x.arcs.length ac,aC ub 0 x.n uc,aC db 0 x.n dc]⟩/\aS x.es (.slice ea x.es.length ec) M/\aH x.rank (aC rb ro x.n rc) M/\dJ x.arcs (.slice aa x.arcs.length ac) M/\aW x.up (aC ub 0 x.n uc) M/\aW x.down (aC db 0 x.n dc) M:=by
 obtain⟨a,b,c,d,e,rfl,h1,h2,h3,h4,h5⟩:=h
 obtain⟨ea,ec,rfl⟩:=aJ.form h1
 obtain⟨ra,rc,rfl⟩:=aJ.form h2
 obtain⟨aa,ac,rfl⟩:=aJ.form h3
 obtain⟨ub,uc,rfl⟩:=eY h4
 obtain⟨db,dc,rfl⟩:=eY h5
 have hn:=(fY g.ck).1
 obtain⟨rb,ro,rfl,_⟩:=bU h2 (by rw[g.rk.len];omega)
 rw[g.rk.len] at h2
 rw[g.ul] at h4
 rw[g.dl] at h5
 exact⟨ea,ec,rb,ro,rc,aa,ac,ub,uc,db,dc,by rw[g.rk.len,g.ul,g.dl],h1,h2,h3,h4,h5⟩
theorem rK44:Tryz.f44.results= #[.tmp 2]:=by kernel_rfl
theorem w27j(n:Nat)(ea:Option Addr)(ec rb ro rc:Nat)(aa:Option Addr)(ac ub uc db dc:Nat)(es:List E4)(rank:List Int)(arcs:List A7)(up down:List (List Int)){M:aB}(hM:aA M)(pes:aS es (.slice ea es.length ec) M)(c5:aH rank (aC rb ro n rc) M)(par:dJ arcs (.slice aa arcs.length ac) M)(pup:aW up (aC ub 0 n uc) M)(pdn:aW down (aC db 0 n dc) M)(hg:GX ⟨n,es,rank,arcs,up,down⟩)(a3:n<=60): ∃v_ M',Ev prog [] 44 [.agg ⟨[i64 (n:Int),.slice ea es.length ec,aC rb ro n rc,.slice aa arcs.length ac,aC ub 0 n uc,aC db 0 n dc]⟩] M v_ M'/\Ext M M'/\aA M'/\v_= .bool true:=by
 obtain⟨b1,M2,b9,c0,g5,E6,c4⟩:=bC hM ⟨[i64 (n:Int),.slice ea es.length ec,aC rb ro n rc,.slice aa arcs.length ac,aC ub 0 n uc,aC db 0 n dc],32,6,0,true⟩
 have X9:=(Ext.refl M).trans E6
 obtain⟨a1,a4,a2,a7,c1,b5,b0⟩:=tS (P:=prog) (t:=54) (elem:=4) (z:=(.bool false)) (n:=n) c4 (by kernel_rfl) (by kernel_rfl) (by omega)
 have b4:=lQ a2 X9
 have a0:=fJ g5 a2
 have c2:=b5.old g5
 have b6:=X9.trans b5
 obtain⟨a5,a8,b7,b2,c3⟩:=Wo c5 hg.rk b0 b6 c2 b4 (by rw[show(cG n rank 0).map Value.bool=List.replicate n (Value.bool false) from by simp [cG]];exact c1) a0 a3
 obtain⟨a6,a9,b8,b3⟩:=Tu hg.rk b2 b7 c3 a3
 exact⟨.bool true,a6,Ev.told_tmp (tb:=[0,2]) (n:=60) (F:=[bJ 1 (pt b1 0) M2,aR 7 (aC rb ro n rc),aR 19 (i64 (n:Int)),aO 24,aO 26,aR 27 (aC ub 0 n uc),aO 28,aO 30,aO 32,aO 35,aO 38,aO 40,aR 41 (aC db 0 n dc),aO 42,aO 44,aO 46,aO 49,aO 50,bJ 54 (aC a1 0 n (n+1)) a4,.blk 61 [1,3,4,5,6] .normal (fr [(4,(aC a1 0 n (n+1))),(5,(i64 ((Bf rank n:Nat):Int)))]) a5,.blk 64 [4,5,7] .normal (fr []) a6]) aG aF Tryz.func44 aAJ (by kernel_rfl) rK44 (fun B=>sb2 (gL B) 0 a8 2 a9) (fun _ h=>yV h) (by kernel_rfl) (hq (.eq (eI prog 32 (.agg ⟨[i64 (n:Int),.slice ea es.length ec,aC rb ro n rc,.slice aa arcs.length ac,aC ub 0 n uc,aC db 0 n dc]⟩) M) (1,.val (pt b1 0),M2)) (bN (by rw[<-b9,<-c0];kernel_rfl) xAc) (hk (lO 2 jW g5 rfl) (hk (lO 0 bQ g5 rfl) (hk (bF (x:=!((n:Int)==(n:Int))) (dA _)) (hk (bF (x:=!((n:Int)==(n:Int))) (dA _)) (hk (lO 4 zC g5 rfl) (hk (bF (x:=!((n:Int)==(n:Int))) (dA _)) (hk (bF (x:=!((n:Int)==(n:Int))) (dA _)) (hk (bF (x:=!((n:Int)==(n:Int))) (dA _)) (hk (bF (x:=!((n:Int)==(n:Int))) (dA _)) (hk (bF (x:=!((n:Int)==(n:Int))) (dA _)) (hk (bF (x:=!((n:Int)==(n:Int))) (dA _)) (hk (lO 5 zC g5 rfl) (hk (bF (x:=!((n:Int)==(n:Int))) (dA _)) (hk (bF (x:=!((n:Int)==(n:Int))) (dA _)) (hk (bF (x:=!((n:Int)==(n:Int))) (dA _)) (hk (bF (x:=!((n:Int)==(n:Int))) (dA _)) (hk (bF (x:=!((n:Int)==(n:Int))) (dA _)) (hq (.eq (bX prog 54 (i64 (n:Int)) (i64 (n:Int)) M2) (1,.val (aC a1 0 n (n+1)),a4)) (bN a7 xAc) (hq (.blk 0 (.loop (q44.loopAt 0)) Tryz.f44.ntmps [1,3,4,5,6] [some (pt b1 0),some (i64 (n:Int)),some (aC a1 0 n (n+1)),some (i64 0),some (i64 0)] a4 .normal (fr [(4,(aC a1 0 n (n+1))),(5,(i64 ((Bf rank n:Nat):Int)))]) a5) (fB rfl) (hq (.blk 2 (.loop (q44.loopAt 2)) Tryz.f44.ntmps [4,5,7] [some (aC a1 0 n (n+1)),some (i64 ((Bf rank n:Nat):Int)),some (i64 0)] a5 .normal (fr []) a6) (fB rfl) hn))))))))))))))))))))),b8,b3,rfl⟩
abbrev Q44:=FC (gN (sZ pJ) GX) (plain pB) (fun _=>true)
theorem Xv{x:IX}{lv:List Value}{M:aB}(hM:aA M)(h:(gN (sZ pJ) GX) x lv M): ∃v M',kR prog [] 44 Q44 lv M v M':=by
 refine FC.con h ?_
 obtain⟨⟨g0,rfl,k0⟩,hg⟩:=h
 obtain⟨ea,ec,rb,ro,rc,aa,ac,ub,uc,db,dc,rfl,h1,h2,h3,h4,h5⟩:=qD k0 hg
 have a0:=(fY hg.ck).2.1
 obtain⟨n,es,rank,arcs,up,down⟩:=x
 simp only at a0
 obtain⟨v,M',q1,q2,_,q3⟩:=w27j n ea ec rb ro rc aa ac ub uc db dc es rank arcs up down hM h1 h2 h3 h4 h5 hg (by omega)
 exact⟨v,M',q1,q2,q3⟩
open Tryz
theorem rK80:Tryz.f80.results= #[.tmp 4]:=by kernel_rfl
theorem w60j(n:Nat)(eb eo ec rb ro rc:Nat)(aa:Option Addr)(ac ub uc db dc:Nat)(es:List E4)(rank:List Int)(arcs:List A7)(up down:List (List Int))(e:E4)(j:Int){M:aB}(hM:aA M)(hj:0<=j/\j<(es.length:Int))(b7:bA prog 46 ⟨eb,eo+(j:Int).toNat*4,none⟩ M=some (.agg ⟨(cD e)⟩)): ∃v_ M',Ev prog [] 80 [.agg ⟨[i64 (n:Int),aC eb eo es.length ec,aC rb ro n rc,.slice aa arcs.length ac,aC ub 0 n uc,aC db 0 n dc]⟩,.agg ⟨[i64 e.f,i64 e.t,i64 e.m,i64 e.c,i64 j,i64 0,i64 0]⟩] M v_ M'/\Ext M M'/\aA M'/\v_= .bool true:=by
 obtain⟨b1,M2,c6,c7,g5,E6,d0⟩:=bC hM ⟨[i64 (n:Int),aC eb eo es.length ec,aC rb ro n rc,.slice aa arcs.length ac,aC ub 0 n uc,aC db 0 n dc],32,6,0,true⟩
 have X9:=(Ext.refl M).trans E6
 obtain⟨c2,a5,b0,b2,a2,c0,b4⟩:=bC d0 ⟨[i64 e.f,i64 e.t,i64 e.m,i64 e.c,i64 j,i64 0,i64 0],42,7,0,true⟩
 have c3:=c0.old g5
 have a8:=X9.trans c0
 obtain⟨a9,a6,a1,b3,c8,c1,b5⟩:=bC b4 ⟨[i64 0,i64 0,i64 0,i64 0],46,4,0,true⟩
 have b9:=lQ a1 a8
 have a0:=fJ a2 a1
 have c9:=c1.old a2
 have c4:=a8.trans c1
 obtain⟨a7,d2,a3,b8,c5,b6,d1⟩:=aZ (o:=0) (v:=(.agg ⟨(cD e)⟩)) (new:= (cD e)) c4 b9 b5 nT c8 rfl rfl (Nat.zero_le _) (xAd rfl) rfl
 have a4:=(b8 _ a0).trans c9
 exact⟨.bool (e.c==e.c),a7,Ev.told_tmp (tb:=[]) (n:=100) (F:=[bJ 1 (pt b1 0) M2,bJ 3 (pt c2 0) a5,aR 9 (i64 j),aO 14,aO 16,aR 17 (i64 j),aO 18,aO 20,aO 22,aR 23 (aC eb eo es.length ec),aO 24,aO 26,aO 29,aO 32,aO 34,aR 35 (i64 0),aO 36,aO 39,aO 42,aO 44,aR 45 (i64 0),aO 46,aO 49,aO 50,aR 56 (aC eb eo es.length ec),aR 60 (i64 j),aQ 62,aR 64 (.agg ⟨(cD e)⟩),bJ 66 (pt a9 0) a6,jE 68 a7,aR 72 (i64 e.f),aR 76 (i64 e.f),aQ 81,aQ 83,aR 84 (i64 e.t),aQ 85,aQ 87,aR 88 (i64 e.t),aQ 89,aQ 92,aQ 95,aQ 97,aR 98 (i64 e.m),aQ 99,aQ 101,aR 102 (i64 e.m),aQ 103,aQ 106,aQ 109,aQ 111,aR 112 (i64 e.c),aQ 113,aQ 115,aR 116 (i64 e.c),aQ 117,aQ 120]) aG aF Tryz.func80 aAX (by kernel_rfl) rK80 (aI prog) (fun _ _=>rfl) (by kernel_rfl) (hq (.eq (eI prog 32 (.agg ⟨[i64 (n:Int),aC eb eo es.length ec,aC rb ro n rc,.slice aa arcs.length ac,aC ub 0 n uc,aC db 0 n dc]⟩) M) (1,.val (pt b1 0),M2)) (bN (by rw[<-c6,<-c7];kernel_rfl) xAc) (hq (.eq (eI prog 42 (.agg ⟨[i64 e.f,i64 e.t,i64 e.m,i64 e.c,i64 j,i64 0,i64 0]⟩) M2) (1,.val (pt c2 0),a5)) (bN (by rw[<-b0,<-b2];kernel_rfl) xAc) (hk (lO 4 bQ a2 rfl) (hk (bF (x:=decide (j<(0:Int))) (xAa (by omega))) (hk (bF (x:=decide (j<(0:Int))) (xAa (by omega))) (hk (lO 4 bQ a2 rfl) (hk (bF (x:=decide (j<(0:Int))) (xAa (by omega))) (hk (bF (x:=decide (j<(0:Int))) (xAa (by omega))) (hk (bF (x:=decide (j<(0:Int))) (xAa (by omega))) (hk (lO 1 nL c3 rfl) (hk (bF (x:=decide (j<(0:Int))) (xAa (by omega))) (hk (bF (x:=decide (j<(0:Int))) (xAa (by omega))) (hk (bF (x:=decide (j<(0:Int))) (xAa (by omega))) (hk (bF (x:=decide (j>=(es.length:Int))) (xAa (by omega))) (hk (bF (x:=decide (j>=(es.length:Int))) (xAa (by omega))) (hk (lO 5 bQ a2 rfl) (hk (bF (x:=decide (j>=(es.length:Int))) (xAa (by omega))) (hk (bF (x:=decide (j>=(es.length:Int))) (xAa (by omega))) (hk (bF (x:=!(0==(0:Int))) (dA _)) (hk (bF (x:=!(0==(0:Int))) (dA _)) (hk (lO 6 bQ a2 rfl) (hk (bF (x:=!(0==(0:Int))) (dA _)) (hk (bF (x:=!(0==(0:Int))) (dA _)) (hk (bF (x:=!(0==(0:Int))) (dA _)) (hk (lO 1 nL c3 rfl) (hk (lO 4 bQ a2 rfl) (hk (qI j es.length (by omega) (by omega)) (hk (lD (aN a8 b7)) (hq (.eq (cM prog 46 a5) (1,.val (pt a9 0),a6)) (bN (by rw[<-a1,<-b3];kernel_rfl) xAc) (hq (qS 46 a9 0 (.agg ⟨(cD e)⟩) a6 a7) (dB d2) (hk (lO 0 bQ a3 rfl) (hk (lO 0 bQ a4 rfl) (hk (bT (x:=e.f==e.f) (beq_self_eq_true _)) (hk (bT (x:=e.f==e.f) (beq_self_eq_true _)) (hk (lO 1 bQ a3 rfl) (hk (bT (x:=e.f==e.f) (beq_self_eq_true _)) (hk (bT (x:=e.f==e.f) (beq_self_eq_true _)) (hk (lO 1 bQ a4 rfl) (hk (bT (x:=e.f==e.f) (beq_self_eq_true _)) (hk (bT (x:=e.f==e.f) (beq_self_eq_true _)) (hk (bT (x:=e.t==e.t) (beq_self_eq_true _)) (hk (bT (x:=e.t==e.t) (beq_self_eq_true _)) (hk (lO 2 bQ a3 rfl) (hk (bT (x:=e.t==e.t) (beq_self_eq_true _)) (hk (bT (x:=e.t==e.t) (beq_self_eq_true _)) (hk (lO 2 bQ a4 rfl) (hk (bT (x:=e.t==e.t) (beq_self_eq_true _)) (hk (bT (x:=e.t==e.t) (beq_self_eq_true _)) (hk (bT (x:=e.m==e.m) (beq_self_eq_true _)) (hk (bT (x:=e.m==e.m) (beq_self_eq_true _)) (hk (lO 3 bQ a3 rfl) (hk (bT (x:=e.m==e.m) (beq_self_eq_true _)) (hk (bT (x:=e.m==e.m) (beq_self_eq_true _)) (hk (lO 3 bQ a4 rfl) (hk (bT (x:=e.m==e.m) (beq_self_eq_true _)) (hk (bT (x:=e.m==e.m) (beq_self_eq_true _)) hn)))))))))))))))))))))))))))))))))))))))))))))))))))))))),c5,b6,(by show Value.bool _=Value.bool _;rw[beq_self_eq_true])⟩
abbrev Q80:=FC (gN (lX pJ Fo) fun x=>GX x.1/\ ∃e,0<=x.2.e/\x.1.es[x.2.e.toNat]?=some e/\x.2=iJ x.2.e e) (plain pB) (fun _=>true)
theorem Yc{x:IX×A7}{lv:List Value}{M:aB}(hM:aA M)(h:(gN (lX pJ Fo) fun x:IX×A7=>GX x.1/\ ∃e,0<=x.2.e/\x.1.es[x.2.e.toNat]?=some e/\x.2=iJ x.2.e e) x lv M): ∃v M',kR prog [] 80 Q80 lv M v M':=by
 refine FC.con h ?_
 obtain⟨⟨g0,g1,rfl,k0,k1⟩,hg,e,hj,he,hy⟩:=h
 obtain⟨ea,ec,rb,ro,rc,aa,ac,ub,uc,db,dc,rfl,h1,h2,h3,h4,h5⟩:=qD k0 hg
 obtain⟨⟨n,es,rank,arcs,up,down⟩,y⟩:=x
 simp only at hj he hy h1
 have hlt:=(xAg.1 he).1
 obtain⟨eb,eo,rfl,_⟩:=bU h1 (by omega)
 have hl:=kP (P:=prog) (ty:=46) h1 he tL nT
 obtain rfl:=k1
 obtain⟨v,M',q1,q2,_,q3⟩:=w60j n eb eo ec rb ro rc aa ac ub uc db dc es rank arcs up down e y.e hM ⟨hj,by omega⟩ hl
 simp only at q1⊢
 rw[hy]
 exact⟨v,M',q1,q2,q3⟩
theorem rK81:Tryz.f81.results= #[.tmp 6]:=by kernel_rfl
theorem w61j0(n:Nat)(ea:Option Addr)(ec rb ro rc:Nat)(aa:Option Addr)(ac ub uc db dc:Nat)(es:List E4)(rank:List Int)(arcs:List A7)(up down:List (List Int))(u v:Int){M:aB}(hM:aA M)(hrb:rb<M.next)(hu:0<=u/\u<(n:Int))(hv:0<=v/\v<(n:Int))(a0:(decide ((kD rank u)<(0:Int)))=true)(a1:bA prog 3 ⟨rb,ro+(u:Int).toNat*1,none⟩ M=some (i64 (kD rank u))): ∃v_ M',Ev prog [] 81 [.agg ⟨[i64 (n:Int),.slice ea es.length ec,aC rb ro n rc,.slice aa arcs.length ac,aC ub 0 n uc,aC db 0 n dc]⟩,i64 u,i64 v] M v_ M'/\Ext M M'/\aA M'/\v_= .bool true:=by
 obtain⟨b1,M2,a2,a3,g5,E6,a4⟩:=bC hM ⟨[i64 (n:Int),.slice ea es.length ec,aC rb ro n rc,.slice aa arcs.length ac,aC ub 0 n uc,aC db 0 n dc],32,6,0,true⟩
 have X9:=(Ext.refl M).trans E6
 exact⟨.bool true,M2,Ev.told_tmp (tb:=[]) (n:=100) (F:=[bJ 1 (pt b1 0) M2,aR 7 (aC rb ro n rc),aQ 11,aR 13 (i64 (kD rank u)),aQ 18,aQ 20,aQ 22,aQ 24,aQ 26,aQ 28,aQ 30,aQ 54,aQ 57]) aG aF Tryz.func81 Ur (by kernel_rfl) rK81 (aI prog) (fun _ _=>rfl) (by kernel_rfl) (hq (.eq (eI prog 32 (.agg ⟨[i64 (n:Int),.slice ea es.length ec,aC rb ro n rc,.slice aa arcs.length ac,aC ub 0 n uc,aC db 0 n dc]⟩) M) (1,.val (pt b1 0),M2)) (bN (by rw[<-a2,<-a3];kernel_rfl) xAc) (hk (lO 2 jW g5 rfl) (hk (qI u n (by omega) (by omega)) (hk (lD (aN X9 a1)) (hw (bT a0) (hw (bT a0) (hw (bT a0) (hw (bT a0) (hk (bT a0) hn))))))))),X9,a4,rfl⟩
theorem w61j1(n:Nat)(ea:Option Addr)(ec rb ro rc:Nat)(aa:Option Addr)(ac ub uc db dc:Nat)(es:List E4)(rank:List Int)(arcs:List A7)(up down:List (List Int))(u v:Int){M:aB}(hM:aA M)(hrb:rb<M.next)(hu:0<=u/\u<(n:Int))(hv:0<=v/\v<(n:Int))(hgt:(kD rank v)<(kD rank u))(a1:(decide ((kD rank u)<(0:Int)))=false)(a0:(decide ((kD rank v)>=(0:Int)))=true)(a2:bA prog 3 ⟨rb,ro+(u:Int).toNat*1,none⟩ M=some (i64 (kD rank u)))(a3:bA prog 3 ⟨rb,ro+(v:Int).toNat*1,none⟩ M=some (i64 (kD rank v))): ∃v_ M',Ev prog [] 81 [.agg ⟨[i64 (n:Int),.slice ea es.length ec,aC rb ro n rc,.slice aa arcs.length ac,aC ub 0 n uc,aC db 0 n dc]⟩,i64 u,i64 v] M v_ M'/\Ext M M'/\aA M'/\v_= .bool true:=by
 obtain⟨b1,M2,a4,a5,g5,E6,a6⟩:=bC hM ⟨[i64 (n:Int),.slice ea es.length ec,aC rb ro n rc,.slice aa arcs.length ac,aC ub 0 n uc,aC db 0 n dc],32,6,0,true⟩
 have X9:=(Ext.refl M).trans E6
 exact⟨.bool (decide ((kD rank u)>(kD rank v))),M2,Ev.told_tmp (tb:=[]) (n:=100) (F:=[bJ 1 (pt b1 0) M2,aR 7 (aC rb ro n rc),aQ 11,aR 13 (i64 (kD rank u)),aO 18,aO 20,aR 21 (aC rb ro n rc),aO 22,aO 24,aQ 25,aO 26,aR 27 (i64 (kD rank v)),aO 28,aO 30,aQ 32,aQ 34,aR 35 (aC rb ro n rc),aQ 36,aQ 38,aQ 39,aQ 40,aR 41 (i64 (kD rank u)),aQ 42,aQ 44,aR 45 (aC rb ro n rc),aQ 46,aQ 48,aQ 49,aQ 50,aR 51 (i64 (kD rank v)),aQ 52,aO 54,aQ 55,aO 57]) aG aF Tryz.func81 Ur (by kernel_rfl) rK81 (aI prog) (fun _ _=>rfl) (by kernel_rfl) (hq (.eq (eI prog 32 (.agg ⟨[i64 (n:Int),.slice ea es.length ec,aC rb ro n rc,.slice aa arcs.length ac,aC ub 0 n uc,aC db 0 n dc]⟩) M) (1,.val (pt b1 0),M2)) (bN (by rw[<-a4,<-a5];kernel_rfl) xAc) (hk (lO 2 jW g5 rfl) (hk (qI u n (by omega) (by omega)) (hk (lD (aN X9 a2)) (hw (bF a1) (hk (lO 2 jW g5 rfl) (hw (bF a1) (hk (qI v n (by omega) (by omega)) (hk (bF a1) (hk (lD (aN X9 a3)) (hw (bF a1) (hw (bT a0) (hk (lO 2 jW g5 rfl) (hw (bT a0) (hk (qI u n (by omega) (by omega)) (hk (bT a0) (hk (lD (aN X9 a2)) (hw (bT a0) (hk (lO 2 jW g5 rfl) (hw (bT a0) (hk (qI v n (by omega) (by omega)) (hk (bT a0) (hk (lD (aN X9 a3)) (hk (bT a0) (hk (bF a1) (hk (bT a0) (hk (bF a1) hn))))))))))))))))))))))))))),X9,a6,(by show Value.bool _=Value.bool _;rw[xAb (by omega)])⟩
theorem Ik{n rb ro rc:Nat}{rank:List Int}{u:Int}{M:aB}(h:aH rank (aC rb ro n rc) M)(hl:rank.length=n)(hu:0<=u/\u<(n:Int)):bA prog 3 ⟨rb,ro+(u:Int).toNat*1,none⟩ M=some (i64 (kD rank u)):=by
 have ht:rank[u.toNat]?=some rank[u.toNat]:=xAe (by omega)
 rw[xX ht]
 exact iX (P:=prog) (ty:=3) h ht rfl bQ
abbrev Q81:=FC (gN (Vr pJ pI pI) fun x=>GX x.1/\(0<=x.2.1/\x.2.1<(x.1.n:Int))/\(0<=x.2.2/\x.2.2<(x.1.n:Int))/\Fb x.1.rank x.2.1 x.2.2=true) (plain pB) (fun _=>true)
theorem Yd{x:IX×Int×Int}{lv:List Value}{M:aB}(hM:aA M)(h:(gN (Vr pJ pI pI) fun x:IX×Int×Int=>GX x.1/\(0<=x.2.1/\x.2.1<(x.1.n:Int))/\(0<=x.2.2/\x.2.2<(x.1.n:Int))/\Fb x.1.rank x.2.1 x.2.2=true) x lv M): ∃v M',kR prog [] 81 Q81 lv M v M':=by
 refine FC.con h ?_
 obtain⟨⟨g0,g1,g2,rfl,k0,k1,k2⟩,hg,hu,hv,hb⟩:=h
 obtain⟨ea,ec,rb,ro,rc,aa,ac,ub,uc,db,dc,rfl,h1,h2,h3,h4,h5⟩:=qD k0 hg
 have a0:=hg.rk.len
 obtain⟨⟨n,es,rank,arcs,up,down⟩,u,v⟩:=x
 obtain rfl:=k1
 obtain rfl:=k2
 simp only at hu hv hb h2 a0⊢
 have lu:=Ik h2 a0 hu
 have a2:=Ik h2 a0 hv
 have a1:=Go.Am.jL h2 (by omega)
 unfold Fb at hb
 simp only [Bool.or_eq_true,Bool.and_eq_true,decide_eq_true_eq] at hb
 by_cases h0:kD rank u<0
 ·obtain⟨w,M',q1,q2,_,q3⟩:=w61j0 n ea ec rb ro rc aa ac ub uc db dc es rank arcs up down u v hM a1 hu hv (xAb h0) lu
  exact⟨w,M',q1,q2,q3⟩
 ·obtain⟨w,M',q1,q2,_,q3⟩:=w61j1 n ea ec rb ro rc aa ac ub uc db dc es rank arcs up down u v hM a1 hu hv (by omega) (xAa h0) (xAb (by omega)) lu a2
  exact⟨w,M',q1,q2,q3⟩
theorem rle0(x ab ao L ac i n:Nat)(ev rv uv dv:Value)(es:List E4)(rank:List Int)(arcs:List A7)(up down:List (List Int))(e:E4)(j:Int){M M0:aB}(hM:aA M)(X0:Ext M0 M)(hab:ab<M0.next)(gx:M.get x=some ⟨[i64 (n:Int),ev,rv,aC ab ao L ac,uv,dv],32,6,0,true⟩)(nx_:M0.next<=x)(e6:pJ (⟨n,es,rank,arcs,up,down⟩:IX) (.agg ⟨[i64 n,ev,rv,.slice (some ⟨ab,ao,none⟩) L ac,uv,dv]⟩) M0)(hg:GX (⟨n,es,rank,arcs,up,down⟩:IX))(hj:0<=j/\j<(es.length:Int))(he:es[j.toNat]?=some e)(e1:0<=e.f/\e.f<(n:Int))(e2:0<=e.t/\e.t<(n:Int))(e3:0<=e.m/\e.m<5)(e4:0<=e.c/\e.c<=2147483647)(c9:(decide ((i:Int)<(L:Int)))=true)(c1:bA prog 42 ⟨ab,ao+((i:Int):Int).toNat*7,none⟩ M0=some (.agg ⟨[i64 e.f,i64 e.t,i64 e.m,i64 e.c,i64 j,i64 0,i64 0]⟩)): ∃T1 M' a1,Rd prog [] (q45.loopAt 0) Tryz.f45.ntmps (fr [(1,(pt x 0)),(3,eW),(4,(i64 (i:Int)))]) M .normal T1 M'/\ [1,3,4].map T1.get= [some (pt x 0),some (aC a1 0 1 1),some (i64 (IntKind.wrap .i64 ((i:Int)+(1:Int))))]/\Ext M0 M'/\aA M'/\M'.get x=some ⟨[i64 (n:Int),ev,rv,aC ab ao L ac,uv,dv],32,6,0,true⟩/\M0.next<=a1/\M'.get a1=some ⟨[i64 1],3,1,0,true⟩/\x≠a1:=by
 obtain⟨b1,M2,b2,d6,g5,E6,e5⟩:=bC hM ⟨[i64 0,i64 0,i64 0,i64 0,i64 0,i64 0,i64 0],42,7,0,true⟩
 have e8:=lQ b2 X0
 have b0:=fJ gx b2
 have g8:=E6.old gx
 have d2:=X0.trans E6
 obtain⟨a3,f1,a0,c2,c7,b7,e9⟩:=aZ (o:=0) (v:=(.agg ⟨[i64 e.f,i64 e.t,i64 e.m,i64 e.c,i64 j,i64 0,i64 0]⟩)) (new:= [i64 e.f,i64 e.t,i64 e.m,i64 e.c,i64 j,i64 0,i64 0]) d2 e8 e5 kG g5 rfl rfl (Nat.zero_le _) (xAd rfl) rfl
 have a5:=(c2 _ b0).trans g8
 obtain⟨f2,f3,a6,f0,e7,d5,c4,b8,d1⟩:=aL (x:=((⟨n,es,rank,arcs,up,down⟩:IX),iJ j e)) b7 Yc (⟨⟨_,_,rfl,AP.Ext (R:=pJ) e6 c7,rfl⟩,hg,e,hj.1,he,rfl⟩)
 have d7:=c4.old a5
 have b6:f2=(.bool true):=d1
 subst b6
 have d3:=c7.trans c4
 obtain⟨a9,a7,b3,b4,d8,c5,b9⟩:=bC b8 ⟨[i64 1],3,1,0,true⟩
 have d0:=c5.old d7
 have c8:=d3.trans c5
 obtain⟨a1,a8,a2,b5,d9,c6,c0⟩:=bC b9 ⟨[i64 1],3,1,0,true⟩
 have c3:=lQ a2 c8
 have a4:=fJ d0 a2
 have e0:=c6.old d0
 have d4:=c8.trans c6
 obtain⟨T1,h1,h2⟩:=Rd.told (tb:=[]) (n:=200) (F:=[aR 5 (aC ab ao L ac),aQ 10,aR 14 (aC ab ao L ac),aQ 18,aR 20 (.agg ⟨[i64 e.f,i64 e.t,i64 e.m,i64 e.c,i64 j,i64 0,i64 0]⟩),bJ 22 (pt b1 0) M2,jE 24 a3,aR 28 (i64 e.f),aO 33,aO 35,aR 36 (i64 e.f),aO 37,aO 39,aO 41,aR 42 (i64 (n:Int)),aO 43,aO 46,aO 49,aO 51,aR 52 (i64 e.t),aO 53,aO 56,aO 59,aO 61,aR 62 (i64 e.t),aO 63,aO 65,aO 67,aR 68 (i64 (n:Int)),aO 69,aO 72,aO 75,aO 77,aR 78 (i64 e.m),aO 79,aO 82,aO 85,aO 87,aR 88 (i64 e.m),aO 89,aO 92,aO 95,aO 97,aR 98 (i64 e.c),aO 99,aO 102,aO 105,aO 107,aR 108 (i64 e.c),aO 109,aO 112,aO 113,aR 119 (i64 j),aO 122,aR 124 (.agg ⟨[i64 (n:Int),ev,rv,aC ab ao L ac,uv,dv]⟩),aR 126 (.agg ⟨[i64 e.f,i64 e.t,i64 e.m,i64 e.c,i64 j,i64 0,i64 0]⟩),bJ 128 (.bool true) a6,bJ 142 (aC a9 0 1 2) a7,.at 144 (1,.val (aC a1 0 1 1),a8)]) aG aF (fun B=>lV (gH 80 Q80 (gL _))) (fun _ _=>rfl) (by kernel_rfl) (hk (lO 3 iU gx rfl) (hk (bT c9) (hk (lO 3 iU gx rfl) (hk (qI (i:Int) L (by omega) (by simp at c9;omega)) (hk (lD (aN X0 c1)) (hq (.eq (cM prog 42 M) (1,.val (pt b1 0),M2)) (bN (by rw[<-b2,<-d6];kernel_rfl) xAc) (hq (qS 42 b1 0 (.agg ⟨[i64 e.f,i64 e.t,i64 e.m,i64 e.c,i64 j,i64 0,i64 0]⟩) M2 a3) (dB f1) (hk (lO 0 bQ a0 rfl) (hk (bF (x:=decide (e.f<(0:Int))) (xAa (by omega))) (hk (bF (x:=decide (e.f<(0:Int))) (xAa (by omega))) (hk (lO 0 bQ a0 rfl) (hk (bF (x:=decide (e.f<(0:Int))) (xAa (by omega))) (hk (bF (x:=decide (e.f<(0:Int))) (xAa (by omega))) (hk (bF (x:=decide (e.f<(0:Int))) (xAa (by omega))) (hk (lO 0 bQ a5 rfl) (hk (bF (x:=decide (e.f<(0:Int))) (xAa (by omega))) (hk (bF (x:=decide (e.f<(0:Int))) (xAa (by omega))) (hk (bF (x:=decide (e.f>=(n:Int))) (xAa (by omega))) (hk (bF (x:=decide (e.f>=(n:Int))) (xAa (by omega))) (hk (lO 1 bQ a0 rfl) (hk (bF (x:=decide (e.f>=(n:Int))) (xAa (by omega))) (hk (bF (x:=decide (e.f>=(n:Int))) (xAa (by omega))) (hk (bF (x:=decide (e.t<(0:Int))) (xAa (by omega))) (hk (bF (x:=decide (e.t<(0:Int))) (xAa (by omega))) (hk (lO 1 bQ a0 rfl) (hk (bF (x:=decide (e.t<(0:Int))) (xAa (by omega))) (hk (bF (x:=decide (e.t<(0:Int))) (xAa (by omega))) (hk (bF (x:=decide (e.t<(0:Int))) (xAa (by omega))) (hk (lO 0 bQ a5 rfl) (hk (bF (x:=decide (e.t<(0:Int))) (xAa (by omega))) (hk (bF (x:=decide (e.t<(0:Int))) (xAa (by omega))) (hk (bF (x:=decide (e.t>=(n:Int))) (xAa (by omega))) (hk (bF (x:=decide (e.t>=(n:Int))) (xAa (by omega))) (hk (lO 2 bQ a0 rfl) (hk (bF (x:=decide (e.t>=(n:Int))) (xAa (by omega))) (hk (bF (x:=decide (e.t>=(n:Int))) (xAa (by omega))) (hk (bF (x:=decide (e.m<(0:Int))) (xAa (by omega))) (hk (bF (x:=decide (e.m<(0:Int))) (xAa (by omega))) (hk (lO 2 bQ a0 rfl) (hk (bF (x:=decide (e.m<(0:Int))) (xAa (by omega))) (hk (bF (x:=decide (e.m<(0:Int))) (xAa (by omega))) (hk (bF (x:=decide (e.m>=(5:Int))) (xAa (by omega))) (hk (bF (x:=decide (e.m>=(5:Int))) (xAa (by omega))) (hk (lO 3 bQ a0 rfl) (hk (bF (x:=decide (e.m>=(5:Int))) (xAa (by omega))) (hk (bF (x:=decide (e.m>=(5:Int))) (xAa (by omega))) (hk (bF (x:=decide (e.c<(0:Int))) (xAa (by omega))) (hk (bF (x:=decide (e.c<(0:Int))) (xAa (by omega))) (hk (lO 3 bQ a0 rfl) (hk (bF (x:=decide (e.c<(0:Int))) (xAa (by omega))) (hk (bF (x:=decide (e.c<(0:Int))) (xAa (by omega))) (hk (bF (x:=decide (e.c>(4398046511104:Int))) (xAa (by omega))) (hk (lO 4 bQ a0 rfl) (hk (bF (x:=j==(-1:Int)) (beq_eq_false_iff_ne.2 (by omega))) (hq (qL 32 x 0 a3 (.agg ⟨[i64 (n:Int),ev,rv,aC ab ao L ac,uv,dv]⟩)) (lA ⟨uU,rR⟩ a5 rfl) (hq (qL 42 b1 0 a3 (.agg ⟨[i64 e.f,i64 e.t,i64 e.m,i64 e.c,i64 j,i64 0,i64 0]⟩)) (lA ⟨sN,kG⟩ a0 rfl) (hq (qC 80 [.agg ⟨[i64 (n:Int),ev,rv,aC ab ao L ac,uv,dv]⟩,.agg ⟨[i64 e.f,i64 e.t,i64 e.m,i64 e.c,i64 j,i64 0,i64 0]⟩] a3 (.bool true) a6) (aK rfl f0 e7 d5) (hq (.eq (bH prog 22 1 [(0,(i64 1))] a6) (1,.val (aC a9 0 1 2),a7)) (bN (by rw[<-b3,<-b4];kernel_rfl) xAc) (hq (.q (.append [22,22] eW (aC a9 0 1 2) a7) (1,.val (aC a1 0 1 1),a8)) (kB (by rw[<-a2,<-b5];exact append_nil (w:=1) (by kernel_rfl) (by kernel_rfl) (y:=8) (by kernel_rfl) (by decide) (by decide) d8 rfl rfl rfl) xAc) hn)))))))))))))))))))))))))))))))))))))))))))))))))))))))))))
 exact⟨T1,a8,a1,h1,h2,d4,c0,e0,c3,d9,a4⟩
theorem rle1(x ab ao L ac i n:Nat)(ev rv uv dv:Value)(es:List E4)(rank:List Int)(arcs:List A7)(up down:List (List Int))(wb:Nat)(cs:List Value)(e:E4)(j:Int){M M0:aB}(hM:aA M)(X0:Ext M0 M)(hab:ab<M0.next)(gx:M.get x=some ⟨[i64 (n:Int),ev,rv,aC ab ao L ac,uv,dv],32,6,0,true⟩)(nx_:M0.next<=x)(gw:M.get wb=some ⟨cs,3,1,0,true⟩)(f6:M0.next<=wb)(b7:x≠wb)(f2:pJ (⟨n,es,rank,arcs,up,down⟩:IX) (.agg ⟨[i64 n,ev,rv,.slice (some ⟨ab,ao,none⟩) L ac,uv,dv]⟩) M0)(hg:GX (⟨n,es,rank,arcs,up,down⟩:IX))(hj:0<=j/\j<(es.length:Int))(he:es[j.toNat]?=some e)(e1:0<=e.f/\e.f<(n:Int))(e2:0<=e.t/\e.t<(n:Int))(e3:0<=e.m/\e.m<5)(e4:0<=e.c/\e.c<=2147483647)(d2:(decide ((i:Int)<(L:Int)))=true)(c7:bA prog 42 ⟨ab,ao+((i:Int):Int).toNat*7,none⟩ M0=some (.agg ⟨[i64 e.f,i64 e.t,i64 e.m,i64 e.c,i64 j,i64 0,i64 0]⟩))(d3:i<1073741824/\(cs).length=i*1): ∃T1 M' a1,Rd prog [] (q45.loopAt 0) Tryz.f45.ntmps (fr [(1,(pt x 0)),(3,(aC wb 0 i i)),(4,(i64 (i:Int)))]) M .normal T1 M'/\ [1,3,4].map T1.get= [some (pt x 0),some (aC a1 0 (i+1) (i+1)),some (i64 (IntKind.wrap .i64 ((i:Int)+(1:Int))))]/\Ext M0 M'/\aA M'/\M'.get x=some ⟨[i64 (n:Int),ev,rv,aC ab ao L ac,uv,dv],32,6,0,true⟩/\M0.next<=a1/\M'.get a1=some ⟨cs++ [i64 1],3,1,0,true⟩/\x≠a1:=by
 obtain⟨b1,M2,a7,d9,g5,E6,f1⟩:=bC hM ⟨[i64 0,i64 0,i64 0,i64 0,i64 0,i64 0,i64 0],42,7,0,true⟩
 have f4:=lQ a7 X0
 have b6:=fJ gx a7
 have a4:=fJ gw a7
 have g8:=E6.old gx
 have g9:=E6.old gw
 have d5:=X0.trans E6
 obtain⟨a3,g0,a0,a6,d0,c3,f7⟩:=aZ (o:=0) (v:=(.agg ⟨[i64 e.f,i64 e.t,i64 e.m,i64 e.c,i64 j,i64 0,i64 0]⟩)) (new:= [i64 e.f,i64 e.t,i64 e.m,i64 e.c,i64 j,i64 0,i64 0]) d5 f4 f1 kG g5 rfl rfl (Nat.zero_le _) (xAd rfl) rfl
 have a8:=(a6 _ b6).trans g8
 have e0:=(a6 _ a4).trans g9
 obtain⟨Yp,g1,b2,f8,f3,d8,a9,c4,d4⟩:=aL (x:=((⟨n,es,rank,arcs,up,down⟩:IX),iJ j e)) c3 Yc (⟨⟨_,_,rfl,AP.Ext (R:=pJ) f2 d0,rfl⟩,hg,e,hj.1,he,rfl⟩)
 have e5:=a9.old a8
 have e6:=a9.old e0
 have c1:Yp=(.bool true):=d4
 subst c1
 have d6:=d0.trans a9
 obtain⟨b5,b3,b8,b9,e7,b0,c5⟩:=bC c4 ⟨[i64 1],3,1,0,true⟩
 have c2:=b0.old e5
 have e8:=b0.old e6
 have d1:=d6.trans b0
 obtain⟨a1,b4,a2,c0,e9,d7,c6,c8⟩:=tO d1 f6 c5 ⟨cs++ [i64 1],3,1,0,true⟩
 have c9:=lQ a2 d1
 have a5:=fJ c2 a2
 have f0:=(c8 _ b7 (aB.lt_of_get c2)).trans c2
 obtain⟨T1,h1,h2⟩:=Rd.told (tb:=[]) (n:=200) (F:=[aR 5 (aC ab ao L ac),aQ 10,aR 14 (aC ab ao L ac),aQ 18,aR 20 (.agg ⟨[i64 e.f,i64 e.t,i64 e.m,i64 e.c,i64 j,i64 0,i64 0]⟩),bJ 22 (pt b1 0) M2,jE 24 a3,aR 28 (i64 e.f),aO 33,aO 35,aR 36 (i64 e.f),aO 37,aO 39,aO 41,aR 42 (i64 (n:Int)),aO 43,aO 46,aO 49,aO 51,aR 52 (i64 e.t),aO 53,aO 56,aO 59,aO 61,aR 62 (i64 e.t),aO 63,aO 65,aO 67,aR 68 (i64 (n:Int)),aO 69,aO 72,aO 75,aO 77,aR 78 (i64 e.m),aO 79,aO 82,aO 85,aO 87,aR 88 (i64 e.m),aO 89,aO 92,aO 95,aO 97,aR 98 (i64 e.c),aO 99,aO 102,aO 105,aO 107,aR 108 (i64 e.c),aO 109,aO 112,aO 113,aR 119 (i64 j),aO 122,aR 124 (.agg ⟨[i64 (n:Int),ev,rv,aC ab ao L ac,uv,dv]⟩),aR 126 (.agg ⟨[i64 e.f,i64 e.t,i64 e.m,i64 e.c,i64 j,i64 0,i64 0]⟩),bJ 128 (.bool true) b2,bJ 142 (aC b5 0 1 2) b3,.at 144 (2,.val (aC a1 0 (i+1) (i+1)),b4)]) aG aF (fun B=>lV (gH 80 Q80 (gL _))) (fun _ _=>rfl) (by kernel_rfl) (hk (lO 3 iU gx rfl) (hk (bT d2) (hk (lO 3 iU gx rfl) (hk (qI (i:Int) L (by omega) (by simp at d2;omega)) (hk (lD (aN X0 c7)) (hq (.eq (cM prog 42 M) (1,.val (pt b1 0),M2)) (bN (by rw[<-a7,<-d9];kernel_rfl) xAc) (hq (qS 42 b1 0 (.agg ⟨[i64 e.f,i64 e.t,i64 e.m,i64 e.c,i64 j,i64 0,i64 0]⟩) M2 a3) (dB g0) (hk (lO 0 bQ a0 rfl) (hk (bF (x:=decide (e.f<(0:Int))) (xAa (by omega))) (hk (bF (x:=decide (e.f<(0:Int))) (xAa (by omega))) (hk (lO 0 bQ a0 rfl) (hk (bF (x:=decide (e.f<(0:Int))) (xAa (by omega))) (hk (bF (x:=decide (e.f<(0:Int))) (xAa (by omega))) (hk (bF (x:=decide (e.f<(0:Int))) (xAa (by omega))) (hk (lO 0 bQ a8 rfl) (hk (bF (x:=decide (e.f<(0:Int))) (xAa (by omega))) (hk (bF (x:=decide (e.f<(0:Int))) (xAa (by omega))) (hk (bF (x:=decide (e.f>=(n:Int))) (xAa (by omega))) (hk (bF (x:=decide (e.f>=(n:Int))) (xAa (by omega))) (hk (lO 1 bQ a0 rfl) (hk (bF (x:=decide (e.f>=(n:Int))) (xAa (by omega))) (hk (bF (x:=decide (e.f>=(n:Int))) (xAa (by omega))) (hk (bF (x:=decide (e.t<(0:Int))) (xAa (by omega))) (hk (bF (x:=decide (e.t<(0:Int))) (xAa (by omega))) (hk (lO 1 bQ a0 rfl) (hk (bF (x:=decide (e.t<(0:Int))) (xAa (by omega))) (hk (bF (x:=decide (e.t<(0:Int))) (xAa (by omega))) (hk (bF (x:=decide (e.t<(0:Int))) (xAa (by omega))) (hk (lO 0 bQ a8 rfl) (hk (bF (x:=decide (e.t<(0:Int))) (xAa (by omega))) (hk (bF (x:=decide (e.t<(0:Int))) (xAa (by omega))) (hk (bF (x:=decide (e.t>=(n:Int))) (xAa (by omega))) (hk (bF (x:=decide (e.t>=(n:Int))) (xAa (by omega))) (hk (lO 2 bQ a0 rfl) (hk (bF (x:=decide (e.t>=(n:Int))) (xAa (by omega))) (hk (bF (x:=decide (e.t>=(n:Int))) (xAa (by omega))) (hk (bF (x:=decide (e.m<(0:Int))) (xAa (by omega))) (hk (bF (x:=decide (e.m<(0:Int))) (xAa (by omega))) (hk (lO 2 bQ a0 rfl) (hk (bF (x:=decide (e.m<(0:Int))) (xAa (by omega))) (hk (bF (x:=decide (e.m<(0:Int))) (xAa (by omega))) (hk (bF (x:=decide (e.m>=(5:Int))) (xAa (by omega))) (hk (bF (x:=decide (e.m>=(5:Int))) (xAa (by omega))) (hk (lO 3 bQ a0 rfl) (hk (bF (x:=decide (e.m>=(5:Int))) (xAa (by omega))) (hk (bF (x:=decide (e.m>=(5:Int))) (xAa (by omega))) (hk (bF (x:=decide (e.c<(0:Int))) (xAa (by omega))) (hk (bF (x:=decide (e.c<(0:Int))) (xAa (by omega))) (hk (lO 3 bQ a0 rfl) (hk (bF (x:=decide (e.c<(0:Int))) (xAa (by omega))) (hk (bF (x:=decide (e.c<(0:Int))) (xAa (by omega))) (hk (bF (x:=decide (e.c>(4398046511104:Int))) (xAa (by omega))) (hk (lO 4 bQ a0 rfl) (hk (bF (x:=j==(-1:Int)) (beq_eq_false_iff_ne.2 (by omega))) (hq (qL 32 x 0 a3 (.agg ⟨[i64 (n:Int),ev,rv,aC ab ao L ac,uv,dv]⟩)) (lA ⟨uU,rR⟩ a8 rfl) (hq (qL 42 b1 0 a3 (.agg ⟨[i64 e.f,i64 e.t,i64 e.m,i64 e.c,i64 j,i64 0,i64 0]⟩)) (lA ⟨sN,kG⟩ a0 rfl) (hq (qC 80 [.agg ⟨[i64 (n:Int),ev,rv,aC ab ao L ac,uv,dv]⟩,.agg ⟨[i64 e.f,i64 e.t,i64 e.m,i64 e.c,i64 j,i64 0,i64 0]⟩] a3 (.bool true) b2) (aK rfl f8 f3 d8) (hq (.eq (bH prog 22 1 [(0,(i64 1))] b2) (1,.val (aC b5 0 1 2),b3)) (bN (by rw[<-b8,<-b9];kernel_rfl) xAc) (hq (.q (.append [22,22] (aC wb 0 i i) (aC b5 0 1 2) b3) (2,.val (aC a1 0 (i+1) (i+1)),b4)) (kB (by rw[<-a2,<-c0];exact nI (w:=1) (by kernel_rfl) (by kernel_rfl) (by kernel_rfl) (y:=8) (by kernel_rfl) (by decide) (by decide) d3.1 e7 rfl rfl rfl e8 d3.2 rfl rfl rfl rfl) (Nat.succ_ne_zero _)) hn)))))))))))))))))))))))))))))))))))))))))))))))))))))))))))
 exact⟨T1,b4,a1,h1,h2,d7,c6,f0,c9,e9,a5⟩
theorem rls(x ab ao L ac i n:Nat)(ev rv uv dv:Value)(es:List E4)(rank:List Int)(arcs:List A7)(up down:List (List Int))(wb:Nat)(cs:List Value)(j k:Nat)(p q:A7)(z3:Int)(z4:Int){M M0:aB}(hM:aA M)(X0:Ext M0 M)(n5:ab<M0.next)(gx:M.get x=some ⟨[i64 (n:Int),ev,rv,aC ab ao L ac,uv,dv],32,6,0,true⟩)(nx_:M0.next<=x)(gw:M.get wb=some ⟨cs,3,1,0,true⟩)(o1:M0.next<=wb)(h3:x≠wb)(hjk:j<i/\k<i)(d2:q.m=p.m)(d1:p.t=q.f)(n8:IntKind.wrap .i64 (p.c+q.c)=p.c+q.c)(e1:0<=p.f/\p.f<(n:Int))(e2:0<=q.t/\q.t<(n:Int))(e3:0<=p.m/\p.m<5)(e4:0<=p.c+q.c/\p.c+q.c<=4398046511104)(n9:IntKind.wrap .i64 (z3+z4)=z3+z4)(hz:0<=z3+z4/\z3+z4<=1000)(f1:(decide ((i:Int)<(L:Int)))=true)(i8:bA prog 42 ⟨ab,ao+((i:Int):Int).toNat*7,none⟩ M0=some (.agg ⟨[i64 p.f,i64 q.t,i64 p.m,i64 (p.c+q.c),i64 (-1:Int),i64 (j:Int),i64 (k:Int)]⟩))(i9:bA prog 42 ⟨ab,ao+((j:Int):Int).toNat*7,none⟩ M0=some (.agg ⟨(bM p)⟩))(j0:bA prog 42 ⟨ab,ao+((k:Int):Int).toNat*7,none⟩ M0=some (.agg ⟨(bM q)⟩))(n6:(cs)[0+((j:Int):Int).toNat*1]?=some (i64 z3))(n7:(cs)[0+((k:Int):Int).toNat*1]?=some (i64 z4))(l2:i<1073741824/\(cs).length=i*1): ∃T1 M' a4,Rd prog [] (q45.loopAt 0) Tryz.f45.ntmps (fr [(1,(pt x 0)),(3,(aC wb 0 i i)),(4,(i64 (i:Int)))]) M .normal T1 M'/\ [1,3,4].map T1.get= [some (pt x 0),some (aC a4 0 (i+1) (i+1)),some (i64 (IntKind.wrap .i64 ((i:Int)+(1:Int))))]/\Ext M0 M'/\aA M'/\M'.get x=some ⟨[i64 (n:Int),ev,rv,aC ab ao L ac,uv,dv],32,6,0,true⟩/\M0.next<=a4/\M'.get a4=some ⟨cs++ [i64 (IntKind.wrap .i64 (z3+z4))],3,1,0,true⟩/\x≠a4:=by
 obtain⟨b1,M2,f2,l5,g5,E6,n4⟩:=bC hM ⟨[i64 0,i64 0,i64 0,i64 0,i64 0,i64 0,i64 0],42,7,0,true⟩
 have o0:M0.next<=b1:=(lQ f2 X0:)
 have h0:=fJ gx f2
 have d6:=fJ gw f2
 have g8:=E6.old gx
 have g9:=E6.old gw
 have l3:=X0.trans E6
 obtain⟨a0,o4,a8,e8,d0,i0,o2⟩:=aZ (o:=0) (v:=(.agg ⟨[i64 p.f,i64 q.t,i64 p.m,i64 (p.c+q.c),i64 (-1:Int),i64 (j:Int),i64 (k:Int)]⟩)) (new:= [i64 p.f,i64 q.t,i64 p.m,i64 (p.c+q.c),i64 (-1:Int),i64 (j:Int),i64 (k:Int)]) l3 o0 n4 kG g5 rfl rfl (Nat.zero_le _) (xAd rfl) rfl
 have f3:=(e8 _ h0).trans g8
 have k6:=(e8 _ d6).trans g9
 obtain⟨g4,a2⟩:=Jk a0 a0 []
 have f0:=Nk a2 d0
 have j1:g4.log= []:=by rw[a2]
 have a6:g4.next=a0.next:=by rw[a2]
 have i1:=Jl a2 i0
 have c0:=xAf n5 d0.next
 have c8:=aB.lt_of_get f3
 have f4:=cF a2 f3
 have g0:=aB.lt_of_get k6
 have k7:=cF a2 k6
 have c1:=aB.lt_of_get a8
 have f6:=cF a2 a8
 obtain⟨b5,b2,b4,e0,k8,d3,i2⟩:=bC i1 ⟨[i64 0,i64 0,i64 0,i64 0,i64 0,i64 0,i64 0],42,7,0,true⟩
 have j6:M0.next<=b5:=(lQ b4 f0:)
 have d7:=fJ f4 b4
 have c4:=fJ k7 b4
 have c2:=fJ f6 b4
 have k9:=d3.old f4
 have l0:=d3.old k7
 have l1:=d3.old f6
 have j2:b2.log= []:=by rw[<-e0];exact j1
 have o3:=d3.next
 have k2:=f0.trans d3
 obtain⟨b7,a7,b0,e5,l6,d4,i3⟩:=bC i2 ⟨[i64 0,i64 0,i64 0,i64 0,i64 0,i64 0,i64 0],42,7,0,true⟩
 have j7:M0.next<=b7:=(lQ b0 k2:)
 have d8:=fJ k9 b0
 have c5:=fJ l0 b0
 have c3:=fJ l1 b0
 have a9:=fJ k8 b0
 have l7:=d4.old k9
 have l8:=d4.old l0
 have l9:=d4.old l1
 have m0:=d4.old k8
 have j3:a7.log= []:=by rw[<-e5];exact j2
 have k3:=k2.trans d4
 obtain⟨c9,q57,m1,b8,k4,i4,j8⟩:=aZ (o:=0) (v:=(.agg ⟨(bM p)⟩)) (new:= (bM p)) k3 j6 i3 kG m0 rfl rfl (Nat.zero_le _) (xAd rfl) rfl
 have m2:=(b8 _ d7).trans l7
 have m3:=(b8 _ c4).trans l8
 have m4:=(b8 _ c2).trans l9
 have m5:=(b8 _ (Ne.symm a9)).trans l6
 have j4:c9.log= [b5]:=by rw[j8,j3]
 obtain⟨a1,o5,m6,b9,k5,i5,j9⟩:=aZ (o:=0) (v:=(.agg ⟨(bM q)⟩)) (new:= (bM q)) k4 j7 i4 kG m5 rfl rfl (Nat.zero_le _) (xAd rfl) rfl
 have m7:=(b9 _ d8).trans m2
 have m8:=(b9 _ c5).trans m3
 have m9:=(b9 _ c3).trans m4
 have n0:=(b9 _ a9).trans m1
 have j5:a1.log= [b7,b5]:=by rw[j9,j4]
 obtain⟨g2,a5⟩: ∃m:aB,m=(aB.mk a1.blks a1.next a1.hide (a1.log++a0.log)):=⟨_,rfl⟩
 have l4:Ext M0 g2:=by rw[a5];exact Ext.join (d0) (k5)
 have i6:aA g2:=by rw[a5];exact i5
 have n1:=cF a5 m7
 have h8:=cF a5 m8
 have c7:=cF a5 m9
 have f7:=cF a5 n0
 have f8:=cF a5 m6
 obtain⟨g7,g3,h4,h5,n2,g1,i7⟩:=bC i6 ⟨[i64 (IntKind.wrap .i64 (z3+z4))],3,1,0,true⟩
 have h9:=g1.old n1
 have n3:=g1.old h8
 have d5:=l4.trans g1
 obtain⟨a4,b6,b3,d9,h6,g6,e6,e7⟩:=tO d5 o1 i7 ⟨cs++ [i64 (IntKind.wrap .i64 (z3+z4))],3,1,0,true⟩
 have e9:M0.next<=a4:=(lQ b3 d5:)
 have c6:=fJ h9 b3
 have h7:=(e7 _ h3 (aB.lt_of_get h9)).trans h9
 have a3:oR prog [] 200 Tryz.f45 (q45.loopAt 0) [(1,(pt x 0)),(3,(aC wb 0 i i)),(4,(i64 (i:Int)))] M [aR 5 (aC ab ao L ac),aQ 10,aR 14 (aC ab ao L ac),aQ 18,aR 20 (.agg ⟨[i64 p.f,i64 q.t,i64 p.m,i64 (p.c+q.c),i64 (-1:Int),i64 (j:Int),i64 (k:Int)]⟩),bJ 22 (pt b1 0) M2,jE 24 a0,aR 28 (i64 p.f),aO 33,aO 35,aR 36 (i64 p.f),aO 37,aO 39,aO 41,aR 42 (i64 (n:Int)),aO 43,aO 46,aO 49,aO 51,aR 52 (i64 q.t),aO 53,aO 56,aO 59,aO 61,aR 62 (i64 q.t),aO 63,aO 65,aO 67,aR 68 (i64 (n:Int)),aO 69,aO 72,aO 75,aO 77,aR 78 (i64 p.m),aO 79,aO 82,aO 85,aO 87,aR 88 (i64 p.m),aO 89,aO 92,aO 95,aO 97,aR 98 (i64 (p.c+q.c)),aO 99,aO 102,aO 105,aO 107,aR 108 (i64 (p.c+q.c)),aO 109,aO 112,aO 113,aR 119 (i64 (-1:Int)),aQ 122,aR 126 (i64 (j:Int)),aO 131,aO 133,aR 134 (i64 (j:Int)),aO 135,aO 137,aO 140,aO 143,aO 145,aR 146 (i64 (k:Int)),aO 147,aO 150,aO 153,aO 155,aR 156 (i64 (k:Int)),aO 157,aO 159,aO 162,aO 163,aR 167 (aC ab ao L ac),aR 171 (i64 (j:Int)),aQ 173,aR 175 (.agg ⟨(bM p)⟩),aR 179 (aC ab ao L ac),aR 183 (i64 (k:Int)),aQ 185,aR 187 (.agg ⟨(bM q)⟩),bJ 189 (pt b5 0) b2,bJ 191 (pt b7 0) (aB.mk a7.blks a7.next (aV 0 [⟨12,1,a0.next,b2.next⟩,⟨5,1,a0.next,a0.next⟩,⟨3,1,a0.next,a0.next⟩,⟨1,1,a0.next,a0.next⟩]++a0.hide) a7.log),jE 193 c9,jE 195 a1,aR 199 (i64 p.m),aR 203 (i64 p.m),aO 208,aO 210,aR 211 (i64 q.m),aO 212,aO 214,aR 215 (i64 p.m),aO 216,aO 219,aO 222,aO 224,aR 225 (i64 p.f),aO 226,aO 228,aR 229 (i64 p.f),aO 230,aO 233,aO 236,aO 238,aR 239 (i64 p.t),aO 240,aO 242,aR 243 (i64 q.f),aO 244,aO 247,aO 250,aO 252,aR 253 (i64 q.t),aO 254,aO 256,aR 257 (i64 q.t),aO 258,aO 261,aO 264,aO 266,aR 267 (i64 p.c),aO 268,aO 270,aR 271 (i64 q.c),aO 272,aO 274,aO 276,aR 277 (i64 (p.c+q.c)),aO 278,aO 281,aO 282,aR 288 (i64 (j:Int)),aQ 290,aR 292 (i64 z3),aR 298 (i64 (k:Int)),aQ 300,aR 302 (i64 z4),aO 311,bJ 317 (aC g7 0 1 2) g3,.at 319 (2,.val (aC a4 0 (i+1) (i+1)),b6)] [1,3,4]=some (.normal,[some (pt x 0),some (aC a4 0 (i+1) (i+1)),some (i64 (IntKind.wrap .i64 ((i:Int)+(1:Int))))],b6,[qL 29 x 3 M (aC ab ao L ac),qT (decide ((i:Int)<(L:Int))),qL 29 x 3 M (aC ab ao L ac),.q (.inb (i:Int) L) (eD true),qL 42 ab (ao+((i:Int):Int).toNat*7) M (.agg ⟨[i64 p.f,i64 q.t,i64 p.m,i64 (p.c+q.c),i64 (-1:Int),i64 (j:Int),i64 (k:Int)]⟩),.eq (cM prog 42 M) (1,.val (pt b1 0),M2),qS 42 b1 0 (.agg ⟨[i64 p.f,i64 q.t,i64 p.m,i64 (p.c+q.c),i64 (-1:Int),i64 (j:Int),i64 (k:Int)]⟩) M2 a0,qL 3 b1 0 a0 (i64 p.f),qF (decide (p.f<(0:Int))),qF (decide (p.f<(0:Int))),qL 3 b1 0 a0 (i64 p.f),qF (decide (p.f<(0:Int))),qF (decide (p.f<(0:Int))),qF (decide (p.f<(0:Int))),qL 3 x 0 a0 (i64 (n:Int)),qF (decide (p.f<(0:Int))),qF (decide (p.f<(0:Int))),qF (decide (p.f>=(n:Int))),qF (decide (p.f>=(n:Int))),qL 3 b1 1 a0 (i64 q.t),qF (decide (p.f>=(n:Int))),qF (decide (p.f>=(n:Int))),qF (decide (q.t<(0:Int))),qF (decide (q.t<(0:Int))),qL 3 b1 1 a0 (i64 q.t),qF (decide (q.t<(0:Int))),qF (decide (q.t<(0:Int))),qF (decide (q.t<(0:Int))),qL 3 x 0 a0 (i64 (n:Int)),qF (decide (q.t<(0:Int))),qF (decide (q.t<(0:Int))),qF (decide (q.t>=(n:Int))),qF (decide (q.t>=(n:Int))),qL 3 b1 2 a0 (i64 p.m),qF (decide (q.t>=(n:Int))),qF (decide (q.t>=(n:Int))),qF (decide (p.m<(0:Int))),qF (decide (p.m<(0:Int))),qL 3 b1 2 a0 (i64 p.m),qF (decide (p.m<(0:Int))),qF (decide (p.m<(0:Int))),qF (decide (p.m>=(5:Int))),qF (decide (p.m>=(5:Int))),qL 3 b1 3 a0 (i64 (p.c+q.c)),qF (decide (p.m>=(5:Int))),qF (decide (p.m>=(5:Int))),qF (decide ((p.c+q.c)<(0:Int))),qF (decide ((p.c+q.c)<(0:Int))),qL 3 b1 3 a0 (i64 (p.c+q.c)),qF (decide ((p.c+q.c)<(0:Int))),qF (decide ((p.c+q.c)<(0:Int))),qF (decide ((p.c+q.c)>(4398046511104:Int))),qL 3 b1 4 a0 (i64 (-1:Int)),qT ((-1:Int)==(-1:Int)),qL 3 b1 5 a0 (i64 (j:Int)),qF (decide ((j:Int)<(0:Int))),qF (decide ((j:Int)<(0:Int))),qL 3 b1 5 a0 (i64 (j:Int)),qF (decide ((j:Int)<(0:Int))),qF (decide ((j:Int)<(0:Int))),qF (decide ((j:Int)<(0:Int))),qF (decide ((j:Int)>=(i:Int))),qF (decide ((j:Int)>=(i:Int))),qL 3 b1 6 a0 (i64 (k:Int)),qF (decide ((j:Int)>=(i:Int))),qF (decide ((j:Int)>=(i:Int))),qF (decide ((k:Int)<(0:Int))),qF (decide ((k:Int)<(0:Int))),qL 3 b1 6 a0 (i64 (k:Int)),qF (decide ((k:Int)<(0:Int))),qF (decide ((k:Int)<(0:Int))),qF (decide ((k:Int)<(0:Int))),qF (decide ((k:Int)>=(i:Int))),qL 29 x 3 (aB.mk a0.blks a0.next a0.hide []) (aC ab ao L ac),qL 3 b1 5 (aB.mk a0.blks a0.next (aV 4 [⟨1,1,a0.next,a0.next⟩]++a0.hide) []) (i64 (j:Int)),.q (.inb (j:Int) L) (eD true),qL 42 ab (ao+((j:Int):Int).toNat*7) (aB.mk a0.blks a0.next a0.hide []) (.agg ⟨(bM p)⟩),qL 29 x 3 (aB.mk a0.blks a0.next (aV 64 [⟨5,1,a0.next,a0.next⟩,⟨3,1,a0.next,a0.next⟩,⟨1,1,a0.next,a0.next⟩]++a0.hide) []) (aC ab ao L ac),qT (Nat.blt x a0.next),qL 3 b1 6 (aB.mk a0.blks a0.next (aV 256 [⟨5,1,a0.next,a0.next⟩,⟨3,1,a0.next,a0.next⟩,⟨1,1,a0.next,a0.next⟩]++a0.hide) []) (i64 (k:Int)),qT (Nat.blt b1 a0.next),.q (.inb (k:Int) L) (eD true),qL 42 ab (ao+((k:Int):Int).toNat*7) (aB.mk a0.blks a0.next (aV 1984 [⟨5,1,a0.next,a0.next⟩,⟨3,1,a0.next,a0.next⟩,⟨1,1,a0.next,a0.next⟩]++a0.hide) []) (.agg ⟨(bM q)⟩),qT (Nat.blt ab a0.next),.eq (cM prog 42 (aB.mk a0.blks a0.next (aV 0 [⟨5,1,a0.next,a0.next⟩,⟨3,1,a0.next,a0.next⟩,⟨1,1,a0.next,a0.next⟩]++a0.hide) [])) (1,.val (pt b5 0),b2),.eq (cM prog 42 (aB.mk b2.blks b2.next (aV 0 [⟨12,1,a0.next,b2.next⟩,⟨5,1,a0.next,a0.next⟩,⟨3,1,a0.next,a0.next⟩,⟨1,1,a0.next,a0.next⟩]++a0.hide) b2.log)) (1,.val (pt b7 0),(aB.mk a7.blks a7.next (aV 0 [⟨12,1,a0.next,b2.next⟩,⟨5,1,a0.next,a0.next⟩,⟨3,1,a0.next,a0.next⟩,⟨1,1,a0.next,a0.next⟩]++a0.hide) a7.log)),qS 42 b5 0 (.agg ⟨(bM p)⟩) (aB.mk (aB.mk a7.blks a7.next (aV 0 [⟨12,1,a0.next,b2.next⟩,⟨5,1,a0.next,a0.next⟩,⟨3,1,a0.next,a0.next⟩,⟨1,1,a0.next,a0.next⟩]++a0.hide) a7.log).blks (aB.mk a7.blks a7.next (aV 0 [⟨12,1,a0.next,b2.next⟩,⟨5,1,a0.next,a0.next⟩,⟨3,1,a0.next,a0.next⟩,⟨1,1,a0.next,a0.next⟩]++a0.hide) a7.log).next a0.hide (aB.mk a7.blks a7.next (aV 0 [⟨12,1,a0.next,b2.next⟩,⟨5,1,a0.next,a0.next⟩,⟨3,1,a0.next,a0.next⟩,⟨1,1,a0.next,a0.next⟩]++a0.hide) a7.log).log) c9,qS 42 b7 0 (.agg ⟨(bM q)⟩) (aB.mk c9.blks c9.next a0.hide c9.log) a1,qT (cZ [ab,b1,x] a1.log),qL 3 b5 2 (aB.mk a1.blks a1.next a0.hide (a1.log++a0.log)) (i64 p.m),qL 3 b1 2 (aB.mk a1.blks a1.next a0.hide (a1.log++a0.log)) (i64 p.m),qF (!(p.m==p.m)),qF (!(p.m==p.m)),qL 3 b7 2 (aB.mk a1.blks a1.next a0.hide (a1.log++a0.log)) (i64 q.m),qF (!(p.m==p.m)),qF (!(p.m==p.m)),qL 3 b1 2 (aB.mk a1.blks a1.next a0.hide (a1.log++a0.log)) (i64 p.m),qF (!(p.m==p.m)),qF (!(p.m==p.m)),qF (!(q.m==p.m)),qF (!(q.m==p.m)),qL 3 b5 0 (aB.mk a1.blks a1.next a0.hide (a1.log++a0.log)) (i64 p.f),qF (!(q.m==p.m)),qF (!(q.m==p.m)),qL 3 b1 0 (aB.mk a1.blks a1.next a0.hide (a1.log++a0.log)) (i64 p.f),qF (!(q.m==p.m)),qF (!(q.m==p.m)),qF (!(p.f==p.f)),qF (!(p.f==p.f)),qL 3 b5 1 (aB.mk a1.blks a1.next a0.hide (a1.log++a0.log)) (i64 p.t),qF (!(p.f==p.f)),qF (!(p.f==p.f)),qL 3 b7 0 (aB.mk a1.blks a1.next a0.hide (a1.log++a0.log)) (i64 q.f),qF (!(p.f==p.f)),qF (!(p.f==p.f)),qF (!(p.t==q.f)),qF (!(p.t==q.f)),qL 3 b7 1 (aB.mk a1.blks a1.next a0.hide (a1.log++a0.log)) (i64 q.t),qF (!(p.t==q.f)),qF (!(p.t==q.f)),qL 3 b1 1 (aB.mk a1.blks a1.next a0.hide (a1.log++a0.log)) (i64 q.t),qF (!(p.t==q.f)),qF (!(p.t==q.f)),qF (!(q.t==q.t)),qF (!(q.t==q.t)),qL 3 b5 3 (aB.mk a1.blks a1.next a0.hide (a1.log++a0.log)) (i64 p.c),qF (!(q.t==q.t)),qF (!(q.t==q.t)),qL 3 b7 3 (aB.mk a1.blks a1.next a0.hide (a1.log++a0.log)) (i64 q.c),qF (!(q.t==q.t)),qF (!(q.t==q.t)),qF (!(q.t==q.t)),qL 3 b1 3 (aB.mk a1.blks a1.next a0.hide (a1.log++a0.log)) (i64 (p.c+q.c)),qF (!(q.t==q.t)),qF (!(q.t==q.t)),qF (!((IntKind.wrap .i64 (p.c+q.c))==(p.c+q.c))),qL 3 b1 5 (aB.mk a1.blks a1.next a0.hide (a1.log++a0.log)) (i64 (j:Int)),.q (.inb (j:Int) i) (eD true),qL 3 wb (0+((j:Int):Int).toNat*1) (aB.mk a1.blks a1.next a0.hide (a1.log++a0.log)) (i64 z3),qL 3 b1 6 (aB.mk a1.blks a1.next a0.hide (a1.log++a0.log)) (i64 (k:Int)),.q (.inb (k:Int) i) (eD true),qL 3 wb (0+((k:Int):Int).toNat*1) (aB.mk a1.blks a1.next a0.hide (a1.log++a0.log)) (i64 z4),qF (decide ((IntKind.wrap .i64 (z3+z4))>(1000:Int))),.eq (bH prog 22 1 [(0,(i64 (IntKind.wrap .i64 (z3+z4))))] (aB.mk a1.blks a1.next a0.hide (a1.log++a0.log))) (1,.val (aC g7 0 1 2),g3),.q (.append [22,22] (aC wb 0 i i) (aC g7 0 1 2) g3) (2,.val (aC a4 0 (i+1) (i+1)),b6)]):=by kernel_rfl
 dsimp only at a3
 have o6:aB.mk a0.blks a0.next a0.hide []=g4:=a2.symm
 have o7:=Yj (k:=4) (l:=[⟨1,1,a0.next,a0.next⟩]) a2 (by simp [aV,Nat.beq_refl,a6,Lm,Ln])
 have o8:=Yj (k:=64) (l:=[⟨5,1,a0.next,a0.next⟩,⟨3,1,a0.next,a0.next⟩,⟨1,1,a0.next,a0.next⟩]) a2 (by simp [aV,Nat.beq_refl,a6,Lm,Ln])
 have o9:=Yj (k:=256) (l:=[⟨5,1,a0.next,a0.next⟩,⟨3,1,a0.next,a0.next⟩,⟨1,1,a0.next,a0.next⟩]) a2 (by simp [aV,Nat.beq_refl,a6,Lm,Ln])
 have p0:=Yj (k:=1984) (l:=[⟨5,1,a0.next,a0.next⟩,⟨3,1,a0.next,a0.next⟩,⟨1,1,a0.next,a0.next⟩]) a2 (by simp [aV,Nat.beq_refl,a6,Lm,Ln])
 have p1:=Yj (k:=0) (l:=[⟨5,1,a0.next,a0.next⟩,⟨3,1,a0.next,a0.next⟩,⟨1,1,a0.next,a0.next⟩]) a2 (by simp [aV,Nat.beq_refl,a6,Lm,Ln])
 have p2:=pT ((d0).hide.trans (k3).hide.symm)
 have p3:=pT ((d0).hide.trans (k4).hide.symm)
 have k0:=Dr (L:=(a1.log++a0.log)) ((d0).hide.trans (k5).hide.symm)
 have k1:(aB.mk a1.blks a1.next a1.hide (a1.log++a0.log))=g2:=a5.symm
 try rw[o6] at a3
 try rw[o7] at a3
 try rw[o8] at a3
 try rw[o9] at a3
 try rw[p0] at a3
 try rw[p1] at a3
 try rw[p2] at a3
 try rw[p3] at a3
 try rw[k0] at a3
 try rw[k1] at a3
 obtain⟨T1,h1,h2⟩:=Rd.told aG aF (aI prog) (fun _ _=>rfl) a3 (hk (lC iU gx rfl) (hk (bT f1) (hk (lC iU gx rfl) (hk (dE (by omega) (by simp at f1;omega)) (hk (eO (aN X0 i8)) (hk (bN (by rw[<-f2,<-l5];kernel_rfl) xAc) (hk (dB o4) (hk (lC bQ a8 rfl) (hk (bF (xAa (by omega))) (hk (bF (xAa (by omega))) (hk (lC bQ a8 rfl) (hk (bF (xAa (by omega))) (hk (bF (xAa (by omega))) (hk (bF (xAa (by omega))) (hk (lC bQ f3 rfl) (hk (bF (xAa (by omega))) (hk (bF (xAa (by omega))) (hk (bF (xAa (by omega))) (hk (bF (xAa (by omega))) (hk (lC bQ a8 rfl) (hk (bF (xAa (by omega))) (hk (bF (xAa (by omega))) (hk (bF (xAa (by omega))) (hk (bF (xAa (by omega))) (hk (lC bQ a8 rfl) (hk (bF (xAa (by omega))) (hk (bF (xAa (by omega))) (hk (bF (xAa (by omega))) (hk (lC bQ f3 rfl) (hk (bF (xAa (by omega))) (hk (bF (xAa (by omega))) (hk (bF (xAa (by omega))) (hk (bF (xAa (by omega))) (hk (lC bQ a8 rfl) (hk (bF (xAa (by omega))) (hk (bF (xAa (by omega))) (hk (bF (xAa (by omega))) (hk (bF (xAa (by omega))) (hk (lC bQ a8 rfl) (hk (bF (xAa (by omega))) (hk (bF (xAa (by omega))) (hk (bF (xAa (by omega))) (hk (bF (xAa (by omega))) (hk (lC bQ a8 rfl) (hk (bF (xAa (by omega))) (hk (bF (xAa (by omega))) (hk (bF (xAa (by omega))) (hk (bF (xAa (by omega))) (hk (lC bQ a8 rfl) (hk (bF (xAa (by omega))) (hk (bF (xAa (by omega))) (hk (bF (xAa (by omega))) (hk (lC bQ a8 rfl) (hk (bT (by first|exact beq_self_eq_true _|exact dA _)) (hk (lC bQ a8 rfl) (hk (bF (xAa (by omega))) (hk (bF (xAa (by omega))) (hk (lC bQ a8 rfl) (hk (bF (xAa (by omega))) (hk (bF (xAa (by omega))) (hk (bF (xAa (by omega))) (hk (bF (xAa (by omega))) (hk (bF (xAa (by omega))) (hk (lC bQ a8 rfl) (hk (bF (xAa (by omega))) (hk (bF (xAa (by omega))) (hk (bF (xAa (by omega))) (hk (bF (xAa (by omega))) (hk (lC bQ a8 rfl) (hk (bF (xAa (by omega))) (hk (bF (xAa (by omega))) (hk (bF (xAa (by omega))) (hk (bF (xAa (by omega))) (hk (lC iU f4 rfl) (hk (lC bQ f6 rfl) (hk (dE (by omega) (by simp at f1;omega)) (hk (eO (aN f0 i9)) (hk (lC iU f4 rfl) (hk (lG c8) (hk (lC bQ f6 rfl) (hk (lG c1) (hk (dE (by omega) (by simp at f1;omega)) (hk (eO (aN f0 j0)) (hk (lG c0) (hk (bN (by rw[<-b4,<-e0];kernel_rfl) xAc) (hk (bN (by rw[<-b0,<-e5];kernel_rfl) xAc) (hk (dB q57) (hk (dB o5) (hk (eA (by rw[j5];simp<;>omega)) (hk (lC bQ f7 rfl) (hk (lC bQ c7 rfl) (hk (bF (by first|exact beq_self_eq_true _|exact dA _)) (hk (bF (by first|exact beq_self_eq_true _|exact dA _)) (hk (lC bQ f8 rfl) (hk (bF (by first|exact beq_self_eq_true _|exact dA _)) (hk (bF (by first|exact beq_self_eq_true _|exact dA _)) (hk (lC bQ c7 rfl) (hk (bF (by first|exact beq_self_eq_true _|exact dA _)) (hk (bF (by first|exact beq_self_eq_true _|exact dA _)) (hk (bF (by rw[d2];exact dA _)) (hk (bF (by rw[d2];exact dA _)) (hk (lC bQ f7 rfl) (hk (bF (by rw[d2];exact dA _)) (hk (bF (by rw[d2];exact dA _)) (hk (lC bQ c7 rfl) (hk (bF (by rw[d2];exact dA _)) (hk (bF (by rw[d2];exact dA _)) (hk (bF (by first|exact beq_self_eq_true _|exact dA _)) (hk (bF (by first|exact beq_self_eq_true _|exact dA _)) (hk (lC bQ f7 rfl) (hk (bF (by first|exact beq_self_eq_true _|exact dA _)) (hk (bF (by first|exact beq_self_eq_true _|exact dA _)) (hk (lC bQ f8 rfl) (hk (bF (by first|exact beq_self_eq_true _|exact dA _)) (hk (bF (by first|exact beq_self_eq_true _|exact dA _)) (hk (bF (by rw[d1];exact dA _)) (hk (bF (by rw[d1];exact dA _)) (hk (lC bQ f8 rfl) (hk (bF (by rw[d1];exact dA _)) (hk (bF (by rw[d1];exact dA _)) (hk (lC bQ c7 rfl) (hk (bF (by rw[d1];exact dA _)) (hk (bF (by rw[d1];exact dA _)) (hk (bF (by first|exact beq_self_eq_true _|exact dA _)) (hk (bF (by first|exact beq_self_eq_true _|exact dA _)) (hk (lC bQ f7 rfl) (hk (bF (by first|exact beq_self_eq_true _|exact dA _)) (hk (bF (by first|exact beq_self_eq_true _|exact dA _)) (hk (lC bQ f8 rfl) (hk (bF (by first|exact beq_self_eq_true _|exact dA _)) (hk (bF (by first|exact beq_self_eq_true _|exact dA _)) (hk (bF (by first|exact beq_self_eq_true _|exact dA _)) (hk (lC bQ c7 rfl) (hk (bF (by first|exact beq_self_eq_true _|exact dA _)) (hk (bF (by first|exact beq_self_eq_true _|exact dA _)) (hk (bF (by rw[n8];exact dA _)) (hk (lC bQ c7 rfl) (hk (dE (by omega) (by omega)) (hk (eO (bI (a:=⟨wb,0+((j:Int):Int).toNat*1,none⟩) bQ h8 n6)) (hk (lC bQ c7 rfl) (hk (dE (by omega) (by omega)) (hk (eO (bI (a:=⟨wb,0+((k:Int):Int).toNat*1,none⟩) bQ h8 n7)) (hk (bF (xAa (by rw[n9];omega))) (hk (bN (by rw[<-h4,<-h5];kernel_rfl) xAc) (hk (kB (by rw[<-b3,<-d9];exact nI (w:=1) (by kernel_rfl) (by kernel_rfl) (by kernel_rfl) (y:=8) (by kernel_rfl) (by decide) (by decide) l2.1 n2 rfl rfl rfl n3 l2.2 rfl rfl rfl rfl) (Nat.succ_ne_zero _)) hn)))))))))))))))))))))))))))))))))))))))))))))))))))))))))))))))))))))))))))))))))))))))))))))))))))))))))))))))))))))))))))))))))))))))))))))))))
 exact⟨T1,b6,a4,h1,h2,g6,e6,h7,e9,h6,c6⟩
theorem rlx(x L ac i n:Nat)(aa:Option Addr)(S ev rv uv dv:Value){M:aB}(a1:aa.isNone=true->L=0/\ac=0)(gx:M.get x=some ⟨[i64 n,ev,rv,.slice aa L ac,uv,dv],32,6,0,true⟩)(a0:(decide ((i:Int)<(L:Int)))=false): ∃T1,Rd prog [] (q45.loopAt 0) Tryz.f45.ntmps (fr [(1,(pt x 0)),(3,S),(4,(i64 (i:Int)))]) M (.exit 0) T1 M/\ [3].map T1.get= [some S]:=by
 exact Rd.told (tb:=[]) (n:=60) (F:=[aR 5 (.slice aa L ac),aQ 7,aO 10]) aG aF (aI prog) (fun _ _=>rfl) (by kernel_rfl) (hk (lO 3 iU gx rfl) (hk (lN a1) (hk (bF a0) hn)))
theorem aAg{x n ac:Nat}{aa:Option Addr}{ev rv uv dv:Value}{es:List E4}{rank:List Int}{arcs:List A7}{up down:List (List Int)}{M0 M:aB}(b5:pJ (⟨n,es,rank,arcs,up,down⟩:IX) (.agg ⟨[i64 n,ev,rv,.slice aa arcs.length ac,uv,dv]⟩) M0)(hg:GX (⟨n,es,rank,arcs,up,down⟩:IX))(a2:dJ arcs (.slice aa arcs.length ac) M0)(hM:aA M)(X0:Ext M0 M)(gx:M.get x=some ⟨[i64 n,ev,rv,.slice aa arcs.length ac,uv,dv],32,6,0,true⟩)(b1:M0.next<=x):
  ∃S M',bL prog [] (q45.loopAt 0) Tryz.f45.ntmps (fr [(1,pt x 0),(3,eW),(4,i64 ((0:Nat):Int))]) M (.exit 0) (fr [(3,S)]) M'/\Ext M0 M'/\aA M'/\cR 3 1 M0 [x] (arcs.length) ((fM arcs (arcs.length)).map i64) S M':=by
 have b6:=hg.al
 have b3:=rW hg.ck
 simp only at b6 b3
 obtain⟨S,M',k1,k2,k3,_,k4⟩:=bL.for (P:=prog) (GL:= []) (b:=q45.loopAt 0) (nt:=Tryz.f45.ntmps) (id:=0) (σ:=Value) (n:=arcs.length) (Inv:=fun i S M1=>Ext M0 M1/\aA M1/\M1.get x=some ⟨[i64 n,ev,rv,.slice aa arcs.length ac,uv,dv],32,6,0,true⟩/\cR 3 1 M0 [x] (i) ((fM arcs (i)).map i64) S M1)
  (F:=fun i S=> [(1,pt x 0),(3,S),(4,i64 ((i:Nat):Int))]) (O:=fun S=> [(3,S)])
  (by
   rintro i S M1 hi ⟨X1,a4,a3,hA⟩
   obtain⟨ab,ao,rfl,_⟩:=bU a2 (by omega)
   have ht:arcs[i]?=some arcs[i]:=xAe hi
   have a6:=Go.Am.jL a2 (by omega)
   have l1:=kP (P:=prog) (ty:=42) a2 ht sN kG
   have b9:=hg.ln i _ (by rw[lR _ _ _ hi,jY ht])
   have a7:(fM arcs (i+1))=fM arcs i++ [mS (fM arcs i) arcs[i]]:=by
    conv=>lhs;unfold fM
    rw[ht]
   have b2:((fM arcs i).map i64).length=i*1:=by rw[List.length_map,gF];omega
   obtain⟨c1,c2,c3,c4,hf⟩:=hg.arc i _ ht
   rcases hf with⟨e,b4,he,hy⟩|⟨j,k,p,q,hji,hki,hp,hq,hy,hm,hpt⟩
   ·obtain⟨e1,e2,e3,e4⟩:=b3 e (xAh he)
    have b8:=(xAg.1 he).1
    simp only at b8
    have a0:mS (fM arcs i) arcs[i]=1:=by unfold mS;rw[if_neg (by omega)]
    have a5:bA prog 42 ⟨ab,ao+((i:Int):Int).toNat*7,none⟩ M0=some (.agg ⟨[i64 e.f,i64 e.t,i64 e.m,i64 e.c,i64 arcs[i].e,i64 0,i64 0]⟩):=by
     rw[Int.toNat_natCast,l1]
     exact congrArg (fun z=>some (Value.agg ⟨z⟩)) (congrArg bM hy)
    rcases hA with⟨rfl,h0,_⟩|⟨wb,rfl,h0,_,a8,a9,b0⟩
    ·subst h0
     obtain⟨T1,M2,nb,q1,q2,q3,q4,q5,q6,q7,q8⟩:=rle0 x ab ao arcs.length ac 0 n ev rv uv dv es rank arcs up down e arcs[0].e a4 X1 a6 a3 b1 b5 hg ⟨b4,by omega⟩ he e1 e2 e3 e4 (xAb (by omega)) a5
     rw[bD (by omega)] at q2
     refine⟨aC nb 0 1 1,T1,M2,q1,q2,q3,q4,q5,.inr ⟨nb,rfl,by omega,by rw[List.length_map,gF],q6,by simp only [List.mem_singleton];exact fun e=>q8 e.symm,?_⟩⟩
     rw[q7,a7,a0];rfl
    ·obtain⟨T1,M2,nb,q1,q2,q3,q4,q5,q6,q7,q8⟩:=rle1 x ab ao arcs.length ac i n ev rv uv dv es rank arcs up down wb ((fM arcs i).map i64) e arcs[i].e a4 X1 a6 a3 b1 b0 a8 (fun e=>a9 (by simp [e])) b5 hg ⟨b4,by omega⟩ he e1 e2 e3 e4 (xAb (by omega)) a5 ⟨by omega,b2⟩
     rw[bD (by omega)] at q2
     refine⟨aC nb 0 (i+1) (i+1),T1,M2,q1,q2,q3,q4,q5,.inr ⟨nb,rfl,by omega,by rw[List.length_map,gF];omega,q6,by simp only [List.mem_singleton];exact fun e=>q8 e.symm,?_⟩⟩
     rw[q7,a7,a0,List.map_append];rfl
   ·rcases hA with⟨rfl,h0,_⟩|⟨wb,rfl,h0,_,a8,a9,b0⟩
    ·omega
    ·have a1:=hg.ln j _ (by rw[lR _ _ _ (by omega:j<arcs.length),jY hp])
     have a0:mS (fM arcs i) arcs[i]=mS (fM arcs j) p+mS (fM arcs k) q:=by
      conv=>lhs;unfold mS;rw[hy]
      rw[if_pos (show(mK p q (j:Int) (k:Int)).e= -1 from rfl)]
      show lAt (fM arcs i) (j:Int)+lAt (fM arcs i) (k:Int)=_
      unfold lAt
      rw[Int.toNat_natCast,Int.toNat_natCast,lR arcs i j hji,lR arcs i k hki,jY hp,jY hq]
      rfl
     have a5:bA prog 42 ⟨ab,ao+((i:Int):Int).toNat*7,none⟩ M0=some (.agg ⟨[i64 p.f,i64 q.t,i64 p.m,i64 (p.c+q.c),i64 (-1:Int),i64 j,i64 k]⟩):=by
      rw[Int.toNat_natCast,l1]
      exact congrArg (fun z=>some (Value.agg ⟨z⟩)) (congrArg bM hy)
     have l2:=kP (P:=prog) (ty:=42) a2 hp sN kG
     have l3:=kP (P:=prog) (ty:=42) a2 hq sN kG
     rw[hy] at c1 c2 c3 c4
     have b7:0<=p.c+q.c/\p.c+q.c<=4398046511104:=c4
     rw[a0] at b9
     obtain⟨T1,M2,nb,q1,q2,q3,q4,q5,q6,q7,q8⟩:=rls x ab ao arcs.length ac i n ev rv uv dv es rank arcs up down wb ((fM arcs i).map i64) j k p q (mS (fM arcs j) p) (mS (fM arcs k) q) a4 X1 a6 a3 b1 b0 a8 (fun e=>a9 (by simp [e])) ⟨hji,hki⟩ hm.symm hpt (yL (by omega) (by omega)) c1 c2 c3 b7 (yL (by omega) (by omega)) ⟨by omega,by omega⟩ (xAb (by omega)) a5 (by rw[Int.toNat_natCast];exact l2) (by rw[Int.toNat_natCast];exact l3)
      (by rw[Int.toNat_natCast,show 0+j*1=j by omega,List.getElem?_map,lR arcs i j hji,jY hp];rfl) (by rw[Int.toNat_natCast,show 0+k*1=k by omega,List.getElem?_map,lR arcs i k hki,jY hq];rfl) ⟨by omega,b2⟩
     rw[bD (by omega)] at q2
     refine⟨aC nb 0 (i+1) (i+1),T1,M2,q1,q2,q3,q4,q5,.inr ⟨nb,rfl,by omega,by rw[List.length_map,gF];omega,q6,by simp only [List.mem_singleton];exact fun e=>q8 e.symm,?_⟩⟩
     rw[q7,a7,a0,List.map_append,yL (by omega) (by omega)];rfl)
  (by
   rintro S M1 ⟨X1,a4,a3,hA⟩
   exact rlx x arcs.length ac arcs.length n aa S ev rv uv dv (M:=M1) a2.ln a3 (xAa (by omega)))
  arcs.length 0 (by omega) (s:=eW) (M:=M) ⟨X0,hM,gx,.inl ⟨rfl,rfl,rfl⟩⟩
 exact⟨S,M',k1,k2,k3,k4⟩
open Tryz
theorem rK45:Tryz.f45.results= #[.tmp 2]:=by kernel_rfl
theorem w28j(n:Nat)(ea:Option Addr)(ec rb ro rc:Nat)(aa:Option Addr)(ac ub uc db dc:Nat)(es:List E4)(rank:List Int)(arcs:List A7)(up down:List (List Int)){M:aB}(hM:aA M)(b3:aS es (.slice ea es.length ec) M)(b4:aH rank (aC rb ro n rc) M)(a4:dJ arcs (.slice aa arcs.length ac) M)(b5:aW up (aC ub 0 n uc) M)(b2:aW down (aC db 0 n dc) M)(hg:GX ⟨n,es,rank,arcs,up,down⟩): ∃v_ M',Ev prog [] 45 [.agg ⟨[i64 (n:Int),.slice ea es.length ec,aC rb ro n rc,.slice aa arcs.length ac,aC ub 0 n uc,aC db 0 n dc]⟩] M v_ M'/\Ext M M'/\aA M'/\iE aH (fM arcs arcs.length) M.next v_ M':=by
 obtain⟨b1,M2,a5,a8,g5,E6,a9⟩:=bC hM ⟨[i64 (n:Int),.slice ea es.length ec,aC rb ro n rc,.slice aa arcs.length ac,aC ub 0 n uc,aC db 0 n dc],32,6,0,true⟩
 have b0:M.next<=b1:=by rw[<-a5];exact(Ext.refl M).next
 have X9:=(Ext.refl M).trans E6
 obtain⟨a1,a0,a2,a7,a3,a6⟩:=aAg ⟨_,_,_,_,_,rfl,b3,b4,a4,b5,b2⟩ hg a4 a9 X9 g5 b0
 exact⟨a1,a0,Ev.told_tmp (tb:=[0]) (n:=60) (F:=[bJ 1 (pt b1 0) M2,.blk 8 [1,3,4] .normal (fr [(3,a1)]) a0]) aG aF Tryz.func45 aAK (by kernel_rfl) rK45 (fun B=>wR (gL B) 0 a2) (fun _ h=>bZ h) (by kernel_rfl) (hq (.eq (eI prog 32 (.agg ⟨[i64 (n:Int),.slice ea es.length ec,aC rb ro n rc,.slice aa arcs.length ac,aC ub 0 n uc,aC db 0 n dc]⟩) M) (1,.val (pt b1 0),M2)) (bN (by rw[<-a5,<-a8];kernel_rfl) xAc) (hq (.blk 0 (.loop (q45.loopAt 0)) Tryz.f45.ntmps [1,3,4] [some (pt b1 0),some eW,some (i64 0)] M2 .normal (fr [(3,a1)]) a0) (fB rfl) hn)),a7,a3,sU (by rw[gF];exact a6) (by rw[gF];exact a4.len)⟩
abbrev Q45:=FC (gN (sZ pJ) GX) (iE aH) (fun x=>fM x.arcs x.arcs.length)
theorem con45{x:IX}{lv:List Value}{M:aB}(hM:aA M)(h:(gN (sZ pJ) GX) x lv M): ∃v M',kR prog [] 45 Q45 lv M v M':=by
 refine FC.con h ?_
 obtain⟨⟨g0,rfl,k0⟩,hg⟩:=h
 obtain⟨ea,ec,rb,ro,rc,aa,ac,ub,uc,db,dc,rfl,h1,h2,h3,h4,h5⟩:=qD k0 hg
 obtain⟨n,es,rank,arcs,up,down⟩:=x
 obtain⟨v,M',q1,q2,_,q3⟩:=w28j n ea ec rb ro rc aa ac ub uc db dc es rank arcs up down hM h1 h2 h3 h4 h5 hg
 exact⟨v,M',q1,q2,q3⟩
theorem rwu0(x sb rb ro rc ab ao L ac lb lo m lc n v i:Nat)(ev uv dv:Value)(es:List E4)(rank:List Int)(arcs:List A7)(up down:List (List Int))(cs:List Value)(a:Int)(y:A7)(z1:Bool){M M0:aB}(hM:aA M)(X0:Ext M0 M)(hab:ab<M0.next)(hlb:lb<M0.next)(hrb:rb<M0.next)(gx:M.get x=some ⟨[i64 (n:Int),ev,aC rb ro n rc,aC ab ao L ac,uv,dv],32,6,0,true⟩)(gs:M.get sb=some ⟨cs,4,1,0,true⟩)(d1:M0.next<=sb)(b1:x≠sb)(hpx:pJ (⟨n,es,rank,arcs,up,down⟩:IX) (.agg ⟨[i64 n,ev,aC rb ro n rc,.slice (some ⟨ab,ao,none⟩) L ac,uv,dv]⟩) M0)(hg:GX (⟨n,es,rank,arcs,up,down⟩:IX))(ha:0<=a/\a<(L:Int))(hvn:v<n)(a0:y.f=(v:Int))(hfar:0<=y.t/\y.t<(n:Int))(habv:y.t=(v:Int)\/Fb rank y.t (v:Int)=true)(a4:(decide ((i:Int)<(m:Int)))=true)(c1:(z1)=false)(a3:(y.t==(v:Int))=true)(a1:bA prog 3 ⟨lb,lo+((i:Int):Int).toNat*1,none⟩ M0=some (i64 a))(c8:(cs)[0+(a:Int).toNat*1]?=some (.bool z1))(b6:0+(a:Int).toNat*1+1<=(cs).length)(b5:bA prog 42 ⟨ab,ao+(a:Int).toNat*7,none⟩ M0=some (.agg ⟨(bM y)⟩)): ∃T1 M',Rd prog [] (q46.loopAt 0) Tryz.f46.ntmps (fr [(4,(pt x 0)),(1,(i64 (v:Int))),(2,(aC lb lo m lc)),(3,(.bool true)),(9,(aC sb 0 L (L+1))),(10,(i64 (i:Int)))]) M .normal T1 M'/\ [4,1,2,3,9,10].map T1.get= [some (pt x 0),some (i64 (v:Int)),some (aC lb lo m lc),some (.bool true),some (aC sb 0 L (L+1)),some (i64 (IntKind.wrap .i64 ((i:Int)+(1:Int))))]/\Ext M0 M'/\aA M'/\M'.get x=some ⟨[i64 (n:Int),ev,aC rb ro n rc,aC ab ao L ac,uv,dv],32,6,0,true⟩/\M'.get sb=some ⟨splice cs (0+(a:Int).toNat*1) [.bool true],4,1,0,true⟩:=by
 obtain⟨M1,q2,g3,c9,X5,c7,d4⟩:=aZ (o:=0+(a:Int).toNat*1) (v:=(.bool true)) (new:=splice cs (0+(a:Int).toNat*1) [.bool true]) X0 d1 hM dS4 gs rfl rfl (Nat.zero_le _) b6 rfl
 have g8:=(c9 _ b1).trans gx
 obtain⟨b9,a8,a2,b2,c2,a7,b3⟩:=bC c7 ⟨[i64 0,i64 0,i64 0,i64 0,i64 0,i64 0,i64 0],42,7,0,true⟩
 have d0:=lQ a2 X5
 have b0:=fJ g8 a2
 have a5:=fJ g3 a2
 have c3:=a7.old g8
 have c4:=a7.old g3
 have b8:=X5.trans a7
 obtain⟨a9,d3,b7,a6,c0,b4,d2⟩:=aZ (o:=0) (v:=(.agg ⟨(bM y)⟩)) (new:= (bM y)) b8 d0 b3 kG c2 rfl rfl (Nat.zero_le _) (xAd rfl) rfl
 have c5:=(a6 _ b0).trans c3
 have c6:=(a6 _ a5).trans c4
 obtain⟨T1,h1,h2⟩:=Rd.told (tb:=[]) (n:=200) (F:=[aQ 8,aQ 14,aR 16 (i64 a),aO 21,aO 23,aO 25,aQ 26,aO 27,aR 28 (i64 a),aO 29,aO 31,aR 32 (aC ab ao L ac),aO 33,aO 35,aO 38,aO 41,aO 43,aO 45,aO 47,aQ 48,aO 49,aR 50 (i64 a),aO 51,aQ 52,aO 53,aR 54 (.bool z1),aO 56,aO 57,aQ 65,aR 67 (i64 a),aQ 69,jE 71 M1,aR 75 (aC ab ao L ac),aQ 81,aR 83 (i64 a),aQ 85,aR 87 (.agg ⟨(bM y)⟩),bJ 89 (pt b9 0) a8,jE 91 a9,aR 99 (i64 y.f),aO 106,aO 108,aR 109 (i64 y.t),aO 110,aO 112,aO 114,aO 116,aO 118,aO 120,aO 122,aO 124,aO 126,aO 128,aO 129,aO 131]) aG aF (aI prog) (fun _ _=>rfl) (by kernel_rfl) (hk (bT a4) (hk (qI (i:Int) m (by omega) (by simp at a4;omega)) (hk (lD (aN X0 a1)) (hk (bF (x:=decide (a<(0:Int))) (xAa (by omega))) (hk (bF (x:=decide (a<(0:Int))) (xAa (by omega))) (hk (bF (x:=decide (a<(0:Int))) (xAa (by omega))) (hk (qI (i:Int) m (by omega) (by simp at a4;omega)) (hk (bF (x:=decide (a<(0:Int))) (xAa (by omega))) (hk (lD (aN X0 a1)) (hk (bF (x:=decide (a<(0:Int))) (xAa (by omega))) (hk (bF (x:=decide (a<(0:Int))) (xAa (by omega))) (hk (lO 3 iU gx rfl) (hk (bF (x:=decide (a<(0:Int))) (xAa (by omega))) (hk (bF (x:=decide (a<(0:Int))) (xAa (by omega))) (hk (bF (x:=decide (a<(0:Int))) (xAa (by omega))) (hk (bF (x:=decide (a>=(L:Int))) (xAa (by omega))) (hk (bF (x:=decide (a>=(L:Int))) (xAa (by omega))) (hk (bF (x:=decide (a>=(L:Int))) (xAa (by omega))) (hk (bF (x:=decide (a>=(L:Int))) (xAa (by omega))) (hk (qI (i:Int) m (by omega) (by simp at a4;omega)) (hk (bF (x:=decide (a>=(L:Int))) (xAa (by omega))) (hk (lD (aN X0 a1)) (hk (bF (x:=decide (a>=(L:Int))) (xAa (by omega))) (hk (qI a L (by omega) (by omega)) (hk (bF (x:=decide (a>=(L:Int))) (xAa (by omega))) (hq (qL 4 sb (0+(a:Int).toNat*1) M (.bool z1)) (eO (bI (a:=⟨sb,0+(a:Int).toNat*1,none⟩) Sv gs c8)) (hk (bF (x:=decide (a>=(L:Int))) (xAa (by omega))) (hk (bF c1) (hk (qI (i:Int) m (by omega) (by simp at a4;omega)) (hk (lD (aN X0 a1)) (hk (qI a L (by omega) (by omega)) (hq (qS 4 sb (0+(a:Int).toNat*1) (.bool true) M M1) (dB q2) (hk (lO 3 iU g8 rfl) (hk (qI (i:Int) m (by omega) (by simp at a4;omega)) (hk (lD (aN X5 a1)) (hk (qI a L (by omega) (by omega)) (hk (lD (aN X5 b5)) (hq (.eq (cM prog 42 M1) (1,.val (pt b9 0),a8)) (bN (by rw[<-a2,<-b2];kernel_rfl) xAc) (hq (qS 42 b9 0 (.agg ⟨(bM y)⟩) a8 a9) (dB d3) (hk (lO 0 bQ b7 rfl) (hk (bF (x:=!(y.f==(v:Int))) (by rw[a0];exact dA _)) (hk (bF (x:=!(y.f==(v:Int))) (by rw[a0];exact dA _)) (hk (lO 1 bQ b7 rfl) (hk (bF (x:=!(y.f==(v:Int))) (by rw[a0];exact dA _)) (hk (bF (x:=!(y.f==(v:Int))) (by rw[a0];exact dA _)) (hk (bF (x:=!(y.f==(v:Int))) (by rw[a0];exact dA _)) (hk (bF (x:=!(y.t==(v:Int))) (by rw[a3];rfl)) (hk (bF (x:=!(y.t==(v:Int))) (by rw[a3];rfl)) (hk (bF (x:=!(y.t==(v:Int))) (by rw[a3];rfl)) (hk (bF (x:=!(y.t==(v:Int))) (by rw[a3];rfl)) (hk (bF (x:=!(y.t==(v:Int))) (by rw[a3];rfl)) (hk (bF (x:=!(y.t==(v:Int))) (by rw[a3];rfl)) (hk (bF (x:=!(y.f==(v:Int))) (by rw[a0];exact dA _)) (hk (bF (x:=!(y.t==(v:Int))) (by rw[a3];rfl)) (hk (bF (x:=!(y.f==(v:Int))) (by rw[a0];exact dA _)) hn)))))))))))))))))))))))))))))))))))))))))))))))))))))))
 exact⟨T1,a9,h1,h2,c0,b4,c5,c6⟩
theorem rwu1(x sb rb ro rc ab ao L ac lb lo m lc n v i:Nat)(ev uv dv:Value)(es:List E4)(rank:List Int)(arcs:List A7)(up down:List (List Int))(cs:List Value)(a:Int)(y:A7)(z1:Bool){M M0:aB}(hM:aA M)(X0:Ext M0 M)(hab:ab<M0.next)(hlb:lb<M0.next)(hrb:rb<M0.next)(gx:M.get x=some ⟨[i64 (n:Int),ev,aC rb ro n rc,aC ab ao L ac,uv,dv],32,6,0,true⟩)(gs:M.get sb=some ⟨cs,4,1,0,true⟩)(e4:M0.next<=sb)(b3:x≠sb)(e0:pJ (⟨n,es,rank,arcs,up,down⟩:IX) (.agg ⟨[i64 n,ev,aC rb ro n rc,.slice (some ⟨ab,ao,none⟩) L ac,uv,dv]⟩) M0)(hg:GX (⟨n,es,rank,arcs,up,down⟩:IX))(ha:0<=a/\a<(L:Int))(hvn:v<n)(a0:y.f=(v:Int))(c2:0<=y.t/\y.t<(n:Int))(c1:y.t=(v:Int)\/Fb rank y.t (v:Int)=true)(a4:(decide ((i:Int)<(m:Int)))=true)(d0:(z1)=false)(a3:(y.t==(v:Int))=false)(a1:bA prog 3 ⟨lb,lo+((i:Int):Int).toNat*1,none⟩ M0=some (i64 a))(d9:(cs)[0+(a:Int).toNat*1]?=some (.bool z1))(c4:0+(a:Int).toNat*1+1<=(cs).length)(c3:bA prog 42 ⟨ab,ao+(a:Int).toNat*7,none⟩ M0=some (.agg ⟨(bM y)⟩)): ∃T1 M',Rd prog [] (q46.loopAt 0) Tryz.f46.ntmps (fr [(4,(pt x 0)),(1,(i64 (v:Int))),(2,(aC lb lo m lc)),(3,(.bool true)),(9,(aC sb 0 L (L+1))),(10,(i64 (i:Int)))]) M .normal T1 M'/\ [4,1,2,3,9,10].map T1.get= [some (pt x 0),some (i64 (v:Int)),some (aC lb lo m lc),some (.bool true),some (aC sb 0 L (L+1)),some (i64 (IntKind.wrap .i64 ((i:Int)+(1:Int))))]/\Ext M0 M'/\aA M'/\M'.get x=some ⟨[i64 (n:Int),ev,aC rb ro n rc,aC ab ao L ac,uv,dv],32,6,0,true⟩/\M'.get sb=some ⟨splice cs (0+(a:Int).toNat*1) [.bool true],4,1,0,true⟩:=by
 obtain⟨M1,q2,g3,e1,X5,d8,e9⟩:=aZ (o:=0+(a:Int).toNat*1) (v:=(.bool true)) (new:=splice cs (0+(a:Int).toNat*1) [.bool true]) X0 e4 hM dS4 gs rfl rfl (Nat.zero_le _) c4 rfl
 have g8:=(e1 _ b3).trans gx
 obtain⟨b9,b0,a2,b4,d2,a8,b7⟩:=bC d8 ⟨[i64 0,i64 0,i64 0,i64 0,i64 0,i64 0,i64 0],42,7,0,true⟩
 have e3:=lQ a2 X5
 have b2:=fJ g8 a2
 have a5:=fJ g3 a2
 have d3:=a8.old g8
 have d4:=a8.old g3
 have c8:=X5.trans a8
 obtain⟨a7,e7,b6,a6,c5,b8,e5⟩:=aZ (o:=0) (v:=(.agg ⟨(bM y)⟩)) (new:= (bM y)) c8 e3 b7 kG d2 rfl rfl (Nat.zero_le _) (xAd rfl) rfl
 have c6:=(a6 _ b2).trans d3
 have d5:=(a6 _ a5).trans d4
 obtain⟨w29,e8,b1,e6,e2,d1,a9,c0,c7⟩:=aL (x:=((⟨n,es,rank,arcs,up,down⟩:IX),y.t,(v:Int))) b8 Yd (⟨⟨_,_,_,rfl,AP.Ext (R:=pJ) e0 c5,rfl,rfl⟩,hg,c2,⟨by simp only;omega,by simp only;omega⟩,c1.resolve_left (by simpa using a3)⟩)
 have d6:=a9.old c6
 have d7:=a9.old d5
 have b5:w29=(.bool true):=c7
 subst b5
 have c9:=c5.trans a9
 obtain⟨T1,h1,h2⟩:=Rd.told (tb:=[]) (n:=200) (F:=[aQ 8,aQ 14,aR 16 (i64 a),aO 21,aO 23,aO 25,aQ 26,aO 27,aR 28 (i64 a),aO 29,aO 31,aR 32 (aC ab ao L ac),aO 33,aO 35,aO 38,aO 41,aO 43,aO 45,aO 47,aQ 48,aO 49,aR 50 (i64 a),aO 51,aQ 52,aO 53,aR 54 (.bool z1),aO 56,aO 57,aQ 65,aR 67 (i64 a),aQ 69,jE 71 M1,aR 75 (aC ab ao L ac),aQ 81,aR 83 (i64 a),aQ 85,aR 87 (.agg ⟨(bM y)⟩),bJ 89 (pt b9 0) b0,jE 91 a7,aR 99 (i64 y.f),aO 106,aO 108,aR 109 (i64 y.t),aO 110,aO 112,aO 114,aQ 116,aR 117 (.agg ⟨[i64 (n:Int),ev,aC rb ro n rc,aC ab ao L ac,uv,dv]⟩),aQ 118,aQ 120,aR 121 (i64 y.t),aQ 122,aQ 124,bJ 125 (.bool true) b1,aQ 126,aO 128,aQ 129,aO 131]) aG aF (fun B=>lV (gH 81 Q81 (gL _))) (fun _ _=>rfl) (by kernel_rfl) (hk (bT a4) (hk (qI (i:Int) m (by omega) (by simp at a4;omega)) (hk (lD (aN X0 a1)) (hk (bF (x:=decide (a<(0:Int))) (xAa (by omega))) (hk (bF (x:=decide (a<(0:Int))) (xAa (by omega))) (hk (bF (x:=decide (a<(0:Int))) (xAa (by omega))) (hk (qI (i:Int) m (by omega) (by simp at a4;omega)) (hk (bF (x:=decide (a<(0:Int))) (xAa (by omega))) (hk (lD (aN X0 a1)) (hk (bF (x:=decide (a<(0:Int))) (xAa (by omega))) (hk (bF (x:=decide (a<(0:Int))) (xAa (by omega))) (hk (lO 3 iU gx rfl) (hk (bF (x:=decide (a<(0:Int))) (xAa (by omega))) (hk (bF (x:=decide (a<(0:Int))) (xAa (by omega))) (hk (bF (x:=decide (a<(0:Int))) (xAa (by omega))) (hk (bF (x:=decide (a>=(L:Int))) (xAa (by omega))) (hk (bF (x:=decide (a>=(L:Int))) (xAa (by omega))) (hk (bF (x:=decide (a>=(L:Int))) (xAa (by omega))) (hk (bF (x:=decide (a>=(L:Int))) (xAa (by omega))) (hk (qI (i:Int) m (by omega) (by simp at a4;omega)) (hk (bF (x:=decide (a>=(L:Int))) (xAa (by omega))) (hk (lD (aN X0 a1)) (hk (bF (x:=decide (a>=(L:Int))) (xAa (by omega))) (hk (qI a L (by omega) (by omega)) (hk (bF (x:=decide (a>=(L:Int))) (xAa (by omega))) (hq (qL 4 sb (0+(a:Int).toNat*1) M (.bool z1)) (eO (bI (a:=⟨sb,0+(a:Int).toNat*1,none⟩) Sv gs d9)) (hk (bF (x:=decide (a>=(L:Int))) (xAa (by omega))) (hk (bF d0) (hk (qI (i:Int) m (by omega) (by simp at a4;omega)) (hk (lD (aN X0 a1)) (hk (qI a L (by omega) (by omega)) (hq (qS 4 sb (0+(a:Int).toNat*1) (.bool true) M M1) (dB q2) (hk (lO 3 iU g8 rfl) (hk (qI (i:Int) m (by omega) (by simp at a4;omega)) (hk (lD (aN X5 a1)) (hk (qI a L (by omega) (by omega)) (hk (lD (aN X5 c3)) (hq (.eq (cM prog 42 M1) (1,.val (pt b9 0),b0)) (bN (by rw[<-a2,<-b4];kernel_rfl) xAc) (hq (qS 42 b9 0 (.agg ⟨(bM y)⟩) b0 a7) (dB e7) (hk (lO 0 bQ b6 rfl) (hk (bF (x:=!(y.f==(v:Int))) (by rw[a0];exact dA _)) (hk (bF (x:=!(y.f==(v:Int))) (by rw[a0];exact dA _)) (hk (lO 1 bQ b6 rfl) (hk (bF (x:=!(y.f==(v:Int))) (by rw[a0];exact dA _)) (hk (bF (x:=!(y.f==(v:Int))) (by rw[a0];exact dA _)) (hk (bF (x:=!(y.f==(v:Int))) (by rw[a0];exact dA _)) (hk (bT (x:=!(y.t==(v:Int))) (by rw[a3];rfl)) (hq (qL 32 x 0 a7 (.agg ⟨[i64 (n:Int),ev,aC rb ro n rc,aC ab ao L ac,uv,dv]⟩)) (lA ⟨uU,rR⟩ c6 rfl) (hk (bT (x:=!(y.t==(v:Int))) (by rw[a3];rfl)) (hk (bT (x:=!(y.t==(v:Int))) (by rw[a3];rfl)) (hk (lO 1 bQ b6 rfl) (hk (bT (x:=!(y.t==(v:Int))) (by rw[a3];rfl)) (hk (bT (x:=!(y.t==(v:Int))) (by rw[a3];rfl)) (hq (qC 81 [.agg ⟨[i64 (n:Int),ev,aC rb ro n rc,aC ab ao L ac,uv,dv]⟩,i64 y.t,i64 (v:Int)] a7 (.bool true) b1) (aK rfl e6 e2 d1) (hk (bT (x:=!(y.t==(v:Int))) (by rw[a3];rfl)) (hk (bF (x:=!(y.f==(v:Int))) (by rw[a0];exact dA _)) (hk (bT (x:=!(y.t==(v:Int))) (by rw[a3];rfl)) (hk (bF (x:=!(y.f==(v:Int))) (by rw[a0];exact dA _)) hn))))))))))))))))))))))))))))))))))))))))))))))))))))))))))
 exact⟨T1,b1,h1,h2,c9,c0,d6,d7⟩
theorem rwd0(x sb rb ro rc ab ao L ac lb lo m lc n v i:Nat)(ev uv dv:Value)(es:List E4)(rank:List Int)(arcs:List A7)(up down:List (List Int))(cs:List Value)(a:Int)(y:A7)(z1:Bool){M M0:aB}(hM:aA M)(X0:Ext M0 M)(hab:ab<M0.next)(hlb:lb<M0.next)(hrb:rb<M0.next)(gx:M.get x=some ⟨[i64 (n:Int),ev,aC rb ro n rc,aC ab ao L ac,uv,dv],32,6,0,true⟩)(gs:M.get sb=some ⟨cs,4,1,0,true⟩)(e5:M0.next<=sb)(b4:x≠sb)(e1:pJ (⟨n,es,rank,arcs,up,down⟩:IX) (.agg ⟨[i64 n,ev,aC rb ro n rc,.slice (some ⟨ab,ao,none⟩) L ac,uv,dv]⟩) M0)(hg:GX (⟨n,es,rank,arcs,up,down⟩:IX))(ha:0<=a/\a<(L:Int))(hvn:v<n)(a0:y.t=(v:Int))(c4:0<=y.f/\y.f<(n:Int))(a3:y.f≠(v:Int))(hrv:0<=kD rank (v:Int))(c3:Fb rank y.f (v:Int)=true)(a4:(decide ((i:Int)<(m:Int)))=true)(d1:(z1)=false)(a1:bA prog 3 ⟨lb,lo+((i:Int):Int).toNat*1,none⟩ M0=some (i64 a))(e0:(cs)[0+(a:Int).toNat*1]?=some (.bool z1))(c7:0+(a:Int).toNat*1+1<=(cs).length)(c5:bA prog 42 ⟨ab,ao+(a:Int).toNat*7,none⟩ M0=some (.agg ⟨(bM y)⟩))(c6:bA prog 3 ⟨rb,ro+((v:Int):Int).toNat*1,none⟩ M0=some (i64 (kD rank (v:Int)))): ∃T1 M',Rd prog [] (q46.loopAt 0) Tryz.f46.ntmps (fr [(4,(pt x 0)),(1,(i64 (v:Int))),(2,(aC lb lo m lc)),(3,(.bool false)),(9,(aC sb 0 L (L+1))),(10,(i64 (i:Int)))]) M .normal T1 M'/\ [4,1,2,3,9,10].map T1.get= [some (pt x 0),some (i64 (v:Int)),some (aC lb lo m lc),some (.bool false),some (aC sb 0 L (L+1)),some (i64 (IntKind.wrap .i64 ((i:Int)+(1:Int))))]/\Ext M0 M'/\aA M'/\M'.get x=some ⟨[i64 (n:Int),ev,aC rb ro n rc,aC ab ao L ac,uv,dv],32,6,0,true⟩/\M'.get sb=some ⟨splice cs (0+(a:Int).toNat*1) [.bool true],4,1,0,true⟩:=by
 obtain⟨M1,q2,g3,e2,X5,d9,f0⟩:=aZ (o:=0+(a:Int).toNat*1) (v:=(.bool true)) (new:=splice cs (0+(a:Int).toNat*1) [.bool true]) X0 e5 hM dS4 gs rfl rfl (Nat.zero_le _) c7 rfl
 have g8:=(e2 _ b4).trans gx
 obtain⟨b9,b0,a2,b5,d3,a8,c0⟩:=bC d9 ⟨[i64 0,i64 0,i64 0,i64 0,i64 0,i64 0,i64 0],42,7,0,true⟩
 have e4:=lQ a2 X5
 have b3:=fJ g8 a2
 have a5:=fJ g3 a2
 have d4:=a8.old g8
 have d5:=a8.old g3
 have c9:=X5.trans a8
 obtain⟨a7,e8,b7,a6,b2,c1,e6⟩:=aZ (o:=0) (v:=(.agg ⟨(bM y)⟩)) (new:= (bM y)) c9 e4 c0 kG d3 rfl rfl (Nat.zero_le _) (xAd rfl) rfl
 have b8:=(a6 _ b3).trans d4
 have d6:=(a6 _ a5).trans d5
 obtain⟨w29,e9,b1,e7,e3,d2,a9,c2,c8⟩:=aL (x:=((⟨n,es,rank,arcs,up,down⟩:IX),y.f,(v:Int))) c1 Yd (⟨⟨_,_,_,rfl,AP.Ext (R:=pJ) e1 b2,rfl,rfl⟩,hg,c4,⟨by simp only;omega,by simp only;omega⟩,c3⟩)
 have d7:=a9.old b8
 have d8:=a9.old d6
 have b6:w29=(.bool true):=c8
 subst b6
 have d0:=b2.trans a9
 obtain⟨T1,h1,h2⟩:=Rd.told (tb:=[]) (n:=200) (F:=[aQ 8,aQ 14,aR 16 (i64 a),aO 21,aO 23,aO 25,aQ 26,aO 27,aR 28 (i64 a),aO 29,aO 31,aR 32 (aC ab ao L ac),aO 33,aO 35,aO 38,aO 41,aO 43,aO 45,aO 47,aQ 48,aO 49,aR 50 (i64 a),aO 51,aQ 52,aO 53,aR 54 (.bool z1),aO 56,aO 57,aQ 65,aR 67 (i64 a),aQ 69,jE 71 M1,aR 75 (aC ab ao L ac),aQ 81,aR 83 (i64 a),aQ 85,aR 87 (.agg ⟨(bM y)⟩),bJ 89 (pt b9 0) b0,jE 91 a7,aR 144 (i64 y.t),aO 151,aO 153,aR 154 (i64 y.f),aO 155,aO 157,aO 160,aO 163,aO 165,aR 166 (aC rb ro n rc),aO 167,aO 169,aQ 170,aO 171,aR 172 (i64 (kD rank (v:Int))),aO 173,aO 176,aO 179,aR 180 (.agg ⟨[i64 (n:Int),ev,aC rb ro n rc,aC ab ao L ac,uv,dv]⟩),aO 181,aO 183,aR 184 (i64 y.f),aO 185,aO 187,bJ 188 (.bool true) b1,aO 189,aO 192]) aG aF (fun B=>lV (gH 81 Q81 (gL _))) (fun _ _=>rfl) (by kernel_rfl) (hk (bT a4) (hk (qI (i:Int) m (by omega) (by simp at a4;omega)) (hk (lD (aN X0 a1)) (hk (bF (x:=decide (a<(0:Int))) (xAa (by omega))) (hk (bF (x:=decide (a<(0:Int))) (xAa (by omega))) (hk (bF (x:=decide (a<(0:Int))) (xAa (by omega))) (hk (qI (i:Int) m (by omega) (by simp at a4;omega)) (hk (bF (x:=decide (a<(0:Int))) (xAa (by omega))) (hk (lD (aN X0 a1)) (hk (bF (x:=decide (a<(0:Int))) (xAa (by omega))) (hk (bF (x:=decide (a<(0:Int))) (xAa (by omega))) (hk (lO 3 iU gx rfl) (hk (bF (x:=decide (a<(0:Int))) (xAa (by omega))) (hk (bF (x:=decide (a<(0:Int))) (xAa (by omega))) (hk (bF (x:=decide (a<(0:Int))) (xAa (by omega))) (hk (bF (x:=decide (a>=(L:Int))) (xAa (by omega))) (hk (bF (x:=decide (a>=(L:Int))) (xAa (by omega))) (hk (bF (x:=decide (a>=(L:Int))) (xAa (by omega))) (hk (bF (x:=decide (a>=(L:Int))) (xAa (by omega))) (hk (qI (i:Int) m (by omega) (by simp at a4;omega)) (hk (bF (x:=decide (a>=(L:Int))) (xAa (by omega))) (hk (lD (aN X0 a1)) (hk (bF (x:=decide (a>=(L:Int))) (xAa (by omega))) (hk (qI a L (by omega) (by omega)) (hk (bF (x:=decide (a>=(L:Int))) (xAa (by omega))) (hq (qL 4 sb (0+(a:Int).toNat*1) M (.bool z1)) (eO (bI (a:=⟨sb,0+(a:Int).toNat*1,none⟩) Sv gs e0)) (hk (bF (x:=decide (a>=(L:Int))) (xAa (by omega))) (hk (bF d1) (hk (qI (i:Int) m (by omega) (by simp at a4;omega)) (hk (lD (aN X0 a1)) (hk (qI a L (by omega) (by omega)) (hq (qS 4 sb (0+(a:Int).toNat*1) (.bool true) M M1) (dB q2) (hk (lO 3 iU g8 rfl) (hk (qI (i:Int) m (by omega) (by simp at a4;omega)) (hk (lD (aN X5 a1)) (hk (qI a L (by omega) (by omega)) (hk (lD (aN X5 c5)) (hq (.eq (cM prog 42 M1) (1,.val (pt b9 0),b0)) (bN (by rw[<-a2,<-b5];kernel_rfl) xAc) (hq (qS 42 b9 0 (.agg ⟨(bM y)⟩) b0 a7) (dB e8) (hk (lO 1 bQ b7 rfl) (hk (bF (x:=!(y.t==(v:Int))) (by rw[a0];exact dA _)) (hk (bF (x:=!(y.t==(v:Int))) (by rw[a0];exact dA _)) (hk (lO 0 bQ b7 rfl) (hk (bF (x:=!(y.t==(v:Int))) (by rw[a0];exact dA _)) (hk (bF (x:=!(y.t==(v:Int))) (by rw[a0];exact dA _)) (hk (bF (x:=!(y.t==(v:Int))) (by rw[a0];exact dA _)) (hk (bF (x:=y.f==(v:Int)) (beq_eq_false_iff_ne.2 a3)) (hk (bF (x:=y.f==(v:Int)) (beq_eq_false_iff_ne.2 a3)) (hk (lO 2 jW b8 rfl) (hk (bF (x:=y.f==(v:Int)) (beq_eq_false_iff_ne.2 a3)) (hk (bF (x:=y.f==(v:Int)) (beq_eq_false_iff_ne.2 a3)) (hk (qI (v:Int) n (by omega) (by omega)) (hk (bF (x:=y.f==(v:Int)) (beq_eq_false_iff_ne.2 a3)) (hk (lD (aN b2 c6)) (hk (bF (x:=y.f==(v:Int)) (beq_eq_false_iff_ne.2 a3)) (hk (bF (x:=y.f==(v:Int)) (beq_eq_false_iff_ne.2 a3)) (hk (bF (x:=decide ((kD rank (v:Int))<(0:Int))) (xAa (by omega))) (hq (qL 32 x 0 a7 (.agg ⟨[i64 (n:Int),ev,aC rb ro n rc,aC ab ao L ac,uv,dv]⟩)) (lA ⟨uU,rR⟩ b8 rfl) (hk (bF (x:=decide ((kD rank (v:Int))<(0:Int))) (xAa (by omega))) (hk (bF (x:=decide ((kD rank (v:Int))<(0:Int))) (xAa (by omega))) (hk (lO 0 bQ b7 rfl) (hk (bF (x:=decide ((kD rank (v:Int))<(0:Int))) (xAa (by omega))) (hk (bF (x:=decide ((kD rank (v:Int))<(0:Int))) (xAa (by omega))) (hq (qC 81 [.agg ⟨[i64 (n:Int),ev,aC rb ro n rc,aC ab ao L ac,uv,dv]⟩,i64 y.f,i64 (v:Int)] a7 (.bool true) b1) (aK rfl e7 e3 d2) (hk (bF (x:=decide ((kD rank (v:Int))<(0:Int))) (xAa (by omega))) (hk (bF (x:=decide ((kD rank (v:Int))<(0:Int))) (xAa (by omega))) hn))))))))))))))))))))))))))))))))))))))))))))))))))))))))))))))))))
 exact⟨T1,b1,h1,h2,d0,c2,d7,d8⟩
theorem rwx(x m lc v i:Nat)(la:Option Addr)(SV:Value)(a2:Bool){M:aB}(a1:la.isNone=true->m=0/\lc=0)(a0:(decide ((i:Int)<(m:Int)))=false): ∃T1,Rd prog [] (q46.loopAt 0) Tryz.f46.ntmps (fr [(4,(pt x 0)),(1,(i64 (v:Int))),(2,(.slice la m lc)),(3,(.bool a2)),(9,SV),(10,(i64 (i:Int)))]) M (.exit 0) T1 M/\ [].map T1.get= []:=by
 exact Rd.told (tb:=[]) (n:=60) (F:=[aQ 5,aO 8]) aG aF (aI prog) (fun _ _=>rfl) (by kernel_rfl) (hk (lN a1) (hk (bF a0) hn))
theorem aAm{x sb rb ro rc ac lc n v:Nat}{aa la:Option Addr}{ev uv dv:Value}{es:List E4}{rank:List Int}{arcs:List A7}{up down:List (List Int)}{r:List Int}{M0 M:aB}(b3:pJ (⟨n,es,rank,arcs,up,down⟩:IX) (.agg ⟨[i64 n,ev,aC rb ro n rc,.slice aa arcs.length ac,uv,dv]⟩) M0)(hg:GX (⟨n,es,rank,arcs,up,down⟩:IX))(c0:aH rank (aC rb ro n rc) M0)(b0:dJ arcs (.slice aa arcs.length ac) M0)(a5:aH r (.slice la r.length lc) M0)(hv:v<n)(hR:Pu (⟨n,es,rank,arcs,up,down⟩:IX) v r)(hM:aA M)(X0:Ext M0 M)(gx:M.get x=some ⟨[i64 n,ev,aC rb ro n rc,.slice aa arcs.length ac,uv,dv],32,6,0,true⟩)(b6:M0.next<=sb)(gs:M.get sb=some ⟨(cG arcs.length r (0)).map Value.bool,4,1,0,true⟩)(a2:x≠sb):
  ∃M',bL prog [] (q46.loopAt 0) Tryz.f46.ntmps (fr [(4,pt x 0),(1,i64 v),(2,.slice la r.length lc),(3,.bool true),(9,aC sb 0 arcs.length (arcs.length+1)),(10,i64 ((0:Nat):Int))]) M (.exit 0) (fr []) M'/\Ext M0 M'/\aA M':=by
 have hlen:=a5.len
 have b8:=hg.rk.len
 simp only at b8
 have b4:=Go.Am.jL c0 (by omega)
 have a0: ∀(u:Nat) (z:Int),r[u]?=some z->0<=z/\z<(arcs.length:Int):=fun u z hz=>by
  obtain⟨h0,y,hy,_⟩:=hR.all z (xAh hz)
  have:=(xAg.1 hy).1
  simp only at this
  omega
 obtain⟨_,M',k1,k2,k3,_⟩:=bL.for (P:=prog) (GL:= []) (b:=q46.loopAt 0) (nt:=Tryz.f46.ntmps) (id:=0) (σ:=Unit) (n:=r.length) (Inv:=fun i _ M1=>Ext M0 M1/\aA M1/\M1.get x=some ⟨[i64 n,ev,aC rb ro n rc,.slice aa arcs.length ac,uv,dv],32,6,0,true⟩/\M1.get sb=some ⟨(cG arcs.length r (i)).map Value.bool,4,1,0,true⟩)
  (F:=fun i _=> [(4,pt x 0),(1,i64 v),(2,.slice la r.length lc),(3,.bool true),(9,aC sb 0 arcs.length (arcs.length+1)),(10,i64 ((i:Nat):Int))]) (O:=fun _=> [])
  (by
   rintro i _ M1 hi ⟨X1,a6,a9,a8⟩
   obtain⟨lb,lo,rfl,_⟩:=bU a5 (by omega)
   have ht:r[i]?=some r[i]:=xAe hi
   have hb:=a0 i _ ht
   obtain⟨ab,ao,rfl,_⟩:=bU b0 (by omega)
   obtain⟨_,y,hy,a1,hP⟩:=hR.all r[i] (List.getElem_mem hi)
   simp only at hy hP
   have l1:=iX (P:=prog) (ty:=3) a5 ht rfl bQ
   have l2:=kP (P:=prog) (ty:=42) b0 hy sN kG
   have b2:=Go.Am.jL a5 (by omega)
   have b1:=Go.Am.jL b0 (by omega)
   have e0:0+(r[i]:Int).toNat*1=r[i].toNat:=by omega
   have b9:=kE arcs.length r i
   have b7:r[i].toNat<((cG arcs.length r i).map Value.bool).length:=by rw[List.length_map,b9];omega
   have hf:(cG arcs.length r i)[r[i].toNat]?=some false:=by
    have a7:=xAe (show r[i].toNat<(cG arcs.length r i).length by omega)
    rw[a7]
    cases hq:(cG arcs.length r i)[r[i].toNat] with
    |false=>rfl
    |true=>
     rw[hq] at a7
     obtain⟨u,hu,b5⟩:=(yB (fun u z hz=> .inr (a0 u z hz)) i r[i].toNat (by omega)).1 a7
     rw[Int.toNat_of_nonneg hb.1,<-ht] at b5
     have:=(List.getElem?_inj (by omega) hR.nd).1 b5
     omega
   have done:(∃T1 M2,Rd prog [] (q46.loopAt 0) Tryz.f46.ntmps (fr [(4,pt x 0),(1,i64 v),(2,.slice (some ⟨lb,lo,none⟩) r.length lc),(3,.bool true),(9,aC sb 0 arcs.length (arcs.length+1)),(10,i64 i)]) M1 .normal T1 M2/\ [4,1,2,3,9,10].map T1.get= [some (pt x 0),some (i64 v),some (aC lb lo r.length lc),some (.bool true),some (aC sb 0 arcs.length (arcs.length+1)),some (i64 (IntKind.wrap .i64 ((i:Int)+(1:Int))))]/\Ext M0 M2/\aA M2/\M2.get x=some ⟨[i64 n,ev,aC rb ro n rc,.slice (some ⟨ab,ao,none⟩) arcs.length ac,uv,dv],32,6,0,true⟩/\M2.get sb=some ⟨splice ((cG arcs.length r i).map Value.bool) (0+(r[i]:Int).toNat*1) [.bool true],4,1,0,true⟩):=by
    obtain⟨a4,a3⟩:=hP
    by_cases hyt:y.t=(v:Int)
    ·exact rwu0 x sb rb ro rc ab ao arcs.length ac lb lo r.length lc n v i ev uv dv es rank arcs up down ((cG arcs.length r i).map Value.bool) r[i] y false a6 X1 b1 b2 b4 a9 a8 b6 a2 b3 hg hb hv a1 a4 a3 (xAb (by omega)) rfl (by rw[hyt];exact beq_self_eq_true _) (by rw[Int.toNat_natCast];exact l1) (by rw[e0,List.getElem?_map,hf];rfl) (by omega) l2
    ·exact rwu1 x sb rb ro rc ab ao arcs.length ac lb lo r.length lc n v i ev uv dv es rank arcs up down ((cG arcs.length r i).map Value.bool) r[i] y false a6 X1 b1 b2 b4 a9 a8 b6 a2 b3 hg hb hv a1 a4 a3 (xAb (by omega)) rfl (beq_eq_false_iff_ne.2 hyt) (by rw[Int.toNat_natCast];exact l1) (by rw[e0,List.getElem?_map,hf];rfl) (by omega) l2
   obtain⟨T1,M2,q1,q2,q3,q4,q5,q6⟩:=done
   rw[bD (by omega)] at q2
   refine⟨(),T1,M2,q1,q2,q3,q4,q5,?_⟩
   rw[q6,e0,gM _ _ _ b7]
   conv=>rhs;unfold cG;rw[ht]
   simp only
   rw[if_neg (by omega),List.map_set])
  (by
   rintro _ M1 ⟨X1,a6,a9,a8⟩
   exact rwx x r.length lc v r.length la (aC sb 0 arcs.length (arcs.length+1)) true (M:=M1) a5.ln (xAa (by omega)))
  r.length 0 (by omega) (s:=()) (M:=M) ⟨X0,hM,gx,gs⟩
 exact⟨M',k1,k2,k3⟩
theorem aAk{x sb rb ro rc ac lc n v:Nat}{aa la:Option Addr}{ev uv dv:Value}{es:List E4}{rank:List Int}{arcs:List A7}{up down:List (List Int)}{r:List Int}{M0 M:aB}(b8:pJ (⟨n,es,rank,arcs,up,down⟩:IX) (.agg ⟨[i64 n,ev,aC rb ro n rc,.slice aa arcs.length ac,uv,dv]⟩) M0)(hg:GX (⟨n,es,rank,arcs,up,down⟩:IX))(b3:aH rank (aC rb ro n rc) M0)(a7:dJ arcs (.slice aa arcs.length ac) M0)(a2:aH r (.slice la r.length lc) M0)(hv:v<n)(hR:Pt (⟨n,es,rank,arcs,up,down⟩:IX) v r)(hM:aA M)(X0:Ext M0 M)(gx:M.get x=some ⟨[i64 n,ev,aC rb ro n rc,.slice aa arcs.length ac,uv,dv],32,6,0,true⟩)(c2:M0.next<=sb)(gs:M.get sb=some ⟨(cG arcs.length r (0)).map Value.bool,4,1,0,true⟩)(a3:x≠sb):
  ∃M',bL prog [] (q46.loopAt 0) Tryz.f46.ntmps (fr [(4,pt x 0),(1,i64 v),(2,.slice la r.length lc),(3,.bool false),(9,aC sb 0 arcs.length (arcs.length+1)),(10,i64 ((0:Nat):Int))]) M (.exit 0) (fr []) M'/\Ext M0 M'/\aA M':=by
 have hlen:=a2.len
 have a9:=hg.rk.len
 simp only at a9
 have b9:=Go.Am.jL b3 (by omega)
 have a0: ∀(u:Nat) (z:Int),r[u]?=some z->0<=z/\z<(arcs.length:Int):=fun u z hz=>by
  obtain⟨h0,y,hy,_⟩:=hR.all z (xAh hz)
  have:=(xAg.1 hy).1
  simp only at this
  omega
 obtain⟨_,M',k1,k2,k3,_⟩:=bL.for (P:=prog) (GL:= []) (b:=q46.loopAt 0) (nt:=Tryz.f46.ntmps) (id:=0) (σ:=Unit) (n:=r.length) (Inv:=fun i _ M1=>Ext M0 M1/\aA M1/\M1.get x=some ⟨[i64 n,ev,aC rb ro n rc,.slice aa arcs.length ac,uv,dv],32,6,0,true⟩/\M1.get sb=some ⟨(cG arcs.length r (i)).map Value.bool,4,1,0,true⟩)
  (F:=fun i _=> [(4,pt x 0),(1,i64 v),(2,.slice la r.length lc),(3,.bool false),(9,aC sb 0 arcs.length (arcs.length+1)),(10,i64 ((i:Nat):Int))]) (O:=fun _=> [])
  (by
   rintro i _ M1 hi ⟨X1,a8,b2,b0⟩
   obtain⟨lb,lo,rfl,_⟩:=bU a2 (by omega)
   have ht:r[i]?=some r[i]:=xAe hi
   have hb:=a0 i _ ht
   obtain⟨ab,ao,rfl,_⟩:=bU a7 (by omega)
   obtain⟨_,y,hy,a1,hP⟩:=hR.all r[i] (List.getElem_mem hi)
   simp only at hy hP
   have l1:=iX (P:=prog) (ty:=3) a2 ht rfl bQ
   have l2:=kP (P:=prog) (ty:=42) a7 hy sN kG
   have l3:=Ik (u:=(v:Int)) b3 a9 (by omega)
   have b6:=Go.Am.jL a2 (by omega)
   have b4:=Go.Am.jL a7 (by omega)
   have e0:0+(r[i]:Int).toNat*1=r[i].toNat:=by omega
   have c1:=kE arcs.length r i
   have b5:r[i].toNat<((cG arcs.length r i).map Value.bool).length:=by rw[List.length_map,c1];omega
   have hf:(cG arcs.length r i)[r[i].toNat]?=some false:=by
    have a6:=xAe (show r[i].toNat<(cG arcs.length r i).length by omega)
    rw[a6]
    cases hq:(cG arcs.length r i)[r[i].toNat] with
    |false=>rfl
    |true=>
     rw[hq] at a6
     obtain⟨u,hu,b1⟩:=(yB (fun u z hz=> .inr (a0 u z hz)) i r[i].toNat (by omega)).1 a6
     rw[Int.toNat_of_nonneg hb.1,<-ht] at b1
     have:=(List.getElem?_inj (by omega) hR.nd).1 b1
     omega
   have done:(∃T1 M2,Rd prog [] (q46.loopAt 0) Tryz.f46.ntmps (fr [(4,pt x 0),(1,i64 v),(2,.slice (some ⟨lb,lo,none⟩) r.length lc),(3,.bool false),(9,aC sb 0 arcs.length (arcs.length+1)),(10,i64 i)]) M1 .normal T1 M2/\ [4,1,2,3,9,10].map T1.get= [some (pt x 0),some (i64 v),some (aC lb lo r.length lc),some (.bool false),some (aC sb 0 arcs.length (arcs.length+1)),some (i64 (IntKind.wrap .i64 ((i:Int)+(1:Int))))]/\Ext M0 M2/\aA M2/\M2.get x=some ⟨[i64 n,ev,aC rb ro n rc,.slice (some ⟨ab,ao,none⟩) arcs.length ac,uv,dv],32,6,0,true⟩/\M2.get sb=some ⟨splice ((cG arcs.length r i).map Value.bool) (0+(r[i]:Int).toNat*1) [.bool true],4,1,0,true⟩):=by
    obtain⟨a5,b7,c0,a4⟩:=hP
    exact rwd0 x sb rb ro rc ab ao arcs.length ac lb lo r.length lc n v i ev uv dv es rank arcs up down ((cG arcs.length r i).map Value.bool) r[i] y false a8 X1 b4 b6 b9 b2 b0 c2 a3 b8 hg hb hv a1 a5 b7 c0 a4 (xAb (by omega)) rfl (by rw[Int.toNat_natCast];exact l1) (by rw[e0,List.getElem?_map,hf];rfl) (by omega) l2 l3
   obtain⟨T1,M2,q1,q2,q3,q4,q5,q6⟩:=done
   rw[bD (by omega)] at q2
   refine⟨(),T1,M2,q1,q2,q3,q4,q5,?_⟩
   rw[q6,e0,gM _ _ _ b5]
   conv=>rhs;unfold cG;rw[ht]
   simp only
   rw[if_neg (by omega),List.map_set])
  (by
   rintro _ M1 ⟨X1,a8,b2,b0⟩
   exact rwx x r.length lc v r.length la (aC sb 0 arcs.length (arcs.length+1)) false (M:=M1) a2.ln (xAa (by omega)))
  r.length 0 (by omega) (s:=()) (M:=M) ⟨X0,hM,gx,gs⟩
 exact⟨M',k1,k2,k3⟩
theorem rK46:Tryz.f46.results= #[.tmp 8]:=by kernel_rfl
theorem w29u(n:Nat)(ea:Option Addr)(ec rb ro rc:Nat)(aa:Option Addr)(ac ub uc db dc:Nat)(es:List E4)(rank:List Int)(arcs:List A7)(up down:List (List Int))(v:Nat)(la:Option Addr)(lc:Nat)(r:List Int){M:aB}(hM:aA M)(c2:aS es (.slice ea es.length ec) M)(b3:aH rank (aC rb ro n rc) M)(b0:dJ arcs (.slice aa arcs.length ac) M)(c4:aW up (aC ub 0 n uc) M)(c1:aW down (aC db 0 n dc) M)(hg:GX ⟨n,es,rank,arcs,up,down⟩)(c3:aH r (.slice la r.length lc) M)(hv:v<n)(hR:Pu (⟨n,es,rank,arcs,up,down⟩:IX) v r): ∃v_ M',Ev prog [] 46 [.agg ⟨[i64 (n:Int),.slice ea es.length ec,aC rb ro n rc,.slice aa arcs.length ac,aC ub 0 n uc,aC db 0 n dc]⟩,i64 v,.slice la r.length lc,.bool true] M v_ M'/\Ext M M'/\aA M'/\v_= .bool true:=by
 obtain⟨b1,M2,b6,b7,g5,E6,c0⟩:=bC hM ⟨[i64 (n:Int),.slice ea es.length ec,aC rb ro n rc,.slice aa arcs.length ac,aC ub 0 n uc,aC db 0 n dc],32,6,0,true⟩
 have X9:=(Ext.refl M).trans E6
 obtain⟨a4,a2,a1,a5,b8,b2,a7⟩:=tS (P:=prog) (t:=54) (elem:=4) (z:=(.bool false)) (n:=arcs.length) c0 (by kernel_rfl) (by kernel_rfl) (by have:=hg.al;simp only at this;omega)
 have a9:=lQ a1 X9
 have a0:=fJ g5 a1
 have b9:=b2.old g5
 have b4:=X9.trans b2
 obtain⟨a3,a6,b5,a8⟩:=aAm ⟨_,_,_,_,_,rfl,c2,b3,b0,c4,c1⟩ hg b3 b0 c3 hv hR a7 b4 b9 a9 (by rw[show(cG arcs.length r 0).map Value.bool=List.replicate arcs.length (Value.bool false) from by simp [cG]];exact b8) a0
 exact⟨.bool true,a3,Ev.told_tmp (tb:=[0]) (n:=60) (F:=[bJ 1 (pt b1 0) M2,aR 7 (.slice aa arcs.length ac),aQ 9,bJ 11 (aC a4 0 arcs.length (arcs.length+1)) a2,.blk 16 [4,1,2,3,9,10] .normal (fr []) a3]) aG aF Tryz.func46 Uk (by kernel_rfl) rK46 (fun B=>wR (gL B) 0 a6) (fun _ h=>bZ h) (by kernel_rfl) (hq (.eq (eI prog 32 (.agg ⟨[i64 (n:Int),.slice ea es.length ec,aC rb ro n rc,.slice aa arcs.length ac,aC ub 0 n uc,aC db 0 n dc]⟩) M) (1,.val (pt b1 0),M2)) (bN (by rw[<-b6,<-b7];kernel_rfl) xAc) (hk (lO 3 iU g5 rfl) (hk (lN b0.ln) (hq (.eq (bX prog 54 (i64 (arcs.length:Int)) (i64 (arcs.length:Int)) M2) (1,.val (aC a4 0 arcs.length (arcs.length+1)),a2)) (bN a5 xAc) (hq (.blk 0 (.loop (q46.loopAt 0)) Tryz.f46.ntmps [4,1,2,3,9,10] [some (pt b1 0),some (i64 (v:Int)),some (.slice la r.length lc),some (.bool true),some (aC a4 0 arcs.length (arcs.length+1)),some (i64 0)] a2 .normal (fr []) a3) (fB rfl) hn))))),b5,a8,rfl⟩
theorem w29d(n:Nat)(ea:Option Addr)(ec rb ro rc:Nat)(aa:Option Addr)(ac ub uc db dc:Nat)(es:List E4)(rank:List Int)(arcs:List A7)(up down:List (List Int))(v:Nat)(la:Option Addr)(lc:Nat)(r:List Int){M:aB}(hM:aA M)(c2:aS es (.slice ea es.length ec) M)(b3:aH rank (aC rb ro n rc) M)(b0:dJ arcs (.slice aa arcs.length ac) M)(c4:aW up (aC ub 0 n uc) M)(c1:aW down (aC db 0 n dc) M)(hg:GX ⟨n,es,rank,arcs,up,down⟩)(c3:aH r (.slice la r.length lc) M)(hv:v<n)(hR:Pt (⟨n,es,rank,arcs,up,down⟩:IX) v r): ∃v_ M',Ev prog [] 46 [.agg ⟨[i64 (n:Int),.slice ea es.length ec,aC rb ro n rc,.slice aa arcs.length ac,aC ub 0 n uc,aC db 0 n dc]⟩,i64 v,.slice la r.length lc,.bool false] M v_ M'/\Ext M M'/\aA M'/\v_= .bool true:=by
 obtain⟨b1,M2,b6,b7,g5,E6,c0⟩:=bC hM ⟨[i64 (n:Int),.slice ea es.length ec,aC rb ro n rc,.slice aa arcs.length ac,aC ub 0 n uc,aC db 0 n dc],32,6,0,true⟩
 have X9:=(Ext.refl M).trans E6
 obtain⟨a4,a2,a1,a5,b8,b2,a7⟩:=tS (P:=prog) (t:=54) (elem:=4) (z:=(.bool false)) (n:=arcs.length) c0 (by kernel_rfl) (by kernel_rfl) (by have:=hg.al;simp only at this;omega)
 have a9:=lQ a1 X9
 have a0:=fJ g5 a1
 have b9:=b2.old g5
 have b4:=X9.trans b2
 obtain⟨a3,a6,b5,a8⟩:=aAk ⟨_,_,_,_,_,rfl,c2,b3,b0,c4,c1⟩ hg b3 b0 c3 hv hR a7 b4 b9 a9 (by rw[show(cG arcs.length r 0).map Value.bool=List.replicate arcs.length (Value.bool false) from by simp [cG]];exact b8) a0
 exact⟨.bool true,a3,Ev.told_tmp (tb:=[0]) (n:=60) (F:=[bJ 1 (pt b1 0) M2,aR 7 (.slice aa arcs.length ac),aQ 9,bJ 11 (aC a4 0 arcs.length (arcs.length+1)) a2,.blk 16 [4,1,2,3,9,10] .normal (fr []) a3]) aG aF Tryz.func46 Uk (by kernel_rfl) rK46 (fun B=>wR (gL B) 0 a6) (fun _ h=>bZ h) (by kernel_rfl) (hq (.eq (eI prog 32 (.agg ⟨[i64 (n:Int),.slice ea es.length ec,aC rb ro n rc,.slice aa arcs.length ac,aC ub 0 n uc,aC db 0 n dc]⟩) M) (1,.val (pt b1 0),M2)) (bN (by rw[<-b6,<-b7];kernel_rfl) xAc) (hk (lO 3 iU g5 rfl) (hk (lN b0.ln) (hq (.eq (bX prog 54 (i64 (arcs.length:Int)) (i64 (arcs.length:Int)) M2) (1,.val (aC a4 0 arcs.length (arcs.length+1)),a2)) (bN a5 xAc) (hq (.blk 0 (.loop (q46.loopAt 0)) Tryz.f46.ntmps [4,1,2,3,9,10] [some (pt b1 0),some (i64 (v:Int)),some (.slice la r.length lc),some (.bool false),some (aC a4 0 arcs.length (arcs.length+1)),some (i64 0)] a2 .normal (fr []) a3) (fB rfl) hn))))),b5,a8,rfl⟩
abbrev Q46:=FC (gN (Sd pJ pN aH pB) fun x=>GX x.1/\x.2.1<x.1.n/\(x.2.2.2=true->Pu x.1 x.2.1 x.2.2.1)/\(x.2.2.2=false->Pt x.1 x.2.1 x.2.2.1)) (plain pB) (fun _=>true)
theorem Xw{x:IX×Nat×List Int×Bool}{lv:List Value}{M:aB}(hM:aA M)(h:(gN (Sd pJ pN aH pB) fun x:IX×Nat×List Int×Bool=>GX x.1/\x.2.1<x.1.n/\(x.2.2.2=true->Pu x.1 x.2.1 x.2.2.1)/\(x.2.2.2=false->Pt x.1 x.2.1 x.2.2.1)) x lv M): ∃v M',kR prog [] 46 Q46 lv M v M':=by
 refine FC.con h ?_
 obtain⟨⟨g0,g1,g2,g3,rfl,k0,k1,k2,k3⟩,hg,hv,hu,hd⟩:=h
 obtain⟨ea,ec,rb,ro,rc,aa,ac,ub,uc,db,dc,rfl,h1,h2,h3,h4,h5⟩:=qD k0 hg
 obtain⟨⟨n,es,rank,arcs,up,down⟩,v,r,b⟩:=x
 obtain rfl:=k1
 obtain rfl:=k3
 obtain⟨la,lc,rfl⟩:=aJ.form k2
 simp only at hv hu hd k2
 cases b with
 |true=>
  obtain⟨w,M',q1,q2,_,q3⟩:=w29u n ea ec rb ro rc aa ac ub uc db dc es rank arcs up down v la lc r hM h1 h2 h3 h4 h5 hg k2 hv (hu rfl)
  exact⟨w,M',q1,q2,q3⟩
 |false=>
  obtain⟨w,M',q1,q2,_,q3⟩:=w29d n ea ec rb ro rc aa ac ub uc db dc es rank arcs up down v la lc r hM h1 h2 h3 h4 h5 hg k2 hv (hd rfl)
  exact⟨w,M',q1,q2,q3⟩
open Tryz
theorem rX(x ub uc db dc lc mc n v:Nat)(la ma:Option Addr)(ev rv av:Value)(es:List E4)(rank:List Int)(arcs:List A7)(up down:List (List Int))(r1 r2:List Int){M M0:aB}(hM:aA M)(X0:Ext M0 M)(hub:ub<M0.next)(hdb:db<M0.next)(gx:M.get x=some ⟨[i64 (n:Int),ev,rv,av,aC ub 0 n uc,aC db 0 n dc],32,6,0,true⟩)(a8:pJ (⟨n,es,rank,arcs,up,down⟩:IX) (.agg ⟨[i64 n,ev,rv,av,aC ub 0 n uc,aC db 0 n dc]⟩) M0)(hg:GX (⟨n,es,rank,arcs,up,down⟩:IX))(a9:v<n)(b7:aH r1 (.slice la r1.length lc) M0)(b8:aH r2 (.slice ma r2.length mc) M0)(hU:Pu (⟨n,es,rank,arcs,up,down⟩:IX) v r1)(hD:Pt (⟨n,es,rank,arcs,up,down⟩:IX) v r2)(b2:(decide ((v:Int)<(n:Int)))=true)(a5:bA prog 22 ⟨ub,0+((v:Int):Int).toNat*1,none⟩ M0=some (.slice la r1.length lc))(a6:bA prog 22 ⟨db,0+((v:Int):Int).toNat*1,none⟩ M0=some (.slice ma r2.length mc)): ∃T1 M',Rd prog [] (q16.loopAt 0) Tryz.f16.ntmps (fr [(1,(pt x 0)),(3,(i64 (v:Int)))]) M .normal T1 M'/\ [1,3].map T1.get= [some (pt x 0),some (i64 (IntKind.wrap .i64 ((v:Int)+(1:Int))))]/\Ext M0 M'/\aA M'/\M'.get x=some ⟨[i64 (n:Int),ev,rv,av,aC ub 0 n uc,aC db 0 n dc],32,6,0,true⟩:=by
 obtain⟨w1,N2,M3,p4,l5,e6,E7,b6,F9⟩:=aL (x:=((⟨n,es,rank,arcs,up,down⟩:IX),v,r1,true)) hM Xw (⟨⟨_,_,_,_,rfl,AP.Ext (R:=pJ) a8 X0,rfl,AP.Ext (R:=aH) b7 X0,rfl⟩,hg,a9,fun _=>hU,fun h=>by cases h⟩)
 have a3:=E7.old gx
 have b4:w1=(.bool true):=F9
 subst b4
 have a0:=X0.trans E7
 obtain⟨Rm,c1,a1,c0,b9,b3,a7,a4,b0⟩:=aL (x:=((⟨n,es,rank,arcs,up,down⟩:IX),v,r2,false)) b6 Xw (⟨⟨_,_,_,_,rfl,AP.Ext (R:=pJ) a8 a0,rfl,AP.Ext (R:=aH) b8 a0,rfl⟩,hg,a9,fun h=>(by cases h),fun _=>hD⟩)
 have b5:=a7.old a3
 have a2:Rm=(.bool true):=b0
 subst a2
 have b1:=a0.trans a7
 obtain⟨T1,h1,h2⟩:=Rd.told (tb:=[]) (n:=200) (F:=[aR 7 (i64 (n:Int)),aQ 10,aR 12 (.agg ⟨[i64 (n:Int),ev,rv,av,aC ub 0 n uc,aC db 0 n dc]⟩),aR 18 (aC ub 0 n uc),aQ 22,aR 24 (.slice la r1.length lc),bJ 26 (.bool true) M3,aR 32 (.agg ⟨[i64 (n:Int),ev,rv,av,aC ub 0 n uc,aC db 0 n dc]⟩),aR 38 (aC db 0 n dc),aQ 42,aR 44 (.slice ma r2.length mc),bJ 46 (.bool true) a1]) aG aF (fun B=>lV (gH 46 Q46 (gL _))) (fun _ _=>rfl) (by kernel_rfl) (hk (lO 0 bQ gx rfl) (hk (bT b2) (hq (qL 32 x 0 M (.agg ⟨[i64 (n:Int),ev,rv,av,aC ub 0 n uc,aC db 0 n dc]⟩)) (lA ⟨uU,rR⟩ gx rfl) (hk (lO 4 zC gx rfl) (hk (qI (v:Int) n (by omega) (by omega)) (hk (lD (aN X0 a5)) (hq (qC 46 [.agg ⟨[i64 (n:Int),ev,rv,av,aC ub 0 n uc,aC db 0 n dc]⟩,i64 (v:Int),.slice la r1.length lc,.bool true] M (.bool true) M3) (aK rfl p4 l5 e6) (hq (qL 32 x 0 M3 (.agg ⟨[i64 (n:Int),ev,rv,av,aC ub 0 n uc,aC db 0 n dc]⟩)) (lA ⟨uU,rR⟩ a3 rfl) (hk (lO 5 zC a3 rfl) (hk (qI (v:Int) n (by omega) (by omega)) (hk (lD (aN a0 a6)) (hq (qC 46 [.agg ⟨[i64 (n:Int),ev,rv,av,aC ub 0 n uc,aC db 0 n dc]⟩,i64 (v:Int),.slice ma r2.length mc,.bool false] M3 (.bool true) a1) (aK rfl c0 b9 b3) hn))))))))))))
 exact⟨T1,a1,h1,h2,b1,a4,b5⟩
theorem rXx(x ub uc db dc n v:Nat)(ev rv av:Value){M:aB}(gx:M.get x=some ⟨[i64 (n:Int),ev,rv,av,aC ub 0 n uc,aC db 0 n dc],32,6,0,true⟩)(a0:(decide ((v:Int)<(n:Int)))=false): ∃T1,Rd prog [] (q16.loopAt 0) Tryz.f16.ntmps (fr [(1,(pt x 0)),(3,(i64 (v:Int)))]) M (.exit 0) T1 M/\ [].map T1.get= []:=by
 exact Rd.told (tb:=[]) (n:=60) (F:=[aR 7 (i64 (n:Int)),aO 10]) aG aF (aI prog) (fun _ _=>rfl) (by kernel_rfl) (hk (lO 0 bQ gx rfl) (hk (bF a0) hn))
theorem Ym{x ub uc db dc n:Nat}{ev rv av:Value}{es:List E4}{rank:List Int}{arcs:List A7}{up down:List (List Int)}{M0 M:aB}(a7:pJ (⟨n,es,rank,arcs,up,down⟩:IX) (.agg ⟨[i64 n,ev,rv,av,aC ub 0 n uc,aC db 0 n dc]⟩) M0)(hg:GX (⟨n,es,rank,arcs,up,down⟩:IX))(a4:aW up (aC ub 0 n uc) M0)(a3:aW down (aC db 0 n dc) M0)(hM:aA M)(X0:Ext M0 M)(gx:M.get x=some ⟨[i64 n,ev,rv,av,aC ub 0 n uc,aC db 0 n dc],32,6,0,true⟩):
  ∃M',bL prog [] (q16.loopAt 0) Tryz.f16.ntmps (fr [(1,pt x 0),(3,i64 ((0:Nat):Int))]) M (.exit 0) (fr []) M'/\Ext M0 M'/\aA M':=by
 have a9:=hg.ul
 have a6:=hg.dl
 have a0:=(fY hg.ck).2.1
 simp only at a9 a6 a0
 have a8:ub<M0.next:=by obtain⟨E,c,blk,e1,e2,_⟩:=a4;simp only [Value.slice.injEq,Option.some.injEq,Addr.mk.injEq,and_true] at e1;rw[e1.1];exact aB.lt_of_get e2
 have a5:db<M0.next:=by obtain⟨E,c,blk,e1,e2,_⟩:=a3;simp only [Value.slice.injEq,Option.some.injEq,Addr.mk.injEq,and_true] at e1;rw[e1.1];exact aB.lt_of_get e2
 obtain⟨_,M',k1,k2,k3,_⟩:=bL.for (P:=prog) (GL:= []) (b:=q16.loopAt 0) (nt:=Tryz.f16.ntmps) (id:=0) (σ:=Unit) (n:=n) (Inv:=fun i _ M1=>Ext M0 M1/\aA M1/\M1.get x=some ⟨[i64 n,ev,rv,av,aC ub 0 n uc,aC db 0 n dc],32,6,0,true⟩)
  (F:=fun i _=> [(1,pt x 0),(3,i64 ((i:Nat):Int))]) (O:=fun _=> [])
  (by
   rintro v _ M1 hv ⟨X1,a2,a1⟩
   have hu:up[v]?=some up[v]:=xAe (by omega)
   have hd:down[v]?=some down[v]:=xAe (by omega)
   obtain⟨la,lc,l1,p1⟩:=Di (P:=prog) (ty:=22) a4 hu jW
   obtain⟨ma,mc,l2,p2⟩:=Di (P:=prog) (ty:=22) a3 hd jW
   obtain⟨T1,M2,q1,q2,q3,q4,q5⟩:=rX x ub uc db dc lc mc n v la ma ev rv av es rank arcs up down up[v] down[v] a2 X1 a8 a5 a1 a7 hg hv p1 p2 (hg.up v _ hu) (hg.dn v _ hd) (xAb (by omega)) (by rw[Int.toNat_natCast];exact l1) (by rw[Int.toNat_natCast];exact l2)
   rw[bD (by omega)] at q2
   exact⟨(),T1,M2,q1,q2,q3,q4,q5⟩)
  (by
   rintro _ M1 ⟨X1,a2,a1⟩
   exact rXx x ub uc db dc n n ev rv av (M:=M1) a1 (xAa (by omega)))
  n 0 (by omega) (s:=()) (M:=M) ⟨X0,hM,gx⟩
 exact⟨M',k1,k2,k3⟩
theorem rK16:Tryz.f16.results= #[.tmp 2]:=by kernel_rfl
theorem w12p(n:Nat)(ea:Option Addr)(ec rb ro rc:Nat)(aa:Option Addr)(ac ub uc db dc:Nat)(es:List E4)(rank:List Int)(arcs:List A7)(up down:List (List Int)){M:aB}(hM:aA M)(e6:aS es (.slice ea es.length ec) M)(prk:aH rank (aC rb ro n rc) M)(c6:dJ arcs (.slice aa arcs.length ac) M)(e7:aW up (aC ub 0 n uc) M)(e5:aW down (aC db 0 n dc) M)(hg:GX ⟨n,es,rank,arcs,up,down⟩)(hal:arcs.length<=300000)(hz:0<arcs.length)(b7:pJ (⟨n,es,rank,arcs,up,down⟩:IX) (.agg ⟨[i64 (n:Int),.slice ea es.length ec,aC rb ro n rc,.slice aa arcs.length ac,aC ub 0 n uc,aC db 0 n dc]⟩) M): ∃v_ M',Ev prog [] 16 [.agg ⟨[i64 (n:Int),.slice ea es.length ec,aC rb ro n rc,.slice aa arcs.length ac,aC ub 0 n uc,aC db 0 n dc]⟩] M v_ M'/\Ext M M'/\aA M'/\v_= .bool true:=by
 obtain⟨b1,M2,d5,d6,g5,E6,d8⟩:=bC hM ⟨[i64 (n:Int),.slice ea es.length ec,aC rb ro n rc,.slice aa arcs.length ac,aC ub 0 n uc,aC db 0 n dc],32,6,0,true⟩
 have X9:=(Ext.refl M).trans E6
 obtain⟨e8,f1,a4,e2,d9,d2,b8,b3,c7⟩:=aL (x:=(n,es)) d8 Xu (⟨⟨_,rfl,_,rfl,AP.Ext (R:=aS) e6 X9⟩,hg.ck⟩)
 have c5:=b8.old g5
 have a9:e8=(.bool true):=c7
 subst a9
 have c2:=X9.trans b8
 obtain⟨e9,f2,a0,e3,e0,d3,b9,b4,c8⟩:=aL (x:=(⟨n,es,rank,arcs,up,down⟩:IX)) b3 Xv (⟨⟨_,rfl,AP.Ext (R:=pJ) b7 c2⟩,hg⟩)
 have a6:=b9.old c5
 have b0:e9=(.bool true):=c8
 subst b0
 have c3:=c2.trans b9
 obtain⟨f0,f3,a5,e4,e1,d4,c0,b5,c9⟩:=aL (x:=(⟨n,es,rank,arcs,up,down⟩:IX)) b4 con45 (⟨⟨_,rfl,AP.Ext (R:=pJ) b7 c3⟩,hg⟩)
 have d7:=c0.old a6
 have c1:aH (fM arcs arcs.length) f0 (cI [(0,a0.next)] a5):=kV c9
 obtain⟨f4,c4,a2⟩:=aJ.form c1
 rw[gF] at a2
 subst a2
 obtain⟨a1,a3,a8,_⟩:=bU c1 (by rw[gF];omega)
 subst a8
 have d0:=c3.trans c0
 obtain⟨a7,b2,d1,b6⟩:=Ym b7 hg e7 e5 b5 d0 d7
 exact⟨.bool true,a7,Ev.told_tmp (tb:=[0]) (n:=100) (F:=[bJ 1 (pt b1 0) M2,aR 7 (.agg ⟨[i64 (n:Int),.slice ea es.length ec]⟩),bJ 9 (.bool true) a4,aR 15 (.agg ⟨[i64 (n:Int),.slice ea es.length ec,aC rb ro n rc,.slice aa arcs.length ac,aC ub 0 n uc,aC db 0 n dc]⟩),bJ 17 (.bool true) a0,aR 27 (.slice aa arcs.length ac),aQ 29,aO 36,aO 38,aR 39 (.slice aa arcs.length ac),aO 40,aQ 41,aO 42,aO 44,aQ 46,aR 47 (.agg ⟨[i64 (n:Int),.slice ea es.length ec,aC rb ro n rc,.slice aa arcs.length ac,aC ub 0 n uc,aC db 0 n dc]⟩),aQ 48,bJ 49 (aC a1 a3 arcs.length c4) a5,aQ 50,aO 52,aQ 53,aO 55,.blk 59 [1,3] .normal (fr []) a7]) aG aF Tryz.func16 Uh (by kernel_rfl) rK16 (fun B=>wR (gH 43 Q43 (gH 44 Q44 (gH 45 Q45 (gL _)))) 0 b2) (fun _ h=>bZ h) (by kernel_rfl) (hq (.eq (eI prog 32 (.agg ⟨[i64 (n:Int),.slice ea es.length ec,aC rb ro n rc,.slice aa arcs.length ac,aC ub 0 n uc,aC db 0 n dc]⟩) M) (1,.val (pt b1 0),M2)) (bN (by rw[<-d5,<-d6];kernel_rfl) xAc) (hq (qL 26 b1 0 M2 (.agg ⟨[i64 (n:Int),.slice ea es.length ec]⟩)) (lA ⟨zB,uV⟩ g5 rfl) (hq (qC 43 [.agg ⟨[i64 (n:Int),.slice ea es.length ec]⟩] M2 (.bool true) a4) (aK rfl e2 d9 d2) (hq (qL 32 b1 0 a4 (.agg ⟨[i64 (n:Int),.slice ea es.length ec,aC rb ro n rc,.slice aa arcs.length ac,aC ub 0 n uc,aC db 0 n dc]⟩)) (lA ⟨uU,rR⟩ c5 rfl) (hq (qC 44 [.agg ⟨[i64 (n:Int),.slice ea es.length ec,aC rb ro n rc,.slice aa arcs.length ac,aC ub 0 n uc,aC db 0 n dc]⟩] a4 (.bool true) a0) (aK rfl e3 e0 d3) (hk (lO 3 iU a6 rfl) (hk (lN c6.ln) (hk (bF (x:=decide ((arcs.length:Int)>(300000:Int))) (xAa (by omega))) (hk (bF (x:=decide ((arcs.length:Int)>(300000:Int))) (xAa (by omega))) (hk (lO 3 iU a6 rfl) (hk (bF (x:=decide ((arcs.length:Int)>(300000:Int))) (xAa (by omega))) (hk (lN c6.ln) (hk (bF (x:=decide ((arcs.length:Int)>(300000:Int))) (xAa (by omega))) (hk (bF (x:=decide ((arcs.length:Int)>(300000:Int))) (xAa (by omega))) (hk (bT (x:=decide ((arcs.length:Int)>(0:Int))) (xAb (by omega))) (hq (qL 32 b1 0 a0 (.agg ⟨[i64 (n:Int),.slice ea es.length ec,aC rb ro n rc,.slice aa arcs.length ac,aC ub 0 n uc,aC db 0 n dc]⟩)) (lA ⟨uU,rR⟩ a6 rfl) (hk (bT (x:=decide ((arcs.length:Int)>(0:Int))) (xAb (by omega))) (hq (qC 45 [.agg ⟨[i64 (n:Int),.slice ea es.length ec,aC rb ro n rc,.slice aa arcs.length ac,aC ub 0 n uc,aC db 0 n dc]⟩] a0 (aC a1 a3 arcs.length c4) a5) (aK rfl e4 e1 d4) (hk (bT (x:=decide ((arcs.length:Int)>(0:Int))) (xAb (by omega))) (hk (bF (x:=decide ((arcs.length:Int)>(300000:Int))) (xAa (by omega))) (hk (bT (x:=decide ((arcs.length:Int)>(0:Int))) (xAb (by omega))) (hk (bF (x:=decide ((arcs.length:Int)>(300000:Int))) (xAa (by omega))) (hq (.blk 0 (.loop (q16.loopAt 0)) Tryz.f16.ntmps [1,3] [some (pt b1 0),some (i64 0)] a5 .normal (fr []) a7) (fB rfl) hn))))))))))))))))))))))),d1,b6,rfl⟩
theorem w12z(n:Nat)(ea:Option Addr)(ec rb ro rc:Nat)(aa:Option Addr)(ac ub uc db dc:Nat)(es:List E4)(rank:List Int)(arcs:List A7)(up down:List (List Int)){M:aB}(hM:aA M)(d1:aS es (.slice ea es.length ec) M)(prk:aH rank (aC rb ro n rc) M)(b6:dJ arcs (.slice aa arcs.length ac) M)(d2:aW up (aC ub 0 n uc) M)(d0:aW down (aC db 0 n dc) M)(hg:GX ⟨n,es,rank,arcs,up,down⟩)(hal:arcs.length<=300000)(hz:arcs.length=0)(b5:pJ (⟨n,es,rank,arcs,up,down⟩:IX) (.agg ⟨[i64 (n:Int),.slice ea es.length ec,aC rb ro n rc,.slice aa arcs.length ac,aC ub 0 n uc,aC db 0 n dc]⟩) M): ∃v_ M',Ev prog [] 16 [.agg ⟨[i64 (n:Int),.slice ea es.length ec,aC rb ro n rc,.slice aa arcs.length ac,aC ub 0 n uc,aC db 0 n dc]⟩] M v_ M'/\Ext M M'/\aA M'/\v_= .bool true:=by
 obtain⟨b1,M2,c3,c4,g5,E6,c5⟩:=bC hM ⟨[i64 (n:Int),.slice ea es.length ec,aC rb ro n rc,.slice aa arcs.length ac,aC ub 0 n uc,aC db 0 n dc],32,6,0,true⟩
 have X9:=(Ext.refl M).trans E6
 obtain⟨d3,d5,a0,c8,c6,c1,b0,a7,b7⟩:=aL (x:=(n,es)) c5 Xu (⟨⟨_,rfl,_,rfl,AP.Ext (R:=aS) d1 X9⟩,hg.ck⟩)
 have b4:=b0.old g5
 have a3:d3=(.bool true):=b7
 subst a3
 have b3:=X9.trans b0
 obtain⟨d4,d6,a1,c9,c7,c2,b2,a8,b8⟩:=aL (x:=(⟨n,es,rank,arcs,up,down⟩:IX)) a7 Xv (⟨⟨_,rfl,AP.Ext (R:=pJ) b5 b3⟩,hg⟩)
 have a5:=b2.old b4
 have a4:d4=(.bool true):=b8
 subst a4
 have b9:=b3.trans b2
 obtain⟨a2,a6,c0,a9⟩:=Ym b5 hg d2 d0 a8 b9 a5
 exact⟨.bool true,a2,Ev.told_tmp (tb:=[0]) (n:=100) (F:=[bJ 1 (pt b1 0) M2,aR 7 (.agg ⟨[i64 (n:Int),.slice ea es.length ec]⟩),bJ 9 (.bool true) a0,aR 15 (.agg ⟨[i64 (n:Int),.slice ea es.length ec,aC rb ro n rc,.slice aa arcs.length ac,aC ub 0 n uc,aC db 0 n dc]⟩),bJ 17 (.bool true) a1,aR 27 (.slice aa arcs.length ac),aQ 29,aO 36,aO 38,aR 39 (.slice aa arcs.length ac),aO 40,aQ 41,aO 42,aO 44,aO 46,aO 48,aO 50,aO 52,aO 53,aO 55,.blk 59 [1,3] .normal (fr []) a2]) aG aF Tryz.func16 Uh (by kernel_rfl) rK16 (fun B=>wR (gH 43 Q43 (gH 44 Q44 (gL _))) 0 a6) (fun _ h=>bZ h) (by kernel_rfl) (hq (.eq (eI prog 32 (.agg ⟨[i64 (n:Int),.slice ea es.length ec,aC rb ro n rc,.slice aa arcs.length ac,aC ub 0 n uc,aC db 0 n dc]⟩) M) (1,.val (pt b1 0),M2)) (bN (by rw[<-c3,<-c4];kernel_rfl) xAc) (hq (qL 26 b1 0 M2 (.agg ⟨[i64 (n:Int),.slice ea es.length ec]⟩)) (lA ⟨zB,uV⟩ g5 rfl) (hq (qC 43 [.agg ⟨[i64 (n:Int),.slice ea es.length ec]⟩] M2 (.bool true) a0) (aK rfl c8 c6 c1) (hq (qL 32 b1 0 a0 (.agg ⟨[i64 (n:Int),.slice ea es.length ec,aC rb ro n rc,.slice aa arcs.length ac,aC ub 0 n uc,aC db 0 n dc]⟩)) (lA ⟨uU,rR⟩ b4 rfl) (hq (qC 44 [.agg ⟨[i64 (n:Int),.slice ea es.length ec,aC rb ro n rc,.slice aa arcs.length ac,aC ub 0 n uc,aC db 0 n dc]⟩] a0 (.bool true) a1) (aK rfl c9 c7 c2) (hk (lO 3 iU a5 rfl) (hk (lN b6.ln) (hk (bF (x:=decide ((arcs.length:Int)>(300000:Int))) (xAa (by omega))) (hk (bF (x:=decide ((arcs.length:Int)>(300000:Int))) (xAa (by omega))) (hk (lO 3 iU a5 rfl) (hk (bF (x:=decide ((arcs.length:Int)>(300000:Int))) (xAa (by omega))) (hk (lN b6.ln) (hk (bF (x:=decide ((arcs.length:Int)>(300000:Int))) (xAa (by omega))) (hk (bF (x:=decide ((arcs.length:Int)>(300000:Int))) (xAa (by omega))) (hk (bF (x:=decide ((arcs.length:Int)>(0:Int))) (xAa (by omega))) (hk (bF (x:=decide ((arcs.length:Int)>(0:Int))) (xAa (by omega))) (hk (bF (x:=decide ((arcs.length:Int)>(0:Int))) (xAa (by omega))) (hk (bF (x:=decide ((arcs.length:Int)>(300000:Int))) (xAa (by omega))) (hk (bF (x:=decide ((arcs.length:Int)>(0:Int))) (xAa (by omega))) (hk (bF (x:=decide ((arcs.length:Int)>(300000:Int))) (xAa (by omega))) (hq (.blk 0 (.loop (q16.loopAt 0)) Tryz.f16.ntmps [1,3] [some (pt b1 0),some (i64 0)] a1 .normal (fr []) a2) (fB rfl) hn))))))))))))))))))))),c0,a9,rfl⟩
abbrev Q16:=FC (gN (sZ pJ) GX) (plain pB) (fun _=>true)
theorem con16{x:IX}{lv:List Value}{M:aB}(hM:aA M)(h:(gN (sZ pJ) GX) x lv M): ∃v M',kR prog [] 16 Q16 lv M v M':=by
 refine FC.con h ?_
 obtain⟨⟨g0,rfl,k0⟩,hg⟩:=h
 obtain⟨ea,ec,rb,ro,rc,aa,ac,ub,uc,db,dc,rfl,h1,h2,h3,h4,h5⟩:=qD k0 hg
 have a0:=hg.al
 obtain⟨n,es,rank,arcs,up,down⟩:=x
 simp only at a0
 by_cases hz:arcs.length=0
 ·obtain⟨v,M',q1,q2,_,q3⟩:=w12z n ea ec rb ro rc aa ac ub uc db dc es rank arcs up down hM h1 h2 h3 h4 h5 hg a0 hz k0
  exact⟨v,M',q1,q2,q3⟩
 ·obtain⟨v,M',q1,q2,_,q3⟩:=w12p n ea ec rb ro rc aa ac ub uc db dc es rank arcs up down hM h1 h2 h3 h4 h5 hg a0 (by omega) k0
  exact⟨v,M',q1,q2,q3⟩
end Go.Proofs.YtdaglldahidmbaaGreat
