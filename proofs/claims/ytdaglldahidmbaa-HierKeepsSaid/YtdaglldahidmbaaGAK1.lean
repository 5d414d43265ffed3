/-
  Package hier: each of its laws for every argument; no conditions. The last text states which.
-/
import Derived.Test.YtdaglldahidmbaaGAJ1
import Derived.Test.YtdaglldahidmbaaGAmRk
set_option linter.unusedVariables false
set_option linter.unusedSimpArgs false
open Go Go.Am Go.Proofs
namespace Go.Proofs.Ytdaglldahidmbaa
set_option maxRecDepth 100000
theorem Ee(q x A_ B_ rb ro rc ab ao L ac ub uc db dc n v i1 i j1:Nat)(ev qv:Value)(p y z:A7)(b:Bool){M M0:aA}(hM:aB M)(X0:Ext M0 M)(hab:ab<M0.next)(gq:M.get q=some ⟨[i64 n,qv],26,2,0,true⟩)(gx:M.get x=some ⟨[i64 (n:Int),ev,aC rb ro n rc,aC ab ao L ac,aC ub 0 n uc,aC db 0 n dc],31,6,0,true⟩)(gA:M.get A_=some ⟨(aY p),42,7,0,true⟩)(gB:M.get B_=some ⟨(aY y),42,7,0,true⟩)(hwr:IntKind.wrap .i64 (p.c+y.c)=p.c+y.c)(a3:(decide ((j1:Int)<(L:Int)))=true): (∀(cc1:(b)=true)(hld0:bA Try.prog 42 ⟨ab,ao+((j1:Int):Int).toNat*7,none⟩ M0=some (.agg ⟨(aY z)⟩)),∃T1 M',Rd Try.prog [] (q5.loopAt 6) Try.f5.ntmps (fr [(7,(pt q 0)),(8,(pt x 0)),(9,(i64 (v:Int))),(10,(i64 (i1:Int))),(11,(i64 (i:Int))),(12,(pt A_ 0)),(13,(pt B_ 0)),(14,(.bool b)),(15,(i64 (j1:Int)))]) M .normal T1 M'/\ [7,8,9,10,11,12,13,14,15].map T1.get= [some (pt q 0),some (pt x 0),some (i64 (v:Int)),some (i64 (i1:Int)),some (i64 (i:Int)),some (pt A_ 0),some (pt B_ 0),some (.bool true),some (i64 (IntKind.wrap .i64 ((j1:Int)+(1:Int))))]/\Ext M0 M'/\aB M'/\M'.get q=some ⟨[i64 (n:Int),qv],26,2,0,true⟩/\M'.get x=some ⟨[i64 (n:Int),ev,aC rb ro n rc,aC ab ao L ac,aC ub 0 n uc,aC db 0 n dc],31,6,0,true⟩/\M'.get A_=some ⟨(aY p),42,7,0,true⟩/\M'.get B_=some ⟨(aY y),42,7,0,true⟩)/\(∀(cc1:(b)=false)(cc2:(z.f==p.f)=true)(cc3:(z.t==y.t)=true)(cc4:(z.m==p.m)=true)(hld0:bA Try.prog 42 ⟨ab,ao+((j1:Int):Int).toNat*7,none⟩ M0=some (.agg ⟨(aY z)⟩)),∃T1 M',Rd Try.prog [] (q5.loopAt 6) Try.f5.ntmps (fr [(7,(pt q 0)),(8,(pt x 0)),(9,(i64 (v:Int))),(10,(i64 (i1:Int))),(11,(i64 (i:Int))),(12,(pt A_ 0)),(13,(pt B_ 0)),(14,(.bool b)),(15,(i64 (j1:Int)))]) M .normal T1 M'/\ [7,8,9,10,11,12,13,14,15].map T1.get= [some (pt q 0),some (pt x 0),some (i64 (v:Int)),some (i64 (i1:Int)),some (i64 (i:Int)),some (pt A_ 0),some (pt B_ 0),some (.bool (decide (z.c<=(IntKind.wrap .i64 (p.c+y.c))))),some (i64 (IntKind.wrap .i64 ((j1:Int)+(1:Int))))]/\Ext M0 M'/\aB M'/\M'.get q=some ⟨[i64 (n:Int),qv],26,2,0,true⟩/\M'.get x=some ⟨[i64 (n:Int),ev,aC rb ro n rc,aC ab ao L ac,aC ub 0 n uc,aC db 0 n dc],31,6,0,true⟩/\M'.get A_=some ⟨(aY p),42,7,0,true⟩/\M'.get B_=some ⟨(aY y),42,7,0,true⟩)/\(∀(cc1:(b)=false)(cc2:(z.f==p.f)=true)(cc3:(z.t==y.t)=true)(cc4:(z.m==p.m)=false)(hld0:bA Try.prog 42 ⟨ab,ao+((j1:Int):Int).toNat*7,none⟩ M0=some (.agg ⟨(aY z)⟩)),∃T1 M',Rd Try.prog [] (q5.loopAt 6) Try.f5.ntmps (fr [(7,(pt q 0)),(8,(pt x 0)),(9,(i64 (v:Int))),(10,(i64 (i1:Int))),(11,(i64 (i:Int))),(12,(pt A_ 0)),(13,(pt B_ 0)),(14,(.bool b)),(15,(i64 (j1:Int)))]) M .normal T1 M'/\ [7,8,9,10,11,12,13,14,15].map T1.get= [some (pt q 0),some (pt x 0),some (i64 (v:Int)),some (i64 (i1:Int)),some (i64 (i:Int)),some (pt A_ 0),some (pt B_ 0),some (.bool false),some (i64 (IntKind.wrap .i64 ((j1:Int)+(1:Int))))]/\Ext M0 M'/\aB M'/\M'.get q=some ⟨[i64 (n:Int),qv],26,2,0,true⟩/\M'.get x=some ⟨[i64 (n:Int),ev,aC rb ro n rc,aC ab ao L ac,aC ub 0 n uc,aC db 0 n dc],31,6,0,true⟩/\M'.get A_=some ⟨(aY p),42,7,0,true⟩/\M'.get B_=some ⟨(aY y),42,7,0,true⟩)/\(∀(cc1:(b)=false)(cc2:(z.f==p.f)=true)(cc3:(z.t==y.t)=false)(hld0:bA Try.prog 42 ⟨ab,ao+((j1:Int):Int).toNat*7,none⟩ M0=some (.agg ⟨(aY z)⟩)),∃T1 M',Rd Try.prog [] (q5.loopAt 6) Try.f5.ntmps (fr [(7,(pt q 0)),(8,(pt x 0)),(9,(i64 (v:Int))),(10,(i64 (i1:Int))),(11,(i64 (i:Int))),(12,(pt A_ 0)),(13,(pt B_ 0)),(14,(.bool b)),(15,(i64 (j1:Int)))]) M .normal T1 M'/\ [7,8,9,10,11,12,13,14,15].map T1.get= [some (pt q 0),some (pt x 0),some (i64 (v:Int)),some (i64 (i1:Int)),some (i64 (i:Int)),some (pt A_ 0),some (pt B_ 0),some (.bool false),some (i64 (IntKind.wrap .i64 ((j1:Int)+(1:Int))))]/\Ext M0 M'/\aB M'/\M'.get q=some ⟨[i64 (n:Int),qv],26,2,0,true⟩/\M'.get x=some ⟨[i64 (n:Int),ev,aC rb ro n rc,aC ab ao L ac,aC ub 0 n uc,aC db 0 n dc],31,6,0,true⟩/\M'.get A_=some ⟨(aY p),42,7,0,true⟩/\M'.get B_=some ⟨(aY y),42,7,0,true⟩)/\(∀(cc1:(b)=false)(cc2:(z.f==p.f)=false)(hld0:bA Try.prog 42 ⟨ab,ao+((j1:Int):Int).toNat*7,none⟩ M0=some (.agg ⟨(aY z)⟩)),∃T1 M',Rd Try.prog [] (q5.loopAt 6) Try.f5.ntmps (fr [(7,(pt q 0)),(8,(pt x 0)),(9,(i64 (v:Int))),(10,(i64 (i1:Int))),(11,(i64 (i:Int))),(12,(pt A_ 0)),(13,(pt B_ 0)),(14,(.bool b)),(15,(i64 (j1:Int)))]) M .normal T1 M'/\ [7,8,9,10,11,12,13,14,15].map T1.get= [some (pt q 0),some (pt x 0),some (i64 (v:Int)),some (i64 (i1:Int)),some (i64 (i:Int)),some (pt A_ 0),some (pt B_ 0),some (.bool false),some (i64 (IntKind.wrap .i64 ((j1:Int)+(1:Int))))]/\Ext M0 M'/\aB M'/\M'.get q=some ⟨[i64 (n:Int),qv],26,2,0,true⟩/\M'.get x=some ⟨[i64 (n:Int),ev,aC rb ro n rc,aC ab ao L ac,aC ub 0 n uc,aC db 0 n dc],31,6,0,true⟩/\M'.get A_=some ⟨(aY p),42,7,0,true⟩/\M'.get B_=some ⟨(aY y),42,7,0,true⟩):=by
 obtain⟨b1,M2,a4,b2,g5,E6,c1⟩:=bH hM ⟨[i64 0,i64 0,i64 0,i64 0,i64 0,i64 0,i64 0],42,7,0,true⟩
 have c2:=mP a4 X0
 have b6:=fL gq a4
 have b7:=fL gx a4
 have a9:=fL gA a4
 have b0:=fL gB a4
 have g8:=E6.old gq
 have g9:=E6.old gx
 have b9:=E6.old gA
 have c0:=E6.old gB
 have b8:=X0.trans E6
 obtain⟨a0,b5,a5,a7,a8,a2,c3⟩:=bC (o:=0) (v:=(.agg ⟨(aY z)⟩)) (new:= (aY z)) b8 c2 c1 kS g5 rfl rfl (Nat.zero_le _) (Nat.le_of_ble_eq_true rfl) rfl
 have b3:=(a7 _ b6).trans g8
 have b4:=(a7 _ b7).trans g9
 have a1:=(a7 _ a9).trans b9
 have a6:=(a7 _ b0).trans c0
 refine⟨?_,?_,?_,?_,?_⟩
 ·intro cc1 hld0
  obtain⟨T1,h1,h2⟩:=Rd.told (tb:=[]) (n:=200) (F:=[aR 5 (aC ab ao L ac),aL 10,aR 14 (aC ab ao L ac),aL 18,aR 20 (.agg ⟨(aY z)⟩),bJ 22 (pt b1 0) M2,iR 24 a0,aL 29,aL 31,aL 33,aL 35,aL 37,aL 39,aL 51,aL 53,aL 65,aL 67,aL 85,aL 88]) aF aE (aH Try.prog) (fun _ _=>rfl) (by kernel_rfl) (hk (lO 3 gQ gx rfl) (hk (bT a3) (hk (lO 3 gQ gx rfl) (hk (qI (j1:Int) L (by omega) (by simp at a3;omega)) (hk (lD (aJ X0 hld0)) (hq (.eq (cC Try.prog 42 M) (1,.val (pt b1 0),M2)) (bP (by rw[<-a4,<-b2];kernel_rfl) Nat.one_ne_zero) (hq (qS 42 b1 0 (.agg ⟨(aY z)⟩) M2 a0) (cW b5) (hw (bT cc1) (hw (bT cc1) (hw (bT cc1) (hw (bT cc1) (hw (bT cc1) (hw (bT cc1) hn)))))))))))))
  exact⟨T1,a0,h1,h2,a8,a2,b3,b4,a1,a6⟩
 ·intro cc1 cc2 cc3 cc4 hld0
  obtain⟨T1,h1,h2⟩:=Rd.told (tb:=[]) (n:=200) (F:=[aR 5 (aC ab ao L ac),aL 10,aR 14 (aC ab ao L ac),aL 18,aR 20 (.agg ⟨(aY z)⟩),bJ 22 (pt b1 0) M2,iR 24 a0,aO 29,aO 31,aR 32 (i64 z.f),aO 33,aO 35,aR 36 (i64 p.f),aO 37,aO 39,aL 41,aL 43,aR 44 (i64 z.t),aL 45,aL 47,aR 48 (i64 y.t),aL 49,aO 51,aL 52,aO 53,aL 55,aL 57,aR 58 (i64 z.m),aL 59,aL 61,aR 62 (i64 p.m),aL 63,aO 65,aL 66,aO 67,aL 69,aL 71,aR 72 (i64 z.c),aL 73,aL 75,aR 76 (i64 p.c),aL 77,aL 79,aR 80 (i64 y.c),aL 81,aL 83,aO 85,aL 86,aO 88]) aF aE (aH Try.prog) (fun _ _=>rfl) (by kernel_rfl) (hk (lO 3 gQ gx rfl) (hk (bT a3) (hk (lO 3 gQ gx rfl) (hk (qI (j1:Int) L (by omega) (by simp at a3;omega)) (hk (lD (aJ X0 hld0)) (hq (.eq (cC Try.prog 42 M) (1,.val (pt b1 0),M2)) (bP (by rw[<-a4,<-b2];kernel_rfl) Nat.one_ne_zero) (hq (qS 42 b1 0 (.agg ⟨(aY z)⟩) M2 a0) (cW b5) (hw (bF cc1) (hk (lO 0 bQ a5 rfl) (hw (bF cc1) (hk (lO 0 bQ a1 rfl) (hw (bF cc1) (hw (bT cc2) (hk (lO 1 bQ a5 rfl) (hw (bT cc2) (hk (lO 1 bQ a6 rfl) (hk (bT cc2) (hk (bF cc1) (hk (bT cc2) (hk (bF cc1) (hw (bT cc3) (hk (lO 2 bQ a5 rfl) (hw (bT cc3) (hk (lO 2 bQ a1 rfl) (hk (bT cc3) (hk (bF cc1) (hk (bT cc3) (hk (bF cc1) (hw (bT cc4) (hk (lO 3 bQ a5 rfl) (hw (bT cc4) (hk (lO 3 bQ a1 rfl) (hw (bT cc4) (hk (lO 3 bQ a6 rfl) (hw (bT cc4) (hk (bF cc1) (hk (bT cc4) (hk (bF cc1) hn))))))))))))))))))))))))))))))))))))))
  exact⟨T1,a0,h1,h2,a8,a2,b3,b4,a1,a6⟩
 ·intro cc1 cc2 cc3 cc4 hld0
  obtain⟨T1,h1,h2⟩:=Rd.told (tb:=[]) (n:=200) (F:=[aR 5 (aC ab ao L ac),aL 10,aR 14 (aC ab ao L ac),aL 18,aR 20 (.agg ⟨(aY z)⟩),bJ 22 (pt b1 0) M2,iR 24 a0,aO 29,aO 31,aR 32 (i64 z.f),aO 33,aO 35,aR 36 (i64 p.f),aO 37,aO 39,aL 41,aL 43,aR 44 (i64 z.t),aL 45,aL 47,aR 48 (i64 y.t),aL 49,aO 51,aL 52,aO 53,aL 55,aL 57,aR 58 (i64 z.m),aL 59,aL 61,aR 62 (i64 p.m),aL 63,aO 65,aL 66,aO 67,aO 69,aO 71,aO 73,aO 75,aO 77,aO 79,aO 81,aO 83,aO 85,aO 86,aO 88]) aF aE (aH Try.prog) (fun _ _=>rfl) (by kernel_rfl) (hk (lO 3 gQ gx rfl) (hk (bT a3) (hk (lO 3 gQ gx rfl) (hk (qI (j1:Int) L (by omega) (by simp at a3;omega)) (hk (lD (aJ X0 hld0)) (hq (.eq (cC Try.prog 42 M) (1,.val (pt b1 0),M2)) (bP (by rw[<-a4,<-b2];kernel_rfl) Nat.one_ne_zero) (hq (qS 42 b1 0 (.agg ⟨(aY z)⟩) M2 a0) (cW b5) (hw (bF cc1) (hk (lO 0 bQ a5 rfl) (hw (bF cc1) (hk (lO 0 bQ a1 rfl) (hw (bF cc1) (hw (bT cc2) (hk (lO 1 bQ a5 rfl) (hw (bT cc2) (hk (lO 1 bQ a6 rfl) (hk (bT cc2) (hk (bF cc1) (hk (bT cc2) (hk (bF cc1) (hw (bT cc3) (hk (lO 2 bQ a5 rfl) (hw (bT cc3) (hk (lO 2 bQ a1 rfl) (hk (bT cc3) (hk (bF cc1) (hk (bT cc3) (hk (bF cc1) (hw (bF cc4) (hw (bF cc4) (hw (bF cc4) (hw (bF cc4) (hk (bF cc1) (hk (bF cc4) (hk (bF cc1) hn)))))))))))))))))))))))))))))))))))
  exact⟨T1,a0,h1,h2,a8,a2,b3,b4,a1,a6⟩
 ·intro cc1 cc2 cc3 hld0
  obtain⟨T1,h1,h2⟩:=Rd.told (tb:=[]) (n:=200) (F:=[aR 5 (aC ab ao L ac),aL 10,aR 14 (aC ab ao L ac),aL 18,aR 20 (.agg ⟨(aY z)⟩),bJ 22 (pt b1 0) M2,iR 24 a0,aO 29,aO 31,aR 32 (i64 z.f),aO 33,aO 35,aR 36 (i64 p.f),aO 37,aO 39,aL 41,aL 43,aR 44 (i64 z.t),aL 45,aL 47,aR 48 (i64 y.t),aL 49,aO 51,aL 52,aO 53,aO 55,aO 57,aO 59,aO 61,aO 63,aO 65,aO 66,aO 67,aO 85,aO 88]) aF aE (aH Try.prog) (fun _ _=>rfl) (by kernel_rfl) (hk (lO 3 gQ gx rfl) (hk (bT a3) (hk (lO 3 gQ gx rfl) (hk (qI (j1:Int) L (by omega) (by simp at a3;omega)) (hk (lD (aJ X0 hld0)) (hq (.eq (cC Try.prog 42 M) (1,.val (pt b1 0),M2)) (bP (by rw[<-a4,<-b2];kernel_rfl) Nat.one_ne_zero) (hq (qS 42 b1 0 (.agg ⟨(aY z)⟩) M2 a0) (cW b5) (hw (bF cc1) (hk (lO 0 bQ a5 rfl) (hw (bF cc1) (hk (lO 0 bQ a1 rfl) (hw (bF cc1) (hw (bT cc2) (hk (lO 1 bQ a5 rfl) (hw (bT cc2) (hk (lO 1 bQ a6 rfl) (hk (bT cc2) (hk (bF cc1) (hk (bT cc2) (hk (bF cc1) (hw (bF cc3) (hw (bF cc3) (hk (bF cc3) (hk (bF cc1) (hk (bF cc3) (hw (bF cc1) (hk (bF cc1) hn)))))))))))))))))))))))))))
  exact⟨T1,a0,h1,h2,a8,a2,b3,b4,a1,a6⟩
 ·intro cc1 cc2 hld0
  obtain⟨T1,h1,h2⟩:=Rd.told (tb:=[]) (n:=200) (F:=[aR 5 (aC ab ao L ac),aL 10,aR 14 (aC ab ao L ac),aL 18,aR 20 (.agg ⟨(aY z)⟩),bJ 22 (pt b1 0) M2,iR 24 a0,aO 29,aO 31,aR 32 (i64 z.f),aO 33,aO 35,aR 36 (i64 p.f),aO 37,aO 39,aO 41,aO 43,aO 45,aO 47,aO 49,aO 51,aO 52,aO 53,aO 65,aO 67,aO 85,aO 88]) aF aE (aH Try.prog) (fun _ _=>rfl) (by kernel_rfl) (hk (lO 3 gQ gx rfl) (hk (bT a3) (hk (lO 3 gQ gx rfl) (hk (qI (j1:Int) L (by omega) (by simp at a3;omega)) (hk (lD (aJ X0 hld0)) (hq (.eq (cC Try.prog 42 M) (1,.val (pt b1 0),M2)) (bP (by rw[<-a4,<-b2];kernel_rfl) Nat.one_ne_zero) (hq (qS 42 b1 0 (.agg ⟨(aY z)⟩) M2 a0) (cW b5) (hw (bF cc1) (hk (lO 0 bQ a5 rfl) (hw (bF cc1) (hk (lO 0 bQ a1 rfl) (hw (bF cc1) (hw (bF cc2) (hw (bF cc2) (hk (bF cc2) (hk (bF cc1) (hk (bF cc2) (hw (bF cc1) (hw (bF cc1) (hk (bF cc1) hn))))))))))))))))))))
  exact⟨T1,a0,h1,h2,a8,a2,b3,b4,a1,a6⟩
theorem rkjx(q x A_ B_ rb ro rc L ac ub uc db dc n v i1 i j1:Nat)(aa:Option Addr)(ev:Value)(b:Bool){M:aA}(a1:aa.isNone=true->L=0/\ac=0)(gx:M.get x=some ⟨[i64 (n:Int),ev,aC rb ro n rc,.slice aa L ac,aC ub 0 n uc,aC db 0 n dc],31,6,0,true⟩)(a0:(decide ((j1:Int)<(L:Int)))=false): ∃T1,Rd Try.prog [] (q5.loopAt 6) Try.f5.ntmps (fr [(7,(pt q 0)),(8,(pt x 0)),(9,(i64 (v:Int))),(10,(i64 (i1:Int))),(11,(i64 (i:Int))),(12,(pt A_ 0)),(13,(pt B_ 0)),(14,(.bool b)),(15,(i64 (j1:Int)))]) M (.exit 6) T1 M/\ [7,8,9,10,11,14].map T1.get= [some (pt q 0),some (pt x 0),some (i64 (v:Int)),some (i64 (i1:Int)),some (i64 (i:Int)),some (.bool b)]:=by
 exact Rd.told (tb:=[]) (n:=60) (F:=[aR 5 (.slice aa L ac),aL 7,aO 10]) aF aE (aH Try.prog) (fun _ _=>rfl) (by kernel_rfl) (hk (lO 3 gQ gx rfl) (hk (lN a1) (hk (bF a0) hn)))
def Ae(p y z:A7):Bool:=z.f==p.f&&(z.t==y.t&&(z.m==p.m&&decide (z.c<=p.c+y.c)))
def vZ(arcs:List A7)(p y:A7):Nat->Bool
 |0=>false
 |j+1=>vZ arcs p y j||(match arcs[j]? with|some z=>Ae p y z|none=>false)
theorem Vs{arcs:List A7}{p y z:A7}{j:Nat}(hz:arcs[j]?=some z)(h:Ae p y z=true): ∀k,j<k->vZ arcs p y k=true:=by
 intro k
 induction k with
 |zero=>intro h;omega
 |succ k ih=>
  intro hk
  unfold vZ
  by_cases e:j=k
  ·subst e;rw[hz];simp [h]
  ·rw[ih (by omega)];rfl
theorem Zi{q x A_ B_ rb ro rc ac ub uc db dc n v i1 i:Nat}{aa:Option Addr}{ev qv:Value}{arcs:List A7}{p y:A7}{M0 M:aA}(a8:fD arcs (.slice aa arcs.length ac) M0)(hM:aB M)(X0:Ext M0 M)(gq:M.get q=some ⟨[i64 n,qv],26,2,0,true⟩)(gx:M.get x=some ⟨[i64 (n:Int),ev,aC rb ro n rc,.slice aa arcs.length ac,aC ub 0 n uc,aC db 0 n dc],31,6,0,true⟩)(hA:M.get A_=some ⟨(aY p),42,7,0,true⟩)(hB:M.get B_=some ⟨(aY y),42,7,0,true⟩)(hal:arcs.length<=300000)(a6:IntKind.wrap .i64 (p.c+y.c)=p.c+y.c)(hE:vZ arcs p y arcs.length=true):
  ∃M',bL Try.prog [] (q5.loopAt 6) Try.f5.ntmps (fr [(7,pt q 0),(8,pt x 0),(9,i64 v),(10,i64 i1),(11,i64 i),(12,pt A_ 0),(13,pt B_ 0),(14,.bool false),(15,i64 ((0:Nat):Int))]) M (.exit 6) (fr [(7,pt q 0),(8,pt x 0),(9,i64 v),(10,i64 i1),(11,i64 i),(14,.bool true)]) M'/\Ext M0 M'/\aB M'/\M'.get q=some ⟨[i64 n,qv],26,2,0,true⟩/\M'.get x=some ⟨[i64 (n:Int),ev,aC rb ro n rc,.slice aa arcs.length ac,aC ub 0 n uc,aC db 0 n dc],31,6,0,true⟩:=by
 obtain⟨_,M',k1,k2,k3,k4,k5,_⟩:=bL.for (P:=Try.prog) (GL:= []) (b:=q5.loopAt 6) (nt:=Try.f5.ntmps) (id:=6) (σ:=Unit) (n:=arcs.length) (Inv:=fun j _ M1=>Ext M0 M1/\aB M1/\M1.get q=some ⟨[i64 n,qv],26,2,0,true⟩/\M1.get x=some ⟨[i64 (n:Int),ev,aC rb ro n rc,.slice aa arcs.length ac,aC ub 0 n uc,aC db 0 n dc],31,6,0,true⟩/\M1.get A_=some ⟨(aY p),42,7,0,true⟩/\M1.get B_=some ⟨(aY y),42,7,0,true⟩)
  (F:=fun j _=> [(7,pt q 0),(8,pt x 0),(9,i64 v),(10,i64 i1),(11,i64 i),(12,pt A_ 0),(13,pt B_ 0),(14,.bool (vZ arcs p y j)),(15,i64 ((j:Nat):Int))]) (O:=fun _=> [(7,pt q 0),(8,pt x 0),(9,i64 v),(10,i64 i1),(11,i64 i),(14,.bool true)])
  (by
   rintro j _ M1 hj ⟨X1,a4,a5,a1,a2,a3⟩
   obtain⟨ab,ao,rfl,_⟩:=cE a8 (by omega)
   have ht:arcs[j]?=some arcs[j]:=List.getElem?_eq_getElem hj
   have l1:=lE (P:=Try.prog) (ty:=42) a8 ht sY kS
   have a7:=Go.Am.kO a8 (by omega)
   have hs:vZ arcs p y (j+1)=(vZ arcs p y j||Ae p y arcs[j]):=by conv=>lhs;unfold vZ;rw[ht]
   rcases Bool.eq_false_or_eq_true (vZ arcs p y j) with hb|hb
   ··obtain⟨T1,M2,q1,q2,q3,q4,a0,q5,q6,q7⟩:=(Ee q x A_ B_ rb ro rc ab ao arcs.length ac ub uc db dc n v i1 i j ev qv p y arcs[j] (vZ arcs p y j) a4 X1 a7 a5 a1 a2 a3 a6 (decide_eq_true (by omega))).1 hb (by rw[Int.toNat_natCast];exact l1)
     rw[aX (by omega)] at q2
     refine⟨(),T1,M2,q1,?_,q3,q4,a0,q5,q6,q7⟩
     refine q2.trans ?_
     rw[hs,hb];rfl
   ·by_cases h1:(arcs[j].f==p.f)=true
    ·by_cases h2:(arcs[j].t==y.t)=true
     ·by_cases h3:(arcs[j].m==p.m)=true
      ·obtain⟨T1,M2,q1,q2,q3,q4,a0,q5,q6,q7⟩:=(Ee q x A_ B_ rb ro rc ab ao arcs.length ac ub uc db dc n v i1 i j ev qv p y arcs[j] (vZ arcs p y j) a4 X1 a7 a5 a1 a2 a3 a6 (decide_eq_true (by omega))).2.1 hb h1 h2 h3 (by rw[Int.toNat_natCast];exact l1)
       rw[aX (by omega)] at q2
       refine⟨(),T1,M2,q1,?_,q3,q4,a0,q5,q6,q7⟩
       refine q2.trans ?_
       rw[a6,hs,hb];unfold Ae;rw[h1,h2,h3];rfl
      ·obtain⟨T1,M2,q1,q2,q3,q4,a0,q5,q6,q7⟩:=(Ee q x A_ B_ rb ro rc ab ao arcs.length ac ub uc db dc n v i1 i j ev qv p y arcs[j] (vZ arcs p y j) a4 X1 a7 a5 a1 a2 a3 a6 (decide_eq_true (by omega))).2.2.1 hb h1 h2 (Bool.eq_false_iff.2 h3) (by rw[Int.toNat_natCast];exact l1)
       rw[aX (by omega)] at q2
       refine⟨(),T1,M2,q1,?_,q3,q4,a0,q5,q6,q7⟩
       refine q2.trans ?_
       rw[hs,hb];unfold Ae;rw[h1,h2,Bool.eq_false_iff.2 h3];rfl
     ·obtain⟨T1,M2,q1,q2,q3,q4,a0,q5,q6,q7⟩:=(Ee q x A_ B_ rb ro rc ab ao arcs.length ac ub uc db dc n v i1 i j ev qv p y arcs[j] (vZ arcs p y j) a4 X1 a7 a5 a1 a2 a3 a6 (decide_eq_true (by omega))).2.2.2.1 hb h1 (Bool.eq_false_iff.2 h2) (by rw[Int.toNat_natCast];exact l1)
      rw[aX (by omega)] at q2
      refine⟨(),T1,M2,q1,?_,q3,q4,a0,q5,q6,q7⟩
      refine q2.trans ?_
      rw[hs,hb];unfold Ae;rw[h1,Bool.eq_false_iff.2 h2];rfl
    ·obtain⟨T1,M2,q1,q2,q3,q4,a0,q5,q6,q7⟩:=(Ee q x A_ B_ rb ro rc ab ao arcs.length ac ub uc db dc n v i1 i j ev qv p y arcs[j] (vZ arcs p y j) a4 X1 a7 a5 a1 a2 a3 a6 (decide_eq_true (by omega))).2.2.2.2 hb (Bool.eq_false_iff.2 h1) (by rw[Int.toNat_natCast];exact l1)
     rw[aX (by omega)] at q2
     refine⟨(),T1,M2,q1,?_,q3,q4,a0,q5,q6,q7⟩
     refine q2.trans ?_
     rw[hs,hb];unfold Ae;rw[Bool.eq_false_iff.2 h1];rfl)
  (by
   rintro _ M1 ⟨X1,a4,a5,a1,a2,a3⟩
   have a9:=rkjx q x A_ B_ rb ro rc arcs.length ac ub uc db dc n v i1 i arcs.length aa ev (vZ arcs p y arcs.length) (M:=M1) a8.ln a1 (decide_eq_false (by omega))
   rw[hE] at a9
   rw[hE]
   exact a9)
  arcs.length 0 (by omega) (s:=()) (M:=M) ⟨X0,hM,gq,gx,hA,hB⟩
 exact⟨M',k1,k2,k3,k4,k5⟩
theorem Oo(q x rb ro rc ab ao L ac ub uc db dc wb wo m wc zb zo m2 zc n v i1 i:Nat)(ev qv:Value)(rank:List Int)(p y:A7)(a o:Int){M M0:aA}(hM:aB M)(X0:Ext M0 M)(j1:ab<M0.next)(j2:ub<M0.next)(hdb:db<M0.next)(j3:wb<M0.next)(hzb:zb<M0.next)(hrb:rb<M0.next)(gq:M.get q=some ⟨[i64 n,qv],26,2,0,true⟩)(gx:M.get x=some ⟨[i64 (n:Int),ev,aC rb ro n rc,aC ab ao L ac,aC ub 0 n uc,aC db 0 n dc],31,6,0,true⟩)(hvn:v<n)(hi1:i1<m2)(ha:0<=a/\a<(L:Int))(ho:0<=o/\o<(L:Int))(hrv:0<=fY rank (v:Int)): (∀(cc0:(decide ((i:Int)<(m:Int)))=true)(cc1:(y.t==(v:Int))=true)(hld0:bA Try.prog 22 ⟨ub,0+((v:Int):Int).toNat*1,none⟩ M0=some (aC wb wo m wc))(hld1:bA Try.prog 3 ⟨rb,ro+((v:Int):Int).toNat*1,none⟩ M0=some (i64 (fY rank (v:Int))))(hld2:bA Try.prog 22 ⟨db,0+((v:Int):Int).toNat*1,none⟩ M0=some (aC zb zo m2 zc))(hld3:bA Try.prog 3 ⟨zb,zo+((i1:Int):Int).toNat*1,none⟩ M0=some (i64 a))(hld4:bA Try.prog 42 ⟨ab,ao+(a:Int).toNat*7,none⟩ M0=some (.agg ⟨(aY p)⟩))(hld5:bA Try.prog 3 ⟨wb,wo+((i:Int):Int).toNat*1,none⟩ M0=some (i64 o))(hld6:bA Try.prog 42 ⟨ab,ao+(o:Int).toNat*7,none⟩ M0=some (.agg ⟨(aY y)⟩)),∃T1 M',Rd Try.prog [] (q5.loopAt 4) Try.f5.ntmps (fr [(7,(pt q 0)),(8,(pt x 0)),(9,(i64 (v:Int))),(10,(i64 (i1:Int))),(11,(i64 (i:Int)))]) M .normal T1 M'/\ [7,8,9,10,11].map T1.get= [some (pt q 0),some (pt x 0),some (i64 (v:Int)),some (i64 (i1:Int)),some (i64 (IntKind.wrap .i64 ((i:Int)+(1:Int))))]/\Ext M0 M'/\aB M'/\M'.get q=some ⟨[i64 (n:Int),qv],26,2,0,true⟩/\M'.get x=some ⟨[i64 (n:Int),ev,aC rb ro n rc,aC ab ao L ac,aC ub 0 n uc,aC db 0 n dc],31,6,0,true⟩)/\(∀(hin: ∀M1 A_ B_,aB M1->Ext M0 M1->M1.get q=some ⟨[i64 n,qv],26,2,0,true⟩->M1.get x=some ⟨[i64 (n:Int),ev,aC rb ro n rc,aC ab ao L ac,aC ub 0 n uc,aC db 0 n dc],31,6,0,true⟩->M1.get A_=some ⟨(aY p),42,7,0,true⟩->M1.get B_=some ⟨(aY y),42,7,0,true⟩-> ∃M',bL Try.prog [] (q5.loopAt 6) Try.f5.ntmps (fr [(7,pt q 0),(8,pt x 0),(9,i64 v),(10,i64 i1),(11,i64 i),(12,pt A_ 0),(13,pt B_ 0),(14,.bool false),(15,i64 ((0:Nat):Int))]) M1 (.exit 6) (fr [(7,pt q 0),(8,pt x 0),(9,i64 v),(10,i64 i1),(11,i64 i),(14,.bool true)]) M'/\Ext M0 M'/\aB M'/\M'.get q=some ⟨[i64 n,qv],26,2,0,true⟩/\M'.get x=some ⟨[i64 (n:Int),ev,aC rb ro n rc,aC ab ao L ac,aC ub 0 n uc,aC db 0 n dc],31,6,0,true⟩)(cc0:(decide ((i:Int)<(m:Int)))=true)(cc1:(y.t==(v:Int))=false)(cc2:(p.m==y.m)=true)(hld0:bA Try.prog 22 ⟨ub,0+((v:Int):Int).toNat*1,none⟩ M0=some (aC wb wo m wc))(hld1:bA Try.prog 3 ⟨rb,ro+((v:Int):Int).toNat*1,none⟩ M0=some (i64 (fY rank (v:Int))))(hld2:bA Try.prog 22 ⟨db,0+((v:Int):Int).toNat*1,none⟩ M0=some (aC zb zo m2 zc))(hld3:bA Try.prog 3 ⟨zb,zo+((i1:Int):Int).toNat*1,none⟩ M0=some (i64 a))(hld4:bA Try.prog 42 ⟨ab,ao+(a:Int).toNat*7,none⟩ M0=some (.agg ⟨(aY p)⟩))(hld5:bA Try.prog 3 ⟨wb,wo+((i:Int):Int).toNat*1,none⟩ M0=some (i64 o))(hld6:bA Try.prog 42 ⟨ab,ao+(o:Int).toNat*7,none⟩ M0=some (.agg ⟨(aY y)⟩)),∃T1 M',Rd Try.prog [] (q5.loopAt 4) Try.f5.ntmps (fr [(7,(pt q 0)),(8,(pt x 0)),(9,(i64 (v:Int))),(10,(i64 (i1:Int))),(11,(i64 (i:Int)))]) M .normal T1 M'/\ [7,8,9,10,11].map T1.get= [some (pt q 0),some (pt x 0),some (i64 (v:Int)),some (i64 (i1:Int)),some (i64 (IntKind.wrap .i64 ((i:Int)+(1:Int))))]/\Ext M0 M'/\aB M'/\M'.get q=some ⟨[i64 (n:Int),qv],26,2,0,true⟩/\M'.get x=some ⟨[i64 (n:Int),ev,aC rb ro n rc,aC ab ao L ac,aC ub 0 n uc,aC db 0 n dc],31,6,0,true⟩)/\(∀(cc0:(decide ((i:Int)<(m:Int)))=true)(cc1:(y.t==(v:Int))=false)(cc2:(p.m==y.m)=false)(hld0:bA Try.prog 22 ⟨ub,0+((v:Int):Int).toNat*1,none⟩ M0=some (aC wb wo m wc))(hld1:bA Try.prog 3 ⟨rb,ro+((v:Int):Int).toNat*1,none⟩ M0=some (i64 (fY rank (v:Int))))(hld2:bA Try.prog 22 ⟨db,0+((v:Int):Int).toNat*1,none⟩ M0=some (aC zb zo m2 zc))(hld3:bA Try.prog 3 ⟨zb,zo+((i1:Int):Int).toNat*1,none⟩ M0=some (i64 a))(hld4:bA Try.prog 42 ⟨ab,ao+(a:Int).toNat*7,none⟩ M0=some (.agg ⟨(aY p)⟩))(hld5:bA Try.prog 3 ⟨wb,wo+((i:Int):Int).toNat*1,none⟩ M0=some (i64 o))(hld6:bA Try.prog 42 ⟨ab,ao+(o:Int).toNat*7,none⟩ M0=some (.agg ⟨(aY y)⟩)),∃T1 M',Rd Try.prog [] (q5.loopAt 4) Try.f5.ntmps (fr [(7,(pt q 0)),(8,(pt x 0)),(9,(i64 (v:Int))),(10,(i64 (i1:Int))),(11,(i64 (i:Int)))]) M .normal T1 M'/\ [7,8,9,10,11].map T1.get= [some (pt q 0),some (pt x 0),some (i64 (v:Int)),some (i64 (i1:Int)),some (i64 (IntKind.wrap .i64 ((i:Int)+(1:Int))))]/\Ext M0 M'/\aB M'/\M'.get q=some ⟨[i64 (n:Int),qv],26,2,0,true⟩/\M'.get x=some ⟨[i64 (n:Int),ev,aC rb ro n rc,aC ab ao L ac,aC ub 0 n uc,aC db 0 n dc],31,6,0,true⟩):=by
 obtain⟨R1,a5⟩:=Jc M M []
 have X3:=Nf a5 X0
 have j4:R1.log= []:=by rw[a5]
 have a2:R1.next=M.next:=by rw[a5]
 have j0:=Je a5 hM
 have b5:=Nat.lt_of_lt_of_le j1 X0.next
 have b6:=Nat.lt_of_lt_of_le j2 X0.next
 have b7:=Nat.lt_of_lt_of_le j3 X0.next
 have ltqM:=aA.lt_of_get gq
 have g6:=bW a5 gq
 have b2:=aA.lt_of_get gx
 have g7:=bW a5 gx
 obtain⟨b8,M9,b1,c3,h5,e7,g1⟩:=bH j0 ⟨[i64 0,i64 0,i64 0,i64 0,i64 0,i64 0,i64 0],42,7,0,true⟩
 have j5:M0.next<=b8:=(mP b1 X3:)
 have f3:=fL g6 b1
 have f4:=fL g7 b1
 have h6:=e7.old g6
 have h7:=e7.old g7
 have g5:M9.log= []:=by rw[<-c3];exact j4
 have j6:=e7.next
 have h4:=X3.trans e7
 obtain⟨a6,a3,a9,c4,i0,e8,g2⟩:=bH g1 ⟨[i64 0,i64 0,i64 0,i64 0,i64 0,i64 0,i64 0],42,7,0,true⟩
 have g9:M0.next<=a6:=(mP a9 h4:)
 have d3:=fL h6 a9
 have d4:=fL h7 a9
 have a8:=fL h5 a9
 have i2:=e8.old h6
 have i3:=e8.old h7
 have i4:=e8.old h5
 have g8:a3.log= []:=by rw[<-c4];exact g5
 have f0:=h4.trans e8
 obtain⟨a7,h3,h8,c8,f1,g3,h0⟩:=bC (o:=0) (v:=(.agg ⟨(aY p)⟩)) (new:= (aY p)) f0 j5 g2 kS i4 rfl rfl (Nat.zero_le _) (Nat.le_of_ble_eq_true rfl) rfl
 have i5:=(c8 _ f3).trans i2
 have i6:=(c8 _ f4).trans i3
 have i7:=(c8 _ (Ne.symm a8)).trans i0
 have c9:a7.log= [b8]:=by rw[h0,g8]
 obtain⟨a1,q45,f6,c5,d1,c7,d0⟩:=bC (o:=0) (v:=(.agg ⟨(aY y)⟩)) (new:= (aY y)) f1 g9 g3 kS i7 rfl rfl (Nat.zero_le _) (Nat.le_of_ble_eq_true rfl) rfl
 have f7:=(c5 _ d3).trans i5
 have f8:=(c5 _ d4).trans i6
 refine⟨?_,?_,?_⟩
 ·intro cc0 cc1 hld0 hld1 hld2 hld3 hld4 hld5 hld6
  have b4:a1.log= [a6,b8]:=by rw[d0,c9]
  obtain⟨b0,a4⟩: ∃m:aA,m=(aA.mk a1.blks a1.next a1.hide (a1.log++M.log)):=⟨_,rfl⟩
  have d2:Ext M0 b0:=by rw[a4];exact Ext.join (X0) (d1)
  have b3:aB b0:=by rw[a4];exact c7
  have d5:=bW a4 f7
  have d6:=bW a4 f8
  have c6:=bW a4 f6
  have a0:oR Try.prog [] 200 Try.f5 (q5.loopAt 4) [(7,(pt q 0)),(8,(pt x 0)),(9,(i64 (v:Int))),(10,(i64 (i1:Int))),(11,(i64 (i:Int)))] M [aR 5 (aC ub 0 n uc),aL 9,aR 11 (aC wb wo m wc),aL 18,aL 20,aR 21 (aC rb ro n rc),aL 22,aL 24,aL 25,aL 26,aR 27 (i64 (fY rank (v:Int))),aL 28,aL 31,aL 32,aR 36 (aC ab ao L ac),aR 40 (aC db 0 n dc),aL 44,aR 46 (aC zb zo m2 zc),aL 50,aR 52 (i64 a),aL 54,aR 56 (.agg ⟨(aY p)⟩),aR 60 (aC ab ao L ac),aR 64 (aC ub 0 n uc),aL 68,aR 70 (aC wb wo m wc),aL 74,aR 76 (i64 o),aL 78,aR 80 (.agg ⟨(aY y)⟩),bJ 82 (pt b8 0) M9,bJ 84 (pt a6 0) (aA.mk a3.blks a3.next (aI 0 [⟨24,1,M.next,M9.next⟩,⟨11,1,M.next,M.next⟩,⟨9,1,M.next,M.next⟩,⟨6,1,M.next,M.next⟩,⟨3,1,M.next,M.next⟩,⟨1,1,M.next,M.next⟩]++M.hide) a3.log),iR 86 a7,iR 88 a1,aR 92 (i64 y.t),aL 99,aL 101,aL 103,aL 105,aL 107,aL 110] [7,8,9,10,11]=some (.normal,[some (pt q 0),some (pt x 0),some (i64 (v:Int)),some (i64 (i1:Int)),some (i64 (IntKind.wrap .i64 ((i:Int)+(1:Int))))],aA.mk a1.blks a1.next M.hide (a1.log++M.log),[qL 29 x 4 M (aC ub 0 n uc),.q (.inb (v:Int) n) (cZ true),qL 22 ub (0+((v:Int):Int).toNat*1) M (aC wb wo m wc),qT (decide ((i:Int)<(m:Int))),qT (decide ((i:Int)<(m:Int))),qL 22 x 2 M (aC rb ro n rc),qT (decide ((i:Int)<(m:Int))),qT (decide ((i:Int)<(m:Int))),.q (.inb (v:Int) n) (cZ true),qT (decide ((i:Int)<(m:Int))),qL 3 rb (ro+((v:Int):Int).toNat*1) M (i64 (fY rank (v:Int))),qT (decide ((i:Int)<(m:Int))),qT (decide ((i:Int)<(m:Int))),qT (decide ((fY rank (v:Int))>=(0:Int))),qL 28 x 3 (aA.mk M.blks M.next M.hide []) (aC ab ao L ac),qL 29 x 5 (aA.mk M.blks M.next (aI 4 [⟨1,1,M.next,M.next⟩]++M.hide) []) (aC db 0 n dc),.q (.inb (v:Int) n) (cZ true),qL 22 db (0+((v:Int):Int).toNat*1) (aA.mk M.blks M.next (aI 60 [⟨1,1,M.next,M.next⟩]++M.hide) []) (aC zb zo m2 zc),.q (.inb (i1:Int) m2) (cZ true),qL 3 zb (zo+((i1:Int):Int).toNat*1) (aA.mk M.blks M.next (aI 508 [⟨1,1,M.next,M.next⟩]++M.hide) []) (i64 a),.q (.inb a L) (cZ true),qL 42 ab (ao+(a:Int).toNat*7) (aA.mk M.blks M.next M.hide []) (.agg ⟨(aY p)⟩),qL 28 x 3 (aA.mk M.blks M.next (aI 4096 [⟨11,1,M.next,M.next⟩,⟨9,1,M.next,M.next⟩,⟨6,1,M.next,M.next⟩,⟨3,1,M.next,M.next⟩,⟨1,1,M.next,M.next⟩]++M.hide) []) (aC ab ao L ac),qT (Nat.blt x M.next),qL 29 x 4 (aA.mk M.blks M.next (aI 16384 [⟨11,1,M.next,M.next⟩,⟨9,1,M.next,M.next⟩,⟨6,1,M.next,M.next⟩,⟨3,1,M.next,M.next⟩,⟨1,1,M.next,M.next⟩]++M.hide) []) (aC ub 0 n uc),qT (Nat.blt x M.next),.q (.inb (v:Int) n) (cZ true),qL 22 ub (0+((v:Int):Int).toNat*1) (aA.mk M.blks M.next (aI 245760 [⟨11,1,M.next,M.next⟩,⟨9,1,M.next,M.next⟩,⟨6,1,M.next,M.next⟩,⟨3,1,M.next,M.next⟩,⟨1,1,M.next,M.next⟩]++M.hide) []) (aC wb wo m wc),qT (Nat.blt ub M.next),.q (.inb (i:Int) m) (cZ true),qL 3 wb (wo+((i:Int):Int).toNat*1) (aA.mk M.blks M.next (aI 2080768 [⟨11,1,M.next,M.next⟩,⟨9,1,M.next,M.next⟩,⟨6,1,M.next,M.next⟩,⟨3,1,M.next,M.next⟩,⟨1,1,M.next,M.next⟩]++M.hide) []) (i64 o),qT (Nat.blt wb M.next),.q (.inb o L) (cZ true),qL 42 ab (ao+(o:Int).toNat*7) (aA.mk M.blks M.next (aI 8384512 [⟨11,1,M.next,M.next⟩,⟨9,1,M.next,M.next⟩,⟨6,1,M.next,M.next⟩,⟨3,1,M.next,M.next⟩,⟨1,1,M.next,M.next⟩]++M.hide) []) (.agg ⟨(aY y)⟩),qT (Nat.blt ab M.next),.eq (cC Try.prog 42 (aA.mk M.blks M.next (aI 0 [⟨11,1,M.next,M.next⟩,⟨9,1,M.next,M.next⟩,⟨6,1,M.next,M.next⟩,⟨3,1,M.next,M.next⟩,⟨1,1,M.next,M.next⟩]++M.hide) [])) (1,.val (pt b8 0),M9),.eq (cC Try.prog 42 (aA.mk M9.blks M9.next (aI 0 [⟨24,1,M.next,M9.next⟩,⟨11,1,M.next,M.next⟩,⟨9,1,M.next,M.next⟩,⟨6,1,M.next,M.next⟩,⟨3,1,M.next,M.next⟩,⟨1,1,M.next,M.next⟩]++M.hide) M9.log)) (1,.val (pt a6 0),(aA.mk a3.blks a3.next (aI 0 [⟨24,1,M.next,M9.next⟩,⟨11,1,M.next,M.next⟩,⟨9,1,M.next,M.next⟩,⟨6,1,M.next,M.next⟩,⟨3,1,M.next,M.next⟩,⟨1,1,M.next,M.next⟩]++M.hide) a3.log)),qS 42 b8 0 (.agg ⟨(aY p)⟩) (aA.mk (aA.mk a3.blks a3.next (aI 0 [⟨24,1,M.next,M9.next⟩,⟨11,1,M.next,M.next⟩,⟨9,1,M.next,M.next⟩,⟨6,1,M.next,M.next⟩,⟨3,1,M.next,M.next⟩,⟨1,1,M.next,M.next⟩]++M.hide) a3.log).blks (aA.mk a3.blks a3.next (aI 0 [⟨24,1,M.next,M9.next⟩,⟨11,1,M.next,M.next⟩,⟨9,1,M.next,M.next⟩,⟨6,1,M.next,M.next⟩,⟨3,1,M.next,M.next⟩,⟨1,1,M.next,M.next⟩]++M.hide) a3.log).next M.hide (aA.mk a3.blks a3.next (aI 0 [⟨24,1,M.next,M9.next⟩,⟨11,1,M.next,M.next⟩,⟨9,1,M.next,M.next⟩,⟨6,1,M.next,M.next⟩,⟨3,1,M.next,M.next⟩,⟨1,1,M.next,M.next⟩]++M.hide) a3.log).log) a7,qS 42 a6 0 (.agg ⟨(aY y)⟩) (aA.mk a7.blks a7.next M.hide a7.log) a1,qT (cU [ab,wb,ub,x,x] a1.log),qL 3 a6 1 (aA.mk a1.blks a1.next M.hide (a1.log++M.log)) (i64 y.t),qT (y.t==(v:Int)),qT (y.t==(v:Int)),qT (y.t==(v:Int)),qT (y.t==(v:Int)),qT (y.t==(v:Int)),qT (y.t==(v:Int))]):=by kernel_rfl
  dsimp only at a0
  have d7:aA.mk M.blks M.next M.hide []=R1:=a5.symm
  have d8:=uB (k:=4) (l:=[⟨1,1,M.next,M.next⟩]) a5 (by simp [aI,Nat.beq_refl,a2,kE,kF])
  have d9:=uB (k:=60) (l:=[⟨1,1,M.next,M.next⟩]) a5 (by simp [aI,Nat.beq_refl,a2,kE,kF,show Nat.testBit 60 3=true from rfl])
  have e0:=uB (k:=508) (l:=[⟨1,1,M.next,M.next⟩]) a5 (by simp [aI,Nat.beq_refl,a2,kE,kF,show Nat.testBit 508 3=true from rfl,show Nat.testBit 508 6=true from rfl])
  have e1:=uB (k:=4096) (l:=[⟨11,1,M.next,M.next⟩,⟨9,1,M.next,M.next⟩,⟨6,1,M.next,M.next⟩,⟨3,1,M.next,M.next⟩,⟨1,1,M.next,M.next⟩]) a5 (by simp [aI,Nat.beq_refl,a2,kE,kF])
  have e2:=uB (k:=16384) (l:=[⟨11,1,M.next,M.next⟩,⟨9,1,M.next,M.next⟩,⟨6,1,M.next,M.next⟩,⟨3,1,M.next,M.next⟩,⟨1,1,M.next,M.next⟩]) a5 (by simp [aI,Nat.beq_refl,a2,kE,kF])
  have e3:=uB (k:=245760) (l:=[⟨11,1,M.next,M.next⟩,⟨9,1,M.next,M.next⟩,⟨6,1,M.next,M.next⟩,⟨3,1,M.next,M.next⟩,⟨1,1,M.next,M.next⟩]) a5 (by simp [aI,Nat.beq_refl,a2,kE,kF])
  have e4:=uB (k:=2080768) (l:=[⟨11,1,M.next,M.next⟩,⟨9,1,M.next,M.next⟩,⟨6,1,M.next,M.next⟩,⟨3,1,M.next,M.next⟩,⟨1,1,M.next,M.next⟩]) a5 (by simp [aI,Nat.beq_refl,a2,kE,kF])
  have e5:=uB (k:=8384512) (l:=[⟨11,1,M.next,M.next⟩,⟨9,1,M.next,M.next⟩,⟨6,1,M.next,M.next⟩,⟨3,1,M.next,M.next⟩,⟨1,1,M.next,M.next⟩]) a5 (by simp [aI,Nat.beq_refl,a2,kE,kF])
  have e6:=uB (k:=0) (l:=[⟨11,1,M.next,M.next⟩,⟨9,1,M.next,M.next⟩,⟨6,1,M.next,M.next⟩,⟨3,1,M.next,M.next⟩,⟨1,1,M.next,M.next⟩]) a5 (by simp [aI,Nat.beq_refl,a2,kE,kF])
  have b9:=nW ((X0).hide.trans (f0).hide.symm)
  have c0:=nW ((X0).hide.trans (f1).hide.symm)
  have c1:=Bf (L:=(a1.log++M.log)) ((X0).hide.trans (d1).hide.symm)
  have c2:(aA.mk a1.blks a1.next a1.hide (a1.log++M.log))=b0:=a4.symm
  try rw[d7] at a0
  try rw[d8] at a0
  try rw[d9] at a0
  try rw[e0] at a0
  try rw[e1] at a0
  try rw[e2] at a0
  try rw[e3] at a0
  try rw[e4] at a0
  try rw[e5] at a0
  try rw[e6] at a0
  try rw[b9] at a0
  try rw[c0] at a0
  try rw[c1] at a0
  try rw[c2] at a0
  obtain⟨T1,h1,h2⟩:=Rd.told aF aE (aH Try.prog) (fun _ _=>rfl) a0 (hk (lC nO gx rfl) (hk (cK (by omega) (by omega)) (hk (dD (aJ X0 hld0)) (hw (bT cc0) (hk (lC iJ gx rfl) (hw (bT cc0) (hk (cK (by omega) (by omega)) (hk (bT cc0) (hk (dD (aJ X0 hld1)) (hw (bT cc0) (hk (bT (decide_eq_true (by omega))) (hk (lC gQ g7 rfl) (hk (lC nO g7 rfl) (hk (cK (by omega) (by omega)) (hk (dD (aJ X3 hld2)) (hk (cK (by omega) (by omega)) (hk (dD (aJ X3 hld3)) (hk (cK (by omega) (by omega)) (hk (dD (aJ X3 hld4)) (hk (lC gQ g7 rfl) (hk (hJ b2) (hk (lC nO g7 rfl) (hk (hJ b2) (hk (cK (by omega) (by omega)) (hk (dD (aJ X3 hld0)) (hk (hJ b6) (hk (cK (by omega) (by simp at cc0;omega)) (hk (dD (aJ X3 hld5)) (hk (hJ b7) (hk (cK (by omega) (by omega)) (hk (dD (aJ X3 hld6)) (hk (hJ b5) (hk (bP (by rw[<-b1,<-c3];kernel_rfl) Nat.one_ne_zero) (hk (bP (by rw[<-a9,<-c4];kernel_rfl) Nat.one_ne_zero) (hk (cW h3) (hk (cW q45) (hk (dM (by rw[b4];simp<;>omega)) (hk (lC bQ c6 rfl) (hw (bT cc1) (hw (bT cc1) (hw (bT cc1) hn)))))))))))))))))))))))))))))))))))))))))
  exact⟨T1,b0,h1,h2,d2,b3,d5,d6⟩
 ·intro hin cc0 cc1 cc2 hld0 hld1 hld2 hld3 hld4 hld5 hld6
  have f9:=(c5 _ a8).trans h8
  have b4:a1.log= [a6,b8]:=by rw[d0,c9]
  obtain⟨b0,a4⟩: ∃m:aA,m=(aA.mk a1.blks a1.next a1.hide (a1.log++M.log)):=⟨_,rfl⟩
  have d2:Ext M0 b0:=by rw[a4];exact Ext.join (X0) (d1)
  have b3:aB b0:=by rw[a4];exact c7
  have d5:=bW a4 f7
  have d6:=bW a4 f8
  have f2:=bW a4 f9
  have c6:=bW a4 f6
  obtain⟨e9,g0,h9,g4,i8,i9⟩:=hin b0 b8 a6 b3 d2 d5 d6 f2 c6
  have a0:oR Try.prog [6] 200 Try.f5 (q5.loopAt 4) [(7,(pt q 0)),(8,(pt x 0)),(9,(i64 (v:Int))),(10,(i64 (i1:Int))),(11,(i64 (i:Int)))] M [aR 5 (aC ub 0 n uc),aL 9,aR 11 (aC wb wo m wc),aL 18,aL 20,aR 21 (aC rb ro n rc),aL 22,aL 24,aL 25,aL 26,aR 27 (i64 (fY rank (v:Int))),aL 28,aL 31,aL 32,aR 36 (aC ab ao L ac),aR 40 (aC db 0 n dc),aL 44,aR 46 (aC zb zo m2 zc),aL 50,aR 52 (i64 a),aL 54,aR 56 (.agg ⟨(aY p)⟩),aR 60 (aC ab ao L ac),aR 64 (aC ub 0 n uc),aL 68,aR 70 (aC wb wo m wc),aL 74,aR 76 (i64 o),aL 78,aR 80 (.agg ⟨(aY y)⟩),bJ 82 (pt b8 0) M9,bJ 84 (pt a6 0) (aA.mk a3.blks a3.next (aI 0 [⟨24,1,M.next,M9.next⟩,⟨11,1,M.next,M.next⟩,⟨9,1,M.next,M.next⟩,⟨6,1,M.next,M.next⟩,⟨3,1,M.next,M.next⟩,⟨1,1,M.next,M.next⟩]++M.hide) a3.log),iR 86 a7,iR 88 a1,aR 92 (i64 y.t),aO 99,aO 101,aR 102 (i64 p.m),aO 103,aO 105,aR 106 (i64 y.m),aO 107,aO 110,aO 111,.blk 116 [7,8,9,10,11,12,13,14,15] .normal (fr [(7,(pt q 0)),(8,(pt x 0)),(9,(i64 (v:Int))),(10,(i64 (i1:Int))),(11,(i64 (i:Int))),(14,(.bool true))]) e9] [7,8,9,10,11]=some (.normal,[some (pt q 0),some (pt x 0),some (i64 (v:Int)),some (i64 (i1:Int)),some (i64 (IntKind.wrap .i64 ((i:Int)+(1:Int))))],e9,[qL 29 x 4 M (aC ub 0 n uc),.q (.inb (v:Int) n) (cZ true),qL 22 ub (0+((v:Int):Int).toNat*1) M (aC wb wo m wc),qT (decide ((i:Int)<(m:Int))),qT (decide ((i:Int)<(m:Int))),qL 22 x 2 M (aC rb ro n rc),qT (decide ((i:Int)<(m:Int))),qT (decide ((i:Int)<(m:Int))),.q (.inb (v:Int) n) (cZ true),qT (decide ((i:Int)<(m:Int))),qL 3 rb (ro+((v:Int):Int).toNat*1) M (i64 (fY rank (v:Int))),qT (decide ((i:Int)<(m:Int))),qT (decide ((i:Int)<(m:Int))),qT (decide ((fY rank (v:Int))>=(0:Int))),qL 28 x 3 (aA.mk M.blks M.next M.hide []) (aC ab ao L ac),qL 29 x 5 (aA.mk M.blks M.next (aI 4 [⟨1,1,M.next,M.next⟩]++M.hide) []) (aC db 0 n dc),.q (.inb (v:Int) n) (cZ true),qL 22 db (0+((v:Int):Int).toNat*1) (aA.mk M.blks M.next (aI 60 [⟨1,1,M.next,M.next⟩]++M.hide) []) (aC zb zo m2 zc),.q (.inb (i1:Int) m2) (cZ true),qL 3 zb (zo+((i1:Int):Int).toNat*1) (aA.mk M.blks M.next (aI 508 [⟨1,1,M.next,M.next⟩]++M.hide) []) (i64 a),.q (.inb a L) (cZ true),qL 42 ab (ao+(a:Int).toNat*7) (aA.mk M.blks M.next M.hide []) (.agg ⟨(aY p)⟩),qL 28 x 3 (aA.mk M.blks M.next (aI 4096 [⟨11,1,M.next,M.next⟩,⟨9,1,M.next,M.next⟩,⟨6,1,M.next,M.next⟩,⟨3,1,M.next,M.next⟩,⟨1,1,M.next,M.next⟩]++M.hide) []) (aC ab ao L ac),qT (Nat.blt x M.next),qL 29 x 4 (aA.mk M.blks M.next (aI 16384 [⟨11,1,M.next,M.next⟩,⟨9,1,M.next,M.next⟩,⟨6,1,M.next,M.next⟩,⟨3,1,M.next,M.next⟩,⟨1,1,M.next,M.next⟩]++M.hide) []) (aC ub 0 n uc),qT (Nat.blt x M.next),.q (.inb (v:Int) n) (cZ true),qL 22 ub (0+((v:Int):Int).toNat*1) (aA.mk M.blks M.next (aI 245760 [⟨11,1,M.next,M.next⟩,⟨9,1,M.next,M.next⟩,⟨6,1,M.next,M.next⟩,⟨3,1,M.next,M.next⟩,⟨1,1,M.next,M.next⟩]++M.hide) []) (aC wb wo m wc),qT (Nat.blt ub M.next),.q (.inb (i:Int) m) (cZ true),qL 3 wb (wo+((i:Int):Int).toNat*1) (aA.mk M.blks M.next (aI 2080768 [⟨11,1,M.next,M.next⟩,⟨9,1,M.next,M.next⟩,⟨6,1,M.next,M.next⟩,⟨3,1,M.next,M.next⟩,⟨1,1,M.next,M.next⟩]++M.hide) []) (i64 o),qT (Nat.blt wb M.next),.q (.inb o L) (cZ true),qL 42 ab (ao+(o:Int).toNat*7) (aA.mk M.blks M.next (aI 8384512 [⟨11,1,M.next,M.next⟩,⟨9,1,M.next,M.next⟩,⟨6,1,M.next,M.next⟩,⟨3,1,M.next,M.next⟩,⟨1,1,M.next,M.next⟩]++M.hide) []) (.agg ⟨(aY y)⟩),qT (Nat.blt ab M.next),.eq (cC Try.prog 42 (aA.mk M.blks M.next (aI 0 [⟨11,1,M.next,M.next⟩,⟨9,1,M.next,M.next⟩,⟨6,1,M.next,M.next⟩,⟨3,1,M.next,M.next⟩,⟨1,1,M.next,M.next⟩]++M.hide) [])) (1,.val (pt b8 0),M9),.eq (cC Try.prog 42 (aA.mk M9.blks M9.next (aI 0 [⟨24,1,M.next,M9.next⟩,⟨11,1,M.next,M.next⟩,⟨9,1,M.next,M.next⟩,⟨6,1,M.next,M.next⟩,⟨3,1,M.next,M.next⟩,⟨1,1,M.next,M.next⟩]++M.hide) M9.log)) (1,.val (pt a6 0),(aA.mk a3.blks a3.next (aI 0 [⟨24,1,M.next,M9.next⟩,⟨11,1,M.next,M.next⟩,⟨9,1,M.next,M.next⟩,⟨6,1,M.next,M.next⟩,⟨3,1,M.next,M.next⟩,⟨1,1,M.next,M.next⟩]++M.hide) a3.log)),qS 42 b8 0 (.agg ⟨(aY p)⟩) (aA.mk (aA.mk a3.blks a3.next (aI 0 [⟨24,1,M.next,M9.next⟩,⟨11,1,M.next,M.next⟩,⟨9,1,M.next,M.next⟩,⟨6,1,M.next,M.next⟩,⟨3,1,M.next,M.next⟩,⟨1,1,M.next,M.next⟩]++M.hide) a3.log).blks (aA.mk a3.blks a3.next (aI 0 [⟨24,1,M.next,M9.next⟩,⟨11,1,M.next,M.next⟩,⟨9,1,M.next,M.next⟩,⟨6,1,M.next,M.next⟩,⟨3,1,M.next,M.next⟩,⟨1,1,M.next,M.next⟩]++M.hide) a3.log).next M.hide (aA.mk a3.blks a3.next (aI 0 [⟨24,1,M.next,M9.next⟩,⟨11,1,M.next,M.next⟩,⟨9,1,M.next,M.next⟩,⟨6,1,M.next,M.next⟩,⟨3,1,M.next,M.next⟩,⟨1,1,M.next,M.next⟩]++M.hide) a3.log).log) a7,qS 42 a6 0 (.agg ⟨(aY y)⟩) (aA.mk a7.blks a7.next M.hide a7.log) a1,qT (cU [ab,wb,ub,x,x] a1.log),qL 3 a6 1 (aA.mk a1.blks a1.next M.hide (a1.log++M.log)) (i64 y.t),qF (y.t==(v:Int)),qF (y.t==(v:Int)),qL 3 b8 2 (aA.mk a1.blks a1.next M.hide (a1.log++M.log)) (i64 p.m),qF (y.t==(v:Int)),qF (y.t==(v:Int)),qL 3 a6 2 (aA.mk a1.blks a1.next M.hide (a1.log++M.log)) (i64 y.m),qF (y.t==(v:Int)),qF (y.t==(v:Int)),qF (!(p.m==y.m)),.blk 6 (.loop (q5.loopAt 6)) Try.f5.ntmps [7,8,9,10,11,12,13,14,15] [some (pt q 0),some (pt x 0),some (i64 (v:Int)),some (i64 (i1:Int)),some (i64 (i:Int)),some (pt b8 0),some (pt a6 0),some (.bool false),some (i64 0)] (aA.mk a1.blks a1.next M.hide (a1.log++M.log)) .normal (fr [(7,(pt q 0)),(8,(pt x 0)),(9,(i64 (v:Int))),(10,(i64 (i1:Int))),(11,(i64 (i:Int))),(14,(.bool true))]) e9]):=by kernel_rfl
  dsimp only at a0
  have d7:aA.mk M.blks M.next M.hide []=R1:=a5.symm
  have d8:=uB (k:=4) (l:=[⟨1,1,M.next,M.next⟩]) a5 (by simp [aI,Nat.beq_refl,a2,kE,kF])
  have d9:=uB (k:=60) (l:=[⟨1,1,M.next,M.next⟩]) a5 (by simp [aI,Nat.beq_refl,a2,kE,kF,show Nat.testBit 60 3=true from rfl])
  have e0:=uB (k:=508) (l:=[⟨1,1,M.next,M.next⟩]) a5 (by simp [aI,Nat.beq_refl,a2,kE,kF,show Nat.testBit 508 3=true from rfl,show Nat.testBit 508 6=true from rfl])
  have e1:=uB (k:=4096) (l:=[⟨11,1,M.next,M.next⟩,⟨9,1,M.next,M.next⟩,⟨6,1,M.next,M.next⟩,⟨3,1,M.next,M.next⟩,⟨1,1,M.next,M.next⟩]) a5 (by simp [aI,Nat.beq_refl,a2,kE,kF])
  have e2:=uB (k:=16384) (l:=[⟨11,1,M.next,M.next⟩,⟨9,1,M.next,M.next⟩,⟨6,1,M.next,M.next⟩,⟨3,1,M.next,M.next⟩,⟨1,1,M.next,M.next⟩]) a5 (by simp [aI,Nat.beq_refl,a2,kE,kF])
  have e3:=uB (k:=245760) (l:=[⟨11,1,M.next,M.next⟩,⟨9,1,M.next,M.next⟩,⟨6,1,M.next,M.next⟩,⟨3,1,M.next,M.next⟩,⟨1,1,M.next,M.next⟩]) a5 (by simp [aI,Nat.beq_refl,a2,kE,kF])
  have e4:=uB (k:=2080768) (l:=[⟨11,1,M.next,M.next⟩,⟨9,1,M.next,M.next⟩,⟨6,1,M.next,M.next⟩,⟨3,1,M.next,M.next⟩,⟨1,1,M.next,M.next⟩]) a5 (by simp [aI,Nat.beq_refl,a2,kE,kF])
  have e5:=uB (k:=8384512) (l:=[⟨11,1,M.next,M.next⟩,⟨9,1,M.next,M.next⟩,⟨6,1,M.next,M.next⟩,⟨3,1,M.next,M.next⟩,⟨1,1,M.next,M.next⟩]) a5 (by simp [aI,Nat.beq_refl,a2,kE,kF])
  have e6:=uB (k:=0) (l:=[⟨11,1,M.next,M.next⟩,⟨9,1,M.next,M.next⟩,⟨6,1,M.next,M.next⟩,⟨3,1,M.next,M.next⟩,⟨1,1,M.next,M.next⟩]) a5 (by simp [aI,Nat.beq_refl,a2,kE,kF])
  have b9:=nW ((X0).hide.trans (f0).hide.symm)
  have c0:=nW ((X0).hide.trans (f1).hide.symm)
  have c1:=Bf (L:=(a1.log++M.log)) ((X0).hide.trans (d1).hide.symm)
  have c2:(aA.mk a1.blks a1.next a1.hide (a1.log++M.log))=b0:=a4.symm
  try rw[d7] at a0
  try rw[d8] at a0
  try rw[d9] at a0
  try rw[e0] at a0
  try rw[e1] at a0
  try rw[e2] at a0
  try rw[e3] at a0
  try rw[e4] at a0
  try rw[e5] at a0
  try rw[e6] at a0
  try rw[b9] at a0
  try rw[c0] at a0
  try rw[c1] at a0
  try rw[c2] at a0
  obtain⟨T1,h1,h2⟩:=Rd.told aF aE (fun B=>yE (gS B) 6 g0) (fun _ h=>cD h) a0 (hk (lC nO gx rfl) (hk (cK (by omega) (by omega)) (hk (dD (aJ X0 hld0)) (hw (bT cc0) (hk (lC iJ gx rfl) (hw (bT cc0) (hk (cK (by omega) (by omega)) (hk (bT cc0) (hk (dD (aJ X0 hld1)) (hw (bT cc0) (hk (bT (decide_eq_true (by omega))) (hk (lC gQ g7 rfl) (hk (lC nO g7 rfl) (hk (cK (by omega) (by omega)) (hk (dD (aJ X3 hld2)) (hk (cK (by omega) (by omega)) (hk (dD (aJ X3 hld3)) (hk (cK (by omega) (by omega)) (hk (dD (aJ X3 hld4)) (hk (lC gQ g7 rfl) (hk (hJ b2) (hk (lC nO g7 rfl) (hk (hJ b2) (hk (cK (by omega) (by omega)) (hk (dD (aJ X3 hld0)) (hk (hJ b6) (hk (cK (by omega) (by simp at cc0;omega)) (hk (dD (aJ X3 hld5)) (hk (hJ b7) (hk (cK (by omega) (by omega)) (hk (dD (aJ X3 hld6)) (hk (hJ b5) (hk (bP (by rw[<-b1,<-c3];kernel_rfl) Nat.one_ne_zero) (hk (bP (by rw[<-a9,<-c4];kernel_rfl) Nat.one_ne_zero) (hk (cW h3) (hk (cW q45) (hk (dM (by rw[b4];simp<;>omega)) (hk (lC bQ c6 rfl) (hw (bF cc1) (hk (lC bQ f2 rfl) (hw (bF cc1) (hk (lC bQ c6 rfl) (hw (bF cc1) (hk (bF (by rw[cc2];rfl)) (hk (fI rfl) hn)))))))))))))))))))))))))))))))))))))))))))))
  exact⟨T1,e9,h1,h2,h9,g4,i8,i9⟩
 ·intro cc0 cc1 cc2 hld0 hld1 hld2 hld3 hld4 hld5 hld6
  have f9:=(c5 _ a8).trans h8
  have b4:a1.log= [a6,b8]:=by rw[d0,c9]
  obtain⟨b0,a4⟩: ∃m:aA,m=(aA.mk a1.blks a1.next a1.hide (a1.log++M.log)):=⟨_,rfl⟩
  have d2:Ext M0 b0:=by rw[a4];exact Ext.join (X0) (d1)
  have b3:aB b0:=by rw[a4];exact c7
  have d5:=bW a4 f7
  have d6:=bW a4 f8
  have f2:=bW a4 f9
  have c6:=bW a4 f6
  have a0:oR Try.prog [] 200 Try.f5 (q5.loopAt 4) [(7,(pt q 0)),(8,(pt x 0)),(9,(i64 (v:Int))),(10,(i64 (i1:Int))),(11,(i64 (i:Int)))] M [aR 5 (aC ub 0 n uc),aL 9,aR 11 (aC wb wo m wc),aL 18,aL 20,aR 21 (aC rb ro n rc),aL 22,aL 24,aL 25,aL 26,aR 27 (i64 (fY rank (v:Int))),aL 28,aL 31,aL 32,aR 36 (aC ab ao L ac),aR 40 (aC db 0 n dc),aL 44,aR 46 (aC zb zo m2 zc),aL 50,aR 52 (i64 a),aL 54,aR 56 (.agg ⟨(aY p)⟩),aR 60 (aC ab ao L ac),aR 64 (aC ub 0 n uc),aL 68,aR 70 (aC wb wo m wc),aL 74,aR 76 (i64 o),aL 78,aR 80 (.agg ⟨(aY y)⟩),bJ 82 (pt b8 0) M9,bJ 84 (pt a6 0) (aA.mk a3.blks a3.next (aI 0 [⟨24,1,M.next,M9.next⟩,⟨11,1,M.next,M.next⟩,⟨9,1,M.next,M.next⟩,⟨6,1,M.next,M.next⟩,⟨3,1,M.next,M.next⟩,⟨1,1,M.next,M.next⟩]++M.hide) a3.log),iR 86 a7,iR 88 a1,aR 92 (i64 y.t),aO 99,aO 101,aR 102 (i64 p.m),aO 103,aO 105,aR 106 (i64 y.m),aO 107,aO 110,aL 111] [7,8,9,10,11]=some (.normal,[some (pt q 0),some (pt x 0),some (i64 (v:Int)),some (i64 (i1:Int)),some (i64 (IntKind.wrap .i64 ((i:Int)+(1:Int))))],aA.mk a1.blks a1.next M.hide (a1.log++M.log),[qL 29 x 4 M (aC ub 0 n uc),.q (.inb (v:Int) n) (cZ true),qL 22 ub (0+((v:Int):Int).toNat*1) M (aC wb wo m wc),qT (decide ((i:Int)<(m:Int))),qT (decide ((i:Int)<(m:Int))),qL 22 x 2 M (aC rb ro n rc),qT (decide ((i:Int)<(m:Int))),qT (decide ((i:Int)<(m:Int))),.q (.inb (v:Int) n) (cZ true),qT (decide ((i:Int)<(m:Int))),qL 3 rb (ro+((v:Int):Int).toNat*1) M (i64 (fY rank (v:Int))),qT (decide ((i:Int)<(m:Int))),qT (decide ((i:Int)<(m:Int))),qT (decide ((fY rank (v:Int))>=(0:Int))),qL 28 x 3 (aA.mk M.blks M.next M.hide []) (aC ab ao L ac),qL 29 x 5 (aA.mk M.blks M.next (aI 4 [⟨1,1,M.next,M.next⟩]++M.hide) []) (aC db 0 n dc),.q (.inb (v:Int) n) (cZ true),qL 22 db (0+((v:Int):Int).toNat*1) (aA.mk M.blks M.next (aI 60 [⟨1,1,M.next,M.next⟩]++M.hide) []) (aC zb zo m2 zc),.q (.inb (i1:Int) m2) (cZ true),qL 3 zb (zo+((i1:Int):Int).toNat*1) (aA.mk M.blks M.next (aI 508 [⟨1,1,M.next,M.next⟩]++M.hide) []) (i64 a),.q (.inb a L) (cZ true),qL 42 ab (ao+(a:Int).toNat*7) (aA.mk M.blks M.next M.hide []) (.agg ⟨(aY p)⟩),qL 28 x 3 (aA.mk M.blks M.next (aI 4096 [⟨11,1,M.next,M.next⟩,⟨9,1,M.next,M.next⟩,⟨6,1,M.next,M.next⟩,⟨3,1,M.next,M.next⟩,⟨1,1,M.next,M.next⟩]++M.hide) []) (aC ab ao L ac),qT (Nat.blt x M.next),qL 29 x 4 (aA.mk M.blks M.next (aI 16384 [⟨11,1,M.next,M.next⟩,⟨9,1,M.next,M.next⟩,⟨6,1,M.next,M.next⟩,⟨3,1,M.next,M.next⟩,⟨1,1,M.next,M.next⟩]++M.hide) []) (aC ub 0 n uc),qT (Nat.blt x M.next),.q (.inb (v:Int) n) (cZ true),qL 22 ub (0+((v:Int):Int).toNat*1) (aA.mk M.blks M.next (aI 245760 [⟨11,1,M.next,M.next⟩,⟨9,1,M.next,M.next⟩,⟨6,1,M.next,M.next⟩,⟨3,1,M.next,M.next⟩,⟨1,1,M.next,M.next⟩]++M.hide) []) (aC wb wo m wc),qT (Nat.blt ub M.next),.q (.inb (i:Int) m) (cZ true),qL 3 wb (wo+((i:Int):Int).toNat*1) (aA.mk M.blks M.next (aI 2080768 [⟨11,1,M.next,M.next⟩,⟨9,1,M.next,M.next⟩,⟨6,1,M.next,M.next⟩,⟨3,1,M.next,M.next⟩,⟨1,1,M.next,M.next⟩]++M.hide) []) (i64 o),qT (Nat.blt wb M.next),.q (.inb o L) (cZ true),qL 42 ab (ao+(o:Int).toNat*7) (aA.mk M.blks M.next (aI 8384512 [⟨11,1,M.next,M.next⟩,⟨9,1,M.next,M.next⟩,⟨6,1,M.next,M.next⟩,⟨3,1,M.next,M.next⟩,⟨1,1,M.next,M.next⟩]++M.hide) []) (.agg ⟨(aY y)⟩),qT (Nat.blt ab M.next),.eq (cC Try.prog 42 (aA.mk M.blks M.next (aI 0 [⟨11,1,M.next,M.next⟩,⟨9,1,M.next,M.next⟩,⟨6,1,M.next,M.next⟩,⟨3,1,M.next,M.next⟩,⟨1,1,M.next,M.next⟩]++M.hide) [])) (1,.val (pt b8 0),M9),.eq (cC Try.prog 42 (aA.mk M9.blks M9.next (aI 0 [⟨24,1,M.next,M9.next⟩,⟨11,1,M.next,M.next⟩,⟨9,1,M.next,M.next⟩,⟨6,1,M.next,M.next⟩,⟨3,1,M.next,M.next⟩,⟨1,1,M.next,M.next⟩]++M.hide) M9.log)) (1,.val (pt a6 0),(aA.mk a3.blks a3.next (aI 0 [⟨24,1,M.next,M9.next⟩,⟨11,1,M.next,M.next⟩,⟨9,1,M.next,M.next⟩,⟨6,1,M.next,M.next⟩,⟨3,1,M.next,M.next⟩,⟨1,1,M.next,M.next⟩]++M.hide) a3.log)),qS 42 b8 0 (.agg ⟨(aY p)⟩) (aA.mk (aA.mk a3.blks a3.next (aI 0 [⟨24,1,M.next,M9.next⟩,⟨11,1,M.next,M.next⟩,⟨9,1,M.next,M.next⟩,⟨6,1,M.next,M.next⟩,⟨3,1,M.next,M.next⟩,⟨1,1,M.next,M.next⟩]++M.hide) a3.log).blks (aA.mk a3.blks a3.next (aI 0 [⟨24,1,M.next,M9.next⟩,⟨11,1,M.next,M.next⟩,⟨9,1,M.next,M.next⟩,⟨6,1,M.next,M.next⟩,⟨3,1,M.next,M.next⟩,⟨1,1,M.next,M.next⟩]++M.hide) a3.log).next M.hide (aA.mk a3.blks a3.next (aI 0 [⟨24,1,M.next,M9.next⟩,⟨11,1,M.next,M.next⟩,⟨9,1,M.next,M.next⟩,⟨6,1,M.next,M.next⟩,⟨3,1,M.next,M.next⟩,⟨1,1,M.next,M.next⟩]++M.hide) a3.log).log) a7,qS 42 a6 0 (.agg ⟨(aY y)⟩) (aA.mk a7.blks a7.next M.hide a7.log) a1,qT (cU [ab,wb,ub,x,x] a1.log),qL 3 a6 1 (aA.mk a1.blks a1.next M.hide (a1.log++M.log)) (i64 y.t),qF (y.t==(v:Int)),qF (y.t==(v:Int)),qL 3 b8 2 (aA.mk a1.blks a1.next M.hide (a1.log++M.log)) (i64 p.m),qF (y.t==(v:Int)),qF (y.t==(v:Int)),qL 3 a6 2 (aA.mk a1.blks a1.next M.hide (a1.log++M.log)) (i64 y.m),qF (y.t==(v:Int)),qF (y.t==(v:Int)),qT (!(p.m==y.m))]):=by kernel_rfl
  dsimp only at a0
  have d7:aA.mk M.blks M.next M.hide []=R1:=a5.symm
  have d8:=uB (k:=4) (l:=[⟨1,1,M.next,M.next⟩]) a5 (by simp [aI,Nat.beq_refl,a2,kE,kF])
  have d9:=uB (k:=60) (l:=[⟨1,1,M.next,M.next⟩]) a5 (by simp [aI,Nat.beq_refl,a2,kE,kF,show Nat.testBit 60 3=true from rfl])
  have e0:=uB (k:=508) (l:=[⟨1,1,M.next,M.next⟩]) a5 (by simp [aI,Nat.beq_refl,a2,kE,kF,show Nat.testBit 508 3=true from rfl,show Nat.testBit 508 6=true from rfl])
  have e1:=uB (k:=4096) (l:=[⟨11,1,M.next,M.next⟩,⟨9,1,M.next,M.next⟩,⟨6,1,M.next,M.next⟩,⟨3,1,M.next,M.next⟩,⟨1,1,M.next,M.next⟩]) a5 (by simp [aI,Nat.beq_refl,a2,kE,kF])
  have e2:=uB (k:=16384) (l:=[⟨11,1,M.next,M.next⟩,⟨9,1,M.next,M.next⟩,⟨6,1,M.next,M.next⟩,⟨3,1,M.next,M.next⟩,⟨1,1,M.next,M.next⟩]) a5 (by simp [aI,Nat.beq_refl,a2,kE,kF])
  have e3:=uB (k:=245760) (l:=[⟨11,1,M.next,M.next⟩,⟨9,1,M.next,M.next⟩,⟨6,1,M.next,M.next⟩,⟨3,1,M.next,M.next⟩,⟨1,1,M.next,M.next⟩]) a5 (by simp [aI,Nat.beq_refl,a2,kE,kF])
  have e4:=uB (k:=2080768) (l:=[⟨11,1,M.next,M.next⟩,⟨9,1,M.next,M.next⟩,⟨6,1,M.next,M.next⟩,⟨3,1,M.next,M.next⟩,⟨1,1,M.next,M.next⟩]) a5 (by simp [aI,Nat.beq_refl,a2,kE,kF])
  have e5:=uB (k:=8384512) (l:=[⟨11,1,M.next,M.next⟩,⟨9,1,M.next,M.next⟩,⟨6,1,M.next,M.next⟩,⟨3,1,M.next,M.next⟩,⟨1,1,M.next,M.next⟩]) a5 (by simp [aI,Nat.beq_refl,a2,kE,kF])
  have e6:=uB (k:=0) (l:=[⟨11,1,M.next,M.next⟩,⟨9,1,M.next,M.next⟩,⟨6,1,M.next,M.next⟩,⟨3,1,M.next,M.next⟩,⟨1,1,M.next,M.next⟩]) a5 (by simp [aI,Nat.beq_refl,a2,kE,kF])
  have b9:=nW ((X0).hide.trans (f0).hide.symm)
  have c0:=nW ((X0).hide.trans (f1).hide.symm)
  have c1:=Bf (L:=(a1.log++M.log)) ((X0).hide.trans (d1).hide.symm)
  have c2:(aA.mk a1.blks a1.next a1.hide (a1.log++M.log))=b0:=a4.symm
  try rw[d7] at a0
  try rw[d8] at a0
  try rw[d9] at a0
  try rw[e0] at a0
  try rw[e1] at a0
  try rw[e2] at a0
  try rw[e3] at a0
  try rw[e4] at a0
  try rw[e5] at a0
  try rw[e6] at a0
  try rw[b9] at a0
  try rw[c0] at a0
  try rw[c1] at a0
  try rw[c2] at a0
  obtain⟨T1,h1,h2⟩:=Rd.told aF aE (aH Try.prog) (fun _ _=>rfl) a0 (hk (lC nO gx rfl) (hk (cK (by omega) (by omega)) (hk (dD (aJ X0 hld0)) (hw (bT cc0) (hk (lC iJ gx rfl) (hw (bT cc0) (hk (cK (by omega) (by omega)) (hk (bT cc0) (hk (dD (aJ X0 hld1)) (hw (bT cc0) (hk (bT (decide_eq_true (by omega))) (hk (lC gQ g7 rfl) (hk (lC nO g7 rfl) (hk (cK (by omega) (by omega)) (hk (dD (aJ X3 hld2)) (hk (cK (by omega) (by omega)) (hk (dD (aJ X3 hld3)) (hk (cK (by omega) (by omega)) (hk (dD (aJ X3 hld4)) (hk (lC gQ g7 rfl) (hk (hJ b2) (hk (lC nO g7 rfl) (hk (hJ b2) (hk (cK (by omega) (by omega)) (hk (dD (aJ X3 hld0)) (hk (hJ b6) (hk (cK (by omega) (by simp at cc0;omega)) (hk (dD (aJ X3 hld5)) (hk (hJ b7) (hk (cK (by omega) (by omega)) (hk (dD (aJ X3 hld6)) (hk (hJ b5) (hk (bP (by rw[<-b1,<-c3];kernel_rfl) Nat.one_ne_zero) (hk (bP (by rw[<-a9,<-c4];kernel_rfl) Nat.one_ne_zero) (hk (cW h3) (hk (cW q45) (hk (dM (by rw[b4];simp<;>omega)) (hk (lC bQ c6 rfl) (hw (bF cc1) (hk (lC bQ f2 rfl) (hw (bF cc1) (hk (lC bQ c6 rfl) (hw (bF cc1) (hk (bT (by rw[cc2];rfl)) hn))))))))))))))))))))))))))))))))))))))))))))
  exact⟨T1,b0,h1,h2,d2,b3,d5,d6⟩
theorem rk4x(q x rb ro rc ub uc db dc m wc n v i1 i:Nat)(wa:Option Addr)(av ev qv:Value){M:aA}{M0:aA}(X0:Ext M0 M)(a2:wa.isNone=true->m=0/\wc=0)(hb:ub<M0.next)(gx:M.get x=some ⟨[i64 (n:Int),ev,aC rb ro n rc,av,aC ub 0 n uc,aC db 0 n dc],31,6,0,true⟩)(hvn:v<n)(a0:(decide ((i:Int)<(m:Int)))=false)(a1:bA Try.prog 22 ⟨ub,0+((v:Int):Int).toNat*1,none⟩ M0=some (.slice wa m wc)): ∃T1,Rd Try.prog [] (q5.loopAt 4) Try.f5.ntmps (fr [(7,(pt q 0)),(8,(pt x 0)),(9,(i64 (v:Int))),(10,(i64 (i1:Int))),(11,(i64 (i:Int)))]) M (.exit 4) T1 M/\ [7,8,9,10].map T1.get= [some (pt q 0),some (pt x 0),some (i64 (v:Int)),some (i64 (i1:Int))]:=by
 exact Rd.told (tb:=[]) (n:=60) (F:=[aR 5 (aC ub 0 n uc),aL 9,aR 11 (.slice wa m wc),aL 13,aO 18,aO 20,aO 22,aO 24,aO 26,aO 28,aO 31]) aF aE (aH Try.prog) (fun _ _=>rfl) (by kernel_rfl) (hk (lO 4 nO gx rfl) (hk (qI (v:Int) n (by omega) (by omega)) (hk (lD (aJ X0 a1)) (hk (lN a2) (hw (bF a0) (hw (bF a0) (hw (bF a0) (hk (bF a0) hn))))))))
theorem rk2x(q x rb ro rc ub uc db dc m wc n v i1 i:Nat)(wa:Option Addr)(av ev qv:Value){M:aA}{M0:aA}(X0:Ext M0 M)(a2:wa.isNone=true->m=0/\wc=0)(hb:db<M0.next)(gx:M.get x=some ⟨[i64 (n:Int),ev,aC rb ro n rc,av,aC ub 0 n uc,aC db 0 n dc],31,6,0,true⟩)(hvn:v<n)(a1:(decide ((i:Int)<(m:Int)))=false)(a0:bA Try.prog 22 ⟨db,0+((v:Int):Int).toNat*1,none⟩ M0=some (.slice wa m wc)): ∃T1,Rd Try.prog [] (q5.loopAt 2) Try.f5.ntmps (fr [(7,(pt q 0)),(8,(pt x 0)),(9,(i64 (v:Int))),(10,(i64 (i:Int)))]) M (.exit 2) T1 M/\ [7,8,9].map T1.get= [some (pt q 0),some (pt x 0),some (i64 (v:Int))]:=by
 exact Rd.told (tb:=[]) (n:=60) (F:=[aR 5 (aC db 0 n dc),aL 9,aR 11 (.slice wa m wc),aL 13,aO 16]) aF aE (aH Try.prog) (fun _ _=>rfl) (by kernel_rfl) (hk (lO 5 nO gx rfl) (hk (qI (v:Int) n (by omega) (by omega)) (hk (lD (aJ X0 a0)) (hk (lN a2) (hk (bF a1) hn)))))
theorem rk2(q x rb ro rc ub uc db dc wb wo m wc n v i:Nat)(av ev qv:Value){M M0:aA}(hM:aB M)(X0:Ext M0 M)(hb:db<M0.next)(gq:M.get q=some ⟨[i64 n,qv],26,2,0,true⟩)(gx:M.get x=some ⟨[i64 (n:Int),ev,aC rb ro n rc,av,aC ub 0 n uc,aC db 0 n dc],31,6,0,true⟩)(hvn:v<n)(a4: ∀M1,aB M1->Ext M0 M1->M1.get q=some ⟨[i64 n,qv],26,2,0,true⟩->M1.get x=some ⟨[i64 (n:Int),ev,aC rb ro n rc,av,aC ub 0 n uc,aC db 0 n dc],31,6,0,true⟩-> ∃M',bL Try.prog [] (q5.loopAt 4) Try.f5.ntmps (fr [(7,pt q 0),(8,pt x 0),(9,i64 v),(10,i64 i),(11,i64 ((0:Nat):Int))]) M1 (.exit 4) (fr [(7,pt q 0),(8,pt x 0),(9,i64 v),(10,i64 i)]) M'/\Ext M0 M'/\aB M'/\M'.get q=some ⟨[i64 n,qv],26,2,0,true⟩/\M'.get x=some ⟨[i64 (n:Int),ev,aC rb ro n rc,av,aC ub 0 n uc,aC db 0 n dc],31,6,0,true⟩)(a1:(decide ((i:Int)<(m:Int)))=true)(a0:bA Try.prog 22 ⟨db,0+((v:Int):Int).toNat*1,none⟩ M0=some (aC wb wo m wc)): ∃T1 M',Rd Try.prog [] (q5.loopAt 2) Try.f5.ntmps (fr [(7,(pt q 0)),(8,(pt x 0)),(9,(i64 (v:Int))),(10,(i64 (i:Int)))]) M .normal T1 M'/\ [7,8,9,10].map T1.get= [some (pt q 0),some (pt x 0),some (i64 (v:Int)),some (i64 (IntKind.wrap .i64 ((i:Int)+(1:Int))))]/\Ext M0 M'/\aB M'/\M'.get q=some ⟨[i64 (n:Int),qv],26,2,0,true⟩/\M'.get x=some ⟨[i64 (n:Int),ev,aC rb ro n rc,av,aC ub 0 n uc,aC db 0 n dc],31,6,0,true⟩:=by
 obtain⟨M1,a2,X3,a3,g5,g6⟩:=a4 M hM X0 gq gx
 obtain⟨T1,h1,h2⟩:=Rd.told (tb:=[4]) (n:=100) (F:=[aR 5 (aC db 0 n dc),aL 9,aR 11 (aC wb wo m wc),aL 16,.blk 19 [7,8,9,10,11] .normal (fr [(7,(pt q 0)),(8,(pt x 0)),(9,(i64 (v:Int))),(10,(i64 (i:Int)))]) M1]) aF aE (fun B=>yE (gS B) 4 a2) (fun _ h=>cD h) (by kernel_rfl) (hk (lO 5 nO gx rfl) (hk (qI (v:Int) n (by omega) (by omega)) (hk (lD (aJ X0 a0)) (hk (bT a1) (hq (.blk 4 (.loop (q5.loopAt 4)) Try.f5.ntmps [7,8,9,10,11] [some (pt q 0),some (pt x 0),some (i64 (v:Int)),some (i64 (i:Int)),some (i64 0)] M .normal (fr [(7,(pt q 0)),(8,(pt x 0)),(9,(i64 (v:Int))),(10,(i64 (i:Int)))]) M1) (fI rfl) hn)))))
 exact⟨T1,M1,h1,h2,X3,a3,g5,g6⟩
theorem rk0(q x rb ro rc ub uc db dc n v:Nat)(av ev qv:Value){M M0:aA}(hM:aB M)(X0:Ext M0 M)(gq:M.get q=some ⟨[i64 n,qv],26,2,0,true⟩)(gx:M.get x=some ⟨[i64 (n:Int),ev,aC rb ro n rc,av,aC ub 0 n uc,aC db 0 n dc],31,6,0,true⟩)(a3: ∀M1,aB M1->Ext M0 M1->M1.get q=some ⟨[i64 n,qv],26,2,0,true⟩->M1.get x=some ⟨[i64 (n:Int),ev,aC rb ro n rc,av,aC ub 0 n uc,aC db 0 n dc],31,6,0,true⟩-> ∃M',bL Try.prog [] (q5.loopAt 2) Try.f5.ntmps (fr [(7,pt q 0),(8,pt x 0),(9,i64 v),(10,i64 ((0:Nat):Int))]) M1 (.exit 2) (fr [(7,pt q 0),(8,pt x 0),(9,i64 v)]) M'/\Ext M0 M'/\aB M'/\M'.get q=some ⟨[i64 n,qv],26,2,0,true⟩/\M'.get x=some ⟨[i64 (n:Int),ev,aC rb ro n rc,av,aC ub 0 n uc,aC db 0 n dc],31,6,0,true⟩)(a0:(decide ((v:Int)<(n:Int)))=true): ∃T1 M',Rd Try.prog [] (q5.loopAt 0) Try.f5.ntmps (fr [(7,(pt q 0)),(8,(pt x 0)),(9,(i64 (v:Int)))]) M .normal T1 M'/\ [7,8,9].map T1.get= [some (pt q 0),some (pt x 0),some (i64 (IntKind.wrap .i64 ((v:Int)+(1:Int))))]/\Ext M0 M'/\aB M'/\M'.get q=some ⟨[i64 (n:Int),qv],26,2,0,true⟩/\M'.get x=some ⟨[i64 (n:Int),ev,aC rb ro n rc,av,aC ub 0 n uc,aC db 0 n dc],31,6,0,true⟩:=by
 obtain⟨M1,a1,X3,a2,g5,g6⟩:=a3 M hM X0 gq gx
 obtain⟨T1,h1,h2⟩:=Rd.told (tb:=[2]) (n:=100) (F:=[aR 5 (i64 (n:Int)),aL 8,.blk 11 [7,8,9,10] .normal (fr [(7,(pt q 0)),(8,(pt x 0)),(9,(i64 (v:Int)))]) M1]) aF aE (fun B=>yE (gS B) 2 a1) (fun _ h=>cD h) (by kernel_rfl) (hk (lO 0 bQ gq rfl) (hk (bT a0) (hq (.blk 2 (.loop (q5.loopAt 2)) Try.f5.ntmps [7,8,9,10] [some (pt q 0),some (pt x 0),some (i64 (v:Int)),some (i64 0)] M .normal (fr [(7,(pt q 0)),(8,(pt x 0)),(9,(i64 (v:Int)))]) M1) (fI rfl) hn)))
 exact⟨T1,M1,h1,h2,X3,a2,g5,g6⟩
theorem rk0x(q x n v:Nat)(qv:Value){M:aA}(gq:M.get q=some ⟨[i64 n,qv],26,2,0,true⟩)(a0:(decide ((v:Int)<(n:Int)))=false): ∃T1,Rd Try.prog [] (q5.loopAt 0) Try.f5.ntmps (fr [(7,(pt q 0)),(8,(pt x 0)),(9,(i64 (v:Int)))]) M (.exit 0) T1 M/\ [].map T1.get= []:=by
 exact Rd.told (tb:=[]) (n:=60) (F:=[aR 5 (i64 (n:Int)),aO 8]) aF aE (aH Try.prog) (fun _ _=>rfl) (by kernel_rfl) (hk (lO 0 bQ gq rfl) (hk (bF a0) hn))
theorem Zh{q x rb ro rc ac ub uc db dc n:Nat}{aa:Option Addr}{ev qv:Value}{es:List E4}{rank:List Int}{arcs:List A7}{up down:List (List Int)}{M0 M:aA}(hg:GX (⟨n,es,rank,arcs,up,down⟩:IX))(c7: ∀(v:Nat) (r q:List Int),down[v]?=some r->up[v]?=some q-> ∀i∈r,∀o∈q,∀x y:A7,arcs[i.toNat]?=some x->arcs[o.toNat]?=some y->y.t≠(v:Int)->x.m=y.m-> ∃(j:Nat) (z:A7),arcs[j]?=some z/\z.f=x.f/\z.t=y.t/\z.m=x.m/\z.c<=x.c+y.c)(b9:aQ rank (aC rb ro n rc) M0)(a4:fD arcs (.slice aa arcs.length ac) M0)(c0:bE up (aC ub 0 n uc) M0)(b8:bE down (aC db 0 n dc) M0)(hM:aB M)(X0:Ext M0 M)(gq:M.get q=some ⟨[i64 n,qv],26,2,0,true⟩)(gx:M.get x=some ⟨[i64 (n:Int),ev,aC rb ro n rc,.slice aa arcs.length ac,aC ub 0 n uc,aC db 0 n dc],31,6,0,true⟩){v i1:Nat}{r1 r2:List Int}(hv:v<n)(hu:up[v]?=some r2)(hd:down[v]?=some r1)(a2:i1<r1.length):
  ∃M',bL Try.prog [] (q5.loopAt 4) Try.f5.ntmps (fr [(7,pt q 0),(8,pt x 0),(9,i64 v),(10,i64 i1),(11,i64 ((0:Nat):Int))]) M (.exit 4) (fr [(7,pt q 0),(8,pt x 0),(9,i64 v),(10,i64 i1)]) M'/\Ext M0 M'/\aB M'/\M'.get q=some ⟨[i64 n,qv],26,2,0,true⟩/\M'.get x=some ⟨[i64 (n:Int),ev,aC rb ro n rc,.slice aa arcs.length ac,aC ub 0 n uc,aC db 0 n dc],31,6,0,true⟩:=by
 have b7:=hg.rk.len
 have b6:=hg.al
 simp only at b7 b6
 have a6:ub<M0.next:=by obtain⟨E,c,blk,e1,e2,_⟩:=c0;simp only [Value.slice.injEq,Option.some.injEq,Addr.mk.injEq,and_true] at e1;rw[e1.1];exact aA.lt_of_get e2
 have b0:db<M0.next:=by obtain⟨E,c,blk,e1,e2,_⟩:=b8;simp only [Value.slice.injEq,Option.some.injEq,Addr.mk.injEq,and_true] at e1;rw[e1.1];exact aA.lt_of_get e2
 have b1:=Go.Am.kO b9 (by omega)
 obtain⟨wa,wc,lw,pw⟩:=qZ (P:=Try.prog) (ty:=22) c0 hu iJ
 obtain⟨za,zc,lz,pz⟩:=qZ (P:=Try.prog) (ty:=22) b8 hd iJ
 obtain⟨zb,zo,rfl,_⟩:=cE pz (by omega)
 have b3:=Go.Am.kO pz (by omega)
 have hlen:=pw.len
 have c5:=hg.dn v r1 hd
 have c6:=hg.up v r2 hu
 have c8:r1[i1]?=some r1[i1]:=List.getElem?_eq_getElem a2
 obtain⟨d0,p,hp,hpt,_,_,a5,_⟩:=c5.all r1[i1] (List.getElem_mem a2)
 simp only at hp a5
 have hpl:=(List.getElem?_eq_some_iff.1 hp).1
 have b4:=jX (P:=Try.prog) (ty:=3) pz c8 rfl bQ
 obtain⟨ab,ao,rfl,_⟩:=cE a4 (by omega)
 have a7:=Go.Am.kO a4 (by omega)
 have lp:=lE (P:=Try.prog) (ty:=42) a4 hp sY kS
 have lr:=Bo (u:=(v:Int)) b9 b7 (by omega)
 rw[Int.toNat_natCast] at lr
 have a8:0<=r1[i1]/\r1[i1]<(arcs.length:Int):=by omega
 obtain⟨_,M',k1,k2,k3,k4,k5⟩:=bL.for (P:=Try.prog) (GL:= []) (b:=q5.loopAt 4) (nt:=Try.f5.ntmps) (id:=4) (σ:=Unit) (n:=r2.length) (Inv:=fun i _ M1=>Ext M0 M1/\aB M1/\M1.get q=some ⟨[i64 n,qv],26,2,0,true⟩/\M1.get x=some ⟨[i64 (n:Int),ev,aC rb ro n rc,.slice (some ⟨ab,ao,none⟩) arcs.length ac,aC ub 0 n uc,aC db 0 n dc],31,6,0,true⟩)
  (F:=fun i _=> [(7,pt q 0),(8,pt x 0),(9,i64 v),(10,i64 i1),(11,i64 ((i:Nat):Int))]) (O:=fun _=> [(7,pt q 0),(8,pt x 0),(9,i64 v),(10,i64 i1)])
  (by
   rintro i _ M1 hi ⟨X1,a1,a3,a0⟩
   obtain⟨wb,wo,rfl,_⟩:=cE pw (by omega)
   have b2:=Go.Am.kO pw (by omega)
   have c9:r2[i]?=some r2[i]:=List.getElem?_eq_getElem hi
   obtain⟨d1,y,hy,hyf,_⟩:=c6.all r2[i] (List.getElem_mem hi)
   simp only at hy
   have hyl:=(List.getElem?_eq_some_iff.1 hy).1
   have b5:=jX (P:=Try.prog) (ty:=3) pw c9 rfl bQ
   have ly:=lE (P:=Try.prog) (ty:=42) a4 hy sY kS
   have a9:0<=r2[i]/\r2[i]<(arcs.length:Int):=by omega
   by_cases c1:(y.t==(v:Int))=true
   ·obtain⟨T1,M2,q1,q2,q3⟩:=(Oo q x rb ro rc ab ao arcs.length ac ub uc db dc wb wo r2.length wc zb zo r1.length zc n v i1 i ev qv rank p y r1[i1] r2[i] a1 X1 a7 a6 b0 b2 b3 b1 a3 a0 hv a2 a8 a9 a5).1 (decide_eq_true (by omega)) c1 (by rw[Int.toNat_natCast];exact lw) (by rw[Int.toNat_natCast];exact lr) (by rw[Int.toNat_natCast];exact lz) (by rw[Int.toNat_natCast];exact b4) lp (by rw[Int.toNat_natCast];exact b5) ly
    rw[aX (by omega)] at q2
    exact⟨(),T1,M2,q1,q2,q3⟩
   ·have c1:=Bool.eq_false_iff.2 c1
    by_cases c2:(p.m==y.m)=true
    ·have e1:=(hg.arc _ _ hp).c
     have e2:=(hg.arc _ _ hy).c
     obtain⟨j,z,z1,z2,z3,z4,z5⟩:=c7 v r1 r2 hd hu _ (List.getElem_mem a2) _ (List.getElem_mem hi) p y hp hy (beq_eq_false_iff_ne.1 c1) (beq_iff_eq.1 c2)
     obtain⟨T1,M2,q1,q2,q3⟩:=(Oo q x rb ro rc ab ao arcs.length ac ub uc db dc wb wo r2.length wc zb zo r1.length zc n v i1 i ev qv rank p y r1[i1] r2[i] a1 X1 a7 a6 b0 b2 b3 b1 a3 a0 hv a2 a8 a9 a5).2.1 (fun M1 A_ B_ a1 X1 a3 a0 c3 c4=>Zi a4 a1 X1 a3 a0 c3 c4 b6 (tT (by omega) (by omega)) (Vs z1 (by unfold Ae;rw[z2,z3,z4];simp [z5]) _ (List.getElem?_eq_some_iff.1 z1).1)) (decide_eq_true (by omega)) c1 c2 (by rw[Int.toNat_natCast];exact lw) (by rw[Int.toNat_natCast];exact lr) (by rw[Int.toNat_natCast];exact lz) (by rw[Int.toNat_natCast];exact b4) lp (by rw[Int.toNat_natCast];exact b5) ly
     rw[aX (by omega)] at q2
     exact⟨(),T1,M2,q1,q2,q3⟩
    ·obtain⟨T1,M2,q1,q2,q3⟩:=(Oo q x rb ro rc ab ao arcs.length ac ub uc db dc wb wo r2.length wc zb zo r1.length zc n v i1 i ev qv rank p y r1[i1] r2[i] a1 X1 a7 a6 b0 b2 b3 b1 a3 a0 hv a2 a8 a9 a5).2.2 (decide_eq_true (by omega)) c1 (Bool.eq_false_iff.2 c2) (by rw[Int.toNat_natCast];exact lw) (by rw[Int.toNat_natCast];exact lr) (by rw[Int.toNat_natCast];exact lz) (by rw[Int.toNat_natCast];exact b4) lp (by rw[Int.toNat_natCast];exact b5) ly
     rw[aX (by omega)] at q2
     exact⟨(),T1,M2,q1,q2,q3⟩)
  (by
   rintro _ M1 ⟨X1,a1,a3,a0⟩
   exact rk4x q x rb ro rc ub uc db dc r2.length wc n v i1 r2.length wa (.slice (some ⟨ab,ao,none⟩) arcs.length ac) ev qv (M:=M1) X1 pw.ln a6 a0 hv (decide_eq_false (by omega)) (by rw[Int.toNat_natCast];exact lw))
  r2.length 0 (by omega) (s:=()) (M:=M) ⟨X0,hM,gq,gx⟩
 exact⟨M',k1,k2,k3,k4,k5⟩
theorem Zg{q x rb ro rc ac ub uc db dc n:Nat}{aa:Option Addr}{ev qv:Value}{es:List E4}{rank:List Int}{arcs:List A7}{up down:List (List Int)}{M0 M:aA}(hg:GX (⟨n,es,rank,arcs,up,down⟩:IX))(a7: ∀(v:Nat) (r q:List Int),down[v]?=some r->up[v]?=some q-> ∀i∈r,∀o∈q,∀x y:A7,arcs[i.toNat]?=some x->arcs[o.toNat]?=some y->y.t≠(v:Int)->x.m=y.m-> ∃(j:Nat) (z:A7),arcs[j]?=some z/\z.f=x.f/\z.t=y.t/\z.m=x.m/\z.c<=x.c+y.c)(b1:aQ rank (aC rb ro n rc) M0)(b0:fD arcs (.slice aa arcs.length ac) M0)(b2:bE up (aC ub 0 n uc) M0)(a4:bE down (aC db 0 n dc) M0)(hM:aB M)(X0:Ext M0 M)(gq:M.get q=some ⟨[i64 n,qv],26,2,0,true⟩)(gx:M.get x=some ⟨[i64 (n:Int),ev,aC rb ro n rc,.slice aa arcs.length ac,aC ub 0 n uc,aC db 0 n dc],31,6,0,true⟩){v:Nat}(hv:v<n):
  ∃M',bL Try.prog [] (q5.loopAt 2) Try.f5.ntmps (fr [(7,pt q 0),(8,pt x 0),(9,i64 v),(10,i64 ((0:Nat):Int))]) M (.exit 2) (fr [(7,pt q 0),(8,pt x 0),(9,i64 v)]) M'/\Ext M0 M'/\aB M'/\M'.get q=some ⟨[i64 n,qv],26,2,0,true⟩/\M'.get x=some ⟨[i64 (n:Int),ev,aC rb ro n rc,.slice aa arcs.length ac,aC ub 0 n uc,aC db 0 n dc],31,6,0,true⟩:=by
 have a9:=hg.ul
 have a6:=hg.dl
 have a3:=(eR hg.ck).2.1
 have a8:=hg.rk.len
 simp only at a9 a6 a3 a8
 have a5:db<M0.next:=by obtain⟨E,c,blk,e1,e2,_⟩:=a4;simp only [Value.slice.injEq,Option.some.injEq,Addr.mk.injEq,and_true] at e1;rw[e1.1];exact aA.lt_of_get e2
 have hu:up[v]?=some up[v]:=List.getElem?_eq_getElem (by omega)
 have hd:down[v]?=some down[v]:=List.getElem?_eq_getElem (by omega)
 obtain⟨za,zc,lz,pz⟩:=qZ (P:=Try.prog) (ty:=22) a4 hd iJ
 have hlen:=pz.len
 obtain⟨_,M',k1,k2,k3,k4,k5⟩:=bL.for (P:=Try.prog) (GL:= []) (b:=q5.loopAt 2) (nt:=Try.f5.ntmps) (id:=2) (σ:=Unit) (n:=down[v].length) (Inv:=fun i _ M1=>Ext M0 M1/\aB M1/\M1.get q=some ⟨[i64 n,qv],26,2,0,true⟩/\M1.get x=some ⟨[i64 (n:Int),ev,aC rb ro n rc,.slice aa arcs.length ac,aC ub 0 n uc,aC db 0 n dc],31,6,0,true⟩)
  (F:=fun i _=> [(7,pt q 0),(8,pt x 0),(9,i64 v),(10,i64 ((i:Nat):Int))]) (O:=fun _=> [(7,pt q 0),(8,pt x 0),(9,i64 v)])
  (by
   rintro i _ M1 hi ⟨X1,a1,a2,a0⟩
   obtain⟨zb,zo,rfl,_⟩:=cE pz (by omega)
   obtain⟨T1,M2,q1,q2,q3⟩:=rk2 q x rb ro rc ub uc db dc zb zo down[v].length zc n v i (.slice aa arcs.length ac) ev qv a1 X1 a5 a2 a0 hv (fun M1 a1 X1 a2 a0=>Zh hg a7 b1 b0 b2 a4 a1 X1 a2 a0 hv hu hd hi) (decide_eq_true (by omega)) (by rw[Int.toNat_natCast];exact lz)
   rw[aX (by omega)] at q2
   exact⟨(),T1,M2,q1,q2,q3⟩)
  (by
   rintro _ M1 ⟨X1,a1,a2,a0⟩
   exact rk2x q x rb ro rc ub uc db dc down[v].length zc n v 0 down[v].length za (.slice aa arcs.length ac) ev qv (M:=M1) X1 pz.ln a5 a0 hv (decide_eq_false (by omega)) (by rw[Int.toNat_natCast];exact lz))
  down[v].length 0 (by omega) (s:=()) (M:=M) ⟨X0,hM,gq,gx⟩
 exact⟨M',k1,k2,k3,k4,k5⟩
theorem Zf{q x rb ro rc ac ub uc db dc n:Nat}{aa:Option Addr}{ev qv:Value}{es:List E4}{rank:List Int}{arcs:List A7}{up down:List (List Int)}{M0 M:aA}(hg:GX (⟨n,es,rank,arcs,up,down⟩:IX))(a5: ∀(v:Nat) (r q:List Int),down[v]?=some r->up[v]?=some q-> ∀i∈r,∀o∈q,∀x y:A7,arcs[i.toNat]?=some x->arcs[o.toNat]?=some y->y.t≠(v:Int)->x.m=y.m-> ∃(j:Nat) (z:A7),arcs[j]?=some z/\z.f=x.f/\z.t=y.t/\z.m=x.m/\z.c<=x.c+y.c)(b0:aQ rank (aC rb ro n rc) M0)(a8:fD arcs (.slice aa arcs.length ac) M0)(b1:bE up (aC ub 0 n uc) M0)(a9:bE down (aC db 0 n dc) M0)(hM:aB M)(X0:Ext M0 M)(gq:M.get q=some ⟨[i64 n,qv],26,2,0,true⟩)(gx:M.get x=some ⟨[i64 (n:Int),ev,aC rb ro n rc,.slice aa arcs.length ac,aC ub 0 n uc,aC db 0 n dc],31,6,0,true⟩):
  ∃M',bL Try.prog [] (q5.loopAt 0) Try.f5.ntmps (fr [(7,pt q 0),(8,pt x 0),(9,i64 ((0:Nat):Int))]) M (.exit 0) (fr []) M'/\Ext M0 M'/\aB M':=by
 have a7:=hg.ul
 have a4:=hg.dl
 have a3:=(eR hg.ck).2.1
 have a6:=hg.rk.len
 simp only at a7 a4 a3 a6
 obtain⟨_,M',k1,k2,k3,_⟩:=bL.for (P:=Try.prog) (GL:= []) (b:=q5.loopAt 0) (nt:=Try.f5.ntmps) (id:=0) (σ:=Unit) (n:=n) (Inv:=fun v _ M1=>Ext M0 M1/\aB M1/\M1.get q=some ⟨[i64 n,qv],26,2,0,true⟩/\M1.get x=some ⟨[i64 (n:Int),ev,aC rb ro n rc,.slice aa arcs.length ac,aC ub 0 n uc,aC db 0 n dc],31,6,0,true⟩)
  (F:=fun v _=> [(7,pt q 0),(8,pt x 0),(9,i64 ((v:Nat):Int))]) (O:=fun _=> [])
  (by
   rintro v _ M1 hv ⟨X1,a1,a0,a2⟩
   obtain⟨T1,M2,q1,q2,q3⟩:=rk0 q x rb ro rc ub uc db dc n v (.slice aa arcs.length ac) ev qv a1 X1 a0 a2 (fun M1 a1 X1 a0 a2=>Zg hg a5 b0 a8 b1 a9 a1 X1 a0 a2 hv) (decide_eq_true (by omega))
   rw[aX (by omega)] at q2
   exact⟨(),T1,M2,q1,q2,q3⟩)
  (by
   rintro _ M1 ⟨X1,a1,a0,a2⟩
   exact rk0x q x n n qv (M:=M1) a0 (decide_eq_false (by omega)))
  n 0 (by omega) (s:=()) (M:=M) ⟨X0,hM,gq,gx⟩
 exact⟨M',k1,k2,k3⟩
theorem rK5:Try.f5.results= #[.tmp 6]:=by kernel_rfl
theorem w5(size:Int)(g1:Option Addr)(g2:Nat)(ns:List Int)(md:Int){M:aA}(hM:aB M)(m2:aQ ns (.slice g1 ns.length g2) M): ∃v_ M',Ev Try.prog [] 5 [i64 size,.slice g1 ns.length g2,i64 md] M v_ M'/\Ext M M'/\aB M'/\v_= .bool true:=by
 obtain⟨w1,N2,M3,p4,l5,e6,E7,m1,F9⟩:=aP (x:=()) hM con9 (rfl)
 have l6:w1=(.bool true):=F9
 subst l6
 have i8:=(Ext.refl M).trans E7
 obtain⟨n7,o0,d9,n3,n0,l3,j8,h4,j9⟩:=aP (x:=(size,ns,md)) m1 con10 (⟨_,_,_,rfl,rfl,AP.Ext (R:=aQ) m2 i8,rfl⟩)
 obtain⟨n9,d3,f4⟩:nY ((kP size),(xJ size ns md)) n7 (cP [(0,M3.next)] d9):=mJ j9
 simp only at d3 f4
 obtain⟨a9,b4,g4⟩:=aK.form f4
 subst g4
 subst d3
 have i9:=i8.trans j8
 obtain⟨c7,f6,c2,g8,l7,i6,h5⟩:=bH h4 ⟨[i64 0,fG],26,2,0,true⟩
 have i2:=mP c2 i9
 have k0:=jW (R:=aV) f4 c2 i6
 have l0:=i9.trans i6
 obtain⟨a6,n5,j1,i0,l1,h6,n2⟩:=bC (o:=0) (v:=(.agg ⟨[i64 ((kP size):Int),.slice a9 (xJ size ns md).length b4]⟩)) (new:= [i64 ((kP size):Int),.slice a9 (xJ size ns md).length b4]) l0 i2 h5 vS l7 rfl rfl (Nat.zero_le _) (Nat.le_of_ble_eq_true rfl) rfl
 have k1:=iH (R:=aV) k0 (fun id h _=>i0 id h) (by intro id hh;simp only [bU] at hh;omega)
 obtain⟨HS,e1⟩: ∃s,s=iO (kP size) (xJ size ns md) (cJ (kP size) (xJ size ns md)):=⟨_,rfl⟩
 obtain⟨m3,h9,j5,j6,m4⟩:=zB (uI (tJ size ns md)) (iY (tJ size ns md)) (rU (tJ size ns md)) (by have:=oJ size;omega)
 rw[<-e1] at m3 h9 j5 j6 m4
 obtain⟨n8,o1,a7,n4,n1,l4,i7,h7,k2⟩:=aP (x:=((kP size),(xJ size ns md))) h6 con11 (⟨⟨_,rfl,_,rfl,fK (R:=aV) k1⟩,tJ size ns md,(by have:=oJ size;omega)⟩)
 have j2:=i7.old j1
 have k8:rD (Sw (kP size) (xJ size ns md) HS) n8 (cP [(0,a6.next)] a7):=by rw[e1];exact mJ k2
 obtain⟨m5,m6,m7,m8,m9,h0,e2,d8,e3,e4,e5⟩:=k8
 replace e2:aV (xJ size ns md) m5 (cP [(0,a6.next)] a7):=e2
 obtain⟨b0,b5,g6⟩:=aK.form e2
 replace d8:aQ HS.rank m6 (cP [(0,a6.next)] a7):=d8
 obtain⟨o2,b6,c9⟩:=aK.form d8
 replace e3:fD HS.b.arcs m7 (cP [(0,a6.next)] a7):=e3
 obtain⟨b1,b7,g7⟩:=aK.form e3
 replace e4:bE HS.up m8 (cP [(0,a6.next)] a7):=e4
 obtain⟨b2,b8,d0⟩:=eU e4
 replace e5:bE HS.down m9 (cP [(0,a6.next)] a7):=e5
 obtain⟨b3,b9,d1⟩:=eU e5
 rw[h9] at c9
 rw[j5] at d0
 rw[j6] at d1
 subst g6 c9 g7 d0 d1
 subst h0
 obtain⟨a2,a3,g5,_⟩:=cE d8 (by rw[h9];have:=oJ size;omega)
 subst g5
 have j0:=l1.trans i7
 obtain⟨c8,f7,a1,g9,l8,c0,h8⟩:=bH h7 ⟨[i64 0,fG,fG,fG,fG,fG],31,6,0,true⟩
 have i3:=mP a1 j0
 have a8:=fL j2 a1
 have k3:=jW (R:=aV) e2 a1 c0
 have k4:=jW (R:=aQ) d8 a1 c0
 have k5:=jW (R:=fD) e3 a1 c0
 have k6:=jW (R:=bE) e4 a1 c0
 have k7:=jW (R:=bE) e5 a1 c0
 have l9:=c0.old j2
 have l2:=j0.trans c0
 obtain⟨e0,n6,j3,a0,f8,d5,j7⟩:=bC (o:=0) (v:=(.agg ⟨[i64 ((kP size):Int),.slice b0 (xJ size ns md).length b5,aC a2 a3 (kP size) b6,.slice b1 HS.b.arcs.length b7,aC b2 0 (kP size) b8,aC b3 0 (kP size) b9]⟩)) (new:= [i64 ((kP size):Int),.slice b0 (xJ size ns md).length b5,aC a2 a3 (kP size) b6,.slice b1 HS.b.arcs.length b7,aC b2 0 (kP size) b8,aC b3 0 (kP size) b9]) l2 i3 h8 vT l8 rfl rfl (Nat.zero_le _) (Nat.le_of_ble_eq_true rfl) rfl
 have e8:=iH (R:=aV) k3 (fun id h _=>a0 id h) (by intro id hh;simp only [bU] at hh;omega)
 have c3:=iH (R:=aQ) k4 (fun id h _=>a0 id h) (by intro id hh;simp only [bU] at hh;omega)
 have c4:=iH (R:=fD) k5 (fun id h _=>a0 id h) (by intro id hh;simp only [bU] at hh;omega)
 have c5:=iH (R:=bE) k6 (fun id h _=>a0 id h) (by intro id hh;simp only [bU] at hh;omega)
 have c6:=iH (R:=bE) k7 (fun id h _=>a0 id h) (by intro id hh;simp only [bU] at hh;omega)
 have h1:=(a0 _ a8).trans l9
 have j4:GX (Sw (kP size) (xJ size ns md) HS):=by rw[e1];exact Qg (n:=(kP size)) (es:=(xJ size ns md)) (tJ size ns md) (by have:=oJ size;omega)
 obtain⟨i5,k9,a5,i4,i1,g3,a4,d6,e9⟩:=aP (x:=(Sw (kP size) (xJ size ns md) HS)) d5 con12 (⟨⟨_,rfl,⟨_,_,_,_,_,rfl,fK (R:=aV) e8,fK (R:=aQ) c3,fK (R:=fD) c4,fK (R:=bE) c5,fK (R:=bE) c6⟩⟩,j4⟩)
 have f0:=jV (R:=aQ) c3 a4
 have f1:=jV (R:=fD) c4 a4
 have f2:=jV (R:=bE) c5 a4
 have f3:=jV (R:=bE) c6 a4
 have h2:=a4.old h1
 have h3:=a4.old j3
 have d2:i5=(.bool true):=e9
 subst d2
 have f9:=f8.trans a4
 have m0:Jh HS:=by rw[e1];exact Yo (uI (tJ size ns md)) (iY (tJ size ns md)) (rV (tJ size ns md))
 obtain⟨c1,d4,e7,d7⟩:=Zf (M0:=a5) (ev:=_) j4 m0 (fK (R:=aQ) f0) (fK (R:=fD) f1) (fK (R:=bE) f2) (fK (R:=bE) f3) d6 (Ext.refl a5) h2 h3
 have g0:=f9.trans e7
 exact⟨.bool true,c1,Ev.told_tmp (tb:=[0]) (n:=200) (F:=[bJ 3 (.bool true) M3,bJ 14 (.agg ⟨[i64 ((kP size):Int),.slice a9 (xJ size ns md).length b4]⟩) d9,bJ 16 (pt c7 0) f6,iR 18 a6,aR 20 (.agg ⟨[i64 ((kP size):Int),.slice a9 (xJ size ns md).length b4]⟩),bJ 22 (.agg ⟨[i64 ((kP size):Int),.slice b0 (xJ size ns md).length b5,aC a2 a3 (kP size) b6,.slice b1 HS.b.arcs.length b7,aC b2 0 (kP size) b8,aC b3 0 (kP size) b9]⟩) a7,bJ 24 (pt c8 0) f7,iR 26 e0,aR 28 (.agg ⟨[i64 ((kP size):Int),.slice b0 (xJ size ns md).length b5,aC a2 a3 (kP size) b6,.slice b1 HS.b.arcs.length b7,aC b2 0 (kP size) b8,aC b3 0 (kP size) b9]⟩),bJ 30 (.bool true) a5,.blk 36 [7,8,9] .normal (fr []) c1]) aF aE Try.func5 q5_ok (by kernel_rfl) rK5 (fun B=>yE (gW 9 Q9 (gW 10 Q10 (gW 11 Q11 (gW 12 Q12 (gS _))))) 0 d4) (fun _ h=>cD h) (by kernel_rfl) (hq (qC 9 [] M (.bool true) M3) (aM rfl p4 l5 e6) (hq (qC 10 [i64 size,.slice g1 ns.length g2,i64 md] M3 (.agg ⟨[i64 ((kP size):Int),.slice a9 (xJ size ns md).length b4]⟩) d9) (aM rfl n3 n0 l3) (hq (.eq (cC Try.prog 26 d9) (1,.val (pt c7 0),f6)) (bP (by rw[<-c2,<-g8];kernel_rfl) Nat.one_ne_zero) (hq (qS 26 c7 0 (.agg ⟨[i64 ((kP size):Int),.slice a9 (xJ size ns md).length b4]⟩) f6 a6) (cW n5) (hq (qL 26 c7 0 a6 (.agg ⟨[i64 ((kP size):Int),.slice a9 (xJ size ns md).length b4]⟩)) (lA ⟨Ax,vS⟩ j1 rfl) (hq (qC 11 [.agg ⟨[i64 ((kP size):Int),.slice a9 (xJ size ns md).length b4]⟩] a6 (.agg ⟨[i64 ((kP size):Int),.slice b0 (xJ size ns md).length b5,aC a2 a3 (kP size) b6,.slice b1 HS.b.arcs.length b7,aC b2 0 (kP size) b8,aC b3 0 (kP size) b9]⟩) a7) (aM rfl n4 n1 l4) (hq (.eq (cC Try.prog 31 a7) (1,.val (pt c8 0),f7)) (bP (by rw[<-a1,<-g9];kernel_rfl) Nat.one_ne_zero) (hq (qS 31 c8 0 (.agg ⟨[i64 ((kP size):Int),.slice b0 (xJ size ns md).length b5,aC a2 a3 (kP size) b6,.slice b1 HS.b.arcs.length b7,aC b2 0 (kP size) b8,aC b3 0 (kP size) b9]⟩) f7 e0) (cW n6) (hq (qL 31 c8 0 e0 (.agg ⟨[i64 ((kP size):Int),.slice b0 (xJ size ns md).length b5,aC a2 a3 (kP size) b6,.slice b1 HS.b.arcs.length b7,aC b2 0 (kP size) b8,aC b3 0 (kP size) b9]⟩)) (lA ⟨Ay,vT⟩ j3 rfl) (hq (qC 12 [.agg ⟨[i64 ((kP size):Int),.slice b0 (xJ size ns md).length b5,aC a2 a3 (kP size) b6,.slice b1 HS.b.arcs.length b7,aC b2 0 (kP size) b8,aC b3 0 (kP size) b9]⟩] e0 (.bool true) a5) (aM rfl i4 i1 g3) (hq (.blk 0 (.loop (q5.loopAt 0)) Try.f5.ntmps [7,8,9] [some (pt c7 0),some (pt c8 0),some (i64 0)] a5 .normal (fr []) c1) (fI rfl) hn))))))))))),g0,d7,rfl⟩
end Go.Proofs.Ytdaglldahidmbaa
