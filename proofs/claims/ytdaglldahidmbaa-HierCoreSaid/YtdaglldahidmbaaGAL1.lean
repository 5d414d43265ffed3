/-
  Package hier: each of its laws for every argument; no conditions. The last text states which.
-/
import Derived.Test.YtdaglldahidmbaaGAJ1
import Derived.Test.YtdaglldahidmbaaGAmRk
set_option linter.unusedVariables false
set_option linter.unusedSimpArgs false
open Go Go.Am Go.Proofs
namespace Go.Proofs.Ytdaglldahidmbaa
set_option maxRecDepth 100000
theorem Eh(q x A_ eb eo K ec n i j1:Nat)(dV:Int)(u0 u1 u2 u3 u4 u5:Value)(y:A7)(d:E4){M M0:aA}(hM:aB M)(X0:Ext M0 M)(heb:eb<M0.next)(gq:M.get q=some ⟨[i64 n,aC eb eo K ec],26,2,0,true⟩)(gx:M.get x=some ⟨[u0,u1,u2,u3,u4,u5],31,6,0,true⟩)(gA:M.get A_=some ⟨(bM y),42,7,0,true⟩)(a4:(decide ((j1:Int)<(K:Int)))=true): (∀(cc1:(d.f==y.f)=true)(cc2:(d.t==y.t)=true)(cc3:(d.m==y.m)=true)(cc4:(decide (d.c<y.c))=false)(cc5:(d.c==y.c)=true)(cc6:(decide ((j1:Int)<y.e))=false)(hld0:bG Try.prog 37 ⟨eb,eo+((j1:Int):Int).toNat*4,none⟩ M0=some (.agg ⟨(bJ d)⟩)),∃T1 M',Rd Try.prog [] (q6.loopAt 6) Try.f6.ntmps (fr [(5,(pt q 0)),(7,(pt x 0)),(8,(i64 dV)),(10,(i64 (i:Int))),(11,(pt A_ 0)),(12,(i64 (j1:Int)))]) M .normal T1 M'/\ [5,7,8,10,11,12].map T1.get= [some (pt q 0),some (pt x 0),some (i64 dV),some (i64 (i:Int)),some (pt A_ 0),some (i64 (IntKind.wrap .i64 ((j1:Int)+(1:Int))))]/\Ext M0 M'/\aB M'/\M'.get q=some ⟨[i64 (n:Int),aC eb eo K ec],26,2,0,true⟩/\M'.get x=some ⟨[u0,u1,u2,u3,u4,u5],31,6,0,true⟩/\M'.get A_=some ⟨(bM y),42,7,0,true⟩)/\(∀(cc1:(d.f==y.f)=true)(cc2:(d.t==y.t)=true)(cc3:(d.m==y.m)=true)(cc4:(decide (d.c<y.c))=false)(cc5:(d.c==y.c)=false)(hld0:bG Try.prog 37 ⟨eb,eo+((j1:Int):Int).toNat*4,none⟩ M0=some (.agg ⟨(bJ d)⟩)),∃T1 M',Rd Try.prog [] (q6.loopAt 6) Try.f6.ntmps (fr [(5,(pt q 0)),(7,(pt x 0)),(8,(i64 dV)),(10,(i64 (i:Int))),(11,(pt A_ 0)),(12,(i64 (j1:Int)))]) M .normal T1 M'/\ [5,7,8,10,11,12].map T1.get= [some (pt q 0),some (pt x 0),some (i64 dV),some (i64 (i:Int)),some (pt A_ 0),some (i64 (IntKind.wrap .i64 ((j1:Int)+(1:Int))))]/\Ext M0 M'/\aB M'/\M'.get q=some ⟨[i64 (n:Int),aC eb eo K ec],26,2,0,true⟩/\M'.get x=some ⟨[u0,u1,u2,u3,u4,u5],31,6,0,true⟩/\M'.get A_=some ⟨(bM y),42,7,0,true⟩)/\(∀(cc1:(d.f==y.f)=true)(cc2:(d.t==y.t)=true)(cc3:(d.m==y.m)=false)(hld0:bG Try.prog 37 ⟨eb,eo+((j1:Int):Int).toNat*4,none⟩ M0=some (.agg ⟨(bJ d)⟩)),∃T1 M',Rd Try.prog [] (q6.loopAt 6) Try.f6.ntmps (fr [(5,(pt q 0)),(7,(pt x 0)),(8,(i64 dV)),(10,(i64 (i:Int))),(11,(pt A_ 0)),(12,(i64 (j1:Int)))]) M .normal T1 M'/\ [5,7,8,10,11,12].map T1.get= [some (pt q 0),some (pt x 0),some (i64 dV),some (i64 (i:Int)),some (pt A_ 0),some (i64 (IntKind.wrap .i64 ((j1:Int)+(1:Int))))]/\Ext M0 M'/\aB M'/\M'.get q=some ⟨[i64 (n:Int),aC eb eo K ec],26,2,0,true⟩/\M'.get x=some ⟨[u0,u1,u2,u3,u4,u5],31,6,0,true⟩/\M'.get A_=some ⟨(bM y),42,7,0,true⟩)/\(∀(cc1:(d.f==y.f)=true)(cc2:(d.t==y.t)=false)(hld0:bG Try.prog 37 ⟨eb,eo+((j1:Int):Int).toNat*4,none⟩ M0=some (.agg ⟨(bJ d)⟩)),∃T1 M',Rd Try.prog [] (q6.loopAt 6) Try.f6.ntmps (fr [(5,(pt q 0)),(7,(pt x 0)),(8,(i64 dV)),(10,(i64 (i:Int))),(11,(pt A_ 0)),(12,(i64 (j1:Int)))]) M .normal T1 M'/\ [5,7,8,10,11,12].map T1.get= [some (pt q 0),some (pt x 0),some (i64 dV),some (i64 (i:Int)),some (pt A_ 0),some (i64 (IntKind.wrap .i64 ((j1:Int)+(1:Int))))]/\Ext M0 M'/\aB M'/\M'.get q=some ⟨[i64 (n:Int),aC eb eo K ec],26,2,0,true⟩/\M'.get x=some ⟨[u0,u1,u2,u3,u4,u5],31,6,0,true⟩/\M'.get A_=some ⟨(bM y),42,7,0,true⟩)/\(∀(cc1:(d.f==y.f)=false)(hld0:bG Try.prog 37 ⟨eb,eo+((j1:Int):Int).toNat*4,none⟩ M0=some (.agg ⟨(bJ d)⟩)),∃T1 M',Rd Try.prog [] (q6.loopAt 6) Try.f6.ntmps (fr [(5,(pt q 0)),(7,(pt x 0)),(8,(i64 dV)),(10,(i64 (i:Int))),(11,(pt A_ 0)),(12,(i64 (j1:Int)))]) M .normal T1 M'/\ [5,7,8,10,11,12].map T1.get= [some (pt q 0),some (pt x 0),some (i64 dV),some (i64 (i:Int)),some (pt A_ 0),some (i64 (IntKind.wrap .i64 ((j1:Int)+(1:Int))))]/\Ext M0 M'/\aB M'/\M'.get q=some ⟨[i64 (n:Int),aC eb eo K ec],26,2,0,true⟩/\M'.get x=some ⟨[u0,u1,u2,u3,u4,u5],31,6,0,true⟩/\M'.get A_=some ⟨(bM y),42,7,0,true⟩):=by
 obtain⟨b1,M2,a5,a9,g5,E6,b8⟩:=bE hM ⟨[i64 0,i64 0,i64 0,i64 0],37,4,0,true⟩
 have b9:=mT a5 X0
 have b4:=fV gq a5
 have b5:=fV gx a5
 have a8:=fV gA a5
 have g8:=E6.old gq
 have g9:=E6.old gx
 have b7:=E6.old gA
 have b6:=X0.trans E6
 obtain⟨a2,b3,a1,a6,a7,a3,c0⟩:=aY (o:=0) (v:=(.agg ⟨(bJ d)⟩)) (new:= (bJ d)) b6 b9 b8 nX g5 rfl rfl (Nat.zero_le _) (Nat.le_of_ble_eq_true rfl) rfl
 have b0:=(a6 _ b4).trans g8
 have b2:=(a6 _ b5).trans g9
 have a0:=(a6 _ a8).trans b7
 refine⟨?_,?_,?_,?_,?_⟩
 ·intro cc1 cc2 cc3 cc4 cc5 cc6 hld0
  obtain⟨T1,h1,h2⟩:=Rd.told (tb:=[]) (n:=200) (F:=[aQ 5 (aC eb eo K ec),aL 10,aQ 14 (aC eb eo K ec),aL 18,aQ 20 (.agg ⟨(bJ d)⟩),bL 22 (pt b1 0) M2,jE 24 a2,aQ 28 (i64 d.f),aQ 32 (i64 y.f),aL 37,aL 39,aQ 40 (i64 d.t),aL 41,aL 43,aQ 44 (i64 y.t),aL 45,aL 48,aL 51,aL 53,aQ 54 (i64 d.m),aL 55,aL 57,aQ 58 (i64 y.m),aL 59,aL 62,aL 65,aL 67,aQ 68 (i64 d.c),aL 69,aL 71,aQ 72 (i64 y.c),aL 73,aL 75,aP 77,aP 79,aQ 80 (i64 d.c),aP 81,aP 83,aQ 84 (i64 y.c),aP 85,aP 87,aL 89,aL 91,aL 93,aQ 94 (i64 y.e),aL 95,aP 97,aL 98,aL 99,aP 100,aL 102,aP 103]) aF aE (aH Try.prog) (fun _ _=>rfl) (by kernel_rfl) (hk (lO 1 kB gq rfl) (hk (bT a4) (hk (lO 1 kB gq rfl) (hk (qI (j1:Int) K (by omega) (by simp at a4;omega)) (hk (lD (aR X0 hld0)) (hq (.eq (cK Try.prog 37 M) (1,.val (pt b1 0),M2)) (bR (by rw[<-a5,<-a9];kernel_rfl) Nat.one_ne_zero) (hq (qS 37 b1 0 (.agg ⟨(bJ d)⟩) M2 a2) (dA b3) (hk (lO 0 bP a1 rfl) (hk (lO 0 bP a0 rfl) (hw (bT cc1) (hk (lO 1 bP a1 rfl) (hw (bT cc1) (hk (lO 1 bP a0 rfl) (hw (bT cc1) (hw (bT cc2) (hk (lO 2 bP a1 rfl) (hw (bT cc2) (hk (lO 2 bP a0 rfl) (hw (bT cc2) (hw (bT cc3) (hk (lO 3 bP a1 rfl) (hw (bT cc3) (hk (lO 3 bP a0 rfl) (hw (bT cc3) (hw (bF cc4) (hk (lO 3 bP a1 rfl) (hw (bF cc4) (hk (lO 3 bP a0 rfl) (hw (bF cc4) (hw (bT cc5) (hk (bT cc5) (hk (lO 4 bP a0 rfl) (hk (bT cc5) (hk (bF cc4) (hk (bT cc5) (hk (bT cc3) (hk (bF cc4) (hk (bT cc3) (hk (bF cc6) hn)))))))))))))))))))))))))))))))))))))))
  exact⟨T1,a2,h1,h2,a7,a3,b0,b2,a0⟩
 ·intro cc1 cc2 cc3 cc4 cc5 hld0
  obtain⟨T1,h1,h2⟩:=Rd.told (tb:=[]) (n:=200) (F:=[aQ 5 (aC eb eo K ec),aL 10,aQ 14 (aC eb eo K ec),aL 18,aQ 20 (.agg ⟨(bJ d)⟩),bL 22 (pt b1 0) M2,jE 24 a2,aQ 28 (i64 d.f),aQ 32 (i64 y.f),aL 37,aL 39,aQ 40 (i64 d.t),aL 41,aL 43,aQ 44 (i64 y.t),aL 45,aL 48,aL 51,aL 53,aQ 54 (i64 d.m),aL 55,aL 57,aQ 58 (i64 y.m),aL 59,aL 62,aL 65,aL 67,aQ 68 (i64 d.c),aL 69,aL 71,aQ 72 (i64 y.c),aL 73,aL 75,aP 77,aP 79,aQ 80 (i64 d.c),aP 81,aP 83,aQ 84 (i64 y.c),aP 85,aP 87,aP 89,aP 91,aP 93,aP 95,aP 97,aP 98,aL 99,aP 100,aL 102]) aF aE (aH Try.prog) (fun _ _=>rfl) (by kernel_rfl) (hk (lO 1 kB gq rfl) (hk (bT a4) (hk (lO 1 kB gq rfl) (hk (qI (j1:Int) K (by omega) (by simp at a4;omega)) (hk (lD (aR X0 hld0)) (hq (.eq (cK Try.prog 37 M) (1,.val (pt b1 0),M2)) (bR (by rw[<-a5,<-a9];kernel_rfl) Nat.one_ne_zero) (hq (qS 37 b1 0 (.agg ⟨(bJ d)⟩) M2 a2) (dA b3) (hk (lO 0 bP a1 rfl) (hk (lO 0 bP a0 rfl) (hw (bT cc1) (hk (lO 1 bP a1 rfl) (hw (bT cc1) (hk (lO 1 bP a0 rfl) (hw (bT cc1) (hw (bT cc2) (hk (lO 2 bP a1 rfl) (hw (bT cc2) (hk (lO 2 bP a0 rfl) (hw (bT cc2) (hw (bT cc3) (hk (lO 3 bP a1 rfl) (hw (bT cc3) (hk (lO 3 bP a0 rfl) (hw (bT cc3) (hw (bF cc4) (hk (lO 3 bP a1 rfl) (hw (bF cc4) (hk (lO 3 bP a0 rfl) (hw (bF cc4) (hw (bF cc5) (hw (bF cc5) (hk (bF cc4) (hk (bF cc5) (hk (bT cc3) (hk (bF cc4) (hk (bT cc3) hn))))))))))))))))))))))))))))))))))))
  exact⟨T1,a2,h1,h2,a7,a3,b0,b2,a0⟩
 ·intro cc1 cc2 cc3 hld0
  obtain⟨T1,h1,h2⟩:=Rd.told (tb:=[]) (n:=200) (F:=[aQ 5 (aC eb eo K ec),aL 10,aQ 14 (aC eb eo K ec),aL 18,aQ 20 (.agg ⟨(bJ d)⟩),bL 22 (pt b1 0) M2,jE 24 a2,aQ 28 (i64 d.f),aQ 32 (i64 y.f),aL 37,aL 39,aQ 40 (i64 d.t),aL 41,aL 43,aQ 44 (i64 y.t),aL 45,aL 48,aL 51,aL 53,aQ 54 (i64 d.m),aL 55,aL 57,aQ 58 (i64 y.m),aL 59,aL 62,aP 65,aP 67,aP 69,aP 71,aP 73,aP 75,aP 99,aP 102]) aF aE (aH Try.prog) (fun _ _=>rfl) (by kernel_rfl) (hk (lO 1 kB gq rfl) (hk (bT a4) (hk (lO 1 kB gq rfl) (hk (qI (j1:Int) K (by omega) (by simp at a4;omega)) (hk (lD (aR X0 hld0)) (hq (.eq (cK Try.prog 37 M) (1,.val (pt b1 0),M2)) (bR (by rw[<-a5,<-a9];kernel_rfl) Nat.one_ne_zero) (hq (qS 37 b1 0 (.agg ⟨(bJ d)⟩) M2 a2) (dA b3) (hk (lO 0 bP a1 rfl) (hk (lO 0 bP a0 rfl) (hw (bT cc1) (hk (lO 1 bP a1 rfl) (hw (bT cc1) (hk (lO 1 bP a0 rfl) (hw (bT cc1) (hw (bT cc2) (hk (lO 2 bP a1 rfl) (hw (bT cc2) (hk (lO 2 bP a0 rfl) (hw (bT cc2) (hw (bF cc3) (hw (bF cc3) (hw (bF cc3) (hw (bF cc3) hn)))))))))))))))))))))))
  exact⟨T1,a2,h1,h2,a7,a3,b0,b2,a0⟩
 ·intro cc1 cc2 hld0
  obtain⟨T1,h1,h2⟩:=Rd.told (tb:=[]) (n:=200) (F:=[aQ 5 (aC eb eo K ec),aL 10,aQ 14 (aC eb eo K ec),aL 18,aQ 20 (.agg ⟨(bJ d)⟩),bL 22 (pt b1 0) M2,jE 24 a2,aQ 28 (i64 d.f),aQ 32 (i64 y.f),aL 37,aL 39,aQ 40 (i64 d.t),aL 41,aL 43,aQ 44 (i64 y.t),aL 45,aL 48,aP 51,aP 53,aP 55,aP 57,aP 59,aP 62]) aF aE (aH Try.prog) (fun _ _=>rfl) (by kernel_rfl) (hk (lO 1 kB gq rfl) (hk (bT a4) (hk (lO 1 kB gq rfl) (hk (qI (j1:Int) K (by omega) (by simp at a4;omega)) (hk (lD (aR X0 hld0)) (hq (.eq (cK Try.prog 37 M) (1,.val (pt b1 0),M2)) (bR (by rw[<-a5,<-a9];kernel_rfl) Nat.one_ne_zero) (hq (qS 37 b1 0 (.agg ⟨(bJ d)⟩) M2 a2) (dA b3) (hk (lO 0 bP a1 rfl) (hk (lO 0 bP a0 rfl) (hw (bT cc1) (hk (lO 1 bP a1 rfl) (hw (bT cc1) (hk (lO 1 bP a0 rfl) (hw (bT cc1) (hw (bF cc2) (hw (bF cc2) (hw (bF cc2) hn)))))))))))))))))
  exact⟨T1,a2,h1,h2,a7,a3,b0,b2,a0⟩
 ·intro cc1 hld0
  obtain⟨T1,h1,h2⟩:=Rd.told (tb:=[]) (n:=200) (F:=[aQ 5 (aC eb eo K ec),aL 10,aQ 14 (aC eb eo K ec),aL 18,aQ 20 (.agg ⟨(bJ d)⟩),bL 22 (pt b1 0) M2,jE 24 a2,aQ 28 (i64 d.f),aQ 32 (i64 y.f),aP 37,aP 39,aP 41,aP 43,aP 45,aP 48]) aF aE (aH Try.prog) (fun _ _=>rfl) (by kernel_rfl) (hk (lO 1 kB gq rfl) (hk (bT a4) (hk (lO 1 kB gq rfl) (hk (qI (j1:Int) K (by omega) (by simp at a4;omega)) (hk (lD (aR X0 hld0)) (hq (.eq (cK Try.prog 37 M) (1,.val (pt b1 0),M2)) (bR (by rw[<-a5,<-a9];kernel_rfl) Nat.one_ne_zero) (hq (qS 37 b1 0 (.agg ⟨(bJ d)⟩) M2 a2) (dA b3) (hk (lO 0 bP a1 rfl) (hk (lO 0 bP a0 rfl) (hw (bF cc1) (hw (bF cc1) (hw (bF cc1) hn))))))))))))
  exact⟨T1,a2,h1,h2,a7,a3,b0,b2,a0⟩
theorem rcex(q x A_ K ec n i j1:Nat)(ea:Option Addr)(dV:Int){M:aA}(a1:ea.isNone=true->K=0/\ec=0)(gq:M.get q=some ⟨[i64 n,.slice ea K ec],26,2,0,true⟩)(a0:(decide ((j1:Int)<(K:Int)))=false): ∃T1,Rd Try.prog [] (q6.loopAt 6) Try.f6.ntmps (fr [(5,(pt q 0)),(7,(pt x 0)),(8,(i64 dV)),(10,(i64 (i:Int))),(11,(pt A_ 0)),(12,(i64 (j1:Int)))]) M (.exit 6) T1 M/\ [5,7,8,10].map T1.get= [some (pt q 0),some (pt x 0),some (i64 dV),some (i64 (i:Int))]:=by
 exact Rd.told (tb:=[]) (n:=60) (F:=[aQ 5 (.slice ea K ec),aL 7,aP 10]) aF aE (aH Try.prog) (fun _ _=>rfl) (by kernel_rfl) (hk (lO 1 kB gq rfl) (hk (lN a1) (hk (bF a0) hn)))
theorem aAc{q x A_ ec n i:Nat}{ea:Option Addr}{dV:Int}{u0 u1 u2 u3 u4 u5:Value}{es:List E4}{y:A7}{M0 M:aA}(a5:aV es (.slice ea es.length ec) M0)(hM:aB M)(X0:Ext M0 M)(gq:M.get q=some ⟨[i64 n,.slice ea es.length ec],26,2,0,true⟩)(gx:M.get x=some ⟨[u0,u1,u2,u3,u4,u5],31,6,0,true⟩)(gA:M.get A_=some ⟨(bM y),42,7,0,true⟩)(hP: ∀(k:Nat) (d:E4),es[k]?=some d->d.f=y.f->d.t=y.t->d.m=y.m-> ¬d.c<y.c/\ ¬(d.c=y.c/\(k:Int)<y.e)):
  ∃M',bN Try.prog [] (q6.loopAt 6) Try.f6.ntmps (fr [(5,pt q 0),(7,pt x 0),(8,i64 dV),(10,i64 i),(11,pt A_ 0),(12,i64 ((0:Nat):Int))]) M (.exit 6) (fr [(5,pt q 0),(7,pt x 0),(8,i64 dV),(10,i64 i)]) M'/\Ext M0 M'/\aB M'/\M'.get q=some ⟨[i64 n,.slice ea es.length ec],26,2,0,true⟩/\M'.get x=some ⟨[u0,u1,u2,u3,u4,u5],31,6,0,true⟩:=by
 have hlen:=a5.len
 obtain⟨_,M',k1,k2,k3,k4,_⟩:=bN.for (P:=Try.prog) (GL:= []) (b:=q6.loopAt 6) (nt:=Try.f6.ntmps) (id:=6) (σ:=Unit) (n:=es.length) (Inv:=fun j _ M1=>Ext M0 M1/\aB M1/\(M1.get q=some ⟨[i64 n,.slice ea es.length ec],26,2,0,true⟩/\M1.get x=some ⟨[u0,u1,u2,u3,u4,u5],31,6,0,true⟩)/\M1.get A_=some ⟨(bM y),42,7,0,true⟩)
  (F:=fun j _=> [(5,pt q 0),(7,pt x 0),(8,i64 dV),(10,i64 i),(11,pt A_ 0),(12,i64 ((j:Nat):Int))]) (O:=fun _=> [(5,pt q 0),(7,pt x 0),(8,i64 dV),(10,i64 i)])
  (by
   rintro j _ M1 hj ⟨X1,a2,⟨a0,a3⟩,a1⟩
   obtain⟨eb,eo,rfl,_⟩:=cL a5 (by omega)
   have ht:es[j]?=some es[j]:=List.getElem?_eq_getElem hj
   have l1:=mF (P:=Try.prog) (ty:=37) a5 ht tP nX
   have a4:=Go.Am.mI a5 (by omega)
   have done:(∃T1 M2,Rd Try.prog [] (q6.loopAt 6) Try.f6.ntmps (fr [(5,pt q 0),(7,pt x 0),(8,i64 dV),(10,i64 i),(11,pt A_ 0),(12,i64 j)]) M1 .normal T1 M2/\ [5,7,8,10,11,12].map T1.get= [some (pt q 0),some (pt x 0),some (i64 dV),some (i64 i),some (pt A_ 0),some (i64 (IntKind.wrap .i64 ((j:Int)+(1:Int))))]/\Ext M0 M2/\aB M2/\M2.get q=some ⟨[i64 n,aC eb eo es.length ec],26,2,0,true⟩/\M2.get x=some ⟨[u0,u1,u2,u3,u4,u5],31,6,0,true⟩/\M2.get A_=some ⟨(bM y),42,7,0,true⟩):=by
    by_cases h1:(es[j].f==y.f)=true
    ·by_cases h2:(es[j].t==y.t)=true
     ·by_cases h3:(es[j].m==y.m)=true
      ·obtain⟨p1,p2⟩:=hP j _ ht (beq_iff_eq.1 h1) (beq_iff_eq.1 h2) (beq_iff_eq.1 h3)
       by_cases h4:(es[j].c==y.c)=true
       ·exact (Eh q x A_ eb eo es.length ec n i j dV u0 u1 u2 u3 u4 u5 y es[j] a2 X1 a4 a0 a3 a1 (decide_eq_true (by omega))).1 h1 h2 h3 (decide_eq_false p1) h4 (decide_eq_false (fun hh=>p2 ⟨beq_iff_eq.1 h4,hh⟩)) (by rw[Int.toNat_natCast];exact l1)
       ·exact (Eh q x A_ eb eo es.length ec n i j dV u0 u1 u2 u3 u4 u5 y es[j] a2 X1 a4 a0 a3 a1 (decide_eq_true (by omega))).2.1 h1 h2 h3 (decide_eq_false p1) (Bool.eq_false_iff.2 h4) (by rw[Int.toNat_natCast];exact l1)
      ·exact (Eh q x A_ eb eo es.length ec n i j dV u0 u1 u2 u3 u4 u5 y es[j] a2 X1 a4 a0 a3 a1 (decide_eq_true (by omega))).2.2.1 h1 h2 (Bool.eq_false_iff.2 h3) (by rw[Int.toNat_natCast];exact l1)
     ·exact (Eh q x A_ eb eo es.length ec n i j dV u0 u1 u2 u3 u4 u5 y es[j] a2 X1 a4 a0 a3 a1 (decide_eq_true (by omega))).2.2.2.1 h1 (Bool.eq_false_iff.2 h2) (by rw[Int.toNat_natCast];exact l1)
    ·exact (Eh q x A_ eb eo es.length ec n i j dV u0 u1 u2 u3 u4 u5 y es[j] a2 X1 a4 a0 a3 a1 (decide_eq_true (by omega))).2.2.2.2 (Bool.eq_false_iff.2 h1) (by rw[Int.toNat_natCast];exact l1)
   obtain⟨T1,M2,q1,q2,q3,q4,q5,q6,q7⟩:=done
   rw[aZ (by omega)] at q2
   exact⟨(),T1,M2,q1,q2,q3,q4,⟨q5,q6⟩,q7⟩)
  (by
   rintro _ M1 ⟨X1,a2,⟨a0,a3⟩,a1⟩
   exact rcex q x A_ es.length ec n i es.length ea dV (M:=M1) a5.ln a0 (decide_eq_false (by omega)))
  es.length 0 (by omega) (s:=()) (M:=M) ⟨X0,hM,⟨gq,gx⟩,gA⟩
 exact⟨M',k1,k2,k3,k4.1,k4.2⟩
theorem rc4(q x ab ao L ac n i:Nat)(dV:Int)(qs u0 u1 u2 u4 u5:Value)(y:A7){M M0:aA}(hM:aB M)(X0:Ext M0 M)(hab:ab<M0.next)(gq:M.get q=some ⟨[i64 n,qs],26,2,0,true⟩)(gx:M.get x=some ⟨[u0,u1,u2,aC ab ao L ac,u4,u5],31,6,0,true⟩)(hye:0<=y.e)(c2: ∀M1 A_,aB M1->Ext M0 M1->M1.get q=some ⟨[i64 n,qs],26,2,0,true⟩->M1.get x=some ⟨[u0,u1,u2,aC ab ao L ac,u4,u5],31,6,0,true⟩->M1.get A_=some ⟨(bM y),42,7,0,true⟩-> ∃M',bN Try.prog [] (q6.loopAt 6) Try.f6.ntmps (fr [(5,pt q 0),(7,pt x 0),(8,i64 dV),(10,i64 i),(11,pt A_ 0),(12,i64 ((0:Nat):Int))]) M1 (.exit 6) (fr [(5,pt q 0),(7,pt x 0),(8,i64 dV),(10,i64 i)]) M'/\Ext M0 M'/\aB M'/\M'.get q=some ⟨[i64 n,qs],26,2,0,true⟩/\M'.get x=some ⟨[u0,u1,u2,aC ab ao L ac,u4,u5],31,6,0,true⟩)(b0:(decide ((i:Int)<(L:Int)))=true)(a9:bG Try.prog 42 ⟨ab,ao+((i:Int):Int).toNat*7,none⟩ M0=some (.agg ⟨(bM y)⟩)): ∃T1 M',Rd Try.prog [] (q6.loopAt 4) Try.f6.ntmps (fr [(5,(pt q 0)),(7,(pt x 0)),(8,(i64 dV)),(10,(i64 (i:Int)))]) M .normal T1 M'/\ [5,7,8,10].map T1.get= [some (pt q 0),some (pt x 0),some (i64 dV),some (i64 (IntKind.wrap .i64 ((i:Int)+(1:Int))))]/\Ext M0 M'/\aB M'/\M'.get q=some ⟨[i64 (n:Int),qs],26,2,0,true⟩/\M'.get x=some ⟨[u0,u1,u2,aC ab ao L ac,u4,u5],31,6,0,true⟩:=by
 obtain⟨b1,M2,a2,b6,g5,E6,c1⟩:=bE hM ⟨[i64 0,i64 0,i64 0,i64 0,i64 0,i64 0,i64 0],42,7,0,true⟩
 have c3:=mT a2 X0
 have a4:=fV gq a2
 have a5:=fV gx a2
 have g8:=E6.old gq
 have g9:=E6.old gx
 have b3:=X0.trans E6
 obtain⟨a1,c5,b2,a0,b4,a7,c4⟩:=aY (o:=0) (v:=(.agg ⟨(bM y)⟩)) (new:= (bM y)) b3 c3 c1 mL g5 rfl rfl (Nat.zero_le _) (Nat.le_of_ble_eq_true rfl) rfl
 have b7:=(a0 _ a4).trans g8
 have b8:=(a0 _ a5).trans g9
 obtain⟨a3,a6,b5,a8,b9,c0⟩:=c2 a1 b1 a7 b4 b7 b8 b2
 obtain⟨T1,h1,h2⟩:=Rd.told (tb:=[6]) (n:=100) (F:=[aQ 5 (aC ab ao L ac),aL 10,aQ 14 (aC ab ao L ac),aL 18,aQ 20 (.agg ⟨(bM y)⟩),bL 22 (pt b1 0) M2,jE 24 a1,aQ 28 (i64 y.e),aP 31,.blk 34 [5,7,8,10,11,12] .normal (fr [(5,(pt q 0)),(7,(pt x 0)),(8,(i64 dV)),(10,(i64 (i:Int)))]) a3]) aF aE (fun B=>Bm (iE B) 6 a6) (fun _ h=>cO h) (by kernel_rfl) (hk (lO 3 kX gx rfl) (hk (bT b0) (hk (lO 3 kX gx rfl) (hk (qI (i:Int) L (by omega) (by simp at b0;omega)) (hk (lD (aR X0 a9)) (hq (.eq (cK Try.prog 42 M) (1,.val (pt b1 0),M2)) (bR (by rw[<-a2,<-b6];kernel_rfl) Nat.one_ne_zero) (hq (qS 42 b1 0 (.agg ⟨(bM y)⟩) M2 a1) (dA c5) (hk (lO 4 bP b2 rfl) (hk (bF (x:=decide (y.e<(0:Int))) (decide_eq_false (by omega))) (hq (.blk 6 (.loop (q6.loopAt 6)) Try.f6.ntmps [5,7,8,10,11,12] [some (pt q 0),some (pt x 0),some (i64 dV),some (i64 (i:Int)),some (pt b1 0),some (i64 0)] a1 .normal (fr [(5,(pt q 0)),(7,(pt x 0)),(8,(i64 dV)),(10,(i64 (i:Int)))]) a3) (fP rfl) hn))))))))))
 exact⟨T1,a3,h1,h2,b5,a8,b9,c0⟩
theorem rc4x(q x L ac n i:Nat)(aa:Option Addr)(dV:Int)(u0 u1 u2 u4 u5:Value){M:aA}(a1:aa.isNone=true->L=0/\ac=0)(gx:M.get x=some ⟨[u0,u1,u2,.slice aa L ac,u4,u5],31,6,0,true⟩)(a0:(decide ((i:Int)<(L:Int)))=false): ∃T1,Rd Try.prog [] (q6.loopAt 4) Try.f6.ntmps (fr [(5,(pt q 0)),(7,(pt x 0)),(8,(i64 dV)),(10,(i64 (i:Int)))]) M (.exit 4) T1 M/\ [7,8].map T1.get= [some (pt x 0),some (i64 dV)]:=by
 exact Rd.told (tb:=[]) (n:=60) (F:=[aQ 5 (.slice aa L ac),aL 7,aP 10]) aF aE (aH Try.prog) (fun _ _=>rfl) (by kernel_rfl) (hk (lO 3 kX gx rfl) (hk (lN a1) (hk (bF a0) hn)))
theorem rc2(q x rb ro rc ub uc db dc m wc zc n v:Nat)(wa da:Option Addr)(dV:Int)(qs u0 u1 u3:Value){M:aA}{M0:aA}(X0:Ext M0 M)(hrb:rb<M0.next)(hub:ub<M0.next)(hdb:db<M0.next)(a5:wa.isNone=true->m=0/\wc=0)(a4:da.isNone=true->0=0/\zc=0)(gq:M.get q=some ⟨[i64 n,qs],26,2,0,true⟩)(gx:M.get x=some ⟨[u0,u1,aC rb ro n rc,u3,aC ub 0 n uc,aC db 0 n dc],31,6,0,true⟩)(hvn:v<n)(a3:(decide ((v:Int)<(n:Int)))=true)(a0:bG Try.prog 3 ⟨rb,ro+((v:Int):Int).toNat*1,none⟩ M0=some (i64 (-1:Int)))(a1:bG Try.prog 22 ⟨db,0+((v:Int):Int).toNat*1,none⟩ M0=some (.slice da 0 zc))(a2:bG Try.prog 22 ⟨ub,0+((v:Int):Int).toNat*1,none⟩ M0=some (.slice wa m wc)): ∃T1,Rd Try.prog [] (q6.loopAt 2) Try.f6.ntmps (fr [(5,(pt q 0)),(7,(pt x 0)),(8,(i64 dV)),(9,(i64 (v:Int)))]) M .normal T1 M/\ [5,7,8,9].map T1.get= [some (pt q 0),some (pt x 0),some (i64 (IntKind.wrap .i64 (dV+(m:Int)))),some (i64 (IntKind.wrap .i64 ((v:Int)+(1:Int))))]:=by
 exact Rd.told (tb:=[]) (n:=100) (F:=[aQ 5 (i64 (n:Int)),aL 8,aQ 12 (aC rb ro n rc),aL 16,aQ 18 (i64 (-1:Int)),aP 23,aP 25,aQ 26 (aC db 0 n dc),aP 27,aP 29,aL 30,aP 31,aQ 32 (.slice da 0 zc),aP 33,aL 34,aP 35,aP 38,aQ 45 (aC ub 0 n uc),aL 49,aQ 51 (.slice wa m wc),aL 53]) aF aE (aH Try.prog) (fun _ _=>rfl) (by kernel_rfl) (hk (lO 0 bP gq rfl) (hk (bT a3) (hk (lO 2 jI gx rfl) (hk (qI (v:Int) n (by omega) (by omega)) (hk (lD (aR X0 a0)) (hk (bF (x:=!((-1:Int)==(-1:Int))) (cW _)) (hk (bF (x:=!((-1:Int)==(-1:Int))) (cW _)) (hk (lO 5 wB gx rfl) (hk (bF (x:=!((-1:Int)==(-1:Int))) (cW _)) (hk (bF (x:=!((-1:Int)==(-1:Int))) (cW _)) (hk (qI (v:Int) n (by omega) (by omega)) (hk (bF (x:=!((-1:Int)==(-1:Int))) (cW _)) (hk (lD (aR X0 a1)) (hk (bF (x:=!((-1:Int)==(-1:Int))) (cW _)) (hk (lN a4) (hk (bF (x:=!((-1:Int)==(-1:Int))) (cW _)) (hk (bF (x:=!((-1:Int)==(-1:Int))) (cW _)) (hk (lO 4 wB gx rfl) (hk (qI (v:Int) n (by omega) (by omega)) (hk (lD (aR X0 a2)) (hk (lN a5) hn)))))))))))))))))))))
theorem rc2x(q x n v:Nat)(dV:Int)(qs:Value){M:aA}(gq:M.get q=some ⟨[i64 n,qs],26,2,0,true⟩)(a0:(decide ((v:Int)<(n:Int)))=false): ∃T1,Rd Try.prog [] (q6.loopAt 2) Try.f6.ntmps (fr [(5,(pt q 0)),(7,(pt x 0)),(8,(i64 dV)),(9,(i64 (v:Int)))]) M (.exit 2) T1 M/\ [5,7,8].map T1.get= [some (pt q 0),some (pt x 0),some (i64 dV)]:=by
 exact Rd.told (tb:=[]) (n:=60) (F:=[aQ 5 (i64 (n:Int)),aP 8]) aF aE (aH Try.prog) (fun _ _=>rfl) (by kernel_rfl) (hk (lO 0 bP gq rfl) (hk (bF a0) hn))
theorem aAa{q x ec ac n:Nat}{ea aa:Option Addr}{dV:Int}{u0 u1 u2 u4 u5:Value}{es:List E4}{arcs:List A7}{M0 M:aA}(a6:aV es (.slice ea es.length ec) M0)(a1:fO arcs (.slice aa arcs.length ac) M0)(hM:aB M)(X0:Ext M0 M)(gq:M.get q=some ⟨[i64 n,.slice ea es.length ec],26,2,0,true⟩)(gx:M.get x=some ⟨[u0,u1,u2,.slice aa arcs.length ac,u4,u5],31,6,0,true⟩)(hP: ∀y∈arcs,0<=y.e/\ ∀(k:Nat) (d:E4),es[k]?=some d->d.f=y.f->d.t=y.t->d.m=y.m-> ¬d.c<y.c/\ ¬(d.c=y.c/\(k:Int)<y.e)):
  ∃M',bN Try.prog [] (q6.loopAt 4) Try.f6.ntmps (fr [(5,pt q 0),(7,pt x 0),(8,i64 dV),(10,i64 ((0:Nat):Int))]) M (.exit 4) (fr [(7,pt x 0),(8,i64 dV)]) M'/\Ext M0 M'/\aB M'/\M'.get q=some ⟨[i64 n,.slice ea es.length ec],26,2,0,true⟩/\M'.get x=some ⟨[u0,u1,u2,.slice aa arcs.length ac,u4,u5],31,6,0,true⟩:=by
 have hlen:=a1.len
 obtain⟨_,M',k1,k2,k3,k4,k5⟩:=bN.for (P:=Try.prog) (GL:= []) (b:=q6.loopAt 4) (nt:=Try.f6.ntmps) (id:=4) (σ:=Unit) (n:=arcs.length) (Inv:=fun i _ M1=>Ext M0 M1/\aB M1/\M1.get q=some ⟨[i64 n,.slice ea es.length ec],26,2,0,true⟩/\M1.get x=some ⟨[u0,u1,u2,.slice aa arcs.length ac,u4,u5],31,6,0,true⟩)
  (F:=fun i _=> [(5,pt q 0),(7,pt x 0),(8,i64 dV),(10,i64 ((i:Nat):Int))]) (O:=fun _=> [(7,pt x 0),(8,i64 dV)])
  (by
   rintro i _ M1 hi ⟨X1,a2,a3,a0⟩
   obtain⟨ab,ao,rfl,_⟩:=cL a1 (by omega)
   have ht:arcs[i]?=some arcs[i]:=List.getElem?_eq_getElem hi
   have l1:=mF (P:=Try.prog) (ty:=42) a1 ht wA mL
   have a5:=Go.Am.mI a1 (by omega)
   obtain⟨h1,h2⟩:=hP arcs[i] (List.getElem_mem hi)
   obtain⟨T1,M2,q1,q2,q3,q4,q5,q6⟩:=rc4 q x ab ao arcs.length ac n i dV (.slice ea es.length ec) u0 u1 u2 u4 u5 arcs[i] a2 X1 a5 a3 a0 h1 (fun M1 A_ a2 X1 a3 a0 a4=>aAc a6 a2 X1 a3 a0 a4 h2) (decide_eq_true (by omega)) (by rw[Int.toNat_natCast];exact l1)
   rw[aZ (by omega)] at q2
   exact⟨(),T1,M2,q1,q2,q3,q4,q5,q6⟩)
  (by
   rintro _ M1 ⟨X1,a2,a3,a0⟩
   exact rc4x q x arcs.length ac n arcs.length aa dV u0 u1 u2 u4 u5 (M:=M1) a1.ln a0 (decide_eq_false (by omega)))
  arcs.length 0 (by omega) (s:=()) (M:=M) ⟨X0,hM,gq,gx⟩
 exact⟨M',k1,k2,k3,k4,k5⟩
theorem Ju(n:Nat)(cur:List Int)(g:List Bool): ∀k,(iO n cur g k).length<=k*(5*n)
 |0=>by simp [iO]
 |k+1=>by
  unfold iO
  have h1:=Ju n cur g k
  have h2:(cJ n cur g .out k).length<=5*n:=kP n cur g .out k n
  rw[List.length_append,Nat.succ_mul]
  omega
theorem Zz{q x rb ro rc ub uc db dc n:Nat}{qs u0 u1 u3:Value}{rank cur:List Int}{g:List Bool}{up down:List (List Int)}{M0 M:aA}(a2:aN rank (aC rb ro n rc) M0)(a5:bD up (aC ub 0 n uc) M0)(a4:bD down (aC db 0 n dc) M0)(hM:aB M)(X0:Ext M0 M)(gq:M.get q=some ⟨[i64 n,qs],26,2,0,true⟩)(gx:M.get x=some ⟨[u0,u1,aC rb ro n rc,u3,aC ub 0 n uc,aC db 0 n dc],31,6,0,true⟩)(hn60:n<=60)
  (hr: ∀v,v<n->rank[v]?=some (-1)) (hd: ∀v,v<n->down[v]?=some []) (hu: ∀v,v<n->up[v]?=some (cJ n cur g .out v)):
  ∃M',bN Try.prog [] (q6.loopAt 2) Try.f6.ntmps (fr [(5,pt q 0),(7,pt x 0),(8,i64 (((iO n cur g (0)).length:Nat):Int)),(9,i64 ((0:Nat):Int))]) M (.exit 2) (fr [(5,pt q 0),(7,pt x 0),(8,i64 (((iO n cur g n).length:Nat):Int))]) M'/\Ext M0 M'/\aB M'/\M'.get q=some ⟨[i64 n,qs],26,2,0,true⟩/\M'.get x=some ⟨[u0,u1,aC rb ro n rc,u3,aC ub 0 n uc,aC db 0 n dc],31,6,0,true⟩:=by
 have a8:ub<M0.next:=by obtain⟨E,c,blk,e1,e2,_⟩:=a5;simp only [Value.slice.injEq,Option.some.injEq,Addr.mk.injEq,and_true] at e1;rw[e1.1];exact aA.lt_of_get e2
 have a6:db<M0.next:=by obtain⟨E,c,blk,e1,e2,_⟩:=a4;simp only [Value.slice.injEq,Option.some.injEq,Addr.mk.injEq,and_true] at e1;rw[e1.1];exact aA.lt_of_get e2
 obtain⟨_,M',k1,k2,k3,k4,k5⟩:=bN.for (P:=Try.prog) (GL:= []) (b:=q6.loopAt 2) (nt:=Try.f6.ntmps) (id:=2) (σ:=Unit) (n:=n) (Inv:=fun v _ M1=>Ext M0 M1/\aB M1/\M1.get q=some ⟨[i64 n,qs],26,2,0,true⟩/\M1.get x=some ⟨[u0,u1,aC rb ro n rc,u3,aC ub 0 n uc,aC db 0 n dc],31,6,0,true⟩)
  (F:=fun v _=> [(5,pt q 0),(7,pt x 0),(8,i64 (((iO n cur g (v)).length:Nat):Int)),(9,i64 ((v:Nat):Int))]) (O:=fun _=> [(5,pt q 0),(7,pt x 0),(8,i64 (((iO n cur g n).length:Nat):Int))])
  (by
   rintro v _ M1 hv ⟨X1,a3,a0,a1⟩
   have l0:=kU (P:=Try.prog) (ty:=3) a2 (hr v hv) rfl bP
   have hrl:=aI.len_eq a2
   have a7:=Go.Am.mI a2 (by omega)
   obtain⟨wa,wc,l2,p2⟩:=tU (P:=Try.prog) (ty:=22) a5 (hu v hv) jI
   obtain⟨da,zc,l1,p1⟩:=tU (P:=Try.prog) (ty:=22) a4 (hd v hv) jI
   obtain⟨T1,q1,q2⟩:=rc2 q x rb ro rc ub uc db dc (cJ n cur g .out v).length wc zc n v wa da (((iO n cur g v).length:Nat):Int) qs u0 u1 u3 (M:=M1) X1 a7 a8 a6 p2.ln p1.ln a0 a1 hv (decide_eq_true (by omega)) (by rw[Int.toNat_natCast];exact l0) (by rw[Int.toNat_natCast];exact l1) (by rw[Int.toNat_natCast];exact l2)
   have hs:(iO n cur g (v+1)).length=(iO n cur g v).length+(cJ n cur g .out v).length:=by
    conv=>lhs;unfold iO
    rw[List.length_append]
   have hb:=Ju n cur g (v+1)
   have a9:(v+1)*(5*n)<=61*(5*60):=Nat.mul_le_mul (by omega) (by omega)
   rw[aZ (by omega),yO (by omega),<-hs] at q2
   exact⟨(),T1,M1,q1,q2,X1,a3,a0,a1⟩)
  (by
   rintro _ M1 ⟨X1,a3,a0,a1⟩
   exact rc2x q x n n _ qs (M:=M1) a0 (decide_eq_false (by omega)))
  n 0 (by omega) (s:=()) (M:=M) ⟨X0,hM,gq,gx⟩
 exact⟨M',k1,k2,k3,k4,k5⟩
end Go.Proofs.Ytdaglldahidmbaa
