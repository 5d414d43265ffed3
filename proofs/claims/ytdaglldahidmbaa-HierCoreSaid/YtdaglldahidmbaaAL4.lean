/-
  Package hier: each of its laws for every argument; no conditions. The last text states which.
-/
import Derived.Test.YtdaglldahidmbaaGAL1
import Derived.Test.YtdaglldahidmbaaAmA2
set_option linter.unusedVariables false
set_option linter.unusedSimpArgs false
open Go Go.Am Go.Proofs
namespace Go.Proofs.Ytdaglldahidmbaa
set_option maxRecDepth 100000
theorem rcA(q n i:Nat)(S:Value)(l:List E4){M M0:aA}(hM:aB M)(X0:Ext M0 M)(nq:M0.next<=q)(gq:M.get q=some ⟨[i64 n,S],26,2,0,true⟩)(hA:cX 37 4 M0 [q] l.length ((l.map bJ).flatten) S M)(hl30:l.length<1000000)(b7:(decide ((i:Int)<(n:Int)))=true): ∃T1 M' a0,Rd Try.prog [] (q6.loopAt 0) Try.f6.ntmps (fr [(5,(pt q 0)),(6,(i64 (i:Int)))]) M .normal T1 M'/\ [5,6].map T1.get= [some (pt q 0),some (i64 (IntKind.wrap .i64 ((i:Int)+(1:Int))))]/\Ext M0 M'/\aB M'/\M'.get q=some ⟨[i64 (n:Int),a0],26,2,0,true⟩/\cX 37 4 M0 [q] (l.length+2) ((l.map bJ).flatten++(([⟨(i:Int),(i:Int),0,0⟩,⟨(i:Int),(i:Int),1,0⟩]:List E4).map bJ).flatten) a0 M':=by
 obtain⟨b1,M2,a3,b9,g5,E6,c2⟩:=bE hM ⟨[i64 (i:Int),i64 (i:Int),i64 0,i64 0,i64 (i:Int),i64 (i:Int),i64 1,i64 0],37,4,0,true⟩
 have c5:=mT a3 X0
 have b8:=fV gq a3
 have A8:=hA.new a3 E6
 have g9:=E6.old gq
 have b4:=X0.trans E6
 have a6:aI bJ 4 M2 (.slice (some ⟨b1,0,none⟩) 2 3) ([⟨(i:Int),(i:Int),0,0⟩,⟨(i:Int),(i:Int),1,0⟩]:List E4):=aI.of_blk' g5 rfl rfl (fun _ _=>rfl) (by simp)
 obtain⟨a4,a0,a5,c4,b5,a7,a1,b0⟩:=Qf (P:=Try.prog) (sT:=24) (xT:=24) (y:=32) A8 b4 c2 (by intro x hx;simp only [List.mem_cons,List.not_mem_nil,or_false] at hx;rcases hx with rfl|rfl<;>first|exact aA.lt_of_get g5|exact aA.lt_of_get g9) (by kernel_rfl) (by kernel_rfl) (by kernel_rfl) (by kernel_rfl) (by decide) a6 (by simp) (by simp only [List.length_cons,List.length_nil];omega)
 have c0:=b0 _ _ g9 (by simp)
 obtain⟨a2,q24,c1,b2,b6,a8,c3⟩:=aY (o:=1) (v:=a0) (new:= [i64 (n:Int),a0]) b5 nq a7 Ny c0 (by rw[cC a1.isCell];rfl) (by rw[cC a1.isCell];show(isCell _&&true)=true;rw[a1.isCell];rfl) (Nat.zero_le _) (Nat.le_of_ble_eq_true rfl) (by rw[cC a1.isCell];rfl)
 have b3:=a1.keep (by simp) (fun id h _=>b2 id h)
 have a9:oR Try.prog [] 100 Try.f6 (q6.loopAt 0) [(5,(pt q 0)),(6,(i64 (i:Int)))] M [aQ 5 (i64 (n:Int)),aL 8,aQ 12 S,bL 26 (aC b1 0 2 3) M2,.at 28 ((bif a4 then 1 else 2),.val a0,a5),jE 32 a2] [5,6]=some (.normal,[some (pt q 0),some (i64 (IntKind.wrap .i64 ((i:Int)+(1:Int))))],a2,[qL 3 q 0 M (i64 (n:Int)),qT (decide ((i:Int)<(n:Int))),qL 24 q 1 M S,.eq (bK Try.prog 24 2 [(0,(.agg ⟨[i64 (i:Int),i64 (i:Int),i64 0,i64 0]⟩)),(1,(.agg ⟨[i64 (i:Int),i64 (i:Int),i64 1,i64 0]⟩))] M) (1,.val (aC b1 0 2 3),M2),.q (.append [24,24] S (aC b1 0 2 3) M2) ((bif a4 then 1 else 2),.val a0,a5),qS 24 q 1 a0 a5 a2]):=by cases a4<;>kernel_rfl
 obtain⟨T1,h1,h2⟩:=Rd.told aF aE (aH Try.prog) (fun _ _=>rfl) a9 (hk (lC bP gq rfl) (hk (bT b7) (hk (lC kB gq rfl) (hk (bR (by rw[<-a3,<-b9];kernel_rfl) Nat.one_ne_zero) (hk (lT c4 (by cases a4<;>simp)) (hk (dA q24) hn))))))
 exact⟨T1,a2,a0,h1,h2,b6,a8,c1,b3.less (by simp)⟩
theorem rcAx(q n i:Nat)(S:Value){M:aA}(gq:M.get q=some ⟨[i64 n,S],26,2,0,true⟩)(a0:(decide ((i:Int)<(n:Int)))=false): ∃T1,Rd Try.prog [] (q6.loopAt 0) Try.f6.ntmps (fr [(5,(pt q 0)),(6,(i64 (i:Int)))]) M (.exit 0) T1 M/\ [5].map T1.get= [some (pt q 0)]:=by
 exact Rd.told (tb:=[]) (n:=60) (F:=[aQ 5 (i64 (n:Int)),aP 8]) aF aE (aH Try.prog) (fun _ _=>rfl) (by kernel_rfl) (hk (lO 0 bP gq rfl) (hk (bF a0) hn))
theorem aAb{q n:Nat}{S:Value}{L:List E4}{M0 M:aA}(hM:aB M)(X0:Ext M0 M)(nq:M0.next<=q)(gq:M.get q=some ⟨[i64 n,S],26,2,0,true⟩)(hA:cX 37 4 M0 [q] L.length ((L.map bJ).flatten) S M)(hl:L.length+2*n<=400)(hn:n<=60):
  ∃S' M',bN Try.prog [] (q6.loopAt 0) Try.f6.ntmps (fr [(5,pt q 0),(6,i64 ((0:Nat):Int))]) M (.exit 0) (fr [(5,pt q 0)]) M'/\Ext M0 M'/\aB M'/\M'.get q=some ⟨[i64 n,S'],26,2,0,true⟩/\cX 37 4 M0 [q] (L.length+2*(n)) (((L++cI (n)).map bJ).flatten) S' M':=by
 obtain⟨S',M',k1,k2,k3,k4,k5⟩:=bN.for (P:=Try.prog) (GL:= []) (b:=q6.loopAt 0) (nt:=Try.f6.ntmps) (id:=0) (σ:=Value) (n:=n) (Inv:=fun i S M1=>Ext M0 M1/\aB M1/\M1.get q=some ⟨[i64 n,S],26,2,0,true⟩/\cX 37 4 M0 [q] (L.length+2*(i)) (((L++cI (i)).map bJ).flatten) S M1)
  (F:=fun i _=> [(5,pt q 0),(6,i64 ((i:Nat):Int))]) (O:=fun _=> [(5,pt q 0)])
  (by
   rintro i S M1 hi ⟨X1,a3,a1,a2⟩
   have a0:(L++cI i).length=L.length+2*i:=by rw[List.length_append,rD]
   obtain⟨T1,M2,S2,q1,q2,q3,q4,q5,q6⟩:=rcA q n i S (L++cI i) a3 X1 nq a1 (by rw[a0];exact a2) (by omega) (decide_eq_true (by omega))
   rw[aZ (by omega)] at q2
   refine⟨S2,T1,M2,q1,q2,q3,q4,q5,?_⟩
   have e1:(L++cI i).length+2=L.length+2*(i+1):=by omega
   have e2:((L++cI (i+1)).map bJ).flatten=((L++cI i).map bJ).flatten++(([⟨(i:Int),(i:Int),0,0⟩,⟨(i:Int),(i:Int),1,0⟩]:List E4).map bJ).flatten:=by
    conv=>lhs;unfold cI
    rw[<-List.append_assoc,List.map_append,List.flatten_append]
   rw[e2,<-e1]
   exact q6)
  (by
   rintro S M1 ⟨X1,a3,a1,a2⟩
   exact rcAx q n n S (M:=M1) a1 (decide_eq_false (by omega)))
  n 0 (by omega) (s:=S) (M:=M) ⟨X0,hM,gq,by simpa [cI] using hA⟩
 exact⟨S',M',k1,k2,k3,k4,k5⟩
end Go.Proofs.Ytdaglldahidmbaa
