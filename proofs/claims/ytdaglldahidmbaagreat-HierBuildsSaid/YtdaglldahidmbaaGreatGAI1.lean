/-
  Package hier: each of its laws for every argument; no conditions. The last text states which.
-/
import Derived.Test.YtdaglldahidmbaaGreatGAHL
import Derived.Test.YtdaglldahidmbaaGreatGVG
import Derived.Test.YtdaglldahidmbaaGreatGVB
set_option linter.unusedVariables false
set_option linter.unusedSimpArgs false
open Go Go.Am Go.Proofs Tryz
namespace Go.Proofs.YtdaglldahidmbaaGreat
set_option maxRecDepth 100000
def OwnE(nx:Nat)(l:List E4)(S:Value)(M:aB):Prop:=(S=dP/\l=[])\/∃b,S=aC b 0 l.length l.length/\0<l.length/\nx<=b/\M.get b=some ⟨(l.map cJ).flatten,46,4,0,true⟩
def pMkO(x:Nat×List E4)(nx:Nat)(v:Value)(M:aB):Prop:=∃S,v= .agg ⟨[i64 (x.1:Int),S]⟩/\OwnE nx x.2 S M
instance:AQ pMkO:=⟨fun hE ⟨S,h1,h2⟩=>⟨S,h1,h2.imp id fun⟨b,q1,q2,q3,q4⟩=>⟨b,q1,q2,q3,hE _ _ q4⟩⟩⟩
abbrev Q8:=FC as0 (plain pB) (fun _=>true)
theorem con8{x:Unit}{lv:List Value}{M:aB}(hM:aA M)(h:as0 x lv M):∃v M',lK prog [] 8 Q8 lv M v M':=by refine FC.con h ?_;obtain rfl:=h;exact⟨_,M,Ev.of_spec We rfl,Ext.refl M,rfl⟩
open Tryz
theorem nO(z:Int):(!(z==z))=false:=by rw[beq_self_eq_true];rfl
theorem Ct:∀l:List Int,Rg l l=true
 | []=>rfl
 |a::l=>by rw[Rg,Ct l,beq_self_eq_true];rfl
theorem Sw(l:List Int):(!(Rg l l))=false:=by rw[Ct];rfl
theorem rs15(q1 q2 ab ao ac cb co cc k i n:Nat)(x:E4){M:aB}{M0:aB}(X0:Ext M0 M)(hab:ab<M0.next)(hcb:cb<M0.next)(a3:M.get q1=some ⟨[i64 n,aC ab ao k ac],26,2,0,true⟩)(a4:M.get q2=some ⟨[i64 n,aC cb co k cc],26,2,0,true⟩)(a0:(decide ((i:Int)<(k:Int)))=true)(cc1:(Rg [x.f,x.t,x.m,x.c] [x.f,x.t,x.m,x.c])=true)(a1:bA prog 46 ⟨ab,ao+((i:Int):Int).toNat*4,none⟩ M0=some (.agg ⟨(cJ x)⟩))(a2:bA prog 46 ⟨cb,co+((i:Int):Int).toNat*4,none⟩ M0=some (.agg ⟨(cJ x)⟩)):∃T1,Rd prog [] (q23.loopAt 0) Tryz.f23.ntmps (fr [(2,(pt q1 0)),(3,(pt q2 0)),(5,(i64 (i:Int)))]) M .normal T1 M/\[2,3,5].map T1.get=[some (pt q1 0),some (pt q2 0),some (i64 (IntKind.wrap .i64 ((i:Int)+(1:Int))))]:=by exact eG 80 [aL 5 (aC ab ao k ac),aI 10,aL 14 (aC ab ao k ac),aI 18,aL 20 (.agg ⟨(cJ x)⟩),aL 24 (aC cb co k cc),aI 28,aL 30 (.agg ⟨(cJ x)⟩),aZ 32] (aD prog) (hk (lO 1 cY a3 rfl) (hk (bT a0) (hk (lO 1 cY a3 rfl) (hk (qI (i:Int) k (by omega) (by simp at a0;omega)) (hk (lD (aO X0 a1)) (hk (lO 1 cY a4 rfl) (hk (qI (i:Int) k (by omega) (by simp at a0;omega)) (hk (lD (aO X0 a2)) (hk (bF (x:=!(Rg [x.f,x.t,x.m,x.c] [x.f,x.t,x.m,x.c])) (Sw _)) hn)))))))))
theorem rs15x(q1 q2 k ac i n:Nat)(ae:Option Addr)(V2:Value){M:aB}(a2:ae.isNone=true->k=0/\ac=0)(a1:M.get q1=some ⟨[i64 n,.slice ae k ac],26,2,0,true⟩)(gq2:M.get q2=some ⟨[i64 n,V2],26,2,0,true⟩)(a0:(decide ((i:Int)<(k:Int)))=false):∃T1,Rd prog [] (q23.loopAt 0) Tryz.f23.ntmps (fr [(2,(pt q1 0)),(3,(pt q2 0)),(5,(i64 (i:Int)))]) M (.exit 0) T1 M/\[].map T1.get=[]:=by exact eG 60 [aL 5 (.slice ae k ac),aI 7,aZ 10] (aD prog) (hk (lO 1 cY a1 rfl) (hk (lN a2) (hk (bF a0) hn)))
theorem loopS{q1 q2 n:Nat}{a1 a2:Option Addr}{c1 c2:Nat}{l:List E4}{M0 M:aB}(hM:aA M)(X0:Ext M0 M)(g1:M.get q1=some ⟨[i64 n,.slice a1 l.length c1],26,2,0,true⟩)(g2:M.get q2=some ⟨[i64 n,.slice a2 l.length c2],26,2,0,true⟩)(h1:aQ l (.slice a1 l.length c1) M0)(h2:aQ l (.slice a2 l.length c2) M0):
  ∃M',bI prog [] (q23.loopAt 0) Tryz.f23.ntmps (fr [(2,pt q1 0),(3,pt q2 0),(5,i64 ((0:Nat):Int))]) M (.exit 0) (fr []) M'/\Ext M0 M'/\aA M':=by
 have hlen:=h1.len
 obtain⟨_,M',k1,k2,k3,_⟩:=bI.for (P:=prog) (GL:=[]) (b:=q23.loopAt 0) (nt:=Tryz.f23.ntmps) (id:=0) (σ:=Unit) (n:=l.length) (Inv:=fun i _ M1=>Ext M0 M1/\aA M1/\M1.get q1=some ⟨[i64 n,.slice a1 l.length c1],26,2,0,true⟩/\M1.get q2=some ⟨[i64 n,.slice a2 l.length c2],26,2,0,true⟩)
  (F:=fun i _=>[(2,pt q1 0),(3,pt q2 0),(5,i64 ((i:Nat):Int))]) (O:=fun _=>[])
  (by
   rintro i _ M1 hi ⟨X,a0,g1,g2⟩;obtain⟨bb,o,rfl,_⟩:=cN h1 (by omega);obtain⟨a3,o2,rfl,_⟩:=cN h2 (by omega);have ht:l[i]?=some l[i]:=xAe hi;have l1:=iK (P:=prog) (ty:=46) h1 ht sV mO;have l2:=iK (P:=prog) (ty:=46) h2 ht sV mO;obtain⟨T1,e1,e2⟩:=rs15 q1 q2 bb o c1 a3 o2 c2 l.length i n l[i] (M:=M1) X (Go.Am.pM h1 (by omega)) (Go.Am.pM h2 (by omega)) g1 g2 (xAb (by omega)) (Ct _) (by rw[Int.toNat_natCast];exact l1) (by rw[Int.toNat_natCast];exact l2);rw[aM (by omega)] at e2;exact⟨(),T1,M1,e1,e2,X,a0,g1,g2⟩)
  (by
   rintro _ M1 ⟨X,a0,g1,g2⟩;exact rs15x q1 q2 l.length c1 l.length n a1 (.slice a2 l.length c2) (M:=M1) h1.ln g1 g2 (xAa (by omega)))
  l.length 0 (by omega) (s:=()) (M:=M) ⟨X0,hM,g1,g2⟩
 exact⟨M',k1,k2,k3⟩
theorem rK23:Tryz.f23.results= #[.tmp 4]:=by kernel_rfl
theorem s15(n:Nat)(a1:Option Addr)(c1:Nat)(a2:Option Addr)(c2:Nat)(l:List E4){M:aB}(hM:aA M)(h1:aQ l (.slice a1 l.length c1) M)(h2:aQ l (.slice a2 l.length c2) M):∃v_ M',Ev prog [] 23 [.agg ⟨[i64 (n:Int),.slice a1 l.length c1]⟩,.agg ⟨[i64 (n:Int),.slice a2 l.length c2]⟩] M v_ M'/\Ext M M'/\aA M'/\v_= .bool true:=by obtain⟨b1,M2,b6,b7,g5,E6,b8⟩:=bG hM ⟨[i64 (n:Int),.slice a1 l.length c1],26,2,0,true⟩;have X9:=(Ext.refl M).trans E6;obtain⟨b5,b2,a0,a3,a4,a9,a7⟩:=bG b8 ⟨[i64 (n:Int),.slice a2 l.length c2],26,2,0,true⟩;have a5:=a9.old g5;have b3:=X9.trans a9;obtain⟨b0,a6,b4,a8⟩:=loopS (M0:=M) a7 b3 a5 a4 h1 h2;exact⟨.bool true,b0,kA 60 [bL 1 (pt b1 0) M2,bL 3 (pt b5 0) b2,aL 9 (i64 (n:Int)),aL 13 (i64 (n:Int)),aZ 18,aZ 20,aL 21 (.slice a1 l.length c1),aZ 22,aI 23,aZ 24,aZ 26,aL 27 (.slice a2 l.length c2),aZ 28,aI 29,aZ 30,aZ 33,aZ 34,.blk 37 [2,3,5] .normal (fr []) b0] Tryz.func23 aAn rK23 (fun B=>vA (eZ B) 0 a6) (hk (qE (fE prog 26 (.agg ⟨[i64 (n:Int),.slice a1 l.length c1]⟩)) b6 b7 (by kernel_rfl)) (hk (qE (fE prog 26 (.agg ⟨[i64 (n:Int),.slice a2 l.length c2]⟩)) a0 a3 (by kernel_rfl)) (hk (lO 0 bU a5 rfl) (hk (lO 0 bU a4 rfl) (hk (bF (x:=!((n:Int)==(n:Int))) (nO _)) (hk (bF (x:=!((n:Int)==(n:Int))) (nO _)) (hk (lO 1 cY a5 rfl) (hk (bF (x:=!((n:Int)==(n:Int))) (nO _)) (hk (lN h1.ln) (hk (bF (x:=!((n:Int)==(n:Int))) (nO _)) (hk (bF (x:=!((n:Int)==(n:Int))) (nO _)) (hk (lO 1 cY a4 rfl) (hk (bF (x:=!((n:Int)==(n:Int))) (nO _)) (hk (lN h2.ln) (hk (bF (x:=!((n:Int)==(n:Int))) (nO _)) (hk (bF (x:=!((n:Int)==(n:Int))) (nO _)) (hk (bF (x:=!((l.length:Int)==(l.length:Int))) (nO _)) (hk (eA (id:=0) rfl) hn)))))))))))))))))) (tb:=[0]) (hB:=fun _ h=>bQ h),b4,a8,rfl⟩
abbrev Q23:=FC (hJ (lT jA jA) fun x=>x.1=x.2) (plain pB) (fun _=>true)
theorem con23{x:(Nat×List E4)×(Nat×List E4)}{lv:List Value}{M:aB}(hM:aA M)(h:(hJ (lT jA jA) fun x:(Nat×List E4)×(Nat×List E4)=>x.1=x.2) x lv M):∃v M',lK prog [] 23 Q23 lv M v M':=by refine FC.con h ?_;obtain⟨⟨g0,g1,rfl,k0,k1⟩,he⟩:=h;obtain⟨⟨n,l⟩,y⟩:=x;obtain rfl:(n,l)=y:=he;obtain⟨_,rfl,k0⟩:=k0;obtain⟨_,rfl,k1⟩:=k1;obtain⟨a1,c1,rfl⟩:=aG.form k0;obtain⟨a2,c2,rfl⟩:=aG.form k1;obtain⟨v,M',h1,h2,_,h3⟩:=s15 n a1 c1 a2 c2 l hM k0 k1;exact⟨v,M',h1,h2,h3⟩
end Go.Proofs.YtdaglldahidmbaaGreat
