/-
  Package hier: each of its laws for every argument; no conditions. The last text states which.
-/
import Derived.Test.YtdaglldahidmbaaGVP4
import Derived.Test.YtdaglldahidmbaaGAmMemo
import Derived.Test.YtdaglldahidmbaaGAmLoop
set_option linter.unusedVariables false
set_option linter.unusedSimpArgs false
open Go Go.Am Go.Proofs
namespace Go.Proofs.Ytdaglldahidmbaa
set_option maxRecDepth 100000
noncomputable def oB(m:Nat):List Nat->Nat->List Value
 | [],_=> []
 |s::l,at_=>aC m at_ 0 (s+1)::oB m l (at_+s)
theorem Ee(m:Nat): ∀(l:List Nat) (a:Nat),oB m l a=(List.range l.length).map fun v=>aC m (a+dS (oN l) v) 0 (oN l v+1)
 | [],a=>rfl
 |s::l,a=>by
  rw[oB,Ee m l (a+s),List.length_cons,List.range_succ_eq_map,List.map_cons,List.map_map]
  have hs: ∀v,dS (oN (s::l)) (v+1)=s+dS (oN l) v:=fun v=>by
   induction v with
   |zero=>simp [dS,oN]
   |succ v ih=>rw[dS,ih,dS];simp [oN];omega
  refine congr (congrArg _ ?_) (List.map_congr_left fun v _=> ?_)
  ·simp [dS,oN]
  ·simp only [Function.comp,hs]
   rw[show oN (s::l) (v+1)=oN l v from by simp [oN],Nat.add_assoc]
theorem Fp(m:Nat)(l:List Nat):dN m (oN l) (fun _=>0) l.length=oB m l 0:=by
 rw[Ee]
 unfold dN Aa
 simp only [Nat.zero_add]
noncomputable def natV:Value->Option Nat
 | .int .i64 (.ofNat k)=>some k
 |_=>none
noncomputable def Lc:List Value->Option (List Nat)
 | []=>some []
 |v::l=>match natV v,Lc l with|some k,some r=>some (k::r)|_,_=>none
theorem Ld: ∀{l:List Value} {r:List Nat},Lc l=some r->l=r.map fun k=>i64 ((k:Nat):Int)
 | [],r,h=>by simp [Lc] at h;subst h;rfl
 |v::l,r,h=>by
  simp only [Lc] at h
  split at h
  ·rename_i k r' h1 h2
   cases h
   rw[List.map_cons,<-Ld h2]
   unfold natV at h1
   split at h1
   ·cases h1;rfl
   ·cases h1
  ·cases h
noncomputable def Uq:List Nat->Nat
 | []=>0
 |s::l=>s+Uq l
theorem Pi: ∀(l:List Nat),Uq l=dS (oN l) l.length
 | []=>rfl
 |s::l=>by
  have hs: ∀v,dS (oN (s::l)) (v+1)=s+dS (oN l) v:=fun v=>by
   induction v with
   |zero=>simp [dS,oN]
   |succ v ih=>rw[dS,ih,dS];simp [oN];omega
  rw[Uq,Pi l,List.length_cons,hs]
noncomputable def Nq:List Value->aA->Option (Value×aA):=fun args M=>
 match args with
 | [.slice (some ⟨a,0,none⟩) k c,.slice (some ⟨b,0,none⟩) n d]=>match M.get a,M.get b with
  |some bm,some bs=>match Lc bs.cs with
   |some sz=>bif dD bm.cs&&(Nat.beq bm.elem 3&&Nat.beq bm.esz 1&&Nat.beq bm.wf 0&&bm.app)&&Nat.beq bs.esz 1&&Nat.beq n sz.length&&Nat.beq c (k+1)&&not (Nat.beq a b)&&Nat.ble n 801&&Nat.ble k 60&&Nat.ble (Uq sz) k then
     some (aC M.next 0 n (n+1),M.mut [] [⟨oB a sz 0,22,1,0,true⟩]) else none
   |none=>none
  |_,_=>none
 |_=>none
theorem xP(ρ:mI)(m t:Nat)(h:jM ρ m=some t): ∀(l:List Nat) (a:Nat),kE ρ (oB m l a)=some (oB t l a)
 | [],_=>rfl
 |s::l,a=>by
  simp only [oB,kE,xP ρ m t h l,mH,mY,h]
theorem Cq: ∀l:List Nat,dD (l.map fun k=>i64 ((k:Nat):Int))=true
 | []=>rfl
 |s::r=>by rw[List.map_cons];simp [dD,flat,Cq r]
theorem Wg{GL:List Nat}(B:Bd):dC Try.prog GL B 74 Nq:=dC.ofEvMut aG aF fun args M v M' hg=>by
 unfold Nq at hg
 split at hg
 ·rename_i a k c b n d
  split at hg
  ·rename_i bm bs hbm hbs
   split at hg
   ·rename_i sz hsz
    generalize hc:(dD bm.cs&&(Nat.beq bm.elem 3&&Nat.beq bm.esz 1&&Nat.beq bm.wf 0&&bm.app)&&Nat.beq bs.esz 1&&Nat.beq n sz.length&&Nat.beq c (k+1)&&not (Nat.beq a b)&&Nat.ble n 801&&Nat.ble k 60&&Nat.ble (Uq sz) k)=q at hg
    cases q with
    |false=>cases hg
    |true=>
     simp only [cond_true,Option.some.injEq,Prod.mk.injEq] at hg
     obtain⟨rfl,rfl⟩:=hg
     simp only [Bool.and_eq_true,Nat.beq_eq,Nat.ble_eq,Bool.not_eq_true'] at hc
     obtain⟨⟨⟨⟨⟨⟨⟨⟨a6,⟨⟨⟨e1,e2⟩,e3⟩,e4⟩⟩,e5⟩,rfl⟩,rfl⟩,a0⟩,a2⟩,a9⟩,a4⟩:=hc
     obtain⟨cs,el,ez,wf,ap⟩:=bm
     obtain⟨b5,a5,b6,a8,a1⟩:=bs
     simp only at e1 e2 e3 e4 e5 hsz a6
     subst e1 e2 e3 e4 e5
     have b3: ¬a=b:=fun h=>by rw[h] at a0;simp at a0
     have a3:=Ld hsz
     subst a3
     let l:List (Nat×aQ):= [(0,⟨cs,3,1,0,true⟩),(1,⟨sz.map fun k=>i64 ((k:Nat):Int),a5,1,a8,a1⟩)]
     have hM:aB (cJ l 2):=aB.start _ _
     have g0:(cJ l 2).get 0=some ⟨cs,3,1,0,true⟩:=rfl
     have g1:(cJ l 2).get 1=some ⟨sz.map fun k=>i64 ((k:Nat):Int),a5,1,a8,a1⟩:=by cases a1<;>rfl
     have hA:(hZ (mU Wj uV) fun x:(Nat×Nat)×List Nat=>x.2.length<=801/\dS (oN x.2) x.2.length<=x.1.2/\x.1.2<=60) ((0,k),sz) [aC 0 0 k (k+1),aC 1 0 sz.length d] (cJ l 2):=by
      refine⟨⟨_,_,rfl,⟨rfl,_,g0⟩,?_⟩,a2,by rw[<-Pi];exact a4,a9⟩
      refine aH.of_blk' g1 (by simp) ?_ (fun _ _=>rfl) (by simp only [List.length_map];omega)
      rw[Ac,List.map_map];rfl
     obtain⟨v,M1,b2,hE,⟨x',b4,hq⟩⟩:=Xo hM hA
     rw[AA.uniq b4 hA] at hq
     obtain⟨E,rfl,b0,a7⟩:=hq
     have hE2':2<=E:=b0
     rw[Fp] at a7
     have t0:jM (qY 0 [a,b]) a=some 0:=by simp [qY,jM]
     have t1:jM (qY 0 [a,b]) b=some 1:=by simp [qY,jM,a0]
     have u0:jM (oZ [a,b] [0]++lI M.next [E]) 0=some a:=by simp [oZ,lI,jM]
     have uE:jM (oZ [a,b] [0]++lI M.next [E]) E=some M.next:=by
      have:Nat.beq 0 E=false:=by cases hh:Nat.beq 0 E with
       |false=>rfl
       |true=>have:=Nat.eq_of_beq_eq_true hh;omega
      simp [oZ,lI,jM,this]
     refine⟨[],[⟨oB a sz 0,22,1,0,true⟩],[a,b],l,0,Bn,[aC 0 0 k (k+1),aC 1 0 sz.length d],aC E 0 sz.length (sz.length+1),M1,[0],[E],rfl,⟨fun _=>cP.none,b2,?_,?_,?_,?_,?_,?_,?_,?_,?_,rfl,rfl,?_,?_,?_⟩⟩
     ·have b1:Nat.beq b a=false:=by cases hh:Nat.beq b a with
       |false=>rfl
       |true=>exact absurd (Nat.eq_of_beq_eq_true hh).symm b3
      exact(show Go.Am.iJ [a,b]=true by simp [Go.Am.iJ,Qp,a0,b1])
     ·intro p hp
      simp only [l,List.mem_cons,List.not_mem_nil,or_false] at hp
      rcases hp with rfl|rfl
      ·exact⟨a,_,rfl,hbm,kF _ _ a6,rfl⟩
      ·exact⟨b,_,rfl,hbs,kF _ _ (Cq sz),rfl⟩
     ·simp only [kE,mH,mY,t0,t1]
     ·intro t ht hlt
      obtain⟨L,h1,h2⟩:=hE.log
      rw[h1] at ht
      have h3:=h2 t (by simpa [cJ] using ht)
      have h4:t<2:=hlt
      have h5:2<=t:=h3
      omega
     ·intro j x hj
      match j,hj with
      |0,hj=>cases hj;exact(bX.1 hbm).1
      |1,hj=>cases hj;exact(bX.1 hbs).1
      |n+2,hj=>simp at hj
     ·intro x hx;cases hx
     ·intro j hj;simp at hj;subst hj;show 0<2;omega
     ·intro x y hxy;cases hxy
     ·intro i x hx
      match i,hx with
      |0,hx=>
       cases hx
       exact⟨E,_,rfl,a7,⟨[],by rw[List.append_nil];exact xP _ 0 a u0 sz 0⟩,rfl⟩
      |n+1,hx=>simp at hx
     ·intro s hs
      simp at hs;subst hs
      refine⟨by simp;omega,fun h=> ?_⟩
      have h4:s<2:=h
      omega
     ·simp only [mH,mY,uE]
     ·intro x hx;cases hx
   ·cases hg
  ·cases hg
 ·cases hg
noncomputable def SPG:dG:=specs [(74,Nq)]
theorem specsG(B:Bd):cP Try.prog [] B SPG:=Um fun p hp=>by
 simp only [List.mem_cons,List.not_mem_nil,or_false] at hp
 rcases hp with rfl
 exact Wg B
theorem Kq:(Go.Am.arun Try.prog [] SPG 2000 9 [] zeroMem).map (·.1)=some (.bool true):=by kernel_rfl
theorem Wf(B:Bd):dC Try.prog [] B 9 (ansNone (.bool true)):=by
 cases hk:Go.Am.arun Try.prog [] SPG 2000 9 [] zeroMem with
 |none=>have:=Kq;rw[hk] at this;cases this
 |some r=>
  obtain⟨v,M1⟩:=r
  have:=Kq
  rw[hk] at this
  cases this
  exact dC.ansNone aG aF (fun B=>specsG B) hk rfl
end Go.Proofs.Ytdaglldahidmbaa
