/-
  Package hier: each of its laws for every argument; no conditions. The last text states which.
-/
import Derived.Test.YtdaglldahidmbaaGreatGVP4
import Derived.Test.YtdaglldahidmbaaGreatGAmMemo
import Derived.Test.YtdaglldahidmbaaGreatGAmLoop
set_option linter.unusedVariables false
set_option linter.unusedSimpArgs false
open Go Go.Am Go.Proofs Tryz
namespace Go.Proofs.YtdaglldahidmbaaGreat
set_option maxRecDepth 100000
noncomputable def oI(m:Nat):List Nat->Nat->List Value
 | [],_=>[]
 |s::l,at_=>aC m at_ 0 (s+1)::oI m l (at_+s)
theorem Ee(m:Nat):∀(l:List Nat) (a:Nat),oI m l a=(List.range l.length).map fun v=>aC m (a+eD (oX l) v) 0 (oX l v+1)
 | [],a=>rfl
 |s::l,a=>by
  rw[oI,Ee m l (a+s),List.length_cons,List.range_succ_eq_map,List.map_cons,List.map_map];have hs:∀v,eD (oX (s::l)) (v+1)=s+eD (oX l) v:=fun v=>by
   induction v with
   |zero=>simp [eD,oX]
   |succ v ih=>rw[eD,ih,eD];simp [oX];omega
  refine congr (congrArg _ ?_) (List.map_congr_left fun v _=>?_)
  ·simp [eD,oX]
  ·simp only [Function.comp,hs];rw[show oX (s::l) (v+1)=oX l v from by simp [oX],Nat.add_assoc]
theorem Fl(m:Nat)(l:List Nat):dZ m (oX l) (fun _=>0) l.length=oI m l 0:=by rw[Ee];unfold dZ Af;simp only [Nat.zero_add]
noncomputable def natV:Value->Option Nat
 | .int .i64 (.ofNat k)=>some k
 |_=>none
noncomputable def Ky:List Value->Option (List Nat)
 | []=>some []
 |v::l=>match natV v,Ky l with|some k,some r=>some (k::r)|_,_=>none
theorem Kz:∀{l:List Value} {r:List Nat},Ky l=some r->l=r.map fun k=>i64 ((k:Nat):Int)
 | [],r,h=>by simp [Ky] at h;subst h;rfl
 |v::l,r,h=>by
  simp only [Ky] at h;split at h
  ·rename_i k r' h1 h2;cases h;rw[List.map_cons,<-Kz h2];unfold natV at h1;split at h1
   ·cases h1;rfl
   ·cases h1
  ·cases h
noncomputable def Ux:List Nat->Nat
 | []=>0
 |s::l=>s+Ux l
theorem Ph:∀(l:List Nat),Ux l=eD (oX l) l.length
 | []=>rfl
 |s::l=>by
  have hs:∀v,eD (oX (s::l)) (v+1)=s+eD (oX l) v:=fun v=>by
   induction v with
   |zero=>simp [eD,oX]
   |succ v ih=>rw[eD,ih,eD];simp [oX];omega
  rw[Ux,Ph l,List.length_cons,hs]
noncomputable def Nn:List Value->aB->Option (Value×aB):=fun args M=>
 match args with
 | [.slice (some ⟨a,0,none⟩) k c,.slice (some ⟨b,0,none⟩) n d]=>match M.get a,M.get b with
  |some bm,some bs=>match Ky bs.cs with
   |some sz=>bif dU bm.cs&&(Nat.beq bm.elem 3&&Nat.beq bm.esz 1&&Nat.beq bm.wf 0&&bm.app)&&Nat.beq bs.esz 1&&Nat.beq n sz.length&&Nat.beq c (k+1)&&not (Nat.beq a b)&&Nat.ble n 801&&Nat.ble k 60&&Nat.ble (Ux sz) k then
     some (aC M.next 0 n (n+1),M.mut [] [⟨oI a sz 0,22,1,0,true⟩]) else none
   |none=>none
  |_,_=>none
 |_=>none
theorem xX(ρ:mQ)(m t:Nat)(h:jV ρ m=some t):∀(l:List Nat) (a:Nat),kV ρ (oI m l a)=some (oI t l a)
 | [],_=>rfl
 |s::l,a=>by
  simp only [oI,kV,xX ρ m t h l,mP,nH,h]
theorem Cu:∀l:List Nat,dU (l.map fun k=>i64 ((k:Nat):Int))=true
 | []=>rfl
 |s::r=>by rw[List.map_cons];simp [dU,flat,Cu r]
theorem Wf{GL:List Nat}(B:Bd):dR prog GL B 86 Nn:=dR.ofEvMut gW gV fun args M v M' hg=>by
 unfold Nn at hg;split at hg
 ·rename_i a k c b n d;split at hg
  ·rename_i bm bs hbm hbs;split at hg
   ·rename_i sz hsz;generalize hc:(dU bm.cs&&(Nat.beq bm.elem 3&&Nat.beq bm.esz 1&&Nat.beq bm.wf 0&&bm.app)&&Nat.beq bs.esz 1&&Nat.beq n sz.length&&Nat.beq c (k+1)&&not (Nat.beq a b)&&Nat.ble n 801&&Nat.ble k 60&&Nat.ble (Ux sz) k)=q at hg;cases q with
    |false=>cases hg
    |true=>
     simp only [cond_true,Option.some.injEq,Prod.mk.injEq] at hg
     obtain⟨rfl,rfl⟩:=hg
     simp only [Bool.and_eq_true,Nat.beq_eq,Nat.ble_eq,Bool.not_eq_true'] at hc
     obtain⟨⟨⟨⟨⟨⟨⟨⟨a6,⟨⟨⟨e1,e2⟩,e3⟩,e4⟩⟩,e5⟩,rfl⟩,rfl⟩,a0⟩,a2⟩,a9⟩,a4⟩:=hc
     obtain⟨cs,el,ez,wf,ap⟩:=bm
     obtain⟨b5,a5,b6,a8,a1⟩:=bs
     simp only at e1 e2 e3 e4 e5 hsz a6
     subst e1 e2 e3 e4 e5
     have b3:¬a=b:=fun h=>by rw[h] at a0;simp at a0
     have a3:=Kz hsz
     subst a3
     let l:List (Nat×aR):=[(0,⟨cs,3,1,0,true⟩),(1,⟨sz.map fun k=>i64 ((k:Nat):Int),a5,1,a8,a1⟩)]
     have hM:aA (cR l 2):=aA.start _ _
     have g0:(cR l 2).get 0=some ⟨cs,3,1,0,true⟩:=rfl
     have g1:(cR l 2).get 1=some ⟨sz.map fun k=>i64 ((k:Nat):Int),a5,1,a8,a1⟩:=by cases a1<;>rfl
     have hA:(hJ (lT Wi vL) fun x:(Nat×Nat)×List Nat=>x.2.length<=801/\eD (oX x.2) x.2.length<=x.1.2/\x.1.2<=60) ((0,k),sz) [aC 0 0 k (k+1),aC 1 0 sz.length d] (cR l 2):=by
      refine⟨⟨_,_,rfl,⟨rfl,_,g0⟩,?_⟩,a2,by rw[<-Ph];exact a4,a9⟩;refine aG.of_blk' g1 (by simp) ?_ (fun _ _=>rfl) (by simp only [List.length_map];omega);rw[vG,List.map_map];rfl
     obtain⟨v,M1,b2,hE,⟨x',b4,hq⟩⟩:=Xm hM hA
     rw[AA.uniq b4 hA] at hq
     obtain⟨E,rfl,b0,a7⟩:=hq
     have hE2':2<=E:=b0
     rw[Fl] at a7
     have t0:jV (rH 0 [a,b]) a=some 0:=by simp [rH,jV]
     have t1:jV (rH 0 [a,b]) b=some 1:=by simp [rH,jV,a0]
     have u0:jV (pH [a,b] [0]++lX M.next [E]) 0=some a:=by simp [pH,lX,jV]
     have uE:jV (pH [a,b] [0]++lX M.next [E]) E=some M.next:=by
      have:Nat.beq 0 E=false:=by cases hh:Nat.beq 0 E with
       |false=>rfl
       |true=>have:=xBa hh;omega
      simp [pH,lX,jV,this]
     refine⟨[],[⟨oI a sz 0,22,1,0,true⟩],[a,b],l,0,Bp,[aC 0 0 k (k+1),aC 1 0 sz.length d],aC E 0 sz.length (sz.length+1),M1,[0],[E],rfl,⟨fun _=>cS.none,b2,?_,?_,?_,?_,?_,?_,?_,?_,?_,rfl,rfl,?_,?_,?_⟩⟩
     ·have b1:Nat.beq b a=false:=by cases hh:Nat.beq b a with
       |false=>rfl
       |true=>exact absurd (xBa hh).symm b3
      exact(show Go.Am.iR [a,b]=true by simp [Go.Am.iR,Qm,a0,b1])
     ·intro p hp;simp only [l,List.mem_cons,List.not_mem_nil,or_false] at hp;rcases hp with rfl|rfl
      ·exact⟨a,_,rfl,hbm,kW _ _ a6,rfl⟩
      ·exact⟨b,_,rfl,hbs,kW _ _ (Cu sz),rfl⟩
     ·simp only [kV,mP,nH,t0,t1]
     ·intro t ht hlt;obtain⟨L,h1,h2⟩:=hE.log;rw[h1] at ht;have h3:=h2 t (by simpa [cR] using ht);have h4:t<2:=hlt;have h5:2<=t:=h3;omega
     ·intro j x hj;match j,hj with
      |0,hj=>cases hj;exact(cB.1 hbm).1
      |1,hj=>cases hj;exact(cB.1 hbs).1
      |n+2,hj=>simp at hj
     ·intro x hx;cases hx
     ·intro j hj;simp at hj;subst hj;show 0<2;omega
     ·intro x y hxy;cases hxy
     ·intro i x hx;match i,hx with
      |0,hx=>
       cases hx
       exact⟨E,_,rfl,a7,⟨[],by rw[List.append_nil];exact xX _ 0 a u0 sz 0⟩,rfl⟩
      |n+1,hx=>simp at hx
     ·intro s hs;simp at hs;subst hs;refine⟨by simp;omega,fun h=>?_⟩;have h4:s<2:=h;omega
     ·simp only [mP,nH,uE]
     ·intro x hx;cases hx
   ·cases hg
  ·cases hg
 ·cases hg
open Tryz
noncomputable def SPG:dC:=specs [(86,Nn)]
theorem specsG(B:Bd):cS prog [] B SPG:=Uu fun p hp=>by
 simp only [List.mem_cons,List.not_mem_nil,or_false] at hp;rcases hp with rfl;exact Wf B
theorem Ko:(Go.Am.arun prog [] SPG 2000 8 [] zeroMem).map (·.1)=some (.bool true):=by kernel_rfl
theorem We(B:Bd):dR prog [] B 8 (ansNone (.bool true)):=by
 cases hk:Go.Am.arun prog [] SPG 2000 8 [] zeroMem with
 |none=>have:=Ko;rw[hk] at this;cases this
 |some r=>
  obtain⟨v,M1⟩:=r
  have:=Ko
  rw[hk] at this
  cases this
  exact dR.ansNone gW gV (fun B=>specsG B) hk rfl
end Go.Proofs.YtdaglldahidmbaaGreat
