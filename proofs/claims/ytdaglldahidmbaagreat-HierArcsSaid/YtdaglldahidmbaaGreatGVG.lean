/-
  Package hier: each of its laws for every argument; no conditions. The last text states which.
-/
import Derived.Test.YtdaglldahidmbaaGreatGVP4
import Derived.Test.YtdaglldahidmbaaGreatGAmMemo
import Derived.Test.YtdaglldahidmbaaGreatGAmLoop
set_option linter.unusedVariables false
set_option linter.unusedSimpArgs false
open Go Go.Am Go.Proofs Tryz
namespace Go.Proofs.YtdaglldahidmbaaGreat
set_option maxRecDepth 100000
noncomputable def oF(m:Nat):List Nat->Nat->List Value
 | [],_=> []
 |s::l,at_=>aC m at_ 0 (s+1)::oF m l (at_+s)
theorem Ej(m:Nat): ∀(l:List Nat) (a:Nat),oF m l a=(List.range l.length).map fun v=>aC m (a+dX (oS l) v) 0 (oS l v+1)
 | [],a=>rfl
 |s::l,a=>by
  rw[oF,Ej m l (a+s),List.length_cons,List.range_succ_eq_map,List.map_cons,List.map_map]
  have hs: ∀v,dX (oS (s::l)) (v+1)=s+dX (oS l) v:=fun v=>by
   induction v with
   |zero=>simp [dX,oS]
   |succ v ih=>rw[dX,ih,dX];simp [oS];omega
  refine congr (congrArg _ ?_) (List.map_congr_left fun v _=> ?_)
  ·simp [dX,oS]
  ·simp only [Function.comp,hs]
   rw[show oS (s::l) (v+1)=oS l v from by simp [oS],Nat.add_assoc]
theorem Fs(m:Nat)(l:List Nat):dQ m (oS l) (fun _=>0) l.length=oF m l 0:=by
 rw[Ej]
 unfold dQ Ah
 simp only [Nat.zero_add]
noncomputable def natV:Value->Option Nat
 | .int .i64 (.ofNat k)=>some k
 |_=>none
noncomputable def Lk:List Value->Option (List Nat)
 | []=>some []
 |v::l=>match natV v,Lk l with|some k,some r=>some (k::r)|_,_=>none
theorem Ll: ∀{l:List Value} {r:List Nat},Lk l=some r->l=r.map fun k=>i64 ((k:Nat):Int)
 | [],r,h=>by simp [Lk] at h;subst h;rfl
 |v::l,r,h=>by
  simp only [Lk] at h
  split at h
  ·rename_i k r' h1 h2
   cases h
   rw[List.map_cons,<-Ll h2]
   unfold natV at h1
   split at h1
   ·cases h1;rfl
   ·cases h1
  ·cases h
noncomputable def Ve:List Nat->Nat
 | []=>0
 |s::l=>s+Ve l
theorem Po: ∀(l:List Nat),Ve l=dX (oS l) l.length
 | []=>rfl
 |s::l=>by
  have hs: ∀v,dX (oS (s::l)) (v+1)=s+dX (oS l) v:=fun v=>by
   induction v with
   |zero=>simp [dX,oS]
   |succ v ih=>rw[dX,ih,dX];simp [oS];omega
  rw[Ve,Po l,List.length_cons,hs]
noncomputable def Nz:List Value->aB->Option (Value×aB):=fun args M=>
 match args with
 | [.slice (some ⟨a,0,none⟩) k c,.slice (some ⟨b,0,none⟩) n d]=>match M.get a,M.get b with
  |some bm,some bs=>match Lk bs.cs with
   |some sz=>bif dI bm.cs&&(Nat.beq bm.elem 3&&Nat.beq bm.esz 1&&Nat.beq bm.wf 0&&bm.app)&&Nat.beq bs.esz 1&&Nat.beq n sz.length&&Nat.beq c (k+1)&&not (Nat.beq a b)&&Nat.ble n 801&&Nat.ble k 60&&Nat.ble (Ve sz) k then
     some (aC M.next 0 n (n+1),M.mut [] [⟨oF a sz 0,22,1,0,true⟩]) else none
   |none=>none
  |_,_=>none
 |_=>none
theorem xW(ρ:mM)(m t:Nat)(h:jO ρ m=some t): ∀(l:List Nat) (a:Nat),kI ρ (oF m l a)=some (oF t l a)
 | [],_=>rfl
 |s::l,a=>by
  simp only [oF,kI,xW ρ m t h l,mL,nE,h]
theorem Cv: ∀l:List Nat,dI (l.map fun k=>i64 ((k:Nat):Int))=true
 | []=>rfl
 |s::r=>by rw[List.map_cons];simp [dI,flat,Cv r]
theorem Ws{GL:List Nat}(B:Bd):dG prog GL B 86 Nz:=dG.ofEvMut aG aF fun args M v M' hg=>by
 unfold Nz at hg
 split at hg
 ·rename_i a k c b n d
  split at hg
  ·rename_i bm bs hbm hbs
   split at hg
   ·rename_i sz hsz
    generalize hc:(dI bm.cs&&(Nat.beq bm.elem 3&&Nat.beq bm.esz 1&&Nat.beq bm.wf 0&&bm.app)&&Nat.beq bs.esz 1&&Nat.beq n sz.length&&Nat.beq c (k+1)&&not (Nat.beq a b)&&Nat.ble n 801&&Nat.ble k 60&&Nat.ble (Ve sz) k)=q at hg
    cases q with
    |false=>cases hg
    |true=>
     simp only [cond_true,Option.some.injEq,Prod.mk.injEq] at hg
     obtain⟨rfl,rfl⟩:=hg
     simp only [Bool.and_eq_true,Nat.beq_eq,Nat.ble_eq,Bool.not_eq_true'] at hc
     obtain⟨⟨⟨⟨⟨⟨⟨⟨a6,⟨⟨⟨e1,e2⟩,e3⟩,e4⟩⟩,e5⟩,rfl⟩,rfl⟩,a0⟩,a2⟩,a9⟩,a4⟩:=hc
     obtain⟨cs,el,ez,wf,ap⟩:=bm
     obtain⟨b5,a5,b6,a8,a1⟩:=bs
     simp only at e1 e2 e3 e4 e5 hsz a6
     subst e1 e2 e3 e4 e5
     have b3: ¬a=b:=fun h=>by rw[h] at a0;simp at a0
     have a3:=Ll hsz
     subst a3
     let l:List (Nat×aU):= [(0,⟨cs,3,1,0,true⟩),(1,⟨sz.map fun k=>i64 ((k:Nat):Int),a5,1,a8,a1⟩)]
     have hM:aA (cK l 2):=aA.start _ _
     have g0:(cK l 2).get 0=some ⟨cs,3,1,0,true⟩:=rfl
     have g1:(cK l 2).get 1=some ⟨sz.map fun k=>i64 ((k:Nat):Int),a5,1,a8,a1⟩:=by cases a1<;>rfl
     have hA:(gN (lX Ww vD) fun x:(Nat×Nat)×List Nat=>x.2.length<=801/\dX (oS x.2) x.2.length<=x.1.2/\x.1.2<=60) ((0,k),sz) [aC 0 0 k (k+1),aC 1 0 sz.length d] (cK l 2):=by
      refine⟨⟨_,_,rfl,⟨rfl,_,g0⟩,?_⟩,a2,by rw[<-Po];exact a4,a9⟩
      refine aJ.of_blk' g1 (by simp) ?_ (fun _ _=>rfl) (by simp only [List.length_map];omega)
      rw[xJ,List.map_map];rfl
     obtain⟨v,M1,b2,hE,⟨x',b4,hq⟩⟩:=Ye hM hA
     rw[AA.uniq b4 hA] at hq
     obtain⟨E,rfl,b0,a7⟩:=hq
     have hE2':2<=E:=b0
     rw[Fs] at a7
     have t0:jO (rC 0 [a,b]) a=some 0:=by simp [rC,jO]
     have t1:jO (rC 0 [a,b]) b=some 1:=by simp [rC,jO,a0]
     have u0:jO (pF [a,b] [0]++lS M.next [E]) 0=some a:=by simp [pF,lS,jO]
     have uE:jO (pF [a,b] [0]++lS M.next [E]) E=some M.next:=by
      have:Nat.beq 0 E=false:=by cases hh:Nat.beq 0 E with
       |false=>rfl
       |true=>have:=xBa hh;omega
      simp [pF,lS,jO,this]
     refine⟨[],[⟨oF a sz 0,22,1,0,true⟩],[a,b],l,0,Bs,[aC 0 0 k (k+1),aC 1 0 sz.length d],aC E 0 sz.length (sz.length+1),M1,[0],[E],rfl,⟨fun _=>cO.none,b2,?_,?_,?_,?_,?_,?_,?_,?_,?_,rfl,rfl,?_,?_,?_⟩⟩
     ·have b1:Nat.beq b a=false:=by cases hh:Nat.beq b a with
       |false=>rfl
       |true=>exact absurd (xBa hh).symm b3
      exact(show Go.Am.iK [a,b]=true by simp [Go.Am.iK,Qv,a0,b1])
     ·intro p hp
      simp only [l,List.mem_cons,List.not_mem_nil,or_false] at hp
      rcases hp with rfl|rfl
      ·exact⟨a,_,rfl,hbm,kJ _ _ a6,rfl⟩
      ·exact⟨b,_,rfl,hbs,kJ _ _ (Cv sz),rfl⟩
     ·simp only [kI,mL,nE,t0,t1]
     ·intro t ht hlt
      obtain⟨L,h1,h2⟩:=hE.log
      rw[h1] at ht
      have h3:=h2 t (by simpa [cK] using ht)
      have h4:t<2:=hlt
      have h5:2<=t:=h3
      omega
     ·intro j x hj
      match j,hj with
      |0,hj=>cases hj;exact(cA.1 hbm).1
      |1,hj=>cases hj;exact(cA.1 hbs).1
      |n+2,hj=>simp at hj
     ·intro x hx;cases hx
     ·intro j hj;simp at hj;subst hj;show 0<2;omega
     ·intro x y hxy;cases hxy
     ·intro i x hx
      match i,hx with
      |0,hx=>
       cases hx
       exact⟨E,_,rfl,a7,⟨[],by rw[List.append_nil];exact xW _ 0 a u0 sz 0⟩,rfl⟩
      |n+1,hx=>simp at hx
     ·intro s hs
      simp at hs;subst hs
      refine⟨by simp;omega,fun h=> ?_⟩
      have h4:s<2:=h
      omega
     ·simp only [mL,nE,uE]
     ·intro x hx;cases hx
   ·cases hg
  ·cases hg
 ·cases hg
open Tryz
noncomputable def SPG:dH:=specs [(86,Nz)]
theorem specsG(B:Bd):cO prog [] B SPG:=Vb fun p hp=>by
 simp only [List.mem_cons,List.not_mem_nil,or_false] at hp
 rcases hp with rfl
 exact Ws B
theorem Ky:(Go.Am.arun prog [] SPG 2000 8 [] zeroMem).map (·.1)=some (.bool true):=by kernel_rfl
theorem Wr(B:Bd):dG prog [] B 8 (ansNone (.bool true)):=by
 cases hk:Go.Am.arun prog [] SPG 2000 8 [] zeroMem with
 |none=>have:=Ky;rw[hk] at this;cases this
 |some r=>
  obtain⟨v,M1⟩:=r
  have:=Ky
  rw[hk] at this
  cases this
  exact dG.ansNone aG aF (fun B=>specsG B) hk rfl
end Go.Proofs.YtdaglldahidmbaaGreat
