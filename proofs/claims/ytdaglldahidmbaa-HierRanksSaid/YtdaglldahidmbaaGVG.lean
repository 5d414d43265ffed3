/-
  Package hier: each of its laws for every argument; no conditions. The last text states which.
-/
import Derived.Test.YtdaglldahidmbaaGVP4
import Derived.Test.YtdaglldahidmbaaGAmMemo
import Derived.Test.YtdaglldahidmbaaGAmLoop
set_option linter.unusedVariables false
set_option linter.unusedSimpArgs false
open Go Go.Am Go.Proofs
namespace Go.Proofs.Ytdaglldahidmbaa
set_option maxRecDepth 100000
noncomputable def nE(m:Nat):List Nat->Nat->List Value
 | [],_=> []
 |s::l,at_=>aD m at_ 0 (s+1)::nE m l (at_+s)
theorem Cp(m:Nat): ∀(l:List Nat) (a:Nat),nE m l a=(List.range l.length).map fun v=>aD m (a+dN (nV l) v) 0 (nV l v+1)
 | [],a=>rfl
 |s::l,a=>by
  rw[nE,Cp m l (a+s),List.length_cons,List.range_succ_eq_map,List.map_cons,List.map_map]
  have hs: ∀v,dN (nV (s::l)) (v+1)=s+dN (nV l) v:=fun v=>by
   induction v with
   |zero=>simp [dN,nV]
   |succ v ih=>rw[dN,ih,dN];simp [nV];omega
  refine congr (congrArg _ ?_) (List.map_congr_left fun v _=> ?_)
  ·simp [dN,nV]
  ·simp only [Function.comp,hs]
   rw[show nV (s::l) (v+1)=nV l v from by simp [nV],Nat.add_assoc]
theorem Dv(m:Nat)(l:List Nat):dG m (nV l) (fun _=>0) l.length=nE m l 0:=by
 rw[Cp]
 unfold dG yO
 simp only [Nat.zero_add]
noncomputable def natV:Value->Option Nat
 | .int .i64 (.ofNat k)=>some k
 |_=>none
noncomputable def Jc:List Value->Option (List Nat)
 | []=>some []
 |v::l=>match natV v,Jc l with|some k,some r=>some (k::r)|_,_=>none
theorem Jd: ∀{l:List Value} {r:List Nat},Jc l=some r->l=r.map fun k=>i64 ((k:Nat):Int)
 | [],r,h=>by simp [Jc] at h;subst h;rfl
 |v::l,r,h=>by
  simp only [Jc] at h
  split at h
  ·rename_i k r' h1 h2
   cases h
   rw[List.map_cons,<-Jd h2]
   unfold natV at h1
   split at h1
   ·cases h1;rfl
   ·cases h1
  ·cases h
noncomputable def Rr:List Nat->Nat
 | []=>0
 |s::l=>s+Rr l
theorem Mt: ∀(l:List Nat),Rr l=dN (nV l) l.length
 | []=>rfl
 |s::l=>by
  have hs: ∀v,dN (nV (s::l)) (v+1)=s+dN (nV l) v:=fun v=>by
   induction v with
   |zero=>simp [dN,nV]
   |succ v ih=>rw[dN,ih,dN];simp [nV];omega
  rw[Rr,Mt l,List.length_cons,hs]
noncomputable def Lf:List Value->aA->Option (Value×aA):=fun args M=>
 match args with
 | [.slice (some ⟨a,0,none⟩) k c,.slice (some ⟨b,0,none⟩) n d]=>match M.get a,M.get b with
  |some bm,some bs=>match Jc bs.cs with
   |some sz=>bif cX bm.cs&&(Nat.beq bm.elem 3&&Nat.beq bm.esz 1&&Nat.beq bm.wf 0&&bm.app)&&Nat.beq bs.esz 1&&Nat.beq n sz.length&&Nat.beq c (k+1)&&not (Nat.beq a b)&&Nat.ble n 801&&Nat.ble k 60&&Nat.ble (Rr sz) k then
     some (aD M.next 0 n (n+1),M.mut [] [⟨nE a sz 0,22,1,0,true⟩]) else none
   |none=>none
  |_,_=>none
 |_=>none
theorem wJ(ρ:lU)(m t:Nat)(h:jE ρ m=some t): ∀(l:List Nat) (a:Nat),jW ρ (nE m l a)=some (nE t l a)
 | [],_=>rfl
 |s::l,a=>by
  simp only [nE,jW,wJ ρ m t h l,lT,mJ,h]
theorem Az: ∀l:List Nat,cX (l.map fun k=>i64 ((k:Nat):Int))=true
 | []=>rfl
 |s::r=>by rw[List.map_cons];simp [cX,flat,Az r]
theorem Ta{GL:List Nat}(B:Bd):cV Try.prog GL B 74 Lf:=cV.ofEvMut aJ aI fun args M v M' hg=>by
 unfold Lf at hg
 split at hg
 ·rename_i a k c b n d
  split at hg
  ·rename_i bm bs hbm hbs
   split at hg
   ·rename_i sz hsz
    generalize hc:(cX bm.cs&&(Nat.beq bm.elem 3&&Nat.beq bm.esz 1&&Nat.beq bm.wf 0&&bm.app)&&Nat.beq bs.esz 1&&Nat.beq n sz.length&&Nat.beq c (k+1)&&not (Nat.beq a b)&&Nat.ble n 801&&Nat.ble k 60&&Nat.ble (Rr sz) k)=q at hg
    cases q with
    |false=>cases hg
    |true=>
     simp only [cond_true,Option.some.injEq,Prod.mk.injEq] at hg
     obtain⟨rfl,rfl⟩:=hg
     simp only [Bool.and_eq_true,Nat.beq_eq,Nat.ble_eq,Bool.not_eq_true'] at hc
     obtain⟨⟨⟨⟨⟨⟨⟨⟨hfl,⟨⟨⟨e1,e2⟩,e3⟩,e4⟩⟩,e5⟩,rfl⟩,rfl⟩,hab⟩,a1⟩,a5⟩,hsum⟩:=hc
     obtain⟨cs,el,ez,wf,ap⟩:=bm
     obtain⟨a7,a3,a8,a4,a0⟩:=bs
     simp only at e1 e2 e3 e4 e5 hsz hfl
     subst e1 e2 e3 e4 e5
     have hne: ¬a=b:=fun h=>by rw[h] at hab;simp at hab
     have a2:=Jd hsz
     subst a2
     let l:List (Nat×aW):= [(0,⟨cs,3,1,0,true⟩),(1,⟨sz.map fun k=>i64 ((k:Nat):Int),a3,1,a4,a0⟩)]
     have hM:aB (cE l 2):=aB.start _ _
     have g0:(cE l 2).get 0=some ⟨cs,3,1,0,true⟩:=rfl
     have g1:(cE l 2).get 1=some ⟨sz.map fun k=>i64 ((k:Nat):Int),a3,1,a4,a0⟩:=by cases a0<;>rfl
     have hA:(iG (mG Td tW) fun x:(Nat×Nat)×List Nat=>x.2.length<=801/\dN (nV x.2) x.2.length<=x.1.2/\x.1.2<=60) ((0,k),sz) [aD 0 0 k (k+1),aD 1 0 sz.length d] (cE l 2):=by
      refine⟨⟨_,_,rfl,⟨rfl,_,g0⟩,?_⟩,a1,by rw[<-Mt];exact hsum,a5⟩
      refine aK.of_blk' g1 (by simp) ?_ (fun _ _=>rfl) (by simp only [List.length_map];omega)
      rw[vX,List.map_map];rfl
     obtain⟨v,M1,hev,hE,⟨x',hx',hq⟩⟩:=Ug hM hA
     rw[AA.uniq hx' hA] at hq
     obtain⟨E,rfl,a6,hgE⟩:=hq
     have hE2':2<=E:=a6
     rw[Dv] at hgE
     have t0:jE (pX 0 [a,b]) a=some 0:=by simp [pX,jE]
     have t1:jE (pX 0 [a,b]) b=some 1:=by simp [pX,jE,hab]
     have u0:jE (oD [a,b] [0]++kT M.next [E]) 0=some a:=by simp [oD,kT,jE]
     have uE:jE (oD [a,b] [0]++kT M.next [E]) E=some M.next:=by
      have:Nat.beq 0 E=false:=by cases hh:Nat.beq 0 E with
       |false=>rfl
       |true=>have:=Nat.eq_of_beq_eq_true hh;omega
      simp [oD,kT,jE,this]
     refine⟨[],[⟨nE a sz 0,22,1,0,true⟩],[a,b],l,0,zV,[aD 0 0 k (k+1),aD 1 0 sz.length d],aD E 0 sz.length (sz.length+1),M1,[0],[E],rfl,⟨fun _=>cJ.none,hev,?_,?_,?_,?_,?_,?_,?_,?_,?_,rfl,rfl,?_,?_,?_⟩⟩
     ·have hba:Nat.beq b a=false:=by cases hh:Nat.beq b a with
       |false=>rfl
       |true=>exact absurd (Nat.eq_of_beq_eq_true hh).symm hne
      exact(show Go.Am.hQ [a,b]=true by simp [Go.Am.hQ,Nv,hab,hba])
     ·intro p hp
      simp only [l,List.mem_cons,List.not_mem_nil,or_false] at hp
      rcases hp with rfl|rfl
      ·exact⟨a,_,rfl,hbm,jX _ _ hfl,rfl⟩
      ·exact⟨b,_,rfl,hbs,jX _ _ (Az sz),rfl⟩
     ·simp only [jW,lT,mJ,t0,t1]
     ·intro t ht hlt
      obtain⟨L,h1,h2⟩:=hE.log
      rw[h1] at ht
      have h3:=h2 t (by simpa [cE] using ht)
      have h4:t<2:=hlt
      have h5:2<=t:=h3
      omega
     ·intro j x hj
      match j,hj with
      |0,hj=>cases hj;exact(bR.1 hbm).1
      |1,hj=>cases hj;exact(bR.1 hbs).1
      |n+2,hj=>simp at hj
     ·intro x hx;cases hx
     ·intro j hj;simp at hj;subst hj;show 0<2;omega
     ·intro x y hxy;cases hxy
     ·intro i x hx
      match i,hx with
      |0,hx=>
       cases hx
       exact⟨E,_,rfl,hgE,⟨[],by rw[List.append_nil];exact wJ _ 0 a u0 sz 0⟩,rfl⟩
      |n+1,hx=>simp at hx
     ·intro s hs
      simp at hs;subst hs
      refine⟨by simp;omega,fun h=> ?_⟩
      have h4:s<2:=h
      omega
     ·simp only [lT,mJ,uE]
     ·intro x hx;cases hx
   ·cases hg
  ·cases hg
 ·cases hg
noncomputable def SPG:cZ:=specs [(74,Lf)]
theorem specsG(B:Bd):cJ Try.prog [] B SPG:=Ro fun p hp=>by
 simp only [List.mem_cons,List.not_mem_nil,or_false] at hp
 rcases hp with rfl
 exact Ta B
theorem It:(Go.Am.arun Try.prog [] SPG 2000 9 [] zeroMem).map (·.1)=some (.bool true):=by kernel_rfl
theorem Sz(B:Bd):cV Try.prog [] B 9 (ansNone (.bool true)):=by
 cases hk:Go.Am.arun Try.prog [] SPG 2000 9 [] zeroMem with
 |none=>have:=It;rw[hk] at this;cases this
 |some r=>
  obtain⟨v,M1⟩:=r
  have:=It
  rw[hk] at this
  cases this
  exact cV.ansNone aJ aI (fun B=>specsG B) hk rfl
end Go.Proofs.Ytdaglldahidmbaa
