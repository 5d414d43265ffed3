/-
  Package hier: each of its laws for every argument; no conditions. The last text states which.
-/
import Derived.Test.YtdaglldahidmbaaGVP4
import Derived.Test.YtdaglldahidmbaaGAmMemo
import Derived.Test.YtdaglldahidmbaaGAmLoop
set_option linter.unusedVariables false
set_option linter.unusedSimpArgs false
open Go Go.Am Go.Proofs
namespace Go.Proofs.Ytdaglldahidmbaa
set_option maxRecDepth 100000
noncomputable def rowsRun(m:Nat):List Nat→Nat→List Value
 | [],_=> []
 |s::l,at_=>sli m at_ 0 (s+1)::rowsRun m l (at_+s)
theorem rowsRun_eq(m:Nat): ∀(l:List Nat) (a:Nat),rowsRun m l a=(List.range l.length).map fun v=>sli m (a+offS (cOf l) v) 0 (cOf l v+1)
 | [],a=>rfl
 |s::l,a=>by
  rw[rowsRun,rowsRun_eq m l (a+s),List.length_cons,List.range_succ_eq_map,List.map_cons,List.map_map]
  have hs: ∀v,offS (cOf (s::l)) (v+1)=s+offS (cOf l) v:=fun v=>by
   induction v with
   |zero=>simp [offS,cOf]
   |succ v ih=>rw[offS,ih,offS];simp [cOf];omega
  refine congr (congrArg _ ?_) (List.map_congr_left fun v _=> ?_)
  ·simp [offS,cOf]
  ·simp only [Function.comp,hs]
   rw[show cOf (s::l) (v+1)=cOf l v from by simp [cOf],Nat.add_assoc]
theorem rowsRun_cells(m:Nat)(l:List Nat):rowCells m (cOf l) (fun _=>0) l.length=rowsRun m l 0:=by
 rw[rowsRun_eq]
 unfold rowCells cellR
 simp only [Nat.zero_add]
noncomputable def natV:Value→Option Nat
 | .int .i64 (.ofNat k)=>some k
 |_=>none
noncomputable def natsV:List Value→Option (List Nat)
 | []=>some []
 |v::l=>match natV v,natsV l with|some k,some r=>some (k::r)|_,_=>none
theorem natsV_eq: ∀{l:List Value} {r:List Nat},natsV l=some r→l=r.map fun k=>i64 ((k:Nat):Int)
 | [],r,h=>by simp [natsV] at h;subst h;rfl
 |v::l,r,h=>by
  simp only [natsV] at h
  split at h
  ·rename_i k r' h1 h2
   cases h
   rw[List.map_cons,←natsV_eq h2]
   unfold natV at h1
   split at h1
   ·cases h1;rfl
   ·cases h1
  ·cases h
noncomputable def sumN:List Nat→Nat
 | []=>0
 |s::l=>s+sumN l
theorem sumN_eq: ∀(l:List Nat),sumN l=offS (cOf l) l.length
 | []=>rfl
 |s::l=>by
  have hs: ∀v,offS (cOf (s::l)) (v+1)=s+offS (cOf l) v:=fun v=>by
   induction v with
   |zero=>simp [offS,cOf]
   |succ v ih=>rw[offS,ih,offS];simp [cOf];omega
  rw[sumN,sumN_eq l,List.length_cons,hs]
noncomputable def gShare:List Value→Mem→Option (Value×Mem):=fun args M=>
 match args with
 | [.slice (some ⟨a,0,none⟩) k c,.slice (some ⟨b,0,none⟩) n d]=>match M.get a,M.get b with
  |some bm,some bs=>match natsV bs.cs with
   |some sz=>bif flatL bm.cs&&(Nat.beq bm.elem 3&&Nat.beq bm.esz 1&&Nat.beq bm.wf 0&&bm.app)&&Nat.beq bs.esz 1&&Nat.beq n sz.length&&Nat.beq c (k+1)&&not (Nat.beq a b)&&Nat.ble n 801&&Nat.ble k 60&&Nat.ble (sumN sz) k then
     some (sli M.next 0 n (n+1),M.mut [] [⟨rowsRun a sz 0,22,1,0,true⟩]) else none
   |none=>none
  |_,_=>none
 |_=>none
theorem renL_rowsRun(ρ:Moves)(m t:Nat)(h:toTgt ρ m=some t): ∀(l:List Nat) (a:Nat),renL ρ (rowsRun m l a)=some (rowsRun t l a)
 | [],_=>rfl
 |s::l,a=>by
  simp only [rowsRun,renL,renL_rowsRun ρ m t h l,renV,renAddr,h]
theorem flatL_nats: ∀l:List Nat,flatL (l.map fun k=>i64 ((k:Nat):Int))=true
 | []=>rfl
 |s::r=>by rw[List.map_cons];simp [flatL,flat,flatL_nats r]
theorem okShare{GL:List Nat}(B:Bd):SpecOk Try.prog GL B 74 gShare:=SpecOk.ofEvMut noNumP mixedP fun args M v M' hg=>by
 unfold gShare at hg
 split at hg
 ·rename_i a k c b n d
  split at hg
  ·rename_i bm bs hbm hbs
   split at hg
   ·rename_i sz hsz
    generalize hc:(flatL bm.cs&&(Nat.beq bm.elem 3&&Nat.beq bm.esz 1&&Nat.beq bm.wf 0&&bm.app)&&Nat.beq bs.esz 1&&Nat.beq n sz.length&&Nat.beq c (k+1)&&not (Nat.beq a b)&&Nat.ble n 801&&Nat.ble k 60&&Nat.ble (sumN sz) k)=q at hg
    cases q with
    |false=>cases hg
    |true=>
     simp only [cond_true,Option.some.injEq,Prod.mk.injEq] at hg
     obtain⟨rfl,rfl⟩:=hg
     simp only [Bool.and_eq_true,Nat.beq_eq,Nat.ble_eq,Bool.not_eq_true'] at hc
     obtain⟨⟨⟨⟨⟨⟨⟨⟨hfl,⟨⟨⟨e1,e2⟩,e3⟩,e4⟩⟩,e5⟩,rfl⟩,rfl⟩,hab⟩,h801⟩,h60⟩,hsum⟩:=hc
     obtain⟨cs,el,ez,wf,ap⟩:=bm
     obtain⟨cs2,el2,ez2,wf2,ap2⟩:=bs
     simp only at e1 e2 e3 e4 e5 hsz hfl
     subst e1 e2 e3 e4 e5
     have hne: ¬a=b:=fun h=>by rw[h] at hab;simp at hab
     have hcs2:=natsV_eq hsz
     subst hcs2
     let l:List (Nat×ABlk):= [(0,⟨cs,3,1,0,true⟩),(1,⟨sz.map fun k=>i64 ((k:Nat):Int),el2,1,wf2,ap2⟩)]
     have hM:MemOk (startMem l 2):=MemOk.start _ _
     have g0:(startMem l 2).get 0=some ⟨cs,3,1,0,true⟩:=rfl
     have g1:(startMem l 2).get 1=some ⟨sz.map fun k=>i64 ((k:Nat):Int),el2,1,wf2,ap2⟩:=by cases ap2<;>rfl
     have hA:(asP (as2 pMem pNats) fun x:(Nat×Nat)×List Nat=>x.2.length≤801∧offS (cOf x.2) x.2.length≤x.1.2∧x.1.2≤60) ((0,k),sz) [sli 0 0 k (k+1),sli 1 0 sz.length d] (startMem l 2):=by
      refine⟨⟨_,_,rfl,⟨rfl,_,g0⟩,?_⟩,h801,by rw[←sumN_eq];exact hsum,h60⟩
      refine GRowsAt.of_blk' g1 (by simp) ?_ (fun _ _=>rfl) (by simp only [List.length_map];omega)
      rw[flat1,List.map_map];rfl
     obtain⟨v,M1,hev,hE,⟨x',hx',hq⟩⟩:=con74 hM hA
     rw[AA.uniq hx' hA] at hq
     obtain⟨E,rfl,hE2,hgE⟩:=hq
     have hE2':2≤E:=hE2
     rw[rowsRun_cells] at hgE
     have t0:toTgt (mvIn 0 [a,b]) a=some 0:=by simp [mvIn,toTgt]
     have t1:toTgt (mvIn 0 [a,b]) b=some 1:=by simp [mvIn,toTgt,hab]
     have u0:toTgt (mvOld [a,b] [0]++mvNew M.next [E]) 0=some a:=by simp [mvOld,mvNew,toTgt]
     have uE:toTgt (mvOld [a,b] [0]++mvNew M.next [E]) E=some M.next:=by
      have:Nat.beq 0 E=false:=by cases hh:Nat.beq 0 E with
       |false=>rfl
       |true=>have:=Nat.eq_of_beq_eq_true hh;omega
      simp [mvOld,mvNew,toTgt,this]
     refine⟨[],[⟨rowsRun a sz 0,22,1,0,true⟩],[a,b],l,0,noSpecs,[sli 0 0 k (k+1),sli 1 0 sz.length d],sli E 0 sz.length (sz.length+1),M1,[0],[E],rfl,⟨fun _=>SpecsOk.none,hev,?_,?_,?_,?_,?_,?_,?_,?_,?_,rfl,rfl,?_,?_,?_⟩⟩
     ·have hba:Nat.beq b a=false:=by cases hh:Nat.beq b a with
       |false=>rfl
       |true=>exact absurd (Nat.eq_of_beq_eq_true hh).symm hne
      exact(show Go.Am.distinct [a,b]=true by simp [Go.Am.distinct,memN,hab,hba])
     ·intro p hp
      simp only [l,List.mem_cons,List.not_mem_nil,or_false] at hp
      rcases hp with rfl|rfl
      ·exact⟨a,_,rfl,hbm,renL_flat _ _ hfl,rfl⟩
      ·exact⟨b,_,rfl,hbs,renL_flat _ _ (flatL_nats sz),rfl⟩
     ·simp only [renL,renV,renAddr,t0,t1]
     ·intro t ht hlt
      obtain⟨L,h1,h2⟩:=hE.log
      rw[h1] at ht
      have h3:=h2 t (by simpa [startMem] using ht)
      have h4:t<2:=hlt
      have h5:2≤t:=h3
      omega
     ·intro j x hj
      match j,hj with
      |0,hj=>cases hj;exact(get_spec.1 hbm).1
      |1,hj=>cases hj;exact(get_spec.1 hbs).1
      |n+2,hj=>simp at hj
     ·intro x hx;cases hx
     ·intro j hj;simp at hj;subst hj;show 0<2;omega
     ·intro x y hxy;cases hxy
     ·intro i x hx
      match i,hx with
      |0,hx=>
       cases hx
       exact⟨E,_,rfl,hgE,⟨[],by rw[List.append_nil];exact renL_rowsRun _ 0 a u0 sz 0⟩,rfl⟩
      |n+1,hx=>simp at hx
     ·intro s hs
      simp at hs;subst hs
      refine⟨by simp;omega,fun h=> ?_⟩
      have h4:s<2:=h
      omega
     ·simp only [renV,renAddr,uE]
     ·intro x hx;cases hx
   ·cases hg
  ·cases hg
 ·cases hg
noncomputable def SPG:Specs:=specs [(74,gShare)]
theorem specsG(B:Bd):SpecsOk Try.prog [] B SPG:=specs_ok fun p hp=>by
 simp only [List.mem_cons,List.not_mem_nil,or_false] at hp
 rcases hp with rfl
 exact okShare B
theorem knownRun:(Go.Am.arun Try.prog [] SPG 2000 9 [] zeroMem).map (·.1)=some (.bool true):=by kernel_rfl
theorem okKnown(B:Bd):SpecOk Try.prog [] B 9 (ansNone (.bool true)):=by
 cases hk:Go.Am.arun Try.prog [] SPG 2000 9 [] zeroMem with
 |none=>have:=knownRun;rw[hk] at this;cases this
 |some r=>
  obtain⟨v,M1⟩:=r
  have:=knownRun
  rw[hk] at this
  cases this
  exact SpecOk.ansNone noNumP mixedP (fun B=>specsG B) hk rfl
end Go.Proofs.Ytdaglldahidmbaa
