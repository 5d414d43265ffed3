/-
  Package hier: each of its laws for every argument; no conditions. The last text states which.
-/
import Derived.Test.YtdaglldahidmbaaGAmOps1
set_option linter.unusedVariables false
set_option linter.unusedSimpArgs false
namespace Go.Am
open Go
variable{P:Program}{GL:List Nat}{B:Bd}{φ:dC}{M M':aA}{w:World}
theorem Fv(h:gI P GL B φ M w)(hg:iX φ M M'){argTypes:Array TypeId}{type:TypeId}{s s' x x':Value}(hsr:bA φ s s')(hxr:bA φ x x'){k:Nat}{r:AR}
  (ho:dJ P argTypes.toList s x M=some (k,r,M')):
  fV P GL B φ M M' w r ((do pure (.value (<-Builtin.append_ argTypes type #[s',x'])):Sem Next).run P w):=by
 unfold dJ at ho
 split at ho
 case h_2=>simp at ho
 rename_i sT xT hat
 have a4:argTypes[0]?=some sT:=by rw[<-Array.getElem?_toList,hat];rfl
 have a5:argTypes[1]?=some xT:=by rw[<-Array.getElem?_toList,hat];rfl
 split at ho
 case h_2=>simp at ho
 rename_i elem xd hsT hxT
 split at ho
 case h_2=>simp at ho
 rename_i e n he hn
 split at ho
 case h_3=>simp at ho
 ·--onto nothing
  rename_i new hxi hnew
  cases hsr.of_flat rfl
  cases hq:(!tX e n|| !(new.all isCell)|| !(Nat.beq new.length (n*e.size)))<;>simp only [hq,cond_true,cond_false] at ho
  ·simp only [Bool.or_eq_false_iff,Bool.not_eq_false',Nat.beq_eq] at hq
   obtain⟨⟨q1,q2⟩,q3⟩:=hq
   have hlen':=wB (P:=P) (w:=w) hxr hn
   cases h0:Nat.beq n 0<;>simp only [h0,cond_true,cond_false] at ho
   ·simp [made] at ho
    obtain⟨_,rfl,rfl⟩:=ho
    have a7:n≠0:=by intro y;simp [y] at h0
    obtain⟨new',f1,f2⟩:=gN h hxr hn (Nat.le_refl _) hnew (mL.drew w)
    obtain⟨c,cap',g1,g2,g3,g4,g5⟩:=vN (type:=type) (w:=w) a4 a5 hsT hxT hxi he (base:=none) (len:=0) (cap:=0) (n:=n) hlen' (by omega) (by simpa using q1) (old:= []) (by simp [Builtin.firstCells]) f1
    have hl:=f2.length
    obtain⟨φ',p1,p2,p3⟩:=sZ (z:=e.size) (elem:=elem) (cs:=new) (c:=c) (len:=n) (cap':=cap') (cap:=n) h (hg _ (Nat.le_refl _) (Nat.lt_succ_self _)) (mL.drew w)
     (fun j v hj=>by
      obtain⟨v',a1,a2⟩:=f2.get hj
      exact⟨v',g3 j v' (by simpa using a1),a2⟩)
     (by simp at g4;omega) (by omega) (.inl rfl) (g5 (by simp [hl,q3]))
    exact fV.val (L:= []) (by simpa using g1) rfl p1 p3
   ·simp at ho
    obtain⟨_,rfl,rfl⟩:=ho
    have a7:n=0:=Nat.eq_of_beq_eq_true h0
    subst a7
    obtain⟨new',f1,f2⟩:=gN h hxr hn (Nat.le_refl _) hnew (mL.refl w)
    have g1:=oV (type:=type) (w:=w) (w':=w) a4 a5 hsT hxT hxi he (base:=none) (len:=0) (cap:=0) (n:=0) hlen' (by omega) f1 rfl
    exact fV.val (L:= []) g1 rfl (Post.refl h) (.leaf rfl)
  ·simp at ho
 ·rename_i new a len cap hxi hnew
  rcases hsr.slice_or with⟨a',cap',rfl,s1,s2,s3,s4,en,hen,s5⟩|⟨_,_,_,_,hsp⟩
  case inr=>
   exfalso
   have b5:a.spot.isNone=false:=by cases hh:a.spot<;>simp_all
   split at ho
   ·split at ho
    ·rw[b5] at ho
     simp at ho
    ·simp at ho
   ·simp at ho
  split at ho
  case h_2=>simp at ho
  rename_i b hb
  split at ho
  case h_2=>simp at ho
  rename_i old hold
  obtain⟨en',hen',hr⟩:=h.blk _ _ hb
  rw[hen] at hen';cases hen'
  cases hq:(!tX e (len+n)|| !(new.all isCell)|| !(Nat.beq new.length (n*e.size))|| !(Nat.beq b.esz e.size)|| !(Nat.beq b.elem elem)|| !a.spot.isNone)<;>simp only [hq,cond_true,cond_false] at ho
  case true=>simp at ho
  simp only [Bool.or_eq_false_iff,Bool.not_eq_false',Nat.beq_eq] at hq
  obtain⟨⟨⟨⟨⟨q1,q2⟩,q3⟩,q4⟩,q5⟩,_⟩:=hq
  have r1:=(vC q1).1
  have hlen':=wB (P:=P) (w:=w) hxr hn
  cases h0:Nat.beq n 0<;>simp only [h0,cond_true,cond_false] at ho
  case true=>
   simp at ho
   obtain⟨_,rfl,rfl⟩:=ho
   have a7:n=0:=Nat.eq_of_beq_eq_true h0
   subst a7
   obtain⟨new',f1,f2⟩:=gN h hxr hn (Nat.le_refl _) hnew (mL.refl w)
   have hnil:new'= []:=by have:=f2.length;simp at q3;rw[q3] at this;exact List.eq_nil_of_length_eq_zero this
   have g1:=oV (type:=type) (w:=w) (w':=w) a4 a5 hsT hxT hxi he (base:=some a') (len:=len) (cap:=cap') (n:=0) hlen' (by omega) f1 (by simp [hnil,storeCells])
   exact fV.val (L:= []) (by simpa using g1) rfl (Post.refl h) hsr
  have a7:n≠0:=by intro y;simp [y] at h0
  --what the old cells are
  have hold': ∃old':List Value,(Builtin.firstCells e.size len (.slice (some a') len cap')).run P w.drew= .ok old'.toArray w.drew/\bU φ old old':=by
   have hf:jM M e.size len (.slice (some a) len cap)=some old:=by simp only [jM,hb];exact hold
   exact gN h hsr (m:=len) rfl (Nat.le_refl _) hf (mL.drew w)
  obtain⟨old',o1,o2⟩:=hold'
  have holdlen:old.length=len*e.size:=(oK hold).2
  --growing
  have grows: ¬len+n<=cap'-> ∃(new':List Value) (c:Array Value) (a0:Nat),bU φ new new'/\(Builtin.append_ argTypes type #[.slice (some a') len cap',x']).run P w= .ok (.slice (some ⟨w.heap.size,0,none⟩) (len+n) a0) (w.drew.alloc (.cells c elem (0,0)))/\
    len+n<=a0/\(∀(j:Nat) (v:Value),(old++new)[j]?=some v-> ∃v',c[j]?=some v'/\bA φ v v')/\(old++new).length<=c.size/\a0*e.size<=c.size:=fun hlt=>by
   obtain⟨new',f1,f2⟩:=gN h hxr hn (Nat.le_refl _) hnew (mL.drew w)
   obtain⟨c,a0,g1,g2,g3,g4,g5⟩:=vN (type:=type) (w:=w) a4 a5 hsT hxT hxi he (base:=some a') (len:=len) (cap:=cap') (n:=n) hlen' hlt q1 o1 f1
   have hl:=f2.length
   have b6:=o2.length
   refine⟨new',c,a0,f2,g1,g2,fun j v hj=> ?_,by simp at g4⊢;omega,g5 (by simp [hl,b6,q3,holdlen,Nat.add_mul])⟩
   obtain⟨v',a1,a2⟩:=(o2.append f2).get hj
   exact⟨v',g3 j v' a1,a2⟩
  cases hc:Nat.beq cap len<;>simp only [hc,Bool.not_false,Bool.not_true,cond_true,cond_false] at ho
  case false=>
   have hcap:cap=cap'+1:=by
    rcases s4 with s4|s4
    ·exact absurd s4 (fun hx=>by simp [hx] at hc)
    ·exact s4
   cases hfull:Nat.ble cap (len+n)<;>simp only [hfull,cond_true,cond_false] at ho
   case true=>
    simp [made] at ho
    obtain⟨_,rfl,rfl⟩:=ho
    have hle:=Nat.le_of_ble_eq_true hfull
    obtain⟨new',c,a0,f2,g1,g2,g3,g4,g5⟩:=grows (by omega)
    obtain⟨φ',p1,p2,p3⟩:=sZ (z:=e.size) (elem:=elem) (cs:=old++new) (c:=c) (len:=len+n) (cap':=a0) (cap:=len+n) h (hg _ (Nat.le_refl _) (Nat.lt_succ_self _)) (mL.drew w) g3 g4 g2 (.inl rfl) g5
    exact fV.val (L:= []) g1 rfl p1 p3
   case false=>
    cases hin:(Nat.ble b.wf (a.off+len*e.size)&&Nat.ble (a.off+(len+n)*e.size) b.cs.length)<;>simp only [hin,cond_true,cond_false] at ho
    case false=>simp at ho
    simp only [Bool.and_eq_true,Nat.ble_eq] at hin
    obtain⟨i1,i2⟩:=hin
    simp at ho
    obtain⟨_,rfl,rfl⟩:=ho
    have hfit:len+n<=cap':=by
     rcases Nat.lt_or_ge (len+n) cap with hx|hx
     ·omega
     ·rw[Nat.ble_eq_true_of_le hx] at hfull;cases hfull
    obtain⟨t1,t2,t3⟩:=s5.resolve_left (fun(hx:cap'=0)=>by clear grows;omega)
    obtain⟨new',f1,f2⟩:=gN h hxr hn (Nat.le_refl _) hnew (mL.refl w)
    have hA:(a'.add (len*e.size)).spot=none/\(a'.add (len*e.size)).block=en.block/\(a'.add (len*e.size)).off=en.base+(a.off+len*e.size):=by
     unfold Addr.add;split<;>simp_all<;>omega
    obtain⟨w',b8,b9⟩:=pD h hb hen f2 q2 i1 (by rw[q3];rw[Nat.add_mul] at i2;omega) (.inr hA)
    have g1:=oV (type:=type) (w:=w) (w':=w') a4 a5 hsT hxT hxi he (base:=some a') (len:=len) (cap:=cap') (n:=n) hlen' hfit f1 b8
    exact fV.val (L:= [a.block]) g1 rfl b9 (.slice ⟨s1,s2,hfit,.inr hcap,en,hen,.inr ⟨t1,t2,t3⟩⟩)
  case true=>
   cases happw:(b.app&&Nat.ble b.wf (a.off+len*e.size))<;>simp only [happw,cond_true,cond_false] at ho
   case false=>simp at ho
   simp only [Bool.and_eq_true,Nat.ble_eq] at happw
   obtain⟨happ,hwf⟩:=happw
   --whichever way the old block stays
   have main: ∀(sb:Option aW) (wf':Nat),(∀s,sb=some s->s={b with cs:=b.cs.take (a.off+len*e.size),wf:=a.off+len*e.size,app:=false}/\wf'=len*e.size/\0<len*e.size)->b.wf<=a.off+wf'->(0<b.wf->0<wf')->
     M'=(M.put a.block sb).alloc {cs:=old++new,elem:=b.elem,esz:=b.esz,wf:=wf',app:=true}->r= .val (.slice (some ⟨M.next,0,none⟩) (len+n) (len+n))->
     fV P GL B φ M M' w r ((do pure (.value (<-Builtin.append_ argTypes type #[.slice (some a') len cap',x'])):Sem Next).run P w):=fun sb wf' hsb hwle b4 hM b7=>by
    subst hM b7
    have b3: ∀s,sb=some s->lV P B φ w en s:=fun s hs=>by
     obtain⟨rfl,_,_⟩:=hsb s hs
     obtain⟨k1,⟨c,lo,hi,c1,c2,c3,c4⟩,k3,k4,k5,k6⟩:=hr
     refine⟨k1,⟨c,lo,hi,c1,c2,fun j v hj=>c3 j v ?_,fun hx=> ?_⟩,by simp;omega,fun hx=> ?_,fun q1 q2=>k5 q1 fun q3=>q2 (by simp [q3]),k6⟩
     ·have hlt:j<a.off+len*e.size:=by
       rcases Nat.lt_or_ge j (a.off+len*e.size) with h|h
       ·exact h
       ·rw[List.getElem?_eq_none (by simp;omega)] at hj;cases hj
      rwa [List.getElem?_take_of_lt hlt] at hj
     ·rcases hx with hx|hx
      ·cases hx
      ·simp at hx;omega
     ·rcases hx with hx|hx
      ·cases hx
      ·simp at hx;omega
    by_cases hfit:len+n<=cap'
    ·--in place
     obtain⟨t1,t2,t3⟩:=s5.resolve_left (fun(hx:cap'=0)=>by clear grows b3 hsb;omega)
     obtain⟨c,lo,hi,c1,c2,c3,c4⟩:=hr.cells
     have c4':=c4 (.inl happ)
     obtain⟨new',f1,f2⟩:=gN h hxr hn (Nat.le_refl _) hnew (mL.refl w)
     have hl:=f2.length
     have hesz:=hr.esz
     have hmul:(len+n)*e.size<=cap'*e.size:=Nat.mul_le_mul_right _ hfit
     rw[Nat.add_mul] at hmul
     rw[hesz,q4] at t3
     have hA:(a'.add (len*e.size)).block=en.block/\(a'.add (len*e.size)).spot=none/\(a'.add (len*e.size)).off=en.base+a.off+len*e.size:=by
      unfold Addr.add;split<;>simp_all
     have hstart:en.base+(a.off+len*e.size)+new'.length<=c.size:=by omega
     have hst:=oJ (P:=P) (l:=new') (i:=0) (a:=a'.add (len*e.size)) c1 hA.1 hA.2.1 (by omega) (fun j h1 h2=>by
      have:=c4' (j-en.base) (by omega) (Nat.lt_of_lt_of_le (by omega) (Qg b.esz en.tot))
      rw[show en.base+(j-en.base)=j by omega] at this
      exact this) (by rw[f2.isCell];exact q2)
     simp only [Nat.add_zero,hA.2.2] at hst
     have hlt:=hr.lt
     have hB:=hr.own (.inl happ)
     have hheap: ∀j,(eA w en.block (.cells (splice c.toList (en.base+a.off+len*e.size) new').toArray b.elem (lo,hi))).heap[j]?=if en.block=j then some (.cells (splice c.toList (en.base+a.off+len*e.size) new').toArray b.elem (lo,hi)) else w.heap[j]?:=fun j=>by
      rw[mN,if_pos hlt]
     have hunder: ∀j,j<en.base+a.off+len*e.size->(splice c.toList (en.base+a.off+len*e.size) new').toArray[j]?=c[j]?:=fun j hj=>by
      simp only [List.getElem?_toArray]
      rw[kO _ _ _ _ (by simp;omega),if_neg (by omega)]
      simp
     obtain⟨φ',p1,p2⟩:=h.replace (w':=eA w en.block (.cells (splice c.toList (en.base+a.off+len*e.size) new').toArray b.elem (lo,hi))) (hg _ (Nat.le_refl _) (Nat.lt_succ_self _)) hb hen happ sb
      {cs:=old++new,elem:=b.elem,esz:=b.esz,wf:=wf',app:=true} ⟨en.block,en.base+a.off,en.tot-a.off,b.esz⟩
      ⟨rfl,⟨_,lo,hi,by rw[hheap,if_pos rfl],by simp [cS];omega,fun j v hj=>by
        simp only [List.getElem?_toArray]
        rw[kO _ _ _ _ (by simp;omega)]
        by_cases hjl:j<old.length
        ·rw[List.getElem?_append_left hjl] at hj
         obtain⟨b1,b2⟩:=jS hold j v hj
         obtain⟨v',a1,a2⟩:=c3 _ v b1
         exact⟨v',by rw[if_neg (by omega),show en.base+a.off+j=en.base+(a.off+j) by omega];simpa using a1,a2⟩
        ·rw[List.getElem?_append_right (by omega)] at hj
         obtain⟨v',a1,a2⟩:=f2.get hj
         have hjn:j-old.length<new'.length:=by
          rcases Nat.lt_or_ge (j-old.length) new'.length with h|h
          ·exact h
          ·rw[List.getElem?_eq_none h] at a1;cases a1
         exact⟨v',by rw[if_pos (by omega),show en.base+a.off+j-(en.base+a.off+len*e.size)=j-old.length by omega];exact a1,a2⟩,
       fun _ j h1 h2=>by
        have hlm:=Ss h2 (by omega:a.off<=en.tot)
        have:=c4' (a.off+j) (by simp at h1;omega) hlm
        simp only
        rw[show en.base+a.off+j=en.base+(a.off+j) by omega]
        exact this⟩,by simp;omega,fun _=>hB,fun h0 _=>absurd (q4.symm.trans h0) r1,Ti (xN hb) happ rfl⟩
      (fun s hs=>by
       have a8:=b3 s hs
       obtain⟨rfl,e1,e2⟩:=hsb s hs
       refine⟨a8.under rfl (by simp;omega) c1 rfl (by rw[hheap,if_pos rfl]) (by simp [cS]) fun j hj=>hunder j (by simp at hj;omega),rfl,by simp;omega,by simp only [e1];exact e2,fun _=>by simp [e1];omega⟩)
      (fun hpos=>⟨b4 hpos,fun _=>by simp;omega⟩)
      (fun k hk hne=>by rw[hheap,if_neg (fun x=>hne x.symm)])
      (fun i b' e' hi hbi he' hbe s1 s2 s3=>by
       obtain⟨e2,a6,a9⟩:=h.blkA i b' hbi
       rw[he'] at a6;cases a6
       exact(a9.ro s1).under s1 s2 c1 hbe.symm (by rw[hheap,if_pos rfl]) (by simp [cS]) fun j hj=>hunder j (by omega))
      (by simp [eA]) rfl rfl rfl (.inl rfl)
     have g1:=oV (type:=type) (w:=w) a4 a5 hsT hxT hxi he (base:=some a') (len:=len) (cap:=cap') (n:=n) hlen' hfit f1 hst
     exact fV.val (L:= [a.block]) g1 rfl p2 (.slice ⟨rfl,s2,hfit,.inl rfl,_,p1,.inr ⟨t1,by simp;omega,by simp [q4];omega⟩⟩)
    ·--another row
     obtain⟨new',c,a0,f2,g1,g2,g3,g4,g5⟩:=grows hfit
     have a3: ∀k,k<w.heap.size->(w.drew.alloc (.cells c elem (0,0))).heap[k]?=w.heap[k]?:=fun k hk=>heap_alloc_old w.drew _ (by exact hk)
     obtain⟨φ',p1,p2⟩:=h.replace (w':=w.drew.alloc (.cells c elem (0,0))) (hg _ (Nat.le_refl _) (Nat.lt_succ_self _)) hb hen happ sb {cs:=old++new,elem:=b.elem,esz:=b.esz,wf:=wf',app:=true} ⟨w.heap.size,0,c.size,b.esz⟩
      ⟨rfl,⟨c,0,0,by have:=heap_alloc_new w.drew (.cells c elem (0,0));rw[q5];exact this,by simp,fun j v hj=>by simpa using g3 j v hj,fun _ j _ _=>by omega⟩,g4,fun _=>h.size _ (Nat.le_refl _),fun _ _=>rfl,fun hx=>by cases hx.1⟩
      (fun s hs=>by
       have a8:=b3 s hs
       obtain⟨rfl,e1,e2⟩:=hsb s hs
       exact⟨a8.keep (dC.le_refl φ) (a3 _ a8.lt),rfl,by simp;omega,by simp only [e1];exact e2,fun hx=>by have:=hr.lt;simp at hx;omega⟩)
      (fun hpos=>⟨b4 hpos,fun hx=>by have:=hr.lt;simp at hx;omega⟩)
      (fun k hk _=>a3 k hk)
      (fun i b' e' hi hbi he' hbe s1 _ _=>by
       obtain⟨e2,a6,a9⟩:=h.blkA i b' hbi
       rw[he'] at a6;cases a6
       exact(a9.ro s1).keep (dC.le_refl φ) (a3 _ a9.lt))
      (by simp) rfl rfl rfl (.inr (Nat.le_refl _))
     exact fV.val (L:= [a.block]) g1 rfl p2 (.slice ⟨rfl,rfl,g2,.inl rfl,_,p1,.inr ⟨rfl,by simp,by simpa [q4] using g5⟩⟩)
   cases hkp:(Bm P elem&& !(Nat.beq (len*e.size) 0))<;>simp only [hkp,cond_true,cond_false] at ho
   ·cases b0:(Nat.beq b.wf 0||Nat.blt a.off b.wf)<;>simp only [b0,cond_true,cond_false] at ho
    ·simp at ho
    ·simp at ho
     obtain⟨_,h1,h2⟩:=ho
     simp only [Bool.or_eq_true] at b0
     have c0:b.wf=0\/a.off<b.wf:=b0.imp Nat.eq_of_beq_eq_true Nat.le_of_ble_eq_true
     exact main none (b.wf-a.off) (fun s hs=>by cases hs) (by omega) (by omega) h2.symm h1.symm
   ·simp at ho
    obtain⟨_,h1,h2⟩:=ho
    simp only [Bool.and_eq_true,Bool.not_eq_true'] at hkp
    have hpos:0<len*e.size:=by
     rcases Nat.eq_zero_or_pos (len*e.size) with h|h
     ·rw[h] at hkp;simp at hkp
     ·exact h
    exact main (some {b with cs:=b.cs.take (a.off+len*e.size),wf:=a.off+len*e.size,app:=false}) (len*e.size) (fun s hs=>by cases hs;exact⟨rfl,rfl,hpos⟩) hwf (fun _=>hpos) h2.symm h1.symm
end Go.Am
