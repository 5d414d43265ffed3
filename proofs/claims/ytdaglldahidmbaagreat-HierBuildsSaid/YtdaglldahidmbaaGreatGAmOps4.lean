/-
  Package hier: each of its laws for every argument; no conditions. The last text states which.
-/
import Derived.Test.YtdaglldahidmbaaGreatGAmOps1
import Derived.Lib.UnsafeStr
import Derived.Lib.Builder
import Derived.RangeFuncSeq
import Derived.OrdersIn
import Derived.LoopNIn
set_option linter.unusedVariables false
set_option linter.unusedSimpArgs false
namespace Go.Am
open Go
variable{P:Program}{GL:List Nat}{B:Bd}{φ:dX}{M M':aB}{w:World}
theorem Hj(h:hI P GL B φ M w)(hg:jP φ M M'){argTypes:Array TypeId}{type:TypeId}{s s' x x':Value}(d2:bH φ s s')(b5:bH φ x x'){k:Nat}{r:AR}
  (ho:dM P argTypes.toList s x M=some (k,r,M')):
  gN P GL B φ M M' w r ((do pure (.value (<-Builtin.append_ argTypes type #[s',x'])):Sem Next).run P w):=by
 unfold dM at ho
 split at ho
 case h_2=>simp at ho
 rename_i sT xT hat
 have b7:argTypes[0]?=some sT:=by rw[<-Array.getElem?_toList,hat];rfl
 have b8:argTypes[1]?=some xT:=by rw[<-Array.getElem?_toList,hat];rfl
 split at ho
 case h_2=>simp at ho
 rename_i elem xd hsT hxT
 split at ho
 case h_2=>simp at ho
 rename_i e n he hn
 split at ho
 case h_3=>simp at ho
 ·rename_i new hxi hnew;cases d2.of_flat rfl;cases hq:(!vM e n|| !(new.all isCell)|| !(Nat.beq new.length (n*e.size)))<;>simp only [hq,cond_true,cond_false] at ho
  ·simp only [Bool.or_eq_false_iff,Bool.not_eq_false',Nat.beq_eq] at hq;obtain⟨⟨q1,q2⟩,q3⟩:=hq;have a3:=xP (P:=P) (w:=w) b5 hn;cases h0:Nat.beq n 0<;>simp only [h0,cond_true,cond_false] at ho
   ·simp [made] at ho;obtain⟨_,rfl,rfl⟩:=ho;have c7:n≠0:=by intro y;simp [y] at h0
    obtain⟨a0,f1,f2⟩:=iA h b5 hn (Nat.le_refl _) hnew (nJ.drew w);obtain⟨c,cap',g1,g2,g3,g4,g5⟩:=xF (type:=type) (w:=w) b7 b8 hsT hxT hxi he (base:=none) (len:=0) (cap:=0) (n:=n) a3 (by omega) (by simpa using q1) (old:=[]) (by simp [Builtin.firstCells]) f1;have hl:=f2.length;obtain⟨φ',p1,p2,p3⟩:=uU (z:=e.size) (elem:=elem) (cs:=new) (c:=c) (len:=n) (cap':=cap') (cap:=n) h (hg _ (Nat.le_refl _) (Nat.lt_succ_self _)) (nJ.drew w)
     (fun j v hj=>by
      obtain⟨v',a1,a2⟩:=f2.get hj;exact⟨v',g3 j v' (by simpa using a1),a2⟩)
     (by simp at g4;omega) (by omega) (.inl rfl) (g5 (by simp [hl,q3]))
    exact gN.val (L:=[]) (by simpa using g1) rfl p1 p3
   ·simp at ho;obtain⟨_,rfl,rfl⟩:=ho;have c7:n=0:=xBa h0;subst c7;obtain⟨a0,f1,f2⟩:=iA h b5 hn (Nat.le_refl _) hnew (nJ.refl w);have g1:=qA (type:=type) (w:=w) (w':=w) b7 b8 hsT hxT hxi he (base:=none) (len:=0) (cap:=0) (n:=0) a3 (by omega) f1 rfl;exact gN.val (L:=[]) g1 rfl (Post.refl h) (.leaf rfl)
  ·simp at ho
 ·rename_i new a len cap hxi hnew;rcases d2.slice_or with⟨a',cap',rfl,s1,s2,s3,s4,en,c0,s5⟩|⟨_,_,_,_,hsp⟩;case inr=>
   exfalso
   have e4:a.spot.isNone=false:=by cases hh:a.spot<;>simp_all
   split at ho
   ·split at ho
    ·rw[e4] at ho;simp at ho
    ·simp at ho
   ·simp at ho
  split at ho;case h_2=>simp at ho
  rename_i b hb;split at ho;case h_2=>simp at ho
  rename_i old hold;obtain⟨en',c5,hr⟩:=h.blk _ _ hb;rw[c0] at c5;cases c5;cases hq:(!vM e (len+n)|| !(new.all isCell)|| !(Nat.beq new.length (n*e.size))|| !(Nat.beq b.esz e.size)|| !(Nat.beq b.elem elem)|| !a.spot.isNone)<;>simp only [hq,cond_true,cond_false] at ho;case true=>simp at ho
  simp only [Bool.or_eq_false_iff,Bool.not_eq_false',Nat.beq_eq] at hq;obtain⟨⟨⟨⟨⟨q1,q2⟩,q3⟩,q4⟩,q5⟩,_⟩:=hq;have r1:=(wS q1).1;have a3:=xP (P:=P) (w:=w) b5 hn;cases h0:Nat.beq n 0<;>simp only [h0,cond_true,cond_false] at ho;case true=>
   simp at ho
   obtain⟨_,rfl,rfl⟩:=ho
   have c7:n=0:=xBa h0
   subst c7
   obtain⟨a0,f1,f2⟩:=iA h b5 hn (Nat.le_refl _) hnew (nJ.refl w)
   have d7:a0=[]:=by have:=f2.length;simp at q3;rw[q3] at this;exact List.eq_nil_of_length_eq_zero this
   have g1:=qA (type:=type) (w:=w) (w':=w) b7 b8 hsT hxT hxi he (base:=some a') (len:=len) (cap:=cap') (n:=0) a3 (by omega) f1 (by simp [d7,storeCells])
   exact gN.val (L:=[]) (by simpa using g1) rfl (Post.refl h) d2
  have c7:n≠0:=by intro y;simp [y] at h0
  have c8:∃b6:List Value,(Builtin.firstCells e.size len (.slice (some a') len cap')).run P w.drew= .ok b6.toArray w.drew/\cE φ old b6:=by
   have hf:iS M e.size len (.slice (some a) len cap)=some old:=by simp only [iS,hb];exact hold
   exact iA h d2 (m:=len) rfl (Nat.le_refl _) hf (nJ.drew w)
  obtain⟨b6,o1,o2⟩:=c8;have b4:old.length=len*e.size:=(pQ hold).2;have a6:¬len+n<=cap'->∃(a0:List Value) (c:Array Value) (a4:Nat),cE φ new a0/\(Builtin.append_ argTypes type #[.slice (some a') len cap',x']).run P w= .ok (.slice (some ⟨w.heap.size,0,none⟩) (len+n) a4) (w.drew.alloc (.cells c elem (0,0)))/\
    len+n<=a4/\(∀(j:Nat) (v:Value),(old++new)[j]?=some v->∃v',c[j]?=some v'/\bH φ v v')/\(old++new).length<=c.size/\a4*e.size<=c.size:=fun c6=>by
   obtain⟨a0,f1,f2⟩:=iA h b5 hn (Nat.le_refl _) hnew (nJ.drew w)
   obtain⟨c,a4,g1,g2,g3,g4,g5⟩:=xF (type:=type) (w:=w) b7 b8 hsT hxT hxi he (base:=some a') (len:=len) (cap:=cap') (n:=n) a3 c6 q1 o1 f1
   have hl:=f2.length
   have e5:=o2.length
   refine⟨a0,c,a4,f2,g1,g2,fun j v hj=>?_,by simp at g4⊢;omega,g5 (by simp [hl,e5,q3,b4,Nat.add_mul])⟩
   obtain⟨v',a1,a2⟩:=(o2.append f2).get hj
   exact⟨v',g3 j v' a1,a2⟩
  cases hc:Nat.beq cap len<;>simp only [hc,Bool.not_false,Bool.not_true,cond_true,cond_false] at ho;case false=>
   have d3:cap=cap'+1:=by
    rcases s4 with s4|s4
    ·exact absurd s4 (fun hx=>by simp [hx] at hc)
    ·exact s4
   cases hfull:Nat.ble cap (len+n)<;>simp only [hfull,cond_true,cond_false] at ho
   case true=>
    simp [made] at ho
    obtain⟨_,rfl,rfl⟩:=ho
    have hle:=xAd hfull
    obtain⟨a0,c,a4,f2,g1,g2,g3,g4,g5⟩:=a6 (by omega)
    obtain⟨φ',p1,p2,p3⟩:=uU (z:=e.size) (elem:=elem) (cs:=old++new) (c:=c) (len:=len+n) (cap':=a4) (cap:=len+n) h (hg _ (Nat.le_refl _) (Nat.lt_succ_self _)) (nJ.drew w) g3 g4 g2 (.inl rfl) g5
    exact gN.val (L:=[]) g1 rfl p1 p3
   case false=>
    cases hin:(Nat.ble b.wf (a.off+len*e.size)&&Nat.ble (a.off+(len+n)*e.size) b.cs.length)<;>simp only [hin,cond_true,cond_false] at ho
    case false=>simp at ho
    simp only [Bool.and_eq_true,Nat.ble_eq] at hin
    obtain⟨i1,i2⟩:=hin
    simp at ho
    obtain⟨_,rfl,rfl⟩:=ho
    have a5:len+n<=cap':=by
     rcases Nat.lt_or_ge (len+n) cap with hx|hx
     ·omega
     ·rw[Nat.ble_eq_true_of_le hx] at hfull;cases hfull
    obtain⟨t1,t2,t3⟩:=s5.resolve_left (fun(hx:cap'=0)=>by clear a6;omega)
    obtain⟨a0,f1,f2⟩:=iA h b5 hn (Nat.le_refl _) hnew (nJ.refl w)
    have hA:(a'.add (len*e.size)).spot=none/\(a'.add (len*e.size)).block=en.block/\(a'.add (len*e.size)).off=en.base+(a.off+len*e.size):=by
     unfold Addr.add;split<;>simp_all<;>omega
    obtain⟨w',e9,f0⟩:=qO h hb c0 f2 q2 i1 (by rw[q3];rw[Nat.add_mul] at i2;omega) (.inr hA)
    have g1:=qA (type:=type) (w:=w) (w':=w') b7 b8 hsT hxT hxi he (base:=some a') (len:=len) (cap:=cap') (n:=n) a3 a5 f1 e9
    exact gN.val (L:=[a.block]) g1 rfl f0 (.slice ⟨s1,s2,a5,.inr d3,en,c0,.inr ⟨t1,t2,t3⟩⟩)
  case true=>
   cases happw:(b.app&&Nat.ble b.wf (a.off+len*e.size))<;>simp only [happw,cond_true,cond_false] at ho
   case false=>simp at ho
   simp only [Bool.and_eq_true,Nat.ble_eq] at happw
   obtain⟨a9,e8⟩:=happw
   have c9:∀(sb:Option aR) (wf':Nat),(∀s,sb=some s->s={b with cs:=b.cs.take (a.off+len*e.size),wf:=a.off+len*e.size,app:=false}/\wf'=len*e.size/\0<len*e.size)->b.wf<=a.off+wf'->(0<b.wf->0<wf')->
     M'=(M.put a.block sb).alloc {cs:=old++new,elem:=b.elem,esz:=b.esz,wf:=wf',app:=true}->r= .val (.slice (some ⟨M.next,0,none⟩) (len+n) (len+n))->
     gN P GL B φ M M' w r ((do pure (.value (<-Builtin.append_ argTypes type #[.slice (some a') len cap',x'])):Sem Next).run P w):=fun sb wf' hsb hwle e3 hM e7=>by
    subst hM e7
    have d8:∀s,sb=some s->mS P B φ w en s:=fun s hs=>by
     obtain⟨rfl,_,_⟩:=hsb s hs;obtain⟨k1,⟨c,lo,hi,c1,c2,c3,c4⟩,k3,k4,k5,k6⟩:=hr;refine⟨k1,⟨c,lo,hi,c1,c2,fun j v hj=>c3 j v ?_,fun hx=>?_⟩,by simp;omega,fun hx=>?_,fun q1 q2=>k5 q1 fun q3=>q2 (by simp [q3]),k6⟩
     ·have c6:j<a.off+len*e.size:=by
       rcases Nat.lt_or_ge j (a.off+len*e.size) with h|h
       ·exact h
       ·rw[List.getElem?_eq_none (by simp;omega)] at hj;cases hj
      rwa [List.getElem?_take_of_lt c6] at hj
     ·rcases hx with hx|hx
      ·cases hx
      ·simp at hx;omega
     ·rcases hx with hx|hx
      ·cases hx
      ·simp at hx;omega
    by_cases a5:len+n<=cap'
    ·obtain⟨t1,t2,t3⟩:=s5.resolve_left (fun(hx:cap'=0)=>by clear a6 d8 hsb;omega);obtain⟨c,lo,hi,c1,c2,c3,c4⟩:=hr.cells;have d9:=c4 (.inl a9);obtain⟨a0,f1,f2⟩:=iA h b5 hn (Nat.le_refl _) hnew (nJ.refl w);have hl:=f2.length;have d4:=hr.esz;have d6:(len+n)*e.size<=cap'*e.size:=Nat.mul_le_mul_right _ a5;rw[Nat.add_mul] at d6;rw[d4,q4] at t3;have hA:(a'.add (len*e.size)).block=en.block/\(a'.add (len*e.size)).spot=none/\(a'.add (len*e.size)).off=en.base+a.off+len*e.size:=by
      unfold Addr.add;split<;>simp_all
     have hstart:en.base+(a.off+len*e.size)+a0.length<=c.size:=by omega
     have e0:=pP (P:=P) (l:=a0) (i:=0) (a:=a'.add (len*e.size)) c1 hA.1 hA.2.1 (by omega) (fun j h1 h2=>by
      have:=d9 (j-en.base) (by omega) (xAf (by omega) (Tg b.esz en.tot));rw[show en.base+(j-en.base)=j by omega] at this;exact this) (by rw[f2.isCell];exact q2)
     simp only [Nat.add_zero,hA.2.2] at e0;have c6:=hr.lt;have hB:=hr.own (.inl a9);have a7:∀j,(eQ w en.block (.cells (splice c.toList (en.base+a.off+len*e.size) a0).toArray b.elem (lo,hi))).heap[j]?=if en.block=j then some (.cells (splice c.toList (en.base+a.off+len*e.size) a0).toArray b.elem (lo,hi)) else w.heap[j]?:=fun j=>by
      rw[nL,if_pos c6]
     have b3:∀j,j<en.base+a.off+len*e.size->(splice c.toList (en.base+a.off+len*e.size) a0).toArray[j]?=c[j]?:=fun j hj=>by
      simp only [List.getElem?_toArray];rw[lQ _ _ _ _ (by simp;omega),if_neg (by omega)];simp
     obtain⟨φ',p1,p2⟩:=h.replace (w':=eQ w en.block (.cells (splice c.toList (en.base+a.off+len*e.size) a0).toArray b.elem (lo,hi))) (hg _ (Nat.le_refl _) (Nat.lt_succ_self _)) hb c0 a9 sb
      {cs:=old++new,elem:=b.elem,esz:=b.esz,wf:=wf',app:=true} ⟨en.block,en.base+a.off,en.tot-a.off,b.esz⟩
      ⟨rfl,⟨_,lo,hi,by rw[a7,if_pos rfl],by simp [dK];omega,fun j v hj=>by
        simp only [List.getElem?_toArray];rw[lQ _ _ _ _ (by simp;omega)];by_cases hjl:j<old.length
        ·rw[List.getElem?_append_left hjl] at hj;obtain⟨b1,b2⟩:=kR hold j v hj;obtain⟨v',a1,a2⟩:=c3 _ v b1;exact⟨v',by rw[if_neg (by omega),show en.base+a.off+j=en.base+(a.off+j) by omega];simpa using a1,a2⟩
        ·rw[List.getElem?_append_right (by omega)] at hj;obtain⟨v',a1,a2⟩:=f2.get hj;have hjn:j-old.length<a0.length:=by
          rcases Nat.lt_or_ge (j-old.length) a0.length with h|h
          ·exact h
          ·rw[List.getElem?_eq_none h] at a1;cases a1
         exact⟨v',by rw[if_pos (by omega),show en.base+a.off+j-(en.base+a.off+len*e.size)=j-old.length by omega];exact a1,a2⟩,
       fun _ j h1 h2=>by
        have e6:=Vv h2 (by omega:a.off<=en.tot);have:=d9 (a.off+j) (by simp at h1;omega) e6;simp only;rw[show en.base+a.off+j=en.base+(a.off+j) by omega];exact this⟩,by simp;omega,fun _=>hB,fun h0 _=>absurd (q4.symm.trans h0) r1,Wq (zC hb) a9 rfl⟩
      (fun s hs=>by
       have d0:=d8 s hs;obtain⟨rfl,e1,e2⟩:=hsb s hs;refine⟨d0.under rfl (by simp;omega) c1 rfl (by rw[a7,if_pos rfl]) (by simp [dK]) fun j hj=>b3 j (by simp at hj;omega),rfl,by simp;omega,by simp only [e1];exact e2,fun _=>by simp [e1];omega⟩)
      (fun a8=>⟨e3 a8,fun _=>by simp;omega⟩)
      (fun k hk hne=>by rw[a7,if_neg (fun x=>hne x.symm)])
      (fun i b' e' hi hbi he' hbe s1 s2 s3=>by
       obtain⟨e2,b9,d1⟩:=h.blkA i b' hbi;rw[he'] at b9;cases b9;exact(d1.ro s1).under s1 s2 c1 hbe.symm (by rw[a7,if_pos rfl]) (by simp [dK]) fun j hj=>b3 j (by omega))
      (by simp [eQ]) rfl rfl rfl (.inl rfl)
     have g1:=qA (type:=type) (w:=w) b7 b8 hsT hxT hxi he (base:=some a') (len:=len) (cap:=cap') (n:=n) a3 a5 f1 e0;exact gN.val (L:=[a.block]) g1 rfl p2 (.slice ⟨rfl,s2,a5,.inl rfl,_,p1,.inr ⟨t1,by simp;omega,by simp [q4];omega⟩⟩)
    ·obtain⟨a0,c,a4,f2,g1,g2,g3,g4,g5⟩:=a6 a5;have b0:∀k,k<w.heap.size->(w.drew.alloc (.cells c elem (0,0))).heap[k]?=w.heap[k]?:=fun k hk=>heap_alloc_old w.drew _ (by exact hk)
     obtain⟨φ',p1,p2⟩:=h.replace (w':=w.drew.alloc (.cells c elem (0,0))) (hg _ (Nat.le_refl _) (Nat.lt_succ_self _)) hb c0 a9 sb {cs:=old++new,elem:=b.elem,esz:=b.esz,wf:=wf',app:=true} ⟨w.heap.size,0,c.size,b.esz⟩
      ⟨rfl,⟨c,0,0,by have:=heap_alloc_new w.drew (.cells c elem (0,0));rw[q5];exact this,by simp,fun j v hj=>by simpa using g3 j v hj,fun _ j _ _=>by omega⟩,g4,fun _=>h.size _ (Nat.le_refl _),fun _ _=>rfl,fun hx=>by cases hx.1⟩
      (fun s hs=>by
       have d0:=d8 s hs;obtain⟨rfl,e1,e2⟩:=hsb s hs;exact⟨d0.keep (dX.le_refl φ) (b0 _ d0.lt),rfl,by simp;omega,by simp only [e1];exact e2,fun hx=>by have:=hr.lt;simp at hx;omega⟩)
      (fun a8=>⟨e3 a8,fun hx=>by have:=hr.lt;simp at hx;omega⟩)
      (fun k hk _=>b0 k hk)
      (fun i b' e' hi hbi he' hbe s1 _ _=>by
       obtain⟨e2,b9,d1⟩:=h.blkA i b' hbi;rw[he'] at b9;cases b9;exact(d1.ro s1).keep (dX.le_refl φ) (b0 _ d1.lt))
      (by simp) rfl rfl rfl (.inr (Nat.le_refl _))
     exact gN.val (L:=[a.block]) g1 rfl p2 (.slice ⟨rfl,rfl,g2,.inl rfl,_,p1,.inr ⟨rfl,by simp,by simpa [q4] using g5⟩⟩)
   cases hkp:(Ah P elem&& !(Nat.beq (len*e.size) 0))<;>simp only [hkp,cond_true,cond_false] at ho
   ·cases d5:(Nat.beq b.wf 0||Nat.blt a.off b.wf)<;>simp only [d5,cond_true,cond_false] at ho
    ·simp at ho
    ·simp at ho;obtain⟨_,h1,h2⟩:=ho;simp only [Bool.or_eq_true] at d5;have f4:b.wf=0\/a.off<b.wf:=d5.imp xBa xAd;exact c9 none (b.wf-a.off) (fun s hs=>by cases hs) (by omega) (by omega) h2.symm h1.symm
   ·simp at ho;obtain⟨_,h1,h2⟩:=ho;simp only [Bool.and_eq_true,Bool.not_eq_true'] at hkp;have a8:0<len*e.size:=by
     rcases Nat.eq_zero_or_pos (len*e.size) with h|h
     ·rw[h] at hkp;simp at hkp
     ·exact h
    exact c9 (some {b with cs:=b.cs.take (a.off+len*e.size),wf:=a.off+len*e.size,app:=false}) (len*e.size) (fun s hs=>by cases hs;exact⟨rfl,rfl,a8⟩) e8 (fun _=>a8) h2.symm h1.symm
end Go.Am

namespace Go.Am
open Go
variable{P:Program}{GL:List Nat}{B:Bd}{φ:dX}{M M':aB}{w:World}
theorem Nc(h:hI P GL B φ M w){argTypes:Array TypeId}{type:TypeId}{d d' x x':Value}(hd:bH φ d d')(hx:bH φ x x'){k:Nat}{r:AR}
  (ho:Jf P argTypes.toList d x M=some (k,r,M')):
  gN P GL B φ M M' w r ((do pure (.value (<-Builtin.copy_ argTypes type #[d',x'])):Sem Next).run P w):=by
 unfold Jf at ho
 split at ho
 case h_2=>simp at ho
 rename_i dT rest hat
 have a2:argTypes[0]?=some dT:=by rw[<-Array.getElem?_toList,hat];rfl
 split at ho
 case h_2=>simp at ho
 rename_i elem hdT
 split at ho
 case h_3=>simp at ho
 ·rename_i e n he hn;cases hd.of_flat rfl;simp at ho;obtain⟨_,rfl,rfl⟩:=ho;have a0:=xP (P:=P) (w:=w) hx hn;have hz:∃l':List Value,(Builtin.firstCells e.size 0 x').run P w= .ok l'.toArray w:=by
   cases hx with
   |leaf hl=>
    cases x<;>simp [nX] at hn
    ·exact⟨[],by simp [Builtin.firstCells]⟩
    ·rename_i a _ _;cases a with
     |none=>exact⟨[],by simp [Builtin.firstCells]⟩
     |some a=>simp [leaf] at hl
   |slice hs=>exact⟨[],by simp [Builtin.firstCells,loadCells,loadCellsFrom]⟩
   |hollow hs=>exact⟨[],by simp [Builtin.firstCells,loadCells,loadCellsFrom]⟩
   |_=>simp [nX] at hn
  obtain⟨l',a5⟩:=hz;refine gN.val (L:=[]) ?_ rfl (Post.refl h) (.leaf rfl);simp [Builtin.copy_,a2,aN dT hdT,a0,cW elem he,a5,goInt]
 ·rename_i e n a dl dc he hn;split at ho;case h_2=>simp at ho
  rename_i l b hl hb;rcases hd.slice_or with⟨a',dc',rfl,s1,s2,s3,s4,en,a3,s5⟩|⟨_,_,_,_,hsp⟩;case inr=>
   exfalso
   have a4:a.spot.isNone=false:=by cases hh:a.spot<;>simp_all
   rw[a4] at ho
   simp at ho
  cases hq:(!(l.all isCell)|| !(Nat.ble b.wf a.off)|| !(Nat.ble (a.off+l.length) b.cs.length)|| !a.spot.isNone)<;>simp only [hq,cond_true,cond_false] at ho;case true=>simp at ho
  simp only [Bool.or_eq_false_iff,Bool.not_eq_false',Nat.ble_eq] at hq;obtain⟨⟨⟨q1,q2⟩,q3⟩,_⟩:=hq;simp at ho;obtain⟨_,rfl,rfl⟩:=ho;have a0:=xP (P:=P) (w:=w) hx hn;obtain⟨l',f1,f2⟩:=iA h hx hn (Nat.min_le_left n dl) hl (nJ.refl w);have a1:l=[]\/(a'.spot=none/\a'.block=en.block/\a'.off=en.base+a.off):=by
   rcases s5 with s5|s5
   ·left;have:dl=0:=by omega
    subst this;have hm:Nat.min n 0=0:=by simp
    rw[hm] at hl;unfold iS at hl;split at hl
    ·split at hl
     ·simp [range,dJ] at hl;exact hl
     ·simp at hl;exact hl
    ·simp at hl;exact hl
    ·simp [jI] at hl;exact hl
    ·simp at hl
   ·exact .inr ⟨s2,s5.1,s5.2.1⟩
  obtain⟨w',r1,r2⟩:=qO h hb a3 f2 q1 q2 q3 a1;refine gN.val (L:=[a.block]) ?_ rfl r2 (.leaf rfl);simp only [Builtin.copy_];simp [a2,aN dT hdT,a0,cW elem he,goInt];rw[f1];simp [r1]
theorem Ka(h:hI P GL B φ M w){argTypes:Array TypeId}{type:TypeId}{x x':Value}(hx:bH φ x x'){k:Nat}{r:AR}
  (ho:Hg P argTypes.toList x M=some (k,r,M')):
  gN P GL B φ M M' w r ((do pure (.value (<-Builtin.clear_ argTypes type #[x'])):Sem Next).run P w):=by
 unfold Hg at ho
 split at ho
 case h_2=>simp at ho
 rename_i t rest a n cp hat
 have a3:argTypes[0]?=some t:=by rw[<-Array.getElem?_toList,hat];rfl
 split at ho
 case h_2=>simp at ho
 rename_i elem hdT
 split at ho
 case h_2=>simp at ho
 rename_i z b hz hb
 cases hq:(flat z&&z.cells.toList.all isCell&& !Nat.beq (n*z.cells.toList.length) 0&&Nat.ble b.wf a.off&&Nat.ble (a.off+n*z.cells.toList.length) b.cs.length&&a.spot.isNone)<;>simp only [hq,cond_true,cond_false] at ho
 case false=>simp at ho
 simp only [Bool.and_eq_true,Bool.not_eq_true',Nat.ble_eq] at hq
 obtain⟨⟨⟨⟨⟨q1,q2⟩,q3⟩,q4⟩,q5⟩,q6⟩:=hq
 simp at ho
 obtain⟨_,rfl,rfl⟩:=ho
 have a2:n*z.cells.toList.length≠0:=fun x=>by rw[x] at q3;exact absurd q3 (by decide)
 have hn:n≠0:=fun x=>a2 (by rw[x,Nat.zero_mul])
 have a7:0<z.cells.size:=by
  rcases Nat.eq_zero_or_pos z.cells.size with h0|h0
  ·exact absurd (by rw[Array.length_toList,h0,Nat.mul_zero]) a2
  ·exact h0
 rcases hx.slice_or with⟨a',dc',rfl,s1,s2,s3,s4,en,a4,s5⟩|⟨_,_,h0,_,hsp⟩
 case inr=>exact absurd h0 hn
 have a0:a'.spot=none/\a'.block=en.block/\a'.off=en.base+a.off:=by
  rcases s5 with s5|s5
  ·omega
  ·exact⟨s2,s5.1,s5.2.1⟩
 obtain⟨i,hi,a6⟩:∃i,P.info? elem=some i/\i.zero=some z:=by
  cases hh:P.info? elem with
  |none=>rw[hh] at hz;cases hz
  |some i=>rw[hh] at hz;exact⟨i,rfl,hz⟩
 have a1:(kQ n z.cells.toList).all isCell=true:=by
  have key:∀m,(kQ m z.cells.toList).all isCell=true:=fun m=>by
   induction m with
   |zero=>rfl
   |succ m ih=>simp only [kQ,List.all_append,q2,Bool.true_and];exact ih
  exact key n
 obtain⟨w',r1,r2⟩:=qO h hb a4 (Ea φ (wJ q1) n) a1 q4 (by rw[nS];exact q5) (.inr a0)
 refine gN.val (L:=[a.block]) ?_ rfl r2 (.tuple .nil)
 have a5:(Builtin.zeroCells z.cells n).toList=kQ n z.cells.toList:=by
  have:Builtin.zeroCells z.cells n=(kQ n z.cells.toList).toArray:=pK n z.cells a7;rw[this]
 simp only [Builtin.clear_]
 obtain⟨n,rfl⟩:∃m,n=m+1:=⟨n-1,by omega⟩
 simp [a3,aN t hdT,eE elem hi a6,a5,r1]
theorem Nm(w:World)(c:Array Value)(t:TypeId)(n:Nat):(w.alloc (.cells c t (0,0))).freeze ⟨w.heap.size,n,none⟩ 1=w.alloc (.cells c t (n,n+1)):=by
 have h1:((1:Nat)=0)=False:=by simp
 simp only [World.freeze,World.alloc,h1,if_false];congr 1;apply Array.ext_getElem?;intro j;rw[Array.getElem?_modify];simp only [Array.getElem?_push];by_cases hj:w.heap.size=j
 ·subst hj;simp
 ·have:¬j=w.heap.size:=fun x=>hj x.symm
  simp [hj,this]
theorem sC:∀{n:Nat} {e u:TypeId},pA P n e u=true->P.cellsOf e≠0/\∀{d count:Nat},n<=d->1<=count->rowAt P (sameLayout P P.depth · u) d e count 0 1=true
 |0,_,_,h=>by simp [pA] at h
 |n+1,e,u,h=>by
  unfold pA at h;simp only [Bool.and_eq_true,Bool.or_eq_true,Bool.not_eq_true'] at h;obtain⟨h0,h⟩:=h;have hs:P.cellsOf e≠0:=fun x=>by rw[x] at h0;exact absurd h0 (by decide)
  refine⟨hs,fun{d count} hd hc=>?_⟩;obtain⟨d,rfl⟩:∃d',d=d'+1:=⟨d-1,by omega⟩;rcases h with h|h
  ·have he:e=u:=xBa h;subst he;have a4:P.depth=(2*(P.types.size+Made.depth)+1)+1:=rfl;simp [rowAt,hs,hc,a4,sameLayout]
  ·split at h
   ·rename_i fields hf;split at h
    ·rename_i f a0;simp only [Bool.and_eq_true,Bool.not_eq_true'] at h;obtain⟨⟨h1,h2⟩,h3⟩:=h;obtain⟨h4,h5⟩:=sC h3;have a3:f.offset=0:=xBa h2;have hk:=h5 (d:=d) (count:=1) (by omega) (Nat.le_refl _);have a2:0<fields.size:=by
      rcases Nat.lt_or_ge 0 fields.size with q|q
      ·exact q
      ·rw[Array.getElem?_eq_none q] at a0;cases a0
     have a5:fields[0]=f:=by
      rw[Array.getElem?_eq_getElem a2] at a0;exact Option.some.inj a0
     have a1:(fields.any fun f=>decide (f.offset<=0)&&decide (0<f.offset+P.cellsOf f.type)&&rowAt P (sameLayout P P.depth · u) d f.type 1 (0-f.offset) 1)=true:=by
      rw[Array.any_eq_true];refine⟨0,a2,?_⟩;rw[a5];simp [a3,hk];omega
     unfold rowAt;simp only [hs,if_false,Nat.zero_div,Nat.zero_mod,hf,h1,Bool.not_false,Bool.true_and];simp only [xAb (show 0<count by omega),Bool.true_and];rw[Bool.or_eq_true];exact .inr a1
    ·cases h
   ·cases h
theorem Fd{e u:TypeId}(h:pA P 3 e u=true){count:Nat}(hc:1<=count):liesAt P P.depth e count 0 u 1=true:=by
 have a0:P.depth=(2*(P.types.size+Made.depth)+1)+1:=rfl;have hmd:1<=Made.depth:=by decide
 have:=(sC h).2 (d:=P.depth) (count:=count) (by rw[a0];omega) hc;have hx:∀k:Nat,P.depth=k+1->liesAt P (k+1) e count 0 u 1=true:=fun k hk=>by
  simp only [liesAt,this,Bool.true_or]
 have hk:=hx _ a0;rw[<-a0] at hk;exact hk
theorem yB:∀(ns:List Int) (a:Addr) (acc:ByteArray),(∀j n,ns[j]?=some n->w.cell? (a.add j)=some (.int .u8 n))->
  (loadBytes a acc ns.length).run P w= .ok ⟨acc.data++(ns.map fun n=>UInt8.ofNat n.toNat).toArray⟩ w
 | [],a,acc,_=>by simp [loadBytes]
 |x::l,a,acc,h=>by
  have h0:w.cell? a=some (.int .u8 x):=by
   have:=h 0 x rfl;simpa [Addr.add] using this
  have ih:=yB l (a.add 1) (acc.push x.toNat.toUInt8) (fun j y hy=>by
   have:=h (j+1) y (by simpa using hy);have e:(a.add 1).add j=a.add (j+1):=by
    unfold Addr.add;by_cases hj:j=0
    ·subst hj;simp
    ·simp [hj];omega
   rw[e];exact this)
  simp only [List.length_cons,loadBytes,Sem.run_bind,run_load,h0,Result.andThen];rw[ih];congr 1;apply ByteArray.ext;simp [ByteArray.push]
theorem yU:∀{l:List Value} {bs:List UInt8},hQ l=some bs->∃ns:List Int,l=ns.map (Value.int .u8)/\bs=ns.map fun n=>UInt8.ofNat n.toNat:=by
 intro l;induction l with
 |nil=>intro bs hh;simp [hQ] at hh;exact⟨[],by simp [hh]⟩
 |cons v l ih=>
  intro bs hh
  unfold hQ at hh
  split at hh<;>try (cases hh;done)
  ·rename_i heq;cases heq
  ·rename_i n l' heq;cases heq;split at hh
   ·rename_i r' hr';simp at hh;subst hh;obtain⟨ns,e1,e2⟩:=ih hr';exact⟨n::ns,by simp [e1],by simp [e2]⟩
   ·simp at hh
theorem Ma(h:hI P GL B φ M w){argTypes:Array TypeId}{type:TypeId}{x x' y y':Value}(hx:bH φ x x')(hy:bH φ y y'){k:Nat}{r:AR}(ho:Hl P argTypes.toList x y M=some (k,r,M')):
  gN P GL B φ M M' w r ((do pure (.value (<-Builtin.unsafeString_ argTypes type #[x',y'])):Sem Next).run P w):=by
 unfold Hl at ho
 split at ho
 ·rename_i pt _ a n hat;have h0:argTypes[0]?=some pt:=by
   rw[<-Array.getElem?_toList,hat];rfl
  cases hy.of_flat rfl;obtain⟨a',rfl,s1,s2,e,he,b9,c9⟩:=hx.ptr_inv;split at ho
  ·rename_i et b hpt hb;split at ho
   ·rename_i l hl;split at ho
    ·rename_i bs hbs;generalize hq:(decide (0<n)&&decide (n<=1099511627776)&&Nat.beq b.elem et&&b.app&&Nat.beq (P.cellsOf et) 1)=q at ho;cases q<;>simp only [cond_true,cond_false] at ho
     ·simp at ho
     ·simp only [Bool.and_eq_true,decide_eq_true_eq,Nat.beq_eq] at hq;obtain⟨⟨⟨⟨q1,q2⟩,q3⟩,q4⟩,q5⟩:=hq;simp at ho;obtain⟨rfl,rfl,rfl⟩:=ho;obtain⟨e',a1,hr⟩:=h.blk _ _ hb;rw[he] at a1;cases a1;obtain⟨c,lo,hi,c1,c2,c3,c4⟩:=hr.cells;have a2:=(pQ hl).2;obtain⟨ns,e1,e2⟩:=yU hbs;have d0:ns.length=n.toNat:=by rw[<-a2,e1];simp
      have a0:b.app=true\/b.wf<b.cs.length:= .inl q4;have hlt:=hr.lt;have hBe:=hr.own a0;have a6:∀j m,ns[j]?=some m->w.cell? (a'.add j)=some (.int .u8 m):=fun j m hj=>by
       have hv:l[j]?=some (.int .u8 m):=by rw[e1,List.getElem?_map,hj];rfl
       obtain⟨g1,g2⟩:=kR hl j _ hv;obtain⟨v',k1,k2⟩:=Ho hr (a':=a'.add j) (by unfold Addr.add;split<;>simp_all) (by unfold Addr.add;split<;>simp_all) (j:=a.off+j) (by unfold Addr.add;split<;>simp_all<;>omega) g1;rw[k1,k2.int_inv]
      have hsz:e.base+(a.off+n.toNat)<=c.size:=by
       have d2:l≠ []:=fun x=>by rw[x] at a2;simp at a2;omega
       have h1:=kR hl (n.toNat-1) l[n.toNat-1] (xAe (by omega));have h2:a.off+(n.toNat-1)<b.cs.length:=by
        rcases Nat.lt_or_ge (a.off+(n.toNat-1)) b.cs.length with q|q
        ·exact q
        ·rw[List.getElem?_eq_none q] at h1;cases h1.1
       have:=hr.len;omega
      have d1:w.shape? a'.block=some (et,c.size):=by
       unfold World.shape?;rw[b9,c1,q3]
      have a7:liesAt P P.depth et (c.size/P.cellsOf et) a'.off et n.toNat=true:=by
       have c0:P.depth=(2*(P.types.size+Made.depth)+1)+1:=rfl;rw[c0];simp only [liesAt,Bool.or_eq_true];left;rw[c0];simp [rowAt,q5,sameLayout,c9];left;omega
      have b7:(Builtin.unsafeString_ argTypes type #[.pointer (some a'),.int .i64 n]).run P w= .ok (.string ⟨bs.toArray⟩) (w.freeze a' n.toNat):=by
       have b4:IntKind.i64.max=9223372036854775807:=rfl;have b5:¬n<0:=by omega
       have a3:n≠0:=by omega
       have a9:¬(9223372036854775807:Int)<n:=by omega
       have c7:=yB (P:=P) (w:=w) ns a' .empty a6;rw[d0] at c7;change Sem.run P (Bind.bind (asInt (.int .i64 n)) _) w=_;simp [asInt,asIntOf,b4,h0,a9,b5,a3,variablesAt,d1,elemOf,run_underlying hpt,a7,c7,e2]
      obtain⟨lo',hi',a5⟩:∃lo' hi',∀j,(w.freeze a' n.toNat).heap[j]?=if e.block=j then some (.cells c b.elem (lo',hi')) else w.heap[j]?:=by
       refine⟨if lo==hi then a'.off else min lo a'.off,if lo==hi then a'.off+n.toNat else max hi (a'.off+n.toNat),fun j=>?_⟩;have a3:¬n.toNat=0:=by omega
       simp only [World.freeze,a3,if_false,Array.getElem?_modify,b9];by_cases hj:e.block=j
       ·subst hj;simp only [if_true,c1,Option.map_some];split<;>rfl
       ·simp [hj]
      have c6:(w.freeze a' n.toNat).heap.size=w.heap.size:=by
       have a3:¬n.toNat=0:=by omega
       simp [World.freeze,a3]
      have b3:(w.freeze a' n.toNat).os=w.os/\(w.freeze a' n.toNat).tape=w.tape/\(w.freeze a' n.toNat).output=w.output:=by
       have a3:¬n.toNat=0:=by omega
       simp [World.freeze,a3]
      refine gN.val (φ':=φ) (L:=[a.block]) b7 rfl ?_ (.leaf rfl);refine⟨fun _ _=>rfl,Nat.le_refl _,⟨fun id' b' hb'=>?_,fun b8 c8 b1 b2 e1 e2 hne a4 a8 ho c5 b0=>?_,h.glob,by rw[c6];exact h.size,fun id' b' hb'=>?_,fun x hx=>(h.rnd x hx).step (dX.le_refl _) (by rw[a5,if_neg ((h.rnd x hx).ne hr)])⟩,⟨b3.1,b3.2.1,b3.2.2,by rw[c6];exact Nat.le_refl _,fun j hj=>?_⟩,fun i e h1 h2=>(by have:i<M.next:=h2;omega),fun t ht=>by simp at ht;subst ht;exact h.ids _ _ hb⟩
      ·rw[jD,fG (gP hb)] at hb';by_cases hid:id'=a.block
       ·simp [hid] at hb';subst hb';subst hid;refine⟨e,he,.inl ⟨hr.esz,⟨c,lo',hi',by rw[a5,if_pos rfl],c2,c3,fun hw=>?_⟩,hr.len,fun hw=>?_,hr.whole,hr.real⟩⟩
        ·rcases hw with hw|hw
         ·cases hw
         ·exact absurd hw (Nat.lt_irrefl _)
        ·rcases hw with hw|hw
         ·cases hw
         ·exact absurd hw (Nat.lt_irrefl _)
       ·rw[if_neg hid] at hb';obtain⟨e',a1,b6⟩:=h.blkA id' b' hb';rcases h.sepA a.block id' b b' e e' (fun x=>hid x.symm) (gP hb) hb' a0 he a1 with hs|hs
        ·refine⟨e',a1,b6.keep (dX.le_refl φ) ?_⟩;rw[a5,if_neg hs]
        ·by_cases hbe:e.block=e'.block
         ·exact⟨e',a1,.inl ((b6.ro hs.2.1).under hs.2.1 hs.2.2.1 c1 hbe (by rw[a5,if_pos rfl]) rfl fun _ _=>rfl)⟩
         ·refine⟨e',a1,b6.keep (dX.le_refl φ) ?_⟩;rw[a5,if_neg hbe]
      ·rw[jD,fG (gP hb)] at a4 a8;by_cases i1:b8=a.block
       ·simp [i1] at a4;subst a4;rcases ho with ho|ho
        ·cases ho
        ·exact absurd ho (Nat.lt_irrefl _)
       ·rw[if_neg i1] at a4;by_cases i2:c8=a.block
        ·subst i2;rw[he] at b0;cases b0;exact .inl ((h.sepA b8 a.block b1 b e1 e i1 a4 (gP hb) ho c5 he).ne a0)
        ·rw[if_neg i2] at a8;exact h.sepA b8 c8 b1 b2 e1 e2 hne a4 a8 ho c5 b0
      ·rw[jD,fG (gP hb)] at hb';show id'<M.next;by_cases hi:id'=a.block
       ·rw[hi];exact h.ids _ b hb
       ·rw[if_neg hi] at hb';exact h.idsA _ _ hb'
      ·by_cases hje:e.block=j
       ·exact .inr ⟨hje▸hr.own a0,a.block,by simp,e,he,hje⟩
       ·left;rw[a5,if_neg hje]
    ·simp at ho
   ·simp at ho
  ·simp at ho
 ·simp at ho
theorem Ey(h:hI P GL B φ M w)(hg:jP φ M M'){a7 dst:TypeId}{x x':Value}(hx:bH φ x x'){k:Nat}{r:AR}(ho:qX P a7 dst x M=some (k,r,M')):
  k=1/\gN P GL B φ M M' w r ((do pure (.value (<-convert a7 dst x')):Sem Next).run P w):=by
 unfold qX at ho
 split at ho
 ·rename_i e s hsrc hdst;cases hx.of_flat rfl;split at ho
  ·rename_i i he hi;cases hq:(Nat.beq i.size 1&&Nat.ble s.size (2^40))<;>simp only [hq,cond_true,cond_false] at ho
   ·simp at ho
   ·simp only [Bool.and_eq_true,Nat.beq_eq,Nat.ble_eq] at hq;simp [made] at ho;obtain⟨rfl,rfl,rfl⟩:=ho;let q:Question:= .appendCap s.size 0 e
    have a9:s.size<=q.cut (w.tape w.drawn q):=by show s.size<=s.size+_;omega
    let c:Array Value:=(s.data.map fun b=>Value.int .u8 b.toNat)++Array.replicate (q.cut (w.tape w.drawn q)-s.size) (.int .u8 0)
    have hcsz:c.size=q.cut (w.tape w.drawn q):=by
     have:s.data.size=s.size:=rfl;simp [c];omega
    have b3:(jI s s.size).length=s.size:=by
     have h1:s.data.toList.length=s.size:=rfl;simp only [jI,List.length_map,List.length_take,h1,Nat.min_self]
    obtain⟨φ',p1,p2⟩:=h.alloc (hg _ (Nat.le_refl _) (Nat.lt_succ_self _)) {cs:=jI s s.size,elem:=e,esz:=i.size,wf:=0,app:=true} c c.size (c.size+1) (nJ.drew w) (by simp only [b3];omega)
     (fun j v hj=>by
      have b5:j<s.size:=by
       rcases Nat.lt_or_ge j (jI s s.size).length with h|h
       ·omega
       ·simp only at hj;rw[List.getElem?_eq_none h] at hj;cases hj
      refine⟨v,?_,?_⟩
      ·have:s.data.size=s.size:=rfl;rw[Array.getElem?_append_left (by simp;omega)];simp only [jI,List.getElem?_map] at hj;rw[List.getElem?_take_of_lt b5] at hj;simpa using hj
      ·simp only [jI,List.getElem?_map] at hj;obtain⟨b,_,rfl⟩:=Option.map_eq_some_iff.1 hj;exact .leaf rfl) (fun j _ h2=>by simp only [hq.1,Xs,show Nat.beq 1 1=true from rfl,cond_true] at h2;omega)
    refine⟨rfl,gN.val (L:=[]) (v':= .slice (some ⟨w.heap.size,0,none⟩) s.size (q.cut (w.tape w.drawn q))) ?_ rfl p2 (.slice ⟨rfl,rfl,a9,.inl rfl,_,p1,.inr ⟨rfl,by simp,by simp [hq.1];omega⟩⟩)⟩;have hf:=Nm w.drew c e c.size;have e1:w.drew.heap.size=w.heap.size:=rfl;rw[e1] at hf;have b6:(w.drew.alloc (.cells c e (0,0))).shape? w.heap.size=some (e,c.size):=by
     have:=heap_alloc_new w.drew (.cells c e (0,0));rw[e1] at this;unfold World.shape?;rw[this]
    simp only [convert,Sem.run_bind,aN a7 hsrc,aN dst hdst,aN e he,Result.andThen_ok,Conv.stringToBytes,run_choose,Question.forced,Bool.false_eq_true,if_false,wT,markStringish,run_shape];show Result.andThen _ _=_;have e2:({w with drawn:=w.drawn+1}:World)=w.drew:=rfl;simp only [e2];have e3:(s.data.map fun b=>Value.int .u8 b.toNat)++Array.replicate (q.cut (w.tape w.drawn q)-s.size) (.int .u8 0)=c:=rfl;have e4:Question.appendCap s.size 0 e=q:=rfl;simp only [e4,e3,b6,run_freeze,Result.andThen_ok,hf,Sem.run_pure]
  ·simp at ho
 ·rename_i e a len cap hsrc hdst;cases b0:a.spot.isNone
  ·exfalso;rw[b0] at ho;simp only [cond_false] at ho;split at ho<;>simp at ho
  rw[b0] at ho;simp only [cond_true] at ho;obtain⟨a',cap',rfl,s1,s2,s3,s4,en,b4,s5⟩:=hx.slice_inv (by simpa using b0);split at ho
  ·rename_i b he hb;split at ho
   ·rename_i l hl;split at ho
    ·rename_i bs hbs;simp at ho;obtain⟨rfl,rfl,rfl⟩:=ho;obtain⟨en',a3,hr⟩:=h.blk _ _ hb;rw[b4] at a3;cases a3;have a5:∀{l:List Value} {bs:List UInt8},hQ l=some bs->∃ns:List Int,l=ns.map (Value.int .u8)/\bs=ns.map fun n=>UInt8.ofNat n.toNat:=by
      intro l;induction l with
      |nil=>intro bs hh;simp [hQ] at hh;exact⟨[],by simp [hh]⟩
      |cons v l ih=>
       intro bs hh
       unfold hQ at hh
       split at hh<;>try (cases hh;done)
       ·rename_i heq;cases heq
       ·rename_i n l' heq;cases heq;split at hh
        ·rename_i r' hr';simp at hh;subst hh;obtain⟨ns,e1,e2⟩:=ih hr';exact⟨n::ns,by simp [e1],by simp [e2]⟩
        ·simp at hh
     obtain⟨ns,e1,e2⟩:=a5 hbs;have a6:(loadCells a' len).run P w= .ok (ns.map (Value.int .u8)).toArray w:=by
      by_cases h0:len=0
      ·subst h0;simp [range,dJ] at hl;rw[hl] at e1;have:ns=[]:=by cases ns<;>simp at e1⊢
       simp [this,loadCells,loadCellsFrom]
      ·obtain⟨t1,t2,_⟩:=s5.resolve_left (by omega);obtain⟨r',c1,c2,_⟩:=Cl hr s2 t1 t2 hl;have:r'=l:=c2.of_flat (by
        rw[e1];clear c1 c2 e1 e2 hl hbs;induction ns with
        |nil=>rfl
        |cons n ns ih=>simpa [dU,flat] using ih)
       rw[c1,this,e1]
     refine⟨rfl,gN.val (L:=[]) (v':= .string ⟨bs.toArray⟩) ?_ rfl (Post.refl h) (.leaf rfl)⟩;rw[run_convert_bytes_string w a7 dst e _ len cap' hsrc he hdst,run_bytesToString w a' len cap' ns a6];congr 2;rw[e2];have a4:∀(ns:List Int) (s:ByteArray),ns.foldl (fun r n=>r.push (UInt8.ofNat n.toNat)) s=⟨s.data++(ns.map fun n=>UInt8.ofNat n.toNat).toArray⟩:=by
      intro ns;induction ns with
      |nil=>intro s;simp
      |cons n ns ih=>
       intro s
       simp only [List.foldl_cons,ih]
       congr 1
       apply Array.ext'
       simp [ByteArray.push]
     rw[a4];congr 1;apply Array.ext';simp [ByteArray.empty,ByteArray.emptyWithCapacity];rfl
    ·simp at ho
   ·simp at ho
  ·simp at ho
 ·rename_i t a hsrc hdst;obtain⟨a',rfl,s1,s2,e,he,a1,a8⟩:=hx.ptr_inv;split at ho
  ·rename_i j b hj hb;cases hq:(Nat.beq j.size 0|| !(Nat.blt a.off b.cs.length))<;>simp only [hq,cond_true,cond_false] at ho
   ·simp only [Bool.or_eq_false_iff,Bool.not_eq_false'] at hq;simp at ho;obtain⟨rfl,rfl,rfl⟩:=ho;obtain⟨e',a2,hr⟩:=h.blk _ _ hb;rw[he] at a2;cases a2;obtain⟨c,lo,hi,c1,c2,c3,c4⟩:=hr.cells;have b1:=hr.len;have hlt:a.off<b.cs.length:=xAd hq.2;refine⟨rfl,gN.val (L:=[]) (Go.Lib.run_to_unsafe (P:=P) w a' hsrc hdst hj (fun x=>by rw[x] at hq;exact absurd hq.1 (by decide)) (e:=b.elem) (cells:=c.size) ?_ (by omega)) rfl (Post.refl h) (.ptr ⟨s1,s2,e,he,a1,a8⟩)⟩;unfold World.shape?;rw[a1,c1]
   ·simp at ho
  ·simp at ho
 ·rename_i u a hsrc hdst;obtain⟨a',rfl,s1,s2,e,he,a1,a8⟩:=hx.ptr_inv;split at ho
  ·rename_i j b hj hb;cases hq:(Nat.beq j.size 0|| !(Nat.beq b.esz 0)|| !(Nat.beq a.off 0)|| !(Nat.ble (P.cellsOf b.elem) b.cs.length)|| !(pA P 3 b.elem u))<;>simp only [hq,cond_true,cond_false] at ho
   ·simp only [Bool.or_eq_false_iff,Bool.not_eq_false',Nat.beq_eq,Nat.ble_eq] at hq;obtain⟨⟨⟨⟨q1,q2⟩,q3⟩,q4⟩,q5⟩:=hq;simp at ho;obtain⟨rfl,rfl,rfl⟩:=ho;obtain⟨e',a2,hr⟩:=h.blk _ _ hb;rw[he] at a2;cases a2;obtain⟨c,lo,hi,c1,c2,c3,c4⟩:=hr.cells;have b1:=hr.len;have hs:=(sC q5).1;have hbase:e.base=0:=hr.whole q2 fun x=>by rw[x] at q4;simp at q4;exact hs q4
    have b2:a'.off=0:=by omega
    have a0:1<=c.size/P.cellsOf b.elem:=(Nat.one_le_div_iff (by omega)).2 (by omega);refine⟨rfl,gN.val (L:=[]) (Go.Lib.run_from_unsafe (P:=P) w a' hsrc hdst hj (e:=b.elem) (cells:=c.size) ?_ (by rw[b2];exact Fd q5 a0)) rfl (Post.refl h) (.ptr ⟨s1,s2,e,he,a1,a8⟩)⟩;unfold World.shape?;rw[a1,c1]
   ·simp at ho
  ·simp at ho
 ·simp at ho
inductive sY(φ:dX):Option Value->Option Value->Prop where
 |none:sY φ none none
 |some {v v':Value} (h:bH φ v v'):sY φ (some v) (some v')
theorem dH{x x':Option Value}(hx:sY φ x x'){a0 a1 r:Nat}(h:mU x a0 a1=some r){y:Nat}(hy:a0<=y)(code:BoundsCode):
  (x=none/\x'=none/\r=a1)\/(∃v',x'=some v'/\x.isSome=true/\(Instr.sliceBound v' y code).run P w= .ok r w/\r<=a0):=by
 cases hx with
 |none=>left;simp [mU] at h;exact⟨rfl,rfl,h.symm⟩
 |some hv=>
  right
  rename_i v v'
  unfold mU at h
  split at h
  ·simp at*
  ·rename_i k i heq;cases heq;cases hv.int_inv;cases hb:(decide (0<=i)&&decide (i<=(a0:Int)))<;>simp only [hb,cond_true,cond_false] at h
   ·simp at h
   ·simp at hb h;subst h;refine⟨_,rfl,rfl,?_,by omega⟩;have h2:0<=i/\i<=(y:Int):=⟨hb.1,by omega⟩;simp [Instr.sliceBound,asIntOf,h2]
  ·simp at h
theorem Lv(h:hI P GL B φ M w){t:TypeId}{x x':Value}(hx:bH φ x x'){lo lo' hi hi' mx a7:Option Value}(a3:sY φ lo lo')(a5:sY φ hi hi')(a6:sY φ mx a7){v:Value}
  (ho:vY P t x lo hi mx M=some v):∃v',(Instr.sliceAt t x' lo' hi' a7).run P w= .ok v' w/\bH φ v v':=by
 unfold vY at ho
 cases hmh:(mx.isSome&&hi.isNone)<;>simp only [hmh,cond_true,cond_false] at ho
 case true=>simp at ho
 split at ho
 ·rename_i elem a len cap ht;cases a8:a.spot.isNone
  ·exfalso;rw[a8] at ho;simp only [Bool.and_false,cond_false] at ho;split at ho
   ·split at ho
    ·split at ho<;>simp at ho
    ·simp at ho
   ·simp at ho
  rw[a8] at ho;simp only [Bool.and_true] at ho;obtain⟨a',cap',rfl,s1,s2,s3,s4,en,a4,s5⟩:=hx.slice_inv (by simpa using a8);split at ho
  ·rename_i e b m he hb hm;split at ho
   ·rename_i hh hhh;split at ho
    ·rename_i l hl;cases hq:Nat.beq b.esz e.size<;>simp only [hq,cond_true,cond_false] at ho
     ·simp at ho
     ·have a9:b.esz=e.size:=xBa hq;simp only [Option.some.injEq] at ho;obtain⟨b0,a1,hr⟩:=h.blk _ _ hb;rw[a4] at a1;cases a1;have a2:=hr.esz;have hM:=dH (P:=P) (w:=w) a6 hm (y:=cap') s3 .slice3Acap;have key:∃m':Nat,hh<=m'/\l<=hh/\m'<=cap'/\(mx.isSome=true->m'=m)/\(mx.isSome=false->m'=cap'/\m=len)/\hh<=m/\
        (Instr.sliceBounds true len cap' lo' hi' a7).run P w= .ok (l,hh,m') w:=by
       cases a6 with
       |none=>
        simp [mU] at hm
        subst hm
        have hH:=dH (P:=P) (w:=w) a5 hhh (y:=cap') s3 .sliceAcap
        rcases hH with⟨rfl,rfl,e0⟩|⟨v',rfl,hsome,hrun,hle⟩
        ·have hL:=dH (P:=P) (w:=w) a3 hl (y:=hh) (Nat.le_refl _) .sliceB;rcases hL with⟨rfl,rfl,rfl⟩|⟨u,rfl,_,lrun,lle⟩
         ·exact⟨cap',by omega,Nat.zero_le _,Nat.le_refl _,by simp,by simp,by omega,by simp [Instr.sliceBounds,e0]⟩
         ·rw[e0] at lrun;exact⟨cap',by omega,lle,Nat.le_refl _,by simp,by simp,by omega,by simp [Instr.sliceBounds,e0,lrun]⟩
        ·have hL:=dH (P:=P) (w:=w) a3 hl (y:=hh) (Nat.le_refl _) .sliceB;rcases hL with⟨rfl,rfl,rfl⟩|⟨u,rfl,_,lrun,lle⟩
         ·exact⟨cap',by omega,Nat.zero_le _,Nat.le_refl _,by simp,by simp,hle,by simp [Instr.sliceBounds,hrun]⟩
         ·exact⟨cap',by omega,lle,Nat.le_refl _,by simp,by simp,hle,by simp [Instr.sliceBounds,hrun,lrun]⟩
       |some hmv=>
        rcases hM with⟨hc,_⟩|⟨mv,hmv',_,mrun,mle⟩
        ·cases hc
        ·cases hmv';have hH:=dH (P:=P) (w:=w) a5 hhh (y:=m) (Nat.le_refl _) .slice3B;rcases hH with⟨rfl,rfl,rfl⟩|⟨v',rfl,hsome,hrun,hle⟩
         ·simp at hmh
         ·have hL:=dH (P:=P) (w:=w) a3 hl (y:=hh) (Nat.le_refl _) .slice3C;rcases hL with⟨rfl,rfl,rfl⟩|⟨u,rfl,_,lrun,lle⟩
          ·exact⟨m,hle,Nat.zero_le _,by omega,by simp,by simp,hle,by simp [Instr.sliceBounds,mrun,hrun]⟩
          ·exact⟨m,hle,lle,by omega,by simp,by simp,hle,by simp [Instr.sliceBounds,mrun,hrun,lrun]⟩
      obtain⟨m',k1,k2,k3,k4,k5,k6,k7⟩:=key;subst ho;have hA:∀(a:Addr) (k:Nat),a.spot=none->(a.add k).spot=none/\(a.add k).block=a.block/\(a.add k).off=a.off+k:=fun a k ha=>by
       unfold Addr.add;split<;>simp_all
      refine⟨.slice (if m'=l then some a' else some (a'.add (l*e.size))) (hh-l) (m'-l),?_,?_⟩
      ·simp only [Instr.sliceAt,Sem.run_bind,aN t ht,Result.andThen_ok,Instr.slice,k7,cW elem he,Sem.run_pure];by_cases hml:m'=l<;>simp [hml]
      ·have a0:(bif mx.isSome then m-l+1 else bif Nat.beq hh len&& !(Nat.beq cap len) then cap-l else hh-l)=hh-l\/
         (bif mx.isSome then m-l+1 else bif Nat.beq hh len&& !(Nat.beq cap len) then cap-l else hh-l)=m'-l+1:=by
        cases hms:mx.isSome
        ·obtain⟨q1,q2⟩:=k5 hms;cases hf:(Nat.beq hh len&& !(Nat.beq cap len))
         ·left;rfl
         ·right;simp only [Bool.and_eq_true,Bool.not_eq_true'] at hf;have b1:cap≠len:=fun hx=>by simp [hx] at hf
          rcases s4 with s4|s4
          ·exact absurd s4 b1
          ·show cap-l=m'-l+1;omega
        ·right;show m-l+1=m'-l+1;rw[k4 hms]
       by_cases hml:m'=l
       ·rw[if_pos hml];exact .slice ⟨(hA a _ s1).1,s2,by omega,a0,en,by rw[(hA a _ s1).2.1];exact a4,.inl (by omega)⟩
       ·rw[if_neg hml];obtain⟨t1,t2,t3⟩:=s5.resolve_left (by omega);refine .slice ⟨(hA a _ s1).1,(hA a' _ s2).1,by omega,a0,en,by rw[(hA a _ s1).2.1];exact a4,.inr ⟨by rw[(hA a' _ s2).2.1];exact t1,by rw[(hA a' _ s2).2.2,(hA a _ s1).2.2];omega,?_⟩⟩;rw[(hA a _ s1).2.2,a2,a9];rw[a2,a9] at t3;have h1:l*e.size+(m'-l)*e.size=m'*e.size:=by rw[<-Nat.add_mul];congr 1;omega
        have h2:m'*e.size<=cap'*e.size:=Nat.mul_le_mul_right _ k3;omega
    ·simp at ho
   ·simp at ho
  ·simp at ho
 ·rename_i elem ht;have b2:=hx.of_flat rfl;subst b2;split at ho
  ·rename_i e hh he hhh;split at ho
   ·rename_i l hl;cases ho;cases a6;have hH:=dH (P:=P) (w:=w) a5 hhh (y:=0) (Nat.le_refl _) .sliceAcap;have h0:hh=0/\(Instr.sliceBounds true 0 0 lo' hi' none).run P w= .ok (0,0,0) w:=by
     rcases hH with⟨rfl,rfl,e0⟩|⟨v',rfl,hsome,hrun,hle⟩
     ·subst e0;have hL:=dH (P:=P) (w:=w) a3 hl (y:=0) (Nat.le_refl _) .sliceB;rcases hL with⟨rfl,rfl,rfl⟩|⟨u,rfl,_,lrun,lle⟩
      ·exact⟨rfl,by simp [Instr.sliceBounds]⟩
      ·have:l=0:=by omega
       subst this;exact⟨rfl,by simp [Instr.sliceBounds,lrun]⟩
     ·have:hh=0:=by omega
      subst this;have hL:=dH (P:=P) (w:=w) a3 hl (y:=0) (Nat.le_refl _) .sliceB;rcases hL with⟨rfl,rfl,rfl⟩|⟨u,rfl,_,lrun,lle⟩
      ·exact⟨rfl,by simp [Instr.sliceBounds,hrun]⟩
      ·have:l=0:=by omega
       subst this;exact⟨rfl,by simp [Instr.sliceBounds,hrun,lrun]⟩
    refine⟨.slice none 0 0,?_,.leaf rfl⟩;simp [Instr.sliceAt,aN t ht,Instr.slice,h0.2,cW elem he]
   ·cases ho
  ·cases ho
 ·rename_i n elem a ht;obtain⟨a',rfl,s1,s2,en,a4,t1,t2⟩:=hx.ptr_inv;split at ho
  ·rename_i e b m he hb hm;split at ho
   ·rename_i hh hhh;split at ho
    ·rename_i l hl;cases hq:(Nat.beq b.esz e.size&&Nat.ble (a.off+n*e.size) b.cs.length)<;>simp only [hq,cond_true,cond_false] at ho
     ·simp at ho
     ·simp only [Bool.and_eq_true,Nat.beq_eq,Nat.ble_eq] at hq;simp only [Option.some.injEq] at ho;obtain⟨b0,a1,hr⟩:=h.blk _ _ hb;rw[a4] at a1;cases a1;have a2:=hr.esz;have hlen:=hr.len;have key:hh<=m/\l<=hh/\m<=n/\(Instr.sliceBounds false n n lo' hi' a7).run P w= .ok (l,hh,m) w:=by
       have hM:=dH (P:=P) (w:=w) a6 hm (y:=n) (Nat.le_refl _) .slice3Alen;rcases hM with⟨rfl,rfl,rfl⟩|⟨mv,rfl,msome,mrun,mle⟩
       ·have hH:=dH (P:=P) (w:=w) a5 hhh (y:=m) (Nat.le_refl _) .sliceAlen;rcases hH with⟨rfl,rfl,rfl⟩|⟨v',rfl,hsome,hrun,hle⟩
        ·have hL:=dH (P:=P) (w:=w) a3 hl (y:=hh) (Nat.le_refl _) .sliceB;rcases hL with⟨rfl,rfl,rfl⟩|⟨u,rfl,_,lrun,lle⟩
         ·exact⟨Nat.le_refl _,Nat.zero_le _,Nat.le_refl _,by simp [Instr.sliceBounds]⟩
         ·exact⟨Nat.le_refl _,lle,Nat.le_refl _,by simp [Instr.sliceBounds,lrun]⟩
        ·have hL:=dH (P:=P) (w:=w) a3 hl (y:=hh) (Nat.le_refl _) .sliceB;rcases hL with⟨rfl,rfl,rfl⟩|⟨u,rfl,_,lrun,lle⟩
         ·exact⟨hle,Nat.zero_le _,Nat.le_refl _,by simp [Instr.sliceBounds,hrun]⟩
         ·exact⟨hle,lle,Nat.le_refl _,by simp [Instr.sliceBounds,hrun,lrun]⟩
       ·have hH:=dH (P:=P) (w:=w) a5 hhh (y:=m) (Nat.le_refl _) .slice3B;rcases hH with⟨rfl,rfl,rfl⟩|⟨v',rfl,hsome,hrun,hle⟩
        ·rw[msome] at hmh;simp at hmh
        ·have hL:=dH (P:=P) (w:=w) a3 hl (y:=hh) (Nat.le_refl _) .slice3C;rcases hL with⟨rfl,rfl,rfl⟩|⟨u,rfl,_,lrun,lle⟩
         ·exact⟨hle,Nat.zero_le _,mle,by simp [Instr.sliceBounds,mrun,hrun]⟩
         ·exact⟨hle,lle,mle,by simp [Instr.sliceBounds,mrun,hrun,lrun]⟩
      obtain⟨k1,k2,k3,k7⟩:=key;subst ho;have hA:∀(a:Addr) (k:Nat),a.spot=none->(a.add k).spot=none/\(a.add k).block=a.block/\(a.add k).off=a.off+k:=fun a k ha=>by
       unfold Addr.add;split<;>simp_all
      refine⟨.slice (some (if m=l then a' else a'.add (l*e.size))) (hh-l) (m-l),?_,?_⟩
      ·simp [Instr.sliceAt,aN t ht,Instr.sureAddr,k7,cW elem he]
      ·have a0:(bif Nat.beq hh m then hh-l+1 else hh-l)=hh-l\/(bif Nat.beq hh m then hh-l+1 else hh-l)=m-l+1:=by
        cases hf:Nat.beq hh m
        ·left;rfl
        ·right;have:hh=m:=xBa hf;show hh-l+1=m-l+1;omega
       by_cases hml:m=l
       ·rw[if_pos hml];exact .slice ⟨(hA a _ s1).1,s2,by omega,a0,en,by rw[(hA a _ s1).2.1];exact a4,.inl (by omega)⟩
       ·rw[if_neg hml];refine .slice ⟨(hA a _ s1).1,(hA a' _ s2).1,by omega,a0,en,by rw[(hA a _ s1).2.1];exact a4,.inr ⟨by rw[(hA a' _ s2).2.1];exact t1,by rw[(hA a' _ s2).2.2,(hA a _ s1).2.2];omega,?_⟩⟩;rw[(hA a _ s1).2.2,a2,hq.1];have h1:l*e.size+(m-l)*e.size=m*e.size:=by rw[<-Nat.add_mul];congr 1;omega
        have h2:m*e.size<=n*e.size:=Nat.mul_le_mul_right _ k3;omega
    ·simp at ho
   ·simp at ho
  ·simp at ho
 ·simp at ho
end Go.Am

namespace Go.Am
open Go
variable{P:Program}{GL:List Nat}{B:Bd}{φ:dX}{M M':aB}{w:World}
theorem Fy{a b:Value}(h:Hn a b=true):a=b:=by cases a<;>cases b<;>simp_all [Hn]
theorem Ck:∀{l m:List Value},uM l m=true->l=m
 | [],[],_=>rfl
 | [],_::_,h=>by simp [uM] at h
 |_::_,[],h=>by simp [uM] at h
 |a::l,b::m,h=>by
  simp only [uM,Bool.and_eq_true] at h;rw[Fy h.1,Ck h.2]
theorem Df{a b:Value}(h:pF a b=true):a=b:=by
 unfold pF at h;split at h
 ·rw[Ck h]
 ·exact Fy h
theorem Tf{k:TypeId}(h:Nr P k=true):Go.Maps.Keyed P k:=by
 unfold Nr at h;split at h
 ·rename_i hu;simp only [Bool.and_eq_true] at h;exact .of_law (deep_law (m:=5) (by decide) h.1 h.2 (by rw[hu]))
 ·rename_i hu;simp only [Bool.and_eq_true] at h;exact .of_law (deep_law (m:=5) (by decide) h.1 h.2 (by rw[hu]))
 ·rename_i hu;exact Go.Maps.int_keyed hu
 ·rename_i hu;exact Go.Maps.string_keyed hu
 ·rename_i hu;exact Go.Maps.bool_keyed hu
 ·cases h
structure KeyOk(P:Program)(k:TypeId)(key:Value):Prop where
 law:Go.Maps.Keyed P k
 is:∃l,keyOf P k key=some l
 flat:flat key=true
 self:pF key key=true
theorem Dg{k:TypeId}{key:Value}(h:Gf P k key=true):KeyOk P k key:=by unfold Gf at h;simp only [Bool.and_eq_true] at h;obtain⟨⟨⟨h1,h2⟩,h3⟩,h4⟩:=h;exact⟨Tf h1,Option.isSome_iff_exists.1 h2,h3,h4⟩
theorem wN{key v:Value}:∀{l:List Value} {es:List MapEntry},vP φ l es->xQ key l=some v->∃(i:Nat) (e:MapEntry),es[i]?=some e/\e.key=key/\bH φ v e.val
 |_,_,.nil,h=>by simp [xQ] at h
 |_,_,.cons (e:=e) hv hl,h=>by
  simp only [xQ] at h;cases hk:pF key e.key<;>simp only [hk,cond_true,cond_false] at h
  ·obtain⟨i,e',h1,h2,h3⟩:=wN hl h;exact⟨i+1,e',by simpa using h1,h2,h3⟩
  ·simp at h;subst h;exact⟨0,e,rfl,(Df hk).symm,hv⟩
theorem Dm{key:Value}(hs:pF key key=true):∀{l:List Value} {es:List MapEntry},vP φ l es->xQ key l=none->∀e:MapEntry,e∈es->e.key≠key
 |_,_,.nil,_,e,he=>by cases he
 |_,_,.cons (e:=e0) hv hl,h,e,he=>by
  simp only [xQ] at h;cases hk:pF key e0.key<;>simp only [hk,cond_true,cond_false] at h
  ·rcases List.mem_cons.1 he with rfl|he
   ·intro hx;rw[hx,hs] at hk;cases hk
   ·exact Dm hs hl h e he
  ·cases h
theorem Kx{key v v':Value}(a0:bH φ v v'):∀{l:List Value} {es:List MapEntry},vP φ l es->(es.map (fun x:MapEntry=>x.key)).Nodup->∀{j:Nat} {e0:MapEntry},pF key key=true->es[j]?=some e0->e0.key=key->
  vP φ (Ic key v l) (es.modify j fun e=>{e with key:=key,val:=v'})
 |_,_,.nil,_,j,e0,_,h,_=>by simp at h
 |_,_,.cons (e:=e) (es:=es) hv hl,hn,j,e0,hs,h,hk=>by
  simp only [List.map_cons,List.nodup_cons] at hn;cases j with
  |zero=>
   simp at h;subst h
   have:pF key e.key=true:=by rw[hk];exact hs
   simp only [Ic,this,cond_true,List.modify_zero_cons]
   have:=vP.cons (φ:=φ) (e:={e with key:=key,val:=v'}) a0 hl
   rw[hk]
   exact this
  |succ j=>
   simp at h
   have a1:pF key e.key=false:=by
    cases hq:pF key e.key with
    |false=>rfl
    |true=>
     refine absurd ?_ hn.1
     rw[<-Df hq,<-hk]
     exact List.mem_map_of_mem (xAh h)
   simp only [Ic,a1,cond_false,List.modify_succ_cons]
   exact .cons hv (Kx a0 hl hn.2 hs h hk)
theorem Kw{key v v':Value}{n:Nat}(a0:bH φ v v'):∀{l:List Value} {es:List MapEntry},vP φ l es->(∀e∈es,e.key≠key)->vP φ (Ic key v l) (es++ [⟨key,v',n⟩])
 |_,_,.nil,_=> .cons (e:=⟨key,v',n⟩) a0 .nil
 |_,_,.cons (e:=e) hv hl,h=>by
  have a1:pF key e.key=false:=by
   cases hq:pF key e.key with
   |false=>rfl
   |true=>exact absurd (Df hq).symm (h e (by simp))
  simp only [Ic,a1,cond_false,List.cons_append];exact .cons hv (Kw a0 hl fun x hx=>h x (by simp [hx]))
theorem Iz{t:TypeId}{z:Value}(h:Ep P t=some z):(zeroValue t).run P w= .ok z w/\flat z=true:=by
 unfold Ep at h;split at h
 ·rename_i i hi;split at h
  ·rename_i z' hz;cases hf:flat z'<;>simp only [hf,cond_true,cond_false] at h
   ·cases h
   ·cases h;exact⟨eE t hi hz,hf⟩
  ·cases h
 ·cases h
theorem Qc{es:List MapEntry}(hn:(es.map (·.key)).Nodup){i j:Nat}{a b:MapEntry}(ha:es[i]?=some a)(hb:es[j]?=some b)(h:a.key=b.key):i=j:=by
 have h1:(es.map (·.key))[i]?=some a.key:=by simp [ha]
 have h2:(es.map (·.key))[j]?=some a.key:=by simp [hb,h]
 have hi:i<(es.map (·.key)).length:=by
  rcases Nat.lt_or_ge i (es.map (·.key)).length with q|q
  ·exact q
  ·rw[List.getElem?_eq_none q] at h1;cases h1
 exact(List.getElem?_inj hi hn).1 (h1.trans h2.symm)
theorem Hz(h:hI P GL B φ M w){t:TypeId}{x x' key a0:Value}{ok:Bool}(hx:bH φ x x')(hk:bH φ key a0){k:Nat}{r:AR}(ho:Bl P t x key ok M=some (k,r,M')):
  k=1/\gN P GL B φ M M' w r ((do pure (.value (<-Instr.lookup t x' a0 ok)):Sem Next).run P w):=by
 unfold Bl at ho
 split at ho
 ·rename_i kt et rr hu;obtain⟨e,he,hm,rfl⟩:=hx.map_inv;split at ho
  ·rename_i b z hb hz;cases hq:(Nat.beq b.elem kt&&Gf P kt key)<;>simp only [hq,cond_true,cond_false] at ho
   ·cases ho
   ·simp only [Bool.and_eq_true,Nat.beq_eq] at hq;obtain⟨a4,a5⟩:=hq;have K:=Dg a5;obtain⟨lk,a1⟩:=K.is;obtain rfl:a0=key:=hk.of_flat K.flat;obtain⟨e',a2,hr⟩:=h.blkA _ _ (zB.1 hb).1;rw[he] at a2;cases a2;have hM:=hr.map hm;obtain⟨es,ck,c1,c2,c3,c4⟩:=hM.lies;rw[a4] at c4;obtain⟨a6,a3⟩:=Iz (w:=w) hz;rcases K.law.find w a1 es.toList c4 with⟨h1,h2⟩|⟨j,e0,h1,h2,h3⟩
    ·cases hf:xQ a0 b.cs with
     |some v=>
      obtain⟨i,e1,g1,g2,_⟩:=wN c2 hf
      exact absurd g2 (h2 e1 (xAh g1))
     |none=>
      rw[hf] at ho
      simp at ho
      obtain⟨rfl,rfl,rfl⟩:=ho
      refine⟨rfl,gN.val (L:=[]) (v':=if ok then .tuple #[z,.bool false] else z) ?_ rfl (Post.refl h) ?_⟩
      ·simp [Instr.lookup,run_underlying hu,MapKept.run_getObj_map c1,K.law.check w _ a1,h1,a6,Result.andThen]
      ·cases ok
       ·exact bH.refl_flat φ z a3
       ·exact .tuple (.cons (bH.refl_flat φ z a3) (.cons (.leaf rfl) .nil))
    ·cases hf:xQ a0 b.cs with
     |none=>exact absurd h3 (Dm K.self c2 hf e0 (xAh h2))
     |some v=>
      obtain⟨i,e1,g1,g2,g3⟩:=wN c2 hf
      obtain rfl:=Qc c3 g1 h2 (g2.trans h3.symm)
      rw[h2] at g1;cases g1
      rw[hf] at ho
      simp at ho
      obtain⟨rfl,rfl,rfl⟩:=ho
      refine⟨rfl,gN.val (L:=[]) (v':=if ok then .tuple #[e0.val,.bool true] else e0.val) ?_ rfl (Post.refl h) ?_⟩
      ·simp [Instr.lookup,run_underlying hu,MapKept.run_getObj_map c1,K.law.check w _ a1,h1,Result.andThen]
      ·cases ok
       ·exact g3
       ·exact .tuple (.cons g3 (.cons (.leaf rfl) .nil))
  ·cases ho
 ·cases ho
theorem hI.allocU(h:hI P GL B φ M w)(hg:φ M.next=none)(b:aR)(o:Obj)(ne:pW)(b0:ne.block=w.heap.size){w1:World}(hs:nJ w w1)(hU:∀φ':dX,φ.le φ'->pX P B φ' (w1.alloc o) ne b):
  ∃φ',φ' M.next=some ne/\Post P GL B φ φ' M (M.alloc b) [] w (w1.alloc o):=by
 have a1:∀k,k<w.heap.size->(w1.alloc o).heap[k]?=w.heap[k]?:=fun k hk=>by
  rw[heap_alloc_old _ _ (by rw[hs.heap];exact hk),hs.heap]
 refine⟨fun id=>if id=M.next then some ne else φ id,by simp,?_⟩
 have a6:φ.le (fun id=>if id=M.next then some ne else φ id):=fun id e he=>by
  have:id≠M.next:=fun x=>by rw[x,hg] at he;cases he
  simp [this,he]
 refine⟨fun id hi=>?_,Nat.le_succ _,⟨fun id b' hb=>?_,fun a7 a8 b1 b2 e1 e2 b0 a4 a5 ho a2 a3=>?_,fun g hgl=>?_,?_,fun id b' hb=>?_,fun x hx=>(h.rnd x hx).step a6 (a1 _ (h.rnd x hx).lt)⟩,⟨hs.os,hs.tape,hs.output,?_,fun k hk=> .inl (a1 k hk)⟩,fun id e h1 h2 he=>?_,fun t ht=>by cases ht⟩
 ·have:id≠M.next:=by
   rcases hi with hi|hi
   ·omega
   ·have:M.next+1<=id:=hi;omega
  simp [this]
 ·rw[jM] at hb;by_cases hid:id=M.next
  ·subst hid;simp only [if_true] at hb;cases hh:bD M.hide M.next<;>simp only [hh,cond_true,cond_false] at hb
   ·simp at hb;subst hb;exact⟨_,by simp,hU _ a6⟩
   ·cases hb
  ·rw[if_neg hid] at hb;obtain⟨e,he,hr⟩:=h.blkA id b' hb;exact⟨e,a6 _ _ he,hr.keep a6 (a1 _ hr.lt)⟩
 ·rw[jM] at a4 a5;have a0:∀id b' e,id≠M.next->M.getA id=some b'->φ id=some e->e.block<w.heap.size:=fun id b' e hn hb' he=>by
   obtain⟨e',a9,hr⟩:=h.blkA id b' hb';rw[he] at a9;cases a9;exact hr.lt
  by_cases i1:a7=M.next<;>by_cases i2:a8=M.next
  ·omega
  ·simp only [i1,if_true] at a2;simp only [i2,if_false] at a3 a5;cases a2;have:=a0 a8 b2 e2 i2 a5 a3;exact .inl (by omega)
  ·simp only [i2,if_true] at a3;simp only [i1,if_false] at a2 a4;cases a3;have:=a0 a7 b1 e1 i1 a4 a2;exact .inl (by omega)
  ·simp only [i1,i2,if_false] at a2 a3 a4 a5;exact h.sepA a7 a8 b1 b2 e1 e2 b0 a4 a5 ho a2 a3
 ·obtain⟨h1,e,he,h2⟩:=h.glob g hgl;exact⟨Nat.lt_succ_of_lt h1,e,a6 _ _ he,h2⟩
 ·intro k hk;refine h.size k ?_;simp [hs.heap] at hk;omega
 ·rw[jM] at hb;show id<M.next+1;by_cases hid:id=M.next
  ·omega
  ·rw[if_neg hid] at hb;have:=h.idsA id b' hb;omega
 ·simp [hs.heap]
 ·have:id=M.next:=by have:id<M.next+1:=h2;omega
  simp only [this,if_true] at he;cases he;exact .inl (by omega)
theorem Te{hint:Option Value}(h:Td hint=true):∀v,hint=some v->∃k n,v= .int k n:=fun v hv=>by
 subst hv;cases v<;>first|exact⟨_,_,rfl⟩|(simp [Td] at h)
theorem Fg(h:hI P GL B φ M w)(hg:jP φ M M'){t:TypeId}{a1:Option Value}{a0:Option Value}(hh:sY φ a1 a0){k:Nat}{r:AR}(ho:xE P t a1 M=some (k,r,M')):
  k=1/\gN P GL B φ M M' w r ((do pure (.value (<-Instr.makeMap t a0)):Sem Next).run P w):=by
 unfold xE at ho
 split at ho
 ·rename_i kt et hu;cases hq:Td a1<;>simp only [hq,cond_true,cond_false] at ho
  ·cases ho
  ·simp at ho;obtain⟨rfl,rfl,rfl⟩:=ho;obtain⟨φ',h1,h2⟩:=h.allocU (hg _ (Nat.le_refl _) (Nat.lt_succ_self _)) ⟨[],kt,nY,0,true⟩ (.map #[] 0) ⟨w.heap.size,1,0,nY⟩ rfl (nJ.refl w) (fun φ' hle=> .inr ⟨⟨rfl,rfl,rfl⟩,rfl,
    ⟨#[],0,heap_alloc_new _ _,.nil,by simp,by simp⟩,h.size _ (Nat.le_refl _),rfl,rfl⟩)
   refine⟨rfl,gN.val (L:=[]) (v':= .map (some w.heap.size)) ?_ rfl h2 (.map h1 ⟨rfl,rfl,rfl⟩)⟩;cases hh with
   |none=>simp [Instr.makeMap]
   |some hv=>
    obtain⟨k',n',rfl⟩:=Te hq _ rfl
    cases hv.int_inv
    simp [Instr.makeMap,run_underlying hu,asInt,asIntOf]
 ·cases ho
theorem hI.putU(h:hI P GL B φ M w){id:Nat}{b:aR}(hb:M.getA id=some b){e:pW}(he:φ id=some e)(a8:b.app=true)(b0:b.wf=0)(b':aR)(_:b'.app=true)(_:b'.wf=0)(o:Obj)
  (hr:pX P B φ w e b) (hU:pX P B φ (eQ w e.block o) e b'):Post P GL B φ φ M (M.put id (some b')) [id] w (eQ w e.block o):=by
 have b4:=hr.lt
 have a1:b.app=true\/b.wf<b.cs.length:= .inl a8
 have b3:=hr.own a1
 have a0:∀j,(eQ w e.block o).heap[j]?=if e.block=j then some o else w.heap[j]?:=fun j=>by
  rw[nL,if_pos b4]
 refine⟨fun _ _=>rfl,Nat.le_refl _,⟨fun id' b1 hb'=>?_,fun a6 a7 b1 b2 e1 e2 hne a3 a2 ho a4 a5=>?_,h.glob,?_,fun id' b1 hb'=>?_,fun x hx=>(h.rnd x hx).step (dX.le_refl _) (by rw[a0,if_neg ((h.rnd x hx).neU hr)])⟩,⟨rfl,rfl,rfl,by simp [eQ],fun j hj=>?_⟩,fun i e h1 h2=>(by have:i<M.next:=h2;omega),fun t ht=>by simp at ht;subst ht;exact h.idsA _ _ hb⟩
 ·rw[jD,fG hb] at hb';by_cases hid:id'=id
  ·simp [hid] at hb';subst hb';subst hid;exact⟨e,he,hU⟩
  ·rw[if_neg hid] at hb';obtain⟨e',a9,b5⟩:=h.blkA id' b1 hb';have hs:=(h.sepA id id' b b1 e e' (fun x=>hid x.symm) hb hb' a1 he a9).ne0 b0;exact⟨e',a9,b5.keep (dX.le_refl φ) (by rw[a0,if_neg hs])⟩
 ·rw[jD,fG hb] at a3 a2;by_cases i1:a6=id
  ·subst i1;rw[he] at a4;cases a4;rw[if_neg (fun x=>hne x.symm)] at a2;exact .inl ((h.sepA a6 a7 b b2 e e2 hne hb a2 a1 he a5).ne0 b0)
  ·rw[if_neg i1] at a3;by_cases i2:a7=id
   ·subst i2;rw[he] at a5;cases a5;exact .inl ((h.sepA a6 a7 b1 b e1 e hne a3 hb ho a4 he).ne a1)
   ·rw[if_neg i2] at a2;exact h.sepA a6 a7 b1 b2 e1 e2 hne a3 a2 ho a4 a5
 ·simp [eQ];exact h.size
 ·rw[jD,fG hb] at hb';show id'<M.next;by_cases hi:id'=id
  ·rw[hi];exact h.idsA id b hb
  ·rw[if_neg hi] at hb';exact h.idsA _ _ hb'
 ·by_cases hje:e.block=j
  ·exact .inr ⟨hje▸b3,id,by simp,e,he,hje⟩
  ·left;rw[a0,if_neg hje]
theorem Bf(h:hI P GL B φ M w){t:TypeId}{x x' key a0 v v':Value}(hx:bH φ x x')(hk:bH φ key a0)(hv:bH φ v v'){k:Nat}{r:AR}(ho:rX P t x key v M=some (k,r,M')):
  k=2/\gN P GL B φ M M' w r ((do Instr.mapUpdate t x' a0 v';pure .skip:Sem Next).run P w):=by
 unfold rX at ho
 split at ho
 ·rename_i kt et rr hu;obtain⟨e,he,hm,rfl⟩:=hx.map_inv;split at ho
  ·rename_i b hb;cases hq:(Nat.beq b.elem kt&&Gf P kt key)<;>simp only [hq,cond_true,cond_false] at ho
   ·cases ho
   ·simp at ho;obtain⟨rfl,rfl,rfl⟩:=ho;simp only [Bool.and_eq_true,Nat.beq_eq] at hq;obtain⟨a7,b1⟩:=hq;have K:=Dg b1;obtain⟨lk,a3⟩:=K.is;obtain rfl:a0=key:=hk.of_flat K.flat;obtain⟨a6,a9⟩:=zB.1 hb;obtain⟨e',b0,hr⟩:=h.blkA _ _ a6;rw[he] at b0;cases b0;have hM:=hr.map hm;obtain⟨es,ck,c1,c2,c3,c4⟩:=hM.lies;have b2:=hr.lt;rw[a7] at c4;have hset:∀o,({w with heap:=w.heap.setIfInBounds e.block o}:World)=eQ w e.block o:=fun o=>rfl
    have a5:∀o,(eQ w e.block o).heap[e.block]?=some o:=fun o=>by rw[nL,if_pos rfl,if_pos b2]
    rcases K.law.find w a3 es.toList c4 with⟨h1,h2⟩|⟨j,e0,h1,h2,h3⟩
    ·have a2:(Instr.mapUpdate t (.map (some e.block)) a0 v').run P w= .ok () (eQ w e.block (.map (es.push ⟨a0,v',ck⟩) (ck+1))):=by
      simp [Instr.mapUpdate,run_underlying hu,MapKept.run_getObj_map c1,K.law.check w false a3,h1,MapKept.run_setObj_map _ c1,Result.andThen,eQ]
     refine⟨rfl,gN.skip (L:=[rr]) a2 rfl (h.putU a6 he hM.app hM.wf {b with cs:=Ic a0 v b.cs} hM.app hM.wf _ hr (.inr ⟨hm,a9,⟨es.push ⟨a0,v',ck⟩,ck+1,a5 _,?_,?_,?_⟩,hM.own,hM.app,hM.wf⟩))⟩
     ·rw[Array.toList_push];exact Kw hv c2 h2
     ·rw[Array.toList_push,List.map_append,List.nodup_append];refine⟨c3,by simp,fun a ha b hb'=>?_⟩;simp only [List.map_cons,List.map_nil,List.mem_singleton] at hb';obtain⟨x,a1,rfl⟩:=List.mem_map.1 ha;rw[hb'];exact h2 x a1
     ·intro x a1;show∃l,keyOf P b.elem x.key=some l;rw[a7];rw[Array.toList_push] at a1;rcases List.mem_append.1 a1 with a1|a1
      ·exact c4 x a1
      ·simp only [List.mem_singleton] at a1;subst a1;exact⟨lk,a3⟩
    ·have hj:es[j]?=some e0:=by simpa using h2
     have b3:(Instr.keyThatStays a0 a0).run P w= .ok a0 w:=K.law.stays w a3;have a2:(Instr.mapUpdate t (.map (some e.block)) a0 v').run P w= .ok () (eQ w e.block (.map (es.modify j fun e=>{e with key:=a0,val:=v'}) ck)):=by
      simp [Instr.mapUpdate,run_underlying hu,MapKept.run_getObj_map c1,K.law.check w false a3,h1,hj,h3,b3,MapKept.run_setObj_map _ c1,Result.andThen,eQ]
     have a8:(es.modify j fun e=>{e with key:=a0,val:=v'}).toList=es.toList.modify j fun e=>{e with key:=a0,val:=v'}:=by simp
     refine⟨rfl,gN.skip (L:=[rr]) a2 rfl (h.putU a6 he hM.app hM.wf {b with cs:=Ic a0 v b.cs} hM.app hM.wf _ hr (.inr ⟨hm,a9,⟨es.modify j fun e=>{e with key:=a0,val:=v'},ck,a5 _,?_,?_,?_⟩,hM.own,hM.app,hM.wf⟩))⟩
     ·rw[a8];exact Kx hv c2 c3 K.self h2 h3
     ·rw[a8];have a4:(es.toList.modify j fun e=>{e with key:=a0,val:=v'}).map (·.key)=es.toList.map (·.key):=by
       apply List.ext_getElem?;intro i;rw[List.getElem?_map,List.getElem?_modify,List.getElem?_map];by_cases hij:j=i
       ·subst hij;rw[h2];simp [h3]
       ·cases hq:es.toList[i]?<;>simp [hij]
      rw[a4];exact c3
     ·intro x a1;show∃l,keyOf P b.elem x.key=some l;rw[a7];rw[a8] at a1;obtain⟨i,hi⟩:=List.mem_iff_getElem?.1 a1;rw[List.getElem?_modify] at hi;cases hq:es.toList[i]? with
      |none=>rw[hq] at hi;simp at hi
      |some y=>
       rw[hq] at hi
       by_cases hij:j=i
       ·simp [hij] at hi;subst hi;exact⟨lk,a3⟩
       ·simp [hij] at hi;subst hi;exact c4 _ (xAh hq)
  ·cases ho
 ·cases ho
end Go.Am

noncomputable section
namespace Go.Am
open Go
variable{P:Program}{GL:List Nat}{B:Bd}{φ:dX}{M M':aB}{w:World}{T:Tr Value}{n:Nat}{a:Act}
def RO(ro:Option Nat):Fence:={Fence.wide with round:=ro}
theorem Fq(ro:Option Nat)(f:FuncId):(RO ro).fn f:=trivial
variable{ro:Option Nat}
def sX(P:Program)(φ:dX)(f:FuncId)(args:Array Value)(w:World)(R:Ending->World->Prop):Prop:=
 (f<YB->Calls P f args w R)/\(∀r e,f=YB+r->φ r=some e->YieldAt Fence.wide 0 P e.block args w R)
def kC(P:Program)(GL:List Nat)(B:Bd)(callF:dD):Prop:=
 ∀f args M v M',callF f args M=some (v,M')->M'.hide=M.hide/\∀φ w,hI P GL B φ M w->jP φ M M'->∀args':Array Value,cE φ args args'.toList->
  sX P φ f args' w fun e w'=>∃L φ' v',e= .returned v'/\M'.log=L++M.log/\Post P GL B φ φ' M M' L w w'/\bH φ' v v'
def Vb(φ:dX):AR->Value->Prop
 | .val v,v'=>bH φ v v'
 | .skip,v'=>v'=undef
theorem hI.congr{M1 M2:aB}(a0:∀id,M2.getA id=M1.getA id)(hn:M2.next=M1.next)(h:hI P GL B φ M1 w):hI P GL B φ M2 w:=
 ⟨fun id b hb=>h.blkA id b (a0 id▸hb),fun a b c d e f g h1 h2=>h.sepA a b c d e f g (a0 a▸h1) (a0 b▸h2),fun g hg=>by rw[hn];exact h.glob g hg,h.size,fun id b hb=>by rw[hn];exact h.idsA id b (a0 id▸hb),h.rnd⟩
theorem Post.congr{φ':dX}{M1 M2 M1' a2:aB}{L:List Nat}{w':World}(hn:M2.next=M1.next)(a0:∀id,a2.getA id=M1'.getA id)(a1:a2.next=M1'.next)(h:Post P GL B φ φ' M1 M1' L w w'):Post P GL B φ φ' M2 a2 L w w':=
 ⟨fun id hi=>h.ext id (by rw[hn,a1] at hi;exact hi),by rw[hn,a1];exact h.next,h.rel.congr a0 a1,h.fr,fun id e h1 h2=>h.newb id e (by rw[hn] at h1;exact h1) (by rw[a1] at h2;exact h2),fun t ht=>by rw[a1];exact h.logb t ht⟩
theorem Gh{m t:Nat}:∀{l:List Nat},t∈l->t<m->t∈kG m l
 | [],h,_=>by cases h
 |x::l,h,hlt=>by
  unfold kG;rcases List.mem_cons.1 h with rfl|h
  ·have:Nat.blt t m=true:=Nat.ble_eq_true_of_le hlt;simp [this]
  ·cases hb:Nat.blt x m<;>simp [Gh h hlt]
theorem Ce{m t:Nat}:∀{l:List Nat},t∈kG m l->t<m
 | [],h=>by cases h
 |x::l,h=>by
  unfold kG at h;cases hb:Nat.blt x m<;>simp only [hb,cond_true,cond_false] at h
  ·exact Ce h
  ·rcases List.mem_cons.1 h with rfl|h
   ·exact xAd hb
   ·exact Ce h
def eJ(P:Program):Prop:=P.funcs.size<=YB/\∀(f:FuncId) (fn:Func),P.funcs[f]?=some fn->(fn.name== "runtime.NumGoroutine")=false
theorem Cz(hN:eJ P){f:FuncId}(hb:fI P f=true):f<YB:=by
 unfold fI at hb;split at hb
 ·rename_i fn hf;exact xAf (Array.getElem?_eq_some_iff.1 hf).1 hN.1
 ·cases hb
theorem xK(hN:eJ P){f:FuncId}(hb:fI P f=true)(args:Array Value):(callFunc f args).run P w= .ok (.enter f args) w:=by
 unfold fI at hb;split at hb
 ·rename_i fn hf;have h1:=hN.2 f fn hf;have h2:fn.body.isNone=false:=by cases hh:fn.body<;>simp [hh] at hb⊢
  have a0:fn.name≠ "runtime.NumGoroutine" :=by simpa using h1
  have a1:¬fn.body=none:=by intro x;simp [x] at h2
  simp [callFunc,hf,a0,a1]
 ·cases hb
theorem Hs:∀{l:List Operand} {vs:List Value},pS GL T l=some vs->∀x∈l,∃v,ev GL T x=some v
 | [],_,_,x,hx=>by cases hx
 |y::l,vs,h,x,hx=>by
  simp only [pS] at h;split at h
  ·rename_i v vs' h1 h2;rcases List.mem_cons.1 hx with rfl|hx
   ·exact⟨v,h1⟩
   ·exact Hs h2 x hx
  ·cases h
theorem sF(hg:Ay GL φ)(hT:gO φ T n a.tmps){o:Option Operand}(h:∀x,o=some x->∃v,ev GL T x=some v):sY φ (o.bind (ev GL T)) (o.map a.eval):=by
 cases o with
 |none=>exact .none
 |some x=>
  obtain⟨v,hv⟩:=h x rfl
  simp only [Option.bind_some,Option.map_some,hv]
  exact .some (bO hg hT hv)
theorem fW{o:Oper}{r:AR}(a0:∀c,o.op≠ .defer c)(h:gN P GL B φ M M' w r ((execOp a.eval o).run P w)){next:Act->World->Prop}{Q:Exit->Act->World->Prop}
  (hk:∀L φ' v' w',M'.log=L++M.log->Post P GL B φ φ' M M' L w w'->Vb φ' r v'->next (a.put o.dst v') w'):o.wpIn (RO ro) 0 P a w next Q:=by
 obtain⟨L,φ',w',nx,h1,h2,h3,h4⟩:=h
 unfold Oper.wpIn
 refine⟨fun f _=>Fq _ f,?_⟩
 rw[Oper.semAt_eq _ _ _ a0,h1]
 cases h4 with
 |val hv=>exact hk L φ' _ w' h2 h3 hv
 |skip=>exact hk L φ' _ w' h2 h3 rfl
theorem On{o:Oper}{v':Value}{w':World}{next:Act->World->Prop}{Q:Exit->Act->World->Prop}(hv:(execOp a.eval o).run P w= .ok (.value v') w')(h:next (a.put o.dst v') w'):o.wpIn (RO ro) 0 P a w next Q:=by
 unfold Oper.wpIn;refine⟨fun f _=>Fq _ f,?_⟩;rw[Oper.semAt_eq _ _ _ fun c hc=>?_,hv]
 ·exact h
 ·simp only [execOp,hc,Sem.run_bind] at hv;cases hrs:Sem.run P (resolve a.eval c o.type) w<;>simp [hrs,Result.andThen] at hv
theorem Kc{o:Oper}{f:FuncId}{args':Array Value}{next:Act->World->Prop}{Q:Exit->Act->World->Prop}(a1:∀c,o.op≠ .defer c)(a0:f<YB)(he:(execOp a.eval o).run P w= .ok (.enter f args') w)
  (R:Ending->World->Prop) (h:sX P φ f args' w R) (hk:∀e w',R e w'->∃v,e= .returned v/\next (a.put o.dst v) w'):o.wpIn (RO ro) 0 P a w next Q:=by
 unfold Oper.wpIn
 refine⟨fun f _=>Fq _ f,?_⟩
 rw[Oper.semAt_eq _ _ _ a1,he,Oper.uponIn_enter]
 refine⟨fun hx=>by simp [RO,Fence.wide] at hx,?_⟩
 have h1:CallsIn (RO ro) (0-1) P f args' w R:=(callsIn_wide (n:=0-1)).2 (h.1 a0)
 refine h1.mono fun e w' hR=>?_
 obtain⟨v,rfl,hn⟩:=hk e w' hR
 exact hn
theorem Uz{o:Oper}{r:Nat}{en:pW}{args':Array Value}{next:Act->World->Prop}{Q:Exit->Act->World->Prop}(a1:∀c,o.op≠ .defer c)(a0:φ r=some en)(he:(execOp a.eval o).run P w=(Instr.yield en.block args').run P w)
  (R:Ending->World->Prop) (h:sX P φ (YB+r) args' w R) (hk:∀e w',R e w'->∃v,e= .returned v/\next (a.put o.dst v) w'):o.wpIn (RO ro) 0 P a w next Q:=by
 obtain⟨fn,tm,as,bo,h1,h2⟩:=h.2 r en rfl a0
 unfold Oper.wpIn
 refine⟨fun f _=>Fq _ f,?_⟩
 rw[Oper.semAt_eq _ _ _ a1,he,h1,Oper.uponIn_round]
 refine⟨fun hx=>by simp [RO,Fence.wide] at hx,?_⟩
 have h3:RoundIn (RO ro) (0-1) P en.block fn tm as bo w R:=h2
 refine h3.mono fun e w' hR=>?_
 obtain⟨v,rfl,hn⟩:=hk e w' hR
 exact hn
theorem Bv{a0:dD}(hC:kC P GL B a0)(hR:hI P GL B φ M w)(hG:jP φ M M'){o:Oper}{f:FuncId}{args:List Value}{args':Array Value}(ha:cE φ args args'.toList){next:Act->World->Prop}{Q:Exit->Act->World->Prop}
  (he:∀R:Ending->World->Prop,sX P φ f args' w R->(∀e w',R e w'->∃v,e= .returned v/\next (a.put o.dst v) w')->o.wpIn (RO ro) 0 P a w next Q) {k:Nat} {r:AR} (h:lB a0 f args M=some (k,r,M'))
  (hk:∀L φ' v' w',M'.log=L++M.log->Post P GL B φ φ' M M' L w w'->Vb φ' r v'->next (a.put o.dst v') w'):o.wpIn (RO ro) 0 P a w next Q:=by
 unfold lB at h
 split at h
 ·rename_i v M1 hcall;obtain⟨a3,a1⟩:=hC _ _ _ _ _ hcall;have a5:hI P GL B φ {M with log:=[]} w:=hI.congr (M1:=M) (fun _=>rfl) rfl hR;have a6:M'.next=M1.next:=by
   split at h<;>simp at h<;>(obtain⟨_,_,rfl⟩:=h;rfl)
  have a4:jP φ {M with log:=[]} M1:=fun id h1 h2=>hG id h1 (by rw[a6];exact h2)
  refine he _ (a1 φ w a5 a4 args' ha) ?_;rintro e w' ⟨L,φ',v',rfl,hlog,hpost,hv⟩;refine⟨v',rfl,?_⟩;simp only [List.append_nil] at hlog;have key:∀M2:aB,(∀id,M2.getA id=M1.getA id)->M2.next=M1.next->M2.log=kG M.next M1.log++M.log->Post P GL B φ φ' M M2 (kG M.next M1.log) w w':=fun M2 q1 q2 _=>
   (Post.congr (M1:={M with log:=[]}) (M2:=M) (M1':=M1) rfl q1 q2 hpost).weaken (fun t ht hne=>Gh (hlog▸ht) (by
    rcases Nat.lt_or_ge t M.next with h|h
    ·exact h
    ·exact absurd (a4 t h (hpost.logb t ht)) hne)) (fun t ht=>by rw[q2];exact xAf (Ce ht) hpost.next)
  have a2:∀l id,({M1 with log:=l,hide:=M.hide}:aB).getA id=M1.getA id:=fun l id=>by
   unfold aB.getA;simp only [a3]
  split at h
  ·rename_i hnil;simp at h;obtain⟨_,rfl,rfl⟩:=h;have:=key _ (a2 M.log) rfl (by rw[hnil];rfl);rw[hnil] at this;exact hk [] φ' v' w' rfl this hv
  ·rename_i l hl;simp at h;obtain⟨_,rfl,rfl⟩:=h;exact hk _ φ' v' w' rfl (key _ (a2 _) rfl rfl) hv
 ·simp at h
theorem El{v v':Value}(hv:bH φ v v'){g:FuncId}{x y:List Value}(h:zR v=some (g,x,y)):∃x' y':Array Value,v'= .func (.func g) x' y'/\cE φ x x'.toList/\cE φ y y'.toList:=by
 unfold zR at h;split at h
 ·simp at h;obtain⟨rfl,rfl,rfl⟩:=h;exact hv.func_inv rfl
 ·simp at h
theorem Cj(hN:eJ P){t:TypeId}{name:String}{g:FuncId}(h:Bm P t name=some g)(hb:fI P g=true)(v:Value)(args:Array Value):(callMethod (.iface t v) name args).run P w= .ok (.enter g (#[v]++args)) w:=by
 unfold Bm at h;split at h
 ·rename_i i hi;split at h
  ·rename_i m hm;split at h
   ·rename_i hp;split at h
    ·rename_i f b d hf hd;have a2:b=Hy d:=by
      cases hq:(b==Hy d)<;>simp only [hq,cond_true,cond_false] at h
      ·cases h
      ·exact eq_of_beq hq
     have a3:f=g:=by
      rw[a2] at h;simpa using h
     subst a3;have a0:(method (P.types.size+Made.depth) t v name).run P w= .ok (f,v) w:=by
      have hdp:0<Made.depth:=by decide
      obtain⟨k,hk⟩:∃k,P.types.size+Made.depth=k+1:=⟨P.types.size+Made.depth-1,by omega⟩;rw[hk];have a1:∀wr,(receiverAt t (.val v) b wr).run P w= .ok v w:=fun wr=>by
       subst a2;unfold receiverAt;simp only [Sem.run_bind,run_underlying hd,Result.andThen_ok];cases d<;>simp [Hy,Place.get]
      simp [method,lI t hi,hm,hp,follow,hf,a1]
     simp only [callMethod,Sem.run_bind,run_program,Result.andThen_ok,a0];exact xK hN hb _
    ·cases h
   ·cases h
  ·cases h
 ·cases h
set_option maxHeartbeats 1000000 in
theorem Cc{a0:dD}(hN:eJ P)(hC:kC P GL B a0)(hR:hI P GL B φ M w)(hG:jP φ M M')(hT:gO φ T n a.tmps){o:Oper}{k:Nat}{r:AR}(h:jY P GL a0 o T M=some (k,r,M')){next:Act->World->Prop}{Q:Exit->Act->World->Prop}
  (hk:∀L φ' v' w',M'.log=L++M.log->Post P GL B φ φ' M M' L w w'->Vb φ' r v'->next (a.put o.dst v') w'):o.wpIn (RO ro) 0 P a w next Q:=by
 have hg:Ay GL φ:=fun g hgl=>(hR.glob g hgl).2
 unfold jY at h
 split at h
 ·rename_i r0 h0;simp at h;obtain⟨_,rfl,rfl⟩:=h;obtain⟨v,rfl,v',a9,b0⟩:=vV (w:=w) hg hT h0;exact On a9 (hk [] φ v' w rfl (Post.refl hR) b0)
 ·replace h:fM P GL a0 o T M=some (k,r,M'):=by
   split at h
   ·cases h
   ·exact h
  obtain⟨dst,op,type,pos,after,guard⟩:=o;unfold fM at h;split at h<;>rename_i hop<;>simp only at hop;case h_1 elem=>subst hop;exact fW (by simp) (Jl hR hG h).2 hk
  case h_2 elem x=>
   subst hop
   split at h
   ·rename_i v hx;exact fW (by simp) (Pw hR hG (bO hg hT hx) h).2 hk
   ·simp at h
  case h_3 t len parts=>
   subst hop
   split at h
   ·rename_i ps hps;have h1:=qR hg hT hps;exact fW (by simp) (yT (ps':=parts.map fun(i,x)=>(i,a.eval x)) hR hG (by simpa using h1.1) (by simpa using h1.2) h).2 hk
   ·simp at h
  case h_4 t x=>
   subst hop
   split at h
   ·rename_i ad hx;split at h
    ·rename_i v hv;simp at h;obtain⟨_,rfl,rfl⟩:=h;obtain⟨v',e1,e2⟩:=Di hR (bO hg hT hx) hv;exact fW (by simp) (gN.val (L:=[]) e1 rfl (Post.refl hR) e2) hk
    ·simp at h
   ·simp at h
  case h_5 t x y=>
   subst hop
   split at h
   ·rename_i ad v hx hy;split at h
    ·rename_i M1 hs;simp at h;obtain⟨_,rfl,rfl⟩:=h;exact fW (by simp) (Ly hR (bO hg hT hx) (bO hg hT hy) hs) hk
    ·simp at h
   ·simp at h
  case h_6 src dst x=>
   subst hop
   split at h
   ·rename_i v hx;exact fW (by simp) (Ey hR hG (bO hg hT hx) h).2 hk
   ·simp at h
  case h_7 t l c=>
   subst hop
   split at h
   ·rename_i l' c' hl hc;exact fW (by simp) (Be hR hG (bO hg hT hl) (bO hg hT hc) h).2 hk
   ·simp at h
  case h_8 t x lo hi mx=>
   subst hop
   split at h
   ·rename_i v vs hx hvs;split at h
    ·rename_i r1 a8;simp at h;obtain⟨_,rfl,rfl⟩:=h;have hm:=Hs hvs;obtain⟨v',e1,e2⟩:=Lv hR (bO hg hT hx) (sF hg hT (o:=lo) fun y hy=>hm y (by simp [hy])) (sF hg hT (o:=hi) fun y hy=>hm y (by simp [hy])) (sF hg hT (o:=mx) fun y hy=>hm y (by simp [hy])) a8;exact fW (by simp) (gN.val (L:=[]) e1 rfl (Post.refl hR) e2) hk
    ·simp at h
   ·simp at h
  case h_9 c=>
   subst hop
   obtain⟨callee,args,argTypes⟩:=c
   simp only at h
   split at h
   ·rename_i f;split at h
    ·rename_i fv as hf has;split at h
     ·rename_i g first captured htg
      cases hb:fI P g<;>simp only [hb,cond_true,cond_false] at h
      ·obtain⟨x',y',e1,e2,e3⟩:=El (bO hg hT hf) htg;have e4:=gA hg hT has;have e5:=(e2.append e4).append e3;unfold Mq at h;split at h<;>try (simp at h;done)
       rename_i fn x hfn hxl;cases hnm:(fn.name== "internal/abi.NoEscape" &&fn.origin== "" &&fn.body.isNone)<;>simp only [hnm,cond_true,cond_false] at h
       ·simp at h
       ·simp only [Bool.and_eq_true] at hnm;simp at h;obtain⟨_,rfl,rfl⟩:=h;rw[hxl] at e5;generalize hm:x'.toList++args.toList.map a.eval++y'.toList=m at e5;cases e5 with
        |cons k1 k2=>
         cases k2
         rename_i u
         have a1:x'++args.map a.eval++y'= #[u]:=by apply Array.ext';simpa using hm
         have a7:(fn.name== "runtime.NumGoroutine")=false:=hN.2 g fn hfn
         have a4:(callFunc g #[u]).run P w= .ok (.value u) w:=by
          have a2:fn.name= "internal/abi.NoEscape" :=eq_of_beq hnm.1.1;have a3:fn.origin= "" :=eq_of_beq hnm.1.2;have h1:Extern.findNext fn=none:=by
           unfold Extern.findNext;rw[a2,a3];kernel_rfl
          have h2:Extern.find fn=some Extern.AbiNoEscape.same:=by
           unfold Extern.find;rw[a2,a3];kernel_rfl
          rw[run_callFunc_extern hfn a7 hnm.2 h1 h2];rfl
         refine fW (by simp) ⟨[],φ,w,.value u,?_,rfl,Post.refl hR,.val k1⟩ hk
         simp [execOp,resolve,e1,Deferred.ofValue,invoke,a1,a4]
      ·obtain⟨x',y',e1,e2,e3⟩:=El (bO hg hT hf) htg;have e4:=gA hg hT has;refine Bv hC hR hG (args':=x'++args.map a.eval++y') ?_ (Kc (by simp) (Cz hN hb) ?_) h hk
       ·have:=(e2.append e4).append e3;simpa using this
       ·simp [execOp,resolve,e1,Deferred.ofValue,invoke,xK hN hb]
     ·unfold Hm at h;split at h
      ·obtain⟨en,a5,e1⟩:=(bO (a:=a) hg hT hf).yld_inv;have e4:=gA (a:=a) hg hT has;refine Bv hC hR hG (args':=args.map a.eval) ?_ (Uz (by simp) a5 ?_) h hk
       ·simpa using e4
       ·simp [execOp,resolve,e1,Deferred.ofValue,invoke]
      ·simp at h
    ·simp at h
   ·rename_i x name;split at h
    ·rename_i t v as hx has;split at h
     ·rename_i g a6;cases hb:fI P g<;>simp only [hb,cond_true,cond_false] at h
      ·simp at h
      ·obtain⟨u,e1,e2⟩:=(bO hg hT hx).iface_inv;have e4:=gA hg hT has;refine Bv hC hR hG (args':= #[u]++args.map a.eval) ?_ (Kc (by simp) (Cz hN hb) ?_) h hk
       ·simpa using cE.cons e2 e4
       ·have h3:=Cj (w:=w) hN a6 hb u (args.map a.eval);have h5:(#[Value.iface t u]++args.map a.eval)[0]?=some (.iface t u):=by rw[Array.getElem?_append_left (by simp)];rfl
        have h6:(#[Value.iface t u]++args.map a.eval).extract 1 (#[Value.iface t u]++args.map a.eval).size=args.map a.eval:=by
         generalize args.map a.eval=m;apply Array.ext';simp [List.extract]
        simp only [execOp,resolve,Sem.run_bind,Sem.run_pure,Result.andThen_ok,invoke,e1,h5,h6];exact h3
     ·simp at h
    ·simp at h
   ·split at h
    ·rename_i s x has;have e4:=gA hg hT has;generalize hm:args.toList.map a.eval=m at e4;cases e4 with
     |cons k1 k2=>cases k2 with
      |cons k2 k3=>
       cases k3
       rename_i u1 u2
       have a1:args.map a.eval= #[u1,u2]:=by apply Array.ext';simpa using hm
       have hs:=Hj (type:=type) hR hG k1 k2 h
       refine fW (by simp) ?_ hk
       simpa [execOp,resolve,invoke,builtin,a1] using hs
    ·simp at h
   ·split at h
    ·rename_i s x has;have e4:=gA hg hT has;generalize hm:args.toList.map a.eval=m at e4;cases e4 with
     |cons k1 k2=>cases k2 with
      |cons k2 k3=>
       cases k3
       rename_i u1 u2
       have a1:args.map a.eval= #[u1,u2]:=by apply Array.ext';simpa using hm
       have hs:=Nc (type:=type) hR k1 k2 h
       refine fW (by simp) ?_ hk
       simpa [execOp,resolve,invoke,builtin,a1] using hs
    ·simp at h
   ·split at h
    ·rename_i x has;have e4:=gA hg hT has;generalize hm:args.toList.map a.eval=m at e4;cases e4 with
     |cons k1 k2=>cases k2
                  rename_i u1
                  have a1:args.map a.eval= #[u1]:=by apply Array.ext';simpa using hm
                  have hs:=Ka (type:=type) hR k1 h
                  refine fW (by simp) ?_ hk
                  simpa [execOp,resolve,invoke,builtin,a1] using hs
    ·simp at h
   ·split at h
    ·rename_i s x has;have e4:=gA hg hT has;generalize hm:args.toList.map a.eval=m at e4;cases e4 with
     |cons k1 k2=>cases k2 with
      |cons k2 k3=>
       cases k3
       rename_i u1 u2
       have a1:args.map a.eval= #[u1,u2]:=by apply Array.ext';simpa using hm
       have hs:=Ma (type:=type) hR k1 k2 h
       refine fW (by simp) ?_ hk
       simpa [execOp,resolve,invoke,builtin,a1] using hs
    ·simp at h
   ·simp at h
  case h_10 t hint=>
   subst hop
   split at h
   ·rename_i vs hvs;have hm:=Hs hvs;exact fW (by simp) (Fg hR hG (sF hg hT (o:=hint) fun y hy=>hm y (by simp [hy])) h).2 hk
   ·simp at h
  case h_11 t x ky ok=>
   subst hop
   split at h
   ·rename_i v key hx hy;exact fW (by simp) (Hz hR (bO hg hT hx) (bO hg hT hy) h).2 hk
   ·simp at h
  case h_12 t x ky v=>
   subst hop
   split at h
   ·rename_i m key u hx hy hz;exact fW (by simp) (Bf hR (bO hg hT hx) (bO hg hT hy) (bO hg hT hz) h).2 hk
   ·simp at h
  case h_13=>simp at h
end Go.Am
end
