/-
  Package hier: each of its laws for every argument; no conditions. The last text states which.
-/
import Derived.Test.YtdaglldahidmbaaGAmSeq
import Derived.Still
set_option linter.unusedVariables false
set_option linter.unusedSimpArgs false
namespace Go.Am
open Go
variable{P:Program}{GL:List Nat}{ops:Array Oper}
structure mK(ops:Array Oper):Prop where
 back: ∀(i:Nat) (o:Oper),ops[i]?=some o-> ∀e∈o.after,Region.binds .any e=true->e.on<i
 apart: ∀(i j:Nat) (oi oj:Oper),i<j->ops[i]?=some oi->ops[j]?=some oj->(∀e∈oj.after,Region.binds .any e=true->e.on≠i)->oi.apart ops oj=true
theorem tU: ∀(fuel k:Nat) (listed:Array Bool),listed.size=ops.size->k+fuel=ops.size->(∀j,j<ops.size->listed.getD j false=decide (j<k))->Region.lexFrom .any ops fuel k listed=true->
  (∀(i:Nat) (o:Oper),k<=i->ops[i]?=some o-> ∀e∈o.after,Region.binds .any e=true->e.on<i)/\
  (∀(i j:Nat) (oi oj:Oper),k<=i->i<j->ops[i]?=some oi->ops[j]?=some oj->(∀e∈oj.after,Region.binds .any e=true->e.on≠i)->oi.apart ops oj=true)
 |0,k,listed,hs,hk,hl,h=>by
  refine⟨fun i o hi ho=> ?_,fun i j oi oj hi hij hoi=> ?_⟩
  ·have:=(Array.getElem?_eq_some_iff.1 ho).1;omega
  ·have:=(Array.getElem?_eq_some_iff.1 hoi).1;omega
 |fuel+1,k,listed,hs,hk,hl,h=>by
  simp only [Region.lexFrom,Bool.and_eq_true] at h
  obtain⟨⟨h1,h2⟩,h3⟩:=h
  have ih:=tU fuel (k+1) (listed.setIfInBounds k true) (by simp [hs]) (by omega) (fun j hj=>by
   by_cases e:k=j
   ·subst e;simp [hs,hj]
   ·rw[getD_set_ne false e,hl j hj];congr 1;apply propext;omega) h3
  have hr:k∈Region.ready .any ops listed:=by simpa using h1
  obtain⟨_,o,ho,hall⟩:=mem_ready.1 hr
  refine⟨fun i oi hi hoi e he hb=> ?_,fun i j oi oj hi hij hoi hoj hno=> ?_⟩
  ·rcases Nat.lt_or_ge k i with hlt|hge
   ·exact ih.1 i oi hlt hoi e he hb
   ·have:i=k:=by omega
    subst this
    rw[ho] at hoi;cases hoi
    have h4:=hall e he hb
    have hon:e.on<ops.size:=by
     rcases Nat.lt_or_ge e.on listed.size with h|h
     ·omega
     ·simp [Array.getElem?_eq_none h] at h4
    rw[hl _ hon] at h4
    simpa using h4
  ·rcases Nat.lt_or_ge k i with hlt|hge
   ·exact ih.2 i j oi oj hlt hij hoi hoj hno
   ·have:i=k:=by omega
    subst this
    have hj:j<ops.size:=(Array.getElem?_eq_some_iff.1 hoj).1
    refine Region.free_spec hoi h2 j oj hoj (by omega) ?_ hno
    have:=hl j hj
    have hjs:j<listed.size:=by omega
    simp [hjs] at this⊢
    rw[this];simp;omega
theorem yR(h:kA ops=true):mK ops:=by
 simp only [kA,Region.lexB,Bool.and_eq_true] at h
 have:=tU ops.size 0 (Array.replicate ops.size false) (by simp) (by omega) (fun j hj=>by simp [hj]) h.2
 exact⟨fun i o ho=>this.1 i o (Nat.zero_le _) ho,fun i j oi oj hij=>this.2 i j oi oj (Nat.zero_le _) hij⟩
theorem uP{acc:List Nat}: ∀{l:List Edge} {m:Nat},(vV acc l).testBit m=true-> ∃e∈l,Region.binds .any e=true/\(m=e.on\/ ∃d,acc[e.on]?=some d/\d.testBit m=true)
 | [],m,h=>by simp [vV] at h
 |e::l,m,h=>by
  unfold vV at h
  cases hb:Region.binds .any e<;>simp only [hb,cond_true,cond_false] at h
  ·obtain⟨e',he',hh⟩:=uP h
   exact⟨e',by simp [he'],hh⟩
  ·rw[Nat.testBit_or,Nat.testBit_or] at h
   simp only [Bool.or_eq_true] at h
   rcases h with(h|h)|h
   ·refine⟨e,by simp,hb,.inl ?_⟩
    rw[Nat.testBit_two_pow] at h
    simpa [eq_comm] using h
   ·cases hd:acc[e.on]? with
    |none=>simp [hd] at h
    |some d=>exact⟨e,by simp,hb,.inr ⟨d,hd,by simpa [hd] using h⟩⟩
   ·obtain⟨e',he',hh⟩:=uP h
    exact⟨e',by simp [he'],hh⟩
theorem vS: ∀(l:List Oper) (acc:List Nat),(∃r,bD l acc=acc++r)/\(bD l acc).length=acc.length+l.length/\
  ∀(i:Nat) (o:Oper),l[i]?=some o-> ∃d,(bD l acc)[acc.length+i]?=some d/\ ∀m,d.testBit m=true-> ∃e∈o.after,Region.binds .any e=true/\(m=e.on\/ ∃d',(bD l acc)[e.on]?=some d'/\d'.testBit m=true)
 | [],acc=>⟨⟨[],by simp [bD]⟩,by simp [bD],fun i o h=>by simp at h⟩
 |o::l,acc=>by
  simp only [bD]
  obtain⟨⟨r,hr⟩,hlen,hsp⟩:=vS l (acc++ [vV acc o.after.toList])
  refine⟨⟨vV acc o.after.toList::r,by rw[hr];simp⟩,by rw[hlen];simp;omega,fun i oi hi=> ?_⟩
  cases i with
  |zero=>
   simp at hi;subst hi
   refine⟨vV acc o.after.toList,by rw[hr];simp,fun m hm=> ?_⟩
   obtain⟨e,he,hb,hh⟩:=uP hm
   refine⟨e,by simpa using he,hb,hh.imp (fun x=>x) fun⟨d,hd,hdm⟩=>⟨d,?_,hdm⟩⟩
   have hlt:e.on<acc.length:=by
    rcases Nat.lt_or_ge e.on acc.length with h|h
    ·exact h
    ·rw[List.getElem?_eq_none h] at hd;cases hd
   rw[hr,List.getElem?_append_left (by simp;omega),List.getElem?_append_left hlt]
   exact hd
  |succ i=>
   simp at hi
   obtain⟨d,hd,hm⟩:=hsp i oi hi
   refine⟨d,?_,hm⟩
   simp only [List.length_append,List.length_cons,List.length_nil] at hd
   rw[show acc.length+(i+1)=acc.length+(0+1)+i by omega]
   exact hd
def vH(ops:Array Oper)(o:Oper)(ld:Nat->Nat)(m j:Nat):Prop:=
 lJ ops=true/\((zM o=true/\ld j=1/\Cc ops sE m=true)\/(fP o=true/\ld m=1/\Cc ops zM m=true))
structure Fo(P:Program)(GL:List Nat)(callF:cK)(ops:Array Oper)(before:List Nat)(h0:List (Nat×Nat))(S:TypeId->Addr->Prop)(st:Nat->St)(ld:Nat->Nat)(j:Nat):Prop where
 hide:(st (j+1)).M.hide=h0
 ex: ∃o deps,ops[j]?=some o/\before[j]?=some deps/\
  ((eK ops (st j).T o=some false/\oQ o .skip (st j)=some (st (j+1))/\ld j=0)\/
   (eK ops (st j).T o=some true/\ ∃r M' H,jG P GL callF o (st j).T {(st j).M with hide:=H++h0}=some (ld j,r,M')/\oQ o r {st j with M:={M' with hide:=h0}}=some (st (j+1))/\
   (∀m,m<j->ld m≠0->deps.testBit m=false-> ∀id,(st m).M.next<=id->id<(st (m+1)).M.next->aZ H id=true)/\
   (2<=ld j->H= []\/(lJ ops=true/\fP o=true))/\(∀id,aZ H id=true->id<(st j).M.next)/\
   (∀m,m<j->ld m≠0->ld j≠0->deps.testBit m=true\/(ld m=1/\ld j=1)\/vH ops o ld m j))\/
   (eK ops (st j).T o=some true/\ ∃t x a v H,o.op= .load t x/\ev GL (st j).T x=some (.pointer (some a))/\aX P t a {(st j).M with hide:=H++h0}=some v/\oQ o (.val v) (st j)=some (st (j+1))/\ld j=0/\S t a))
theorem lF{deps:Nat}: ∀{dn:List jF} {d:jF},d∈dn->d.loud≠0->deps.testBit d.ix=false-> ∀id,d.lo<=id->id<d.hi->aZ (aS deps dn) id=true
 | [],_,h,_,_,_,_,_=>by cases h
 |x::dn,d,h,hl,ht,id,h1,h2=>by
  unfold aS
  rcases List.mem_cons.1 h with rfl|h
  ·have c1:Nat.beq d.loud 0=false:=by cases hb:Nat.beq d.loud 0<;>first|rfl|exact absurd (Nat.eq_of_beq_eq_true hb) hl
   have c2:Nat.beq d.lo d.hi=false:=by cases hb:Nat.beq d.lo d.hi<;>first|rfl|(have:=Nat.eq_of_beq_eq_true hb;omega)
   simp only [c1,c2,ht,Bool.or_false,cond_false,aZ]
   have c3:Nat.ble d.lo id=true:=Nat.ble_eq_true_of_le h1
   have c4:Nat.blt id d.hi=true:=Nat.ble_eq_true_of_le h2
   simp [c3,c4]
  ·cases hq:(Nat.beq x.loud 0||deps.testBit x.ix||Nat.beq x.lo x.hi)<;>simp only [cond_true,cond_false,aZ]
   ·simp [lF h hl ht id h1 h2]
   ·exact lF h hl ht id h1 h2
theorem sA{deps n:Nat}: ∀{dn:List jF},(∀d∈dn,d.hi<=n)-> ∀id,aZ (aS deps dn) id=true->id<n
 | [],_,id,h=>by simp [aS,aZ] at h
 |x::dn,hd,id,h=>by
  unfold aS at h
  cases hq:(Nat.beq x.loud 0||deps.testBit x.ix||Nat.beq x.lo x.hi)<;>simp only [hq,cond_true,cond_false,aZ] at h
  ·simp only [Bool.or_eq_true,Bool.and_eq_true] at h
   rcases h with h|h
   ·have h2:id<x.hi:=Nat.le_of_ble_eq_true h.2
    have:=hd x (by simp);omega
   ·exact sA (fun d hd'=>hd d (by simp [hd'])) id h
  ·exact sA (fun d hd'=>hd d (by simp [hd'])) id h
theorem yT{deps loud:Nat}: ∀{dn:List jF},qU deps loud dn=true-> ∀d∈dn,d.loud=0\/loud=0\/deps.testBit d.ix=true\/(d.loud=1/\loud=1)
 | [],_,_,h=>by cases h
 |x::dn,h,d,hd=>by
  simp only [qU,Bool.and_eq_true,Bool.or_eq_true,Nat.beq_eq] at h
  rcases List.mem_cons.1 hd with rfl|hd
  ·rcases h.1 with((h|h)|h)|h
   ·exact .inl h
   ·exact .inr (.inl h)
   ·exact .inr (.inr (.inl h))
   ·exact .inr (.inr (.inr h))
  ·exact yT h.2 d hd
theorem Mo{o:Oper}{deps k:Nat}{dn:List jF}(h:qU deps k dn=true):uW ops o deps k dn=true:=by simp [uW,h]
theorem Bu{o:Oper}{deps loud:Nat}: ∀{dn:List jF},Mp ops o deps loud dn=true-> ∀d∈dn,d.loud=0\/loud=0\/deps.testBit d.ix=true\/(d.loud=1/\loud=1)\/
  (zM o=true/\loud=1/\Cc ops sE d.ix=true)\/(fP o=true/\d.loud=1/\Cc ops zM d.ix=true)
 | [],_,_,h=>by cases h
 |x::dn,h,d,hd=>by
  simp only [Mp,Bool.and_eq_true,Bool.or_eq_true,Nat.beq_eq] at h
  rcases List.mem_cons.1 hd with rfl|hd
  ·rcases h.1 with((((h|h)|h)|h)|h)|h
   ·exact .inl h
   ·exact .inr (.inl h)
   ·exact .inr (.inr (.inl h))
   ·exact .inr (.inr (.inr (.inl h)))
   ·exact .inr (.inr (.inr (.inr (.inl ⟨h.1.1,h.1.2,h.2⟩))))
   ·exact .inr (.inr (.inr (.inr (.inr ⟨h.1.1,h.1.2,h.2⟩))))
  ·exact Bu h.2 d hd
theorem nJ{o:Oper}{deps loud:Nat}{dn:List jF}(h:uW ops o deps loud dn=true): ∀d∈dn,d.loud=0\/loud=0\/deps.testBit d.ix=true\/(d.loud=1/\loud=1)\/
  (lJ ops=true/\((zM o=true/\loud=1/\Cc ops sE d.ix=true)\/(fP o=true/\d.loud=1/\Cc ops zM d.ix=true))):=fun d hd=>by
 simp only [uW,Bool.or_eq_true,Bool.and_eq_true] at h
 rcases h with h|⟨h1,h2⟩
 ·rcases yT h d hd with q|q|q|q
  ·exact .inl q
  ·exact .inr (.inl q)
  ·exact .inr (.inr (.inl q))
  ·exact .inr (.inr (.inr (.inl q)))
 ·rcases Bu h2 d hd with q|q|q|q|q
  ·exact .inl q
  ·exact .inr (.inl q)
  ·exact .inr (.inr (.inl q))
  ·exact .inr (.inr (.inr (.inl q)))
  ·exact .inr (.inr (.inr (.inr ⟨h1,q⟩)))
theorem sW{deps:Nat}: ∀{dn:List jF},(∀d∈dn,d.loud=0\/deps.testBit d.ix=true)->aS deps dn= []
 | [],_=>rfl
 |x::dn,h=>by
  unfold aS
  have:(Nat.beq x.loud 0||deps.testBit x.ix||Nat.beq x.lo x.hi)=true:=by
   rcases h x (by simp) with h|h
   ·simp [h]
   ·simp [h]
  rw[this]
  exact sW fun d hd=>h d (by simp [hd])
theorem rP{S:TypeId->Addr->Prop}{callF:cK}(hA:bO callF){before:List Nat}: ∀(l:List Oper) (i:Nat) (dn:List jF) (s s':St) (st0:Nat->St) (ld0:Nat->Nat),(∀j,l[j]?=ops[i+j]?)->
  oS P GL callF ops before l i dn s=some s'->st0 i=s->(∀d∈dn,d.hi<=s.M.next)->(∀m,m<i->ld0 m≠0->(⟨m,ld0 m,(st0 m).M.next,(st0 (m+1)).M.next⟩:jF)∈dn)->
  ∃(st:Nat->St) (ld:Nat->Nat),(∀j,j<=i->st j=st0 j)/\(∀j,j<i->ld j=ld0 j)/\st (i+l.length)=s'/\ ∀j,i<=j->j<i+l.length->Fo P GL callF ops before s.M.hide S st ld j
 | [],i,dn,s,s',st0,ld0,hl,h,hs,hd,hm=>by
  simp [oS] at h;subst h
  exact⟨st0,ld0,fun _ _=>rfl,fun _ _=>rfl,by simpa using hs,fun j h1 h2=>by simp at h2;omega⟩
 |o::l,i,dn,s,s',st0,ld0,hl,h,hs,hd,hm=>by
  have h0:ops[i]?=some o:=by simpa using(hl 0).symm
  have hl': ∀j,l[j]?=ops[i+1+j]?:=fun j=>by
   have:=hl (j+1)
   rw[show i+1+j=i+(j+1) by omega]
   simpa using this
  simp only [oS] at h
  split at h
  ·rename_i deps hw hb
   split at h
   ·rename_i k r M' hop
    cases hmay:uW ops o deps k dn<;>simp only [hmay,cond_true,cond_false] at h
    ·cases h
    ·split at h
     ·rename_i s1 hput
      have habs:=kZ hA hop
      obtain⟨L,hL,_⟩:=habs.ex
      have a1:s1.M={M' with hide:=s.M.hide}:=eV hput
      have hnext:s.M.next<=s1.M.next:=by rw[a1];exact hL.next
      have hMn:s1.M.next=M'.next:=by rw[a1]
      obtain⟨st,ld,e1,e2,e3,e4⟩:=rP (S:=S) hA l (i+1) (⟨i,k,s.M.next,M'.next⟩::dn) s1 s' (fun j=>if j=i+1 then s1 else st0 j) (fun j=>if j=i then k else ld0 j) hl' h (by simp)
       (fun d hd'=>by
        rcases List.mem_cons.1 hd' with rfl|hd'
        ·rw[hMn];exact Nat.le_refl _
        ·exact Nat.le_trans (hd d hd') hnext)
       (fun m hlt hne=>by
        by_cases hmi:m=i
        ·subst hmi
         simp [hs,hMn]
        ·have h1:m≠i+1:=by omega
         have h2:m+1≠i+1:=by omega
         simp only [hmi,h1,h2,if_false] at hne⊢
         exact List.mem_cons_of_mem _ (hm m (by omega) hne))
      have hsti:st i=s:=by rw[e1 i (by omega)];simp [hs]
      have a0:st (i+1)=s1:=by rw[e1 (i+1) (by omega)];simp
      have hldi:ld i=k:=by rw[e2 i (by omega)];simp
      have hstm: ∀m,m<=i->st m=st0 m:=fun m hmi=>by
       rw[e1 m (by omega)]
       have:m≠i+1:=by omega
       simp [this]
      have hldm: ∀m,m<i->ld m=ld0 m:=fun m hmi=>by
       rw[e2 m (by omega)]
       have:m≠i:=by omega
       simp [this]
      refine⟨st,ld,hstm,hldm,by rw[<-e3];congr 1;simp;omega,fun j h1 h2=> ?_⟩
      rcases Nat.lt_or_ge i j with hij|hij
      ·have:=e4 j (by omega) (by simp at h2;omega)
       have hh:s1.M.hide=s.M.hide:=by rw[a1]
       rw[hh] at this
       exact this
      ·have hji:j=i:=by omega
       subst hji
       have hrec: ∀m,m<j->ld m≠0->(⟨m,ld m,(st m).M.next,(st (m+1)).M.next⟩:jF)∈dn:=fun m hmj hne=>by
        rw[hldm m hmj,hstm m (by omega),hstm (m+1) (by omega)]
        exact hm m hmj (by rw[<-hldm m hmj];exact hne)
       refine⟨by rw[a0,a1],o,deps,h0,hb,.inr (.inl ⟨by rw[hsti];exact hw,r,M',aS deps dn,by rw[hsti,hldi];exact hop,by rw[hsti,a0];exact hput,?_,?_,?_,?_⟩)⟩
       ·intro m hmj hne ht id q1 q2
        exact lF (hrec m hmj hne) hne ht id q1 q2
       ·intro h2
        by_cases hst:lJ ops=true/\fP o=true
        ·exact .inr hst
        refine .inl (sW fun d hd'=> ?_)
        rcases nJ hmay d hd' with q|q|q|q|⟨q0,q|q⟩
        ·exact .inl q
        ·omega
        ·exact .inr q
        ·omega
        ·omega
        ·exact absurd ⟨q0,q.1⟩ hst
       ·intro id hid
        rw[hsti]
        exact sA hd id hid
       ·intro m hmj hne hnj
        rcases nJ hmay _ (hrec m hmj hne) with q|q|q|q|⟨q0,q|q⟩
        ·exact absurd q hne
        ·exact absurd (by rw[hldi];exact q) hnj
        ·exact .inl q
        ·exact .inr (.inl ⟨q.1,by rw[hldi];exact q.2⟩)
        ·exact .inr (.inr ⟨q0,.inl ⟨q.1,by rw[hldi];exact q.2.1,q.2.2⟩⟩)
        ·exact .inr (.inr ⟨q0,.inr q⟩)
     ·cases h
   ·cases h
  ·rename_i deps hw hb
   split at h
   ·rename_i s1 hput
    have a1:s1.M=s.M:=eV hput
    obtain⟨st,ld,e1,e2,e3,e4⟩:=rP (S:=S) hA l (i+1) dn s1 s' (fun j=>if j=i+1 then s1 else st0 j) (fun j=>if j=i then 0 else ld0 j) hl' h (by simp)
     (fun d hd'=>by rw[a1];exact hd d hd')
     (fun m hlt hne=>by
      by_cases hmi:m=i
      ·subst hmi;simp at hne
      ·have h1:m≠i+1:=by omega
       have h2:m+1≠i+1:=by omega
       simp only [hmi,h1,h2,if_false] at hne⊢
       exact hm m (by omega) hne)
    have hsti:st i=s:=by rw[e1 i (by omega)];simp [hs]
    have a0:st (i+1)=s1:=by rw[e1 (i+1) (by omega)];simp
    have hldi:ld i=0:=by rw[e2 i (by omega)];simp
    refine⟨st,ld,fun m hmi=> ?_,fun m hmi=> ?_,by rw[<-e3];congr 1;simp;omega,fun j h1 h2=> ?_⟩
    ·rw[e1 m (by omega)]
     have:m≠i+1:=by omega
     simp [this]
    ·rw[e2 m (by omega)]
     have:m≠i:=by omega
     simp [this]
    ·rcases Nat.lt_or_ge i j with hij|hij
     ·have:=e4 j (by omega) (by simp at h2;omega)
      rw[a1] at this
      exact this
     ·have hji:j=i:=by omega
      subst hji
      exact⟨by rw[a0,a1],o,deps,h0,hb,.inl ⟨by rw[hsti];exact hw,by rw[hsti,a0];exact hput,hldi⟩⟩
   ·cases h
  ·cases h
theorem wN{GL:List Nat}{sl:List Nat}{n0 i b:Nat}{o:Oper}{T:Tr Value}(h:nF GL sl n0 o i T=some b):(∃t x a,o.op= .load t x/\ev GL T x=some (.pointer (some a))/\b=a.block)/\b<n0:=by
 unfold nF at h
 cases hc:fF i sl<;>simp only [hc,cond_true,cond_false] at h
 ·cases h
 ·unfold Gq at h
  split at h
  ·rename_i t x hop
   split at h
   ·rename_i a ha
    cases hb:Nat.blt a.block n0<;>simp only [hb,cond_true,cond_false] at h
    ·cases h
    ·simp only [Option.some.injEq] at h
     subst h
     exact⟨⟨t,x,a,hop,ha,rfl⟩,Nat.le_of_ble_eq_true hb⟩
   ·cases h
  ·cases h
theorem Ht{callF:cK}{o:Oper}{T:Tr Value}{M M':aA}{k:Nat}{r:AR}{t:TypeId}{x:Operand}{a:Addr}(h1:o.op= .load t x)(h2:ev GL T x=some (.pointer (some a)))(h:jG P GL callF o T M=some (k,r,M')):
  ∃v,r= .val v/\aX P t a M=some v:=by
 obtain⟨dst,op,type,pos,after,guard⟩:=o
 simp only at h1
 subst h1
 simp only [jG,eT,eU,h2] at h
 cases hl:aX P t a M with
 |none=>rw[hl] at h;cases h
 |some v=>
  rw[hl] at h
  simp only [Option.some.injEq,Prod.mk.injEq] at h
  exact⟨v,h.2.1.symm,rfl⟩
theorem Qi{callF:cK}{o:Oper}{T:Tr Value}{M:aA}{v:Value}{t:TypeId}{x:Operand}{a:Addr}(h1:o.op= .load t x)(h2:ev GL T x=some (.pointer (some a)))(h:aX P t a M=some v):
  jG P GL callF o T M=some (1,.val v,M):=by
 obtain⟨dst,op,type,pos,after,guard⟩:=o
 simp only at h1
 subst h1
 simp only [jG,eT,eU,h2,h]
theorem kY{S:List Nat}{callF:cK}(hA:bO callF){before sl:List Nat}{n0:Nat}: ∀(l:List Oper) (i:Nat) (dn:List jF) (S0:List Nat) (s s':St) (st0:Nat->St) (ld0:Nat->Nat),(∀j,j<l.length->l[j]?=ops[i+j]?)->
  kJ P GL callF ops before sl n0 l i dn S0 s=some (s',S)->st0 i=s->(∀d∈dn,d.hi<=s.M.next)->(∀m,m<i->ld0 m≠0->(⟨m,ld0 m,(st0 m).M.next,(st0 (m+1)).M.next⟩:jF)∈dn)->
  (∀b∈S,b∈S0\/b<n0)/\(∀b∈S0,b∈S)/\ ∃(st:Nat->St) (ld:Nat->Nat),(∀j,j<=i->st j=st0 j)/\(∀j,j<i->ld j=ld0 j)/\st (i+l.length)=s'/\ ∀j,i<=j->j<i+l.length->Fo P GL callF ops before s.M.hide (fun _ a=>a.block∈S) st ld j
 | [],i,dn,S0,s,s',st0,ld0,hl,h,hs,hd,hm=>by
  simp only [kJ,Option.some.injEq,Prod.mk.injEq] at h;obtain⟨rfl,rfl⟩:=h
  exact⟨fun b hb=> .inl hb,fun b hb=>hb,st0,ld0,fun _ _=>rfl,fun _ _=>rfl,by simpa using hs,fun j h1 h2=>by simp at h2;omega⟩
 |o::l,i,dn,S0,s,s',st0,ld0,hl,h,hs,hd,hm=>by
  have h0:ops[i]?=some o:=by simpa using(hl 0 (by simp)).symm
  have hl': ∀j,j<l.length->l[j]?=ops[i+1+j]?:=fun j hj=>by
   have:=hl (j+1) (by simpa using hj)
   rw[show i+1+j=i+(j+1) by omega]
   simpa using this
  simp only [kJ] at h
  split at h
  ·rename_i deps hw hb
   split at h
   ·rename_i k r M' hop
    split at h
    ·rename_i b hst
     split at h
     ·rename_i s1 hput
      have a1:s1.M=s.M:=eV hput
      obtain⟨g1,g2,st,ld,e1,e2,e3,e4⟩:=kY (S:=S) hA l (i+1) dn (b::S0) s1 s' (fun j=>if j=i+1 then s1 else st0 j) (fun j=>if j=i then 0 else ld0 j) hl' h (by simp)
       (fun d hd'=>by rw[a1];exact hd d hd')
       (fun m hlt hne=>by
        by_cases hmi:m=i
        ·subst hmi;simp at hne
        ·have h1:m≠i+1:=by omega
         have h2:m+1≠i+1:=by omega
         simp only [hmi,h1,h2,if_false] at hne⊢
         exact hm m (by omega) hne)
      have hsti:st i=s:=by rw[e1 i (by omega)];simp [hs]
      have a0:st (i+1)=s1:=by rw[e1 (i+1) (by omega)];simp
      have hldi:ld i=0:=by rw[e2 i (by omega)];simp
      refine⟨fun x hx=> ?_,fun x hx=>g2 x (List.mem_cons_of_mem _ hx),st,ld,fun m hmi=> ?_,fun m hmi=> ?_,by rw[<-e3];congr 1;simp;omega,fun j h1 h2=> ?_⟩
      ·rcases g1 x hx with h|h
       ·rcases List.mem_cons.1 h with rfl|h
        ·exact .inr (wN hst).2
        ·exact .inl h
       ·exact .inr h
      ·rw[e1 m (by omega)]
       have:m≠i+1:=by omega
       simp [this]
      ·rw[e2 m (by omega)]
       have:m≠i:=by omega
       simp [this]
      ·rcases Nat.lt_or_ge i j with hij|hij
       ·have:=e4 j (by omega) (by simp at h2;omega)
        rw[a1] at this
        exact this
       ·have hji:j=i:=by omega
        subst hji
        obtain⟨⟨t,x,a,q1,q2,rfl⟩,_⟩:=wN hst
        obtain⟨v,rfl,q3⟩:=Ht q1 q2 hop
        exact⟨by rw[a0,a1],o,deps,h0,hb,.inr (.inr ⟨by rw[hsti];exact hw,t,x,a,v,aS deps dn,q1,by rw[hsti];exact q2,by rw[hsti];exact q3,by rw[hsti,a0];exact hput,hldi,g2 _ (by simp)⟩)⟩
     ·cases h
    ·rename_i hst
     cases hmay:uW ops o deps k dn<;>simp only [hmay,cond_true,cond_false] at h
     ·cases h
     ·split at h
      ·rename_i s1 hput
       have habs:=kZ hA hop
       obtain⟨L,hL,_⟩:=habs.ex
       have a1:s1.M={M' with hide:=s.M.hide}:=eV hput
       have hnext:s.M.next<=s1.M.next:=by rw[a1];exact hL.next
       have hMn:s1.M.next=M'.next:=by rw[a1]
       obtain⟨g1,g2,st,ld,e1,e2,e3,e4⟩:=kY (S:=S) hA l (i+1) (⟨i,k,s.M.next,M'.next⟩::dn) S0 s1 s' (fun j=>if j=i+1 then s1 else st0 j) (fun j=>if j=i then k else ld0 j) hl' h (by simp)
        (fun d hd'=>by
         rcases List.mem_cons.1 hd' with rfl|hd'
         ·rw[hMn];exact Nat.le_refl _
         ·exact Nat.le_trans (hd d hd') hnext)
        (fun m hlt hne=>by
         by_cases hmi:m=i
         ·subst hmi
          simp [hs,hMn]
         ·have h1:m≠i+1:=by omega
          have h2:m+1≠i+1:=by omega
          simp only [hmi,h1,h2,if_false] at hne⊢
          exact List.mem_cons_of_mem _ (hm m (by omega) hne))
       have hsti:st i=s:=by rw[e1 i (by omega)];simp [hs]
       have a0:st (i+1)=s1:=by rw[e1 (i+1) (by omega)];simp
       have hldi:ld i=k:=by rw[e2 i (by omega)];simp
       have hstm: ∀m,m<=i->st m=st0 m:=fun m hmi=>by
        rw[e1 m (by omega)]
        have:m≠i+1:=by omega
        simp [this]
       have hldm: ∀m,m<i->ld m=ld0 m:=fun m hmi=>by
        rw[e2 m (by omega)]
        have:m≠i:=by omega
        simp [this]
       refine⟨g1,g2,st,ld,hstm,hldm,by rw[<-e3];congr 1;simp;omega,fun j h1 h2=> ?_⟩
       rcases Nat.lt_or_ge i j with hij|hij
       ·have:=e4 j (by omega) (by simp at h2;omega)
        have hh:s1.M.hide=s.M.hide:=by rw[a1]
        rw[hh] at this
        exact this
       ·have hji:j=i:=by omega
        subst hji
        have hrec: ∀m,m<j->ld m≠0->(⟨m,ld m,(st m).M.next,(st (m+1)).M.next⟩:jF)∈dn:=fun m hmj hne=>by
         rw[hldm m hmj,hstm m (by omega),hstm (m+1) (by omega)]
         exact hm m hmj (by rw[<-hldm m hmj];exact hne)
        refine⟨by rw[a0,a1],o,deps,h0,hb,.inr (.inl ⟨by rw[hsti];exact hw,r,M',aS deps dn,by rw[hsti,hldi];exact hop,by rw[hsti,a0];exact hput,?_,?_,?_,?_⟩)⟩
        ·intro m hmj hne ht id q1 q2
         exact lF (hrec m hmj hne) hne ht id q1 q2
        ·intro h2
         by_cases hst:lJ ops=true/\fP o=true
         ·exact .inr hst
         refine .inl (sW fun d hd'=> ?_)
         rcases nJ hmay d hd' with q|q|q|q|⟨q0,q|q⟩
         ·exact .inl q
         ·omega
         ·exact .inr q
         ·omega
         ·omega
         ·exact absurd ⟨q0,q.1⟩ hst
        ·intro id hid
         rw[hsti]
         exact sA hd id hid
        ·intro m hmj hne hnj
         rcases nJ hmay _ (hrec m hmj hne) with q|q|q|q|⟨q0,q|q⟩
         ·exact absurd q hne
         ·exact absurd (by rw[hldi];exact q) hnj
         ·exact .inl q
         ·exact .inr (.inl ⟨q.1,by rw[hldi];exact q.2⟩)
         ·exact .inr (.inr ⟨q0,.inl ⟨q.1,by rw[hldi];exact q.2.1,q.2.2⟩⟩)
         ·exact .inr (.inr ⟨q0,.inr q⟩)
      ·cases h
   ·cases h
  ·rename_i deps hw hb
   split at h
   ·rename_i s1 hput
    have a1:s1.M=s.M:=eV hput
    obtain⟨g1,g2,st,ld,e1,e2,e3,e4⟩:=kY (S:=S) hA l (i+1) dn S0 s1 s' (fun j=>if j=i+1 then s1 else st0 j) (fun j=>if j=i then 0 else ld0 j) hl' h (by simp)
     (fun d hd'=>by rw[a1];exact hd d hd')
     (fun m hlt hne=>by
      by_cases hmi:m=i
      ·subst hmi;simp at hne
      ·have h1:m≠i+1:=by omega
       have h2:m+1≠i+1:=by omega
       simp only [hmi,h1,h2,if_false] at hne⊢
       exact hm m (by omega) hne)
    have hsti:st i=s:=by rw[e1 i (by omega)];simp [hs]
    have a0:st (i+1)=s1:=by rw[e1 (i+1) (by omega)];simp
    have hldi:ld i=0:=by rw[e2 i (by omega)];simp
    refine⟨g1,g2,st,ld,fun m hmi=> ?_,fun m hmi=> ?_,by rw[<-e3];congr 1;simp;omega,fun j h1 h2=> ?_⟩
    ·rw[e1 m (by omega)]
     have:m≠i+1:=by omega
     simp [this]
    ·rw[e2 m (by omega)]
     have:m≠i:=by omega
     simp [this]
    ·rcases Nat.lt_or_ge i j with hij|hij
     ·have:=e4 j (by omega) (by simp at h2;omega)
      rw[a1] at this
      exact this
     ·have hji:j=i:=by omega
      subst hji
      exact⟨by rw[a0,a1],o,deps,h0,hb,.inl ⟨by rw[hsti];exact hw,by rw[hsti,a0];exact hput,hldi⟩⟩
   ·cases h
  ·cases h
theorem tZ{GL:List Nat}{sl:List Nat}{n0 i:Nat}{b:TypeId×Addr}{o:Oper}{T:Tr Value}(h:Ct GL sl n0 o i T=some b):(∃t x a,o.op= .load t x/\ev GL T x=some (.pointer (some a))/\b=(t,a))/\b.2.block<n0:=by
 unfold Ct at h
 cases hc:fF i sl<;>simp only [hc,cond_true,cond_false] at h
 ·cases h
 ·split at h
  ·rename_i t x hop
   split at h
   ·rename_i a ha
    cases hb:Nat.blt a.block n0<;>simp only [hb,cond_true,cond_false] at h
    ·cases h
    ·simp only [Option.some.injEq] at h
     subst h
     exact⟨⟨t,x,a,hop,ha,rfl⟩,Nat.le_of_ble_eq_true hb⟩
   ·cases h
  ·cases h
theorem mW{S:List (TypeId×Addr)}{W:List (Nat×Nat×Nat)}{callF:cK}(hA:bO callF){before sl:List Nat}{n0:Nat}: ∀(l:List Oper) (i:Nat) (dn:List jF) (S0:List (TypeId×Addr)) (W0:List (Nat×Nat×Nat)) (s s':St) (st0:Nat->St) (ld0:Nat->Nat),(∀j,j<l.length->l[j]?=ops[i+j]?)->
  pF P GL callF ops before sl n0 l i dn S0 W0 s=some (s',S,W)->st0 i=s->(∀d∈dn,d.hi<=s.M.next)->(∀m,m<i->ld0 m≠0->(⟨m,ld0 m,(st0 m).M.next,(st0 (m+1)).M.next⟩:jF)∈dn)->
  (∀b∈S,b∈S0\/b.2.block<n0)/\(∀b∈S0,b∈S)/\(∀e∈W0,e∈W)/\ ∃(st:Nat->St) (ld:Nat->Nat),(∀j,j<=i->st j=st0 j)/\(∀j,j<i->ld j=ld0 j)/\st (i+l.length)=s'/\ ∀j,i<=j->j<i+l.length->Fo P GL callF ops before s.M.hide (fun t a=>(t,a)∈S) st ld j/\(ld j<=1\/ ∃o,ops[j]?=some o/\fP o=true/\ ∀e∈wO GL o (st j).T,e∈W)
 | [],i,dn,S0,W0,s,s',st0,ld0,hl,h,hs,hd,hm=>by
  simp only [pF,Option.some.injEq,Prod.mk.injEq] at h;obtain⟨rfl,rfl,rfl⟩:=h
  exact⟨fun b hb=> .inl hb,fun b hb=>hb,fun e he=>he,st0,ld0,fun _ _=>rfl,fun _ _=>rfl,by simpa using hs,fun j h1 h2=>by simp at h2;omega⟩
 |o::l,i,dn,S0,W0,s,s',st0,ld0,hl,h,hs,hd,hm=>by
  have h0:ops[i]?=some o:=by simpa using(hl 0 (by simp)).symm
  have hl': ∀j,j<l.length->l[j]?=ops[i+1+j]?:=fun j hj=>by
   have:=hl (j+1) (by simpa using hj)
   rw[show i+1+j=i+(j+1) by omega]
   simpa using this
  simp only [pF] at h
  split at h
  ·rename_i deps hw hb
   split at h
   ·rename_i k r M' hop
    split at h
    ·rename_i b hst
     split at h
     ·rename_i s1 hput
      have a1:s1.M=s.M:=eV hput
      obtain⟨g1,g2,g3,st,ld,e1,e2,e3,e4⟩:=mW (S:=S) hA l (i+1) dn (b::S0) W0 s1 s' (fun j=>if j=i+1 then s1 else st0 j) (fun j=>if j=i then 0 else ld0 j) hl' h (by simp)
       (fun d hd'=>by rw[a1];exact hd d hd')
       (fun m hlt hne=>by
        by_cases hmi:m=i
        ·subst hmi;simp at hne
        ·have h1:m≠i+1:=by omega
         have h2:m+1≠i+1:=by omega
         simp only [hmi,h1,h2,if_false] at hne⊢
         exact hm m (by omega) hne)
      have hsti:st i=s:=by rw[e1 i (by omega)];simp [hs]
      have a0:st (i+1)=s1:=by rw[e1 (i+1) (by omega)];simp
      have hldi:ld i=0:=by rw[e2 i (by omega)];simp
      refine⟨fun x hx=> ?_,fun x hx=>g2 x (List.mem_cons_of_mem _ hx),g3,st,ld,fun m hmi=> ?_,fun m hmi=> ?_,by rw[<-e3];congr 1;simp;omega,fun j h1 h2=> ?_⟩
      ·rcases g1 x hx with h|h
       ·rcases List.mem_cons.1 h with rfl|h
        ·exact .inr (tZ hst).2
        ·exact .inl h
       ·exact .inr h
      ·rw[e1 m (by omega)]
       have:m≠i+1:=by omega
       simp [this]
      ·rw[e2 m (by omega)]
       have:m≠i:=by omega
       simp [this]
      ·rcases Nat.lt_or_ge i j with hij|hij
       ·have:=e4 j (by omega) (by simp at h2;omega)
        rw[a1] at this
        exact this
       ·have hji:j=i:=by omega
        subst hji
        obtain⟨⟨t,x,a,q1,q2,rfl⟩,_⟩:=tZ hst
        obtain⟨v,rfl,q3⟩:=Ht q1 q2 hop
        exact⟨⟨by rw[a0,a1],o,deps,h0,hb,.inr (.inr ⟨by rw[hsti];exact hw,t,x,a,v,aS deps dn,q1,by rw[hsti];exact q2,by rw[hsti];exact q3,by rw[hsti,a0];exact hput,hldi,g2 _ (by simp)⟩)⟩,.inl (by rw[hldi];exact Nat.zero_le _)⟩
     ·cases h
    ·rename_i hst
     cases a2:(uW ops o deps k dn&&(Nat.ble k 1||fP o))<;>simp only [a2,cond_true,cond_false] at h
     ·cases h
     ·split at h
      ·rename_i s1 hput
       simp only [Bool.and_eq_true,Bool.or_eq_true,Nat.ble_eq] at a2
       obtain⟨hmay,hks⟩:=a2
       have habs:=kZ hA hop
       obtain⟨L,hL,_⟩:=habs.ex
       have a1:s1.M={M' with hide:=s.M.hide}:=eV hput
       have hnext:s.M.next<=s1.M.next:=by rw[a1];exact hL.next
       have hMn:s1.M.next=M'.next:=by rw[a1]
       obtain⟨g1,g2,g3,st,ld,e1,e2,e3,e4⟩:=mW (S:=S) hA l (i+1) (⟨i,k,s.M.next,M'.next⟩::dn) S0 (wO GL o s.T++W0) s1 s' (fun j=>if j=i+1 then s1 else st0 j) (fun j=>if j=i then k else ld0 j) hl' h (by simp)
        (fun d hd'=>by
         rcases List.mem_cons.1 hd' with rfl|hd'
         ·rw[hMn];exact Nat.le_refl _
         ·exact Nat.le_trans (hd d hd') hnext)
        (fun m hlt hne=>by
         by_cases hmi:m=i
         ·subst hmi
          simp [hs,hMn]
         ·have h1:m≠i+1:=by omega
          have h2:m+1≠i+1:=by omega
          simp only [hmi,h1,h2,if_false] at hne⊢
          exact List.mem_cons_of_mem _ (hm m (by omega) hne))
       have hsti:st i=s:=by rw[e1 i (by omega)];simp [hs]
       have a0:st (i+1)=s1:=by rw[e1 (i+1) (by omega)];simp
       have hldi:ld i=k:=by rw[e2 i (by omega)];simp
       have hstm: ∀m,m<=i->st m=st0 m:=fun m hmi=>by
        rw[e1 m (by omega)]
        have:m≠i+1:=by omega
        simp [this]
       have hldm: ∀m,m<i->ld m=ld0 m:=fun m hmi=>by
        rw[e2 m (by omega)]
        have:m≠i:=by omega
        simp [this]
       refine⟨g1,g2,fun e he=>g3 e (List.mem_append_right _ he),st,ld,hstm,hldm,by rw[<-e3];congr 1;simp;omega,fun j h1 h2=> ?_⟩
       rcases Nat.lt_or_ge i j with hij|hij
       ·have:=e4 j (by omega) (by simp at h2;omega)
        have hh:s1.M.hide=s.M.hide:=by rw[a1]
        rw[hh] at this
        exact this
       ·have hji:j=i:=by omega
        subst hji
        have hrec: ∀m,m<j->ld m≠0->(⟨m,ld m,(st m).M.next,(st (m+1)).M.next⟩:jF)∈dn:=fun m hmj hne=>by
         rw[hldm m hmj,hstm m (by omega),hstm (m+1) (by omega)]
         exact hm m hmj (by rw[<-hldm m hmj];exact hne)
        refine⟨⟨by rw[a0,a1],o,deps,h0,hb,.inr (.inl ⟨by rw[hsti];exact hw,r,M',aS deps dn,by rw[hsti,hldi];exact hop,by rw[hsti,a0];exact hput,?_,?_,?_,?_⟩)⟩,?_⟩
        ·intro m hmj hne ht id q1 q2
         exact lF (hrec m hmj hne) hne ht id q1 q2
        ·intro h2
         by_cases hst:lJ ops=true/\fP o=true
         ·exact .inr hst
         refine .inl (sW fun d hd'=> ?_)
         rcases nJ hmay d hd' with q|q|q|q|⟨q0,q|q⟩
         ·exact .inl q
         ·omega
         ·exact .inr q
         ·omega
         ·omega
         ·exact absurd ⟨q0,q.1⟩ hst
        ·intro id hid
         rw[hsti]
         exact sA hd id hid
        ·intro m hmj hne hnj
         rcases nJ hmay _ (hrec m hmj hne) with q|q|q|q|⟨q0,q|q⟩
         ·exact absurd q hne
         ·exact absurd (by rw[hldi];exact q) hnj
         ·exact .inl q
         ·exact .inr (.inl ⟨q.1,by rw[hldi];exact q.2⟩)
         ·exact .inr (.inr ⟨q0,.inl ⟨q.1,by rw[hldi];exact q.2.1,q.2.2⟩⟩)
         ·exact .inr (.inr ⟨q0,.inr q⟩)
        ·rcases hks with hks|hks
         ·exact .inl (by rw[hldi];exact hks)
         ·exact .inr ⟨o,h0,hks,fun e he=>g3 e (List.mem_append_left _ (by rw[hsti] at he;exact he))⟩
      ·cases h
   ·cases h
  ·rename_i deps hw hb
   split at h
   ·rename_i s1 hput
    have a1:s1.M=s.M:=eV hput
    obtain⟨g1,g2,g3,st,ld,e1,e2,e3,e4⟩:=mW (S:=S) hA l (i+1) dn S0 W0 s1 s' (fun j=>if j=i+1 then s1 else st0 j) (fun j=>if j=i then 0 else ld0 j) hl' h (by simp)
     (fun d hd'=>by rw[a1];exact hd d hd')
     (fun m hlt hne=>by
      by_cases hmi:m=i
      ·subst hmi;simp at hne
      ·have h1:m≠i+1:=by omega
       have h2:m+1≠i+1:=by omega
       simp only [hmi,h1,h2,if_false] at hne⊢
       exact hm m (by omega) hne)
    have hsti:st i=s:=by rw[e1 i (by omega)];simp [hs]
    have a0:st (i+1)=s1:=by rw[e1 (i+1) (by omega)];simp
    have hldi:ld i=0:=by rw[e2 i (by omega)];simp
    refine⟨g1,g2,g3,st,ld,fun m hmi=> ?_,fun m hmi=> ?_,by rw[<-e3];congr 1;simp;omega,fun j h1 h2=> ?_⟩
    ·rw[e1 m (by omega)]
     have:m≠i+1:=by omega
     simp [this]
    ·rw[e2 m (by omega)]
     have:m≠i:=by omega
     simp [this]
    ·rcases Nat.lt_or_ge i j with hij|hij
     ·have:=e4 j (by omega) (by simp at h2;omega)
      rw[a1] at this
      exact this
     ·have hji:j=i:=by omega
      subst hji
      exact⟨⟨by rw[a0,a1],o,deps,h0,hb,.inl ⟨by rw[hsti];exact hw,by rw[hsti,a0];exact hput,hldi⟩⟩,.inl (by rw[hldi];exact Nat.zero_le _)⟩
   ·cases h
  ·cases h
theorem wX{callF:cK}(hA:bO callF){before:List Nat}: ∀(l:List Oper) (i:Nat) (dn:List jF) (s s':St),oS P GL callF ops before l i dn s=some s'-> ∃L,kX s.M s'.M L
 | [],i,dn,s,s',h=>by simp [oS] at h;subst h;exact⟨_,kX.refl _⟩
 |o::l,i,dn,s,s',h=>by
  simp only [oS] at h
  split at h
  ·rename_i deps hw hb
   split at h
   ·rename_i k r M' hop
    cases hmay:uW ops o deps k dn<;>simp only [hmay,cond_true,cond_false] at h
    ·cases h
    ·split at h
     ·rename_i s1 hput
      obtain⟨L1,h1,_⟩:=(kZ hA hop).ex
      obtain⟨L2,h2⟩:=wX hA l (i+1) _ s1 s' h
      rw[eV hput] at h2
      have h3:kX s.M {M' with hide:=s.M.hide} L1:=⟨rfl,h1.next,h1.log,h1.keep,h1.logb⟩
      exact⟨_,h3.trans h2⟩
     ·cases h
   ·cases h
  ·split at h
   ·rename_i s1 hput
    obtain⟨L2,h2⟩:=wX hA l (i+1) _ s1 s' h
    rw[eV hput] at h2
    exact⟨_,h2⟩
   ·cases h
  ·cases h
theorem nP{callF:cK}(hA:bO callF){before sl:List Nat}{n0:Nat}: ∀(l:List Oper) (i:Nat) (dn:List jF) (S0 S:List Nat) (s s':St),kJ P GL callF ops before sl n0 l i dn S0 s=some (s',S)-> ∃L,kX s.M s'.M L
 | [],i,dn,S0,S,s,s',h=>by simp [kJ] at h;obtain⟨rfl,_⟩:=h;exact⟨_,kX.refl _⟩
 |o::l,i,dn,S0,S,s,s',h=>by
  simp only [kJ] at h
  split at h
  ·rename_i deps hw hb
   split at h
   ·rename_i k r M' hop
    split at h
    ·rename_i b hst
     split at h
     ·rename_i s1 hput
      obtain⟨L2,h2⟩:=nP hA l (i+1) _ _ _ s1 s' h
      rw[eV hput] at h2
      exact⟨_,h2⟩
     ·cases h
    ·cases hmay:uW ops o deps k dn<;>simp only [hmay,cond_true,cond_false] at h
     ·cases h
     ·split at h
      ·rename_i s1 hput
       obtain⟨L1,h1,_⟩:=(kZ hA hop).ex
       obtain⟨L2,h2⟩:=nP hA l (i+1) _ _ _ s1 s' h
       rw[eV hput] at h2
       have h3:kX s.M {M' with hide:=s.M.hide} L1:=⟨rfl,h1.next,h1.log,h1.keep,h1.logb⟩
       exact⟨_,h3.trans h2⟩
      ·cases h
   ·cases h
  ·split at h
   ·rename_i s1 hput
    obtain⟨L2,h2⟩:=nP hA l (i+1) _ _ _ s1 s' h
    rw[eV hput] at h2
    exact⟨_,h2⟩
   ·cases h
  ·cases h
theorem qK{callF:cK}(hA:bO callF){before sl:List Nat}{n0:Nat}: ∀(l:List Oper) (i:Nat) (dn:List jF) (S0 S:List (TypeId×Addr)) (W0 W:List (Nat×Nat×Nat)) (s s':St),pF P GL callF ops before sl n0 l i dn S0 W0 s=some (s',S,W)-> ∃L,kX s.M s'.M L
 | [],i,dn,S0,S,W0,W,s,s',h=>by simp [pF] at h;obtain⟨rfl,_⟩:=h;exact⟨_,kX.refl _⟩
 |o::l,i,dn,S0,S,W0,W,s,s',h=>by
  simp only [pF] at h
  split at h
  ·rename_i deps hw hb
   split at h
   ·rename_i k r M' hop
    split at h
    ·rename_i b hst
     split at h
     ·rename_i s1 hput
      obtain⟨L2,h2⟩:=qK hA l (i+1) _ _ _ _ _ s1 s' h
      rw[eV hput] at h2
      exact⟨_,h2⟩
     ·cases h
    ·cases hmay:(uW ops o deps k dn&&(Nat.ble k 1||fP o))<;>simp only [hmay,cond_true,cond_false] at h
     ·cases h
     ·split at h
      ·rename_i s1 hput
       obtain⟨L1,h1,_⟩:=(kZ hA hop).ex
       obtain⟨L2,h2⟩:=qK hA l (i+1) _ _ _ _ _ s1 s' h
       rw[eV hput] at h2
       have h3:kX s.M {M' with hide:=s.M.hide} L1:=⟨rfl,h1.next,h1.log,h1.keep,h1.logb⟩
       exact⟨_,h3.trans h2⟩
      ·cases h
   ·cases h
  ·split at h
   ·rename_i s1 hput
    obtain⟨L2,h2⟩:=qK hA l (i+1) _ _ _ _ _ s1 s' h
    rw[eV hput] at h2
    exact⟨_,h2⟩
   ·cases h
  ·cases h
theorem kX.fresh{M M':aA}{L:List Nat}(h:kX {M with log:= []} M' L):kX M {M' with log:=M'.log++M.log} L:=
 ⟨h.hide,h.next,by show M'.log++M.log=L++M.log;rw[h.log];simp,h.keep,h.logb⟩
theorem Kp{t:TypeId}{a:Addr}{v:Value}{M M':aA}(hs:eC P t a v M=some M'):kX M M' [a.block]:=by
 unfold eC at hs
 split at hs<;>try (simp at hs;done)
 rename_i b i hgb _
 generalize (Nat.beq _ i.size&&_&&_&&_)=q at hs
 cases q<;>simp only [cond_true,cond_false] at hs
 ·simp at hs
 ·simp at hs;subst hs;exact kX.put _ (bR.1 hgb).1 _
theorem Hn{callF:cK}(hA:bO callF){sl:List Nat}{s s':St}(h:vK P GL callF ops sl s=some s'): ∃L,kX s.M s'.M L:=by
 unfold vK at h
 split at h
 ·rename_i s1 S W h1
  cases hp:wZ P S W<;>simp only [hp,cond_true,cond_false] at h
  ·cases h
  ·simp only [Option.some.injEq] at h
   subst h
   obtain⟨L,hL⟩:=qK hA _ _ _ _ _ _ _ _ _ h1
   exact⟨L,kX.fresh hL⟩
 ·cases h
theorem Hm{callF:cK}(hA:bO callF){s s':St}(h:qM P GL callF ops s=some s'): ∃L,kX s.M s'.M L:=by
 unfold qM at h
 split at h
 ·exact wX hA _ _ _ _ _ h
 ·split at h
  ·rename_i s1 S h1
   cases hp:cQ S s1.M.log<;>simp only [hp,cond_true,cond_false] at h
   ·exact Hn hA h
   ·simp only [Option.some.injEq] at h
    subst h
    obtain⟨L,hL⟩:=nP hA _ _ _ _ _ _ _ h1
    exact⟨L,kX.fresh hL⟩
  ·cases h
theorem Il{f:Oper}{s s1 s':St}(h:Si P GL f s s1=some s'): ∃t x y a v M2,f.op= .store t x y/\ev GL s1.T x=some (.pointer (some a))/\ev GL s1.T y=some v/\eC P t a v s1.M=some M2/\
  a.block<s.M.next/\fF a.block s1.M.log=false/\s'=Ec s {s1 with M:=M2}:=by
 unfold Si at h
 split at h<;>try (simp at h;done)
 rename_i t x y hop
 split at h<;>try (simp at h;done)
 rename_i a v hx hy
 split at h<;>try (simp at h;done)
 rename_i M2 hst
 cases hq:(Nat.blt a.block s.M.next&& !(fF a.block s1.M.log))<;>simp only [hq,cond_true,cond_false] at h
 ·cases h
 ·simp only [Bool.and_eq_true,Bool.not_eq_true'] at hq
  simp only [Option.some.injEq] at h
  exact⟨t,x,y,a,v,M2,hop,hx,hy,hst,Nat.le_of_ble_eq_true hq.1,hq.2,h.symm⟩
theorem Ki{callF:cK}(hA:bO callF){s s':St}(h:nQ P GL callF ops s=some s'): ∃L,kX s.M s'.M L:=by
 unfold nQ at h
 split at h
 ·unfold Ad at h
  split at h
  ·rename_i s1 S h1
   cases hp:cQ S s1.M.log<;>simp only [hp,cond_true,cond_false] at h
   ·cases h
   ·obtain⟨t,x,y,a,v,M2,_,_,_,h2,_,_,rfl⟩:=Il h
    obtain⟨L,hL⟩:=nP hA _ _ _ _ _ _ _ h1
    exact⟨_,kX.fresh (hL.trans (Kp h2))⟩
  ·cases h
 ·exact Hm hA h
theorem rR: ∀{S l:List Nat},cQ S l=true-> ∀b∈S,b∉l
 | [],_,_,b,hb=>by cases hb
 |x::S,l,h,b,hb=>by
  simp only [cQ,Bool.and_eq_true,Bool.not_eq_true'] at h
  rcases List.mem_cons.1 hb with rfl|hb
  ·intro hm
   have: ∀l:List Nat,b∈l->fF b l=true:=fun l=>by
    induction l with
    |nil=>intro h;cases h
    |cons y l ih=>
     intro h
     simp only [fF,Bool.or_eq_true]
     rcases List.mem_cons.1 h with rfl|h
     ·exact .inl (by simp)
     ·exact .inr (ih h)
   rw[this l hm] at h
   cases h.1
  ·exact rR h.2 b hb
end Go.Am
