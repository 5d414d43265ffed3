/-
  Package hier: each of its laws for every argument; no conditions. The last text states which.
-/
import Derived.Test.YtdaglldahidmbaaGreatGAmSeq
import Derived.Still
import Derived.LoopN
import Derived.Scope
set_option linter.unusedVariables false
set_option linter.unusedSimpArgs false
namespace Go.Am
open Go
variable{P:Program}{GL:List Nat}{ops:Array Oper}
structure nI(ops:Array Oper):Prop where
 back:∀(i:Nat) (o:Oper),ops[i]?=some o->∀e∈o.after,Region.binds .any e=true->e.on<i
 apart:∀(i j:Nat) (oi oj:Oper),i<j->ops[i]?=some oi->ops[j]?=some oj->(∀e∈oj.after,Region.binds .any e=true->e.on≠i)->oi.apart ops oj=true
theorem vI:∀(fuel k:Nat) (listed:Array Bool),listed.size=ops.size->k+fuel=ops.size->(∀j,j<ops.size->listed.getD j false=decide (j<k))->Region.lexFrom .any ops fuel k listed=true->
  (∀(i:Nat) (o:Oper),k<=i->ops[i]?=some o->∀e∈o.after,Region.binds .any e=true->e.on<i)/\
  (∀(i j:Nat) (oi oj:Oper),k<=i->i<j->ops[i]?=some oi->ops[j]?=some oj->(∀e∈oj.after,Region.binds .any e=true->e.on≠i)->oi.apart ops oj=true)
 |0,k,listed,hs,hk,hl,h=>by
  refine⟨fun i o hi ho=>?_,fun i j oi oj hi hij hoi=>?_⟩
  ·have:=(Array.getElem?_eq_some_iff.1 ho).1;omega
  ·have:=(Array.getElem?_eq_some_iff.1 hoi).1;omega
 |fuel+1,k,listed,hs,hk,hl,h=>by
  simp only [Region.lexFrom,Bool.and_eq_true] at h;obtain⟨⟨h1,h2⟩,h3⟩:=h;have ih:=vI fuel (k+1) (listed.setIfInBounds k true) (by simp [hs]) (by omega) (fun j hj=>by
   by_cases e:k=j
   ·subst e;simp [hs,hj]
   ·rw[getD_set_ne false e,hl j hj];congr 1;apply propext;omega) h3
  have hr:k∈Region.ready .any ops listed:=by simpa using h1
  obtain⟨_,o,ho,a0⟩:=mem_ready.1 hr;refine⟨fun i oi hi hoi e he hb=>?_,fun i j oi oj hi hij hoi hoj hno=>?_⟩
  ·rcases Nat.lt_or_ge k i with hlt|hge
   ·exact ih.1 i oi hlt hoi e he hb
   ·have:i=k:=by omega
    subst this;rw[ho] at hoi;cases hoi;have h4:=a0 e he hb;have a2:e.on<ops.size:=by
     rcases Nat.lt_or_ge e.on listed.size with h|h
     ·omega
     ·simp [Array.getElem?_eq_none h] at h4
    rw[hl _ a2] at h4;simpa using h4
  ·rcases Nat.lt_or_ge k i with hlt|hge
   ·exact ih.2 i j oi oj hlt hij hoi hoj hno
   ·have:i=k:=by omega
    subst this;have hj:j<ops.size:=(Array.getElem?_eq_some_iff.1 hoj).1;refine Region.free_spec hoi h2 j oj hoj (by omega) ?_ hno;have:=hl j hj;have a1:j<listed.size:=by omega
    simp [a1] at this⊢;rw[this];simp;omega
theorem Ai(h:kY ops=true):nI ops:=by simp only [kY,Region.lexB,Bool.and_eq_true] at h;have:=vI ops.size 0 (Array.replicate ops.size false) (by simp) (by omega) (fun j hj=>by simp [hj]) h.2;exact⟨fun i o ho=>this.1 i o (Nat.zero_le _) ho,fun i j oi oj hij=>this.2 i j oi oj (Nat.zero_le _) hij⟩
theorem wF{acc:List Nat}:∀{l:List Edge} {m:Nat},(xM acc l).testBit m=true->∃e∈l,Region.binds .any e=true/\(m=e.on\/∃d,acc[e.on]?=some d/\d.testBit m=true)
 | [],m,h=>by simp [xM] at h
 |e::l,m,h=>by
  unfold xM at h;cases hb:Region.binds .any e<;>simp only [hb,cond_true,cond_false] at h
  ·obtain⟨e',a0,hh⟩:=wF h;exact⟨e',by simp [a0],hh⟩
  ·rw[Nat.testBit_or,Nat.testBit_or] at h;simp only [Bool.or_eq_true] at h;rcases h with(h|h)|h
   ·refine⟨e,by simp,hb,.inl ?_⟩;rw[Nat.testBit_two_pow] at h;simpa [eq_comm] using h
   ·cases hd:acc[e.on]? with
    |none=>simp [hd] at h
    |some d=>exact⟨e,by simp,hb,.inr ⟨d,hd,by simpa [hd] using h⟩⟩
   ·obtain⟨e',a0,hh⟩:=wF h;exact⟨e',by simp [a0],hh⟩
theorem xJ:∀(l:List Oper) (acc:List Nat),(∃r,bK l acc=acc++r)/\(bK l acc).length=acc.length+l.length/\
  ∀(i:Nat) (o:Oper),l[i]?=some o->∃d,(bK l acc)[acc.length+i]?=some d/\∀m,d.testBit m=true->∃e∈o.after,Region.binds .any e=true/\(m=e.on\/∃d',(bK l acc)[e.on]?=some d'/\d'.testBit m=true)
 | [],acc=>⟨⟨[],by simp [bK]⟩,by simp [bK],fun i o h=>by simp at h⟩
 |o::l,acc=>by
  simp only [bK];obtain⟨⟨r,hr⟩,a0,a2⟩:=xJ l (acc++ [xM acc o.after.toList]);refine⟨⟨xM acc o.after.toList::r,by rw[hr];simp⟩,by rw[a0];simp;omega,fun i oi hi=>?_⟩;cases i with
  |zero=>
   simp at hi;subst hi
   refine⟨xM acc o.after.toList,by rw[hr];simp,fun m hm=>?_⟩
   obtain⟨e,he,hb,hh⟩:=wF hm
   refine⟨e,by simpa using he,hb,hh.imp (fun x=>x) fun⟨d,hd,hdm⟩=>⟨d,?_,hdm⟩⟩
   have a1:e.on<acc.length:=by
    rcases Nat.lt_or_ge e.on acc.length with h|h
    ·exact h
    ·rw[List.getElem?_eq_none h] at hd;cases hd
   rw[hr,List.getElem?_append_left (by simp;omega),List.getElem?_append_left a1]
   exact hd
  |succ i=>
   simp at hi
   obtain⟨d,hd,hm⟩:=a2 i oi hi
   refine⟨d,?_,hm⟩
   simp only [List.length_append,List.length_cons,List.length_nil] at hd
   rw[show acc.length+(i+1)=acc.length+(0+1)+i by omega]
   exact hd
def wX(ops:Array Oper)(o:Oper)(ld:Nat->Nat)(m j:Nat):Prop:=
 mI ops=true/\((Bg o=true/\ld j=1/\Dr ops tX m=true)\/(fZ o=true/\ld m=1/\Dr ops Bg m=true))
structure He(P:Program)(GL:List Nat)(callF:dD)(ops:Array Oper)(before:List Nat)(h0:List (Nat×Nat))(S:TypeId->Addr->Prop)(st:Nat->St)(ld:Nat->Nat)(j:Nat):Prop where
 hide:(st (j+1)).M.hide=h0
 ex:∃o deps,ops[j]?=some o/\before[j]?=some deps/\
  ((fB ops (st j).T o=some false/\pY o .skip (st j)=some (st (j+1))/\ld j=0)\/
   (fB ops (st j).T o=some true/\∃r M' H,jY P GL callF o (st j).T {(st j).M with hide:=H++h0}=some (ld j,r,M')/\pY o r {st j with M:={M' with hide:=h0}}=some (st (j+1))/\
   (∀m,m<j->ld m≠0->deps.testBit m=false->∀id,(st m).M.next<=id->id<(st (m+1)).M.next->bD H id=true)/\
   (2<=ld j->H=[]\/(mI ops=true/\fZ o=true))/\(∀id,bD H id=true->id<(st j).M.next)/\
   (∀m,m<j->ld m≠0->ld j≠0->deps.testBit m=true\/(ld m=1/\ld j=1)\/wX ops o ld m j))\/
   (fB ops (st j).T o=some true/\∃t x a v H,o.op= .load t x/\ev GL (st j).T x=some (.pointer (some a))/\bA P t a {(st j).M with hide:=H++h0}=some v/\pY o (.val v) (st j)=some (st (j+1))/\ld j=0/\S t a))
theorem mF{deps:Nat}:∀{dn:List jW} {d:jW},d∈dn->d.loud≠0->deps.testBit d.ix=false->∀id,d.lo<=id->id<d.hi->bD (aP deps dn) id=true
 | [],_,h,_,_,_,_,_=>by cases h
 |x::dn,d,h,hl,ht,id,h1,h2=>by
  unfold aP;rcases List.mem_cons.1 h with rfl|h
  ·have c1:Nat.beq d.loud 0=false:=by cases hb:Nat.beq d.loud 0<;>first|rfl|exact absurd (xBa hb) hl
   have c2:Nat.beq d.lo d.hi=false:=by cases hb:Nat.beq d.lo d.hi<;>first|rfl|(have:=xBa hb;omega)
   simp only [c1,c2,ht,Bool.or_false,cond_false,bD];have c3:Nat.ble d.lo id=true:=Nat.ble_eq_true_of_le h1;have c4:Nat.blt id d.hi=true:=Nat.ble_eq_true_of_le h2;simp [c3,c4]
  ·cases hq:(Nat.beq x.loud 0||deps.testBit x.ix||Nat.beq x.lo x.hi)<;>simp only [cond_true,cond_false,bD]
   ·simp [mF h hl ht id h1 h2]
   ·exact mF h hl ht id h1 h2
theorem tU{deps n:Nat}:∀{dn:List jW},(∀d∈dn,d.hi<=n)->∀id,bD (aP deps dn) id=true->id<n
 | [],_,id,h=>by simp [aP,bD] at h
 |x::dn,hd,id,h=>by
  unfold aP at h;cases hq:(Nat.beq x.loud 0||deps.testBit x.ix||Nat.beq x.lo x.hi)<;>simp only [hq,cond_true,cond_false,bD] at h
  ·simp only [Bool.or_eq_true,Bool.and_eq_true] at h;rcases h with h|h
   ·have h2:id<x.hi:=xAd h.2;have:=hd x (by simp);omega
   ·exact tU (fun d hd'=>hd d (by simp [hd'])) id h
  ·exact tU (fun d hd'=>hd d (by simp [hd'])) id h
theorem Ak{deps loud:Nat}:∀{dn:List jW},sD deps loud dn=true->∀d∈dn,d.loud=0\/loud=0\/deps.testBit d.ix=true\/(d.loud=1/\loud=1)
 | [],_,_,h=>by cases h
 |x::dn,h,d,hd=>by
  simp only [sD,Bool.and_eq_true,Bool.or_eq_true,Nat.beq_eq] at h;rcases List.mem_cons.1 hd with rfl|hd
  ·rcases h.1 with((h|h)|h)|h
   ·exact .inl h
   ·exact .inr (.inl h)
   ·exact .inr (.inr (.inl h))
   ·exact .inr (.inr (.inr h))
  ·exact Ak h.2 d hd
theorem Pa{o:Oper}{deps k:Nat}{dn:List jW}(h:sD deps k dn=true):wL ops o deps k dn=true:=by simp [wL,h]
theorem Dl{o:Oper}{deps loud:Nat}:∀{dn:List jW},Pb ops o deps loud dn=true->∀d∈dn,d.loud=0\/loud=0\/deps.testBit d.ix=true\/(d.loud=1/\loud=1)\/
  (Bg o=true/\loud=1/\Dr ops tX d.ix=true)\/(fZ o=true/\d.loud=1/\Dr ops Bg d.ix=true)
 | [],_,_,h=>by cases h
 |x::dn,h,d,hd=>by
  simp only [Pb,Bool.and_eq_true,Bool.or_eq_true,Nat.beq_eq] at h;rcases List.mem_cons.1 hd with rfl|hd
  ·rcases h.1 with((((h|h)|h)|h)|h)|h
   ·exact .inl h
   ·exact .inr (.inl h)
   ·exact .inr (.inr (.inl h))
   ·exact .inr (.inr (.inr (.inl h)))
   ·exact .inr (.inr (.inr (.inr (.inl ⟨h.1.1,h.1.2,h.2⟩))))
   ·exact .inr (.inr (.inr (.inr (.inr ⟨h.1.1,h.1.2,h.2⟩))))
  ·exact Dl h.2 d hd
theorem oM{o:Oper}{deps loud:Nat}{dn:List jW}(h:wL ops o deps loud dn=true):∀d∈dn,d.loud=0\/loud=0\/deps.testBit d.ix=true\/(d.loud=1/\loud=1)\/
  (mI ops=true/\((Bg o=true/\loud=1/\Dr ops tX d.ix=true)\/(fZ o=true/\d.loud=1/\Dr ops Bg d.ix=true))):=fun d hd=>by
 simp only [wL,Bool.or_eq_true,Bool.and_eq_true] at h
 rcases h with h|⟨h1,h2⟩
 ·rcases Ak h d hd with q|q|q|q
  ·exact .inl q
  ·exact .inr (.inl q)
  ·exact .inr (.inr (.inl q))
  ·exact .inr (.inr (.inr (.inl q)))
 ·rcases Dl h2 d hd with q|q|q|q|q
  ·exact .inl q
  ·exact .inr (.inl q)
  ·exact .inr (.inr (.inl q))
  ·exact .inr (.inr (.inr (.inl q)))
  ·exact .inr (.inr (.inr (.inr ⟨h1,q⟩)))
theorem uP{deps:Nat}:∀{dn:List jW},(∀d∈dn,d.loud=0\/deps.testBit d.ix=true)->aP deps dn=[]
 | [],_=>rfl
 |x::dn,h=>by
  unfold aP;have:(Nat.beq x.loud 0||deps.testBit x.ix||Nat.beq x.lo x.hi)=true:=by
   rcases h x (by simp) with h|h
   ·simp [h]
   ·simp [h]
  rw[this];exact uP fun d hd=>h d (by simp [hd])
theorem tG{S:TypeId->Addr->Prop}{a4:dD}(hA:bW a4){a3:List Nat}:∀(l:List Oper) (i:Nat) (dn:List jW) (s s':St) (st0:Nat->St) (ld0:Nat->Nat),(∀j,l[j]?=ops[i+j]?)->
  pZ P GL a4 ops a3 l i dn s=some s'->st0 i=s->(∀d∈dn,d.hi<=s.M.next)->(∀m,m<i->ld0 m≠0->(⟨m,ld0 m,(st0 m).M.next,(st0 (m+1)).M.next⟩:jW)∈dn)->
  ∃(st:Nat->St) (ld:Nat->Nat),(∀j,j<=i->st j=st0 j)/\(∀j,j<i->ld j=ld0 j)/\st (i+l.length)=s'/\∀j,i<=j->j<i+l.length->He P GL a4 ops a3 s.M.hide S st ld j
 | [],i,dn,s,s',st0,ld0,hl,h,hs,hd,hm=>by
  simp [pZ] at h;subst h;exact⟨st0,ld0,fun _ _=>rfl,fun _ _=>rfl,by simpa using hs,fun j h1 h2=>by simp at h2;omega⟩
 |o::l,i,dn,s,s',st0,ld0,hl,h,hs,hd,hm=>by
  have h0:ops[i]?=some o:=by simpa using(hl 0).symm
  have b3:∀j,l[j]?=ops[i+1+j]?:=fun j=>by
   have:=hl (j+1);rw[show i+1+j=i+(j+1) by omega];simpa using this
  simp only [pZ] at h;split at h
  ·rename_i deps hw hb;split at h
   ·rename_i k r M' hop;cases hmay:wL ops o deps k dn<;>simp only [hmay,cond_true,cond_false] at h
    ·cases h
    ·split at h
     ·rename_i s1 hput;have b0:=mC hA hop;obtain⟨L,hL,_⟩:=b0.ex;have a5:s1.M={M' with hide:=s.M.hide}:=fN hput;have a8:s.M.next<=s1.M.next:=by rw[a5];exact hL.next
      have b2:s1.M.next=M'.next:=by rw[a5]
      obtain⟨st,ld,e1,e2,e3,e4⟩:=tG (S:=S) hA l (i+1) (⟨i,k,s.M.next,M'.next⟩::dn) s1 s' (fun j=>if j=i+1 then s1 else st0 j) (fun j=>if j=i then k else ld0 j) b3 h (by simp)
       (fun d hd'=>by
        rcases List.mem_cons.1 hd' with rfl|hd'
        ·rw[b2];exact Nat.le_refl _
        ·exact Nat.le_trans (hd d hd') a8)
       (fun m hlt hne=>by
        by_cases hmi:m=i
        ·subst hmi;simp [hs,b2]
        ·have h1:m≠i+1:=by omega
         have h2:m+1≠i+1:=by omega
         simp only [hmi,h1,h2,if_false] at hne⊢;exact List.mem_cons_of_mem _ (hm m (by omega) hne))
      have a1:st i=s:=by rw[e1 i (by omega)];simp [hs]
      have a0:st (i+1)=s1:=by rw[e1 (i+1) (by omega)];simp
      have a2:ld i=k:=by rw[e2 i (by omega)];simp
      have a7:∀m,m<=i->st m=st0 m:=fun m hmi=>by
       rw[e1 m (by omega)];have:m≠i+1:=by omega
       simp [this]
      have a6:∀m,m<i->ld m=ld0 m:=fun m hmi=>by
       rw[e2 m (by omega)];have:m≠i:=by omega
       simp [this]
      refine⟨st,ld,a7,a6,by rw[<-e3];congr 1;simp;omega,fun j h1 h2=>?_⟩;rcases Nat.lt_or_ge i j with hij|hij
      ·have:=e4 j (by omega) (by simp at h2;omega);have hh:s1.M.hide=s.M.hide:=by rw[a5]
       rw[hh] at this;exact this
      ·have b1:j=i:=by omega
       subst b1;have a9:∀m,m<j->ld m≠0->(⟨m,ld m,(st m).M.next,(st (m+1)).M.next⟩:jW)∈dn:=fun m hmj hne=>by
        rw[a6 m hmj,a7 m (by omega),a7 (m+1) (by omega)];exact hm m hmj (by rw[<-a6 m hmj];exact hne)
       refine⟨by rw[a0,a5],o,deps,h0,hb,.inr (.inl ⟨by rw[a1];exact hw,r,M',aP deps dn,by rw[a1,a2];exact hop,by rw[a1,a0];exact hput,?_,?_,?_,?_⟩)⟩
       ·intro m hmj hne ht id q1 q2;exact mF (a9 m hmj hne) hne ht id q1 q2
       ·intro h2;by_cases hst:mI ops=true/\fZ o=true
        ·exact .inr hst
        refine .inl (uP fun d hd'=>?_);rcases oM hmay d hd' with q|q|q|q|⟨q0,q|q⟩
        ·exact .inl q
        ·omega
        ·exact .inr q
        ·omega
        ·omega
        ·exact absurd ⟨q0,q.1⟩ hst
       ·intro id hid;rw[a1];exact tU hd id hid
       ·intro m hmj hne hnj;rcases oM hmay _ (a9 m hmj hne) with q|q|q|q|⟨q0,q|q⟩
        ·exact absurd q hne
        ·exact absurd (by rw[a2];exact q) hnj
        ·exact .inl q
        ·exact .inr (.inl ⟨q.1,by rw[a2];exact q.2⟩)
        ·exact .inr (.inr ⟨q0,.inl ⟨q.1,by rw[a2];exact q.2.1,q.2.2⟩⟩)
        ·exact .inr (.inr ⟨q0,.inr q⟩)
     ·cases h
   ·cases h
  ·rename_i deps hw hb;split at h
   ·rename_i s1 hput;have a5:s1.M=s.M:=fN hput
    obtain⟨st,ld,e1,e2,e3,e4⟩:=tG (S:=S) hA l (i+1) dn s1 s' (fun j=>if j=i+1 then s1 else st0 j) (fun j=>if j=i then 0 else ld0 j) b3 h (by simp)
     (fun d hd'=>by rw[a5];exact hd d hd')
     (fun m hlt hne=>by
      by_cases hmi:m=i
      ·subst hmi;simp at hne
      ·have h1:m≠i+1:=by omega
       have h2:m+1≠i+1:=by omega
       simp only [hmi,h1,h2,if_false] at hne⊢;exact hm m (by omega) hne)
    have a1:st i=s:=by rw[e1 i (by omega)];simp [hs]
    have a0:st (i+1)=s1:=by rw[e1 (i+1) (by omega)];simp
    have a2:ld i=0:=by rw[e2 i (by omega)];simp
    refine⟨st,ld,fun m hmi=>?_,fun m hmi=>?_,by rw[<-e3];congr 1;simp;omega,fun j h1 h2=>?_⟩
    ·rw[e1 m (by omega)];have:m≠i+1:=by omega
     simp [this]
    ·rw[e2 m (by omega)];have:m≠i:=by omega
     simp [this]
    ·rcases Nat.lt_or_ge i j with hij|hij
     ·have:=e4 j (by omega) (by simp at h2;omega);rw[a5] at this;exact this
     ·have b1:j=i:=by omega
      subst b1;exact⟨by rw[a0,a5],o,deps,h0,hb,.inl ⟨by rw[a1];exact hw,by rw[a1,a0];exact hput,a2⟩⟩
   ·cases h
  ·cases h
theorem yD{GL:List Nat}{sl:List Nat}{n0 i b:Nat}{o:Oper}{T:Tr Value}(h:oJ GL sl n0 o i T=some b):(∃t x a,o.op= .load t x/\ev GL T x=some (.pointer (some a))/\b=a.block)/\b<n0:=by
 unfold oJ at h;cases hc:eX i sl<;>simp only [hc,cond_true,cond_false] at h
 ·cases h
 ·unfold Ii at h;split at h
  ·rename_i t x hop;split at h
   ·rename_i a ha;cases hb:Nat.blt a.block n0<;>simp only [hb,cond_true,cond_false] at h
    ·cases h
    ·simp only [Option.some.injEq] at h;subst h;exact⟨⟨t,x,a,hop,ha,rfl⟩,xAd hb⟩
   ·cases h
  ·cases h
theorem Jo{a0:dD}{o:Oper}{T:Tr Value}{M M':aB}{k:Nat}{r:AR}{t:TypeId}{x:Operand}{a:Addr}(h1:o.op= .load t x)(h2:ev GL T x=some (.pointer (some a)))(h:jY P GL a0 o T M=some (k,r,M')):
  ∃v,r= .val v/\bA P t a M=some v:=by
 obtain⟨dst,op,type,pos,after,guard⟩:=o
 simp only at h1
 subst h1
 simp only [jY,fL,fM,h2] at h
 cases hl:bA P t a M with
 |none=>rw[hl] at h;cases h
 |some v=>
  rw[hl] at h
  simp only [Option.some.injEq,Prod.mk.injEq] at h
  exact⟨v,h.2.1.symm,rfl⟩
theorem Ti{a0:dD}{o:Oper}{T:Tr Value}{M:aB}{v:Value}{t:TypeId}{x:Operand}{a:Addr}(h1:o.op= .load t x)(h2:ev GL T x=some (.pointer (some a)))(h:bA P t a M=some v):
  jY P GL a0 o T M=some (1,.val v,M):=by
 obtain⟨dst,op,type,pos,after,guard⟩:=o
 simp only at h1
 subst h1
 simp only [jY,fL,fM,h2,h]
theorem mB{S:List Nat}{a5:dD}(hA:bW a5){a4 sl:List Nat}{n0:Nat}:∀(l:List Oper) (i:Nat) (dn:List jW) (S0:List Nat) (s s':St) (st0:Nat->St) (ld0:Nat->Nat),(∀j,j<l.length->l[j]?=ops[i+j]?)->
  lP P GL a5 ops a4 sl n0 l i dn S0 s=some (s',S)->st0 i=s->(∀d∈dn,d.hi<=s.M.next)->(∀m,m<i->ld0 m≠0->(⟨m,ld0 m,(st0 m).M.next,(st0 (m+1)).M.next⟩:jW)∈dn)->
  (∀b∈S,b∈S0\/b<n0)/\(∀b∈S0,b∈S)/\∃(st:Nat->St) (ld:Nat->Nat),(∀j,j<=i->st j=st0 j)/\(∀j,j<i->ld j=ld0 j)/\st (i+l.length)=s'/\∀j,i<=j->j<i+l.length->He P GL a5 ops a4 s.M.hide (fun _ a=>a.block∈S) st ld j
 | [],i,dn,S0,s,s',st0,ld0,hl,h,hs,hd,hm=>by
  simp only [lP,Option.some.injEq,Prod.mk.injEq] at h;obtain⟨rfl,rfl⟩:=h;exact⟨fun b hb=> .inl hb,fun b hb=>hb,st0,ld0,fun _ _=>rfl,fun _ _=>rfl,by simpa using hs,fun j h1 h2=>by simp at h2;omega⟩
 |o::l,i,dn,S0,s,s',st0,ld0,hl,h,hs,hd,hm=>by
  have h0:ops[i]?=some o:=by simpa using(hl 0 (by simp)).symm
  have b2:∀j,j<l.length->l[j]?=ops[i+1+j]?:=fun j hj=>by
   have:=hl (j+1) (by simpa using hj);rw[show i+1+j=i+(j+1) by omega];simpa using this
  simp only [lP] at h;split at h
  ·rename_i deps hw hb;split at h
   ·rename_i k r M' hop;split at h
    ·rename_i b hst;split at h
     ·rename_i s1 hput;have a3:s1.M=s.M:=fN hput
      obtain⟨g1,g2,st,ld,e1,e2,e3,e4⟩:=mB (S:=S) hA l (i+1) dn (b::S0) s1 s' (fun j=>if j=i+1 then s1 else st0 j) (fun j=>if j=i then 0 else ld0 j) b2 h (by simp)
       (fun d hd'=>by rw[a3];exact hd d hd')
       (fun m hlt hne=>by
        by_cases hmi:m=i
        ·subst hmi;simp at hne
        ·have h1:m≠i+1:=by omega
         have h2:m+1≠i+1:=by omega
         simp only [hmi,h1,h2,if_false] at hne⊢;exact hm m (by omega) hne)
      have a1:st i=s:=by rw[e1 i (by omega)];simp [hs]
      have a0:st (i+1)=s1:=by rw[e1 (i+1) (by omega)];simp
      have a2:ld i=0:=by rw[e2 i (by omega)];simp
      refine⟨fun x hx=>?_,fun x hx=>g2 x (List.mem_cons_of_mem _ hx),st,ld,fun m hmi=>?_,fun m hmi=>?_,by rw[<-e3];congr 1;simp;omega,fun j h1 h2=>?_⟩
      ·rcases g1 x hx with h|h
       ·rcases List.mem_cons.1 h with rfl|h
        ·exact .inr (yD hst).2
        ·exact .inl h
       ·exact .inr h
      ·rw[e1 m (by omega)];have:m≠i+1:=by omega
       simp [this]
      ·rw[e2 m (by omega)];have:m≠i:=by omega
       simp [this]
      ·rcases Nat.lt_or_ge i j with hij|hij
       ·have:=e4 j (by omega) (by simp at h2;omega);rw[a3] at this;exact this
       ·have a8:j=i:=by omega
        subst a8;obtain⟨⟨t,x,a,q1,q2,rfl⟩,_⟩:=yD hst;obtain⟨v,rfl,q3⟩:=Jo q1 q2 hop;exact⟨by rw[a0,a3],o,deps,h0,hb,.inr (.inr ⟨by rw[a1];exact hw,t,x,a,v,aP deps dn,q1,by rw[a1];exact q2,by rw[a1];exact q3,by rw[a1,a0];exact hput,a2,g2 _ (by simp)⟩)⟩
     ·cases h
    ·rename_i hst;cases hmay:wL ops o deps k dn<;>simp only [hmay,cond_true,cond_false] at h
     ·cases h
     ·split at h
      ·rename_i s1 hput;have b1:=mC hA hop;obtain⟨L,hL,_⟩:=b1.ex;have a3:s1.M={M' with hide:=s.M.hide}:=fN hput;have a9:s.M.next<=s1.M.next:=by rw[a3];exact hL.next
       have b3:s1.M.next=M'.next:=by rw[a3]
       obtain⟨g1,g2,st,ld,e1,e2,e3,e4⟩:=mB (S:=S) hA l (i+1) (⟨i,k,s.M.next,M'.next⟩::dn) S0 s1 s' (fun j=>if j=i+1 then s1 else st0 j) (fun j=>if j=i then k else ld0 j) b2 h (by simp)
        (fun d hd'=>by
         rcases List.mem_cons.1 hd' with rfl|hd'
         ·rw[b3];exact Nat.le_refl _
         ·exact Nat.le_trans (hd d hd') a9)
        (fun m hlt hne=>by
         by_cases hmi:m=i
         ·subst hmi;simp [hs,b3]
         ·have h1:m≠i+1:=by omega
          have h2:m+1≠i+1:=by omega
          simp only [hmi,h1,h2,if_false] at hne⊢;exact List.mem_cons_of_mem _ (hm m (by omega) hne))
       have a1:st i=s:=by rw[e1 i (by omega)];simp [hs]
       have a0:st (i+1)=s1:=by rw[e1 (i+1) (by omega)];simp
       have a2:ld i=k:=by rw[e2 i (by omega)];simp
       have a7:∀m,m<=i->st m=st0 m:=fun m hmi=>by
        rw[e1 m (by omega)];have:m≠i+1:=by omega
        simp [this]
       have a6:∀m,m<i->ld m=ld0 m:=fun m hmi=>by
        rw[e2 m (by omega)];have:m≠i:=by omega
        simp [this]
       refine⟨g1,g2,st,ld,a7,a6,by rw[<-e3];congr 1;simp;omega,fun j h1 h2=>?_⟩;rcases Nat.lt_or_ge i j with hij|hij
       ·have:=e4 j (by omega) (by simp at h2;omega);have hh:s1.M.hide=s.M.hide:=by rw[a3]
        rw[hh] at this;exact this
       ·have a8:j=i:=by omega
        subst a8;have b0:∀m,m<j->ld m≠0->(⟨m,ld m,(st m).M.next,(st (m+1)).M.next⟩:jW)∈dn:=fun m hmj hne=>by
         rw[a6 m hmj,a7 m (by omega),a7 (m+1) (by omega)];exact hm m hmj (by rw[<-a6 m hmj];exact hne)
        refine⟨by rw[a0,a3],o,deps,h0,hb,.inr (.inl ⟨by rw[a1];exact hw,r,M',aP deps dn,by rw[a1,a2];exact hop,by rw[a1,a0];exact hput,?_,?_,?_,?_⟩)⟩
        ·intro m hmj hne ht id q1 q2;exact mF (b0 m hmj hne) hne ht id q1 q2
        ·intro h2;by_cases hst:mI ops=true/\fZ o=true
         ·exact .inr hst
         refine .inl (uP fun d hd'=>?_);rcases oM hmay d hd' with q|q|q|q|⟨q0,q|q⟩
         ·exact .inl q
         ·omega
         ·exact .inr q
         ·omega
         ·omega
         ·exact absurd ⟨q0,q.1⟩ hst
        ·intro id hid;rw[a1];exact tU hd id hid
        ·intro m hmj hne hnj;rcases oM hmay _ (b0 m hmj hne) with q|q|q|q|⟨q0,q|q⟩
         ·exact absurd q hne
         ·exact absurd (by rw[a2];exact q) hnj
         ·exact .inl q
         ·exact .inr (.inl ⟨q.1,by rw[a2];exact q.2⟩)
         ·exact .inr (.inr ⟨q0,.inl ⟨q.1,by rw[a2];exact q.2.1,q.2.2⟩⟩)
         ·exact .inr (.inr ⟨q0,.inr q⟩)
      ·cases h
   ·cases h
  ·rename_i deps hw hb;split at h
   ·rename_i s1 hput;have a3:s1.M=s.M:=fN hput
    obtain⟨g1,g2,st,ld,e1,e2,e3,e4⟩:=mB (S:=S) hA l (i+1) dn S0 s1 s' (fun j=>if j=i+1 then s1 else st0 j) (fun j=>if j=i then 0 else ld0 j) b2 h (by simp)
     (fun d hd'=>by rw[a3];exact hd d hd')
     (fun m hlt hne=>by
      by_cases hmi:m=i
      ·subst hmi;simp at hne
      ·have h1:m≠i+1:=by omega
       have h2:m+1≠i+1:=by omega
       simp only [hmi,h1,h2,if_false] at hne⊢;exact hm m (by omega) hne)
    have a1:st i=s:=by rw[e1 i (by omega)];simp [hs]
    have a0:st (i+1)=s1:=by rw[e1 (i+1) (by omega)];simp
    have a2:ld i=0:=by rw[e2 i (by omega)];simp
    refine⟨g1,g2,st,ld,fun m hmi=>?_,fun m hmi=>?_,by rw[<-e3];congr 1;simp;omega,fun j h1 h2=>?_⟩
    ·rw[e1 m (by omega)];have:m≠i+1:=by omega
     simp [this]
    ·rw[e2 m (by omega)];have:m≠i:=by omega
     simp [this]
    ·rcases Nat.lt_or_ge i j with hij|hij
     ·have:=e4 j (by omega) (by simp at h2;omega);rw[a3] at this;exact this
     ·have a8:j=i:=by omega
      subst a8;exact⟨by rw[a0,a3],o,deps,h0,hb,.inl ⟨by rw[a1];exact hw,by rw[a1,a0];exact hput,a2⟩⟩
   ·cases h
  ·cases h
theorem vO{GL:List Nat}{sl:List Nat}{n0 i:Nat}{b:TypeId×Addr}{o:Oper}{T:Tr Value}(h:Eh GL sl n0 o i T=some b):(∃t x a,o.op= .load t x/\ev GL T x=some (.pointer (some a))/\b=(t,a))/\b.2.block<n0:=by
 unfold Eh at h;cases hc:eX i sl<;>simp only [hc,cond_true,cond_false] at h
 ·cases h
 ·split at h
  ·rename_i t x hop;split at h
   ·rename_i a ha;cases hb:Nat.blt a.block n0<;>simp only [hb,cond_true,cond_false] at h
    ·cases h
    ·simp only [Option.some.injEq] at h;subst h;exact⟨⟨t,x,a,hop,ha,rfl⟩,xAd hb⟩
   ·cases h
  ·cases h
theorem oD{S:List (TypeId×Addr)}{W:List (Nat×Nat×Nat)}{a5:dD}(hA:bW a5){a4 sl:List Nat}{n0:Nat}:∀(l:List Oper) (i:Nat) (dn:List jW) (S0:List (TypeId×Addr)) (W0:List (Nat×Nat×Nat)) (s s':St) (st0:Nat->St) (ld0:Nat->Nat),(∀j,j<l.length->l[j]?=ops[i+j]?)->
  qP P GL a5 ops a4 sl n0 l i dn S0 W0 s=some (s',S,W)->st0 i=s->(∀d∈dn,d.hi<=s.M.next)->(∀m,m<i->ld0 m≠0->(⟨m,ld0 m,(st0 m).M.next,(st0 (m+1)).M.next⟩:jW)∈dn)->
  (∀b∈S,b∈S0\/b.2.block<n0)/\(∀b∈S0,b∈S)/\(∀e∈W0,e∈W)/\∃(st:Nat->St) (ld:Nat->Nat),(∀j,j<=i->st j=st0 j)/\(∀j,j<i->ld j=ld0 j)/\st (i+l.length)=s'/\∀j,i<=j->j<i+l.length->He P GL a5 ops a4 s.M.hide (fun t a=>(t,a)∈S) st ld j/\(ld j<=1\/∃o,ops[j]?=some o/\fZ o=true/\∀e∈yE GL o (st j).T,e∈W)
 | [],i,dn,S0,W0,s,s',st0,ld0,hl,h,hs,hd,hm=>by
  simp only [qP,Option.some.injEq,Prod.mk.injEq] at h;obtain⟨rfl,rfl,rfl⟩:=h;exact⟨fun b hb=> .inl hb,fun b hb=>hb,fun e he=>he,st0,ld0,fun _ _=>rfl,fun _ _=>rfl,by simpa using hs,fun j h1 h2=>by simp at h2;omega⟩
 |o::l,i,dn,S0,W0,s,s',st0,ld0,hl,h,hs,hd,hm=>by
  have h0:ops[i]?=some o:=by simpa using(hl 0 (by simp)).symm
  have b5:∀j,j<l.length->l[j]?=ops[i+1+j]?:=fun j hj=>by
   have:=hl (j+1) (by simpa using hj);rw[show i+1+j=i+(j+1) by omega];simpa using this
  simp only [qP] at h;split at h
  ·rename_i deps hw hb;split at h
   ·rename_i k r M' hop;split at h
    ·rename_i b hst;split at h
     ·rename_i s1 hput;have a3:s1.M=s.M:=fN hput
      obtain⟨g1,g2,g3,st,ld,e1,e2,e3,e4⟩:=oD (S:=S) hA l (i+1) dn (b::S0) W0 s1 s' (fun j=>if j=i+1 then s1 else st0 j) (fun j=>if j=i then 0 else ld0 j) b5 h (by simp)
       (fun d hd'=>by rw[a3];exact hd d hd')
       (fun m hlt hne=>by
        by_cases hmi:m=i
        ·subst hmi;simp at hne
        ·have h1:m≠i+1:=by omega
         have h2:m+1≠i+1:=by omega
         simp only [hmi,h1,h2,if_false] at hne⊢;exact hm m (by omega) hne)
      have a0:st i=s:=by rw[e1 i (by omega)];simp [hs]
      have a1:st (i+1)=s1:=by rw[e1 (i+1) (by omega)];simp
      have a2:ld i=0:=by rw[e2 i (by omega)];simp
      refine⟨fun x hx=>?_,fun x hx=>g2 x (List.mem_cons_of_mem _ hx),g3,st,ld,fun m hmi=>?_,fun m hmi=>?_,by rw[<-e3];congr 1;simp;omega,fun j h1 h2=>?_⟩
      ·rcases g1 x hx with h|h
       ·rcases List.mem_cons.1 h with rfl|h
        ·exact .inr (vO hst).2
        ·exact .inl h
       ·exact .inr h
      ·rw[e1 m (by omega)];have:m≠i+1:=by omega
       simp [this]
      ·rw[e2 m (by omega)];have:m≠i:=by omega
       simp [this]
      ·rcases Nat.lt_or_ge i j with hij|hij
       ·have:=e4 j (by omega) (by simp at h2;omega);rw[a3] at this;exact this
       ·have a9:j=i:=by omega
        subst a9;obtain⟨⟨t,x,a,q1,q2,rfl⟩,_⟩:=vO hst;obtain⟨v,rfl,q3⟩:=Jo q1 q2 hop;exact⟨⟨by rw[a1,a3],o,deps,h0,hb,.inr (.inr ⟨by rw[a0];exact hw,t,x,a,v,aP deps dn,q1,by rw[a0];exact q2,by rw[a0];exact q3,by rw[a0,a1];exact hput,a2,g2 _ (by simp)⟩)⟩,.inl (by rw[a2];exact Nat.zero_le _)⟩
     ·cases h
    ·rename_i hst;cases a6:(wL ops o deps k dn&&(Nat.ble k 1||fZ o))<;>simp only [a6,cond_true,cond_false] at h
     ·cases h
     ·split at h
      ·rename_i s1 hput;simp only [Bool.and_eq_true,Bool.or_eq_true,Nat.ble_eq] at a6;obtain⟨b1,b0⟩:=a6;have b4:=mC hA hop;obtain⟨L,hL,_⟩:=b4.ex;have a3:s1.M={M' with hide:=s.M.hide}:=fN hput;have b2:s.M.next<=s1.M.next:=by rw[a3];exact hL.next
       have b6:s1.M.next=M'.next:=by rw[a3]
       obtain⟨g1,g2,g3,st,ld,e1,e2,e3,e4⟩:=oD (S:=S) hA l (i+1) (⟨i,k,s.M.next,M'.next⟩::dn) S0 (yE GL o s.T++W0) s1 s' (fun j=>if j=i+1 then s1 else st0 j) (fun j=>if j=i then k else ld0 j) b5 h (by simp)
        (fun d hd'=>by
         rcases List.mem_cons.1 hd' with rfl|hd'
         ·rw[b6];exact Nat.le_refl _
         ·exact Nat.le_trans (hd d hd') b2)
        (fun m hlt hne=>by
         by_cases hmi:m=i
         ·subst hmi;simp [hs,b6]
         ·have h1:m≠i+1:=by omega
          have h2:m+1≠i+1:=by omega
          simp only [hmi,h1,h2,if_false] at hne⊢;exact List.mem_cons_of_mem _ (hm m (by omega) hne))
       have a0:st i=s:=by rw[e1 i (by omega)];simp [hs]
       have a1:st (i+1)=s1:=by rw[e1 (i+1) (by omega)];simp
       have a2:ld i=k:=by rw[e2 i (by omega)];simp
       have a8:∀m,m<=i->st m=st0 m:=fun m hmi=>by
        rw[e1 m (by omega)];have:m≠i+1:=by omega
        simp [this]
       have a7:∀m,m<i->ld m=ld0 m:=fun m hmi=>by
        rw[e2 m (by omega)];have:m≠i:=by omega
        simp [this]
       refine⟨g1,g2,fun e he=>g3 e (List.mem_append_right _ he),st,ld,a8,a7,by rw[<-e3];congr 1;simp;omega,fun j h1 h2=>?_⟩;rcases Nat.lt_or_ge i j with hij|hij
       ·have:=e4 j (by omega) (by simp at h2;omega);have hh:s1.M.hide=s.M.hide:=by rw[a3]
        rw[hh] at this;exact this
       ·have a9:j=i:=by omega
        subst a9;have b3:∀m,m<j->ld m≠0->(⟨m,ld m,(st m).M.next,(st (m+1)).M.next⟩:jW)∈dn:=fun m hmj hne=>by
         rw[a7 m hmj,a8 m (by omega),a8 (m+1) (by omega)];exact hm m hmj (by rw[<-a7 m hmj];exact hne)
        refine⟨⟨by rw[a1,a3],o,deps,h0,hb,.inr (.inl ⟨by rw[a0];exact hw,r,M',aP deps dn,by rw[a0,a2];exact hop,by rw[a0,a1];exact hput,?_,?_,?_,?_⟩)⟩,?_⟩
        ·intro m hmj hne ht id q1 q2;exact mF (b3 m hmj hne) hne ht id q1 q2
        ·intro h2;by_cases hst:mI ops=true/\fZ o=true
         ·exact .inr hst
         refine .inl (uP fun d hd'=>?_);rcases oM b1 d hd' with q|q|q|q|⟨q0,q|q⟩
         ·exact .inl q
         ·omega
         ·exact .inr q
         ·omega
         ·omega
         ·exact absurd ⟨q0,q.1⟩ hst
        ·intro id hid;rw[a0];exact tU hd id hid
        ·intro m hmj hne hnj;rcases oM b1 _ (b3 m hmj hne) with q|q|q|q|⟨q0,q|q⟩
         ·exact absurd q hne
         ·exact absurd (by rw[a2];exact q) hnj
         ·exact .inl q
         ·exact .inr (.inl ⟨q.1,by rw[a2];exact q.2⟩)
         ·exact .inr (.inr ⟨q0,.inl ⟨q.1,by rw[a2];exact q.2.1,q.2.2⟩⟩)
         ·exact .inr (.inr ⟨q0,.inr q⟩)
        ·rcases b0 with b0|b0
         ·exact .inl (by rw[a2];exact b0)
         ·exact .inr ⟨o,h0,b0,fun e he=>g3 e (List.mem_append_left _ (by rw[a0] at he;exact he))⟩
      ·cases h
   ·cases h
  ·rename_i deps hw hb;split at h
   ·rename_i s1 hput;have a3:s1.M=s.M:=fN hput
    obtain⟨g1,g2,g3,st,ld,e1,e2,e3,e4⟩:=oD (S:=S) hA l (i+1) dn S0 W0 s1 s' (fun j=>if j=i+1 then s1 else st0 j) (fun j=>if j=i then 0 else ld0 j) b5 h (by simp)
     (fun d hd'=>by rw[a3];exact hd d hd')
     (fun m hlt hne=>by
      by_cases hmi:m=i
      ·subst hmi;simp at hne
      ·have h1:m≠i+1:=by omega
       have h2:m+1≠i+1:=by omega
       simp only [hmi,h1,h2,if_false] at hne⊢;exact hm m (by omega) hne)
    have a0:st i=s:=by rw[e1 i (by omega)];simp [hs]
    have a1:st (i+1)=s1:=by rw[e1 (i+1) (by omega)];simp
    have a2:ld i=0:=by rw[e2 i (by omega)];simp
    refine⟨g1,g2,g3,st,ld,fun m hmi=>?_,fun m hmi=>?_,by rw[<-e3];congr 1;simp;omega,fun j h1 h2=>?_⟩
    ·rw[e1 m (by omega)];have:m≠i+1:=by omega
     simp [this]
    ·rw[e2 m (by omega)];have:m≠i:=by omega
     simp [this]
    ·rcases Nat.lt_or_ge i j with hij|hij
     ·have:=e4 j (by omega) (by simp at h2;omega);rw[a3] at this;exact this
     ·have a9:j=i:=by omega
      subst a9;exact⟨⟨by rw[a1,a3],o,deps,h0,hb,.inl ⟨by rw[a0];exact hw,by rw[a0,a1];exact hput,a2⟩⟩,.inl (by rw[a2];exact Nat.zero_le _)⟩
   ·cases h
  ·cases h
theorem yM{a0:dD}(hA:bW a0){a1:List Nat}:∀(l:List Oper) (i:Nat) (dn:List jW) (s s':St),pZ P GL a0 ops a1 l i dn s=some s'->∃L,mA s.M s'.M L
 | [],i,dn,s,s',h=>by simp [pZ] at h;subst h;exact⟨_,mA.refl _⟩
 |o::l,i,dn,s,s',h=>by
  simp only [pZ] at h;split at h
  ·rename_i deps hw hb;split at h
   ·rename_i k r M' hop;cases hmay:wL ops o deps k dn<;>simp only [hmay,cond_true,cond_false] at h
    ·cases h
    ·split at h
     ·rename_i s1 hput;obtain⟨L1,h1,_⟩:=(mC hA hop).ex;obtain⟨L2,h2⟩:=yM hA l (i+1) _ s1 s' h;rw[fN hput] at h2;have h3:mA s.M {M' with hide:=s.M.hide} L1:=⟨rfl,h1.next,h1.log,h1.keep,h1.logb⟩;exact⟨_,h3.trans h2⟩
     ·cases h
   ·cases h
  ·split at h
   ·rename_i s1 hput;obtain⟨L2,h2⟩:=yM hA l (i+1) _ s1 s' h;rw[fN hput] at h2;exact⟨_,h2⟩
   ·cases h
  ·cases h
theorem oS{a0:dD}(hA:bW a0){a1 sl:List Nat}{n0:Nat}:∀(l:List Oper) (i:Nat) (dn:List jW) (S0 S:List Nat) (s s':St),lP P GL a0 ops a1 sl n0 l i dn S0 s=some (s',S)->∃L,mA s.M s'.M L
 | [],i,dn,S0,S,s,s',h=>by simp [lP] at h;obtain⟨rfl,_⟩:=h;exact⟨_,mA.refl _⟩
 |o::l,i,dn,S0,S,s,s',h=>by
  simp only [lP] at h;split at h
  ·rename_i deps hw hb;split at h
   ·rename_i k r M' hop;split at h
    ·rename_i b hst;split at h
     ·rename_i s1 hput;obtain⟨L2,h2⟩:=oS hA l (i+1) _ _ _ s1 s' h;rw[fN hput] at h2;exact⟨_,h2⟩
     ·cases h
    ·cases hmay:wL ops o deps k dn<;>simp only [hmay,cond_true,cond_false] at h
     ·cases h
     ·split at h
      ·rename_i s1 hput;obtain⟨L1,h1,_⟩:=(mC hA hop).ex;obtain⟨L2,h2⟩:=oS hA l (i+1) _ _ _ s1 s' h;rw[fN hput] at h2;have h3:mA s.M {M' with hide:=s.M.hide} L1:=⟨rfl,h1.next,h1.log,h1.keep,h1.logb⟩;exact⟨_,h3.trans h2⟩
      ·cases h
   ·cases h
  ·split at h
   ·rename_i s1 hput;obtain⟨L2,h2⟩:=oS hA l (i+1) _ _ _ s1 s' h;rw[fN hput] at h2;exact⟨_,h2⟩
   ·cases h
  ·cases h
theorem rV{a0:dD}(hA:bW a0){a1 sl:List Nat}{n0:Nat}:∀(l:List Oper) (i:Nat) (dn:List jW) (S0 S:List (TypeId×Addr)) (W0 W:List (Nat×Nat×Nat)) (s s':St),qP P GL a0 ops a1 sl n0 l i dn S0 W0 s=some (s',S,W)->∃L,mA s.M s'.M L
 | [],i,dn,S0,S,W0,W,s,s',h=>by simp [qP] at h;obtain⟨rfl,_⟩:=h;exact⟨_,mA.refl _⟩
 |o::l,i,dn,S0,S,W0,W,s,s',h=>by
  simp only [qP] at h;split at h
  ·rename_i deps hw hb;split at h
   ·rename_i k r M' hop;split at h
    ·rename_i b hst;split at h
     ·rename_i s1 hput;obtain⟨L2,h2⟩:=rV hA l (i+1) _ _ _ _ _ s1 s' h;rw[fN hput] at h2;exact⟨_,h2⟩
     ·cases h
    ·cases hmay:(wL ops o deps k dn&&(Nat.ble k 1||fZ o))<;>simp only [hmay,cond_true,cond_false] at h
     ·cases h
     ·split at h
      ·rename_i s1 hput;obtain⟨L1,h1,_⟩:=(mC hA hop).ex;obtain⟨L2,h2⟩:=rV hA l (i+1) _ _ _ _ _ s1 s' h;rw[fN hput] at h2;have h3:mA s.M {M' with hide:=s.M.hide} L1:=⟨rfl,h1.next,h1.log,h1.keep,h1.logb⟩;exact⟨_,h3.trans h2⟩
      ·cases h
   ·cases h
  ·split at h
   ·rename_i s1 hput;obtain⟨L2,h2⟩:=rV hA l (i+1) _ _ _ _ _ s1 s' h;rw[fN hput] at h2;exact⟨_,h2⟩
   ·cases h
  ·cases h
theorem mA.fresh{M M':aB}{L:List Nat}(h:mA {M with log:=[]} M' L):mA M {M' with log:=M'.log++M.log} L:=
 ⟨h.hide,h.next,by show M'.log++M.log=L++M.log;rw[h.log];simp,h.keep,h.logb⟩
theorem Mw{t:TypeId}{a:Addr}{v:Value}{M M':aB}(hs:eB P t a v M=some M'):mA M M' [a.block]:=by
 unfold eB at hs;split at hs<;>try (simp at hs;done)
 rename_i b i hgb _;generalize (Nat.beq _ i.size&&_&&_&&_)=q at hs;cases q<;>simp only [cond_true,cond_false] at hs
 ·simp at hs
 ·simp at hs;subst hs;exact mA.put _ (cB.1 hgb).1 _
theorem Ji{a0:dD}(hA:bW a0){sl:List Nat}{s s':St}(h:xC P GL a0 ops sl s=some s'):∃L,mA s.M s'.M L:=by
 unfold xC at h;split at h
 ·rename_i s1 S W h1;cases hp:yO P S W<;>simp only [hp,cond_true,cond_false] at h
  ·cases h
  ·simp only [Option.some.injEq] at h;subst h;obtain⟨L,hL⟩:=rV hA _ _ _ _ _ _ _ _ _ h1;exact⟨L,mA.fresh hL⟩
 ·cases h
theorem Jh{a0:dD}(hA:bW a0){s s':St}(h:rW P GL a0 ops s=some s'):∃L,mA s.M s'.M L:=by
 unfold rW at h;split at h
 ·exact yM hA _ _ _ _ _ h
 ·split at h
  ·rename_i s1 S h1;cases hp:bZ S s1.M.log<;>simp only [hp,cond_true,cond_false] at h
   ·exact Ji hA h
   ·simp only [Option.some.injEq] at h;subst h;obtain⟨L,hL⟩:=oS hA _ _ _ _ _ _ _ h1;exact⟨L,mA.fresh hL⟩
  ·cases h
theorem Kg{f:Oper}{s s1 s':St}(h:Vo P GL f s s1=some s'):∃t x y a v M2,f.op= .store t x y/\ev GL s1.T x=some (.pointer (some a))/\ev GL s1.T y=some v/\eB P t a v s1.M=some M2/\
  a.block<s.M.next/\eX a.block s1.M.log=false/\s'=Fu s {s1 with M:=M2}:=by
 unfold Vo at h
 split at h<;>try (simp at h;done)
 rename_i t x y hop
 split at h<;>try (simp at h;done)
 rename_i a v hx hy
 split at h<;>try (simp at h;done)
 rename_i M2 hst
 cases hq:(Nat.blt a.block s.M.next&& !(eX a.block s1.M.log))<;>simp only [hq,cond_true,cond_false] at h
 ·cases h
 ·simp only [Bool.and_eq_true,Bool.not_eq_true'] at hq;simp only [Option.some.injEq] at h;exact⟨t,x,y,a,v,M2,hop,hx,hy,hst,xAd hq.1,hq.2,h.symm⟩
theorem Mn{a0:dD}(hA:bW a0){s s':St}(h:oV P GL a0 ops s=some s'):∃L,mA s.M s'.M L:=by
 unfold oV at h;split at h
 ·unfold Bz at h;split at h
  ·rename_i s1 S h1;cases hp:bZ S s1.M.log<;>simp only [hp,cond_true,cond_false] at h
   ·cases h
   ·obtain⟨t,x,y,a,v,M2,_,_,_,h2,_,_,rfl⟩:=Kg h;obtain⟨L,hL⟩:=oS hA _ _ _ _ _ _ _ h1;exact⟨_,mA.fresh (hL.trans (Mw h2))⟩
  ·cases h
 ·exact Jh hA h
theorem tJ:∀{S l:List Nat},bZ S l=true->∀b∈S,b∉l
 | [],_,_,b,hb=>by cases hb
 |x::S,l,h,b,hb=>by
  simp only [bZ,Bool.and_eq_true,Bool.not_eq_true'] at h;rcases List.mem_cons.1 hb with rfl|hb
  ·intro hm;have:∀l:List Nat,b∈l->eX b l=true:=fun l=>by
    induction l with
    |nil=>intro h;cases h
    |cons y l ih=>
     intro h
     simp only [eX,Bool.or_eq_true]
     rcases List.mem_cons.1 h with rfl|h
     ·exact .inl (by simp)
     ·exact .inr (ih h)
   rw[this l hm] at h;cases h.1
  ·exact tJ h.2 b hb
end Go.Am

noncomputable section
namespace Go.Am
open Go
variable{ro:Option Nat}
variable{P:Program}{GL:List Nat}{B:Bd}{callF:dD}{ops:Array Oper}{before:List Nat}{h0:List (Nat×Nat)}{S:TypeId->Addr->Prop}{st:Nat->St}{ld:Nat->Nat}{N:Nat}
structure sU(P:Program)(GL:List Nat)(callF:dD)(ops:Array Oper)(before:List Nat)(h0:List (Nat×Nat))(S:TypeId->Addr->Prop)(st:Nat->St)(ld:Nat->Nat)(N:Nat):Prop where
 steps:∀j,j<N->He P GL callF ops before h0 S st ld j
 hide0:(st 0).M.hide=h0
namespace sU
theorem hide(R:sU P GL callF ops before h0 S st ld N):∀j,j<=N->(st j).M.hide=h0
 |0,_=>R.hide0
 |j+1,h=>(R.steps j h).hide
theorem abs(hA:bW callF)(R:sU P GL callF ops before h0 S st ld N)(j:Nat)(hj:j<N):∃L,mA (st j).M (st (j+1)).M L/\(ld j<=1->L=[])/\(ld j=0->(st (j+1)).M=(st j).M):=by
 obtain⟨hh,o,deps,ho,hb,⟨h1,h2,h3⟩|⟨h1,r,M',H,h2,h3,h4,h5,h6,h7⟩|⟨h1,t,x,a,v,H,k1,k2,k3,h2,k4,k5⟩⟩:=R.steps j hj
 ·have:=fN h2;exact⟨[],by rw[this];exact mA.refl _,fun _=>rfl,fun _=>this⟩
 ·obtain⟨q1,L,q2,q3⟩:=mC hA h2;have hM:(st (j+1)).M={M' with hide:=h0}:=fN h3;refine⟨L,by rw[hM];exact⟨(R.hide j (Nat.le_of_lt hj)).symm,q2.next,q2.log,q2.keep,q2.logb⟩,q3,fun h=>?_⟩;rw[hM,q1 h];have:=R.hide j (Nat.le_of_lt hj);cases hst:(st j).M with
  |mk a b c d=>rw[hst] at this;simp only at this;rw[this]
 ·have:=fN h2;exact⟨[],by rw[this];exact mA.refl _,fun _=>rfl,fun _=>this⟩
theorem mono(hA:bW callF)(R:sU P GL callF ops before h0 S st ld N)(i:Nat):∀j,i<=j->j<=N->(st i).M.next<=(st j).M.next:=by
 intro j;induction j with
 |zero=>intro h _;have:i=0:=by omega
        subst this;exact Nat.le_refl _
 |succ j ih=>
  intro h1 h2
  by_cases h:i=j+1
  ·subst h;exact Nat.le_refl _
  ·obtain⟨L,hL,_⟩:=R.abs hA j h2;exact Nat.le_trans (ih (by omega) (by omega)) hL.next
theorem keep(hA:bW callF)(R:sU P GL callF ops before h0 S st ld N)(i:Nat):∀j,i<=j->j<=N->(∀m,i<=m->m<j->ld m<=1)->∀id,id<(st i).M.next->(st j).M.blks.get id=(st i).M.blks.get id:=by
 intro j;induction j with
 |zero=>intro h _ _ id _;have:i=0:=by omega
        subst this;rfl
 |succ j ih=>
  intro h1 h2 h3 id hid
  by_cases h:i=j+1
  ·subst h;rfl
  ·obtain⟨L,hL,hq,_⟩:=R.abs hA j h2;have a0:=hq (h3 j (by omega) (by omega));subst a0;rw[hL.keep id (xAf hid (R.mono hA i j (by omega) (by omega))) (by simp)];exact ih (by omega) (by omega) (fun m a b=>h3 m a (by omega)) id hid
theorem pure(hA:bW callF)(R:sU P GL callF ops before h0 S st ld N)(i:Nat):∀j,i<=j->j<=N->(∀m,i<=m->m<j->ld m=0)->(st j).M=(st i).M:=by
 intro j;induction j with
 |zero=>intro h _ _;have:i=0:=by omega
        subst this;rfl
 |succ j ih=>
  intro h1 h2 h3
  by_cases h:i=j+1
  ·subst h;rfl
  ·obtain⟨L,_,_,hq⟩:=R.abs hA j h2;rw[hq (h3 j (by omega) (by omega))];exact ih (by omega) (by omega) fun m a b=>h3 m a (by omega)
theorem log(hA:bW callF)(R:sU P GL callF ops before h0 S st ld N)(i:Nat):∀j,i<=j->j<=N->∃L,(st j).M.log=L++(st i).M.log/\∀t∈L,t<(st j).M.next:=by
 intro j;induction j with
 |zero=>intro h _;have:i=0:=by omega
        subst this;exact⟨[],rfl,fun t ht=>by cases ht⟩
 |succ j ih=>
  intro h1 h2
  by_cases h:i=j+1
  ·subst h;exact⟨[],rfl,fun t ht=>by cases ht⟩
  ·obtain⟨L,hL,_⟩:=R.abs hA j h2;obtain⟨L',a0,hb⟩:=ih (by omega) (by omega);exact⟨L++L',by rw[hL.log,a0,List.append_assoc],fun t ht=>by
    rcases List.mem_append.1 ht with ht|ht
    ·exact hL.logb t ht
    ·exact xAf (hb t ht) hL.next⟩
theorem owner(R:sU P GL callF ops before h0 S st ld N){id:Nat}:∀i,i<=N->id<(st i).M.next->id<(st 0).M.next\/∃j,j<i/\(st j).M.next<=id/\id<(st (j+1)).M.next
 |0,_,h=> .inl h
 |i+1,hi,h=>by
  by_cases hlt:id<(st i).M.next
  ·rcases R.owner i (by omega) hlt with h|⟨j,h1,h2⟩
   ·exact .inl h
   ·exact .inr ⟨j,by omega,h2⟩
  ·exact .inr ⟨i,by omega,by omega,h⟩
theorem ranges(hA:bW callF)(R:sU P GL callF ops before h0 S st ld N){id i j:Nat}(hi:i<N)(hj:j<N)(h1:(st i).M.next<=id)(h2:id<(st (i+1)).M.next)(h3:(st j).M.next<=id)(h4:id<(st (j+1)).M.next):i=j:=by
 rcases Nat.lt_trichotomy i j with h|h|h
 ·have:=R.mono hA (i+1) j (by omega) (by omega);omega
 ·exact h
 ·have:=R.mono hA (j+1) i (by omega) (by omega);omega
theorem quiet(hA:bW callF)(R:sU P GL callF ops before h0 S st ld N){id j:Nat}(hj:j<N)(h1:(st j).M.next<=id)(h2:id<(st (j+1)).M.next):ld j≠0:=fun h=>by
 obtain⟨_,_,_,hq⟩:=R.abs hA j hj;rw[hq h] at h2;omega
end sU
theorem iI(A C:List (Nat×Nat))(id:Nat):bD (A++C) id=(bD A id||bD C id):=by
 induction A with
 |nil=>simp [bD]
 |cons x A ih=>obtain⟨a,b⟩:=x;simp [bD,ih,Bool.or_assoc]
theorem Db{f:Nat->Nat×Nat}{id:Nat}:∀{l:List Nat},bD (l.map f) id=true↔ ∃j∈l,(f j).1<=id/\id<(f j).2
 | []=>by simp [bD]
 |x::l=>by
  show(Nat.ble (f x).1 id&&Nat.blt id (f x).2||bD (l.map f) id)=true↔_;rw[Bool.or_eq_true,Db (l:=l),Bool.and_eq_true];simp only [Nat.blt,Nat.ble_eq];constructor
  ·rintro(h|⟨j,h1,h2⟩)
   ·exact⟨x,by simp,h.1,h.2⟩
   ·exact⟨j,by simp [h1],h2⟩
  ·rintro⟨j,h1,h2,h3⟩;rcases List.mem_cons.1 h1 with rfl|h1
   ·exact .inl ⟨h2,h3⟩
   ·exact .inr ⟨j,h1,h2,h3⟩
def HS(st:Nat->St)(ld:Nat->Nat)(m:Nat)(listed:Array Bool):List (Nat×Nat):=
 ((List.range m).filter fun j=> !(listed.getD j false)&& !(Nat.beq (ld j) 0)).map fun j=>((st j).M.next,(st (j+1)).M.next)
theorem Gc{m:Nat}{listed:Array Bool}{id:Nat}:bD (HS st ld m listed) id=true↔ ∃j,j<m/\listed.getD j false=false/\ld j≠0/\(st j).M.next<=id/\id<(st (j+1)).M.next:=by
 unfold HS;rw[Db];simp only [List.mem_filter,List.mem_range,Bool.and_eq_true,Bool.not_eq_true'];constructor
 ·rintro⟨j,⟨h1,h2,h3⟩,h4,h5⟩;exact⟨j,h1,h2,fun x=>by simp [x] at h3,h4,h5⟩
 ·rintro⟨j,h1,h2,h3,h4,h5⟩;refine⟨j,⟨h1,h2,?_⟩,h4,h5⟩;cases hb:Nat.beq (ld j) 0<;>first|rfl|exact absurd (xBa hb) h3
def VS(st:Nat->St)(ld:Nat->Nat)(h0:List (Nat×Nat))(m:Nat)(listed:Array Bool):aB:={(st m).M with hide:=HS st ld m listed++h0}
theorem fX{m:Nat}{listed:Array Bool}{id:Nat}{b:aR}:(VS st ld h0 m listed).getA id=some b↔id<(st m).M.next/\(¬ ∃j,j<m/\listed.getD j false=false/\ld j≠0/\(st j).M.next<=id/\id<(st (j+1)).M.next)/\bD h0 id=false/\(st m).M.blks.get id=some b:=by
 rw[bN];simp only [VS,iI,Bool.or_eq_false_iff];rw[<-Gc (st:=st) (ld:=ld) (m:=m) (listed:=listed)];simp only [Bool.not_eq_true];constructor
 ·rintro⟨a,⟨b,c⟩,d⟩;exact⟨a,b,c,d⟩
 ·rintro⟨a,b,c,d⟩;exact⟨a,⟨b,c⟩,d⟩
theorem hI.sub{φ:dX}{M1 M2:aB}{w:World}(h:hI P GL B φ M1 w)(hs:∀id b,M2.getA id=some b->M1.getA id=some b)(hg:∀g∈GL,g<M2.next):hI P GL B φ M2 w:=
 ⟨fun id b hb=>h.blkA id b (hs id b hb),fun a b c d e f g h1 h2=>h.sepA a b c d e f g (hs a c h1) (hs b d h2),fun g hgl=>⟨hg g hgl,(h.glob g hgl).2⟩,h.size,fun _ _ hb=>(bN.1 hb).1,h.rnd⟩
def Bu(ops:Array Oper)(ld:Nat->Nat)(j:Nat):Prop:=mI ops=true/\Dr ops Bg j=true/\ld j=1
theorem Ij{p:Oper->Bool}{j:Nat}{o:Oper}(ho:ops[j]?=some o):Dr ops p j=p o:=by simp [Dr,ho]
def Jd(P:Program)(GL:List Nat)(callF:dD)(o:Oper)(T:Tr Value)(M:aB)(k:Nat)(r:AR)(M':aB):Prop:=
 k=1/\∃b,M'=M.alloc b/\∀M2:aB,M2.next=M.next->jY P GL callF o T M2=some (1,r,M2.alloc b)
theorem tO{α:Type}{c:Bool}{x:Option α}{y:α}(h:(bif c then x else none)=some y):c=true/\x=some y:=by cases c<;>simp_all
theorem wB{α:Type}{c:Bool}{x y z:α}(h:(bif c then x else y)=z):(c=true/\x=z)\/(c=false/\y=z):=by cases c<;>simp_all
theorem aAb{o:Oper}{T:Tr Value}{M M':aB}{k:Nat}{r:AR}(hm:Bg o=true)(h:jY P GL callF o T M=some (k,r,M')):Jd P GL callF o T M k r M':=by
 obtain⟨dst,op,type,pos,after,guard⟩:=o;cases op<;>simp only [Bg,Bool.false_eq_true] at hm;case alloc elem=>
  simp only [jY,fL,fM,cQ] at h
  unfold Jd
  simp only [jY,fL,fM,cQ]
  split at h
  ·cases h
  ·split at h<;>(try cases h;done);split at h<;>(try cases h;done);rename_i i z hi hz v hv;cases hq:(flat v&&v.cells.toList.all isCell)<;>simp only [hq,cond_true,cond_false,made,nT] at h
   ·cases h
   ·simp only [Option.some.injEq,Prod.mk.injEq] at h;obtain⟨rfl,rfl,rfl⟩:=h;refine⟨rfl,_,rfl,fun M2 h2=>?_⟩;simp only [hv,hq,cond_true,made,nT,h2]
 case box elem x=>
  simp only [jY,fL,fM,fE] at h
  unfold Jd
  simp only [jY,fL,fM,fE]
  split at h
  ·cases h
  ·split at h<;>(try cases h;done);rename_i v hv;split at h<;>(try cases h;done);rename_i z hz;cases hq:(v.cells.toList.all isCell)<;>simp only [hq,cond_true,cond_false,made,nT] at h
   ·cases h
   ·simp only [Option.some.injEq,Prod.mk.injEq] at h;obtain⟨rfl,rfl,rfl⟩:=h;refine⟨rfl,_,rfl,fun M2 h2=>?_⟩;simp only [hq,cond_true,made,nT,h2]
 case makeSlice t l c=>
  simp only [jY,fL,fM,bR] at h
  unfold Jd
  simp only [jY,fL,fM,bR]
  split at h
  ·cases h
  ·split at h<;>(try cases h;done);rename_i lv cv hl hc;split at h<;>(try cases h;done);split at h<;>(try cases h;done);rename_i e he;split at h<;>(try cases h;done);rename_i z hz;obtain⟨hq,h⟩:=tO h;simp only [made,nT,Option.some.injEq,Prod.mk.injEq] at h;obtain⟨rfl,rfl,rfl⟩:=h;refine⟨rfl,_,rfl,fun M2 h2=>?_⟩;simp only [hz,hq,cond_true,made,nT,h2]
 case buildSlice t len parts=>
  simp only [jY,fL,fM,bE] at h
  unfold Jd
  simp only [jY,fL,fM,bE]
  split at h
  ·cases h
  ·split at h<;>(try cases h;done);rename_i ps hps;split at h<;>(try cases h;done);rename_i el hu;split at h<;>(try cases h;done);rename_i e he;split at h<;>(try cases h;done);rename_i z hz;cases hq:(flat z&&z.cells.toList.all isCell&&Nat.beq z.cells.toList.length e.size&& !Nat.beq e.size 0&&Nat.ble (len*e.size) (2^24))<;>simp only [hq,cond_true,cond_false] at h
   ·cases h
   ·split at h<;>(try cases h;done);rename_i cs hcs;cases a0:(cs.all isCell)<;>simp only [a0,cond_true,cond_false,made,nT] at h
    ·cases h
    ·simp only [Option.some.injEq,Prod.mk.injEq] at h;obtain⟨rfl,rfl,rfl⟩:=h;refine⟨rfl,_,rfl,fun M2 h2=>?_⟩;simp only [hz,hq,cond_true,hcs,a0,made,nT,h2]
theorem zP{o:Oper}{T:Tr Value}{M M':aB}{t:TypeId}{x y:Operand}{a:Addr}{v:Value}(h1:o.op= .store t x y)(h2:ev GL T x=some (.pointer (some a)))(h3:ev GL T y=some v)(h:eB P t a v M=some M'):
  jY P GL callF o T M=some (2,.skip,M'):=by
 obtain⟨dst,op,type,pos,after,guard⟩:=o
 simp only at h1
 subst h1
 simp only [jY,fL,fM,h2,h3,h]
theorem kF{t:TypeId}{a:Addr}{v:Value}{M M':aB}(hs:eB P t a v M=some M'):
  ∃b b',M.get a.block=some b/\M'=M.put a.block (some b')/\∀M2:aB,M2.get a.block=some b->eB P t a v M2=some (M2.put a.block (some b')):=by
 unfold eB at hs
 split at hs<;>try (simp at hs;done)
 rename_i b i hgb hi
 cases hq:(Nat.beq v.cells.toList.length i.size&&v.cells.toList.all isCell&&Nat.ble b.wf a.off&&Nat.ble (a.off+v.cells.toList.length) b.cs.length)<;>simp only [hq,cond_true,cond_false] at hs
 ·simp at hs
 ·simp at hs;subst hs;exact⟨b,_,hgb,rfl,fun M2 h2=>by
   unfold eB;simp only [h2,hi,hq,cond_true]⟩
theorem vis_of{M:aB}{b:Nat}(h1:b<M.next)(h2:bD M.hide b=false):vis M b=true:=by have:Nat.blt b M.next=true:=Nat.ble_eq_true_of_le h1;unfold vis;rw[this,h2];rfl
theorem lM{M:aB}{b:Nat}{c:aR}(h1:b<M.next)(h2:bD M.hide b=false)(id:Nat):(M.put b (some c)).getA id=if id=b then some c else M.getA id:=by rw[jD,vis_of h1 h2];simp
theorem Iy{o:Oper}{T:Tr Value}{M M':aB}{k:Nat}{r:AR}(hc:fZ o=true)(h:jY P GL callF o T M=some (k,r,M')):
  ∃t x y a v,o.op= .store t x y/\ev GL T x=some (.pointer (some a))/\ev GL T y=some v/\eB P t a v M=some M'/\k=2/\r= .skip:=by
 obtain⟨dst,op,type,pos,after,guard⟩:=o
 cases op<;>simp only [fZ,Bool.false_eq_true] at hc
 simp only [jY,fL,fM] at h
 split at h
 ·cases h
 ·split at h<;>(try cases h;done);rename_i a v hx hy;split at h<;>(try cases h;done);rename_i M1 hs;simp only [Option.some.injEq,Prod.mk.injEq] at h;obtain⟨rfl,rfl,rfl⟩:=h;exact⟨_,_,_,a,v,rfl,hx,hy,hs,rfl,rfl⟩
def Rk(M M':aB):Prop:=M'=M\/(∃b,M'=M.alloc b)\/(∃id b c,M.getA id=some b/\M'=M.put id c)\/(∃id b c d,M.getA id=some b/\M'=(M.put id c).alloc d)
theorem Rk.sees{M M':aB}(h:Rk M M'):(∀L,M'.log=L++M.log->∀t∈L,∃b,M.getA t=some b)/\(∀id b,id<M.next->M'.getA id=some b->∃b0,M.getA id=some b0):=by
 have a0:∀id (b:aR) (c:Option aR),M.getA id=some b->∀j b2,(M.put id c).getA j=some b2->∃b0,M.getA j=some b0:=fun id b c hb j b2 hj=>by
  rw[jD] at hj;by_cases h:j=id
  ·subst h;exact⟨b,hb⟩
  ·rw[if_neg h] at hj;exact⟨b2,hj⟩
 rcases h with rfl|⟨b,rfl⟩|⟨id,b,c,hb,rfl⟩|⟨id,b,c,d,hb,rfl⟩
 ·refine⟨fun L hL t ht=>?_,fun id b _ hb=>⟨b,hb⟩⟩;have:L=[]:=List.append_cancel_right (bs:=M'.log) (by rw[<-hL];rfl);rw[this] at ht;cases ht
 ·refine⟨fun L hL t ht=>?_,fun id b0 hid hb=>?_⟩
  ·have:L=[]:=List.append_cancel_right (bs:=M.log) (by rw[<-hL];rfl);rw[this] at ht;cases ht
  ·rw[jM,if_neg (by omega)] at hb;exact⟨b0,hb⟩
 ·refine⟨fun L hL t ht=>?_,fun j b0 _ hj=>a0 id b c hb j b0 hj⟩;have:L=[id]:=List.append_cancel_right (bs:=M.log) (by rw[<-hL];rfl);rw[this] at ht;simp at ht;subst ht;exact⟨b,hb⟩
 ·refine⟨fun L hL t ht=>?_,fun j b0 a1 hj=>?_⟩
  ·have:L=[id]:=List.append_cancel_right (bs:=M.log) (by rw[<-hL];rfl);rw[this] at ht;simp at ht;subst ht;exact⟨b,hb⟩
  ·rw[jM,if_neg (by show¬j=M.next;omega)] at hj;exact a0 id b c hb j b0 hj
theorem Hf{ts:List TypeId}{s x:Value}{M M':aB}{k:Nat}{r:AR}(h:dM P ts s x M=some (k,r,M')):Rk M M':=by
 unfold dM at h;split at h<;>(try cases h;done);split at h<;>(try cases h;done);split at h<;>(try cases h;done);split at h<;>(try cases h;done)
 ·rcases wB h with⟨_,h⟩|⟨_,h⟩
  ·cases h
  ·rcases wB h with⟨_,h⟩|⟨_,h⟩
   ·cases h;exact .inl rfl
   ·cases h;exact .inr (.inl ⟨_,rfl⟩)
 ·split at h<;>(try cases h;done);rename_i hg;split at h<;>(try cases h;done);rcases wB h with⟨_,h⟩|⟨_,h⟩
  ·cases h
  rcases wB h with⟨_,h⟩|⟨_,h⟩
  ·cases h;exact .inl rfl
  rcases wB h with⟨_,h⟩|⟨_,h⟩
  ·rcases wB h with⟨_,h⟩|⟨_,h⟩
   ·cases h;exact .inr (.inl ⟨_,rfl⟩)
   ·obtain⟨_,h⟩:=tO h;cases h;exact .inr (.inr (.inl ⟨_,_,_,gP hg,rfl⟩))
  ·obtain⟨_,h⟩:=tO h;rcases wB h with⟨_,h⟩|⟨_,h⟩
   ·cases h;exact .inr (.inr (.inr ⟨_,_,_,_,gP hg,rfl⟩))
   ·obtain⟨_,h⟩:=tO h;cases h;exact .inr (.inr (.inr ⟨_,_,_,_,gP hg,rfl⟩))
theorem Ks{o:Oper}{T:Tr Value}{M M':aB}{k:Nat}{r:AR}(hm:tX o=true)(h:jY P GL callF o T M=some (k,r,M')):Rk M M':=by
 obtain⟨dst,op,type,pos,after,guard⟩:=o;cases op<;>simp only [tX,Bool.false_eq_true] at hm;case store t x y=>
  obtain⟨t,x,y,a,v,_,_,_,hs,_,_⟩:=Iy (o:={dst:=dst,op:= .store t x y,type:=type,pos:=pos,after:=after,guard:=guard}) rfl h
  obtain⟨b,b',h1,h2,_⟩:=kF hs
  exact .inr (.inr (.inl ⟨_,b,_,gP h1,h2⟩))
 case call c=>
  obtain⟨callee,args,tys⟩:=c
  simp only at hm
  split at hm<;>(try cases hm;done)
  simp only [jY,fL,fM] at h
  split at h
  ·cases h
  ·split at h<;>(try cases h;done);exact Hf h
def XV(st:Nat->St)(ld:Nat->Nat)(h0:List (Nat×Nat))(N m:Nat)(listed:Array Bool)(id:Nat)(b:aR):Prop:=
 ∃j,m<=j/\j<N/\listed.getD j false=true/\ld j≠0/\(st j).M.next<=id/\id<(st (j+1)).M.next/\bD h0 id=false/\(st (j+1)).M.blks.get id=some b
def VV(st:Nat->St)(ld:Nat->Nat)(h0:List (Nat×Nat))(N m:Nat)(listed:Array Bool)(id:Nat)(b:aR):Prop:=(VS st ld h0 m listed).getA id=some b\/XV st ld h0 N m listed id b
def In(st:Nat->St)(i id:Nat):Prop:=(st i).M.next<=id/\id<(st (i+1)).M.next
structure gQ(P:Program)(GL:List Nat)(B:Bd)(ops:Array Oper)(h0:List (Nat×Nat))(st:Nat->St)(ld:Nat->Nat)(N:Nat)(listed:Array Bool)(φ:dX)(w:World)(m:Nat):Prop where
 le:m<=N
 all:∀j,j<N->listed.getD j false=true->ld j≠0->j<m\/Bu ops ld j
 loud:∀j,j<m->listed.getD j false=false->ld j<=1
 blk:∀id b,VV st ld h0 N m listed id b->∃e,φ id=some e/\pX P B φ w e b
 sep:∀id1 id2 b1 b2 e1 e2,id1≠id2->VV st ld h0 N m listed id1 b1->VV st ld h0 N m listed id2 b2->(b1.app=true\/b1.wf<b1.cs.length)->φ id1=some e1->φ id2=some e2->oO e1 b1 e2 b2
 xsep:∀id1 id2 b1 b2 e1 e2,id1≠id2->XV st ld h0 N m listed id1 b1->VV st ld h0 N m listed id2 b2->φ id1=some e1->φ id2=some e2->e1.block≠e2.block
 glob:∀g∈GL,∃e,φ g=some e/\e.block=g/\e.base=0
 size:∀k,w.heap.size<=k->B.ok k
 rnd:∀x∈B.rs,sZ φ w x
theorem gQ.sub{listed:Array Bool}{φ:dX}{w:World}{m:Nat}(V:gQ P GL B ops h0 st ld N listed φ w m){M2:aB}(hs:∀id b,M2.getA id=some b->VV st ld h0 N m listed id b)(hg:∀g∈GL,g<M2.next):hI P GL B φ M2 w:=
 ⟨fun id b hb=>V.blk id b (hs id b hb),fun a b c d e f g h1 h2=>V.sep a b c d e f g (hs a c h1) (hs b d h2),fun g hgl=>⟨hg g hgl,V.glob g hgl⟩,V.size,fun _ _ hb=>(bN.1 hb).1,V.rnd⟩
section mem
variable{listed:Array Bool}{φ φ':dX}{w w':World}{m i:Nat}
theorem iT{listed:Array Bool}{i j:Nat}(hi:i<listed.size):(listed.setIfInBounds i true).getD j false=(decide (j=i)||listed.getD j false):=by
 by_cases h:i=j
 ·subst h;simp [hi]
 ·rw[getD_set_ne false h];have:¬j=i:=fun x=>h x.symm
  simp [this]
theorem Zz(V:gQ P GL B ops h0 st ld N listed φ w m)(hi:i<N){o:Oper}(ho:ops[i]?=some o)(a2:¬Bu ops ld i){deps:Nat}(a0:∀j,deps.testBit j=true->listed.getD j false=true)
  (h4:∀k,k<i->ld k≠0->ld i≠0->deps.testBit k=true\/(ld k=1/\ld i=1)\/wX ops o ld k i) (a1:ld i≠0):∀k,m<=k->k<i->ld k<=1:=fun k a b=>by
 rcases Nat.lt_or_ge 1 (ld k) with h|h
 ·rcases h4 k b (by omega) a1 with h5|h5|⟨h5,h6|h6⟩
  ·rcases V.all k (by omega) (a0 k h5) (by omega) with h7|h7
   ·omega
   ·have:=h7.2.2;omega
  ·omega
  ·exact absurd ⟨h5,by rw[Ij ho];exact h6.1,h6.2.1⟩ a2
  ·have:=h6.2.1;omega
 ·exact h
theorem aAa(R:sU P GL callF ops before h0 S st ld N)(V:gQ P GL B ops h0 st ld N listed φ w m)(a4:¬Bu ops ld i)(a5:listed.getD i false=false)
  (a1:∀j,j<N->listed.getD j false=true->∀d,before[j]?=some d->∀k,d.testBit k=true->listed.getD k false=true) (a3:ld i≠0):∀k,i<k->k<m->ld k<=1:=fun k a b=>by
 rcases Nat.lt_or_ge 1 (ld k) with h|h
 ·have a2:k<N:=xAf b V.le;cases hk:listed.getD k false
  ·have:=V.loud k b hk;omega
  ·obtain⟨_,o,d,_,hb,a0⟩:=R.steps k a2;rcases a0 with⟨_,_,hz⟩|⟨_,r,M',H',_,_,_,_,_,h7⟩|⟨_,_,_,_,_,_,_,_,_,_,hz,_⟩
   ·omega
   ·rcases h7 i a a3 (by omega) with h8|h8|⟨h8,h9|h9⟩
    ·have:=a1 k a2 hk d hb i h8;rw[a5] at this;cases this
    ·omega
    ·have:=h9.2.1;omega
    ·exact absurd ⟨h8,h9.2.2,h9.2.1⟩ a4
   ·omega
 ·exact h
theorem Re{deps:Nat}(a0:∀j,deps.testBit j=true->listed.getD j false=true)
  {H:List (Nat×Nat)} (h1:∀k,k<i->ld k≠0->deps.testBit k=false->∀id,(st k).M.next<=id->id<(st (k+1)).M.next->bD H id=true):
  ∀id b,({(st i).M with hide:=H++h0}:aB).getA id=some b->(VS st ld h0 i listed).getA id=some b:=fun id b hb=>by
 obtain⟨a1,a2,a3⟩:=bN.1 hb
 simp only [iI,Bool.or_eq_false_iff] at a1 a2 a3
 refine fX.2 ⟨a1,?_,a2.2,a3⟩
 rintro⟨j,c1,c2,c3,c4,c5⟩
 cases hb:deps.testBit j
 ·have:=h1 j c1 c3 hb id c4 c5;rw[a2.1] at this;cases this
 ·rw[a0 j hb] at c2;cases c2
theorem Rl(hA:bW callF)(R:sU P GL callF ops before h0 S st ld N)(V:gQ P GL B ops h0 st ld N listed φ w m)(hi:i<=N)
  (q1:∀k,m<=k->k<i->ld k<=1) (q2:∀k,i<=k->k<m->ld k<=1):
  ∀id b,(VS st ld h0 i listed).getA id=some b->VV st ld h0 N m listed id b:=fun id b hb=>by
 obtain⟨hid,a2,a3,a1⟩:=fX.1 hb
 have a4:=V.le
 have a0:id<(st m).M.next->(st m).M.blks.get id=some b:=fun hm=>by
  rcases Nat.lt_or_ge i m with h|h
  ·rw[R.keep hA i m (by omega) a4 (fun k e1 e2=>q2 k e1 e2) id hid];exact a1
  ·rw[<-R.keep hA m i h hi q1 id hm];exact a1
 have old:id<(st m).M.next->(id<(st 0).M.next\/∃j,j<m/\listed.getD j false=true/\(st j).M.next<=id/\id<(st (j+1)).M.next)->VV st ld h0 N m listed id b:=fun hm hD=>by
  refine .inl (fX.2 ⟨hm,?_,a3,a0 hm⟩);rintro⟨j',c1,c2,c3,c4,c5⟩;rcases hD with h|⟨j,b1,b2,b3,b4⟩
  ·have:=R.mono hA 0 j' (by omega) (by omega);omega
  ·have:=R.ranges hA (by omega) (by omega) c4 c5 b3 b4;subst this;rw[c2] at b2;cases b2
 rcases R.owner i hi hid with h|⟨j,b1,b2,b3⟩
 ·exact old (xAf h (R.mono hA 0 m (by omega) a4)) (.inl h)
 ·have a5:=R.quiet hA (by omega) b2 b3;have hD:listed.getD j false=true:=by
   cases hd:listed.getD j false
   ·exact absurd ⟨j,b1,hd,a5,b2,b3⟩ a2
   ·rfl
  rcases Nat.lt_or_ge j m with hjm|hjm
  ·exact old (xAf b3 (R.mono hA (j+1) m (by omega) a4)) (.inr ⟨j,hjm,hD,b2,b3⟩)
  ·refine .inr ⟨j,hjm,by omega,hD,a5,b2,b3,a3,?_⟩;rw[<-R.keep hA (j+1) i (by omega) hi (fun k e1 e2=>q1 k (by omega) e2) id b3];exact a1
theorem Gi(a0:∀j,listed.getD j false=false)(hR:hI P GL B φ (VS st ld h0 0 listed) w):gQ P GL B ops h0 st ld N listed φ w 0:=by
 have hv:∀id b,VV st ld h0 N 0 listed id b->(VS st ld h0 0 listed).getA id=some b:=fun id b h=>by
  rcases h with h|⟨j,_,_,h,_⟩
  ·exact h
  ·rw[a0] at h;cases h
 exact⟨Nat.zero_le _,fun j _ hD=>(by rw[a0] at hD;cases hD),fun j hj=>absurd hj (Nat.not_lt_zero _),fun id b hb=>hR.blkA id b (hv id b hb),fun a b c d e f g h1 h2=>hR.sepA a b c d e f g (hv _ _ h1) (hv _ _ h2),
  fun a b c d e f g h1 h2=>(by obtain⟨j,_,_,h,_⟩:=h1;rw[a0] at h;cases h),fun g hg=>(hR.glob g hg).2,hR.size,hR.rnd⟩
theorem Nk(V:gQ P GL B ops h0 st ld N listed φ w m){a1:Array Bool}{m':Nat}(b5:φ.le φ'){Mx:aB}(a4:hI P GL B φ' Mx w')
  (a8:∀id,¬In st i id->φ' id=φ id) (a5:∀id e,In st i id->φ' id=some e->w.heap.size<=e.block) (a9:∀k,k<w.heap.size->w'.heap[k]?=w.heap[k]?)
  (le:m'<=N) (all:∀j,j<N->a1.getD j false=true->ld j≠0->j<m'\/Bu ops ld j) (loud:∀j,j<m'->a1.getD j false=false->ld j<=1)
  (b0:∀id b,VV st ld h0 N m' a1 id b->(Mx.getA id=some b/\In st i id)\/(VV st ld h0 N m listed id b/\¬In st i id))
  (b6:∀id b,XV st ld h0 N m' a1 id b->(In st i id/\(st (i+1)).M.next<=(st i).M.next+1)\/(XV st ld h0 N m listed id b/\¬In st i id)):
  gQ P GL B ops h0 st ld N a1 φ' w' m':=by
 have a0:∀id b,VV st ld h0 N m listed id b->¬In st i id->∀e,φ' id=some e->φ id=some e/\e.block<w.heap.size:=fun id b hb hn e he=>by
  rw[a8 id hn] at he;obtain⟨e',b7,hr⟩:=V.blk id b hb;rw[he] at b7;cases b7;exact⟨he,hr.lt⟩
 refine⟨le,all,loud,fun id b hb=>?_,fun a2 a3 b1 b2 e1 e2 hn b3 b4 ho a6 a7=>?_,fun a2 a3 b1 b2 e1 e2 hn b3 b4 a6 a7=>?_,fun g hg=>(a4.glob g hg).2,a4.size,a4.rnd⟩
 ·rcases b0 id b hb with⟨c1,c2⟩|⟨c1,c2⟩
  ·exact a4.blkA id b c1
  ·obtain⟨e,he,hr⟩:=V.blk id b c1;exact⟨e,by rw[a8 id c2];exact he,hr.keep b5 (a9 _ hr.lt)⟩
 ·rcases b0 a2 b1 b3 with⟨c1,c2⟩|⟨c1,c2⟩<;>rcases b0 a3 b2 b4 with⟨d1,d2⟩|⟨d1,d2⟩
  ·exact a4.sepA a2 a3 b1 b2 e1 e2 hn c1 d1 ho a6 a7
  ·have:=a5 a2 e1 c2 a6;have:=(a0 a3 b2 d1 d2 e2 a7).2;exact .inl (by omega)
  ·have:=a5 a3 e2 d2 a7;have:=(a0 a2 b1 c1 c2 e1 a6).2;exact .inl (by omega)
  ·exact V.sep a2 a3 b1 b2 e1 e2 hn c1 d1 ho (a0 a2 b1 c1 c2 e1 a6).1 (a0 a3 b2 d1 d2 e2 a7).1
 ·rcases b6 a2 b1 b3 with⟨c1,c2⟩|⟨c1,c2⟩<;>rcases b0 a3 b2 b4 with⟨d1,d2⟩|⟨d1,d2⟩
  ·obtain⟨x1,x2⟩:=c1;obtain⟨y1,y2⟩:=d2;exact absurd (show a2=a3 by omega) hn
  ·have:=a5 a2 e1 c1 a6;have:=(a0 a3 b2 d1 d2 e2 a7).2;omega
  ·have:=a5 a3 e2 d2 a7;have:=(a0 a2 b1 (.inr c1) c2 e1 a6).2;omega
  ·exact V.xsep a2 a3 b1 b2 e1 e2 hn c1 d1 (a0 a2 b1 (.inr c1) c2 e1 a6).1 (a0 a3 b2 d1 d2 e2 a7).1
theorem Yr(V:gQ P GL B ops h0 st ld N listed φ w m){a0:Array Bool}{m' n1:Nat}(b7:φ.le φ'){Mx a6:aB}{L:List Nat}(hp:Post P GL B φ φ' Mx a6 L w w')(a9:∀id b,Mx.getA id=some b->VV st ld h0 N m listed id b)(hn1:a6.next=n1)
  (a5:(∃id b,XV st ld h0 N m listed id b/\n1<=id)->(∀t∈L,∃b,Mx.getA t=some b)/\(∀id b,id<Mx.next->a6.getA id=some b->∃b0,Mx.getA id=some b0))
  (le:m'<=N) (all:∀j,j<N->a0.getD j false=true->ld j≠0->j<m'\/Bu ops ld j) (loud:∀j,j<m'->a0.getD j false=false->ld j<=1)
  (b4:∀id b,VV st ld h0 N m' a0 id b->(a6.getA id=some b/\id<n1)\/(XV st ld h0 N m listed id b/\n1<=id))
  (b8:∀id b,XV st ld h0 N m' a0 id b->XV st ld h0 N m listed id b/\n1<=id):
  gQ P GL B ops h0 st ld N a0 φ' w' m':=by
 have hnx:=hp.next
 have hX:∀id,n1<=id->φ' id=φ id:=fun id h=>hp.ext id (.inr (by omega))
 have c3:∀id b e,XV st ld h0 N m listed id b->n1<=id->φ id=some e->∀t∈L,∀e0,φ t=some e0->e0.block≠e.block:=fun id b e hx hid he t ht e0 a8=>by
  obtain⟨bt,b9⟩:=(a5 ⟨id,b,hx,hid⟩).1 t ht;have:=(bN.1 b9).1;exact fun h=>V.xsep id t b bt e e0 (by omega) hx (a9 t bt b9) he a8 h.symm
 have b3:∀id b e,XV st ld h0 N m listed id b->n1<=id->φ id=some e->e.block<w.heap.size->w'.heap[e.block]?=w.heap[e.block]?:=fun id b e hx hid he hlt=>by
  rcases hp.fr.block e.block hlt with h|⟨_,t,ht,e0,a8,a7⟩
  ·exact h
  ·exact absurd a7 (c3 id b e hx hid he t ht e0 a8)
 have ne:∀a1 a2 b1 b2 e1 e2,a6.getA a1=some b1->a1<n1->XV st ld h0 N m listed a2 b2->n1<=a2->φ' a1=some e1->φ' a2=some e2->e1.block≠e2.block:=fun a1 a2 b1 b2 e1 e2 c1 c2 d1 d2 a4 a3=>by
  rw[hX a2 d2] at a3;by_cases h:a1<Mx.next
  ·rw[hp.ext a1 (.inl h)] at a4;obtain⟨b0,a7⟩:=(a5 ⟨a2,b2,d1,d2⟩).2 a1 b1 h c1;exact fun hh=>V.xsep a2 a1 b2 b0 e2 e1 (by omega) d1 (a9 a1 b0 a7) a3 a4 hh.symm
  ·rcases hp.newb a1 e1 (by omega) (by omega) a4 with h3|⟨t,ht,e0,a8,a7⟩
   ·obtain⟨e',c0,hr⟩:=V.blk a2 b2 (.inr d1);rw[a3] at c0;cases c0;have:=hr.lt;omega
   ·rw[<-a7];exact c3 a2 b2 e2 d1 d2 a3 t ht e0 a8
 refine⟨le,all,loud,fun id b hb=>?_,fun a1 a2 b1 b2 e1 e2 hn b5 b6 ho a4 a3=>?_,fun a1 a2 b1 b2 e1 e2 hn b5 b6 a4 a3=>?_,fun g hg=>(hp.rel.glob g hg).2,hp.rel.size,hp.rel.rnd⟩
 ·rcases b4 id b hb with⟨c1,c2⟩|⟨c1,c2⟩
  ·exact hp.rel.blkA id b c1
  ·obtain⟨e,he,hr⟩:=V.blk id b (.inr c1);exact⟨e,by rw[hX id c2];exact he,hr.keep b7 (b3 id b e c1 c2 he hr.lt)⟩
 ·rcases b4 a1 b1 b5 with⟨c1,c2⟩|⟨c1,c2⟩<;>rcases b4 a2 b2 b6 with⟨d1,d2⟩|⟨d1,d2⟩
  ·exact hp.rel.sepA a1 a2 b1 b2 e1 e2 hn c1 d1 ho a4 a3
  ·exact .inl (ne a1 a2 b1 b2 e1 e2 c1 c2 d1 d2 a4 a3)
  ·exact .inl fun h=>ne a2 a1 b2 b1 e2 e1 d1 d2 c1 c2 a3 a4 h.symm
  ·rw[hX a1 c2] at a4;rw[hX a2 d2] at a3;exact V.sep a1 a2 b1 b2 e1 e2 hn (.inr c1) (.inr d1) ho a4 a3
 ·obtain⟨c1,c2⟩:=b8 a1 b1 b5;rcases b4 a2 b2 b6 with⟨d1,d2⟩|⟨d1,d2⟩
  ·exact fun h=>ne a2 a1 b2 b1 e2 e1 d1 d2 c1 c2 a3 a4 h.symm
  ·rw[hX a1 c2] at a4;rw[hX a2 d2] at a3;exact V.xsep a1 a2 b1 b2 e1 e2 hn c1 (.inr d1) a4 a3
theorem rT(a7:i<listed.size)(a5:ld i=0)(id:Nat)(b:aR):(VV st ld h0 N m (listed.setIfInBounds i true) id b->VV st ld h0 N m listed id b)/\(XV st ld h0 N m (listed.setIfInBounds i true) id b->XV st ld h0 N m listed id b):=by
 have a0:∀j,(listed.setIfInBounds i true).getD j false=(decide (j=i)||listed.getD j false):=fun j=>iT a7
 have hx:XV st ld h0 N m (listed.setIfInBounds i true) id b->XV st ld h0 N m listed id b:=by
  rintro⟨j,c1,c2,c3,c4,c5⟩;refine⟨j,c1,c2,?_,c4,c5⟩;rw[a0] at c3;rcases Bool.or_eq_true _ _▸c3 with h|h
  ·have:j=i:=by simpa using h
   subst this;exact absurd a5 c4
  ·exact h
 refine⟨fun h=>?_,hx⟩;rcases h with h|h
 ·left;obtain⟨a1,a2,a3,a4⟩:=fX.1 h;refine fX.2 ⟨a1,?_,a3,a4⟩;rintro⟨j,c1,c2,c3,c4⟩;have a6:j≠i:=fun x=>c3 (by rw[x];exact a5)
  exact a2 ⟨j,c1,by rw[a0,c2];simp [a6],c3,c4⟩
 ·exact .inr (hx h)
theorem Jk(a0:i<listed.size)(hld:ld i=0){q:Nat->Prop}(h:∀j,j<N->listed.getD j false=true->ld j≠0->q j):∀j,j<N->(listed.setIfInBounds i true).getD j false=true->ld j≠0->q j:=fun j hj hD hne=>by
 rw[iT a0] at hD;rcases Bool.or_eq_true _ _▸hD with h'|h'
 ·have:j=i:=by simpa using h'
  subst this;omega
 ·exact h j hj h' hne
theorem Dj(hsz:i<listed.size)(h:∀j,j<m->listed.getD j false=false->ld j<=1):∀j,j<m->(listed.setIfInBounds i true).getD j false=false->ld j<=1:=fun j hj hD=>by
 rw[iT hsz] at hD;simp only [Bool.or_eq_false_iff,decide_eq_false_iff_not] at hD;exact h j hj hD.2
theorem Kv(V:gQ P GL B ops h0 st ld N listed φ w m)(a0:i<listed.size)(a1:ld i=0):gQ P GL B ops h0 st ld N (listed.setIfInBounds i true) φ w m:=
 ⟨V.le,Jk a0 a1 V.all,Dj a0 V.loud,fun id b hb=>V.blk id b ((rT a0 a1 id b).1 hb),
  fun a b c d e f g h1 h2=>V.sep a b c d e f g ((rT a0 a1 a c).1 h1) ((rT a0 a1 b d).1 h2),
  fun a b c d e f g h1 h2=>V.xsep a b c d e f g ((rT a0 a1 a c).2 h1) ((rT a0 a1 b d).1 h2),V.glob,V.size,V.rnd⟩
theorem Qo(hA:bW callF)(R:sU P GL callF ops before h0 S st ld N)(V:gQ P GL B ops h0 st ld N listed φ w m)(hi:i<N)(hsz:i<listed.size)(hun:listed.getD i false=false)
  {H:List (Nat×Nat)} (h3:∀id,bD H id=true->id<(st i).M.next) (a9:ld i<=1)
  (q1:∀k,m<=k->k<i->ld k<=1) (q2:∀k,i<k->k<m->ld k<=1)
  (c8:φ.le φ') {M':aB} (hM:(st (i+1)).M={M' with hide:=h0}) (d2:M'.hide=H++h0) (hp:Post P GL B φ φ' {(st i).M with hide:=H++h0} M' [] w w'):
  ∃m',gQ P GL B ops h0 st ld N (listed.setIfInBounds i true) φ' w' m':=by
 have a6:∀j,(listed.setIfInBounds i true).getD j false=(decide (j=i)||listed.getD j false):=fun j=>iT (by omega)
 have b9:(st (i+1)).M.next=M'.next:=by rw[hM]
 have d1:(st (i+1)).M.blks=M'.blks:=by rw[hM]
 have d0:=V.le
 let m':=max m (i+1)
 have a5:m'<=N:=by show max m (i+1)<=N;omega
 have c9:m<=m':=Nat.le_max_left _ _
 have c0:i+1<=m':=Nat.le_max_right _ _
 have hcs:m'=m\/m'=i+1:=by show max m (i+1)=m\/max m (i+1)=i+1;omega
 have a0:∀k,i+1<=k->k<m'->ld k<=1:=fun k a b=>q2 k (by omega) (by omega)
 have b0:∀k,m<=k->k<m'->ld k<=1:=fun k a b=>by
  by_cases hki:k=i
  ·subst hki;exact a9
  ·exact q1 k a (by omega)
 have a8:∀id,id<(st m).M.next->(st m').M.blks.get id=(st m).M.blks.get id:=fun id hid=>R.keep hA m m' c9 a5 b0 id hid
 have a7:∀id,id<(st (i+1)).M.next->(st m').M.blks.get id=(st (i+1)).M.blks.get id:=fun id hid=>R.keep hA (i+1) m' c0 a5 a0 id hid
 have b5:∀k,k<w.heap.size->w'.heap[k]?=w.heap[k]?:=fun k hk=>by
  rcases hp.fr.block k hk with h|⟨_,t,ht,_⟩
  ·exact h
  ·cases ht
 have xc:∀id b,XV st ld h0 N m' (listed.setIfInBounds i true) id b->XV st ld h0 N m listed id b/\¬In st i id:=fun id b=>by
  rintro⟨j,c1,c2,c3,c4,c5,c6,c7⟩;have b7:j≠i:=by omega
  rw[a6] at c3;have hd:listed.getD j false=true:=by simpa [b7] using c3
  exact⟨⟨j,by omega,c2,hd,c4,c5,c6,c7⟩,fun h=>b7 (R.ranges hA c2 hi c5 c6 h.1 h.2)⟩
 refine⟨m',Nk (i:=i) V c8 hp.rel (fun id hn=>hp.ext id (by
   rw[<-b9];show id<(st i).M.next\/_;unfold In at hn;omega)) (fun id e hin he=>?_) b5 a5 (fun j hj hD b8=>?_) (fun j hj hD=>?_) (fun id b hb=>?_) fun id b hb=> .inr (xc id b hb)⟩
 ·rcases hp.newb id e hin.1 (by rw[<-b9];exact hin.2) he with h|⟨t,ht,_⟩
  ·exact h
  ·cases ht
 ·rw[a6] at hD;rcases Bool.or_eq_true _ _▸hD with h|h
  ·have:j=i:=by simpa using h
   left;omega
  ·rcases V.all j hj h b8 with h|h
   ·left;omega
   ·exact .inr h
 ·rw[a6] at hD;simp only [Bool.or_eq_false_iff,decide_eq_false_iff_not] at hD;rcases Nat.lt_or_ge j m with h|h
  ·exact V.loud j h hD.2
  ·exact b0 j h hj
 ·rcases hb with hb|hb
  ·obtain⟨a1,a2,a3,a4⟩:=fX.1 hb;by_cases hr:In st i id
   ·left;refine⟨?_,hr⟩;obtain⟨r1,r2⟩:=hr;rw[bN,d2,iI,<-b9,<-d1];refine⟨r2,?_,by rw[<-a7 id r2];exact a4⟩;rw[a3,Bool.or_false];cases hh:bD H id
    ·rfl
    ·have:=h3 id hh;omega
   ·right;refine⟨?_,hr⟩;have old:(id<(st 0).M.next\/∃j,j<m/\listed.getD j false=true/\(st j).M.next<=id/\id<(st (j+1)).M.next)->VV st ld h0 N m listed id b:=fun hD=>by
     have b6:id<(st m).M.next:=by
      rcases hD with h|⟨j,b1,_,_,b3⟩
      ·exact xAf h (R.mono hA 0 m (by omega) d0)
      ·exact xAf b3 (R.mono hA (j+1) m (by omega) d0)
     refine .inl (fX.2 ⟨b6,?_,a3,by rw[<-a8 id b6];exact a4⟩);rintro⟨j',c1,c2,c3,c4,c5⟩;rcases hD with h|⟨j,b1,b2,b3,b4⟩
     ·have:=R.mono hA 0 j' (by omega) (by omega);omega
     ·have:=R.ranges hA (by omega) (by omega) c4 c5 b3 b4;subst this;rw[c2] at b2;cases b2
    rcases R.owner m' a5 a1 with h|⟨j,b1,b2,b3⟩
    ·exact old (.inl h)
    ·have b8:=R.quiet hA (by omega) b2 b3;have b7:j≠i:=fun x=>by subst x;exact hr ⟨b2,b3⟩
     have hd:listed.getD j false=true:=by
      cases hd:listed.getD j false
      ·exact absurd ⟨j,b1,by rw[a6,hd];simp [b7],b8,b2,b3⟩ a2
      ·rfl
     rcases Nat.lt_or_ge j m with hjm|hjm
     ·exact old (.inr ⟨j,hjm,hd,b2,b3⟩)
     ·refine .inr ⟨j,hjm,by omega,hd,b8,b2,b3,a3,?_⟩;rw[<-R.keep hA (j+1) m' (by omega) a5 (fun k e1 e2=>b0 k (by omega) e2) id b3];exact a4
  ·obtain⟨x1,x2⟩:=xc id b hb;exact .inr ⟨.inr x1,x2⟩
def qZ(M:aB)(h0:List (Nat×Nat)):aB:={M with hide:=(0,M.next)::h0}
theorem Mz{M:aB}{id:Nat}{b:aR}:¬(qZ M h0).getA id=some b:=fun h=>by
 obtain⟨h1,h2,_⟩:=bN.1 h;have h3:Nat.ble 0 id=true:=Nat.ble_eq_true_of_le (Nat.zero_le _);have h4:Nat.blt id M.next=true:=Nat.ble_eq_true_of_le h1;simp [qZ,bD,h3,h4] at h2
theorem Fx{M:aB}{b:aR}{id:Nat}{c:aR}(hid:id=M.next)(hh:bD h0 id=false)(hc:c=b):((qZ M h0).alloc b).getA id=some c:=by
 subst hid hc;rw[jM,if_pos (show M.next=(qZ M h0).next from rfl)];have:bD (qZ M h0).hide (qZ M h0).next=false:=by
  show bD ((0,M.next)::h0) M.next=false;have h4:Nat.blt M.next M.next=false:=by
   cases hb:Nat.blt M.next M.next
   ·rfl
   ·have:M.next<M.next:=xAd hb;omega
  simp only [bD,h4,Bool.and_false,Bool.false_or];exact hh
 show(bif bD (qZ M h0).hide (qZ M h0).next then none else some c)=some c;rw[this];rfl
theorem Qn(V:gQ P GL B ops h0 st ld N listed φ w m)(hg:∀g∈GL,g<(st i).M.next):hI P GL B φ (qZ (st i).M h0) w:=
 V.sub (fun _ _ h=>absurd h Mz) hg
theorem Tp(hA:bW callF)(R:sU P GL callF ops before h0 S st ld N)(V:gQ P GL B ops h0 st ld N listed φ w m)(hi:i<N)(d3:i<listed.size)(d4:listed.getD i false=false)(b9:Bu ops ld i)
  (a8:∀j,j<N->listed.getD j false=true->∀d,before[j]?=some d->∀k,d.testBit k=true->listed.getD k false=true)
  (b6:φ.le φ') {b0:aR} (d0:(st (i+1)).M.blks=(st i).M.blks.set (st i).M.next (some b0)) (hMn:(st (i+1)).M.next=(st i).M.next+1)
  (hp:Post P GL B φ φ' (qZ (st i).M h0) ((qZ (st i).M h0).alloc b0) [] w w'):gQ P GL B ops h0 st ld N (listed.setIfInBounds i true) φ' w' m:=by
 have a5:∀j,(listed.setIfInBounds i true).getD j false=(decide (j=i)||listed.getD j false):=fun j=>iT (by omega)
 have d2:=V.le
 have hld:=b9.2.2
 have a9:∀k,k<w.heap.size->w'.heap[k]?=w.heap[k]?:=fun k hk=>by
  rcases hp.fr.block k hk with h|⟨_,t,ht,_⟩
  ·exact h
  ·cases ht
 have a0:(st (i+1)).M.blks.get (st i).M.next=some b0:=by rw[d0,Tr.get_set,if_pos rfl]
 have a6:∀j,i+1<=j->j<=m->(st j).M.blks.get (st i).M.next=(st (i+1)).M.blks.get (st i).M.next:=by
  intro j;induction j with
  |zero=>intro h _;omega
  |succ k ih=>
   intro h1 h2
   by_cases hk:i=k
   ·subst hk;rfl
   ·rw[<-ih (by omega) (by omega)];have b5:k<N:=by omega
    have b4:(st i).M.next<(st k).M.next:=by
     have:=R.mono hA (i+1) k (by omega) (by omega);omega
    obtain⟨L,hL,hq,_⟩:=R.abs hA k b5;rcases Nat.lt_or_ge 1 (ld k) with hl|hl
    ·obtain⟨_,o,d,_,hb,a7⟩:=R.steps k b5;rcases a7 with⟨_,_,hz⟩|⟨_,r,M',H,hop,hput,h1',_,_,h7⟩|⟨_,_,_,_,_,_,_,_,_,_,hz,_⟩
     ·omega
     ·have c9:listed.getD k false=true:=by
       cases hd:listed.getD k false
       ·have:=V.loud k (by omega) hd;omega
       ·rfl
      have c0:d.testBit i=false:=by
       cases hd:d.testBit i
       ·rfl
       ·have:=a8 k b5 c9 d hb i hd;rw[d4] at this;cases this
      rcases h7 i (by omega) (by omega) (by omega) with h8|h8|⟨_,h9|h9⟩
      ·rw[c0] at h8;cases h8
      ·omega
      ·have:=h9.2.1;omega
      ·obtain⟨t,x,y,a,v,_,_,_,hs,_,_⟩:=Iy h9.1 hop;obtain⟨b,b',g1,g2,_⟩:=kF hs;have b3:=h1' i (by omega) (by omega) c0 (st i).M.next (Nat.le_refl _) (by omega);have b7:(st i).M.next≠a.block:=fun hx=>by
        have:=(cB.1 g1).2.1;simp only [iI,Bool.or_eq_false_iff] at this;rw[<-hx,b3] at this;cases this.1
       have b2:(st (k+1)).M.blks=(st k).M.blks.set a.block (some b'):=by
        have:=fN hput;rw[this,g2];rfl
       rw[b2,Tr.get_set,if_neg b7]
     ·omega
    ·have b8:=hq hl;subst b8;exact hL.keep _ b4 (by simp)
 have xc:∀id b,XV st ld h0 N m (listed.setIfInBounds i true) id b->(((qZ (st i).M h0).alloc b0).getA id=some b/\In st i id)\/(XV st ld h0 N m listed id b/\¬In st i id):=fun id b=>by
  rintro⟨j,c1,c2,c3,c4,c5,c6,c7,c8⟩;by_cases b1:j=i
  ·subst b1;have hid:id=(st j).M.next:=by omega
   exact .inl ⟨Fx hid c7 (by rw[hid,a0] at c8;cases c8;rfl),c5,c6⟩
  ·rw[a5] at c3;have hd:listed.getD j false=true:=by simpa [b1] using c3
   exact .inr ⟨⟨j,c1,c2,hd,c4,c5,c6,c7,c8⟩,fun h=>b1 (R.ranges hA c2 hi c5 c6 h.1 h.2)⟩
 refine Nk (i:=i) V b6 hp.rel (fun id hn=>hp.ext id ?_) (fun id e hin he=>?_) a9 d2 (fun j hj hD b7=>?_) (Dj d3 V.loud) (fun id b hb=>?_) fun id b hb=>?_
 ·show id<(st i).M.next\/(st i).M.next+1<=id;unfold In at hn;omega
 ·rcases hp.newb id e hin.1 (by have:=hin.2;show id<(st i).M.next+1;omega) he with h|⟨t,ht,_⟩
  ·exact h
  ·cases ht
 ·rw[a5] at hD;rcases Bool.or_eq_true _ _▸hD with h|h
  ·have:j=i:=by simpa using h
   subst this;exact .inr b9
  ·exact V.all j hj h b7
 ·rcases hb with hb|hb
  ·obtain⟨a1,a2,a3,a4⟩:=fX.1 hb;by_cases hr:In st i id
   ·left;have hid:id=(st i).M.next:=by unfold In at hr;omega
    have d1:i+1<=m:=by
     rcases Nat.lt_or_ge i m with h|h
     ·exact h
     ·have:=R.mono hA m i h (by omega);omega
    refine⟨Fx hid a3 ?_,hr⟩;rw[hid,a6 m d1 (Nat.le_refl _),a0] at a4;cases a4;rfl
   ·right;refine⟨.inl (fX.2 ⟨a1,?_,a3,a4⟩),hr⟩;rintro⟨j,c1,c2,c3,c4,c5⟩;have b1:j≠i:=fun x=>by subst x;exact hr ⟨c4,c5⟩
    exact a2 ⟨j,c1,by rw[a5,c2];simp [b1],c3,c4,c5⟩
  ·rcases xc id b hb with⟨x1,x2⟩|⟨x1,x2⟩
   ·exact .inl ⟨x1,x2⟩
   ·exact .inr ⟨.inr x1,x2⟩
 ·rcases xc id b hb with⟨x1,x2⟩|h
  ·exact .inl ⟨x2,by omega⟩
  ·exact .inr h
theorem Ku(hA:bW callF)(R:sU P GL callF ops before h0 S st ld N)(V:gQ P GL B ops h0 st ld N listed φ w m)(hi:i<N)(hsz:i<listed.size)(a8:listed.getD i false=false){o:Oper}(ho:ops[i]?=some o)
  (a4:∀j,j<N->listed.getD j false=true->∀d,before[j]?=some d->∀k,d.testBit k=true->listed.getD k false=true)
  {deps:Nat} (a3:∀j,deps.testBit j=true->listed.getD j false=true)
  (h4:∀k,k<i->ld k≠0->ld i≠0->deps.testBit k=true\/(ld k=1/\ld i=1)\/wX ops o ld k i) (hloud:2<=ld i)
  (a5:φ.le φ') {Mx a1:aB} {L:List Nat} (a7:∀id b,Mx.getA id=some b->VV st ld h0 N m listed id b) (hn:a1.next=(st (i+1)).M.next) (a6:a1.log=L++Mx.log) (b2:tX o=true->Rk Mx a1)
  (b3:∀id b,(VS st ld h0 (i+1) (listed.setIfInBounds i true)).getA id=some b->a1.getA id=some b) (hp:Post P GL B φ φ' Mx a1 L w w'):
  gQ P GL B ops h0 st ld N (listed.setIfInBounds i true) φ' w' (i+1):=by
 have a0:∀j,(listed.setIfInBounds i true).getD j false=(decide (j=i)||listed.getD j false):=fun j=>iT (by omega)
 have hmi:m<=i:=by
  rcases Nat.lt_or_ge i m with h|h
  ·have:=V.loud i h a8;omega
  ·exact h
 have xc:∀id b,XV st ld h0 N (i+1) (listed.setIfInBounds i true) id b->XV st ld h0 N m listed id b/\(st (i+1)).M.next<=id:=fun id b=>by
  rintro⟨j,c1,c2,c3,c4,c5,c6⟩;have b0:j≠i:=by omega
  rw[a0] at c3;have hd:listed.getD j false=true:=by simpa [b0] using c3
  exact⟨⟨j,by omega,c2,hd,c4,c5,c6⟩,Nat.le_trans (R.mono hA (i+1) j c1 (by omega)) c5⟩
 refine Yr V a5 hp a7 hn (fun hx=>?_) hi (fun j hj hD hne=>?_) (fun j hj hD=>?_) (fun id b hb=>?_) xc
 ·obtain⟨id,b,⟨j,c1,c2,c3,c4,c5,c6,_⟩,hid⟩:=hx;have a9:i<j:=by
   rcases Nat.lt_or_ge i j with h|h
   ·exact h
   ·have:=R.mono hA (j+1) (i+1) (by omega) (by omega);omega
  obtain⟨_,oj,d,hoj,hb,a2⟩:=R.steps j c2;have b1:tX o=true:=by
   rcases a2 with⟨_,_,hz⟩|⟨_,r,M',H,_,_,_,_,_,h7⟩|⟨_,_,_,_,_,_,_,_,_,_,hz,_⟩
   ·exact absurd hz c4
   ·rcases h7 i a9 (by omega) c4 with h8|h8|⟨_,h9|h9⟩
    ·have:=a4 j c2 c3 d hb i h8;rw[a8] at this;cases this
    ·omega
    ·have:=h9.2.2;rw[Ij ho] at this;exact this
    ·have:=h9.2.1;omega
   ·exact absurd hz c4
  obtain⟨t1,t2⟩:=(b2 b1).sees;exact⟨t1 L a6,t2⟩
 ·rw[a0] at hD;rcases Bool.or_eq_true _ _▸hD with h|h
  ·have:j=i:=by simpa using h
   left;omega
  ·rcases V.all j hj h hne with h|h
   ·left;omega
   ·exact .inr h
 ·rw[a0] at hD;simp only [Bool.or_eq_false_iff,decide_eq_false_iff_not] at hD;rcases Nat.eq_zero_or_pos (ld j) with hz|hz
  ·omega
  ·rcases h4 j (by omega) (by omega) (by omega) with h5|h5|⟨_,h5|h5⟩
   ·have:=a3 j h5;rw[hD.2] at this;cases this
   ·omega
   ·have:=h5.2.1;omega
   ·have:=h5.2.1;omega
 ·rcases hb with hb|hb
  ·exact .inl ⟨b3 id b hb,(fX.1 hb).1⟩
  ·exact .inr (xc id b hb)
end mem
def rL(T:Tr Value):List Nat->Tr Value
 | []=> .nil
 |t::l=>(rL T l).set t (T.get t)
theorem lY(T:Tr Value):∀(l:List Nat) (t:Nat),(rL T l).get t=if t∈l then T.get t else none
 | [],t=>by simp [rL,Tr.get]
 |u::l,t=>by
  simp only [rL];rw[Tr.get_set,lY T l];by_cases h:t=u
  ·subst h;simp
  ·simp [h]
def lV(ops:Array Oper)(j:Nat):Option Nat:=(ops[j]?).bind (·.dst)
def arVal:AR->Value
 | .val v=>v
 | .skip=>undef
theorem nV{s s':St}{o:Oper}{r:AR}(h:pY o r s=some s'):(∀t,o.dst≠some t->s'.T.get t=s.T.get t)/\s'.n=s.n/\(∀d,o.dst=some d->d<s.n/\s'.T.get d=some (arVal r)):=by
 unfold pY at h;split at h
 ·rename_i hd;simp at h;subst h;exact⟨fun _ _=>rfl,rfl,fun d h=>by rw[hd] at h;cases h⟩
 ·rename_i d v hd;cases hb:Nat.blt d s.n<;>simp only [hb,cond_true,cond_false] at h
  ·cases h
  ·cases h;refine⟨fun t ht=>?_,rfl,fun d' hd'=>?_⟩
   ·show(s.T.set d (some v)).get t=_;rw[Tr.get_set,if_neg (fun x=>ht (by rw[x];exact hd))]
   ·rw[hd] at hd';cases hd';exact⟨xAd hb,by show(s.T.set d (some v)).get d=_;rw[Tr.get_set,if_pos rfl];rfl⟩
 ·rename_i d hd;cases hb:Nat.blt d s.n<;>simp only [hb,cond_true,cond_false] at h
  ·cases h
  ·cases h;refine⟨fun t ht=>?_,rfl,fun d' hd'=>?_⟩
   ·show(s.T.set d (some undef)).get t=_;rw[Tr.get_set,if_neg (fun x=>ht (by rw[x];exact hd))]
   ·rw[hd] at hd';cases hd';exact⟨xAd hb,by show(s.T.set d (some undef)).get d=_;rw[Tr.get_set,if_pos rfl];rfl⟩
def Bj(ops:Array Oper)(st:Nat->St)(N:Nat)(listed:Array Bool)(t:Nat)(v:Value):Prop:=
 (∃j,j<N/\listed.getD j false=true/\lV ops j=some t/\(∀k,k<N->listed.getD k false=true->lV ops k=some t->k<=j)/\(st (j+1)).T.get t=some v)\/
 ((∀k,k<N->listed.getD k false=true->lV ops k≠some t)/\(st 0).T.get t=some v)
namespace sU
theorem slot(R:sU P GL callF ops before h0 S st ld N){j:Nat}(hj:j<N){t:Nat}(h:lV ops j≠some t):(st (j+1)).T.get t=(st j).T.get t:=by
 obtain⟨hh,o,deps,ho,hb,⟨h1,h2,h3⟩|⟨h1,r,M',H,h2,h3,_⟩|⟨h1,_,_,_,_,_,_,_,_,h3,_,_⟩⟩:=R.steps j hj
 ·exact(nV h2).1 t (fun x=>h (by simp [lV,ho,x]))
 ·exact(nV h3).1 t (fun x=>h (by simp [lV,ho,x]))
 ·exact(nV h3).1 t (fun x=>h (by simp [lV,ho,x]))
theorem nn(R:sU P GL callF ops before h0 S st ld N):∀j,j<=N->(st j).n=(st 0).n
 |0,_=>rfl
 |j+1,h=>by
  rw[<-R.nn j (by omega)];obtain⟨hh,o,deps,ho,hb,⟨h1,h2,h3⟩|⟨h1,r,M',H,h2,h3,_⟩|⟨h1,_,_,_,_,_,_,_,_,h3,_,_⟩⟩:=R.steps j h
  ·exact(nV h2).2.1
  ·exact(nV h3).2.1
  ·exact(nV h3).2.1
theorem last(R:sU P GL callF ops before h0 S st ld N)(t:Nat):∀i,i<=N->(∃j,j<i/\lV ops j=some t/\(∀k,j<k->k<i->lV ops k≠some t)/\(st i).T.get t=(st (j+1)).T.get t)\/
  ((∀k,k<i->lV ops k≠some t)/\(st i).T.get t=(st 0).T.get t)
 |0,_=> .inr ⟨fun k h=>absurd h (Nat.not_lt_zero _),rfl⟩
 |i+1,h=>by
  by_cases hd:lV ops i=some t
  ·exact .inl ⟨i,by omega,hd,fun k a b=>by omega,rfl⟩
  ·rw[R.slot h hd];rcases R.last t i (by omega) with⟨j,a,b,c,d⟩|⟨a,b⟩
   ·refine .inl ⟨j,by omega,b,fun k e f=>?_,d⟩;by_cases hk:k=i
    ·subst hk;exact hd
    ·exact c k e (by omega)
   ·refine .inr ⟨fun k e=>?_,b⟩;by_cases hk:k=i
    ·subst hk;exact hd
    ·exact a k (by omega)
end sU
def Pn(P:Program)(GL:List Nat)(B:Bd)(ops:Array Oper)(h0:List (Nat×Nat))(st:Nat->St)(ld:Nat->Nat)(N:Nat):Array Bool->dX->World->Prop:=fun listed φ w=>∃m,gQ P GL B ops h0 st ld N listed φ w m
structure Inv(P:Program)(GL:List Nat)(B:Bd)(ops:Array Oper)(h0:List (Nat×Nat))(st:Nat->St)(ld:Nat->Nat)(N:Nat)(Mm:Array Bool->dX->World->Prop)(Lall:List Nat)(φ0:dX)(w0:World)(a0:Act)(listed:Array Bool)(φ:dX)(a:Act)(w:World):Prop where
 size:listed.size=ops.size
 closed:∀(k:Nat) (o:Oper),listed.getD k false=true->ops[k]?=some o->∀e∈o.after,Region.binds .any e=true->listed.getD e.on false=true
 tsize:a.tmps.size=(st 0).n
 slots:∀t v,Bj ops st N listed t v->∃v',a.tmps[t]?=some v'/\bH φ v v'
 mem:Mm listed φ w
 fresh:∀j,j<N->listed.getD j false=false->∀id,(st j).M.next<=id->id<(st (j+1)).M.next->φ id=none
 ext:∀id,(id<(st 0).M.next\/(st N).M.next<=id)->φ id=φ0 id
 fr:Fr B φ0 Lall w0 w
 newb:∀id e,(st 0).M.next<=id->id<(st N).M.next->φ id=some e->w0.heap.size<=e.block\/∃t∈Lall,∃e0,φ0 t=some e0/\e0.block=e.block
 defers:a.defers=a0.defers
theorem oL(a0:nI ops){listed:Array Bool}(closed:∀(k:Nat) (o:Oper),listed.getD k false=true->ops[k]?=some o->∀e∈o.after,Region.binds .any e=true->listed.getD e.on false=true):
  ∀(n k:Nat),k<n->∀(o:Oper),ops[k]?=some o->(∀e∈o.after,Region.binds .any e=true->listed.getD e.on false=true)->∀d,(bK ops.toList [])[k]?=some d->∀m,d.testBit m=true->listed.getD m false=true
 |0,k,hk,_,_,_,_,_,_,_=>absurd hk (Nat.not_lt_zero _)
 |n+1,k,hk,o,ho,he,d,hd,m,hm=>by
  obtain⟨d',a1,a6⟩:=(xJ ops.toList []).2.2 k o (by simpa using ho);simp only [List.length_nil,Nat.zero_add] at a1;rw[hd] at a1;cases a1;obtain⟨e,a2,hb,hh⟩:=a6 m hm;have hD:=he e a2 hb;rcases hh with rfl|⟨d2,a4,a5⟩
  ·exact hD
  ·have hlt:=a0.back k o ho e a2 hb;have a3:e.on<ops.size:=by have:=(Array.getElem?_eq_some_iff.1 ho).1;omega
   exact oL a0 closed n e.on (by omega) ops[e.on] (by simp [a3]) (closed e.on _ hD (by simp [a3])) d2 a4 m a5
theorem Jp{o:Oper}{T:Tr Value}{M M':aB}{r:AR}(h:jY P GL callF o T M=some (0,r,M')):fL P GL o T=some r:=by
 unfold jY at h;split at h
 ·rename_i r0 hr0;simp at h;rw[hr0,h.1]
 ·split at h
  ·cases h
  ·rename_i hne;exact absurd h (hne r M')
section step
variable{Mm:Array Bool->dX->World->Prop}{Lall:List Nat}{φ0:dX}{w0:World}{a0:Act}{listed:Array Bool}{φ:dX}{a:Act}{w:World}{i:Nat}
theorem Inv.value(hNs:N<=ops.size)(hiN:i<=N)(a4:nI ops)(R:sU P GL callF ops before h0 S st ld N)(I:Inv P GL B ops h0 st ld N Mm Lall φ0 w0 a0 listed φ a w){o:Oper}(ho:ops[i]?=some o)(a8:listed.getD i false=false)
  (a3:∀e∈o.after,Region.binds .any e=true->listed.getD e.on false=true) {t:Nat} (ht:t∈o.looksAt ops) {v:Value} (hv:(st i).T.get t=some v):Bj ops st N listed t v:=by
 have hi:i<ops.size:=(Array.getElem?_eq_some_iff.1 ho).1
 have a2:∀k,k<N->listed.getD k false=true->lV ops k=some t->k<i:=fun k hk hD hd=>by
  rcases Nat.lt_trichotomy k i with h|h|h
  ·exact h
  ·subst h;rw[a8] at hD;cases hD
  ·exfalso;have b2:k<ops.size:=by omega
   have a5:ops[k]?=some ops[k]:=by simp [b2]
   have b0:ops[k].dst=some t:=by simpa [lV,a5] using hd
   by_cases hedge:∀e∈ops[k].after,Region.binds .any e=true->e.on≠i
   ·have:=(Oper.apart_spec (a4.apart i k o ops[k] h ho a5 hedge)).2.2 t b0;exact this ht
   ·simp only [Classical.not_forall,Classical.not_not] at hedge;obtain⟨e,he,hb,a6⟩:=hedge;have:=I.closed k _ hD a5 e he hb;rw[a6,a8] at this;cases this
 rcases R.last t i (by omega) with⟨j,a1,b,c,d⟩|⟨a1,b⟩
 ·left;have hj:j<N:=by omega
  have b1:j<ops.size:=by omega
  have a7:ops[j]?=some ops[j]:=by simp [b1]
  have a9:ops[j].dst=some t:=by simpa [lV,a7] using b
  refine⟨j,hj,?_,b,fun k hk hD hd=>?_,by rw[<-d];exact hv⟩
  ·by_cases hedge:∀e∈o.after,Region.binds .any e=true->e.on≠j
   ·exact absurd ht ((Oper.apart_spec (a4.apart j i ops[j] o a1 a7 ho hedge)).1 t a9)
   ·simp only [Classical.not_forall,Classical.not_not] at hedge;obtain⟨e,he,hb,a6⟩:=hedge;have:=a3 e he hb;rw[a6] at this;exact this
  ·have:=a2 k hk hD hd;rcases Nat.lt_or_ge j k with h|h
   ·exact absurd hd (c k h this)
   ·exact h
 ·right;exact⟨fun k hk hD hd=>a1 k (a2 k hk hD hd) hd,by rw[<-b];exact hv⟩
theorem Inv.next(hNs:N<=ops.size)(b1:i<N)(hA:bW callF)(b2:nI ops)(R:sU P GL callF ops before h0 S st ld N)(I:Inv P GL B ops h0 st ld N Mm Lall φ0 w0 a0 listed φ a w){o:Oper}(ho:ops[i]?=some o)(b6:listed.getD i false=false)
  (a3:∀e∈o.after,Region.binds .any e=true->listed.getD e.on false=true) {φ':dX} {w':World} {v':Value} {Li:List Nat} (c2:φ.le φ') (b3:Mm (listed.setIfInBounds i true) φ' w')
  (a4:∀id,¬((st i).M.next<=id/\id<(st (i+1)).M.next)->φ' id=φ id) (a6:Fr B φ Li w w') (b7:∀t∈Li,t∈Lall)
  (b4:∀id e,(st i).M.next<=id->id<(st (i+1)).M.next->φ' id=some e->w.heap.size<=e.block\/∃t∈Li,∃e0,φ t=some e0/\e0.block=e.block)
  (hv:∀d,o.dst=some d->d<(st 0).n/\∃v,(st (i+1)).T.get d=some v/\bH φ' v v'):
  Inv P GL B ops h0 st ld N Mm Lall φ0 w0 a0 (listed.setIfInBounds i true) φ' (a.put o.dst v') w':=by
 have hi:i<ops.size:=(Array.getElem?_eq_some_iff.1 ho).1
 have a1:∀j,(listed.setIfInBounds i true).getD j false=(decide (j=i)||listed.getD j false):=fun j=>iT (by rw[I.size];exact hi)
 have a2:∀j,(listed.setIfInBounds i true).getD j false=true->j=i\/listed.getD j false=true:=fun j h=>by
  rw[a1] at h;rcases Bool.or_eq_true _ _▸h with h|h
  ·exact .inl (by simpa using h)
  ·exact .inr h
 have c9:(st 0).M.next<=(st i).M.next:=R.mono hA 0 i (by omega) (by omega)
 have d0:(st (i+1)).M.next<=(st N).M.next:=R.mono hA (i+1) N (by omega) (Nat.le_refl _)
 have back:∀t e,t∈Li->φ t=some e->(w0.heap.size<=e.block)\/∃t0∈Lall,∃e0,φ0 t0=some e0/\e0.block=e.block:=fun t e ht he=>by
  by_cases h1:(st 0).M.next<=t/\t<(st N).M.next
  ·exact I.newb t e h1.1 h1.2 he
  ·exact .inr ⟨t,b7 t ht,e,by rw[<-I.ext t (by omega)];exact he,rfl⟩
 refine⟨by simp [I.size],fun k ok hD a5 e he hb=>?_,?_,fun t v hs=>?_,b3,fun j hj hD id h1 h2=>?_,fun id hid=>?_,?_,fun id e h1 h2 he=>?_,?_⟩
 ·rw[a1];rcases a2 k hD with rfl|h
  ·rw[ho] at a5;cases a5;simp [a3 e he hb]
  ·simp [I.closed k ok h a5 e he hb]
 ·cases hd:o.dst<;>simp [Act.put,I.tsize]
 ·by_cases htd:o.dst=some t
  ·obtain⟨c3,v2,c7,c5⟩:=hv t htd;have a9:lV ops i=some t:=by simp [lV,ho,htd]
   have a8:∀k,k<N->listed.getD k false=true->lV ops k=some t->k<i:=fun k hk hD hd=>by
    rcases Nat.lt_trichotomy k i with h|h|h
    ·exact h
    ·subst h;rw[b6] at hD;cases hD
    ·exfalso;have c1:k<ops.size:=by omega
     have a5:ops[k]?=some ops[k]:=by simp [c1]
     have b9:ops[k].dst=some t:=by simpa [lV,a5] using hd
     by_cases hedge:∀e∈ops[k].after,Region.binds .any e=true->e.on≠i
     ·exact(Oper.apart_spec (b2.apart i k o ops[k] h ho a5 hedge)).2.1 t htd b9
     ·simp only [Classical.not_forall,Classical.not_not] at hedge;obtain⟨e,he,hb,c4⟩:=hedge;have:=I.closed k _ hD a5 e he hb;rw[c4,b6] at this;cases this
   have a7:(st (i+1)).T.get t=some v:=by
    rcases hs with⟨j,j1,j2,j3,j4,j5⟩|⟨j1,_⟩
    ·have hij:=j4 i b1 (by rw[a1];simp) a9;rcases a2 j j2 with rfl|h
     ·exact j5
     ·have:=a8 j j1 h j3;omega
    ·exact absurd a9 (j1 i b1 (by rw[a1];simp))
   rw[c7] at a7;cases a7;refine⟨v',?_,c5⟩;rw[htd];simp [Act.put,I.tsize,c3]
  ·have c6:Bj ops st N listed t v:=by
    have a9:lV ops i≠some t:=by simp [lV,ho,htd]
    rcases hs with⟨j,j1,j2,j3,j4,j5⟩|⟨j1,j2⟩
    ·rcases a2 j j2 with rfl|h
     ·exact absurd j3 a9
     ·exact .inl ⟨j,j1,h,j3,fun k hk hD hd=>j4 k hk (by rw[a1];simp [hD]) hd,j5⟩
    ·exact .inr ⟨fun k hk hD=>j1 k hk (by rw[a1];simp [hD]),j2⟩
   obtain⟨u,u1,u2⟩:=I.slots t v c6;refine⟨u,?_,u2.mono c2⟩;cases hd:o.dst with
   |none=>exact u1
   |some d=>
    have:d≠t:=fun x=>htd (by rw[hd,x])
    simp only [Act.put]
    rw[Array.getElem?_setIfInBounds_ne this]
    exact u1
 ·rw[a1] at hD;simp only [Bool.or_eq_false_iff,decide_eq_false_iff_not] at hD;rw[a4 id (fun h=>hD.1 (R.ranges hA hj b1 h1 h2 h.1 h.2))];exact I.fresh j hj hD.2 id h1 h2
 ·rw[a4 id (by omega)];exact I.ext id hid
 ·refine⟨a6.os.trans I.fr.os,a6.tape.trans I.fr.tape,a6.output.trans I.fr.output,Nat.le_trans I.fr.size a6.size,fun k hk=>?_⟩;rcases I.fr.block k hk with e1|h
  ·rcases a6.block k (xAf hk I.fr.size) with e2|⟨hB,t,ht,e,he,hbe⟩
   ·exact .inl (e2.trans e1)
   ·rcases back t e ht he with h|⟨t0,b5,e0,b0,b8⟩
    ·omega
    ·exact .inr ⟨hB,t0,b5,e0,b0,by omega⟩
  ·exact .inr h
 ·by_cases hr:(st i).M.next<=id/\id<(st (i+1)).M.next
  ·rcases b4 id e hr.1 hr.2 he with h|⟨t,ht,e1,c0,c8⟩
   ·exact .inl (Nat.le_trans I.fr.size h)
   ·rcases back t e1 ht c0 with h|⟨t0,b5,e0,b0,b8⟩
    ·exact .inl (by omega)
    ·exact .inr ⟨t0,b5,e0,b0,by omega⟩
  ·rw[a4 id hr] at he;exact I.newb id e h1 h2 he
 ·cases hd:o.dst<;>exact I.defers
def Kq(P:Program)(t:TypeId)(off:Nat)(b:aR):Option Value:=
 match P.underlying t with
 |some d=>
  bif eC d then
   match P.info? t with
   |some i=>match dJ i.size (b.cs.drop off) with
    |some l=>some (.agg l.toArray)
    |none=>none
   |none=>none
  else b.cs[off]?
 |none=>none
theorem zX{t:TypeId}{a:Addr}{M:aB}{v:Value}:bA P t a M=some v↔ ∃b,M.get a.block=some b/\Kq P t a.off b=some v:=by
 unfold bA Kq;cases P.underlying t with
 |none=>exact⟨fun h=>(by cases h),fun⟨_,_,h⟩=>(by cases h)⟩
 |some d=>cases M.get a.block with
  |none=>exact⟨fun h=>(by cases h),fun⟨_,h,_⟩=>(by cases h)⟩
  |some b=>exact⟨fun h=>⟨b,rfl,h⟩,fun⟨b',h1,h2⟩=>by cases h1;exact h2⟩
def jQ(off n:Nat)(x y:Option aR):Prop:=∀b,x=some b->∃b',y=some b'/\dS b'=dS b/\∀j,j<n->b'.cs[off+j]?=b.cs[off+j]?
theorem jQ.refl(off n:Nat)(x:Option aR):jQ off n x x:=fun b h=>⟨b,h,rfl,fun _ _=>rfl⟩
theorem jQ.trans{off n:Nat}{x y z:Option aR}(h:jQ off n x y)(k:jQ off n y z):jQ off n x z:=fun b hb=>by
 obtain⟨b1,h1,h2,h3⟩:=h b hb;obtain⟨b2,k1,k2,k3⟩:=k b1 h1;exact⟨b2,k1,k2.trans h2,fun j hj=>(k3 j hj).trans (h3 j hj)⟩
theorem Ej:∀{n:Nat} {l l':List Value},(∀j,j<n->l'[j]?=l[j]?)->dJ n l'=dJ n l
 |0,_,_,_=>rfl
 |n+1,[],l',h=>by
  have:=h 0 (by omega);cases l' with
  |nil=>rfl
  |cons x l'=>simp at this
 |n+1,v::l,l',h=>by
  have h0:=h 0 (by omega);cases l' with
  |nil=>simp at h0
  |cons x l'=>
   simp at h0;subst h0
   simp only [dJ]
   rw[Ej (n:=n) (l:=l) (l':=l') fun j hj=>by have:=h (j+1) (by omega);simpa using this]
theorem Ns{t:TypeId}{off:Nat}{b b':aR}(h:∀j,j<Dh P t->b'.cs[off+j]?=b.cs[off+j]?):Kq P t off b'=Kq P t off b:=by
 unfold Kq;unfold Dh at h;cases hd:P.underlying t with
 |none=>rfl
 |some d=>
  rw[hd] at h
  simp only at h⊢
  cases hq:eC d<;>simp only [hq,cond_true,cond_false] at h⊢
  ·have:=h 0 (by omega);simpa using this
  ·cases hi:P.info? t with
   |none=>rfl
   |some i=>
    rw[hi] at h
    simp only at h⊢
    rw[Ej (n:=i.size) (l:=b.cs.drop off) (l':=b'.cs.drop off) fun j hj=>by rw[List.getElem?_drop,List.getElem?_drop];exact h j hj]
theorem wW:∀{cs:List Value} {k j:Nat} {l:List Value},(j<k\/k+l.length<=j)->(splice cs k l)[j]?=cs[j]?
 |cs,k,j,[],_=>by rw[iO]
 | [],k,j,v::l,_=>by cases k<;>rfl
 |c::cs,0,j,v::l,h=>by
  simp only [List.length_cons] at h;cases j with
  |zero=>omega
  |succ j=>
   simp only [splice,List.getElem?_cons_succ]
   exact wW (by omega)
 |c::cs,k+1,j,v::l,h=>by
  simp only [List.length_cons] at h;cases j with
  |zero=>rfl
  |succ j=>
   simp only [splice,List.getElem?_cons_succ]
   exact wW (by simp only [List.length_cons];omega)
def Je(P:Program)(S:TypeId->Addr->Prop)(st:Nat->St)(N:Nat):Prop:=∀t a,S t a->a.block<(st 0).M.next/\∀k k',k<=N->k'<=N->jQ a.off (Dh P t) ((st k).M.blks.get a.block) ((st k').M.blks.get a.block)
theorem Je.of_block{S0:List Nat}(h:∀b∈S0,b<(st 0).M.next/\∀k,k<=N->(st k).M.blks.get b=(st 0).M.blks.get b):Je P (fun _ a=>a.block∈S0) st N:=fun t a ha=>
 ⟨(h _ ha).1,fun k k' hk hk'=>by rw[(h _ ha).2 k hk,(h _ ha).2 k' hk'];exact jQ.refl _ _ _⟩
theorem Inv.step{L0:List Nat}(c6:N<=ops.size)(b2:i<N)(hN:eJ P)(hC:kC P GL B callF)(hA:bW callF)(a7:nI ops)(R:sU P GL callF ops (bK ops.toList []) h0 S st ld N)(b6:∀g∈GL,g<(st 0).M.next)
  (c0:(st N).M.log=L0++(st 0).M.log) (d2:∀t∈L0,t∈Lall) (g5:Je P S st N)
  (I:Inv P GL B ops h0 st ld N (Pn P GL B ops h0 st ld N) Lall φ0 w0 a0 listed φ a w) (hi:i∈Region.ready .any ops listed) {Q:Exit->Act->World->Prop} {K:Act->World->Prop}
  (hK:∀φ' a' w',Inv P GL B ops h0 st ld N (Pn P GL B ops h0 st ld N) Lall φ0 w0 a0 (listed.setIfInBounds i true) φ' a' w'->K a' w'):wpOpIn (RO ro) 0 P ops Q i K a w:=by
 obtain⟨e7,o,ho,a5⟩:=mem_ready.1 hi
 have h5:i<ops.size:=(Array.getElem?_eq_some_iff.1 ho).1
 have b4:i<listed.size:=by rw[I.size];exact h5
 have b3:listed.getD i false=false:=by simpa [b4] using e7
 obtain⟨m,V⟩:=I.mem
 have hg:Ay GL φ:=V.glob
 have hT:gO φ (rL (st i).T (o.looksAt ops)) (st 0).n a.tmps:=⟨I.tsize,fun t v hv=>by
  rw[lY] at hv;by_cases hm:t∈o.looksAt ops
  ·rw[if_pos hm] at hv;exact I.slots t v (I.value c6 (Nat.le_of_lt b2) a7 R ho b3 a5 hm hv)
  ·rw[if_neg hm] at hv;cases hv⟩
 have b9:∀x∈o.op.operands,ev GL (st i).T x=ev GL (rL (st i).T (o.looksAt ops)) x:=fun x hx=>by
  cases x with
  |tmp t=>
   have:t∈o.looksAt ops:=List.mem_append_left _ (List.mem_filterMap.2 ⟨.tmp t,by simpa using hx,rfl⟩)
   simp only [ev,lY,if_pos this]
  |_=>rfl
 have e6:fB ops (st i).T o=fB ops (rL (st i).T (o.looksAt ops)) o:=Ex fun g d hgq hd=>by
  obtain⟨g1,g2⟩:=g;have:d∈o.looksAt ops:=List.mem_append_right _ (by rw[hgq];simp only;rw[hd];simp);rw[lY,if_pos this]
 obtain⟨hh,o',deps,f6,hb,c9⟩:=R.steps i b2
 rw[ho] at f6;cases f6
 have hn:=R.nn i (by omega)
 unfold wpOpIn
 simp only [ho]
 have empty:ld i=0->¬ ∃id,(st i).M.next<=id/\id<(st (i+1)).M.next:=fun h0 ⟨id,h1,h2⟩=>R.quiet hA b2 h1 h2 h0
 rcases c9 with⟨hw,a8,hz⟩|⟨hw,r,M',H,hop,a8,h1,h2,h3,h4⟩|⟨hw,t,x,ad,v,H,hol,hev,hload,a8,hz,hbS⟩
 ·rw[e6] at hw;rw[iG hT hw];simp only [Bool.false_eq_true,if_false];refine⟨fun f _=>Fq _ f,?_⟩;refine hK φ _ w (I.next c6 b2 hA a7 R ho b3 a5 (φ':=φ) (w':=w) (Li:=[]) (dX.le_refl φ) ⟨m,Kv V b4 hz⟩ (fun _ _=>rfl) (Fr.refl _ _ _ _) (fun t ht=>by cases ht) (fun id e a b=>absurd ⟨id,a,b⟩ (empty hz)) fun d hd=>?_);obtain⟨q1,q2⟩:=(nV a8).2.2 d hd;exact⟨by rw[<-hn];exact q1,_,q2,bH.refl_flat φ undef rfl⟩
 ·rw[e6] at hw;rw[iG hT hw];simp only [if_true];by_cases hz:ld i=0
  ·rw[hz] at hop;have e8:=Jp hop;rw[vU b9] at e8;obtain⟨v,rfl,v',h8,h9⟩:=vV (w:=w) hg hT e8;refine On h8 ?_;refine hK φ _ w (I.next c6 b2 hA a7 R ho b3 a5 (φ':=φ) (w':=w) (Li:=[]) (dX.le_refl φ) ⟨m,Kv V b4 hz⟩ (fun _ _=>rfl) (Fr.refl _ _ _ _) (fun t ht=>by cases ht) (fun id e a b=>absurd ⟨id,a,b⟩ (empty hz)) fun d hd=>?_);obtain⟨q1,q2⟩:=(nV a8).2.2 d hd;exact⟨by rw[<-hn];exact q1,_,q2,h9⟩
  ·have a9:=oL a7 I.closed (i+1) i (by omega) o ho a5 deps hb;have b1:∀j,j<N->listed.getD j false=true->∀d,(bK ops.toList [])[j]?=some d->∀k,d.testBit k=true->listed.getD k false=true:=fun j hj hD d hd=>
    oL a7 I.closed (j+1) j (by omega) (ops[j]'(by omega)) (by simp [show j<ops.size by omega]) (I.closed j _ hD (by simp [show j<ops.size by omega])) d hd
   have hM:(st (i+1)).M={M' with hide:=h0}:=fN a8;have d6:(st (i+1)).M.next=M'.next:=by rw[hM]
   have f0:(st (i+1)).M.log=M'.log:=by rw[hM]
   have d5:∀g∈GL,g<(st i).M.next:=fun g hg=>xAf (b6 g hg) (R.mono hA 0 i (by omega) (by omega))
   obtain⟨_,L0',c7,i0⟩:=mC hA hop;have exec:∀(Mx Mx':aB),jY P GL callF o (st i).T Mx=some (ld i,r,Mx')->hI P GL B φ Mx w->Mx.next=(st i).M.next->Mx'.next=(st (i+1)).M.next->Mx.log=(st i).M.log->Mx'.log=(st (i+1)).M.log->
     (∀L φ' w',(ld i<=1->L=[])->φ.le φ'->Mx'.log=L++Mx.log->Post P GL B φ φ' Mx Mx' L w w'->∃m',gQ P GL B ops h0 st ld N (listed.setIfInBounds i true) φ' w' m')->o.wpIn (RO ro) 0 P a w K Q:=fun Mx Mx' hopx hR e1 e2 e3 e4 hmm=>by
    have hG:jP φ Mx Mx':=fun id a1 a2=>I.fresh i b2 b3 id (by rw[<-e1];exact a1) (by rw[<-e2];exact a2)
    obtain⟨_,Lx,c8,g4⟩:=mC hA hopx
    rw[uI b9] at hopx
    refine Cc hN hC hR hG hT hopx fun L φ' v' w' hlog hp hr=>?_
    have g3:L=Lx:=by
     have:=c8.log;rw[hlog] at this;exact List.append_cancel_right this
    have b5:=hp.le hG
    refine hK φ' _ w' (I.next c6 b2 hA a7 R ho b3 a5 b5 (hmm L φ' w' (fun h=>by rw[g3];exact g4 h) b5 hlog hp) (fun id hid=>hp.ext id ?_) hp.fr ?_ (fun id e a b he=>hp.newb id e (by rw[e1];exact a) (by rw[e2];exact b) he) fun d hd=>?_)
    ·rw[e1,e2];omega
    ·obtain⟨A,e9,_⟩:=R.log hA (i+1) N (by omega) (Nat.le_refl _);obtain⟨C,f8,_⟩:=R.log hA 0 i (by omega) (by omega);have d9:(st (i+1)).M.log=L++(st i).M.log:=by rw[<-e4,<-e3];exact hlog
     rw[d9,f8,c0,<-List.append_assoc,<-List.append_assoc] at e9;have:=List.append_cancel_right e9;intro t ht;exact d2 t (by rw[this];simp [ht])
    ·obtain⟨p1,p2⟩:=(nV a8).2.2 d hd;refine⟨by rw[<-hn];exact p1,_,p2,?_⟩;cases r with
     |val v=>exact hr
     |skip=>have:v'=undef:=hr
            rw[this];exact bH.refl_flat φ' undef rfl
   by_cases hMk:Bu ops ld i
   ·have h6:Bg o=true:=by have:=hMk.2.1;rw[Ij ho] at this;exact this
    obtain⟨g8,b0,d8,b7⟩:=aAb h6 hop;have a6:=b7 (qZ (st i).M h0) rfl;rw[<-g8] at a6;have e0:(st (i+1)).M.blks=(st i).M.blks.set (st i).M.next (some b0):=by rw[hM,d8];rfl
    have f1:(st (i+1)).M.next=(st i).M.next+1:=by rw[hM,d8];rfl
    refine exec _ _ a6 (Qn V d5) rfl f1.symm rfl (by rw[hM,d8];rfl) fun L φ' w' hL b5 hlog hp=>?_
    have:=hL (by rw[hMk.2.2];exact Nat.le_refl _);subst this;exact⟨m,Tp hA R V b2 b4 b3 hMk b1 b5 e0 f1 hp⟩
   ·have q1:=Zz V b2 ho hMk a9 h4 hz;have q2:=aAa R V hMk b3 b1 hz;have d7:=Re (st:=st) (ld:=ld) (h0:=h0) (i:=i) a9 h1;have d3:=Rl hA R V (Nat.le_of_lt b2) q1 (fun k a1 a2=>by
     by_cases hki:k=i
     ·subst hki;exact V.loud k a2 b3
     ·exact q2 k (by omega) a2)
    rcases Nat.lt_or_ge 1 (ld i) with i1|f5
    ·have hmi:m<=i:=by
      rcases Nat.lt_or_ge i m with h|h
      ·have:=V.loud i h b3;omega
      ·exact h
     by_cases hst:fZ o=true
     ·obtain⟨t,x,y,ad,v,h7,hx,hy,hs,g9,rfl⟩:=Iy hst hop;obtain⟨b,b',f2,c5,b7⟩:=kF hs;have f4:(VS st ld h0 i listed).get ad.block=some b:=zD (d7 _ _ (gP f2)) (zC f2);have a6:jY P GL callF o (st i).T (VS st ld h0 i listed)=some (ld i,.skip,(VS st ld h0 i listed).put ad.block (some b')):=by
       rw[g9];exact zP h7 hx hy (b7 _ f4)
      refine exec _ _ a6 (V.sub d3 d5) rfl (by rw[hM,c5];rfl) rfl (by rw[hM,c5];rfl) fun L φ' w' _ b5 hlog hp=>⟨i+1,Ku hA R V b2 b4 b3 ho b1 a9 h4 (by omega) b5 d3 (by rw[hM,c5];rfl) hlog (fun hlo=>Ks hlo a6) (fun id c hc=>?_) hp⟩
      obtain⟨a1,a2,a3,a4⟩:=fX.1 hc;have f7:=cB.1 f4;rw[lM f7.1 f7.2.1];have e5:(st (i+1)).M.blks=(st i).M.blks.set ad.block (some b'):=by rw[hM,c5];rfl
      rw[e5,Tr.get_set] at a4;by_cases hid:id=ad.block
      ·rw[if_pos hid] at a4⊢;exact a4
      ·rw[if_neg hid] at a4⊢;refine fX.2 ⟨by rw[hM,c5] at a1;exact a1,?_,a3,a4⟩;rintro⟨j,c1,c2,c3,c4⟩;exact a2 ⟨j,by omega,by rw[iT b4,c2];simp [show j≠i by omega],c3,c4⟩
     ·have hH:H=[]:=by
       rcases h2 (by omega) with h|h
       ·exact h
       ·exact absurd h.2 hst
      subst hH;refine exec _ _ hop (V.sub (fun id b hb=>d3 id b (d7 id b hb)) d5) rfl d6.symm rfl f0.symm fun L φ' w' _ b5 hlog hp=>⟨i+1,Ku hA R V b2 b4 b3 ho b1 a9 h4 (by omega) b5 (fun id b hb=>d3 id b (d7 id b hb)) d6.symm hlog (fun hlo=>Ks hlo hop) (fun id c hc=>?_) hp⟩
      obtain⟨a1,a2,a3,a4⟩:=fX.1 hc;rw[bN,c7.hide,<-d6];refine⟨a1,by simpa using a3,?_⟩;rw[hM] at a4;exact a4
    ·refine exec _ _ hop (V.sub (fun id b hb=>d3 id b (d7 id b hb)) d5) rfl d6.symm rfl f0.symm fun L φ' w' hL b5 hlog hp=>?_
     have:=hL f5;subst this;exact Qo hA R V b2 b4 b3 h3 f5 q1 q2 b5 hM c7.hide hp
 ·rw[e6] at hw;rw[iG hT hw];simp only [if_true];obtain⟨e0,g6⟩:=g5 _ _ hbS;have b8:bA P t ad (VS st ld h0 m listed)=some v:=by
   obtain⟨b,hb,g7⟩:=zX.1 hload;obtain⟨a1,a2,a3,a4⟩:=cB.1 hb;simp only [iI,Bool.or_eq_false_iff] at a2;obtain⟨b',c1,c2,c3⟩:=g6 i m (by omega) V.le b a3;refine zX.2 ⟨b',zD (fX.2 ⟨xAf e0 (R.mono hA 0 m (by omega) V.le),?_,a2.2,c1⟩) (by rw[c2];exact a4),by rw[Ns c3];exact g7⟩;rintro⟨j,d1,_,_,d4,_⟩;have:=R.mono hA 0 j (by omega) (by have:=V.le;omega);omega
  have a6:jY P GL callF o (st i).T (VS st ld h0 m listed)=some (1,.val v,VS st ld h0 m listed):=Ti hol hev b8;rw[uI b9] at a6;have g0:∀g∈GL,g<(VS st ld h0 m listed).next:=fun g hg=>xAf (b6 g hg) (R.mono hA 0 m (Nat.zero_le _) V.le)
  refine Cc hN hC (V.sub (fun _ _ h=> .inl h) g0) (fun id a1 a2=>absurd a1 (by omega)) hT a6 fun L φ' v' w' hlog hp hr=>?_
  have hL:L=[]:=List.append_cancel_right (bs:=(VS st ld h0 m listed).log) (by rw[<-hlog];rfl);subst hL;have hφ:φ'=φ:=funext fun id=>hp.ext id (by omega)
  subst hφ;have d0:∀k,k<w.heap.size->w'.heap[k]?=w.heap[k]?:=fun k hk=>by
   rcases hp.fr.block k hk with h|⟨_,t,ht,_⟩
   ·exact h
   ·cases ht
  have V':gQ P GL B ops h0 st ld N (listed.setIfInBounds i true) φ' w' m:=Nk (i:=i) V (dX.le_refl φ') hp.rel (fun _ _=>rfl) (fun id e hin _=>absurd ⟨id,hin.1,hin.2⟩ (empty hz)) d0 V.le (Jk b4 hz V.all) (Dj b4 V.loud)
   (fun id b hb=> .inr ⟨(rT b4 hz id b).1 hb,fun hin=>empty hz ⟨id,hin.1,hin.2⟩⟩) (fun id b hb=> .inr ⟨(rT b4 hz id b).2 hb,fun hin=>empty hz ⟨id,hin.1,hin.2⟩⟩)
  refine hK φ' _ w' (I.next c6 b2 hA a7 R ho b3 a5 (φ':=φ') (w':=w') (Li:=[]) (dX.le_refl φ') ⟨m,V'⟩ (fun _ _=>rfl) hp.fr (fun t ht=>by cases ht) (fun id e a b=>absurd ⟨id,a,b⟩ (empty hz)) fun d hd=>?_);obtain⟨q1,q2⟩:=(nV a8).2.2 d hd;exact⟨by rw[<-hn];exact q1,_,q2,hr⟩
end step
theorem xD(a0:nI ops){listed:Array Bool}(hs:listed.size=ops.size)(h:Region.ready .any ops listed=[]):∀(n j:Nat),j<n->j<ops.size->listed.getD j false=true
 |0,j,hn,_=>absurd hn (Nat.not_lt_zero _)
 |n+1,j,hn,hj=>by
  cases hd:listed.getD j false
  ·exfalso;have a1:j<listed.size:=by omega
   have hr:j∈Region.ready .any ops listed:=mem_ready.2 ⟨by simpa [a1] using hd,ops[j],by simp [hj],fun e he hb=>by
    have hlt:=a0.back j ops[j] (by simp [hj]) e he hb;exact xD a0 hs h n e.on (by omega) (by omega)⟩
   rw[h] at hr;cases hr
  ·rfl
theorem yX{l:List Bool}{i:Nat}(hi:l[i]?=some false):(l.set i true).count false+1=l.count false:=by
 induction l generalizing i with
 |nil=>simp at hi
 |cons b l ih=>
  cases i with
  |zero=>simp at hi;subst hi;simp
  |succ i=>simp at hi;simp [List.count_cons,<-ih hi];omega
theorem Oj(hN:eJ P)(hm:P.follows .mixedOrders=true)(hC:kC P GL B callF)(hA:bW callF){id:Nat}{s s':St}{φ:dX}{a:Act}{w:World}(hl:kY ops=true)
  (a0:st 0=s) (a5:st ops.size=s') (R:sU P GL callF ops (bK ops.toList []) s.M.hide S st ld ops.size) (c3:Je P S st ops.size)
  (hR:hI P GL B φ s.M w) (hG:jP φ s.M s'.M) (hT:gO φ s.T s.n a.tmps) {Q:Exit->Act->World->Prop}
  (hk:∀L φ' a' w',s'.M.log=L++s.M.log->Post P GL B φ φ' s.M s'.M L w w'->gO φ' s'.T s'.n a'.tmps->a'.defers=a.defers->Q .normal a' w'):(Code.region id ops true).wpIn (RO ro) 0 P Q a w:=by
 have b0:=Ai hl
 obtain⟨a9,a8,c0⟩:=R.log hA 0 ops.size (Nat.zero_le _) (Nat.le_refl _)
 have a7:∀g∈GL,g<(st 0).M.next:=fun g hg=>by rw[a0];exact(hR.glob g hg).1
 have b4:nJ w {w with drawn:=w.drawn+1}:=⟨rfl,rfl,rfl,rfl⟩
 have b8:∀(listed:Array Bool) φ1 a1 w1,(∀j,j<ops.size->listed.getD j false=true)->Inv P GL B ops s.M.hide st ld ops.size (Pn P GL B ops s.M.hide st ld ops.size) a9 φ {w with drawn:=w.drawn+1} a listed φ1 a1 w1->Q .normal a1 w1:=fun listed φ1 a1 w1 a6 I=>by
  obtain⟨m,V⟩:=I.mem;have q1:∀k,m<=k->k<ops.size->ld k<=1:=fun k h1 h2=>by
   rcases Nat.eq_zero_or_pos (ld k) with hz|hz
   ·omega
   ·rcases V.all k h2 (a6 k h2) (by omega) with h|h
    ·omega
    ·rw[h.2.2];exact Nat.le_refl _
  have b6:hI P GL B φ1 s'.M w1:=by
   rw[<-a5];refine V.sub (fun id b hb=>Rl hA R V (Nat.le_refl _) q1 (fun k h1 h2=>by have:=V.le;omega) id b (fX.2 ?_)) fun g hg=>xAf (a7 g hg) (R.mono hA 0 ops.size (Nat.zero_le _) (Nat.le_refl _))
   obtain⟨b1,b2,b3⟩:=bN.1 hb;refine⟨b1,?_,?_,b3⟩
   ·rintro⟨j,c1,c2,_⟩;rw[a6 j c1] at c2;cases c2
   ·rw[<-R.hide ops.size (Nat.le_refl _)];exact b2
  have hn:=R.nn ops.size (Nat.le_refl _);refine hk a9 φ1 a1 w1 (by rw[<-a5,a8,a0]) ⟨fun id hid=>?_,?_,b6,⟨I.fr.os,I.fr.tape,I.fr.output,I.fr.size,I.fr.block⟩,fun id e h1 h2 he=>?_,?_⟩ ⟨?_,fun t v hv=>?_⟩ I.defers
  ·exact I.ext id (by rw[a0,a5];exact hid)
  ·rw[<-a0,<-a5];exact R.mono hA 0 ops.size (Nat.zero_le _) (Nat.le_refl _)
  ·exact I.newb id e (by rw[a0];exact h1) (by rw[a5];exact h2) he
  ·rw[<-a5];exact c0
  ·rw[I.tsize,<-hn,a5]
  ·refine I.slots t v ?_;rw[<-a5] at hv;rcases R.last t ops.size (Nat.le_refl _) with⟨j,j1,j2,j3,j4⟩|⟨j1,j2⟩
   ·exact .inl ⟨j,j1,a6 j j1,j2,fun k hk _ hd=>by
     rcases Nat.lt_or_ge j k with h|h
     ·exact absurd hd (j3 k h hk)
     ·exact h,by rw[<-j4];exact hv⟩
   ·exact .inr ⟨fun k hk _=>j1 k hk,by rw[<-j2];exact hv⟩
 have go:∀(fuel:Nat) (listed:Array Bool) φ1 a1 w1,listed.toList.count false<=fuel->Inv P GL B ops s.M.hide st ld ops.size (Pn P GL B ops s.M.hide st ld ops.size) a9 φ {w with drawn:=w.drawn+1} a listed φ1 a1 w1->wpAnyIn (RO ro) 0 P .any ops Q fuel listed a1 w1:=by
  intro fuel;induction fuel with
  |zero=>
   intro listed φ1 a1 w1 hc I
   have a6:∀j,j<ops.size->listed.getD j false=true:=fun j hj=>by
    have b5:j<listed.size:=by rw[I.size];exact hj
    have h0:listed.toList.count false=0:=by omega
    have:=List.count_eq_zero.1 h0;cases hb:listed[j]
    ·exact absurd (by rw[<-hb];simp) this
    ·simp [b5,hb]
   refine⟨?_,b8 listed φ1 a1 w1 a6 I⟩
   rw[List.eq_nil_iff_forall_not_mem]
   intro j hj
   obtain⟨h1,o,ho,_⟩:=mem_ready.1 hj
   have b9:=(Array.getElem?_eq_some_iff.1 ho).1
   have b5:j<listed.size:=by rw[I.size];exact b9
   have h2:=a6 j b9
   simp [b5] at h1 h2
   rw[h1] at h2;cases h2
  |succ fuel ih=>
   intro listed φ1 a1 w1 hc I
   refine⟨fun hr=>b8 listed φ1 a1 w1 (fun j hj=>xD b0 I.size hr (j+1) j (by omega) hj) I,fun i hi=>?_⟩
   refine I.step (Nat.le_refl _) (by obtain⟨_,o,ho,_⟩:=mem_ready.1 hi;exact(Array.getElem?_eq_some_iff.1 ho).1) hN hC hA b0 R a7 a8 (fun t ht=>ht) c3 hi fun φ2 a2 w2 I2=>ih _ φ2 a2 w2 ?_ I2
   obtain⟨h1,o,ho,_⟩:=mem_ready.1 hi
   have hi':=(Array.getElem?_eq_some_iff.1 ho).1
   have c4:i<listed.size:=by rw[I.size];exact hi'
   have:=yX (l:=listed.toList) (i:=i) (by simpa [c4] using h1)
   simp only [Array.toList_setIfInBounds]
   omega
 refine wpIn_region_any hm (go ops.size (Array.replicate ops.size false) φ a _ (by simp) ?_)
 have b7:∀j,(Array.replicate ops.size false).getD j false=false:=fun j=>by
  by_cases hj:j<ops.size<;>simp [hj]
 refine⟨by simp,fun k o hD=>(by rw[b7] at hD;cases hD),by rw[a0];exact hT.1,fun t v hs=>?_,⟨0,Gi (st:=st) (ld:=ld) (h0:=s.M.hide) (N:=ops.size) b7 ?_⟩,fun j hj _ id h1 h2=>?_,fun _ _=>rfl,Fr.refl _ _ _ _,fun id e h1 h2 he=>?_,rfl⟩
 ·rcases hs with⟨j,_,hD,_⟩|⟨_,hv⟩
  ·rw[b7] at hD;cases hD
  ·rw[a0] at hv;exact hT.2 t v hv
 ·refine(hR.same b4).sub (fun id b hb=>?_) a7;obtain⟨a1,a2,a3,a4⟩:=fX.1 hb;rw[a0] at a1 a4;exact bN.2 ⟨a1,a3,a4⟩
 ·refine hG id ?_ ?_
  ·rw[<-a0];exact Nat.le_trans (R.mono hA 0 j (Nat.zero_le _) (by omega)) h1
  ·rw[<-a5];exact xAf h2 (R.mono hA (j+1) ops.size (by omega) (Nat.le_refl _))
 ·rw[hG id (by rw[<-a0];exact h1) (by rw[<-a5];exact h2)] at he;cases he
theorem Rp(hN:eJ P)(hm:P.follows .mixedOrders=true)(hC:kC P GL B callF)(hA:bW callF){id:Nat}{s s':St}{φ:dX}{a:Act}{w:World}(hl:kY ops=true)
  (h:pZ P GL callF ops (bK ops.toList []) ops.toList 0 [] s=some s') (hR:hI P GL B φ s.M w) (hG:jP φ s.M s'.M) (hT:gO φ s.T s.n a.tmps) {Q:Exit->Act->World->Prop}
  (hk:∀L φ' a' w',s'.M.log=L++s.M.log->Post P GL B φ φ' s.M s'.M L w w'->gO φ' s'.T s'.n a'.tmps->a'.defers=a.defers->Q .normal a' w'):(Code.region id ops true).wpIn (RO ro) 0 P Q a w:=by
 obtain⟨st,ld,e1,_,e3,e4⟩:=tG (P:=P) (GL:=GL) (ops:=ops) (S:=fun _ _=>False) hA ops.toList 0 [] s s' (fun _=>s) (fun _=>0) (fun j=>by simp) h rfl (fun d hd=>by cases hd) (fun m hm=>absurd hm (Nat.not_lt_zero _))
 have a0:st 0=s:=e1 0 (Nat.le_refl _)
 exact Oj hN hm hC hA hl a0 (by simpa using e3) ⟨fun j hj=>e4 j (Nat.zero_le _) (by simpa using hj),by rw[a0]⟩ (fun t a h=>h.elim) hR hG hT hk
theorem sU.still(hA:bW callF)(R:sU P GL callF ops before h0 S st ld N){b:Nat}(hb:b<(st 0).M.next)(hn:b∉(st N).M.log):∀k,k<=N->(st k).M.blks.get b=(st 0).M.blks.get b
 |0,_=>rfl
 |k+1,hk=>by
  rw[<-R.still hA hb hn k (by omega)];obtain⟨L,hL,_⟩:=R.abs hA k hk;refine hL.keep b (xAf hb (R.mono hA 0 k (by omega) (by omega))) fun hm=>hn ?_
  obtain⟨A,a0,_⟩:=R.log hA (k+1) N hk (Nat.le_refl _);rw[a0,hL.log];simp [hm]
theorem zZ{off n b:Nat}:∀{W:List (Nat×Nat×Nat)},yP off n b W=true->∀e∈W,e.1≠b\/e.2.1+e.2.2<=off\/off+n<=e.2.1
 | [],_,_,h=>by cases h
 |(b',o',n')::W,h,e,he=>by
  simp only [yP,Bool.and_eq_true,Bool.or_eq_true,Bool.not_eq_true',Nat.ble_eq] at h;rcases List.mem_cons.1 he with rfl|he
  ·rcases h.1 with(h|h)|h
   ·exact .inl (Nat.ne_of_beq_eq_false h)
   ·exact .inr (.inl h)
   ·exact .inr (.inr h)
  ·exact zZ h.2 e he
theorem zY{W:List (Nat×Nat×Nat)}:∀{S:List (TypeId×Addr)},yO P S W=true->∀t a,(t,a)∈S->yP a.off (Dh P t) a.block W=true
 | [],_,_,_,h=>by cases h
 |(t',a')::S,h,t,a,ht=>by
  simp only [yO,Bool.and_eq_true] at h;rcases List.mem_cons.1 ht with h1|h1
  ·cases h1;exact h.1
  ·exact zY h.2 t a h1
theorem sU.at_step(hA:bW callF)(R:sU P GL callF ops before h0 S st ld N){W:List (Nat×Nat×Nat)}{j:Nat}(hj:j<N)(hw:ld j<=1\/∃o,ops[j]?=some o/\fZ o=true/\∀e∈yE GL o (st j).T,e∈W)
  {b off n:Nat} (hb:b<(st j).M.next) (a7:yP off n b W=true):jQ off n ((st j).M.blks.get b) ((st (j+1)).M.blks.get b)/\jQ off n ((st (j+1)).M.blks.get b) ((st j).M.blks.get b):=by
 have same:(st (j+1)).M.blks.get b=(st j).M.blks.get b->jQ off n ((st j).M.blks.get b) ((st (j+1)).M.blks.get b)/\jQ off n ((st (j+1)).M.blks.get b) ((st j).M.blks.get b):=fun h=>by
  rw[h];exact⟨jQ.refl _ _ _,jQ.refl _ _ _⟩
 obtain⟨L,hL,hq,_⟩:=R.abs hA j hj
 rcases Nat.lt_or_ge 1 (ld j) with hl|hl
 ·obtain⟨o,ho,b3,a8⟩:=hw.resolve_left (by omega);obtain⟨_,o',d,a5,_,a1⟩:=R.steps j hj;rw[ho] at a5;cases a5;rcases a1 with⟨_,_,hz⟩|⟨_,r,M',H,hop,hput,_⟩|⟨_,_,_,_,_,_,_,_,_,_,hz,_⟩
  ·omega
  ·obtain⟨t,x,y,a,v,b2,hx,hy,hs,_,_⟩:=Iy b3 hop;have a4:(st (j+1)).M.blks=M'.blks:=by rw[fN hput]
   by_cases hab:b=a.block
   ·have a9:(a.block,a.off,v.cells.toList.length)∈W:=a8 _ (by unfold yE;rw[b2];simp only [hx,hy];simp);have a2:=(zZ a7 _ a9).resolve_left (fun h=>h hab.symm);unfold eB at hs;split at hs<;>(try cases hs;done);rename_i b0 i hg hi;obtain⟨_,hs⟩:=tO hs;cases hs;have g1:(st j).M.blks.get b=some b0:=by rw[hab];exact(cB.1 hg).2.2.1
    have g2:(st (j+1)).M.blks.get b=some {b0 with cs:=splice b0.cs a.off v.cells.toList}:=by
     rw[a4,hab];show(Tr.set _ _ _).get _=_;rw[Tr.get_set,if_pos rfl]
    have a0:∀k,k<n->(splice b0.cs a.off v.cells.toList)[off+k]?=b0.cs[off+k]?:=fun k hk=>wW (by simp only at a2;omega)
    rw[g1,g2];exact⟨fun c hc=>⟨_,rfl,by cases hc;rfl,fun k hk=>by cases hc;exact a0 k hk⟩,fun c hc=>⟨_,rfl,by cases hc;rfl,fun k hk=>by cases hc;exact(a0 k hk).symm⟩⟩
   ·refine same ?_;obtain⟨b1,b',_,a6,_⟩:=kF hs;rw[a4,a6];show(Tr.set _ _ _).get _=_;rw[Tr.get_set,if_neg hab]
  ·omega
 ·have a3:=hq hl;subst a3;exact same (hL.keep b hb (by simp))
theorem Ml(hN:eJ P)(hm:P.follows .mixedOrders=true)(hC:kC P GL B callF)(hA:bW callF){id:Nat}{sl:List Nat}{s s':St}{φ:dX}{a:Act}{w:World}(hl:kY ops=true)
  (h:xC P GL callF ops sl s=some s') (hR:hI P GL B φ s.M w) (hG:jP φ s.M s'.M) (hT:gO φ s.T s.n a.tmps) {Q:Exit->Act->World->Prop}
  (hk:∀L φ' a' w',s'.M.log=L++s.M.log->Post P GL B φ φ' s.M s'.M L w w'->gO φ' s'.T s'.n a'.tmps->a'.defers=a.defers->Q .normal a' w'):(Code.region id ops true).wpIn (RO ro) 0 P Q a w:=by
 unfold xC at h
 split at h
 ·rename_i s1 S W h1;cases hp:yO P S W<;>simp only [hp,cond_true,cond_false] at h
  ·cases h
  ·simp only [Option.some.injEq] at h;subst h;obtain⟨g1,_,_,st,ld,e1,_,e3,e4⟩:=oD (P:=P) (GL:=GL) (ops:=ops) hA ops.toList 0 [] [] [] (fK s) s1 (fun _=>fK s) (fun _=>0) (fun j _=>by simp) h1 rfl (fun d hd=>by cases hd) (fun m hm=>absurd hm (Nat.not_lt_zero _));have a0:st 0=fK s:=e1 0 (Nat.le_refl _);have a2:st ops.size=s1:=by simpa using e3
   have R:sU P GL callF ops (bK ops.toList []) (fK s).M.hide (fun t a=>(t,a)∈S) st ld ops.size:=⟨fun j hj=>(e4 j (Nat.zero_le _) (by simpa using hj)).1,by rw[a0]⟩;have a1:Je P (fun t a=>(t,a)∈S) st ops.size:=fun t a ha=>by
    have a4:a.block<(st 0).M.next:=by
     rw[a0];rcases g1 _ ha with h|h
     ·cases h
     ·exact h
    have a5:=zY hp t a ha;have a3:∀k,k<=ops.size->jQ a.off (Dh P t) ((st 0).M.blks.get a.block) ((st k).M.blks.get a.block)/\jQ a.off (Dh P t) ((st k).M.blks.get a.block) ((st 0).M.blks.get a.block):=by
     intro k;induction k with
     |zero=>intro _;exact⟨jQ.refl _ _ _,jQ.refl _ _ _⟩
     |succ k ih=>
      intro hk
      obtain⟨i1,i2⟩:=ih (by omega)
      obtain⟨j1,j2⟩:=R.at_step hA (j:=k) (by omega) (e4 k (Nat.zero_le _) (by simp;omega)).2 (xAf a4 (R.mono hA 0 k (Nat.zero_le _) (by omega))) a5
      exact⟨i1.trans j1,j2.trans i2⟩
    exact⟨a4,fun k k' hk hk'=>(a3 k hk).2.trans (a3 k' hk').1⟩
   refine Oj (s:=fK s) (s':=s1) hN hm hC hA hl a0 a2 R a1 (hI.congr (M1:=s.M) (M2:=(fK s).M) (fun _=>rfl) rfl hR) hG hT fun L φ' a' w' q1 q2 q3 q4=>?_
   refine hk L φ' a' w' ?_ (Post.congr (M1:=(fK s).M) (M2:=s.M) (M1':=s1.M) rfl (fun _=>rfl) rfl q2) q3 q4;show s1.M.log++s.M.log=L++s.M.log;rw[q1];show(L++ [])++s.M.log=_;simp
 ·cases h
theorem Mk(hN:eJ P)(hm:P.follows .mixedOrders=true)(hC:kC P GL B callF)(hA:bW callF){id:Nat}{s s':St}{φ:dX}{a:Act}{w:World}(hl:kY ops=true)
  (h:rW P GL callF ops s=some s') (hR:hI P GL B φ s.M w) (hG:jP φ s.M s'.M) (hT:gO φ s.T s.n a.tmps) {Q:Exit->Act->World->Prop}
  (hk:∀L φ' a' w',s'.M.log=L++s.M.log->Post P GL B φ φ' s.M s'.M L w w'->gO φ' s'.T s'.n a'.tmps->a'.defers=a.defers->Q .normal a' w'):(Code.region id ops true).wpIn (RO ro) 0 P Q a w:=by
 unfold rW at h
 split at h
 ·exact Rp hN hm hC hA hl h hR hG hT hk
 ·split at h
  ·rename_i s1 S h1;cases hp:bZ S s1.M.log<;>simp only [hp,cond_true,cond_false] at h
   ·exact Ml hN hm hC hA hl h hR hG hT hk
   ·simp only [Option.some.injEq] at h;subst h;obtain⟨g1,_,st,ld,e1,_,e3,e4⟩:=mB (P:=P) (GL:=GL) (ops:=ops) hA ops.toList 0 [] [] (fK s) s1 (fun _=>fK s) (fun _=>0) (fun j _=>by simp) h1 rfl (fun d hd=>by cases hd) (fun m hm=>absurd hm (Nat.not_lt_zero _));have a0:st 0=fK s:=e1 0 (Nat.le_refl _);have a1:st ops.size=s1:=by simpa using e3
    have R:sU P GL callF ops (bK ops.toList []) (fK s).M.hide (fun _ a=>a.block∈S) st ld ops.size:=⟨fun j hj=>e4 j (Nat.zero_le _) (by simpa using hj),by rw[a0]⟩;refine Oj (s:=fK s) (s':=s1) hN hm hC hA hl a0 a1 R (Je.of_block fun b hb=>?_) (hI.congr (M1:=s.M) (M2:=(fK s).M) (fun _=>rfl) rfl hR) hG hT fun L φ' a' w' q1 q2 q3 q4=>?_
    ·have a2:b<(st 0).M.next:=by
      rw[a0];rcases g1 b hb with h|h
      ·cases h
      ·exact h
     exact⟨a2,R.still hA a2 (by rw[a1];exact tJ hp b hb)⟩
    ·refine hk L φ' a' w' ?_ (Post.congr (M1:=(fK s).M) (M2:=s.M) (M1':=s1.M) rfl (fun _=>rfl) rfl q2) q3 q4;show s1.M.log++s.M.log=L++s.M.log;rw[q1];show(L++ [])++s.M.log=_;simp
  ·cases h
end Go.Am
end

noncomputable section
namespace Go.Am
open Go
variable{ro:Option Nat}
variable{P:Program}{GL:List Nat}{B:Bd}{callF:dD}{ops:Array Oper}{before:List Nat}{h0:List (Nat×Nat)}{S:TypeId->Addr->Prop}{st:Nat->St}{ld:Nat->Nat}{N:Nat}
theorem xL{d:Nat}:∀{l:List Oper} {i:Nat},uL d l i=true->∀(j:Nat) (o:Oper),l[j]?=some o->d.testBit (i+j)=true\/tQ o=true
 | [],_,_,_,_,h=>by simp at h
 |x::l,i,hc,j,o,h=>by
  simp only [uL,Bool.and_eq_true,Bool.or_eq_true] at hc;cases j with
  |zero=>simp at h;subst h;exact hc.1
  |succ j=>
   have:=xL hc.2 j o (by simpa using h)
   rwa [show i+1+j=i+(j+1) by omega] at this
theorem Sb{o:Oper}{T:Tr Value}{M M':aB}{k:Nat}{r:AR}(hc:tQ o=true)(h:jY P GL callF o T M=some (k,r,M')):
  k=0\/∃t x y a v,o.op= .store t x y/\ev GL T x=some (.pointer (some a))/\ev GL T y=some v/\eB P t a v M=some M'/\k=2/\r= .skip:=by
 obtain⟨dst,op,type,pos,after,guard⟩:=o
 unfold jY at h
 split at h
 ·simp at h;exact .inl h.1.symm
 ·replace h:fM P GL callF {dst:=dst,op:=op,type:=type,pos:=pos,after:=after,guard:=guard} T M=some (k,r,M'):=by
   split at h
   ·cases h
   ·exact h
  cases op<;>simp [tQ] at hc<;>simp only [fM] at h<;>try (cases h;done)
  right;split at h<;>try (simp at h;done)
  rename_i a v hx hy;split at h<;>try (simp at h;done)
  rename_i M1 hs;simp at h;obtain⟨rfl,rfl,rfl⟩:=h;exact⟨_,_,_,a,v,rfl,hx,hy,hs,rfl,rfl⟩
section mem
variable{listed:Array Bool}{φ φ':dX}{w w':World}{m i:Nat}
theorem old4{o:Oper}{k:Nat}(hnl:mI ops=false){q:Prop}(h:q\/(ld k=1/\ld i=1)\/wX ops o ld k i):q\/(ld k=1/\ld i=1):=by
 rcases h with h|h|h
 ·exact .inl h
 ·exact .inr h
 ·have:=h.1;rw[hnl] at this;cases this
theorem Nt(c6:mI ops=false)(hA:bW callF)(R:sU P GL callF ops before h0 S st ld N)(a8:m<=N)(a5:∀j,j<N->listed.getD j false=true->ld j≠0->j<m)(a4:∀j,j<m->listed.getD j false=false->ld j<=1)
  (hi:i<N) (b9:listed.getD i false=false)
  {deps:Nat} (a0:∀j,deps.testBit j=true->listed.getD j false=true) (a7:∀j,j<N->listed.getD j false=true->∀d,before[j]?=some d->∀k,d.testBit k=true->listed.getD k false=true)
  {H:List (Nat×Nat)} (h1:∀k,k<i->ld k≠0->deps.testBit k=false->∀id,(st k).M.next<=id->id<(st (k+1)).M.next->bD H id=true)
  (h4:∀k,k<i->ld k≠0->ld i≠0->deps.testBit k=true\/(ld k=1/\ld i=1)) (b7:ld i≠0):
  ∀id b,({(st i).M with hide:=H++h0}:aB).getA id=some b->(VS st ld h0 m listed).getA id=some b:=by
 have q1:∀k,m<=k->k<i->ld k<=1:=fun k a b=>by
  rcases Nat.lt_or_ge 1 (ld k) with h|h
  ·rcases h4 k b (by omega) b7 with h5|h5
   ·have:=a5 k (by omega) (a0 k h5) (by omega);omega
   ·omega
  ·exact h
 have q2:∀k,i<k->k<m->ld k<=1:=fun k a b=>by
  rcases Nat.lt_or_ge 1 (ld k) with h|h
  ·have b6:k<N:=xAf b a8;cases hk:listed.getD k false
   ·have:=a4 k b hk;omega
   ·obtain⟨_,o,d,_,hb,a6⟩:=R.steps k b6;rcases a6 with⟨_,_,hz⟩|⟨_,r,M',H',_,_,_,_,_,h7⟩|⟨_,_,_,_,_,_,_,_,_,_,hz,_⟩
    ·omega
    ·rcases old4 c6 (h7 i a b7 (by omega)) with h8|h8
     ·have:=a7 k b6 hk d hb i h8;rw[b9] at this;cases this
     ·omega
    ·omega
  ·exact h
 intro id b hb
 obtain⟨a1,a2,a3⟩:=bN.1 hb
 simp only [iI,Bool.or_eq_false_iff] at a1 a2 a3
 have hid:id<(st i).M.next:=a1
 have b5:(st i).M.blks.get id=some b:=a3
 rw[fX]
 have b0:=R.owner i (by omega) hid
 have hm:id<(st m).M.next/\(id<(st 0).M.next\/∃j,j<m/\listed.getD j false=true/\(st j).M.next<=id/\id<(st (j+1)).M.next):=by
  rcases b0 with h|⟨j,b1,b2,b3⟩
  ·exact⟨xAf h (R.mono hA 0 m (by omega) a8),.inl h⟩
  ·have b8:=R.quiet hA (by omega) b2 b3;have a9:deps.testBit j=true:=by
    cases hb:deps.testBit j
    ·have:=h1 j b1 b8 hb id b2 b3;rw[a2.1] at this;cases this
    ·rfl
   have hD:=a0 j a9;have c0:=a5 j (by omega) hD b8;exact⟨xAf b3 (R.mono hA (j+1) m (by omega) a8),.inr ⟨j,c0,hD,b2,b3⟩⟩
 refine⟨hm.1,?_,a2.2,?_⟩
 ·rintro⟨j',c1,c2,c3,c4,c5⟩;rcases hm.2 with h|⟨j,b1,b2,b3,b4⟩
  ·have:=R.mono hA 0 j' (by omega) (by omega);omega
  ·have:=R.ranges hA (by omega) (by omega) c4 c5 b3 b4;subst this;rw[c2] at b2;cases b2
 ·rcases Nat.lt_or_ge i m with h|h
  ·rw[R.keep hA i m (by omega) a8 (fun k e1 e2=>by
    by_cases hki:k=i
    ·subst hki;exact a4 k e2 b9
    ·exact q2 k (by omega) e2) id hid]
   exact b5
  ·rw[<-R.keep hA m i h (by omega) q1 id hm.1];exact b5
def MF(P:Program)(GL:List Nat)(B:Bd)(h0:List (Nat×Nat))(st:Nat->St)(ld:Nat->Nat)(N bf:Nat)(c1:aR):Array Bool->dX->World->Prop:=fun listed φ w=>
 ∃m,m<=N/\(∀j,j<N->listed.getD j false=true->ld j≠0->j<m)/\(∀j,j<m->listed.getD j false=false->ld j<=1)/\hI P GL B φ ((VS st ld h0 m listed).put bf (some c1)) w
theorem vQ(hA:bW callF)(R:sU P GL callF ops before h0 S st ld N)(a1:m<=N){bf:Nat}(a0:bf<(st 0).M.next)(hh:bD h0 bf=false):bf<(VS st ld h0 m listed).next/\bD (VS st ld h0 m listed).hide bf=false:=by
 refine⟨xAf a0 (R.mono hA 0 m (Nat.zero_le _) a1),?_⟩;show bD (HS st ld m listed++h0) bf=false;rw[iI,hh,Bool.or_false];cases hq:bD (HS st ld m listed) bf
 ·rfl
 ·obtain⟨j,c1,_,_,c4,_⟩:=Gc.1 hq;have:=R.mono hA 0 j (Nat.zero_le _) (by omega);omega
end mem
section step
variable{Mm:Array Bool->dX->World->Prop}{Lall:List Nat}{φ0:dX}{w0:World}{a0:Act}{listed:Array Bool}{φ:dX}{a:Act}{w:World}{i:Nat}
theorem Inv.stepF(e0:mI ops=false){L0:List Nat}{bf:Nat}{c1:aR}(d8:N<=ops.size)(a9:i<N)(hN:eJ P)(hC:kC P GL B callF)(hA:bW callF)(a6:nI ops)(R:sU P GL callF ops (bK ops.toList []) h0 S st ld N)(b2:∀g∈GL,g<(st 0).M.next)
  (b6:(st N).M.log=L0++(st 0).M.log) (d1:∀t∈L0,t∈Lall) (d4:bf<(st 0).M.next) (b9:bD h0 bf=false) (f4:bf∉L0) (c0:∀o,ops[i]?=some o->tQ o=true)
  (I:Inv P GL B ops h0 st ld N (MF P GL B h0 st ld N bf c1) Lall φ0 w0 a0 listed φ a w) (hi:i∈Region.ready .any ops listed) {Q:Exit->Act->World->Prop} {K:Act->World->Prop}
  (hK:∀φ' a' w',Inv P GL B ops h0 st ld N (MF P GL B h0 st ld N bf c1) Lall φ0 w0 a0 (listed.setIfInBounds i true) φ' a' w'->K a' w'):wpOpIn (RO ro) 0 P ops Q i K a w:=by
 obtain⟨e2,o,ho,a5⟩:=mem_ready.1 hi
 have g0:i<ops.size:=(Array.getElem?_eq_some_iff.1 ho).1
 have e7:i<listed.size:=by rw[I.size];exact g0
 have d2:listed.getD i false=false:=by simpa [e7] using e2
 have d5:=c0 o ho
 have e6:o.guard=none:=by
  simp only [tQ,Bool.and_eq_true,Option.isNone_iff_eq_none] at d5;exact d5.1
 obtain⟨m,c8,b4,a7,b0⟩:=I.mem
 have hg:Ay GL φ:=fun g hgl=>(b0.glob g hgl).2
 have hT:gO φ (rL (st i).T (o.looksAt ops)) (st 0).n a.tmps:=⟨I.tsize,fun t v hv=>by
  rw[lY] at hv;by_cases hm:t∈o.looksAt ops
  ·rw[if_pos hm] at hv;exact I.slots t v (I.value d8 (Nat.le_of_lt a9) a6 R ho d2 a5 hm hv)
  ·rw[if_neg hm] at hv;cases hv⟩
 have d0:∀x∈o.op.operands,ev GL (st i).T x=ev GL (rL (st i).T (o.looksAt ops)) x:=fun x hx=>by
  cases x with
  |tmp t=>
   have:t∈o.looksAt ops:=List.mem_append_left _ (List.mem_filterMap.2 ⟨.tmp t,by simpa using hx,rfl⟩)
   simp only [ev,lY,if_pos this]
  |_=>rfl
 have g4:fB ops (rL (st i).T (o.looksAt ops)) o=some true:=by unfold fB;rw[e6]
 obtain⟨hh,o',deps,e8,hb,c5⟩:=R.steps i a9
 rw[ho] at e8;cases e8
 have hn:=R.nn i (by omega)
 unfold wpOpIn
 simp only [ho]
 rw[iG hT g4]
 simp only [if_true]
 have a8:∀j,(listed.setIfInBounds i true).getD j false=(decide (j=i)||listed.getD j false):=fun j=>iT e7
 have empty:ld i=0->¬ ∃id,(st i).M.next<=id/\id<(st (i+1)).M.next:=fun h0 ⟨id,h1,h2⟩=>R.quiet hA a9 h1 h2 h0
 rcases c5 with⟨hw,_⟩|⟨hw,r,M',H,hop,hput,h1,h2,h3,h4⟩|⟨hw,t,x,ad,v,H,hol,_⟩
 ·unfold fB at hw;rw[e6] at hw;cases hw
 ·by_cases hz:ld i=0
  ·rw[hz] at hop;have e3:=Jp hop;rw[vU d0] at e3;obtain⟨v,rfl,v',g2,g3⟩:=vV (w:=w) hg hT e3;refine On g2 ?_;refine hK φ _ w (I.next d8 a9 hA a6 R ho d2 a5 (φ':=φ) (w':=w) (Li:=[]) (dX.le_refl φ) ⟨m,c8,fun j hj hD d7=>?_,fun j hj hD=>?_,b0.sub (fun id b hb=>?_) fun g hg=>(b0.glob g hg).1⟩ (fun _ _=>rfl) (Fr.refl _ _ _ _) (fun t ht=>by cases ht) (fun id e a b=>absurd ⟨id,a,b⟩ (empty hz)) fun d hd=>?_)
   ·rw[a8] at hD;rcases Bool.or_eq_true _ _▸hD with h|h
    ·have:j=i:=by simpa using h
     subst this;omega
    ·exact b4 j hj h d7
   ·rw[a8] at hD;simp only [Bool.or_eq_false_iff,decide_eq_false_iff_not] at hD;exact a7 j hj hD.2
   ·obtain⟨u1,u2⟩:=vQ (listed:=listed.setIfInBounds i true) (m:=m) hA R c8 d4 b9;obtain⟨u3,u4⟩:=vQ (listed:=listed) (m:=m) hA R c8 d4 b9;rw[lM u1 u2] at hb;rw[lM u3 u4];by_cases hid:id=bf
    ·rw[if_pos hid] at hb⊢;exact hb
    ·rw[if_neg hid] at hb⊢;obtain⟨a1,a2,a3,a4⟩:=fX.1 hb;refine fX.2 ⟨a1,?_,a3,a4⟩;rintro⟨j,c1,c2,c3,c4⟩;have f8:j≠i:=fun x=>c3 (by rw[x];exact hz)
     exact a2 ⟨j,c1,by rw[a8,c2];simp [f8],c3,c4⟩
   ·obtain⟨q1,q2⟩:=(nV hput).2.2 d hd;exact⟨by rw[<-hn];exact q1,_,q2,g3⟩
  ·rcases Sb d5 hop with h|⟨t,x,y,ad,v,hos,hx,hy,hst,g5,rfl⟩
   ·exact absurd h hz
   replace h4:∀k,k<i->ld k≠0->ld i≠0->deps.testBit k=true\/(ld k=1/\ld i=1):=fun k a b c=>old4 e0 (h4 k a b c)
   have hH:H=[]:=(h2 (by omega)).resolve_right fun x=>by have:=x.1;rw[e0] at this;cases this
   subst hH;have b1:=oL a6 I.closed (i+1) i (by omega) o ho a5 deps hb;have c6:∀j,j<N->listed.getD j false=true->∀d,(bK ops.toList [])[j]?=some d->∀k,d.testBit k=true->listed.getD k false=true:=fun j hj hD d hd=>
    oL a6 I.closed (j+1) j (by omega) (ops[j]'(by omega)) (by simp [show j<ops.size by omega]) (I.closed j _ hD (by simp [show j<ops.size by omega])) d hd
   have f7:=Nt e0 hA R c8 b4 a7 a9 d2 b1 c6 h1 h4 hz;obtain⟨b,b',d6,d3,d9⟩:=kF hst;have hM:(st (i+1)).M={M' with hide:=h0}:=fN hput;have f0:(st (i+1)).M.log=ad.block::(st i).M.log:=by rw[hM,d3];rfl
   have hMn:(st (i+1)).M.next=(st i).M.next:=by rw[hM,d3];rfl
   have b7:ad.block∈L0:=by
    obtain⟨A,e4,_⟩:=R.log hA (i+1) N (by omega) (Nat.le_refl _);obtain⟨C,e9,_⟩:=R.log hA 0 i (by omega) (by omega);rw[f0,e9,b6,show ad.block::(C++(st 0).M.log)=(ad.block::C)++(st 0).M.log from rfl,<-List.append_assoc] at e4;have:=List.append_cancel_right e4;rw[this];simp
   have d7:ad.block≠bf:=fun h=>f4 (h▸b7)
   have f6:(st 0).M.next<=(st i).M.next:=R.mono hA 0 i (by omega) (by omega);have f2:bf<(st i).M.next:=by omega
   let M1:aB:={(st i).M with hide:=h0}
   let M2:aB:=M1.put bf (some c1)
   have b3:∀id,M2.getA id=if id=bf then some c1 else M1.getA id:=fun id=>lM (M:=M1) f2 b9 id
   have c7:M2.get ad.block=some b:=zD (by rw[b3,if_neg d7];exact gP d6) (zC d6);have e1:=d9 M2 c7;obtain⟨u3,u4⟩:=vQ (listed:=listed) (m:=m) hA R c8 d4 b9;have f1:hI P GL B φ M2 w:=b0.sub (fun id c hc=>by
    rw[b3] at hc;rw[lM u3 u4];by_cases hid:id=bf
    ·rw[if_pos hid] at hc⊢;exact hc
    ·rw[if_neg hid] at hc⊢;exact f7 id c hc) fun g hg=>xAf (b2 g hg) f6
   have c9:jY P GL callF o (st i).T M2=some (2,.skip,M2.put ad.block (some b')):=zP hos hx hy e1;rw[uI d0] at c9;have hnx:(M2.put ad.block (some b')).next=M2.next:=rfl;refine Cc hN hC f1 (fun id a1 a2=>absurd a1 (by omega)) hT c9 fun L φ' v' w' hlog hp hr=>?_
   have hL:L=[ad.block]:=List.append_cancel_right (bs:=M2.log) (by rw[<-hlog];rfl);subst hL;have hφ:φ'=φ:=funext fun id=>hp.ext id (by omega)
   subst hφ;refine hK φ' _ w' (I.next d8 a9 hA a6 R ho d2 a5 (φ':=φ') (w':=w') (Li:=[ad.block]) (dX.le_refl φ') ⟨i+1,a9,fun j hj hD hne'=>?_,fun j hj hD=>?_,hp.rel.sub (fun id c hc=>?_) fun g hg=>?_⟩ (fun _ _=>rfl) hp.fr
    (fun t ht=>by simp at ht;subst ht;exact d1 _ b7) (fun id e a1 a2=>by omega) fun d hd=>?_)
   ·rw[a8] at hD;rcases Bool.or_eq_true _ _▸hD with h|h
    ·have:j=i:=by simpa using h
     omega
    ·have:=b4 j hj h hne';have hmi:m<=i:=by
      rcases Nat.lt_or_ge i m with h|h
      ·have:=a7 i h d2;omega
      ·exact h
     omega
   ·rw[a8] at hD;simp only [Bool.or_eq_false_iff,decide_eq_false_iff_not] at hD;rcases Nat.eq_zero_or_pos (ld j) with hz'|hz'
    ·omega
    ·rcases h4 j (by omega) (by omega) hz with h5|h5
     ·have:=b1 j h5;rw[hD.2] at this;cases this
     ·omega
   ·obtain⟨u1,u2⟩:=vQ (listed:=listed.setIfInBounds i true) (m:=i+1) hA R a9 d4 b9;rw[lM u1 u2] at hc;have b8:ad.block<M2.next/\bD M2.hide ad.block=false:=by
     obtain⟨k1,k2,_⟩:=bN.1 (gP c7);exact⟨k1,k2⟩
    rw[lM b8.1 b8.2,b3];by_cases hid:id=bf
    ·rw[if_pos hid] at hc;rw[if_neg (fun h=>d7 (h.symm.trans hid)),if_pos hid];exact hc
    ·rw[if_neg hid] at hc;obtain⟨a1,a2,a3,a4⟩:=fX.1 hc;have f5:({M' with hide:=h0}:aB).getA id=some c:=by
      rw[<-hM];exact bN.2 ⟨a1,by rw[hM];exact a3,a4⟩
     have b5:M'.getA id=some c:=by
      obtain⟨k1,k2,k3⟩:=bN.1 f5;exact bN.2 ⟨k1,by rw[d3];exact k2,k3⟩
     have g1:((M1.put ad.block (some b')).getA id)=if id=ad.block then some b' else M1.getA id:=lM (M:=M1) (b:=ad.block) (by obtain⟨k1,_,_⟩:=bN.1 (gP d6);exact k1) (by obtain⟨_,k2,_⟩:=bN.1 (gP d6);exact k2) id
     have e5:(M1.put ad.block (some b')).getA id=some c:=by rw[d3] at b5;exact b5
     rw[g1] at e5;replace b5:=e5;by_cases hia:id=ad.block
     ·rw[if_pos hia] at b5⊢;exact b5
     ·rw[if_neg hia] at b5⊢;rw[if_neg hid];exact b5
   ·show g<(st (i+1)).M.next;exact xAf (b2 g hg) (R.mono hA 0 (i+1) (by omega) a9)
   ·obtain⟨p1,p2⟩:=(nV hput).2.2 d hd;refine⟨by rw[<-hn];exact p1,_,p2,?_⟩;have:v'=undef:=hr;rw[this];exact bH.refl_flat φ' undef rfl
 ·simp [tQ,hol] at d5
theorem Inv.last(d2:mI ops=false){bf:Nat}{c1:aR}(hNs:N+1=ops.size)(hN:eJ P)(hC:kC P GL B callF)(hA:bW callF)(b6:nI ops)(R:sU P GL callF ops (bK ops.toList []) h0 S st ld N)(a9:∀g∈GL,g<(st 0).M.next)
  {f:Oper} (hf:ops[N]?=some f) (c9:f.guard=none) (b5:f.dst=none) {t:TypeId} {x y:Operand} {ad:Addr} {v:Value} (d0:f.op= .store t x y) (hx:ev GL (st N).T x=some (.pointer (some ad))) (hy:ev GL (st N).T y=some v)
  (c6:ad.block=bf) (d4:eB P t ad v (st N).M=some ((st N).M.put bf (some c1))) (a7:∀k,k<=N->(st k).M.blks.get bf=(st 0).M.blks.get bf) (b4:bf<(st 0).M.next) (c2:bD h0 bf=false) (c7:bf∈Lall)
  (b8:∀M2 b,(st N).M.get bf=some b->M2.get bf=some b->eB P t ad v M2=some (M2.put bf (some c1)))
  (I:Inv P GL B ops h0 st ld N (Pn P GL B ops h0 st ld N) Lall φ0 w0 a0 listed φ a w) (hi:N∈Region.ready .any ops listed) {Q:Exit->Act->World->Prop} {K:Act->World->Prop}
  (hK:∀φ' a' w',Inv P GL B ops h0 st ld N (MF P GL B h0 st ld N bf c1) Lall φ0 w0 a0 (listed.setIfInBounds N true) φ' a' w'->K a' w'):wpOpIn (RO ro) 0 P ops Q N K a w:=by
 obtain⟨c0,o,ho,a6⟩:=mem_ready.1 hi
 rw[hf] at ho
 obtain rfl:=Option.some.inj ho
 have d1:N<ops.size:=by omega
 have c3:N<listed.size:=by rw[I.size];exact d1
 have d5:listed.getD N false=false:=by simpa [c3] using c0
 obtain⟨m,V⟩:=I.mem
 have hT:gO φ (rL (st N).T (f.looksAt ops)) (st 0).n a.tmps:=⟨I.tsize,fun t v hv=>by
  rw[lY] at hv;by_cases hm:t∈f.looksAt ops
  ·rw[if_pos hm] at hv;exact I.slots t v (I.value (by omega) (Nat.le_refl _) b6 R hf d5 a6 hm hv)
  ·rw[if_neg hm] at hv;cases hv⟩
 have b7:∀x∈f.op.operands,ev GL (st N).T x=ev GL (rL (st N).T (f.looksAt ops)) x:=fun x hx=>by
  cases x with
  |tmp t=>
   have:t∈f.looksAt ops:=List.mem_append_left _ (List.mem_filterMap.2 ⟨.tmp t,by simpa using hx,rfl⟩)
   simp only [ev,lY,if_pos this]
  |_=>rfl
 have d6:fB ops (rL (st N).T (f.looksAt ops)) f=some true:=by unfold fB;rw[c9]
 unfold wpOpIn
 simp only [hf]
 rw[iG hT d6]
 simp only [if_true]
 obtain⟨u1,u2⟩:=vQ (listed:=listed) (m:=m) hA R V.le b4 c2
 obtain⟨b0,b1,b3,hM',hany⟩:=kF d4
 rw[c6] at b3
 have c8:(st N).M.blks.get bf=some b0:=(bN.1 (gP b3)).2.2
 have c4:(VS st ld h0 m listed).get bf=some b0:=zD (bN.2 ⟨u1,u2,by
  show(st m).M.blks.get bf=some b0;rw[a7 m V.le,<-a7 N (Nat.le_refl _)];exact c8⟩) (zC b3)
 have b9:=b8 _ b0 b3 c4
 have b2:jY P GL callF f (st N).T (VS st ld h0 m listed)=some (2,.skip,(VS st ld h0 m listed).put bf (some c1)):=zP d0 hx hy b9
 rw[uI b7] at b2
 have hnx:((VS st ld h0 m listed).put bf (some c1)).next=(VS st ld h0 m listed).next:=rfl
 have c5:hI P GL B φ (VS st ld h0 m listed) w:=V.sub (fun _ _ h=> .inl h) fun g hg=>xAf (a9 g hg) (R.mono hA 0 m (Nat.zero_le _) V.le)
 refine Cc hN hC c5 (fun id a1 a2=>absurd a1 (by omega)) hT b2 fun L φ' v' w' hlog hp hr=>?_
 have hL:L=[bf]:=List.append_cancel_right (bs:=(VS st ld h0 m listed).log) (by rw[<-hlog];rfl)
 subst hL
 have hφ:φ'=φ:=funext fun id=>hp.ext id (by omega)
 subst hφ
 have a8:∀j,(listed.setIfInBounds N true).getD j false=(decide (j=N)||listed.getD j false):=fun j=>iT c3
 have a5:∀j,j<N->(listed.setIfInBounds N true).getD j false=listed.getD j false:=fun j hj=>by
  rw[a8];simp [show¬j=N by omega]
 refine hK φ' _ w' ⟨by simp [I.size],fun k ok hD hok e he hb=>?_,by rw[b5];exact I.tsize,fun t v hs=>?_,⟨m,V.le,fun j hj hD hne=>(V.all j hj (by rw[<-a5 j hj];exact hD) hne).resolve_right (fun x=>by have:=x.1;rw[d2] at this;cases this),fun j hj hD=>V.loud j hj (by rw[<-a5 j (by have:=V.le;omega)];exact hD),hp.rel.sub (fun id c hc=>?_) fun g hg=>(hp.rel.glob g hg).1⟩,
  fun j hj hD id h1 h2=>I.fresh j hj (by rw[<-a5 j hj];exact hD) id h1 h2,I.ext,?_,fun id e h1 h2 he=>?_,?_⟩
 ·rw[a8] at hD;have hq:(listed.setIfInBounds N true).getD e.on false=(decide (e.on=N)||listed.getD e.on false):=a8 e.on;rcases Bool.or_eq_true _ _▸hD with h|h
  ·have:k=N:=by simpa using h
   subst this;rw[hf] at hok;cases hok;rw[hq,a6 e he hb];simp
  ·rw[hq,I.closed k ok h hok e he hb];simp
 ·have d3:Bj ops st N listed t v:=by
   rcases hs with⟨j,j1,j2,j3,j4,j5⟩|⟨j1,j2⟩
   ·exact .inl ⟨j,j1,by rw[<-a5 j j1];exact j2,j3,fun k hk hD hd=>j4 k hk (by rw[a5 k hk];exact hD) hd,j5⟩
   ·exact .inr ⟨fun k hk hD=>j1 k hk (by rw[a5 k hk];exact hD),j2⟩
  obtain⟨u,v1,v2⟩:=I.slots t v d3;exact⟨u,by rw[b5];exact v1,v2⟩
 ·obtain⟨u3,u4⟩:=vQ (listed:=listed.setIfInBounds N true) (m:=m) hA R V.le b4 c2;rw[lM u3 u4] at hc;rw[lM u1 u2];by_cases hid:id=bf
  ·rw[if_pos hid] at hc⊢;exact hc
  ·rw[if_neg hid] at hc⊢;obtain⟨a1,a2,a3,a4⟩:=fX.1 hc;refine fX.2 ⟨a1,?_,a3,a4⟩;rintro⟨j,k1,k2,k3⟩;exact a2 ⟨j,k1,by rw[a5 j (by have:=V.le;omega)];exact k2,k3⟩
 ·refine⟨hp.fr.os.trans I.fr.os,hp.fr.tape.trans I.fr.tape,hp.fr.output.trans I.fr.output,Nat.le_trans I.fr.size hp.fr.size,fun k hk=>?_⟩;rcases I.fr.block k hk with e1|h
  ·rcases hp.fr.block k (xAf hk I.fr.size) with e2|⟨hB,t,ht,e,he,hbe⟩
   ·exact .inl (e2.trans e1)
   ·simp at ht;subst ht;exact .inr ⟨hB,t,c7,e,by rw[<-I.ext t (.inl b4)];exact he,hbe⟩
  ·exact .inr h
 ·exact I.newb id e h1 h2 he
 ·rw[b5];exact I.defers
end step
theorem Wt(d7:mI ops=false)(hN:eJ P)(hm:P.follows .mixedOrders=true)(hC:kC P GL B callF)(hA:bW callF){id:Nat}{s:St}{φ:dX}{a:Act}{w:World}(hl:kY ops=true)(e2:N+1=ops.size)
  {bf:Nat} {c1:aR} {f:Oper} (hf:ops[N]?=some f) (e8:f.guard=none) (e7:f.dst=none) {t:TypeId} {x y:Operand} {ad:Addr} {v:Value} (e9:f.op= .store t x y) (hx:ev GL (st N).T x=some (.pointer (some ad))) (hy:ev GL (st N).T y=some v)
  (d3:ad.block=bf) (d8:eB P t ad v (st N).M=some ((st N).M.put bf (some c1))) (e5:bf<s.M.next)
  (c9:∀M2 b,(st N).M.get bf=some b->M2.get bf=some b->eB P t ad v M2=some (M2.put bf (some c1)))
  {d:Nat} (hd:(bK ops.toList [])[N]?=some d) (b9:∀i o,i<N->ops[i]?=some o->d.testBit i=true\/tQ o=true)
  {L0:List Nat} (a8:(st N).M.log=L0++s.M.log) (e6:bf∉L0)
  (a0:st 0=s) (R:sU P GL callF ops (bK ops.toList []) s.M.hide S st ld N) (e3:Je P S st N) (b7:∀k,k<=N->(st k).M.blks.get bf=(st 0).M.blks.get bf)
  (hR:hI P GL B φ s.M w) (hG:jP φ s.M (st N).M) (hT:gO φ s.T s.n a.tmps) {Q:Exit->Act->World->Prop}
  (hk:∀L φ' a' w',((st N).M.put bf (some c1)).log=L++s.M.log->Post P GL B φ φ' s.M ((st N).M.put bf (some c1)) L w w'->gO φ' (st N).T (st N).n a'.tmps->a'.defers=a.defers->Q .normal a' w'):(Code.region id ops true).wpIn (RO ro) 0 P Q a w:=by
 have a7:=Ai hl
 have a5:∀g∈GL,g<(st 0).M.next:=fun g hg=>by rw[a0];exact(hR.glob g hg).1
 have c6:nJ w {w with drawn:=w.drawn+1}:=⟨rfl,rfl,rfl,rfl⟩
 have b4:bf<(st 0).M.next:=by rw[a0];exact e5
 obtain⟨b0,_,c8,_,_⟩:=kF d8
 rw[d3] at c8
 have c7:bD s.M.hide bf=false:=by
  rw[<-R.hide N (Nat.le_refl _)];exact(cB.1 c8).2.1
 have e1:∀t∈L0,t<(st N).M.next:=by
  obtain⟨A,d2,e0⟩:=R.log hA 0 N (Nat.zero_le _) (Nat.le_refl _);rw[a8,a0] at d2;have:=List.append_cancel_right d2;rw[this];exact e0
 have a9:(st N).M.log=L0++(st 0).M.log:=by rw[a0];exact a8
 have d4:bf<(st N).M.next:=(cB.1 c8).1
 have d1:∀(listed:Array Bool) φ1 a1 w1,(∀j,j<N->listed.getD j false=true)->Inv P GL B ops s.M.hide st ld N (MF P GL B s.M.hide st ld N bf c1) (bf::L0) φ {w with drawn:=w.drawn+1} a listed φ1 a1 w1->Q .normal a1 w1:=fun listed φ1 a1 w1 a6 I=>by
  obtain⟨m,d6,e4,hlo,d0⟩:=I.mem;have c4:(st N).M=(st m).M:=R.pure hA m N d6 (Nat.le_refl _) fun k h1 h2=>by
   rcases Nat.eq_zero_or_pos (ld k) with hz|hz
   ·exact hz
   ·have:=e4 k h2 (a6 k h2) (by omega);omega
  have c5:hI P GL B φ1 ((st N).M.put bf (some c1)) w1:=by
   refine d0.sub (fun id b hb=>?_) fun g hg=>xAf (a5 g hg) (R.mono hA 0 N (Nat.zero_le _) (Nat.le_refl _))
   obtain⟨u1,u2⟩:=vQ (listed:=listed) (m:=m) hA R d6 b4 c7;rw[lM d4 (by rw[R.hide N (Nat.le_refl _)];exact c7)] at hb;rw[lM u1 u2];by_cases hid:id=bf
   ·rw[if_pos hid] at hb⊢;exact hb
   ·rw[if_neg hid] at hb⊢;obtain⟨b1,b2,b3⟩:=bN.1 hb;rw[c4] at b1 b3;refine fX.2 ⟨b1,?_,?_,b3⟩
    ·rintro⟨j,c1,c2,_⟩;rw[a6 j (by omega)] at c2;cases c2
    ·rw[<-R.hide N (Nat.le_refl _)];exact b2
  have hn:=R.nn N (Nat.le_refl _);refine hk (bf::L0) φ1 a1 w1 (by show bf::(st N).M.log=_;rw[a8];rfl) ⟨fun id hid=>?_,?_,c5,⟨I.fr.os,I.fr.tape,I.fr.output,I.fr.size,I.fr.block⟩,fun id e h1 h2 he=>?_,fun t ht=>?_⟩ ⟨?_,fun t v hv=>?_⟩ I.defers
  ·exact I.ext id (by rw[a0];exact hid)
  ·rw[<-a0];exact R.mono hA 0 N (Nat.zero_le _) (Nat.le_refl _)
  ·exact I.newb id e (by rw[a0];exact h1) h2 he
  ·show t<(st N).M.next;rcases List.mem_cons.1 ht with rfl|ht
   ·exact d4
   ·exact e1 t ht
  ·rw[I.tsize,<-hn]
  ·refine I.slots t v ?_;rcases R.last t N (Nat.le_refl _) with⟨j,j1,j2,j3,j4⟩|⟨j1,j2⟩
   ·exact .inl ⟨j,j1,a6 j j1,j2,fun k hk _ hd=>by
     rcases Nat.lt_or_ge j k with h|h
     ·exact absurd hd (j3 k h hk)
     ·exact h,by rw[<-j4];exact hv⟩
   ·exact .inr ⟨fun k hk _=>j1 k hk,by rw[<-j2];exact hv⟩
 have d9:∀(fuel:Nat) (listed:Array Bool) φ1 a1 w1,listed.toList.count false<=fuel->listed.getD N false=true->Inv P GL B ops s.M.hide st ld N (MF P GL B s.M.hide st ld N bf c1) (bf::L0) φ {w with drawn:=w.drawn+1} a listed φ1 a1 w1->wpAnyIn (RO ro) 0 P .any ops Q fuel listed a1 w1:=by
  intro fuel;induction fuel with
  |zero=>
   intro listed φ1 a1 w1 hc hNl I
   have a6:∀j,j<ops.size->listed.getD j false=true:=fun j hj=>by
    have c3:j<listed.size:=by rw[I.size];exact hj
    have h0:listed.toList.count false=0:=by omega
    have:=List.count_eq_zero.1 h0;cases hb:listed[j]
    ·exact absurd (by rw[<-hb];simp) this
    ·simp [c3,hb]
   refine⟨?_,d1 listed φ1 a1 w1 (fun j hj=>a6 j (by omega)) I⟩
   rw[List.eq_nil_iff_forall_not_mem]
   intro j hj
   obtain⟨h1,o,ho,_⟩:=mem_ready.1 hj
   have d5:=(Array.getElem?_eq_some_iff.1 ho).1
   have c3:j<listed.size:=by rw[I.size];exact d5
   have h2:=a6 j d5
   simp [c3] at h1 h2
   rw[h1] at h2;cases h2
  |succ fuel ih=>
   intro listed φ1 a1 w1 hc hNl I
   refine⟨fun hr=>d1 listed φ1 a1 w1 (fun j hj=>xD a7 I.size hr (j+1) j (by omega) (by omega)) I,fun i hi=>?_⟩
   obtain⟨h1,o,ho,b5⟩:=mem_ready.1 hi
   have hi':=(Array.getElem?_eq_some_iff.1 ho).1
   have b6:i<listed.size:=by rw[I.size];exact hi'
   have b8:listed.getD i false=false:=by simpa [b6] using h1
   have c0:i<N:=by
    rcases Nat.lt_or_ge i N with h|h
    ·exact h
    ·have:i=N:=by omega
     subst this;rw[b8] at hNl;cases hNl
   refine I.stepF d7 (by omega) c0 hN hC hA a7 R a5 a9 (fun t ht=>List.mem_cons_of_mem _ ht) b4 c7 e6 (fun o' ho'=>?_) hi fun φ2 a2 w2 I2=>ih _ φ2 a2 w2 ?_ ?_ I2
   ·rcases b9 i o' c0 ho' with h|h
    ·have:=oL a7 I.closed (N+1) N (by omega) f hf (I.closed N f hNl hf) d hd i h;rw[b8] at this;cases this
    ·exact h
   ·have:=yX (l:=listed.toList) (i:=i) (by simpa [b6] using h1);simp only [Array.toList_setIfInBounds];omega
   ·rw[iT b6,hNl];simp
 have go:∀(fuel:Nat) (listed:Array Bool) φ1 a1 w1,listed.toList.count false<=fuel->listed.getD N false=false->Inv P GL B ops s.M.hide st ld N (Pn P GL B ops s.M.hide st ld N) (bf::L0) φ {w with drawn:=w.drawn+1} a listed φ1 a1 w1->wpAnyIn (RO ro) 0 P .any ops Q fuel listed a1 w1:=by
  intro fuel;induction fuel with
  |zero=>
   intro listed φ1 a1 w1 hc hNl I
   exfalso
   have c3:N<listed.size:=by rw[I.size];omega
   have h0:listed.toList.count false=0:=by omega
   have:=List.count_eq_zero.1 h0
   have hb:listed[N]=false:=by simpa [c3] using hNl
   exact absurd (by rw[<-hb];simp) this
  |succ fuel ih=>
   intro listed φ1 a1 w1 hc hNl I
   refine⟨fun hr=>?_,fun i hi=>?_⟩
   ·have:=xD a7 I.size hr (N+1) N (by omega) (by omega);rw[hNl] at this;cases this
   ·obtain⟨h1,o,ho,b5⟩:=mem_ready.1 hi;have hi':=(Array.getElem?_eq_some_iff.1 ho).1;have b6:i<listed.size:=by rw[I.size];exact hi'
    have hcnt:=yX (l:=listed.toList) (i:=i) (by simpa [b6] using h1);by_cases c0:i=N
    ·subst c0;refine I.last d7 e2 hN hC hA a7 R a5 hf e8 e7 e9 hx hy d3 d8 b7 b4 c7 (List.mem_cons_self ..) c9 hi fun φ2 a2 w2 I2=>d9 _ _ φ2 a2 w2 ?_ ?_ I2
     ·simp only [Array.toList_setIfInBounds];omega
     ·rw[iT b6];simp
    ·refine I.step (by omega) (by omega) hN hC hA a7 R a5 a9 (fun t ht=>List.mem_cons_of_mem _ ht) e3 hi fun φ2 a2 w2 I2=>ih _ φ2 a2 w2 ?_ ?_ I2
     ·simp only [Array.toList_setIfInBounds];omega
     ·rw[iT b6,hNl];simp [show¬N=i from fun h=>c0 h.symm]
 refine wpIn_region_any hm (go ops.size (Array.replicate ops.size false) φ a _ (by simp) (by simp [show N<ops.size by omega]) ?_)
 have b8:∀j,(Array.replicate ops.size false).getD j false=false:=fun j=>by
  by_cases hj:j<ops.size<;>simp [hj]
 refine⟨by simp,fun k o hD=>(by rw[b8] at hD;cases hD),by rw[a0];exact hT.1,fun t v hs=>?_,⟨0,Gi (st:=st) (ld:=ld) (h0:=s.M.hide) (N:=N) b8 ?_⟩,fun j hj _ id h1 h2=>?_,fun _ _=>rfl,Fr.refl _ _ _ _,fun id e h1 h2 he=>?_,rfl⟩
 ·rcases hs with⟨j,_,hD,_⟩|⟨_,hv⟩
  ·rw[b8] at hD;cases hD
  ·rw[a0] at hv;exact hT.2 t v hv
 ·refine(hR.same c6).sub (fun id b hb=>?_) a5;obtain⟨a1,a2,a3,a4⟩:=fX.1 hb;rw[a0] at a1 a4;exact bN.2 ⟨a1,a3,a4⟩
 ·refine hG id ?_ ?_
  ·rw[<-a0];exact Nat.le_trans (R.mono hA 0 j (Nat.zero_le _) (by omega)) h1
  ·exact xAf h2 (R.mono hA (j+1) N (by omega) (Nat.le_refl _))
 ·rw[hG id (by rw[<-a0];exact h1) h2] at he;cases he
theorem Ag{b:Nat}:∀{l:List Nat},eX b l=false->b∉l
 | [],_,h=>by cases h
 |x::l,h,hm=>by
  simp only [eX,Bool.or_eq_false_iff] at h;rcases List.mem_cons.1 hm with rfl|hm
  ·exact absurd h.1 (by simp)
  ·exact Ag h.2 hm
theorem Ff{ops:List Oper}{a0:List Nat}{f:Oper}(h:lE ops a0=some f):
  ∃d,ops[ops.length-1]?=some f/\a0[ops.length-1]?=some d/\f.guard=none/\f.dst=none/\uL d ops.dropLast 0=true:=by
 unfold lE at h
 split at h
 ·rename_i f' d hf hd;cases hq:(fZ f'&&f'.guard.isNone&&f'.dst.isNone&&uL d ops.dropLast 0&&(Hh d ops.dropLast 0||zL ops a0))<;>simp only [hq,cond_true,cond_false] at h
  ·cases h
  ·cases h;simp only [Bool.and_eq_true,Option.isNone_iff_eq_none] at hq;exact⟨d,hf,hd,hq.1.1.1.2,hq.1.1.2,hq.1.2⟩
 ·cases h
theorem Pp(hN:eJ P)(hm:P.follows .mixedOrders=true)(hC:kC P GL B callF)(hA:bW callF){id:Nat}{s s':St}{φ:dX}{a:Act}{w:World}(hl:kY ops=true){f:Oper}(a7:lE ops.toList (bK ops.toList [])=some f)
  (h:Bz P GL callF ops f s=some s') (hR:hI P GL B φ s.M w) (hG:jP φ s.M s'.M) (hT:gO φ s.T s.n a.tmps) {Q:Exit->Act->World->Prop}
  (hk:∀L φ' a' w',s'.M.log=L++s.M.log->Post P GL B φ φ' s.M s'.M L w w'->gO φ' s'.T s'.n a'.tmps->a'.defers=a.defers->Q .normal a' w'):(Code.region id ops true).wpIn (RO ro) 0 P Q a w:=by
 obtain⟨d,hf,hd,b8,b7,a2⟩:=Ff a7
 unfold Bz at h
 split at h
 ·rename_i s1 S h1;cases hp:bZ S s1.M.log<;>simp only [hp,cond_true,cond_false] at h
  ·cases h
  ·obtain⟨t,x,y,ad,v,M2,b9,hx,hy,b2,a8,b6,rfl⟩:=Kg h;have hsz:0<ops.size:=by
    have:=(xAg.1 hf).1;simp at this;omega
   have a1:ops.toList.dropLast.length=ops.size-1:=by simp
   obtain⟨g1,_,st,ld,e1,_,e3,e4⟩:=mB (P:=P) (GL:=GL) (ops:=ops) hA ops.toList.dropLast 0 [] [] (fK s) s1 (fun _=>fK s) (fun _=>0) (fun j hj=>by
    rw[a1] at hj;rw[List.getElem?_dropLast,if_pos (by simp;omega)];simp) h1 rfl (fun d hd=>by cases hd) (fun m hm=>absurd hm (Nat.not_lt_zero _))
   rw[a1] at e4;rw[Nat.zero_add,a1] at e3;have a0:st 0=fK s:=e1 0 (Nat.le_refl _);have R:sU P GL callF ops (bK ops.toList []) (fK s).M.hide (fun _ a=>a.block∈S) st ld (ops.size-1):=⟨fun j hj=>e4 j (Nat.zero_le _) (by omega),by rw[a0]⟩;obtain⟨b0,b1,c0,b3,a3⟩:=kF b2;have a9:ad.block∉s1.M.log:=Ag b6;have b4:ad.block<(st 0).M.next:=by rw[a0];exact a8
   have a4:=R.still hA b4 (by rw[e3];exact a9);subst b3
   refine Wt (by simp [mI,a7]) (s:=fK s) (N:=ops.size-1) (bf:=ad.block) (c1:=b1) (d:=d) (L0:=s1.M.log) hN hm hC hA hl (by omega) (f:=f) (by simpa using hf) b8 b7 b9 (by rw[e3];exact hx) (by rw[e3];exact hy) rfl (by rw[e3];exact b2) a8 (fun M2 b a5 b5=>?_) (by simpa using hd) (fun i o hi ho=>?_) (by rw[e3];show s1.M.log=s1.M.log++ [];simp) a9 a0 R (Je.of_block fun b hb=>?_) a4
    (hI.congr (M1:=s.M) (M2:=(fK s).M) (fun _=>rfl) rfl hR) (fun id h1 h2=>hG id h1 (by rw[e3] at h2;exact h2)) hT fun L φ' a' w' q1 q2 q3 q4=>?_
   ·rw[e3,c0] at a5;cases a5;exact a3 M2 b5
   ·have:=xL a2 i o (by
     rw[List.getElem?_dropLast,if_pos (by simp;omega)];simpa using ho)
    rwa [Nat.zero_add] at this
   ·have a6:b<(st 0).M.next:=by
     rw[a0];rcases g1 b hb with h|h
     ·cases h
     ·exact h
    exact⟨a6,R.still hA a6 (by rw[e3];exact tJ hp b hb)⟩
   ·rw[e3] at q1 q2 q3;refine hk L φ' a' w' ?_ (Post.congr (M1:=(fK s).M) (M2:=s.M) (M1':=s1.M.put ad.block (some b1)) rfl (fun _=>rfl) rfl q2) q3 q4;show(s1.M.put ad.block (some b1)).log++s.M.log=L++s.M.log;rw[q1];show(L++ [])++s.M.log=_;simp
 ·cases h
theorem Pq(hN:eJ P)(hm:P.follows .mixedOrders=true)(hC:kC P GL B callF)(hA:bW callF){id:Nat}{s s':St}{φ:dX}{a:Act}{w:World}(hl:kY ops=true)
  (h:oV P GL callF ops s=some s') (hR:hI P GL B φ s.M w) (hG:jP φ s.M s'.M) (hT:gO φ s.T s.n a.tmps) {Q:Exit->Act->World->Prop}
  (hk:∀L φ' a' w',s'.M.log=L++s.M.log->Post P GL B φ φ' s.M s'.M L w w'->gO φ' s'.T s'.n a'.tmps->a'.defers=a.defers->Q .normal a' w'):(Code.region id ops true).wpIn (RO ro) 0 P Q a w:=by
 unfold oV at h
 split at h
 ·rename_i f hlf;exact Pp hN hm hC hA hl hlf h hR hG hT hk
 ·exact Mk hN hm hC hA hl h hR hG hT hk
end Go.Am
end

noncomputable section
namespace Go.Am
open Go
variable{ro:Option Nat}
variable{P:Program}{GL:List Nat}{B:Bd}
def Sq:cT->Exit
 | .normal=> .normal
 | .exit id=> .exit id
 | .ret=> .ret
 | .goto l=> .goto l
def tD(P:Program)(GL:List Nat)(B:Bd)(s s':St)(e:cT)(X:(Exit->Act->World->Prop)->Act->World->Prop):Prop:=
 ∀φ a w Q,hI P GL B φ s.M w->jP φ s.M s'.M->gO φ s.T s.n a.tmps->
  (∀L φ' a' w',s'.M.log=L++s.M.log->Post P GL B φ φ' s.M s'.M L w w'->gO φ' s'.T s'.n a'.tmps->a'.defers=a.defers->Q (Sq e) a' w')->X Q a w
structure Bt(ro:Option Nat)(P:Program)(GL:List Nat)(B:Bd)(ih:Code->St->Option (cT×St)):Prop where
 abs:∀c s e s',ih c s=some (e,s')->∃L,mA s.M s'.M L
 run:∀c s e s',ih c s=some (e,s')->tD P GL B s s' e fun Q a w=>c.wpIn (RO ro) 0 P Q a w
 loop:∀b s e s',ih (.loop b) s=some (e,s')->∃n,tD P GL B s s' e fun Q a w=>Code.roundsIn (RO ro) 0 P b Q n a w
theorem tD.trans{s s1 s2:St}{e:cT}{X Y:(Exit->Act->World->Prop)->Act->World->Prop}(hn:s1.M.next<=s2.M.next)(h:tD P GL B s s1 .normal X)(k:tD P GL B s1 s2 e Y)
  {Z:(Exit->Act->World->Prop)->Act->World->Prop} (hz:∀Q a w,X (Exit.then (fun a w=>Y Q a w) Q) a w->Z Q a w):tD P GL B s s2 e Z:=by
 intro φ a w Q hR hG hT hk
 refine hz Q a w (h φ a w _ hR (hG.sub hn) hT fun L1 φ1 a1 w1 a0 a4 a5 a7=>?_)
 show Y Q a1 w1
 refine k φ1 a1 w1 Q a4.rel (a4.good hG) a5 fun L2 φ2 a2 w2 a3 a9 a6 a8=>?_
 exact hk (L2++L1) φ2 a2 w2 (by rw[a3,a0,List.append_assoc]) (a4.trans a9) a6 (a8.trans a7)
theorem vS{ih:Code->St->Option (cT×St)}(h:∀c s e s',ih c s=some (e,s')->∃L,mA s.M s'.M L):bW (mV P ih):=by
 intro f args M v M' hc;unfold mV at hc;split at hc
 ·split at hc
  ·rename_i c _;generalize Nat.ble _ _=q at hc;cases q<;>simp only [cond_true,cond_false] at hc
   ·simp at hc
   ·split at hc
    ·rename_i s hr;split at hc
     ·simp at hc;obtain⟨_,rfl⟩:=hc;exact h _ _ _ _ hr
     ·simp at hc
    ·rename_i s hr;split at hc
     ·simp at hc;obtain⟨_,rfl⟩:=hc;exact h _ _ _ _ hr
     ·simp at hc
    ·simp at hc
  ·simp at hc
 ·simp at hc
theorem Ge:∀(l:List Value) (i:Nat) (T:Tr Value) (t:Nat),(mR l i T).get t=if i<=t/\t<i+l.length then l[t-i]? else T.get t
 | [],i,T,t=>by simp [mR];intro h1 h2;omega
 |v::l,i,T,t=>by
  simp only [mR];rw[Ge l (i+1),Tr.get_set];simp only [List.length_cons];by_cases h:t=i
  ·subst h;simp;intro h1;omega
  ·by_cases h2:i+1<=t/\t<i+1+l.length
   ·rw[if_pos h2,if_pos (by omega),show t-i=(t-(i+1))+1 by omega];simp
   ·rw[if_neg h2,if_neg h,if_neg (by omega)]
theorem Qi{φ:dX}{args:List Value}{args':Array Value}(h:cE φ args args'.toList){n:Nat}(hn:args.length<=n):gO φ (mR args 0 .nil) n (args'++Array.replicate (n-args'.size) undef):=by
 have hl:=h.length;simp only [Array.length_toList] at hl;refine⟨by simp;omega,fun t v hv=>?_⟩;rw[Ge] at hv;by_cases ht:0<=t/\t<0+args.length
 ·rw[if_pos ht] at hv;obtain⟨v',h1,h2⟩:=h.get (by simpa using hv);exact⟨v',by rw[Array.getElem?_append_left (by omega)];simpa using h1,h2⟩
 ·rw[if_neg ht] at hv;simp [Tr.get] at hv
def Rb(tmps:Array Value):ResultVar->Sem Value
 | .tmp t=>pure (tmps.getD t undef)
 | .cell x t=>do loadVar t (<-asAddr (tmps.getD x undef))
theorem Ec(fn:Func)(tmps:Array Value):results fn tmps=(do
  let vs<-fn.results.mapM (Rb tmps)
  pure (if h:vs.size=1 then vs[0] else .tuple vs)):=by
 unfold results
 congr 1
theorem Oh{φ:dX}{s:St}{a:Act}{w:World}(hR:hI P GL B φ s.M w)(hT:gO φ s.T s.n a.tmps){r:ResultVar}{v:Value}(h:Js P s r=some v):
  ∃v',(Rb a.tmps r).run P w= .ok v' w/\bH φ v v':=by
 unfold Js at h
 split at h
 ·rename_i t;obtain⟨v',h1,h2⟩:=hT.2 _ _ h;exact⟨v',by simp [Rb,Array.getD_eq_getD_getElem?,h1],h2⟩
 ·rename_i x t;split at h
  ·rename_i ad hx;obtain⟨v',h1,h2⟩:=hT.2 _ _ hx;obtain⟨ad',rfl,_⟩:=h2.ptr_inv;obtain⟨u,e1,e2⟩:=Di hR h2 h;refine⟨u,?_,e2⟩;simp only [Instr.loadAt,Instr.sureAddr,Sem.run_bind,Sem.run_pure,Result.andThen_ok] at e1;simp [Rb,Array.getD_eq_getD_getElem?,h1,asAddr,e1]
  ·simp at h
theorem Eb{φ:dX}{s:St}{a:Act}{w:World}(hR:hI P GL B φ s.M w)(hT:gO φ s.T s.n a.tmps):∀{l:List ResultVar} {vs:List Value},Ac P s l=some vs->
  ∃a0:List Value,(l.mapM (Rb a.tmps)).run P w= .ok a0 w/\cE φ vs a0
 | [],vs,h=>by simp [Ac] at h;subst h;exact⟨[],by simp,.nil⟩
 |r::l,vs,h=>by
  simp only [Ac] at h;split at h
  ·rename_i v vs1 h1 h2;simp at h;subst h;obtain⟨v',e1,e2⟩:=Oh hR hT h1;obtain⟨a0,e3,e4⟩:=Eb hR hT h2;refine⟨v'::a0,?_,.cons e2 e4⟩;rw[List.mapM_cons];simp only [Sem.run_bind];rw[e1];simp only [Result.andThen_ok,e3,Sem.run_pure]
  ·simp at h
theorem Fk{φ:dX}{s:St}{a:Act}{w:World}(hR:hI P GL B φ s.M w)(hT:gO φ s.T s.n a.tmps){fn:Func}{v:Value}(h:mD P fn s=some v):
  ∃v',(results fn a.tmps).run P w= .ok v' w/\bH φ v v':=by
 unfold mD at h
 have hm:∀vs,Ac P s fn.results.toList=some vs->∃a0:List Value,(fn.results.mapM (Rb a.tmps)).run P w= .ok a0.toArray w/\cE φ vs a0:=fun vs hvs=>by
  obtain⟨a0,e1,e2⟩:=Eb hR hT hvs;refine⟨a0,?_,e2⟩;rw[Array.mapM_eq_mapM_toList];simp only [Sem.run_map,e1,Result.andThen_ok]
 split at h
 ·rename_i u hu;simp at h;subst h;obtain⟨a0,e1,e2⟩:=hm _ hu;cases e2 with
  |cons e2 e3=>
   cases e3
   rename_i u'
   refine⟨u',?_,e2⟩
   rw[Ec,Sem.run_bind,e1]
   simp
 ·rename_i vs hne hu;simp at h;subst h;obtain⟨a0,e1,e2⟩:=hm _ hu;refine⟨.tuple a0.toArray,?_,bH.tuple' e2⟩;rw[Ec,Sem.run_bind,e1];have hl:=e2.length;have:¬a0.toArray.size=1:=by
   intro hx;have a1:vs.length=1:=by simpa [hl] using hx
   match vs,a1 with
   | [x],_=>exact hne x rfl
  simp only [Result.andThen_ok,this,dite_false,Sem.run_pure]
 ·simp at h
theorem Ft{ih:Code->St->Option (cT×St)}(hN:eJ P)(h:Bt none P GL B ih):kC P GL B (mV P ih):=by
 intro f args M v M' hc;obtain⟨L0,a0⟩:=vS (P:=P) h.abs f args M v M' hc;refine⟨a0.hide,fun φ w hR hG args' ha=>?_⟩;unfold mV at hc;split at hc
 ·rename_i fn hf;split at hc
  ·rename_i c hb;cases hq:Nat.ble args.length fn.ntmps<;>simp only [hq,cond_true,cond_false] at hc
   ·simp at hc
   ·have a1:args.length<=fn.ntmps:=xAd hq;have a3:∀(e:cT) (s:St),(e= .normal\/e= .ret)->ih c ⟨mR args 0 .nil,fn.ntmps,M⟩=some (e,s)->mD P fn s=some v->s.M=M'->
      sX P φ f args' w fun e w'=>∃L φ' v',e= .returned v'/\M'.log=L++M.log/\Post P GL B φ φ' M M' L w w'/\bH φ' v v':=fun e s he hr hres hM=>by
     subst hM
     have a4:f<YB:=xAf (Array.getElem?_eq_some_iff.1 hf).1 hN.1
     refine⟨fun _=>?_,fun r en h1=>absurd a4 (by rw[h1];exact Nat.not_lt.2 (Nat.le_add_right _ _))⟩
     refine calls_of_wp hf hb (wpIn_wide.1<|h.run _ _ _ _ hr φ _ w _ hR hG (Qi ha a1) fun L φ' a' w' hlog hp hT hd=>?_)
     obtain⟨v',e1,e2⟩:=Fk hp.rel hT hres
     rcases he with rfl|rfl<;>exact⟨hd,v',e1,L,φ',v',rfl,hlog,hp,e2⟩
    split at hc
    ·rename_i s hr;split at hc
     ·rename_i v1 a2;simp at hc;obtain⟨rfl,hM⟩:=hc;exact a3 _ s (.inl rfl) hr a2 hM
     ·simp at hc
    ·rename_i s hr;split at hc
     ·rename_i v1 a2;simp at hc;obtain⟨rfl,hM⟩:=hc;exact a3 _ s (.inr rfl) hr a2 hM
     ·simp at hc
    ·simp at hc
  ·simp at hc
 ·simp at hc
structure cS(P:Program)(GL:List Nat)(B:Bd)(SP:dC):Prop where
 abs:∀f g,SP.calls f=some g->∀args M v M',g args M=some (v,M')->∃L,mA M M' L
 blkAbs:∀id g,SP.blocks id=some g->∀b s e s',g b s=some (e,s')->∃L,mA s.M s'.M L
 blkRun:∀id g,SP.blocks id=some g->∀b s e s',g b s=some (e,s')->tD P GL B s s' e fun Q a w=>(Code.block id b).wp P Q a w
 run:∀f g,SP.calls f=some g->∀args M v M',g args M=some (v,M')->∀φ w,hI P GL B φ M w->jP φ M M'->∀args':Array Value,cE φ args args'.toList->
  sX P φ f args' w fun e w'=>∃L φ' v',e= .returned v'/\M'.log=L++M.log/\Post P GL B φ φ' M M' L w w'/\bH φ' v v'
theorem cS.none:cS P GL B Bp:=⟨fun f g h=>(by cases h),fun f g h=>(by cases h),fun f g h=>(by cases h),fun f g h=>(by cases h)⟩
theorem yI{SP:dC}{callF:dD}(hS:cS P GL B SP)(h:bW callF):bW (fV SP callF):=by
 intro f args M v M' hc;unfold fV at hc;split at hc
 ·rename_i g hg;exact hS.abs f g hg args M v M' hc
 ·exact h f args M v M' hc
theorem Mb{SP:dC}{callF:dD}(hS:cS P GL B SP)(h:kC P GL B callF):kC P GL B (fV SP callF):=by
 intro f args M v M' hc;unfold fV at hc;split at hc
 ·rename_i g hg;obtain⟨L,hL⟩:=hS.abs f g hg args M v M' hc;exact⟨hL.hide,hS.run f g hg args M v M' hc⟩
 ·exact h f args M v M' hc
theorem Lw{b:Frame}{a:Act}{k:List Item}{cs:List Frame}{w:World}{c:Code}:step P (lone (b.atR a (.code (.scope c)::k)) cs w)= .next (lone (b.atR a (.code c:: .inScope c::k)) cs w):=
 step_lone_go (by simp [stepG,stepG.exec,Frame.atR])
theorem Fo{b:Frame}{a:Act}{k:List Item}{cs:List Frame}{w:World}{c:Code}:step P (lone (b.atR a (.inScope c::k)) cs w)= .next (lone (b.atR a k) cs w):=
 step_lone_go (by simp [stepG,stepG.exec,Frame.atR])
theorem Wr(ro:Option Nat)(n:Nat):(RO ro).room n:=fun _ h=>by simp [RO,Fence.wide] at h
theorem Ot(ro:Option Nat){fr:Frame}{cs:List Frame}{w:World}:(lone fr cs w).fenced P (RO ro):=fenced_wide P _
def wpS(ro:Option Nat)(P:Program)(c d:Code)(Q:Exit->Act->World->Prop)(a:Act)(w:World):Prop:=
 ∀(b:Frame) k cs,b.roundOf=ro->∃e a' w',Q e a' w'/\ArrivesIn (Machine.fenced P (RO ro)) P (lone (b.atR a (.code d:: .inScope c::k)) cs w) b k cs e a' w'
def Exit.into(ro:Option Nat)(P:Program)(c:Code)(Q:Exit->Act->World->Prop):Exit->Act->World->Prop
 | .goto l,a,w=>match findLabel c l with
  |some rest=>wpS ro P c rest Q a w
  |none=>Q (.goto l) a w
 |e,a,w=>Q e a w
theorem Oo{c d:Code}{Q:Exit->Act->World->Prop}{a:Act}{w:World}(h:d.wpIn (RO ro) 0 P (Exit.into ro P c Q) a w):wpS ro P c d Q a w:=by
 intro b k cs hro;obtain⟨e,a₁,w₁,hq,a0⟩:=h b (.inScope c::k) cs hro trivial (Wr _ _);cases e with
 |normal=>exact⟨.normal,a₁,w₁,hq,StepsIn.trans a0 (.one (Ot ro) Fo)⟩
 |exit id=>exact⟨.exit id,a₁,w₁,hq,fun k' hk=>a0.1 k' (by simp [exitTo,hk]),fun hr hk=>a0.2 hr (by simp [exitTo,hk])⟩
 |goto l=>
  simp only [Exit.into] at hq
  split at hq
  ·rename_i rest hf;obtain⟨e₂,a₂,w₂,a2,a1⟩:=hq b k cs hro;exact⟨e₂,a₂,w₂,a2,.of_steps (a0.1 _ (by simp [gotoIn,hf])) a1⟩
  ·rename_i hf;exact⟨.goto l,a₁,w₁,hq,fun k' hk=>a0.1 k' (by simp [gotoIn,hf,hk]),fun hr hk=>a0.2 hr (by simp [gotoIn,hf,hk])⟩
 |ret=>exact⟨_,a₁,w₁,hq,a0⟩
 |panic ch=>exact⟨_,a₁,w₁,hq,a0⟩
 |outgrown=>exact⟨_,a₁,w₁,hq,a0⟩
theorem Mc{c:Code}{Q:Exit->Act->World->Prop}{a:Act}{w:World}(h:wpS ro P c c Q a w):(Code.scope c).wpIn (RO ro) 0 P Q a w:=by intro b k cs hro _ _;obtain⟨e,a₁,w₁,hq,harr⟩:=h b k cs hro;exact⟨e,a₁,w₁,hq,.of_steps (.one (Ot ro) Lw) harr⟩
theorem vX{ih:Code->St->Option (cT×St)}(h:∀c s e s',ih c s=some (e,s')->∃L,mA s.M s'.M L)(c:Code):∀(n:Nat) (d:Code) (s:St) (e:cT) (s':St),tL ih c n d s=some (e,s')->∃L,mA s.M s'.M L
 |0,d,s,e,s',hs=>by cases hs
 |n+1,d,s,e,s',hs=>by
  unfold tL at hs;split at hs
  ·rename_i l s1 h1;split at hs
   ·obtain⟨L1,a1⟩:=h _ _ _ _ h1;obtain⟨L2,a2⟩:=vX h c n _ _ _ _ hs;exact⟨_,a1.trans a2⟩
   ·cases hs;exact h _ _ _ _ h1
  ·exact h _ _ _ _ hs
theorem Ad{ih:Code->St->Option (cT×St)}(h:Bt ro P GL B ih)(c:Code):∀(n:Nat) (d:Code) (s:St) (e:cT) (s':St),tL ih c n d s=some (e,s')->tD P GL B s s' e fun Q a w=>wpS ro P c d Q a w
 |0,d,s,e,s',hs=>by cases hs
 |n+1,d,s,e,s',hs=>by
  unfold tL at hs;split at hs
  ·rename_i l s1 h1;split at hs
   ·rename_i rest hf;have hn:=(vX h.abs c n _ _ _ _ hs).choose_spec.next;have b0:=Ad h c n _ _ _ _ hs;intro φ a w Q hR hG hT hk;refine Oo (h.run _ _ _ _ h1 φ a w _ hR (hG.sub hn) hT fun L1 φ1 a1 w1 a0 a3 a4 a5=>?_);show Exit.into ro P c Q (.goto l) a1 w1;simp only [Exit.into,hf];refine b0 φ1 a1 w1 Q a3.rel (a3.good hG) a4 fun L2 φ2 a2 w2 a6 a9 a7 a8=>?_
    exact hk (L2++L1) φ2 a2 w2 (by rw[a6,a0,List.append_assoc]) (a3.trans a9) a7 (a8.trans a5)
   ·rename_i hf;cases hs;intro φ a w Q hR hG hT hk;refine Oo (h.run _ _ _ _ h1 φ a w _ hR hG hT fun L1 φ1 a1 w1 a0 a3 a4 a5=>?_);show Exit.into ro P c Q (.goto l) a1 w1;simp only [Exit.into,hf];exact hk L1 φ1 a1 w1 a0 a3 a4 a5
  ·rename_i r hne;intro φ a w Q hR hG hT hk;refine Oo (h.run _ _ _ _ hs φ a w _ hR hG hT fun L1 φ1 a1 w1 a0 a3 a4 a5=>?_);cases e with
   |normal=>exact hk L1 φ1 a1 w1 a0 a3 a4 a5
   |exit i=>exact hk L1 φ1 a1 w1 a0 a3 a4 a5
   |ret=>exact hk L1 φ1 a1 w1 a0 a3 a4 a5
   |goto l=>exact absurd hs (hne l s')
theorem Jv(hN:eJ P)(hm:P.follows .mixedOrders=true){SP:dC}(hS:cS P GL B SP){ih:Code->St->Option (cT×St)}(a4:ro=none\/∀id,SP.blocks id=none)(hf:Bt none P GL B ih)(h:Bt ro P GL B ih):Bt ro P GL B (qY P GL SP ih):=by
 have hC:=Mb hS (Ft hN hf);have hA:=yI (P:=P) (GL:=GL) (B:=B) hS (vS (P:=P) h.abs);have a5:∀c s e s',qY P GL SP ih c s=some (e,s')->tD P GL B s s' e fun Q a w=>c.wpIn (RO ro) 0 P Q a w:=by
  intro c s e s' hs;unfold qY at hs;split at hs
  ·simp at hs;obtain⟨rfl,rfl⟩:=hs;exact fun φ a w Q hR hG hT hk=>wpIn_skip (hk [] φ a w rfl (Post.refl hR) hT rfl)
  ·rename_i id ops draw;cases draw<;>simp only [cond_true,cond_false] at hs
   ·split at hs
    ·rename_i s1 h1;simp at hs;obtain⟨rfl,rfl⟩:=hs;intro φ a w Q hR hG hT hk;refine wpIn_region ?_;rw[List.range_eq_range'];have:=Hk (ro:=ro) (ops:=ops) hN hC hA (Q:=Q) ops.toList 0 s s1 φ a w (fun j=>by simp) h1 hR hG hT hk;simpa using this
    ·simp at hs
   ·cases hl:kY ops<;>simp only [hl,cond_true,cond_false] at hs
    ·simp at hs
    ·split at hs
     ·rename_i s1 h1;simp at hs;obtain⟨rfl,rfl⟩:=hs;intro φ a w Q hR hG hT hk;exact Pq hN hm hC hA hl h1 hR hG hT hk
     ·simp at hs
  ·rename_i x y;split at hs
   ·rename_i s1 h1;exact tD.trans (h.abs _ _ _ _ hs).choose_spec.next (h.run _ _ _ _ h1) (h.run _ _ _ _ hs) fun Q a w hx=>wpIn_seq hx
   ·rename_i r a3;cases a0:ih x s with
    |none=>rw[a0] at hs;cases hs
    |some r=>
     rw[a0] at hs
     cases hs
     intro φ a w Q hR hG hT hk
     refine wpIn_seq (h.run _ _ _ _ a0 φ a w _ hR hG hT fun L φ' a' w' h1 h2 h3 h4=>?_)
     cases e with
     |normal=>exact absurd a0 (a3 s')
     |exit i=>exact hk L φ' a' w' h1 h2 h3 h4
     |ret=>exact hk L φ' a' w' h1 h2 h3 h4
     |goto i=>exact hk L φ' a' w' h1 h2 h3 h4
  ·rename_i c x y;split at hs
   ·rename_i t hc;intro φ a w Q hR hG hT hk;have hg:Ay GL φ:=fun g hgl=>(hR.glob g hgl).2
    have:=(bO (a:=a) hg hT hc).bool_inv;refine wpIn_cond this ?_;cases t<;>exact h.run _ _ _ _ hs φ a w Q hR hG hT hk
   ·cases hs
  ·rename_i id b;split at hs
   ·rename_i g hg;rcases a4 with rfl|a4
    ·exact fun φ a w Q hR hG hT hk=>wpIn_wide.2 (hS.blkRun id g hg b s e s' hs φ a w Q hR hG hT hk)
    ·rw[a4] at hg;cases hg
   ·rename_i hg;split at hs
    ·rename_i i s1 h1;have hM:s1=s':=by
      cases hb:Nat.beq i id<;>simp only [hb,cond_true,cond_false] at hs<;>(cases hs;rfl)
     subst hM;intro φ a w Q hR hG hT hk;refine wpIn_block (h.run _ _ _ _ h1 φ a w _ hR hG hT fun L φ' a' w' q1 q2 q3 q4=>?_);cases hb:Nat.beq i id<;>simp only [hb,cond_true,cond_false] at hs
     ·cases hs;have a3:i≠id:=by intro x;simp [x] at hb
      simp only [Sq,Exit.inBlock,a3,if_false];exact hk L φ' a' w' q1 q2 q3 q4
     ·cases hs;have he:i=id:=xBa hb;simp only [Sq,Exit.inBlock,he,if_true];exact hk L φ' a' w' q1 q2 q3 q4
    ·rename_i r a3;cases a0:ih b s with
     |none=>rw[a0] at hs;cases hs
     |some r=>
      rw[a0] at hs
      cases hs
      intro φ a w Q hR hG hT hk
      refine wpIn_block (h.run _ _ _ _ a0 φ a w _ hR hG hT fun L φ' a' w' h1 h2 h3 h4=>?_)
      cases e with
      |normal=>exact hk L φ' a' w' h1 h2 h3 h4
      |exit i=>exact absurd a0 (a3 i s')
      |ret=>exact hk L φ' a' w' h1 h2 h3 h4
      |goto i=>exact hk L φ' a' w' h1 h2 h3 h4
  ·rename_i b;split at hs
   ·rename_i s1 h1;obtain⟨n,hn⟩:=h.loop _ _ _ _ hs;exact tD.trans (h.abs _ _ _ _ hs).choose_spec.next (h.run _ _ _ _ h1) hn fun Q a w hx=>wpIn_loop_rounds (n+1) hx
   ·rename_i r a3;cases a0:ih b s with
    |none=>rw[a0] at hs;cases hs
    |some r=>
     rw[a0] at hs
     cases hs
     intro φ a w Q hR hG hT hk
     refine wpIn_loop_rounds 1 (h.run _ _ _ _ a0 φ a w _ hR hG hT fun L φ' a' w' h1 h2 h3 h4=>?_)
     cases e with
     |normal=>exact absurd a0 (a3 s')
     |exit i=>exact hk L φ' a' w' h1 h2 h3 h4
     |ret=>exact hk L φ' a' w' h1 h2 h3 h4
     |goto i=>exact hk L φ' a' w' h1 h2 h3 h4
  ·simp at hs;obtain⟨rfl,rfl⟩:=hs;exact fun φ a w Q hR hG hT hk=>wpIn_exit (hk [] φ a w rfl (Post.refl hR) hT rfl)
  ·simp at hs;obtain⟨rfl,rfl⟩:=hs;exact fun φ a w Q hR hG hT hk=>wpIn_ret (hk [] φ a w rfl (Post.refl hR) hT rfl)
  ·simp at hs;obtain⟨rfl,rfl⟩:=hs;exact fun φ a w Q hR hG hT hk=>wpIn_label (hk [] φ a w rfl (Post.refl hR) hT rfl)
  ·simp at hs;obtain⟨rfl,rfl⟩:=hs;exact fun φ a w Q hR hG hT hk=>wpIn_goto (hk [] φ a w rfl (Post.refl hR) hT rfl)
  ·exact fun φ a w Q hR hG hT hk=>Mc (Ad h _ _ _ _ _ _ hs φ a w Q hR hG hT hk)
  ·cases hs
 refine⟨?_,a5,?_⟩
 ·intro c s e s' hs;unfold qY at hs;split at hs
  ·simp at hs;obtain⟨_,rfl⟩:=hs;exact⟨_,mA.refl _⟩
  ·rename_i id ops draw;cases draw<;>simp only [cond_true,cond_false] at hs
   ·split at hs
    ·rename_i s1 h1;simp at hs;obtain⟨_,rfl⟩:=hs;exact xI hA _ _ _ h1
    ·simp at hs
   ·cases hl:kY ops<;>simp only [hl,cond_true,cond_false] at hs
    ·simp at hs
    ·split at hs
     ·rename_i s1 h1;simp at hs;obtain⟨_,rfl⟩:=hs;exact Mn hA h1
     ·simp at hs
  ·split at hs
   ·rename_i s1 h1;obtain⟨L1,a1⟩:=h.abs _ _ _ _ h1;obtain⟨L2,a2⟩:=h.abs _ _ _ _ hs;exact⟨_,a1.trans a2⟩
   ·exact h.abs _ _ _ _ hs
  ·split at hs
   ·exact h.abs _ _ _ _ hs
   ·cases hs
  ·split at hs
   ·rename_i g hg;exact hS.blkAbs _ g hg _ _ _ _ hs
   ·rename_i hg;split at hs
    ·rename_i i s1 h1;generalize Nat.beq i _=q at hs;cases q<;>simp only [cond_true,cond_false] at hs;all_goals (simp at hs;obtain⟨_,rfl⟩:=hs;exact h.abs _ _ _ _ h1)
    ·exact h.abs _ _ _ _ hs
  ·split at hs
   ·rename_i s1 h1;obtain⟨L1,a1⟩:=h.abs _ _ _ _ h1;obtain⟨L2,a2⟩:=h.abs _ _ _ _ hs;exact⟨_,a1.trans a2⟩
   ·exact h.abs _ _ _ _ hs
  ·simp at hs;obtain⟨_,rfl⟩:=hs;exact⟨_,mA.refl _⟩
  ·simp at hs;obtain⟨_,rfl⟩:=hs;exact⟨_,mA.refl _⟩
  ·simp at hs;obtain⟨_,rfl⟩:=hs;exact⟨_,mA.refl _⟩
  ·simp at hs;obtain⟨_,rfl⟩:=hs;exact⟨_,mA.refl _⟩
  ·exact vX h.abs _ _ _ _ _ _ hs
  ·cases hs
 ·intro b s e s' hs;simp only [qY] at hs;split at hs
  ·rename_i s1 h1;obtain⟨n,hn⟩:=h.loop _ _ _ _ hs;exact⟨n+1,tD.trans (h.abs _ _ _ _ hs).choose_spec.next (h.run _ _ _ _ h1) hn fun Q a w hx=>hx⟩
  ·rename_i r a3;cases a0:ih b s with
   |none=>rw[a0] at hs;cases hs
   |some r=>
    rw[a0] at hs
    cases hs
    refine⟨1,fun φ a w Q hR hG hT hk=>?_⟩
    refine h.run _ _ _ _ a0 φ a w _ hR hG hT fun L φ' a' w' h1 h2 h3 h4=>?_
    cases e with
    |normal=>exact absurd a0 (a3 s')
    |exit i=>exact hk L φ' a' w' h1 h2 h3 h4
    |ret=>exact hk L φ' a' w' h1 h2 h3 h4
    |goto i=>exact hk L φ' a' w' h1 h2 h3 h4
theorem yN(hN:eJ P)(hm:P.follows .mixedOrders=true){SP:dC}(hS:cS P GL B SP)(a0:ro=none\/∀id,SP.blocks id=none):∀n,Bt none P GL B (Cb P GL SP n)/\Bt ro P GL B (Cb P GL SP n)
 |0=>⟨⟨fun c s e s' h=>(by cases h),fun c s e s' h=>(by cases h),fun b s e s' h=>(by cases h)⟩,⟨fun c s e s' h=>(by cases h),fun c s e s' h=>(by cases h),fun b s e s' h=>(by cases h)⟩⟩
 |n+1=>by
  obtain⟨h1,h2⟩:=yN hN hm hS a0 n;exact⟨Jv hN hm hS (.inl rfl) h1 h1,Jv hN hm hS a0 h1 h2⟩
structure Xx(P:Program)(GL:List Nat)(B:Bd)(ih:Code->St->Option (cT×St)):Prop where
 abs:∀c s e s',ih c s=some (e,s')->∃L,mA s.M s'.M L
 run:∀c s e s',ih c s=some (e,s')->tD P GL B s s' e fun Q a w=>c.wp P Q a w
 loop:∀b s e s',ih (.loop b) s=some (e,s')->∃n,tD P GL B s s' e fun Q a w=>Code.rounds P b Q n a w
theorem xY{b:Code}{Q:Exit->Act->World->Prop}:∀(n:Nat) (a:Act) (w:World),Code.roundsIn (RO none) 0 P b Q n a w->Code.rounds P b Q n a w
 |0,_,_,h=>h
 |n+1,a,w,h=>by
  refine(wpIn_wide (n:=0)).1 (wpIn_mono h fun e a' w' hq=>?_);cases e with
  |normal=>exact xY n a' w' hq
  |_=>exact hq
theorem tH(hN:eJ P)(hm:P.follows .mixedOrders=true){SP:dC}(hS:cS P GL B SP)(n:Nat):Xx P GL B (Cb P GL SP n):=by have h:=(yN hN hm hS (ro:=none) (.inl rfl) n).1;refine⟨h.abs,fun c s e s' hs φ a w Q hR hG hT hk=>wpIn_wide.1 (h.run c s e s' hs φ a w Q hR hG hT hk),fun b s e s' hs=>?_⟩;obtain⟨m,hm⟩:=h.loop b s e s' hs;exact⟨m,fun φ a w Q hR hG hT hk=>xY m a w (hm φ a w Q hR hG hT hk)⟩
theorem Vf(hN:eJ P)(hm:P.follows .mixedOrders=true){SP:dC}(hS:cS P GL B SP)(n:Nat):kC P GL B (arun P GL SP n):=Ft hN (yN hN hm hS (ro:=none) (.inl rfl) n).1
theorem rY(hN:eJ P)(hm:P.follows .mixedOrders=true){SP:dC}(hS:cS P GL B SP)(n:Nat){f:FuncId}{args:List Value}{M M':aB}{v:Value}(h:arun P GL SP n f args M=some (v,M')){φ:dX}{w:World}
  (hR:hI P GL B φ M w) (hG:jP φ M M') (args':Array Value) (ha:cE φ args args'.toList):
  Calls P f args' w fun e w'=>∃L φ' v',e= .returned v'/\M'.log=L++M.log/\Post P GL B φ φ' M M' L w w'/\bH φ' v v':=by
 refine((Vf hN hm hS n f args M v M' h).2 φ w hR hG args' ha).1 ?_
 unfold arun mV at h
 split at h
 ·rename_i fn hf;exact xAf (Array.getElem?_eq_some_iff.1 hf).1 hN.1
 ·cases h
theorem xG(hN:eJ P)(hm:P.follows .mixedOrders=true){SP:dC}(hS:cS P GL B SP)(n:Nat):bW (arun P GL SP n):=vS (tH hN hm hS n).abs
end Go.Am
end
