/-
  Package hier: each of its laws for every argument; no conditions. The last text states which.
-/
import Derived.Test.YtdaglldahidmbaaGAmTop
set_option linter.unusedVariables false
set_option linter.unusedSimpArgs false
noncomputable section
namespace Go.Am
open Go
variable{P:Program}{GL:List Nat}{B:Bd}{callF:cK}
inductive QG where
 |no
 |bad
 |at(d:Nat) (w:Bool)
structure QO where
 dst:Option Nat
 g:QG
 op:Op
 type:TypeId
inductive QC where
 |skip
 |plain (l:List QO)
 |free (l:List QO) (t:TypeId) (x y:Operand)
 |drawn (ops:Array Oper) (bs sl:List Nat) (lf:Option Oper)
 |seq (a b:QC)
 |cond (c:Operand) (a b:QC)
 |block (id:Nat) (b:QC)
 |loop (b:QC)
 |exit (id:Nat)
 |ret
 |label (l:Nat)
 |goto (l:Nat)
 |scope (c:QC)
 |bad
def mU(o:Oper):Nat:=
 match o.op with
 | .move _| .assign _| .pick _ _ _| .nilCheck _| .binOp _ _ _ _ _| .unOp _ _ _| .fieldAddr _ _ _| .field _ _ _| .indexAddr _ _ _| .index _ _ _| .extract _ _| .build _ _| .makeInterface _ _| .makeFunc _ _ _| .typeAssert _ _ _ _=>0
 | .load _ _=>1
 | .alloc _| .box _ _| .buildSlice _ _ _=>3
 | .call c=>(match c.callee with| .builtin .len=>0|_=>2)
 |_=>2
def tH(deps k:Nat):List (Nat×Nat)->Bool
 | []=>true
 |(i,ki)::l=>(Nat.beq ki 0||Nat.beq k 0||deps.testBit i||(Nat.beq ki 1&&(Nat.beq k 1||Nat.beq k 3)))&&tH deps k l
def oL:List Oper->List Nat->Nat->List (Nat×Nat)->Bool
 | [],_,_,_=>true
 |o::l,d::ds,i,acc=>tH d (mU o) acc&&oL l ds (i+1) ((i,mU o)::acc)
 |_::_,[],_,_=>false
def Lo{α:Type}:List α->Bool
 | []=>true
 |_=>false
def cg(ops:Array Oper)(o:Oper):QG:=
 match o.guard with
 |none=> .no
 |some (j,w)=>match(ops[j]?).bind (·.dst) with
  |some d=> .at d w
  |none=> .bad
def Uj(ops:Array Oper)(o:Oper):QO:=⟨o.dst,cg ops o,o.op,o.type⟩
def Ld(ops:Array Oper)(f:Oper):QC:=
 match f.op with
 | .store t x y=> .free (ops.toList.dropLast.map (Uj ops)) t x y
 |_=> .bad
def slOf(ops:Array Oper):List Nat:=match kE ops.toList (bD ops.toList []) with|some _=>tF ops.toList (bD ops.toList [])|none=>kH ops.toList (bD ops.toList []) ops.toList (bD ops.toList []) 0
def Vg(ops:Array Oper):QC:=bif kA ops then .drawn ops (bD ops.toList []) (slOf ops) (kE ops.toList (bD ops.toList [])) else .bad
def Mi(ops:Array Oper):QC:=
 bif kA ops&&Lo (kH ops.toList (bD ops.toList []) ops.toList (bD ops.toList []) 0) then
  match kE ops.toList (bD ops.toList []) with
  |none=>bif oL ops.toList (bD ops.toList []) 0 [] then .plain (ops.toList.map (Uj ops)) else Vg ops
  |some f=>bif oL ops.toList.dropLast (bD ops.toList []) 0 []&&Lo (tF ops.toList (bD ops.toList [])) then Ld ops f else Vg ops
 else Vg ops
def comp:Code->QC
 | .skip=> .skip
 | .region _ ops draw=>bif draw then Mi ops else .plain (ops.toList.map (Uj ops))
 | .seq a b=> .seq (comp a) (comp b)
 | .cond c a b=> .cond c (comp a) (comp b)
 | .block id b=> .block id (comp b)
 | .loop b=> .loop (comp b)
 | .exit id=> .exit id
 | .ret=> .ret
 | .label l=> .label l
 | .goto l=> .goto l
 | .scope c=> .scope (comp c)
 |_=> .bad
def Gz(g:QG)(T:Tr Value):Option Bool:=
 match g with
 | .no=>some true
 | .bad=>none
 | .at d w=>match T.get d with
  |some (.bool b)=>some (b==w)
  |some _=>some false
  |none=>none
def uK(q:QO):Oper:=⟨q.dst,q.op,q.type, "",#[],none⟩
theorem Oz{ops:Array Oper}{o:Oper}{T:Tr Value}{M:aA}:jG P GL callF (uK (Uj ops o)) T M=jG P GL callF o T M:=by
 obtain⟨dst,op,type,pos,after,guard⟩:=o
 cases op<;>rfl
theorem Lz{ops:Array Oper}{o:Oper}{T:Tr Value}:Gz (cg ops o) T=eK ops T o:=by
 unfold cg eK
 cases o.guard with
 |none=>rfl
 |some g=>
  obtain⟨j,w⟩:=g
  simp only
  cases(ops[j]?).bind (·.dst)<;>rfl
section sound
variable{cf cf':cK}(hc: ∀f a M r,cf f a M=some r->cf' f a M=some r)
include hc
end sound
theorem Ns{o:Oper}{T:Tr Value}{M M':aA}{k:Nat}{r:AR}(hq:mU o=0)(h:jG P GL callF o T M=some (k,r,M')):k=0/\M'=M/\eT P GL o T=some r:=by
 obtain⟨dst,op,type,pos,after,guard⟩:=o
 unfold jG at h
 split at h
 ·rename_i r' hr
  simp at h
  obtain⟨rfl,rfl,rfl⟩:=h
  exact⟨rfl,rfl,hr⟩
 ·rename_i h0
  clear h0
  exfalso
  replace h:eU P GL callF {dst:=dst,op:=op,type:=type,pos:=pos,after:=after,guard:=guard} T M=some (k,r,M'):=by
   split at h
   ·cases h
   ·exact h
  cases op<;>simp [mU] at hq<;>simp only [eU] at h<;>try (cases h;done)
  case call c=>
   obtain⟨callee,args,argTypes⟩:=c
   cases callee with
   |builtin b=>cases b<;>first|(cases h;done)|exact absurd hq (by simp)
   |value f=>exact absurd hq (by simp)
   |invoke x n=>exact absurd hq (by simp)
theorem Ep{o:Oper}{T:Tr Value}{M M':aA}{k:Nat}{r:AR}(hq:mU o=1)(h:jG P GL callF o T M=some (k,r,M')):k<=1/\M'=M:=by
 obtain⟨dst,op,type,pos,after,guard⟩:=o
 cases op<;>simp [mU] at hq
 case load t x=>
  have:=Of (o:=⟨dst,.load t x,type,pos,after,guard⟩) rfl h
  exact⟨this.2,this.1⟩
 case call c=>
  obtain⟨callee,args,argTypes⟩:=c
  simp only at hq
  split at hq<;>cases hq
theorem Nt{o:Oper}{T:Tr Value}{M M':aA}{k:Nat}{r:AR}(hq:mU o=3)(h:jG P GL callF o T M=some (k,r,M')):k<=1:=by
 obtain⟨dst,op,type,pos,after,guard⟩:=o
 have hm: ∀{v:Value} {M1:aA},made v M1=some (k,r,M')->k<=1:=fun h=>by
  simp only [made,Option.some.injEq,Prod.mk.injEq] at h
  omega
 unfold jG at h
 split at h
 ·simp at h
  omega
 ·rename_i h0
  clear h0
  replace h:eU P GL callF {dst:=dst,op:=op,type:=type,pos:=pos,after:=after,guard:=guard} T M=some (k,r,M'):=by
   split at h
   ·cases h
   ·exact h
  cases op<;>simp [mU] at hq
  case alloc e=>
   simp only [eU] at h
   unfold dL at h
   split at h<;>try (cases h;done)
   split at h<;>try (cases h;done)
   rename_i v _
   cases hb:(flat v&&v.cells.toList.all isCell)<;>simp only [hb,cond_true,cond_false] at h
   ·cases h
   ·exact hm h
  case box e x=>
   simp only [eU] at h
   split at h<;>try (cases h;done)
   rename_i v _
   unfold fE at h
   split at h<;>try (cases h;done)
   cases hb:(v.cells.toList.all isCell)<;>simp only [hb,cond_true,cond_false] at h
   ·cases h
   ·exact hm h
  case buildSlice t n ps=>
   simp only [eU] at h
   split at h<;>try (cases h;done)
   unfold bE at h
   split at h<;>try (cases h;done)
   split at h<;>try (cases h;done)
   split at h<;>try (cases h;done)
   generalize (flat _&&_&&_&&_&&_)=b at h
   cases b<;>simp only [cond_true,cond_false] at h
   ·cases h
   ·split at h<;>try (cases h;done)
    rename_i cs _
    cases hb:cs.all isCell<;>simp only [hb,cond_true,cond_false] at h
    ·cases h
    ·exact hm h
  case call c=>
   obtain⟨callee,args,argTypes⟩:=c
   simp only at hq
   split at hq<;>cases hq
theorem rE{deps k:Nat}: ∀{acc:List (Nat×Nat)},tH deps k acc=true-> ∀p∈acc,p.2=0\/k=0\/deps.testBit p.1=true\/(p.2=1/\(k=1\/k=3))
 | [],_,_,h=>by cases h
 |(i,ki)::l,h,p,hp=>by
  simp only [tH,Bool.and_eq_true,Bool.or_eq_true,Nat.beq_eq] at h
  rcases List.mem_cons.1 hp with rfl|hp
  ·rcases h.1 with((h|h)|h)|h
   ·exact .inl h
   ·exact .inr (.inl h)
   ·exact .inr (.inr (.inl h))
   ·exact .inr (.inr (.inr h))
  ·exact rE h.2 p hp
def Hf(dn:List jF)(acc:List (Nat×Nat)):Prop:= ∀d∈dn,∃k,(d.ix,k)∈acc/\(k=0->d.loud=0)/\(k=1->d.loud<=1/\d.lo=d.hi)
theorem Bi{deps k:Nat}(hk:k≠0){acc:List (Nat×Nat)}(ht:tH deps k acc=true): ∀{dn:List jF},Hf dn acc->aS deps dn= []
 | [],_=>rfl
 |x::dn,h=>by
  unfold aS
  have:(Nat.beq x.loud 0||deps.testBit x.ix||Nat.beq x.lo x.hi)=true:=by
   obtain⟨kx,h1,h2,h3⟩:=h x (List.mem_cons_self ..)
   rcases rE ht _ h1 with h4|h4|h4|⟨h4,_⟩
   ·simp [h2 h4]
   ·exact absurd h4 hk
   ·simp only at h4;simp [h4]
   ·simp [(h3 h4).2]
  rw[this]
  exact Bi hk ht fun d hd=>h d (List.mem_cons_of_mem _ hd)
theorem yU{deps k q:Nat}(hk:k≠0)(hq:k=1\/k=3->q<=1){acc:List (Nat×Nat)}(ht:tH deps k acc=true): ∀{dn:List jF},Hf dn acc->qU deps q dn=true
 | [],_=>rfl
 |x::dn,h=>by
  have h0:=yU hk hq ht (dn:=dn) fun d hd=>h d (List.mem_cons_of_mem _ hd)
  simp only [qU,h0,Bool.and_true,Bool.or_eq_true,Bool.and_eq_true,Nat.beq_eq]
  obtain⟨kx,h1,h2,h3⟩:=h x (List.mem_cons_self ..)
  rcases rE ht _ h1 with h4|h4|h4|⟨h4,h5⟩
  ·exact .inl (.inl (.inl (h2 h4)))
  ·exact absurd h4 hk
  ·exact .inl (.inr h4)
  ·have:=(h3 h4).1
   have:=hq h5
   rcases Nat.eq_zero_or_pos x.loud with h6|h6<;>rcases Nat.eq_zero_or_pos q with h7|h7
   ·exact .inl (.inl (.inl h6))
   ·exact .inl (.inl (.inl h6))
   ·exact .inl (.inl (.inr h7))
   ·exact .inr ⟨by omega,by omega⟩
theorem yV{deps:Nat}: ∀{dn:List jF},qU deps 0 dn=true
 | []=>rfl
 |x::dn=>by simp [qU,yV (dn:=dn)]
theorem jI(hA:bO callF){ops:Array Oper}{before:List Nat}{n0:Nat}: ∀(l:List Oper) (ds:List Nat) (i:Nat) (dn:List jF) (acc:List (Nat×Nat)) (s s':St),oL l ds i acc=true->Hf dn acc->(∀j,j<l.length->before[i+j]?=ds[j]?)->
  vQ P GL callF ops l s=some s'->oS P GL callF ops before l i dn s=some s'/\kJ P GL callF ops before [] n0 l i dn [] s=some (s',[])
 | [],ds,i,dn,acc,s,s',_,_,_,h=>by
  simp only [vQ,Option.some.injEq] at h
  subst h
  exact⟨rfl,rfl⟩
 |o::l,[],i,dn,acc,s,s',ht,_,_,_=>by simp [oL] at ht
 |o::l,d::ds,i,dn,acc,s,s',ht,ha,hb,h=>by
  simp only [oL,Bool.and_eq_true] at ht
  obtain⟨ht1,ht2⟩:=ht
  have hbd:before[i]?=some d:=by have:=hb 0 (by simp);simpa using this
  have hb': ∀j,j<l.length->before[i+1+j]?=ds[j]?:=fun j hj=>by
   have:=hb (j+1) (by simp;omega)
   rw[show i+1+j=i+(j+1) by omega];simpa using this
  have ha': ∀x:jF,x.ix=i->(mU o=0->x.loud=0)->(mU o=1->x.loud<=1/\x.lo=x.hi)->Hf (x::dn) ((i,mU o)::acc):=fun x hx h1 h2 y hy=>by
   rcases List.mem_cons.1 hy with rfl|hy
   ·exact⟨mU o,by rw[hx];exact List.mem_cons_self ..,h1,h2⟩
   ·obtain⟨k,q1,q2⟩:=ha y hy
    exact⟨k,List.mem_cons_of_mem _ q1,q2⟩
  have a2:Hf dn ((i,mU o)::acc):=fun y hy=>by
   obtain⟨k,q1,q2⟩:=ha y hy
   exact⟨k,List.mem_cons_of_mem _ q1,q2⟩
  simp only [vQ] at h
  simp only [oS,kJ,hbd]
  split at h
  ·rename_i hw
   simp only [hw]
   split at h
   ·rename_i k r M' hop
    split at h
    ·rename_i s1 hp
     by_cases hk:mU o=0
     ·obtain⟨rfl,rfl,h0⟩:=Ns hk hop
      have a0:jG P GL callF o s.T {s.M with hide:=aS d dn++s.M.hide}=some (0,r,{s.M with hide:=aS d dn++s.M.hide}):=by
       unfold jG;rw[h0]
      have a1:({s with M:={({s.M with hide:=aS d dn++s.M.hide}:aA) with hide:=s.M.hide}}:St)={s with M:=s.M}:=rfl
      have hst:nF GL [] n0 o i s.T=none:=rfl
      simp only [a0,hst,Mo yV,cond_true,a1,hp]
      exact jI hA l ds (i+1) _ _ s1 s' ht2 (ha' _ rfl (fun _=>rfl) (fun h=>by omega)) hb' h
     ·have hh:=Bi hk ht1 ha
      have hs:({s.M with hide:= []++s.M.hide}:aA)=s.M:=rfl
      have hq:mU o=1\/mU o=3->k<=1:=fun h1=>by
       rcases h1 with h1|h1
       ·exact(Ep h1 hop).1
       ·exact Nt h1 hop
      have hM:M'.hide=s.M.hide:=by obtain⟨_,L,hL,_⟩:=kZ hA hop;exact hL.hide
      have a1:({s with M:={M' with hide:=s.M.hide}}:St)={s with M:=M'}:=by rw[<-hM]
      have hst:nF GL [] n0 o i s.T=none:=rfl
      simp only [hh,hs,hop,hst,Mo (yU hk hq ht1 ha),cond_true,a1,hp]
      refine jI hA l ds (i+1) _ _ s1 s' ht2 (ha' _ rfl (fun h=>absurd h hk) (fun h1=> ?_)) hb' h
      obtain⟨q1,rfl⟩:=Ep h1 hop
      exact⟨q1,rfl⟩
    ·cases h
   ·cases h
  ·rename_i hw
   simp only [hw]
   cases hp:oQ o .skip s with
   |none=>rw[hp] at h;cases h
   |some s1=>
    rw[hp] at h
    exact jI hA l ds (i+1) _ _ s1 s' ht2 a2 hb' h
  ·cases h
theorem Et{α:Type}{l:List α}(h:Lo l=true):l= []:=by
 cases l with
 |nil=>rfl
 |cons x l=>cases h
section sound2
variable{cf cf':cK}(hc: ∀f a M r,cf f a M=some r->cf' f a M=some r)
include hc
end sound2
section exec
variable{SP:cZ}{qt:Tr QC}
end exec
def aL(P:Program)(f:FuncId):Option QC:=((P.funcs[f]?).bind (·.body)).map comp
end Go.Am
end
